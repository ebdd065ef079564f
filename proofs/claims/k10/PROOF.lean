import PyProof.Rows.All
import Wide.All
import OpenK.AllK
import Wide.FinOn
import PyProof.EqAt
import PyProof.EqKinds
import PyProof.TupleCall
import HandS.ForMost
import HandS.ExcInit
import HandS.IsInst
import HandS.Wide
import HandS.WideBits
import HandS.ExcValue
import KE.KExcIs
import KE.KExcInit
import HandS.Defaults
import HandS.HeadHook2
import HandS.HeadEnd
import HandS.Head2
import HandS.Conv
import KE.KOpsOwn
import HandS.OwnEq
import HandS.Property
import HandS.ClsMeth
import HandS.Gcd
import HandS.MakeKw
import HandS.Star
import HandS.MethStar
import PyProof.InstNe
import HandS.Flow
import HandS.Head3
import HandS.TryMany
import HandS.ExcOwn
import HandS.Lambda
import HandS.Walk
import HandS.FStr
import KE.KAssignIn
import HandS.EndTab
import KE.KRevSl
import KE.KCallOwn
import KE.KFmtOwn
import PyProof.InstSpecial
import HandS.HotCalls
import PyProof.ReprNest
import PyProof.ReprRoads
import HandS.More
import HandS.ExcCtx
import HandS.Comp
import KE.KAsSuite
import HandS.Small
import HandS.WordsExc
import HandS.FStrTup
import HandS.TupLe
import PyProof.StrLaws
import PySem.Challenge.RW_fademodes_k10_whole_ratios
set_option Elab.async false
set_option linter.all false
set_option maxRecDepth 100000
set_option maxHeartbeats 4000000
namespace GL
open PySem PySem.Spec PyProof.Rows L2

/-! ### promises that hold where no container is being shown -/
structure FnG (P : Program) (w : World) (K : PySem.W.Frag) (mg : Str → Option Value) (base : Heap) (CX : CXT) (k : Nat) (f : Addr) (fd : FuncData) (ps : List Str) (sp : Sp) : Prop where
  many : ∀ vs H Q E, sp vs H Q E → vs.length = ps.length
  go : ∀ (A : Around) (outer : List Env) (s : Shared) (H : Hp) (args : Args) (us : List Value) (vs : List V) (Q : VK) (E : XK), A.guards = some [] → Room k A →
    Env0 P w K mg base A outer s H → BindsTo s fd args (ps.zip us) → Vals vs us → sp vs H Q E → codeAny (model P w) A (.call (.ref f) args) (CR CX outer P w H s Q E) s
theorem FnG.of {P : Program} {w : World} {K : PySem.W.Frag} {mg : Str → Option Value} {base : Heap} {CX : CXT} {k : Nat} {f : Addr} {fd : FuncData} {ps : List Str} {sp : Sp} (F : FnOk P w K mg base CX k f fd ps sp) : FnG P w K mg base CX k f fd ps sp :=
  ⟨F.len, fun A outer s H args us vs Q E _ => F.run A outer s H args us vs Q E⟩

section
variable {P : Program} {w : World} {K : PySem.W.Frag} {mg : Str → Option Value} {base : Heap} {CX : CXT}
theorem FnG.ofBody {k : Nat} {f : Addr} {name qual : Str} {params : Arguments} {body : List Stmt} {scope : Scope} {dV kV doc pm cdv ct oc : Value} {an od : Option Addr} {osl : Array (Option Value)} {N ps : List Str} {sp : Sp}
    (lk : K.lookup f = some ⟨oc, od, .func (PySem.W.fnOf name qual params body scope dV kV doc pm an cdv ct), osl⟩) (hcd : PySem.W.codeIn K cdv qual = true) (S : FnScope N ps scope) (many : ∀ vs H Q E, sp vs H Q E → vs.length = ps.length)
    (hbody : ∀ (A : Around) (outer : List Env) (s : Shared) (H : Hp) (vs : List V) (Q : VK) (E : XK), A.guards = some [] → Room k (A.deeper (envOfC qual scope s.heap.objs.size f cdv)) → sp vs H Q E →
      ∃ t, PSs (cxOf CX P w K mg base N qual scope f cdv A outer s H E) body t ∧ t { nx := fun _ H' => Q .non H', rt := Q } (start N vs) H) :
    FnG P w K mg base CX (k + 1) f (PySem.W.fnOf name qual params body scope dV kV doc pm an cdv ct) ps sp := by
  constructor
  · exact many
  intro A outer s H args us vs Q E gd hr e0 hb rv hsp
  have sameLen := many _ _ _ _ hsp
  have inS : K.In s.heap := e0.mod.kin.keeps fun b o e => (e0.bs b o e).1
  have noLim : s.heap.NoLimit := e0.mod.nolimit.keeps fun b o e => (e0.bs b o e).1
  have kinds : ∀ y ∈ ps.zip us, scope.names.lookup y.1 = some .local ∨ (scope.names.lookup y.1 = some .cell ∧ ((cellsFrom (s.heap.objs.size + 1) scope.names []).lookup y.1).isSome = true) := by
    intro y hy
    have hm := (List.of_mem_zip (a := y.1) (b := y.2) hy).1
    exact (S.par y.1 hm).imp id fun q => ⟨q, PySem.W.cellsFrom_some _ _ _ (.inl q)⟩
  apply codeAny_call_function hr.depth (inS _ _ lk) rfl S.co S.gen rfl (PySem.W.codeRec_of inS hcd)
  apply hb
  apply wpAny_newFunctionEnv_cells S.kind kinds
  intro env he s1 entered
  cases he
  refine ⟨noLim.keeps entered.toInCall.keep, codeAny_func ?_⟩
  obtain ⟨t, tOk, tRun⟩ := hbody A outer s H vs Q E gd (hr.deeper _) hsp
  have atStart : Inv (cxOf CX P w K mg base N qual scope f cdv A outer s H E) [] (start N vs) H s1 := inv_start S hr.hd e0 sameLen rv entered
  refine wpAny_mono (tOk.run [] s1 (start N vs) H _ atStart tRun) (fun fl s' hs => ?_) fun e s' hs => hs
  match fl, hs with
  | .ret u, hs =>
    obtain ⟨v, σ', H', J, r, q⟩ := hs
    exact ⟨v, H', J.os, J.bare, J.base, J.hok, r, q⟩
  | .next, hs =>
    obtain ⟨σ', H', J, q⟩ := hs
    exact ⟨V.non, H', J.os, J.bare, J.base, J.hok, rfl, q⟩
  | .brk, hs =>
    obtain ⟨_, _, _, q⟩ := hs
    exact False.elim q
  | .cont, hs =>
    obtain ⟨_, _, _, q⟩ := hs
    exact False.elim q
end

section
variable {X : Cx} {CX : CXT} {k : Nat} {f : Addr} {fd : FuncData} {ps : List Str} {sp : Sp} {dvs : List V} {ds : List Value} {E : XK} {x : Str} {p pos : Pos} {e : Expr} {es : List Expr} {t : TA}
theorem FnG.call {pins : List (Addr × Obj)} {σ : L2.St} {H : Hp} {s : Shared} {Q : VK} {us : List Value} {vs : List V} (F : FnG X.prog X.w X.K X.mg X.base CX k f fd ps sp) (gd : X.A.guards = some []) (hr : Room k X.A) (hb : Binds X.K fd ps ds) (hd : Vals dvs ds)
    (hx : Passes CX X E) (I : Inv X pins σ H s) (r : Vals vs us) (h : sp (vs ++ dvs) H Q E) : wpAny (model X.prog X.w) X.A (PySem.call (.ref f) us) (EP X pins σ Q) X.xe s := by
  have all := r.append hd
  have hl : (us ++ ds).length = ps.length := all.length.symm.trans (F.many _ _ _ _ h)
  apply wpAny_call
  refine codeAny_mono (F.go X.A X.stack s H ⟨us, []⟩ (us ++ ds) (vs ++ dvs) Q E gd hr I.env0 (hb s us I.kIn hl) all h) ?_
  intro r' s' hq
  match r', hq with
  | .error er, hq => exact hx pins σ H s er s' I hq
  | .ok (.ret u), hq => exact I.after hq
  | .ok .next, hq => exact False.elim hq
  | .ok .brk, hq => exact False.elim hq
  | .ok .cont, hq => exact False.elim hq
/-- f(e, ..), f one of these defs -/
theorem pe_callG (F : FnG X.prog X.w X.K X.mg X.base CX k f fd ps sp) (gd : X.A.guards = some []) (hr : Room k X.A) (hg : Gl X x) (hm : X.mg x = some (.ref f)) (hk : PySem.W.keepIn X.K (.ref f) = true) (hb : Binds X.K fd ps ds) (hd : Vals dvs ds) (hx : Passes CX X E)
    (ha : PA X (e :: es) t) (hdb : (x == ("__debug__" : Str)) = false := by decide) (he : starEach (e :: es) X.env = (false, eval e X.env) :: starEach es X.env := by rfl) (hpl : (backTo pos (starEach es X.env)).any (·.1) = false := by rfl) :
    PE X (.Call (.Name x p) (e :: es) [] pos) (tCall sp dvs E t) := by
  constructor
  intro pins s σ H Q I h
  apply wpAny_Call_Name_kw
  refine ld_glob I hg hm ?_ hdb
  refine PySem.W.callWith_K (h₀ := X.base) I.ok.mod.kin hk (thn (ha.run pos pins s σ H _ I h) ?_) he hpl
  rintro us s1 ⟨vs, H1, I1, r, q⟩
  exact ⟨I1.kIn, F.call gd hr hb hd hx I1 r q⟩
theorem pe_callG0 (F : FnG X.prog X.w X.K X.mg X.base CX k f fd ps sp) (gd : X.A.guards = some []) (hr : Room k X.A) (hg : Gl X x) (hm : X.mg x = some (.ref f)) (hk : PySem.W.keepIn X.K (.ref f) = true) (hb : Binds X.K fd ps ds) (hd : Vals dvs ds) (hx : Passes CX X E)
    (hdb : (x == ("__debug__" : Str)) = false := by decide) : PE X (.Call (.Name x p) [] [] pos) (tCall sp dvs E tNil) := by
  constructor
  intro pins s σ H Q I h
  apply wpAny_Call_Name_kw
  refine ld_glob I hg hm ?_ hdb
  exact PySem.W.callWith_K0 I.kIn hk (F.call (us := []) gd hr hb hd hx I .nil h)
end

section
variable {P : Program} {w : World} {K : PySem.W.Frag} {mg : Str → Option Value} {base : Heap}
theorem Fun.okG {x qual : Str} {st : Stmt} {f : Addr} {fd : FuncData} {N ps : List Str} {k : Nat} {sp : Sp} (F : L2.Fun K x qual st f fd) (S : FnScope N ps (defScope st)) (many : ∀ vs H Q E, sp vs H Q E → vs.length = ps.length)
    (hbody : ∀ (cdv : Value) (A : Around) (outer : List Env) (s : Shared) (H : Hp) (vs : List V) (Q : VK) (E : XK), A.guards = some [] → Room k (A.deeper (envOfC qual (defScope st) s.heap.objs.size f cdv)) → sp vs H Q E →
      ∃ t, PSs (cxOf CX0 P w K mg base N qual (defScope st) f cdv A outer s H E).nox (defBody st) t ∧ t { nx := fun _ H' => Q .non H', rt := Q } (start N vs) H) : FnG P w K mg base CX0 (k + 1) f fd ps sp := by
  obtain ⟨oc, od, kV, doc, pm, an, cdv, ct, osl, rfl, lk, hcd⟩ := F.ex
  refine FnG.ofBody lk hcd S many ?_
  intro A outer s H vs Q E gd hr hsp
  obtain ⟨t, h, q⟩ := hbody cdv A outer s H vs Q E gd hr hsp
  exact ⟨t, h.nox, q⟩
end

/-! ### the law's call -/
theorem law_callG {P : Program} {w : World} {K : PySem.W.Frag} {mg mb : Str → Option Value} {k : Nat} {fa a : Addr} {fd : FuncData} {x : Str} {sp : Sp} {s₁ : Shared} {vs : List Value} {ns : List Int}
    (KX : K.In s₁.heap) (hns : s₁.heap.Ns mainGlobals mg) (hb : s₁.heap.Ns builtinsNs mb) (hbb : ∀ x : Str, x ≠ "__name__" → mb x = bootBuiltins x) (hlim : s₁.heap.NoLimit) (hg : s₁.gens = #[])
    (ha : s₁.heap.get? a = some { cls := .type "list", data := .seq vs.toArray }) (hi : IntsAre vs ns) (hl : ns.length ≤ sizeLine) (hr : Room k callerA)
    (F : ∀ base : Heap, K.In base → base.Ns mainGlobals mg → FnG P w K mg base CX0 k fa fd [x] sp) (hbind : ∀ (s : Shared) (u : Value), BindsTo s fd ⟨[u], []⟩ [(x, u)])
    (hsp : ∀ H : Hp, Only H → SqL K H a (ns.map V.int) → sp [.ref a] H (fun v _ => v = .bl true) E0) :
    codeAny (model P w) callerA (.call (.ref fa) ⟨[.ref a], []⟩) (fun r s' => r = .ok (.ret (.bool true)) ∧ OldK s₁.heap s'.heap ∧ s'.os = s₁.os ∧ AllBare s'.gens) s₁ := by
  have rv := vals_ints hi
  have main : ∀ H : Hp, Only H → SqL K H a (ns.map V.int) → HOk P w H s₁.heap → (∀ b u, H b = some u → b = a ∧ K.lookup a = none) →
      codeAny (model P w) callerA (.call (.ref fa) ⟨[.ref a], []⟩) (fun r s' => r = .ok (.ret (.bool true)) ∧ OldK s₁.heap s'.heap ∧ s'.os = s₁.os ∧ AllBare s'.gens) s₁ := by
    intro H only sq hok ours
    have stays : ∀ {b : Addr} {o : Obj}, s₁.heap.get? b = some o → H b = none → (hidT s₁.heap H).get? b = some o := fun e n => hidT_get e n
    have free : ∀ {b : Addr} {o : Obj} {es : Array DictEntry} {ep : Nat}, s₁.heap.get? b = some o → o.data = .dict es ep → H b = none := by
      intro b o es ep e d
      cases q : H b with
      | none => rfl
      | some u =>
        cases (ours b u q).1
        rw [ha] at e
        cases e
        cases d
    have spaces : ∀ {b : Addr} {m : Str → Option Value}, s₁.heap.Ns b m → (hidT s₁.heap H).Ns b m := fun {b m} ⟨o, es, ep, e, d, r⟩ => ⟨o, es, ep, stays e (free e d), d, r⟩
    have kin : K.In (hidT s₁.heap H) := by
      intro b o e
      refine stays (KX b o e) ?_
      cases q : H b with
      | none => rfl
      | some u =>
        obtain ⟨rfl, z⟩ := ours b u q
        rw [z] at e
        cases e
    have md : Mod K mg (hidT s₁.heap H) := ⟨kin, spaces hns, ⟨mb, spaces hb, hbb⟩, let ⟨mc, h1, h2⟩ := hlim; ⟨mc, spaces h1, h2⟩⟩
    have nofr : ∀ b ∈ frs ([] : List Env), H b = none := fun b z => nomatch z
    have e0 : Env0 P w K mg (hidT s₁.heap H) callerA [] s₁ H := ⟨rfl, md, fun b o e => of_hidT e, Nat.le_of_eq (hidT_size _ _), trivial, nofr, hok, .of_eq hg⟩
    refine codeAny_mono ((F _ kin (spaces hns)).go callerA [] s₁ H ⟨[.ref a], []⟩ [.ref a] [.ref a] _ _ rfl hr e0 (hbind s₁ (.ref a)) (.cons rfl .nil) (hsp H only sq)) ?_
    intro r s' h
    match r, h with
    | .error e, h => exact False.elim h
    | .ok .next, h => exact False.elim h
    | .ok .brk, h => exact False.elim h
    | .ok .cont, h => exact False.elim h
    | .ok (.ret u), h =>
      obtain ⟨v, H', os, bare, un, hok', r', rfl⟩ := h
      cases (show u = Value.bool true from r')
      refine ⟨rfl, OldK.of_keep fun b o e => ?_, os, bare⟩
      cases q : H b with
      | none => exact un.keep b o e q (fun z => nomatch z) (fun z => nomatch z)
      | some u =>
        rcases only b with z | ⟨ob, xs, z⟩
        · rw [q] at z
          cases z
        · have e1 := (hok b _ z).1
          have e2 := (hok' b _ (un.frzs b ob _ z)).1
          rw [e] at e1
          cases e1
          exact e2
  cases hk : K.lookup a with
  | some o =>
    have e := KX a o hk
    rw [ha] at e
    cases e
    have none_ : ∀ b u, (fun _ => none : Hp) b = some u → b = a ∧ K.lookup a = none := fun b u z => nomatch z
    refine main (fun _ => none) (fun _ => .inl rfl) (.inr ⟨_, vs.toArray, _, hk, rfl, rfl, rfl, ?_, by simpa using rv⟩) (fun b u z => nomatch z) none_
    rw [List.size_toArray, hi.length]
    exact hl
  | none =>
    have at_ : ∀ b u, (fun b => if b = a then some (HO.frz { cls := .type "list", data := .seq vs.toArray } (.lst (ns.map V.int))) else none : Hp) b = some u → b = a ∧ u = HO.frz { cls := .type "list", data := .seq vs.toArray } (.lst (ns.map V.int)) := by
      intro b u z
      by_cases hb : b = a
      · have z' := (if_pos hb).symm.trans z
        exact ⟨hb, (Option.some.inj z').symm⟩
      · have z' := (if_neg hb).symm.trans z
        cases z'
    refine main (fun b => if b = a then some (HO.frz { cls := .type "list", data := .seq vs.toArray } (.lst (ns.map V.int))) else none) ?_ (.inl (.inr ⟨{ cls := .type "list", data := .seq vs.toArray }, if_pos rfl⟩)) ?_ ?_
    · intro b
      by_cases hb : b = a
      · exact .inr ⟨_, _, if_pos hb⟩
      · exact .inl (if_neg hb)
    · intro b u z
      obtain ⟨rfl, rfl⟩ := at_ b u z
      exact ⟨ha, by rw [List.length_map]; exact hl, vs, _, rv, ha⟩
    · intro b u z
      exact ⟨(at_ b u z).1, hk⟩

theorem walk_G {l : PySem.W.OpenLaw} {n k : Nat} {q : Program} {loose : List Str} {XP : (Str → Option Value) → Heap → Prop} {YP : World → Heap → Prop} {d : DefRec} {x : Str}
    (hn : l.most = some n) (hn2 : n ≤ sizeLine) (hdf : d.params.defaults = []) (hr : Room k callerA)
    (F : ∀ (w : World) (mg : Str → Option Value) (fa : Addr) (h : Heap), YP w h → h.Ns mainGlobals mg → mg d.name = some (.ref fa) →
      ∃ (K : PySem.W.Frag) (fd : FuncData) (sp : Sp), K.In h ∧ (∀ (s : Shared) (u : Value), BindsTo s fd ⟨[u], []⟩ [(x, u)]) ∧
        (∀ (H : Hp) (a : Addr) (ns : List Int), ns.length ≤ n → Only H → SqL K H a (ns.map V.int) → sp [.ref a] H (fun v _ => v = .bl true) E0) ∧
        ∀ base : Heap, K.In base → base.Ns mainGlobals mg → FnG l.prog w K mg base CX0 k fa fd [x] sp) :
    PySem.W.WalkO q loose XP YP l.row.toRowW d [] (fun f vs => PySem.call f vs) := by
  apply Att.attach_call hn hdf
  intro w s₀ s₁ mg mb fa o pm cd doc a vs ns G Y ho hd hcd hmg hobj hints hlen hg
  obtain ⟨K, fd, sp, KX, hb, hsp, hF⟩ := F w mg fa _ Y G.T.g hmg
  exact law_callG KX G.T.g G.T.b G.T.builtins G.T.nolimit hg hobj hints (Nat.le_trans hlen hn2) hr hF hb fun H only sq => hsp H a ns hlen only sq

/-! ### data that is read, dicts too -/
mutual
inductive Dq (K : PySem.W.Frag) (H : Hp) : V → PyData → Prop
  | non : Dq K H .non .none
  | bl (b : Bool) : Dq K H (.bl b) (.bool b)
  | int (i : Int) : Dq K H (.int i) (.int i)
  | str (x : Str) : Dq K H (.str x) (.str x)
  | lst {a : Addr} {xs : List V} {ds : List PyData} : SqL K H a xs → DqAll K H xs ds → Dq K H (.ref a) (.list ds)
  | tup {a : Addr} {xs : List V} {ds : List PyData} : SqT K H a xs → DqAll K H xs ds → Dq K H (.ref a) (.tuple ds)
  | dct {a : Addr} {kvs : List (Key × V)} {ps : List (PyData × PyData)} : H a = some (.dK kvs) → DqKv K H kvs ps → Dq K H (.ref a) (.dict ps)
inductive DqAll (K : PySem.W.Frag) (H : Hp) : List V → List PyData → Prop
  | nil : DqAll K H [] []
  | cons {v : V} {vs : List V} {d : PyData} {ds : List PyData} : Dq K H v d → DqAll K H vs ds → DqAll K H (v :: vs) (d :: ds)
inductive DqKv (K : PySem.W.Frag) (H : Hp) : List (Key × V) → List (PyData × PyData) → Prop
  | nil : DqKv K H [] []
  | consI {i : Int} {v : V} {d : PyData} {r : List (Key × V)} {ps : List (PyData × PyData)} : Dq K H v d → DqKv K H r ps → DqKv K H ((.inl i, v) :: r) ((.int i, d) :: ps)
  | consS {x : Str} {v : V} {d : PyData} {r : List (Key × V)} {ps : List (PyData × PyData)} : Dq K H v d → DqKv K H r ps → DqKv K H ((.inr x, v) :: r) ((.str x, d) :: ps)
end
end GL
set_option maxHeartbeats 4000000
namespace GL
open PySem PySem.Spec PyProof.Rows L2
/-- the written part knows the table of modules -/
def SysK (K : PySem.W.Frag) : Prop := ∃ o es ep, K.lookup sysModules = some o ∧ o.data = .dict es ep
section
variable {X : Cx} {pins : List (Addr × Obj)} {σ : L2.St} {H : Hp} {s : Shared}
theorem notSys (S : SysK X.K) (I : Inv X pins σ H s) {a : Addr} {o : Obj} {vs : Array Value} {n : Nat} (e : s.heap.get? a = some o) (d : o.data = .seq vs n) : sysModules ≠ a := by
  rintro rfl
  obtain ⟨o', es, ep, l, d'⟩ := S
  have e' := I.kIn _ _ l
  rw [e] at e'
  cases e'
  rw [d] at d'
  cases d'
theorem kvReads {h : Heap} : ∀ {kvs : List (Key × Value)} {es : List DictEntry} {P : Program} {w : World}, Pairs (mixKind P w) es kvs →
    ∀ {ps : List (PyData × PyData)} {as : List Addr}, ReadsAll h (es.map (·.val)) (ps.map (·.2)) as → (∀ i : Nat, (kvs[i]?).map (fun kv => match kv.1 with | .inl j => PyData.int j | .inr x => PyData.str x) = (ps[i]?).map (·.1)) → ReadsAll h (es.map (·.key)) (ps.map (·.1)) [] := by
  intro kvs es P w pr
  induction pr with
  | nil =>
    intro ps as r hk
    cases ps with
    | nil => exact ReadsAll.nil
    | cons p ps => cases r
  | @cons e kv es kvs hk hv _ ih =>
    intro ps as r hh
    cases ps with
    | nil => cases r
    | cons p ps =>
      have h0 := hh 0
      have rest : ∀ i : Nat, (kvs[i]?).map (fun kv => match kv.1 with | .inl j => PyData.int j | .inr x => PyData.str x) = (ps[i]?).map (·.1) := fun i => by simpa using hh (i + 1)
      obtain ⟨pk, pv⟩ := p
      obtain ⟨k, v⟩ := kv
      simp at h0
      cases r with
      | cons r1 r2 =>
        have t := ih r2 rest
        show ReadsAll h (e.key :: es.map (·.key)) (pk :: ps.map (·.1)) ([] ++ [])
        refine ReadsAll.cons ?_ t
        rcases keyIs_shape (show keyIs k e.key = true from hk) with ⟨j, u, rfl, e1⟩ | ⟨x, u, rfl, e1⟩
        · rw [e1, ← h0]
          exact Reads.int j u
        · rw [e1, ← h0]
          exact Reads.str x u
theorem pairsVals {P : Program} {w : World} : ∀ {kvs : List (Key × Value)} {es : List DictEntry}, Pairs (mixKind P w) es kvs → es.map (·.val) = kvs.map (·.2) := by
  intro kvs es pr
  induction pr with
  | nil => rfl
  | @cons e kv es kvs _ hv _ ih => rw [List.map_cons, List.map_cons, ih, hv]
theorem kvVals : ∀ {kvs : List (Key × V)} {vs : List (Key × Value)}, KV kvs vs → Vals (kvs.map (·.2)) (vs.map (·.2)) ∧ ∀ i : Nat, (vs[i]?).map (·.1) = (kvs[i]?).map (·.1)
  | _, _, .nil => ⟨.nil, fun i => by simp⟩
  | _, _, .cons r t => by
    obtain ⟨a, b⟩ := kvVals t
    refine ⟨.cons r.2 a, fun i => ?_⟩
    cases i with
    | zero => simp [r.1]
    | succ i => simpa using b i
theorem kvKeys {K : PySem.W.Frag} {H : Hp} : ∀ {kvs : List (Key × V)} {ps : List (PyData × PyData)}, DqKv K H kvs ps → ∀ i : Nat, (kvs[i]?).map (fun kv => match kv.1 with | .inl j => PyData.int j | .inr x => PyData.str x) = (ps[i]?).map (·.1) := by
  intro kvs
  induction kvs with
  | nil =>
    intro ps h i
    cases h
    rfl
  | cons kv kvs ih =>
    intro ps h i
    cases h with
    | consI a b =>
      cases i with
      | zero => rfl
      | succ i => simpa using ih b i
    | consS a b =>
      cases i with
      | zero => rfl
      | succ i => simpa using ih b i
mutual
theorem Dq.reads (S : SysK X.K) (I : Inv X pins σ H s) : ∀ {v : V} {d : PyData} {u : Value}, Dq X.K H v d → RelV v u → ∃ as, Reads s.heap u d as ∧ sysModules ∉ as
  | _, _, _, .non, r => by
    cases r
    exact ⟨_, Reads.none, List.not_mem_nil⟩
  | _, _, _, .bl b, r => by
    cases r
    exact ⟨_, Reads.bool b, List.not_mem_nil⟩
  | _, _, _, .int i, r => by
    obtain ⟨t, rfl⟩ := r
    exact ⟨_, Reads.int i t, List.not_mem_nil⟩
  | _, _, _, .str x, r => by
    obtain ⟨t, rfl⟩ := r
    exact ⟨_, Reads.str x t, List.not_mem_nil⟩
  | _, _, _, .lst hs ha, r => by
    cases r
    obtain ⟨its, rv, ⟨o, n, ho, hc, _, hd⟩, _⟩ := I.list hs
    obtain ⟨as, hr, hn⟩ := DqAll.reads S I ha rv
    exact ⟨_, Reads.list ho hc hd hr, List.not_mem_cons_of_ne_of_not_mem (notSys S I ho hd) hn⟩
  | _, _, _, .tup hs ha, r => by
    cases r
    obtain ⟨its, rv, ⟨o, ho, hc, n, hd⟩, _⟩ := I.tuple hs
    obtain ⟨as, hr, hn⟩ := DqAll.reads S I ha rv
    exact ⟨_, Reads.tuple ho hc hd hr, hn⟩
  | _, _, _, @Dq.dct _ _ a kvs ps e hk, r => by
    cases r
    obtain ⟨_, ns, vs, kv, o, es, ep, ho, ex, hd, _, pr, _⟩ := I.hok a _ e
    obtain ⟨rv, ks⟩ := kvVals kv
    obtain ⟨as, hr, hn⟩ := DqKv.reads S I hk rv
    rw [← pairsVals pr] at hr
    have kr := kvReads pr hr (fun i => by
      rw [← kvKeys hk i]
      have := ks i
      cases q : vs[i]? <;> cases q' : kvs[i]? <;> rw [q, q'] at this <;> simp at this ⊢
      rw [this])
    refine ⟨_, Reads.dict ho ex.1 hd kr hr, ?_⟩
    refine List.not_mem_cons_of_ne_of_not_mem (fun z => ?_) (by simpa using hn)
    rw [← z] at ns
    simp at ns
theorem DqAll.reads (S : SysK X.K) (I : Inv X pins σ H s) : ∀ {vs : List V} {ds : List PyData} {us : List Value}, DqAll X.K H vs ds → Vals vs us → ∃ as, ReadsAll s.heap us ds as ∧ sysModules ∉ as
  | _, _, _, .nil, r => by
    cases r
    exact ⟨_, ReadsAll.nil, List.not_mem_nil⟩
  | _, _, _, .cons h1 h2, .cons r1 r2 => by
    obtain ⟨as, q1, n1⟩ := Dq.reads S I h1 r1
    obtain ⟨bs, q2, n2⟩ := DqAll.reads S I h2 r2
    exact ⟨_, ReadsAll.cons q1 q2, by simp [n1, n2]⟩
theorem DqKv.reads (S : SysK X.K) (I : Inv X pins σ H s) : ∀ {kvs : List (Key × V)} {ps : List (PyData × PyData)} {us : List Value}, DqKv X.K H kvs ps → Vals (kvs.map (·.2)) us → ∃ as, ReadsAll s.heap us (ps.map (·.2)) as ∧ sysModules ∉ as
  | _, _, _, .nil, r => by
    cases r
    exact ⟨_, ReadsAll.nil, List.not_mem_nil⟩
  | _, _, _, .consI h1 h2, .cons r1 r2 => by
    obtain ⟨as, q1, n1⟩ := Dq.reads S I h1 r1
    obtain ⟨bs, q2, n2⟩ := DqKv.reads S I h2 r2
    exact ⟨_, ReadsAll.cons q1 q2, by simp [n1, n2]⟩
  | _, _, _, .consS h1 h2, .cons r1 r2 => by
    obtain ⟨as, q1, n1⟩ := Dq.reads S I h1 r1
    obtain ⟨bs, q2, n2⟩ := DqKv.reads S I h2 r2
    exact ⟨_, ReadsAll.cons q1 q2, by simp [n1, n2]⟩
end
end

/-! ### repr of data -/
def rRepr (K : PySem.W.Frag) : List V → Hp → VK → Prop := fun xs H Q => ∃ (a : Addr) (d : PyData), xs = [.ref a] ∧ Dq K H (.ref a) d ∧ d.showable = true ∧ d.depth ≤ 40 ∧ d.shown.length ≤ sizeLine ∧ Q (.str d.shown) H
theorem call_reprD {X : Cx} (S : SysK X.K) (gd : X.A.guards = some []) (hu : X.A.units + 64 < cLine) : CallR X (.builtin "repr") (rRepr X.K) := by
  intro pins s σ H xs us Q I r h
  obtain ⟨a, d, rfl, hd, sh, dp, sz, q⟩ := h
  cases r with
  | cons r1 r2 =>
    cases r2
    cases r1
    obtain ⟨as, rd, ns⟩ := Dq.reads S I hd rfl
    refine repr_of_reads' rd sh (fun _ => ns) gd (by omega) (fun b o e => e) (fun h' u tk keep => ?_) sz
    exact ⟨.str d.shown, H, I.kept keep, ⟨u, rfl⟩, q⟩
end GL
set_option maxHeartbeats 4000000
/-! Errors of the program as values: made by places and by names, their fields stored and read, isinstance. -/
namespace PySem
namespace GX
open PySem.W PySem.Calls PyProof.Rows PySem.HandSPX Builtin Builtin.ObjectAttr
section
variable {prog : Program} {w : World} {A : Around} {E : Value → Shared → Prop} {R : Result → Shared → Prop} {hp : Heap} {g : Array GenState} {d : Drawn} {t : Nat} {os : OsState}
variable {nm q : Str} {C N : Addr} {bs bm bmB : List Value} {hdct : Bool} {sn : List Str} {sub : List Value} {ab : Bool} {col : Option Bool} {dd : Option Addr} {k0 k1 k2 k3 k5 : Option Value} {B newId initId : String}
theorem tail_some {l : List Value} (hB : bmB.isEmpty = false) (e : excTail bmB l = true) : l.isEmpty = false := by
  cases l with
  | cons _ _ => rfl
  | nil =>
    have q : ([] : List Value) = bmB := beq_iff_eq.mp e
    rw [← q] at hB
    exact hB
/-- the way of a store at an error's object as far as the own dict -/
theorem to_own {K : W.Frag} {name : Str} {tk : Tok} {v : Value} {x : Addr} {ox : Obj} {od : Option Obj} {cd : ClassData} (SB : StoreFacts B bmB "object.__setattr__" "object") (hB : bmB.isEmpty = false) (hO : bmB.contains (.type "object") = true)
    (X : K.In hp) (I : W.InstAt hp x ox C od) (hcd : W.clsIn K C = some cd) (hm : excTail bmB cd.mro = true) (ha : W.findIn K (.ref C) name = some none)
    (h : wpAny (model prog w) A.in1 (storeInOwnDict (.ref x) (.ref C) (.str name tk) name v false)
      (fun fin s' => match fin with | .done f => R (.ok f) s' | .again c' => c'.quiet = true ∧ codeAny (model prog w) A c' R s') (fun e s' => R (.error e) s') ⟨hp, g, d, t, os⟩) :
    codeAny (model prog w) A (.call (.builtin "object.__setattr__") ⟨[.ref x, .str name tk, v], []⟩) R ⟨hp, g, d, t, os⟩ := by
  have SO := F.store_object
  have some_ := tail_some hB hm
  have obj : cd.mro.contains (.type "object") = true := (excTail_contains "object" _ hm).trans hO
  have isO : W.Looks (model prog w) hp (isInstance (.ref x) (.type "object")) true := by
    refine I.type.andThen (W.looks_mroIn X ?_)
    unfold W.mroIn
    rw [hcd, Option.bind_some, some_, obj]
    rfl
  apply codeAny_call_builtin SO.slot.plain SO.entry
  refine @W.check_slot (model prog w) _ _ ⟨hp, g, d, t, os⟩ "object.__setattr__" "object" "__setattr__" (.ref x) [.str name tk, v] [] _ SO.kind SO.split isO (SO.args (.ref x) (.str name tk) v) ?_
  have mro : W.Looks (model prog w) hp (mroOf (.ref C)) cd.mro := (W.looks_clsIn X hcd).andThen .now
  have nobody : W.Looks (model prog w) hp (storeTaker? none) none := .now
  rw [W.osa_eq, refuse_eq]
  apply wpAny_bind
  apply wpAny_bind
  apply I.type.at
  apply wpAny_bind
  apply mro.at
  rw [excTail_pass (.ref x) (SB.passes (.ref x)) _ hm]
  apply wpAny_pure
  apply wpAny_bind
  apply I.type.at
  apply wpAny_bind
  apply (W.looks_findIn X ha).at
  apply wpAny_bind
  apply nobody.at
  exact h
/-- the first field: the error gets its dict -/
theorem store_first {K : W.Frag} {name : Str} {tk : Tok} {v : Value} {x : Addr} {fv : Array Value} {cd : ClassData} (SB : StoreFacts B bmB "object.__setattr__" "object") (hB : bmB.isEmpty = false) (hO : bmB.contains (.type "object") = true)
    (X : K.In hp) (hx : hp.get? x = some { cls := .ref C, data := .fields fv }) (hcd : W.clsIn K C = some cd) (hm : excTail bmB cd.mro = true) (hh : cd.hasDict = true) (ha : W.findIn K (.ref C) name = some none)
    (hq : ∀ h' tk' dx, (∀ b o, b ≠ x → hp.get? b = some o → h'.get? b = some o) → hp.objs.size ≤ dx → dx ≠ x → h'.get? x = some { cls := .ref C, dict := some dx, data := .fields fv } →
      h'.Ns1 dx (fun y => if y = name then some v else none) → R (.ok (.ret .none)) ⟨h', g, d, tk', os⟩) :
    codeAny (model prog w) A (.call (.builtin "object.__setattr__") ⟨[.ref x, .str name tk, v], []⟩) R ⟨hp, g, d, t, os⟩ := by
  have I : W.InstAt hp x { cls := .ref C, data := .fields fv } C none := ⟨hx, rfl, rfl, trivial⟩
  have cl : W.Looks (model prog w) hp (classData C) cd := W.looks_clsIn X hcd
  have apart : x ≠ hp.objs.size := Nat.ne_of_lt (Heap.lt_size hx)
  apply to_own SB hB hO X I hcd hm ha
  rcases cd with ⟨n1, n2, n3, n4, n5, n6, n7, n8, n9, n10, n11⟩
  cases (show n6 = true from hh)
  unfold storeInOwnDict ownDictForStores
  repeat (first | with_reducible refine HandSPX.store_in_new ?_ ?_ | with_reducible refine wpAny_loadPart_at hx ?_ | with_reducible refine cl.at ?_ | wp_step)
  · exact ⟨_, #[], _, (Heap.get?_update_ne _ _ _ _ apart.symm).trans (Heap.get?_push_at rfl rfl), rfl, fun e he => absurd he (by simp), fun _ => rfl⟩
  · intro h' tk' named but
    have there : (hp.push { cls := .type "dict", data := .dict #[] }).get? x = some { cls := .ref C, data := .fields fv } := Heap.get?_push_of_some _ hx
    apply hq h' tk' hp.objs.size
    · intro b o hb ho
      rw [but.2 b (Nat.ne_of_lt (Heap.lt_size ho)), Heap.get?_update_ne _ _ _ _ hb]
      exact Heap.get?_push_of_some _ ho
    · exact Nat.le_refl _
    · exact apart.symm
    · rw [but.2 x apart]
      exact Heap.get?_update_self _ there rfl
    · exact named
/-- a further field -/
theorem store_next {K : W.Frag} {name : Str} {tk : Tok} {v : Value} {x dx : Addr} {fv : Array Value} {cd : ClassData} {m0 : Str → Option Value} {nl : List Str} (SB : StoreFacts B bmB "object.__setattr__" "object") (hB : bmB.isEmpty = false) (hO : bmB.contains (.type "object") = true)
    (X : K.In hp) (hx : hp.get? x = some { cls := .ref C, dict := some dx, data := .fields fv }) (hns : hp.Ns1 dx m0) (hw : Within m0 nl) (hz : nl.length ≤ 1000) (hcd : W.clsIn K C = some cd) (hm : excTail bmB cd.mro = true) (hh : cd.hasDict = true) (ha : W.findIn K (.ref C) name = some none)
    (hq : ∀ h' tk', (∀ b o, b ≠ dx → hp.get? b = some o → h'.get? b = some o) → h'.Ns1 dx (fun y => if y = name then some v else m0 y) → R (.ok (.ret .none)) ⟨h', g, d, tk', os⟩) :
    codeAny (model prog w) A (.call (.builtin "object.__setattr__") ⟨[.ref x, .str name tk, v], []⟩) R ⟨hp, g, d, t, os⟩ := by
  obtain ⟨oD, esD, epD, atD, isD, _⟩ := hns.count hw
  have I : W.InstAt hp x { cls := .ref C, dict := some dx, data := .fields fv } C (some oD) := ⟨hx, rfl, rfl, atD⟩
  have cl : W.Looks (model prog w) hp (classData C) cd := W.looks_clsIn X hcd
  apply to_own SB hB hO X I hcd hm ha
  rcases cd with ⟨n1, n2, n3, n4, n5, n6, n7, n8, n9, n10, n11⟩
  cases (show n6 = true from hh)
  unfold storeInOwnDict ownDictForStores
  repeat (first | with_reducible refine OEX.store_in_old hns hw hz ?_ | with_reducible refine wpAny_loadPart_at hx ?_ | with_reducible refine cl.at ?_ | wp_step)
  intro h' tk' named but
  exact hq h' tk' (fun b o hb ho => (but.2 b hb).trans ho) named

/-! ### C(.., k = ..) of an error class with an __init__ of its own -/
theorem made (FB : ExcBaseFacts B newId initId bmB) (hT : ∀ X : String, bm.contains (.type X) = bmB.contains (.type X)) {rest : List Value} {kw : List (Str × Value)} {fI : Addr}
    (hC : hp.get? C = some (excClassObj nm q C N bs bm hdct sn sub ab col dd k0 k1 k2 k3 k5 newId))
    (hi : W.Looks (model prog w) hp (typeLookup (.ref C) "__init__") (some (.ref fI))) (hb : ∀ self, W.Looks (model prog w) hp (bindSpecial (.ref fI) self) (.ref fI, [self])) (hrest : rest.length ≤ sizeLine)
    (hq : codeAny (model prog w) (A.under (.builtin "type.__call__" ⟨.ref C :: rest, kw⟩)) (.call (.ref fI) ⟨.ref (hp.objs.size + 1) :: rest, kw⟩) (W.InitBack (hp.objs.size + 1) R)
      ⟨(hp.push (W.kdv_tup rest)).push (excO C hp.objs.size), g, d, t, os⟩) :
    codeAny (model prog w) A (.call (.ref C) ⟨rest, kw⟩) R ⟨hp, g, d, t, os⟩ := by
  have f1 := tc_lookup
  have f2 := tc_bind (.ref C)
  have isC : (⟨hp, g, d, t, os⟩ : Shared).TypeIs (.ref C) "type" := ⟨_, hC, rfl⟩
  have kept : ∀ b o, hp.get? b = some o → ((hp.push (W.kdv_tup rest)).push (excO C hp.objs.size)).get? b = some o := fun b o e => Heap.get?_push_of_some _ (Heap.get?_push_of_some _ e)
  have inB : (Value.ref C :: bm).contains (.type B) = true := by rw [List.contains_cons, hT, FB.hasB, Bool.or_true]
  have noA : (Value.ref C :: bm).contains (.type "AttributeError") = false := by rw [List.contains_cons, hT, FB.noAttr]; rfl
  have noN : (Value.ref C :: bm).contains (.type "NameError") = false := by rw [List.contains_cons, hT, FB.noName]; rfl
  have inC : (Value.ref C :: bm).contains (.ref C) = true := by simp
  have ends := FB.ends
  have star := FB.noStar
  apply codeAny_of_tree
  show wpAny _ _ (callAny (.ref C) _) _ _ _
  repeat (any_goals (first | assumption | with_reducible refine wpAny_loadPart_at hC ?_ | wp_step))
  refine ⟨rfl, ?_⟩
  apply codeAny_call_builtin_at (Code.quiet_builtin _ (by decide +kernel)) entry_typeCall
  apply wpAny_check_type_call_sub hC
  repeat (first | with_reducible refine wpAny_loadPart_at hC ?_ | with_reducible refine wpAny_madeBy_exc hC ?_ | wp_step)
  apply codeAny_call_builtin_code (Code.quiet_builtin _ FB.quiet)
  simp only [checkBuiltinCall, FB.newKind, FB.newSplit, FB.newRow]
  repeat (first | refine wpAny_loadPart_at hC ?_ | (refine wpAny_isSubtype_exc hC ?_; rw [inB]) | refine wpAny_staticBase_exc hC ?_ | refine wpAny_madeBy_exc hC ?_ | simp only [bne_self_eq_false, Bool.false_eq_true, if_false] | wp_step)
  show codeAny _ _ (Code.builtin newId { pos := Value.ref C :: rest, kw := kw }) _ _
  refine codeAny_builtinAt FB.entry ?_
  unfold Builtin.«BaseException.__new__»
  apply wpAt_bind
  show wpAt _ _ _ (stack >>= _) _ _ _
  refine wpAt_bind (wpAt_stack fun p below => wpAt_of_wpAny ?_)
  wp_walk
  apply wpAt_of_wpAny
  rw [FB.owner]
  repeat (first | with_reducible refine wpAny_madeHere_exc FB.canon hC ?_ | with_reducible refine wpAny_loadPart_at hC ?_ | (with_reducible refine wpAny_isSubtype_exc hC ?_; first | rw [inB] | rw [noA] | rw [noN]) | wp_step)
  show wpAny _ _ _ _ _ _
  rw [Heap.size_push]
  have hC₁ := kept _ _ hC
  have new : ((hp.push (W.kdv_tup rest)).push (excO C hp.objs.size)).get? (hp.objs.size + 1) = some (excO C hp.objs.size) := by heap_get
  have i1 := hi.keeps kept
  have b1 := (hb (.ref (hp.objs.size + 1))).keeps kept
  show wpAny _ _ (isSubtype (.ref C) (.ref C)) _ _ ⟨(hp.push (W.kdv_tup rest)).push (excO C hp.objs.size), g, d, t, os⟩
  refine wpAny_isSubtype_exc hC₁ ?_
  rw [inC]
  repeat (first | with_reducible refine wpAny_loadPart_at new ?_ | wp_step)
  show wpAny _ _ (typeLookup (.ref C) _) _ _ _
  apply i1.at
  apply wpAny_holding
  apply wpAny_bind
  apply b1.at
  apply wpAny_bind
  apply wpAny_call
  refine codeAny_mono hq fun r s' z => ?_
  rcases r with e | (v | _ | _ | _) <;> first | exact z | exact z.elim | skip
  obtain ⟨rfl, z⟩ := z
  first
    | exact wpAny_pure (wpAny_pure z)
    | (wp_walk; exact z)
end
end GX
end PySem
set_option maxHeartbeats 4000000
namespace GL
open PySem PySem.Spec PyProof.Rows L2
/-! ### the hook: the library's facts, and any Bool over the written part, the table of modules in it -/
def kOf (n : Nat) (g : Addr → Option Obj) : PySem.W.Frag := He.frG g (sysModules :: He.asD g n)
abbrev AlX : Type := He.AlD × Bool
def obsX (n : Nat) (fa : List He.Fa) (fn : List He.DefD) (ex : PySem.W.Frag → Bool) (g : Addr → Option Obj) : AlX := (He.obsD fa fn (kOf n g), ex (kOf n g))
def hookX (n : Nat) (fa : List He.Fa) (fn : List He.DefD) (ex : PySem.W.Frag → Bool) : PySem.W.Hook where
  α := AlX
  obs := fun s => obsX n fa fn ex s.heap.get?
  val := fun _ => (He.valD fn, true)
  says := fun _ h => ∃ K : PySem.W.Frag, K.In h ∧ He.SaysD fa fn K ∧ ex K = true
  of := fun _ _ e => ⟨_, He.frG_in, congrArg (fun z : AlX => z.1) e, congrArg (fun z : AlX => z.2) e⟩
  keeps := fun _ _ _ ⟨K, hK, c⟩ k => ⟨K, PySem.W.Frag.In.keeps hK k, c⟩
theorem obsX_eq {n : Nat} {fa : List He.Fa} {fn : List He.DefD} {ex : PySem.W.Frag → Bool} {g : Addr → Option Obj} {s : Shared} (h : ∀ a, g a = s.heap.get? a) : obsX n fa fn ex g = (hookX n fa fn ex).obs s := by
  have e : g = s.heap.get? := funext h
  rw [e]
  rfl
def sysB (K : PySem.W.Frag) : Bool := match K.lookup sysModules with
  | some ⟨_, _, .dict _ _, _⟩ => true
  | _ => false
theorem sysB_ok {K : PySem.W.Frag} (h : sysB K = true) : SysK K := by
  unfold sysB at h
  cases q : K.lookup sysModules with
  | none =>
    rw [q] at h
    cases h
  | some o =>
    obtain ⟨c, dd, dt, sl⟩ := o
    rw [q] at h
    cases dt with
    | dict es ep => exact ⟨_, es, ep, q, rfl⟩
    | _ => cases h

/-! ### classes of errors -/
inductive EB where
  | ve | le | re
  deriving DecidableEq
def EB.name : EB → String
  | .ve => "ValueError"
  | .le => "LookupError"
  | .re => "RuntimeError"
def EB.new : EB → String
  | .ve => "ValueError.__new__"
  | .le => "LookupError.__new__"
  | .re => "RuntimeError.__new__"
def EB.tail (b : EB) : List Value := [.type b.name, .type "Exception", .type "BaseException", .type "object"]
theorem EB.base (b : EB) : ∃ i, ExcBaseFacts b.name b.new i b.tail := by
  cases b with
  | ve => exact ⟨_, PySem.F.excBase_ValueError⟩
  | le => exact ⟨_, PySem.F.excBase_LookupError⟩
  | re => exact ⟨_, PySem.F.excBase_RuntimeError⟩
theorem EB.store (b : EB) : StoreFacts b.name b.tail "object.__setattr__" "object" := by
  cases b with
  | ve => exact PySem.F.store_ValueError
  | le => exact PySem.F.store_LookupError
  | re => exact PySem.F.store_RuntimeError
theorem EB.obj (b : EB) : b.tail.contains (.type "object") = true := by cases b <;> decide +kernel
/-- what the written part says of a class of errors -/
structure XC (K : PySem.W.Frag) (C : Addr) (b : EB) : Prop where
  cls : ∃ nm q N bs bm sn sub ab col dd k0 k1 k2 k3 k5, K.lookup C = some (excClassObj nm q C N bs bm true sn sub ab col dd k0 k1 k2 k3 k5 b.new) ∧ PySem.W.excTail b.tail bm = true
  sa : PySem.W.findIn K (.ref C) "__setattr__" = some (some (.builtin "object.__setattr__"))
  ga : PySem.W.findIn K (.ref C) "__getattribute__" = some (some (.builtin "BaseException.__getattribute__"))
  gg : PySem.W.findIn K (.ref C) "__getattr__" = some none
  kl : PySem.W.findIn K (.ref C) "__class__" = some (some (.builtin "object.__class__"))
  exB : PySem.W.subIn K (.ref C) (.type "BaseException") = some true
  ob : PySem.W.mroIn K C (.type "object") = some true
  keep : PySem.W.keepIn K (.ref C) = true
def xcB (K : PySem.W.Frag) (C : Addr) (b : EB) : Bool :=
  (match K.lookup C with
  | some ⟨.type "type", _, .cls cd, sl⟩ => (match cd.mro, sl.toList with
    | .ref C' :: bm, [_, _, _, _, some (.builtin n), _] => C' == C && (n == b.new && (!cd.hasDel && (cd.hasDict && PySem.W.excTail b.tail bm)))
    | _, _ => false)
  | _ => false) &&
  (He.eqO (PySem.W.findIn K (.ref C) "__setattr__") (some (some (.builtin "object.__setattr__"))) && (He.eqO (PySem.W.findIn K (.ref C) "__getattribute__") (some (some (.builtin "BaseException.__getattribute__"))) &&
  (He.eqO (PySem.W.findIn K (.ref C) "__getattr__") (some none) && (He.eqO (PySem.W.findIn K (.ref C) "__class__") (some (some (.builtin "object.__class__"))) &&
  (decide (PySem.W.subIn K (.ref C) (.type "BaseException") = some true) && (decide (PySem.W.mroIn K C (.type "object") = some true) && PySem.W.keepIn K (.ref C)))))))
theorem xcB_ok {K : PySem.W.Frag} {C : Addr} {b : EB} (h : xcB K C b = true) : XC K C b := by
  obtain ⟨h0, h⟩ := He.ba h
  obtain ⟨h1, h⟩ := He.ba h
  obtain ⟨h2, h⟩ := He.ba h
  obtain ⟨h3, h⟩ := He.ba h
  obtain ⟨h4, h⟩ := He.ba h
  obtain ⟨h5, h⟩ := He.ba h
  obtain ⟨h6, h7⟩ := He.ba h
  refine ⟨?_, He.eqO_ok h1, He.eqO_ok h2, He.eqO_ok h3, He.eqO_ok h4, of_decide_eq_true h5, of_decide_eq_true h6, h7⟩
  split at h0
  · rename_i dd cd sl ho
    split at h0
    · rename_i C' bm k0 k1 k2 k3 n k5 hm hs
      simp only [Bool.and_eq_true, beq_iff_eq, Bool.not_eq_true'] at h0
      obtain ⟨rfl, rfl, e1, e2, e3⟩ := h0
      obtain ⟨nm, bs, mro, ns, qn, hd, sn, sub, ab, col, del⟩ := cd
      dsimp only at hm e1 e2
      subst hm e1 e2
      have hsl : sl = #[k0, k1, k2, k3, some (.builtin b.new), k5] := by
        obtain ⟨l⟩ := sl
        simp only at hs
        rw [hs]
      subst hsl
      exact ⟨nm, qn, ns, bs, bm, sn, sub, ab, col, dd, k0, k1, k2, k3, k5, ho, e3⟩
    · cases h0
  · cases h0
theorem XC.data {K : PySem.W.Frag} {C : Addr} {b : EB} (T : XC K C b) : ∃ cd, PySem.W.clsIn K C = some cd ∧ PySem.W.excTail b.tail cd.mro = true ∧ cd.hasDict = true := by
  obtain ⟨nm, q, N, bs, bm, sn, sub, ab, col, dd, k0, k1, k2, k3, k5, hC, hbm⟩ := T.cls
  refine ⟨{ name := nm, bases := bs, mro := .ref C :: bm, ns := N, qualname := q, hasDict := true, slotNames := sn, subclasses := sub, abstract := ab, collection := col, hasDel := false }, ?_, hbm, rfl⟩
  unfold PySem.W.clsIn
  rw [hC]

section
variable {X : Cx} {pins : List (Addr × Obj)} {σ : L2.St} {H : Hp} {s : Shared} {a C dx : Addr} {b : EB} {f : Str} {y : V} {u : Value} {fs : List (Str × V)} {Q : Unit → Shared → Prop} {E : Value → Shared → Prop} {A : Around}
theorem put_first (T : XC X.K C b) (I : Inv X pins σ H s) (e : H a = some (exo a C none)) (hno : PySem.W.findIn X.K (.ref C) f = some none) (ry : RelV y u)
    (h : ∀ dx s', H dx = none → dx ≠ a → Inv X pins σ (upd (upd H dx (exd dx [(f, y)])) a (exo a C (some dx))) s' → Q () s') : wpAny (model X.prog X.w) A (setAttr (.ref a) f u) Q E s := by
  obtain ⟨cd, hcl, tl, hd⟩ := T.data
  obtain ⟨t1, ho⟩ := exo_at I.hok e
  rcases s with ⟨hp, g, d, t, os⟩
  refine PySem.W.set_plain I.kIn (ox := { cls := .ref C, dict := none, data := .fields #[.ref t1, .none, .none, .none, .bool false, .none] }) (od := none) ⟨ho, rfl, rfl, trivial⟩ T.sa ?_
  refine PySem.GX.store_first b.store rfl b.obj I.kIn ho hcl tl hd hno (fun h' tk' dx k dn dne hx hn => ?_)
  have newD : H dx = none := I.hok.fresh dn
  have offD : ∀ {c : Addr} {o : Obj}, hp.get? c = some o → c ≠ dx := fun q => Nat.ne_of_lt (Nat.lt_of_lt_of_le (Heap.lt_size q) dn)
  have offA : ∀ {c : Addr}, H c = none → c ≠ a := by
    rintro c n rfl
    rw [e] at n
    cases n
  refine h dx _ newD dne (I.un (t' := tk') ?_ fun c o q => ?_)
  · exact {
      keep := fun c o q n _ _ => k c o (offA n) q
      slot := fun c o q n _ _ => ⟨o.slots, k c o (offA n) q⟩
      free := fun c o q n _ => by rw [upd_ne (offA n), upd_ne (offD q)]; exact n
      there := fun c o q _ => by
        by_cases hc : c = a
        · exact ⟨_, by rw [hc]; exact hx⟩
        · exact ⟨o, k c o hc q⟩
      tups := fun c xs q => by rw [upd_ne (at_ne e q exo_tup), upd_ne (ne_of_none q newD)]; exact q
      frzs := fun c o v q => by rw [upd_ne (at_ne e q exo_frz), upd_ne (ne_of_none q newD)]; exact q
      tbls := fun c ps q => ⟨#[], by rw [upd_ne (at_ne e q exo_tbl), upd_ne (ne_of_none q newD), q]; simp⟩ }
  · by_cases hc : c = a
    · subst hc
      rw [upd_same] at q
      cases q
      exact exo_ok hx
    · rw [upd_ne hc] at q
      by_cases hd : c = dx
      · subst hd
        rw [upd_same] at q
        cases q
        exact exd_ok hn (relO_put (fs := []) ry fun g => True.intro)
      · rw [upd_ne hd] at q
        refine (I.hok c o q).stay (fun c' v hc' z => k c' v ?_ z) (fun c' hc' => ?_) (fun c' xs hc' => ?_)
        · rcases hc' with hc' | hc'
          · rw [hc']
            exact hc
          · exact at_ne e hc' exo_own
        · rw [upd_ne (at_ne e hc' exo_own), upd_ne (ne_of_none hc' newD)]
          exact hc'
        · rw [upd_ne (at_ne e hc' exo_tup), upd_ne (ne_of_none hc' newD)]
          exact hc'
theorem put_next (T : XC X.K C b) (I : Inv X pins σ H s) (e : H a = some (exo a C (some dx))) (ed : H dx = some (exd dx fs)) (hl : fs.length ≤ 900) (hno : PySem.W.findIn X.K (.ref C) f = some none) (ry : RelV y u)
    (h : ∀ s', Inv X pins σ (upd H dx (exd dx ((f, y) :: fs))) s' → Q () s') : wpAny (model X.prog X.w) A (setAttr (.ref a) f u) Q E s := by
  obtain ⟨cd, hcl, tl, hd⟩ := T.data
  obtain ⟨t1, ho⟩ := exo_at I.hok e
  obtain ⟨mA, hns, rel⟩ := exd_at I.hok ed
  have hw := within_of rel
  rcases s with ⟨hp, g, d, t, os⟩
  obtain ⟨oD, _, _, hoD, _, _⟩ := hns.count hw
  refine PySem.W.set_plain I.kIn (ox := { cls := .ref C, dict := some dx, data := .fields #[.ref t1, .none, .none, .none, .bool false, .none] }) (od := some oD) ⟨ho, rfl, rfl, hoD⟩ T.sa ?_
  refine PySem.GX.store_next b.store rfl b.obj I.kIn ho hns hw (by rw [List.length_map]; omega) hcl tl hd hno (fun h' tk' k hn => ?_)
  have hd : ∃ o, h'.get? dx = some o := by
    obtain ⟨o, _, _, e', _⟩ := hn
    exact ⟨o, e'⟩
  exact h _ (I.write (t' := tk') (x := dx) (e := dx) (o := exd dx ((f, y) :: fs)) (by rw [ed]; exact True.intro) (.inl rfl) k hd (exd_ok hn (relO_put ry rel)))
end
/-- self.f = e in an __init__ of an error -/
def tPut (K : PySem.W.Frag) (f : Str) (to te : TE) : TS := fun D σ H => te σ H fun y H1 => to σ H1 fun x H2 => ∃ (a C : Addr) (b : EB), x = .ref a ∧ XC K C b ∧ PySem.W.findIn K (.ref C) f = some none ∧
  ((H2 a = some (exo a C none) ∧ ∀ dx, H2 dx = none → dx ≠ a → D.nx σ (upd (upd H2 dx (exd dx [(f, y)])) a (exo a C (some dx)))) ∨
    ∃ (dx : Addr) (fs : List (Str × V)), H2 a = some (exo a C (some dx)) ∧ H2 dx = some (exd dx fs) ∧ fs.length ≤ 900 ∧ D.nx σ (upd H2 dx (exd dx ((f, y) :: fs))))
section
variable {X : Cx} {o e : Expr} {es : List Expr} {to te : TE} {ta : TA} {f : Str} {p p' p1 p2 pos : Pos}
theorem ps_put (ho : PE X o to) (he : PE X e te) (hs : swapsWith e (some (.Attribute o f p')) pos.line X.env = pure false := by rfl) : PS X (.Assign [.Attribute o f p'] e pos) (tPut X.K f to te) := by
  constructor
  intro pins s σ H D I h
  refine plainObj_wpAny_Assign_Attribute (thn (he.run pins s σ H _ I h) ?_) hs
  rintro v s1 ⟨y, H1, I1, r1, q1⟩
  refine thn (ho.run pins s1 σ H1 _ I1 q1) ?_
  rintro u s2 ⟨x, H2, I2, r2, a, C, b, rfl, T, hno, q⟩
  cases (show u = Value.ref a from r2)
  rcases q with ⟨ea, q⟩ | ⟨dx, fs, ea, ed, hl, q⟩
  · exact put_first T I2 ea hno r1 fun dx s' n ne J => ⟨σ, _, J, q dx n ne⟩
  · exact put_next T I2 ea ed hl hno r1 fun s' J => ⟨σ, _, J, q⟩

/-! ### an error made, as a value -/
/-- its __init__ runs with these parameters -/
def tErr (C : Addr) (sp : Sp) (t : TA) : TE := fun σ H Q => t σ H fun vs H1 => vs.length ≤ 1000 ∧ ∀ a, H1 a = none → sp (.ref a :: vs) (upd H1 a (exo a C none)) (fun v H2 => v = .non ∧ Q (.ref a) H2) E0
theorem run_err {pins : List (Addr × Obj)} {σ : L2.St} {H : Hp} {s : Shared} {Q : VK} {C fI : Addr} {b : EB} {k : Nat} {fd : FuncData} {ps : List Str} {sp : Sp} {us all : List Value} {kw : List (Str × Value)} {vs : List V} (T : XC X.K C b)
    (iC : PySem.W.findIn X.K (.ref C) "__init__" = some (some (.ref fI))) (tI : PySem.W.typeIn X.K (.ref fI) = some (.type "function")) (F1 : FnOk X.prog X.w X.K X.mg X.base CX0 k fI fd ps sp) (hr : Room (k + 1) X.A)
    (hb : ∀ (s' : Shared) (z : Value), X.K.In s'.heap → BindsTo s' fd ⟨z :: us, kw⟩ (ps.zip (z :: all))) (hl : us.length ≤ 1000) (I : Inv X pins σ H s) (r : Vals vs all)
    (h : ∀ a, H a = none → sp (.ref a :: vs) (upd H a (exo a C none)) (fun v H2 => v = .non ∧ Q (.ref a) H2) E0) :
    wpAny (model X.prog X.w) X.A (PySem.call (.ref C) us kw) (EP X pins σ Q) X.xe s := by
  obtain ⟨nm, q, N, bs, bm, sn, sub, ab, col, dd, k0, k1, k2, k3, k5, hC, hbm⟩ := T.cls
  obtain ⟨i, FB⟩ := b.base
  rcases s with ⟨hp, g, dr, tk, os⟩
  have hsz : hp.objs.size ≤ hp.objs.size + 1 := Nat.le_succ _
  have hn : H (hp.objs.size + 1) = none := I.hok.fresh hsz
  have hq := h (hp.objs.size + 1) hn
  have kk : ∀ b o, hp.get? b = some o → ((hp.push (PySem.W.kdv_tup us)).push (PySem.HandSPX.excO C hp.objs.size)).get? b = some o := fun b o e => Heap.get?_push_of_some _ (Heap.get?_push_of_some _ e)
  have hget : ((hp.push (PySem.W.kdv_tup us)).push (PySem.HandSPX.excO C hp.objs.size)).get? (hp.objs.size + 1) = some (PySem.HandSPX.excO C hp.objs.size) := by heap_get
  have J : Inv X pins σ (upd H (hp.objs.size + 1) (exo (hp.objs.size + 1) C none)) ⟨(hp.push (PySem.W.kdv_tup us)).push (PySem.HandSPX.excO C hp.objs.size), g, dr, tk, os⟩ := I.laid (t' := tk) kk hsz (exo_ok hget)
  have rr : Vals (V.ref (hp.objs.size + 1) :: vs) (Value.ref (hp.objs.size + 1) :: all) := .cons rfl r
  have small : us.length ≤ sizeLine := by
    rw [sizeLine_eq]
    omega
  refine wpAny_call (PySem.GX.made FB (fun Y => PySem.W.excTail_contains Y bm hbm) (I.kIn _ _ hC) (PySem.W.looks_findIn I.kIn iC) (fun self => PySem.W.bind_fn I.kIn self tI) small ?_)
  refine codeAny_mono (F1.run _ X.stack _ _ ⟨Value.ref (hp.objs.size + 1) :: us, kw⟩ (Value.ref (hp.objs.size + 1) :: all) _ _ E0 (hr.make C us kw) (J.env0.make C us kw) (hb _ _ J.kIn) rr hq) ?_
  intro r' s' z
  match r', z with
  | .error er, z => exact False.elim z
  | .ok .next, z => exact False.elim z
  | .ok .brk, z => exact False.elim z
  | .ok .cont, z => exact False.elim z
  | .ok (.ret u), z =>
    obtain ⟨v, H', K1, rv, rfl, q3⟩ := J.after z
    exact ⟨rv, V.ref (hp.objs.size + 1), H', K1, rfl, q3⟩
theorem pe_err {x : Str} {C fI : Addr} {b : EB} {k : Nat} {fd : FuncData} {ps : List Str} {sp : Sp} (T : XC X.K C b) (iC : PySem.W.findIn X.K (.ref C) "__init__" = some (some (.ref fI))) (tI : PySem.W.typeIn X.K (.ref fI) = some (.type "function"))
    (F1 : FnOk X.prog X.w X.K X.mg X.base CX0 k fI fd ps sp) (hr : Room (k + 1) X.A) (hb : Binds X.K fd ps []) (hg : Gl X x) (hm : X.mg x = some (.ref C)) (ha : PA X (e :: es) ta)
    (hdb : (x == ("__debug__" : Str)) = false := by decide) (he : starEach (e :: es) X.env = (false, eval e X.env) :: starEach es X.env := by rfl) (hpl : (backTo pos (starEach es X.env)).any (·.1) = false := by rfl) :
    PE X (.Call (.Name x p) (e :: es) [] pos) (tErr C sp ta) := by
  constructor
  intro pins s σ H Q I h
  apply wpAny_Call_Name_kw
  refine ld_glob I hg hm ?_ hdb
  refine PySem.W.callWith_K (h₀ := X.base) I.ok.mod.kin T.keep (thn (ha.run pos pins s σ H _ I h) ?_) he hpl
  rintro us s1 ⟨vs, H1, I1, r1, hz, q1⟩
  refine ⟨I1.kIn, run_err T iC tI F1 hr (all := us) (fun s' z kin => ?_) (by show us.length ≤ 1000; rw [← Paired.length r1]; exact hz) I1 r1 q1⟩
  have l := F1.len _ _ _ _ (q1 s1.heap.objs.size (I1.hok.fresh (Nat.le_refl _)))
  have b := hb s' (z :: us) kin (by rw [List.append_nil, ← l, List.length_cons, List.length_cons, Paired.length r1])
  simpa using b
end

/-! ### an error's field, isinstance of an error -/
/-- an error of the class at C with these fields -/
def ErrAt (H : Hp) (e C : Addr) (fs : List (Str × V)) : Prop := (fs = [] ∧ H e = some (exo e C none)) ∨ ∃ d, H e = some (exo e C (some d)) ∧ H d = some (exd d fs)
theorem ErrAt.same {H H' : Hp} {e C : Addr} {fs : List (Str × V)} (h : ErrAt H e C fs) (k : Same H H') : ErrAt H' e C fs := by
  rcases h with ⟨rfl, a⟩ | ⟨d, a, b⟩
  · exact .inl ⟨rfl, k _ _ a⟩
  · exact .inr ⟨d, k _ _ a, k _ _ b⟩
theorem ErrAt.inst {X : Cx} {pins : List (Addr × Obj)} {σ : L2.St} {H : Hp} {s : Shared} {e C : Addr} {fs : List (Str × V)} (I : Inv X pins σ H s) (h : ErrAt H e C fs) : ∃ ox od, PySem.W.InstAt s.heap e ox C od ∧ ∀ f v, fs.lookup f = some v → ∃ u oD, od = some oD ∧ RelV v u ∧ PySem.W.lookIn f oD = some (some u) := by
  rcases h with ⟨rfl, a⟩ | ⟨d, a, b⟩
  · obtain ⟨t, ho⟩ := exo_at I.hok a
    exact ⟨_, none, ⟨ho, rfl, rfl, trivial⟩, fun f v z => nomatch z⟩
  · obtain ⟨t, ho⟩ := exo_at I.hok a
    obtain ⟨mA, hns, hr⟩ := exd_at I.hok b
    obtain ⟨oD, hD, hl⟩ := lookIn_ns hns
    refine ⟨_, some oD, ⟨ho, rfl, rfl, hD⟩, fun f v z => ?_⟩
    obtain ⟨u, hu, ru⟩ := RelO.some_of (v := v) (o := mA f) (by rw [← z]; exact hr f)
    exact ⟨u, oD, rfl, ru, by rw [hl, hu]⟩
def tErrFld (K : PySem.W.Frag) (te : TE) (f : Str) : TE := fun σ H Q => te σ H fun x H1 => ∃ (a C : Addr) (b : EB) (fs : List (Str × V)) (v : V), x = .ref a ∧ XC K C b ∧ PySem.W.findIn K (.ref C) f = some none ∧ ErrAt H1 a C fs ∧ fs.lookup f = some v ∧ Q v H1
theorem pe_errfld {X : Cx} {e : Expr} {te : TE} {f : Str} {pos : Pos} (he : PE X e te) (hb : attributeBase e f X.env (eval e X.env) = eval e X.env := by rfl) : PE X (.Attribute e f pos) (tErrFld X.K te f) := by
  constructor
  intro pins s σ H Q I h
  refine attr_of hb (thn (he.run pins s σ H _ I h) ?_)
  rintro u s1 ⟨x, H1, I1, rx, a, C, b, fs, v, rfl, T, no, ea, l, q⟩
  cases (show u = Value.ref a from rx)
  obtain ⟨ox, od, J, look⟩ := ea.inst I1
  obtain ⟨u, oD, rfl, ru, hl⟩ := look f v l
  obtain ⟨cd, hcl, _, hd⟩ := T.data
  have hdct : PySem.W.hasDictIn X.K C = true := by
    unfold PySem.W.hasDictIn
    rw [hcl]
    exact hd
  exact HandSPX.exc_get I1.kIn J T.ga T.gg T.exB (PySem.W.findObj_own hdct no rfl hl) (handed_of ru) ⟨v, H1, I1.tok _, ru, q⟩
def rErrIs (K : PySem.W.Frag) : List V → Hp → VK → Prop := fun xs H Q => ∃ (a C : Addr) (b : EB) (fs : List (Str × V)) (c : V) (cv : Value) (k : Bool), xs = [.ref a, c] ∧ XC K C b ∧ ErrAt H a C fs ∧ ClsV c cv ∧ PySem.W.kitOne K (.ref C) cv = some k ∧ Q (.bl k) H
theorem call_errIs {X : Cx} (hn : PySem.W.specialIn X.K (.builtin "object.__class__") "__get__" = some (some (.builtin "getset_descriptor.__get__"))) (ht : PySem.W.takesIn X.K (.builtin "object.__class__") = some true) : CallR X (.builtin "isinstance") (rErrIs X.K) := by
  intro pins s σ H xs us Q I r h
  obtain ⟨a, C, b, fs, c, cv, k, rfl, T, ea, hc, e, q⟩ := h
  obtain ⟨u1, u2, rfl, r1, r2⟩ := vals2 r
  cases (show u1 = Value.ref a from r1)
  cases hc.eq r2
  obtain ⟨ox, od, J, _⟩ := ea.inst I
  obtain ⟨cd, hcl, _, _⟩ := T.data
  exact PySem.W.kia_one (PySem.W.kitx_exc (by rw [hcl]; rfl) T.ga T.gg T.exB T.kl hn ht T.ob) I.kIn J e (fun z => nomatch z) fun tk => ⟨.bl k, H, I.tok tk, rfl, q⟩
end GL
set_option maxHeartbeats 4000000
namespace GL
open PySem PySem.Spec PyProof.Rows L2
theorem PE.imp {X : Cx} {e : Expr} {t t' : TE} (h : PE X e t) (k : ∀ σ H Q, t' σ H Q → t σ H Q) : PE X e t' := ⟨fun pins s σ H Q I q => h.run pins s σ H Q I (k σ H Q q)⟩
theorem PA.imp {X : Cx} {es : List Expr} {t t' : TA} (h : PA X es t) (k : ∀ σ H Q, t' σ H Q → t σ H Q) : PA X es t' := ⟨fun pos pins s σ H Q I q => h.run pos pins s σ H Q I (k σ H Q q)⟩
theorem fun_of {K : PySem.W.Frag} {x q : Str} {st : Stmt} {kws : List (Str × V)} {f : Addr} {fd : FuncData} (F : FunD K x q (defArgs st) (defBody st) (defScope st) [] kws f fd) : L2.Fun K x q st f fd := by
  obtain ⟨⟨oc, od, dV, kV, doc, pm, an, cdv, ct, osl, e, lk, hcd, hD, hK⟩, kp⟩ := F
  rcases hD with ⟨_, rfl⟩ | ⟨z, _⟩
  · exact ⟨⟨oc, od, kV, doc, pm, an, cdv, ct, osl, e, lk, hcd⟩, kp⟩
  · exact absurd rfl z
/-- C(k = v, ..) of an error: its parameters' values are all, by the keywords' -/
def tErrK (C : Addr) (sp : Sp) (g : List V → List V) (t : TA) : TE := fun σ H Q => t σ H fun zs H1 => ∀ a, H1 a = none → sp (.ref a :: g zs) (upd H1 a (exo a C none)) (fun v H2 => v = .non ∧ Q (.ref a) H2) E0
section
variable {X : Cx} {p pos : Pos} {kws : List Keyword} {tk : TA} {x : Str} {C fI : Addr} {b : EB} {k : Nat} {fd : FuncData} {ps ks : List Str} {sp : Sp}
theorem pe_errK {gV : List V → List V} {gU : List Value → List Value} (T : XC X.K C b) (iC : PySem.W.findIn X.K (.ref C) "__init__" = some (some (.ref fI))) (tI : PySem.W.typeIn X.K (.ref fI) = some (.type "function")) (F1 : FnOk X.prog X.w X.K X.mg X.base CX0 k fI fd ps sp)
    (hr : Room (k + 1) X.A) (hb : ∀ (s : Shared) (z : Value) (us : List Value), us.length = ks.length → BindsTo s fd ⟨[z], ks.zip us⟩ (ps.zip (z :: gU us))) (hg : Gl X x) (hm : X.mg x = some (.ref C)) (hkw : PK X kws tk)
    (hrel : ∀ {zs : List V} {us : List Value}, Vals zs us → Vals (gV zs) (gU us)) (hlen : ∀ {σ : L2.St} {H : Hp} {Q : List V → Hp → Prop}, tk σ H Q → tk σ H fun zs H' => zs.length = ks.length ∧ Q zs H')
    (hall : (backToKw pos (keywordEach kws X.env)).all (·.1.isSome) = true := by rfl) (hks : (backToKw pos (keywordEach kws X.env)).filterMap (·.1) = ks := by rfl) (hdb : (x == ("__debug__" : Str)) = false := by decide)
    (hpl : ((backTo pos (starEach [] X.env)).any (·.1) || (backToKw pos (keywordEach kws X.env)).any (·.1.isNone)) = false := by rfl) :
    PE X (.Call (.Name x p) [] kws pos) (tErrK C sp gV tk) := by
  constructor
  intro pins s σ H Q I h
  apply wpAny_Call_Name_kw
  refine ld_glob I hg hm ?_ hdb
  refine PySem.W.callWith_KW0 (h₀ := X.base) I.ok.mod.kin T.keep hall ?_ hpl
  refine thn (hkw.run pos pins s σ H _ I (hlen h)) ?_
  rintro ws s2 ⟨zs, H2, I2, rz, lz, q⟩
  refine ⟨I2.kIn, ?_⟩
  rw [hks]
  exact run_err (us := []) T iC tI F1 hr (fun s' z _ => hb s' z ws (by rw [← Paired.length rz]; exact lz)) (Nat.zero_le _) I2 (hrel rz) q
end
/-- C() of an error class without an __init__ of its own -/
theorem pe_err0 {X : Cx} {C : Addr} {b : EB} {x : Str} {p pos : Pos} (q : PySem.W.excIn X.K C b.tail b.new = true) (gC : X.mg x = some (.ref C)) (kC : PySem.W.keepIn X.K (.ref C) = true) (hg : Gl X x) (hdb : (x == ("__debug__" : Str)) = false := by decide) :
    PE X (.Call (.Name x p) [] [] pos) (fun σ H Q => ∀ a, H a = none → Q (.ref a) (upd H a (exo a C none))) := by
  constructor
  intro pins s σ H Q I h
  apply wpAny_Call_Name_kw
  refine ld_glob I hg gC ?_ hdb
  apply PySem.W.callWith_K0 I.kIn kC
  obtain ⟨i, FB⟩ := b.base
  rcases s with ⟨hp, g, d, t, os⟩
  obtain ⟨bm, N, nm, qn, bs, hdct, sn, sub, ab, col, dd, k0, k1, k2, k3, k5, mN, hC, hN, hni, T⟩ := exc_obj I.kIn q
  refine wpAny_call_exc_subT FB T hC hN hni (fun h' a hm => ?_) (by show 0 ≤ sizeLine; exact Nat.zero_le _)
  have hn : H a = none := I.hok.gone hm.new
  obtain ⟨t, ht, _, _⟩ := hm.there
  exact ⟨.ref a, upd H a (exo a C none), I.laidN hm.keeps hm.new hn (exo_ok ht), rfl, h a hn⟩

/-! ### an __init__ that stores its parameters -/
def spInit (C : Addr) (fl : List Str) : Sp := fun vs H Q _ => ∃ (a : Addr) (ys : List V), vs = .ref a :: ys ∧ ys.length = fl.length ∧ H a = some (exo a C none) ∧
  ∀ dx H', H dx = none → dx ≠ a → H' a = some (exo a C (some dx)) → H' dx = some (exd dx (fl.zip ys).reverse) → (∀ b o, H b = some o → b ≠ a → H' b = some o) → Q .non H'
section
variable {P : Program} {w : World} {K : PySem.W.Frag} {mg : Str → Option Value} {base : Heap} {st : Stmt} {qual f1 f2 f3 : Str} {C fI : Addr} {b : EB} {fd : FuncData} {q1 q2 q3 q4 r1 r2 r3 r4 z1 z2 z3 z4 : Pos}
theorem swap_name {n : Str} {pp : Pos} {o : Option Expr} {l : Nat} {env : Env} : swapsWith (.Name n pp) o l env = pure false := by rfl
theorem ok_init1 (F : L2.Fun K "__init__" qual st fI fd) (T : XC K C b) (n1 : PySem.W.findIn K (.ref C) f1 = some none) (hb : defBody st = [.Assign [.Attribute (.Name "self" q1) f1 q2] (.Name f1 q3) q4])
    (S : FnScope ["self", f1] ["self", f1] (defScope st)) (v0 : (defScope st).names.lookup ("self" : Str) = some .local) (v1 : (defScope st).names.lookup f1 = some .local) (d1 : (f1 == ("__debug__" : Str)) = false) (c1 : (f1 == ("__classdict__" : Str)) = false) :
    FnOk P w K mg base CX0 1 fI fd ["self", f1] (spInit C [f1]) := by
  refine F.ok S (fun vs H Q E h => ?_) (fun cdv A outer s H vs Q E hr h => ?_)
  · obtain ⟨a, ys, rfl, l, _⟩ := h
    exact congrArg Nat.succ l
  · obtain ⟨a, ys, rfl, l, ha, k⟩ := h
    rw [hb]
    match ys, l with
    | [y], _ =>
      refine ⟨_, pss_one (ps_put (pe_var (i := 0) rfl (.inl v0)) (pe_var (i := 1) rfl (.inl v1) d1 c1) swap_name), ?_⟩
      refine ⟨y, rfl, .ref a, rfl, a, C, b, rfl, T, n1, .inl ⟨ha, fun dx hd hne => ?_⟩⟩
      exact k dx _ hd hne upd_same (by rw [upd_ne hne]; exact upd_same) fun c o e hc => by rw [upd_ne hc, upd_ne (ne_of_none e hd)]; exact e
theorem ok_init2 (F : L2.Fun K "__init__" qual st fI fd) (T : XC K C b) (n1 : PySem.W.findIn K (.ref C) f1 = some none) (n2 : PySem.W.findIn K (.ref C) f2 = some none)
    (hb : defBody st = [.Assign [.Attribute (.Name "self" q1) f1 q2] (.Name f1 q3) q4, .Assign [.Attribute (.Name "self" r1) f2 r2] (.Name f2 r3) r4])
    (S : FnScope ["self", f1, f2] ["self", f1, f2] (defScope st)) (v0 : (defScope st).names.lookup ("self" : Str) = some .local) (v1 : (defScope st).names.lookup f1 = some .local) (v2 : (defScope st).names.lookup f2 = some .local)
    (d1 : (f1 == ("__debug__" : Str)) = false) (c1 : (f1 == ("__classdict__" : Str)) = false) (d2 : (f2 == ("__debug__" : Str)) = false) (c2 : (f2 == ("__classdict__" : Str)) = false) :
    FnOk P w K mg base CX0 1 fI fd ["self", f1, f2] (spInit C [f1, f2]) := by
  refine F.ok S (fun vs H Q E h => ?_) (fun cdv A outer s H vs Q E hr h => ?_)
  · obtain ⟨a, ys, rfl, l, _⟩ := h
    exact congrArg Nat.succ l
  · obtain ⟨a, ys, rfl, l, ha, k⟩ := h
    rw [hb]
    match ys, l with
    | [y, z], _ =>
      refine ⟨_, pss_cons (ps_put (pe_var (i := 0) rfl (.inl v0)) (pe_var (i := 1) rfl (.inl v1) d1 c1) swap_name) (pss_one (ps_put (pe_var (i := 0) rfl (.inl v0)) (pe_var (i := 2) rfl (.inl v2) d2 c2) swap_name)), ?_⟩
      refine ⟨y, rfl, .ref a, rfl, a, C, b, rfl, T, n1, .inl ⟨ha, fun dx hd hne => ?_⟩⟩
      refine ⟨z, rfl, .ref a, rfl, a, C, b, rfl, T, n2, .inr ⟨dx, _, upd_same, (by rw [upd_ne hne]; exact upd_same), (by show 1 ≤ 900; decide), ?_⟩⟩
      exact k dx _ hd hne (by rw [upd_ne hne.symm]; exact upd_same) upd_same fun c o e hc => by rw [upd_ne (ne_of_none e hd), upd_ne hc, upd_ne (ne_of_none e hd)]; exact e
theorem ok_init3 (F : L2.Fun K "__init__" qual st fI fd) (T : XC K C b) (n1 : PySem.W.findIn K (.ref C) f1 = some none) (n2 : PySem.W.findIn K (.ref C) f2 = some none) (n3 : PySem.W.findIn K (.ref C) f3 = some none)
    (hb : defBody st = [.Assign [.Attribute (.Name "self" q1) f1 q2] (.Name f1 q3) q4, .Assign [.Attribute (.Name "self" r1) f2 r2] (.Name f2 r3) r4, .Assign [.Attribute (.Name "self" z1) f3 z2] (.Name f3 z3) z4])
    (S : FnScope ["self", f1, f2, f3] ["self", f1, f2, f3] (defScope st)) (v0 : (defScope st).names.lookup ("self" : Str) = some .local) (v1 : (defScope st).names.lookup f1 = some .local) (v2 : (defScope st).names.lookup f2 = some .local) (v3 : (defScope st).names.lookup f3 = some .local)
    (d1 : (f1 == ("__debug__" : Str)) = false) (c1 : (f1 == ("__classdict__" : Str)) = false) (d2 : (f2 == ("__debug__" : Str)) = false) (c2 : (f2 == ("__classdict__" : Str)) = false) (d3 : (f3 == ("__debug__" : Str)) = false) (c3 : (f3 == ("__classdict__" : Str)) = false) :
    FnOk P w K mg base CX0 1 fI fd ["self", f1, f2, f3] (spInit C [f1, f2, f3]) := by
  refine F.ok S (fun vs H Q E h => ?_) (fun cdv A outer s H vs Q E hr h => ?_)
  · obtain ⟨a, ys, rfl, l, _⟩ := h
    exact congrArg Nat.succ l
  · obtain ⟨a, ys, rfl, l, ha, k⟩ := h
    rw [hb]
    match ys, l with
    | [y, z, u], _ =>
      refine ⟨_, pss_cons (ps_put (pe_var (i := 0) rfl (.inl v0)) (pe_var (i := 1) rfl (.inl v1) d1 c1) swap_name) (pss_cons (ps_put (pe_var (i := 0) rfl (.inl v0)) (pe_var (i := 2) rfl (.inl v2) d2 c2) swap_name)
        (pss_one (ps_put (pe_var (i := 0) rfl (.inl v0)) (pe_var (i := 3) rfl (.inl v3) d3 c3) swap_name))), ?_⟩
      refine ⟨y, rfl, .ref a, rfl, a, C, b, rfl, T, n1, .inl ⟨ha, fun dx hd hne => ?_⟩⟩
      refine ⟨z, rfl, .ref a, rfl, a, C, b, rfl, T, n2, .inr ⟨dx, _, upd_same, (by rw [upd_ne hne]; exact upd_same), (by show 1 ≤ 900; decide), ?_⟩⟩
      refine ⟨u, rfl, .ref a, rfl, a, C, b, rfl, T, n3, .inr ⟨dx, _, (by rw [upd_ne hne.symm]; exact upd_same), upd_same, (by show 2 ≤ 900; decide), ?_⟩⟩
      exact k dx _ hd hne (by rw [upd_ne hne.symm, upd_ne hne.symm]; exact upd_same) upd_same fun c o e hc => by rw [upd_ne (ne_of_none e hd), upd_ne (ne_of_none e hd), upd_ne hc, upd_ne (ne_of_none e hd)]; exact e
end
/-- an error made, told in whole: what was tracked stands, its fields are as its __init__ stores them -/
theorem init_made {C : Addr} {fl : List Str} {H1 : Hp} {Q : VK} {x : Addr} {ys : List V} (hx : H1 x = none) (hl : ys.length = fl.length) (q : ∀ (e : Addr) (H' : Hp), Same H1 H' → H1 e = none → ErrAt H' e C (fl.zip ys).reverse → Q (.ref e) H') :
    spInit C fl (.ref x :: ys) (upd H1 x (exo x C none)) (fun v H2 => v = .non ∧ Q (.ref x) H2) E0 := by
  refine ⟨x, ys, rfl, hl, upd_same, fun dx H' hd hne ha hdx kp => ⟨rfl, q x H' (fun b o e => ?_) hx (.inr ⟨dx, ha, hdx⟩)⟩⟩
  have hb : b ≠ x := ne_of_none e hx
  exact kp b o (by rw [upd_ne hb]; exact e) hb
end GL
set_option maxHeartbeats 4000000
namespace GL
open PySem PySem.Spec PyProof.Rows L2
theorem same_sqT {K : PySem.W.Frag} {H H' : Hp} {a : Addr} {xs : List V} (e : Same H H') (h : SqT K H a xs) : SqT K H' a xs := by
  rcases h with (h | ⟨o, h⟩) | h
  · exact .inl (.inl (e _ _ h))
  · exact .inl (.inr ⟨o, e _ _ h⟩)
  · exact .inr h
mutual
theorem Dq.same {K : PySem.W.Frag} {H H' : Hp} (e : Same H H') : ∀ {v : V} {d : PyData}, Dq K H v d → Dq K H' v d
  | _, _, .non => .non
  | _, _, .bl b => .bl b
  | _, _, .int i => .int i
  | _, _, .str x => .str x
  | _, _, .lst h a => .lst (e.seq h) (DqAll.same e a)
  | _, _, .tup h a => .tup (same_sqT e h) (DqAll.same e a)
  | _, _, .dct h a => .dct (e _ _ h) (DqKv.same e a)
theorem DqAll.same {K : PySem.W.Frag} {H H' : Hp} (e : Same H H') : ∀ {vs : List V} {ds : List PyData}, DqAll K H vs ds → DqAll K H' vs ds
  | _, _, .nil => .nil
  | _, _, .cons a b => .cons (Dq.same e a) (DqAll.same e b)
theorem DqKv.same {K : PySem.W.Frag} {H H' : Hp} (e : Same H H') : ∀ {kvs : List (Key × V)} {ps : List (PyData × PyData)}, DqKv K H kvs ps → DqKv K H' kvs ps
  | _, _, .nil => .nil
  | _, _, .consI a b => .consI (Dq.same e a) (DqKv.same e b)
  | _, _, .consS a b => .consS (Dq.same e a) (DqKv.same e b)
end
theorem paired_rev {α β : Type} {R : α → β → Prop} : ∀ {xs : List α} {ys : List β}, Paired R xs ys → Paired R xs.reverse ys.reverse := by
  have app : ∀ {xs us : List α} {ys ws : List β}, Paired R xs ys → Paired R us ws → Paired R (xs ++ us) (ys ++ ws) := by
    intro xs us ys ws h k
    induction h with
    | nil => exact k
    | cons r _ ih => exact .cons r ih
  intro xs ys h
  induction h with
  | nil => exact .nil
  | cons r _ ih =>
    rw [List.reverse_cons, List.reverse_cons]
    exact app ih (.cons r .nil)
theorem same_new {H : Hp} {p : Addr} {o : HO} (h : H p = none) : Same H (upd H p o) := fun b u e => by
  rw [upd_ne (ne_of_none e h)]
  exact e
theorem del_le {H : Hp} {p : Addr} : Same (del H p) H := fun b o e => by
  by_cases h : b = p
  · rw [h, del_same] at e
    cases e
  · rwa [del_ne h] at e
theorem del_but {H H' : Hp} {p : Addr} (k : ∀ b o, H b = some o → b ≠ p → H' b = some o) : Same (del H p) (del H' p) := fun b o e => by
  by_cases h : b = p
  · rw [h, del_same] at e
    cases e
  · rw [del_ne h] at e ⊢
    exact k b o e h
/-! ### a list comprehension whose element leaves what was tracked as it was -/
theorem take_ext {α : Type} : ∀ {l : List α} {i : Nat} {x : α}, l[i]? = some x → l.take (i + 1) = l.take i ++ [x]
  | a :: l, 0, x, h => by
    cases Option.some.inj h
    rfl
  | a :: l, i + 1, x, h => by
    have ih := take_ext (l := l) (i := i) (x := x) (by simpa using h)
    rw [List.take_succ_cons, ih, List.take_succ_cons]
    rfl
section
variable {K : PySem.W.Frag} {te : TE} {σ : L2.St} {j : Nat} {H1 : Hp} {D a : Addr} {xs : List V} {val : V → V} {Qd : Hp → Prop}
theorem lc_same (hS : SqL K H1 a xs) (hD : H1 D = none) (hl : xs.length < 1000000) (hw : ∀ x, wipe ((wipe σ [j]).set j (some x)) [j] = wipe σ [j])
    (hs : ∀ (i : Nat) (x : V) (H' : Hp) (Q : VK), xs[i]? = some x → Same H1 H' → (∀ H2, Same H' H2 → Q (val x) H2) → te ((wipe σ [j]).set j (some x)) H' Q) (hd : ∀ H', Same H1 H' → H' D = some (.lst (xs.map val)) → Qd H') :
    ∃ W : Nat → Nat → Hp → Prop, (∃ m, W 0 m (upd H1 D (.lst []))) ∧ ∀ i m H, W i m H →
      ((Itl K a).stop i H ∧ Qd H) ∨ ((Itl K a).go i H ∧ ∃ Nx : Hp → Prop, (∀ H', Nx H' → ∃ m', m' < m ∧ W (i + 1) m' H') ∧ ∀ x H', (Itl K a).yld i H x H' → gName j x (wipe σ [j]) H' fun σ2 H2 => wipe σ2 [j] = wipe σ [j] ∧ tYes σ2 H2 fun b H3 =>
        if b = true then te σ2 H3 fun y H4 => ∃ acc, H4 D = some (.lst acc) ∧ acc.length < sizeLine ∧ Nx (upd H4 D (.lst (acc ++ [y]))) else Nx H3) := by
  refine lc_list (K := K) (a := a) (xs := xs) (fun i H => H D = some (.lst ((xs.take i).map val)) ∧ Same H1 H) ⟨upd_same, same_new hD⟩ (fun i H _ ⟨_, s⟩ => s.seq hS) ?_ ?_
  · rintro i x H hi ⟨hd', s⟩
    refine ⟨hw x, ?_⟩
    show te (List.set (wipe σ [j]) j (some x)) H (fun y H4 => ∃ acc, H4 D = some (.lst acc) ∧ acc.length < sizeLine ∧ (upd H4 D (.lst (acc ++ [y])) D = some (.lst ((xs.take (i + 1)).map val)) ∧ Same H1 (upd H4 D (.lst (acc ++ [y])))))
    refine hs i x H _ hi s fun H2 s2 => ⟨_, s2 _ _ hd', ?_, ?_, fun b o e => ?_⟩
    · rw [List.length_map, List.length_take, sizeLine_eq]
      omega
    · rw [take_ext hi, List.map_append, upd_same]
      rfl
    · rw [upd_ne (ne_of_none e hD)]
      exact s2 _ _ (s _ _ e)
  · rintro H ⟨hd', s⟩
    rw [List.take_length] at hd'
    exact hd H s hd'
theorem lc_sameR {lo : Int} {n : Nat} {val : Int → V} (hD : H1 D = none) (hl : n < 1000000) (hw : ∀ x, wipe ((wipe σ [j]).set j (some x)) [j] = wipe σ [j])
    (hs : ∀ (i : Nat) (H' : Hp) (Q : VK), i < n → Same H1 H' → (∀ H2, Same H' H2 → Q (val (lo + i)) H2) → te ((wipe σ [j]).set j (some (.int (lo + i)))) H' Q) (hd : ∀ H', Same H1 H' → H' D = some (.lst ((List.range n).map fun i => val (lo + (i : Nat)))) → Qd H') :
    ∃ W : Nat → Nat → Hp → Prop, (∃ m, W 0 m (upd H1 D (.lst []))) ∧ ∀ i m H, W i m H →
      ((Itr lo n).stop i H ∧ Qd H) ∨ ((Itr lo n).go i H ∧ ∃ Nx : Hp → Prop, (∀ H', Nx H' → ∃ m', m' < m ∧ W (i + 1) m' H') ∧ ∀ x H', (Itr lo n).yld i H x H' → gName j x (wipe σ [j]) H' fun σ2 H2 => wipe σ2 [j] = wipe σ [j] ∧ tYes σ2 H2 fun b H3 =>
        if b = true then te σ2 H3 fun y H4 => ∃ acc, H4 D = some (.lst acc) ∧ acc.length < sizeLine ∧ Nx (upd H4 D (.lst (acc ++ [y]))) else Nx H3) := by
  refine lc_range (lo := lo) (n := n) (fun i H => H D = some (.lst ((List.range i).map fun i => val (lo + (i : Nat)))) ∧ Same H1 H) ⟨upd_same, same_new hD⟩ ?_ ?_
  · rintro i H hi ⟨hd', s⟩
    refine ⟨hw _, ?_⟩
    show te (List.set (wipe σ [j]) j (some (V.int (lo + i)))) H (fun y H4 => ∃ acc, H4 D = some (.lst acc) ∧ acc.length < sizeLine ∧ (upd H4 D (.lst (acc ++ [y])) D = some (.lst ((List.range (i + 1)).map fun i => val (lo + (i : Nat)))) ∧ Same H1 (upd H4 D (.lst (acc ++ [y])))))
    refine hs i H _ hi s fun H2 s2 => ⟨_, s2 _ _ hd', ?_, ?_, fun b o e => ?_⟩
    · rw [List.length_map, List.length_range, sizeLine_eq]
      omega
    · rw [List.range_succ, List.map_append, upd_same]
      rfl
    · rw [upd_ne (ne_of_none e hD)]
      exact s2 _ _ (s _ _ e)
  · rintro H ⟨hd', s⟩
    exact hd H s hd'
end
end GL
set_option maxHeartbeats 4000000
/-! Own operators of own instances. -/
namespace PySem
namespace GO
open PySem.W PySem.Calls PyProof.Rows PySem.HandSPX Builtin
section
variable {prog : Program} {w : World} {A : Around} {E : Value → Shared → Prop} {hp : Heap} {g : Array GenState} {d : Drawn} {t : Nat} {os : OsState} {K : W.Frag} {x y C f : Addr} {ox oy : Obj} {od oe : Option Obj} {b : Value} {op : Operator} {Q : Value → Shared → Prop} {cd : ClassData} {rest : List Value}
def Held (p : Prop) : Prop := p
/-- a method of an own class, tried -/
theorem try_own {nm : Str} {Q : Option Value → Shared → Prop} (X : K.In hp) (I : InstAt hp x ox C od) (hf : findIn K (.ref C) nm = some (some (.ref f))) (tf : typeIn K (.ref f) = some (.type "function"))
    (h : Held (wpAny (model prog w) A (call (.ref f) [.ref x, b]) (W.CmpBack fun v => Q (some v)) E ⟨hp, g, d, t, os⟩)) : wpAny (model prog w) A (tryMethod (.ref x) nm b) Q E ⟨hp, g, d, t, os⟩ := by
  unfold tryMethod
  apply wpAny_bind
  refine special_fn (s := ⟨hp, g, d, t, os⟩) X I hf tf (wpAny_mono h (fun v s' z => ?_) fun _ _ z => z)
  cases v <;> first | exact wpAny_pure z | exact z.elim
/-- a + b, both of one class -/
theorem bin_same (X : K.In hp) (I : InstAt hp x ox C od) (J : InstAt hp y oy C oe) (hcd : clsIn K C = some cd) (hm : cd.mro = .ref C :: rest) (hf : findIn K (.ref C) (dunder op.info.2) = some (some (.ref f))) (tf : typeIn K (.ref f) = some (.type "function"))
    (h : wpAny (model prog w) A (call (.ref f) [.ref x, .ref y]) (W.CmpBack Q) E ⟨hp, g, d, t, os⟩) : wpAny (model prog w) A (binaryOp op (.ref x) (.ref y)) Q E ⟨hp, g, d, t, os⟩ := by
  have left := fills_K (M := model prog w) (nm := op.info.2) X hcd hm hf
  unfold binaryOp
  generalize op.info = z at *
  obtain ⟨sym, nm⟩ := z
  apply wpAny_holding
  unfold binaryOp1
  apply wpAny_bind
  apply wpAny_bind
  apply I.type.at
  apply wpAny_bind
  apply J.type.at
  apply wpAny_bind
  apply left.at
  dsimp only
  rw [if_pos (beq_self_eq_true _)]
  repeat (first | with_reducible refine try_own X I hf tf ?_ | wp_step)
  refine wpAny_mono h (fun v s' z => ?_) fun _ _ z => z
  cases v <;> first | exact wpAny_pure (wpAny_pure z) | exact z.elim
/-- a + n, n a whole number -/
theorem bin_int {n : Int} {k : Tok} {ia ir : String} (X : K.In hp) (I : InstAt hp x ox C od) (hcd : clsIn K C = some cd) (hm : cd.mro = .ref C :: rest) (hf : findIn K (.ref C) (dunder op.info.2) = some (some (.ref f))) (hr : findIn K (.ref C) (dunderR op.info.2) = some none) (tf : typeIn K (.ref f) = some (.type "function"))
    (fa : findIn K (.type "int") (dunder op.info.2) = some (some (.builtin ia))) (fr : findIn K (.type "int") (dunderR op.info.2) = some (some (.builtin ir))) (sq : isSeqSlot (some (.builtin ia)) = false) (sub : subIn K (.type "int") (.ref C) = some false)
    (h : wpAny (model prog w) A (call (.ref f) [.ref x, .int n k]) (W.CmpBack Q) E ⟨hp, g, d, t, os⟩) : wpAny (model prog w) A (binaryOp op (.ref x) (.int n k)) Q E ⟨hp, g, d, t, os⟩ := by
  have left := fills_K (M := model prog w) (nm := op.info.2) X hcd hm hf
  have l1 := looks_findIn (M := model prog w) X hf
  have l2 := looks_findIn (M := model prog w) X hr
  have l3 := looks_findIn (M := model prog w) X fa
  have l4 := looks_findIn (M := model prog w) X fr
  have l5 := looks_subIn (M := model prog w) X sub
  unfold binaryOp
  generalize op.info = z at *
  obtain ⟨sym, nm⟩ := z
  apply wpAny_holding
  unfold binaryOp1 numberSlotInPython fillsNumberSlot
  apply wpAny_bind
  apply wpAny_bind
  apply I.type.at
  apply wpAny_bind
  apply wpAny_pure
  apply wpAny_bind
  apply left.at
  repeat (first | with_reducible refine try_own X I hf tf ?_ | with_reducible refine l1.at ?_ | with_reducible refine l2.at ?_ | with_reducible refine l3.at ?_ | with_reducible refine l4.at ?_ | with_reducible refine l5.at ?_ | wp_step)
  refine wpAny_mono h (fun v s' z => ?_) fun _ _ z => z
  cases v <;> first | exact wpAny_pure (wpAny_pure z) | exact z.elim
/-- -a -/
theorem neg_own (X : K.In hp) (I : InstAt hp x ox C od) (hf : findIn K (.ref C) "__neg__" = some (some (.ref f))) (tf : typeIn K (.ref f) = some (.type "function"))
    (h : wpAny (model prog w) A (call (.ref f) [.ref x]) Q E ⟨hp, g, d, t, os⟩) : wpAny (model prog w) A (unaryOp .USub (.ref x)) Q E ⟨hp, g, d, t, os⟩ := by
  unfold unaryOp
  apply wpAny_holding
  dsimp only
  rw [if_neg (by decide)]
  apply wpAny_bind
  exact special_fn (s := ⟨hp, g, d, t, os⟩) X I hf tf (wpAny_mono h (fun v s' z => wpAny_pure z) fun _ _ z => z)
end
end GO
end PySem
set_option maxHeartbeats 4000000
namespace PySem
namespace GO
open PySem.W PySem.Calls PyProof.Rows PySem.HandSPX Builtin
section
variable {prog : Program} {w : World} {A : Around} {E : Value → Shared → Prop} {hp : Heap} {g : Array GenState} {d : Drawn} {t : Nat} {os : OsState} {K : W.Frag} {x y C f : Addr} {ox oy : Obj} {od oe : Option Obj} {b tb : Value} {Q : Value → Shared → Prop}
theorem ifb {fv : Value} {nm : Str} {Q : Option Value → Shared → Prop} (X : K.In hp) (I : InstAt hp x ox C od) (hf : findIn K (.ref C) nm = some (some fv)) (hb : Looks (model prog w) hp (bindSpecial fv (.ref x)) (fv, [.ref x]))
    (h : wpAny (model prog w) A (call fv [.ref x, b]) (fun v => Q (some v)) E ⟨hp, g, d, t, os⟩) : wpAny (model prog w) A (callSpecialIfBound? (.ref x) nm [b]) Q E ⟨hp, g, d, t, os⟩ := by
  have l1 := looks_findIn (M := model prog w) X hf
  unfold callSpecialIfBound? bindSpecialIfBound? specialOf
  apply wpAny_holding
  apply wpAny_bind
  apply wpAny_bind
  apply wpAny_bind
  apply I.type.at
  apply l1.at
  dsimp only
  apply wpAny_bind
  refine wpAny_askSetting ?_
  have go : ∀ {E' : Value → Shared → Prop}, wpAny (model prog w) A (do let z ← bindSpecial fv (.ref x); pure (some z)) (fun a s' => wpAny (model prog w) A (match a with
        | some (g, first) => do
          let z ← call g (first ++ [b])
          pure (some z)
        | x => pure none) Q E s') E' ⟨hp, g, d, t, os⟩ := by
    intro E'
    apply wpAny_bind
    apply hb.at
    apply wpAny_pure
    dsimp only [List.cons_append, List.nil_append]
    apply wpAny_bind
    exact wpAny_mono h (fun v s' z => wpAny_pure z) fun _ _ z => z
  split
  · exact go
  · exact wpAny_tryCatch go
theorem try_c {fv : Value} {nm : Str} {Q : Option Value → Shared → Prop} (X : K.In hp) (I : InstAt hp x ox C od) (hf : findIn K (.ref C) nm = some (some fv)) (hb : Looks (model prog w) hp (bindSpecial fv (.ref x)) (fv, [.ref x]))
    (h : wpAny (model prog w) A (call fv [.ref x, b]) (W.CmpBack fun v => Q (some v)) E ⟨hp, g, d, t, os⟩) : wpAny (model prog w) A (tryCompare (.ref x) nm b) Q E ⟨hp, g, d, t, os⟩ := by
  unfold tryCompare
  apply wpAny_bind
  refine ifb X I hf hb (wpAny_mono h (fun v s' z => ?_) fun _ _ z => z)
  cases v <;> first | exact wpAny_pure z | exact z.elim
/-- a == b, a != b, by the class's method of this name -/
theorem cmp_any {op : CmpOp} {fv : Value} (hop : op = .Eq ∨ op = .NotEq) (hu : A.units < cLine) (X : K.In hp) (I : InstAt hp x ox C od) (hb : Looks (model prog w) hp (typeOf b) tb) (nf : notFirst K C tb = true) (he : findIn K (.ref C) (cmpInfo op).2.1 = some (some fv))
    (hbi : Looks (model prog w) hp (bindSpecial fv (.ref x)) (fv, [.ref x]))
    (h : wpAny (model prog w) A (call fv [.ref x, b]) (W.CmpBack Q) E ⟨hp, g, d, t, os⟩) : wpAny (model prog w) A (richCompare op (.ref x) b) Q E ⟨hp, g, d, t, os⟩ := by
  have no : oneThing? op (.ref x) b = none := by rcases hop with rfl | rfl <;> rfl
  unfold richCompare
  apply wpAny_holding
  apply wpAny_bind
  refine wpAny_cRoomFor hu ?_
  rw [no]
  dsimp only
  generalize hi : cmpInfo op = z at *
  obtain ⟨sym, nf', nr⟩ := z
  apply wpAny_bind
  apply I.type.at
  apply wpAny_bind
  apply hb.at
  unfold notFirst at nf
  have go : wpAny (model prog w) A (tryCompare (.ref x) nf' b) (fun o s' => o.isSome = true ∧ ∀ v, o = some v → Q v s') E ⟨hp, g, d, t, os⟩ := by
    refine try_c X I he hbi (wpAny_mono h (fun v s' z => ?_) fun _ _ z => z)
    cases v <;> first | exact ⟨rfl, fun _ q => by cases q; exact z⟩ | exact z.elim
  have fin : ∀ {k : Option Value → Sem Value}, (∀ v, k (some v) = pure v) → wpAny (model prog w) A (tryCompare (.ref x) nf' b >>= k) Q E ⟨hp, g, d, t, os⟩ := by
    intro k hk
    apply wpAny_bind
    refine wpAny_mono go (fun o s' z => ?_) fun _ _ z => z
    obtain ⟨q, z⟩ := z
    cases o with
    | none => cases q
    | some v =>
      rw [hk]
      exact wpAny_pure (z v rfl)
  split
  · rename_i ne
    simp only [Bool.or_eq_true, beq_iff_eq] at nf
    rcases nf with rfl | q
    · exact absurd ne (by simp)
    · apply wpAny_bind
      apply (looks_subIn X q).at
      dsimp only [Bool.false_eq_true, if_false]
      exact fin fun v => rfl
  · apply wpAny_bind
    apply wpAny_pure
    exact fin fun v => rfl
/-- the entry of object.__ne__ -/
theorem ne_entry (hu : A.units < cLine) (X : K.In hp) (I : InstAt hp x ox C od) (he : findIn K (.ref C) "__eq__" = some (some (.ref f))) (tf : typeIn K (.ref f) = some (.type "function")) {Q : PySem.Fin → Shared → Prop}
    (h : wpAny (model prog w) A (call (.ref f) [.ref x, b]) (fun v s' => ∃ k, v = .bool k ∧ Q (.done (.ret (.bool !k))) s') E ⟨hp, g, d, t, os⟩) :
    wpAny (model prog w) A (Builtin.«object.__ne__» { pos := [.ref x, b] }) Q E ⟨hp, g, d, t, os⟩ := by
  unfold Builtin.«object.__ne__»
  apply wpAny_bind
  have e : slotArgs "__ne__" 1 { pos := [.ref x, b] } = pure (.ref x, [b]) := rfl
  rw [e]
  apply wpAny_pure
  dsimp only
  apply wpAny_bind
  refine wpAny_cRoomFor hu ?_
  apply wpAny_bind
  refine ifb X I he (bind_fn X _ tf) (wpAny_mono h (fun v s' z => ?_) fun _ _ z => z)
  obtain ⟨k, rfl, q⟩ := z
  dsimp only
  apply wpAny_bind
  refine wpAny_truthy_bool ?_
  exact wpAny_pure q
/-- a != b, by an own __eq__ -/
theorem ne_own (hu : A.units + 1 < cLine) (X : K.In hp) (I : InstAt hp x ox C od) (hb : Looks (model prog w) hp (typeOf b) tb) (nf : notFirst K C tb = true) (hn : findIn K (.ref C) "__ne__" = some (some (.builtin "object.__ne__"))) (he : findIn K (.ref C) "__eq__" = some (some (.ref f)))
    (tf : typeIn K (.ref f) = some (.type "function")) (ob : mroIn K C (.type "object") = some true)
    (h : wpAny (model prog w) A.in1 (call (.ref f) [.ref x, b]) (fun v s' => ∃ k, v = .bool k ∧ Q (.bool !k) s') E ⟨hp, g, d, t, os⟩) : wpAny (model prog w) A (richCompare .NotEq (.ref x) b) Q E ⟨hp, g, d, t, os⟩ := by
  refine cmp_any (.inr rfl) (by omega) X I hb nf hn ?_ ?_
  · rw [PySem.F.slot_object_ne.bind]
    exact .now
  apply wpAny_call
  refine codeAny_call_builtin (by decide +kernel) (by rfl) ?_
  refine check_slot (s := ⟨hp, g, d, t, os⟩) (owner := "object") (n := "__ne__") (by decide +kernel) (by decide +kernel) ?_ (by rfl) ?_
  · exact I.type.andThen (W.looks_mroIn X ob)
  · exact ne_entry hu X I he tf h
/-- x in a, by an own __contains__ -/
theorem in_own (X : K.In hp) (I : InstAt hp x ox C od) (hf : findIn K (.ref C) "__contains__" = some (some (.ref f))) (tf : typeIn K (.ref f) = some (.type "function")) {Q : Bool → Shared → Prop}
    (h : wpAny (model prog w) A (call (.ref f) [.ref x, b]) (fun v s' => ∃ k, v = .bool k ∧ Q k s') E ⟨hp, g, d, t, os⟩) : wpAny (model prog w) A (contains (.ref x) b) Q E ⟨hp, g, d, t, os⟩ := by
  have l1 := looks_findIn (M := model prog w) X hf
  have l2 := bind_fn (M := model prog w) X (.ref x) tf
  unfold contains
  apply wpAny_holding
  have e : stdlibNamesSay? (.ref x) b = none := rfl
  rw [e]
  dsimp only
  unfold callSpecialUnlessNone? specialOf
  apply wpAny_bind
  apply wpAny_bind
  apply I.type.at
  apply l1.at
  dsimp only
  rw [if_neg (by simp)]
  apply wpAny_bind
  apply wpAny_bind
  apply wpAny_bind
  apply I.type.at
  apply l1.at
  dsimp only
  apply wpAny_holding
  apply wpAny_bind
  apply l2.at
  dsimp only [List.cons_append, List.nil_append]
  rw [if_neg (by simp)]
  apply wpAny_bind
  refine wpAny_mono h (fun v s' z => ?_) fun _ _ z => z
  obtain ⟨k, rfl, q⟩ := z
  apply wpAny_pure
  exact wpAny_truthy_bool q
end
end GO
end PySem
set_option maxHeartbeats 4000000
/-! Own operators of own instances, as rules. -/
namespace GL
open PySem PySem.Spec PyProof.Rows L2
theorem isFn_ty {K : PySem.W.Frag} {f : Addr} (h : PySem.W.isFn K (.ref f) = true) : PySem.W.typeIn K (.ref f) = some (.type "function") := by
  unfold PySem.W.isFn at h
  exact beq_iff_eq.mp h
section
variable {X : Cx} {pins : List (Addr × Obj)} {σ : L2.St} {H : Hp} {s : Shared} {a C dx f : Addr} {fs : List (Str × V)} {x y : V} {u t v : Value} {Q : VK} {CX : CXT} {E : XK} {k : Nat} {sp : Sp}
theorem inst_of (I : Inv X pins σ H s) (e : H a = some (.ins C dx fs)) : ∃ ox od, PySem.W.InstAt s.heap a ox C od := by
  obtain ⟨mA, hO, _, hw, _, _⟩ := ins_get I.hok e
  obtain ⟨oD, _, _, hoD, _, _⟩ := hO.ns.count hw
  exact ⟨_, some oD, hO.obj, rfl, rfl, hoD⟩
theorem ty_look (I : Inv X pins σ H s) (rx : L2.RelV x u) (ty : TyX X.K H x t) : PySem.W.Looks (model X.prog X.w) s.heap (typeOf u) t := by
  obtain ⟨P, kx, p, _⟩ := kit_of I rx ty
  exact kx.ty _ _ I.kIn p
theorem notImpl (z : EP X pins σ Q v s) : PySem.W.CmpBack (EP X pins σ Q) v s := by
  have ne : v ≠ .notImplemented := by
    rintro rfl
    obtain ⟨r, H', _, rr, _⟩ := z
    cases r <;> first | exact nomatch rr | (obtain ⟨_, e⟩ := rr; exact nomatch e)
  cases v <;> first | exact z | exact absurd rfl ne
theorem Room.in1 {k : Nat} {A : Around} (r : Room (k + 1) A) : Room k A.in1 := by
  refine ⟨r.hd, ?_, ?_⟩
  · have := r.dp
    show A.depth + 3 * k + 5 < recursionLimit
    omega
  · have := r.un
    show A.units + 1 + 16 * k + 200 < cLine
    omega
theorem run_in1 {us : List Value} {vs : List V} (F : FnR X.prog X.w X.K X.mg X.base CX k f sp) (hr : Room (k + 1) X.A) (hx : Passes CX X E) (I : Inv X pins σ H s) (r : Vals vs us) (q : sp vs H Q E) :
    wpAny (model X.prog X.w) X.A.in1 (PySem.call (.ref f) us) (EP X pins σ Q) X.xe s := by
  apply wpAny_call
  refine codeAny_mono (F X.A.in1 X.stack s H us vs Q E (Room.in1 hr) { I.env0 with frames := I.env0.frames } r q) fun r' s' z => ?_
  match r', z with
  | .error er, z => exact hx pins σ H s er s' I z
  | .ok .next, z => exact False.elim z
  | .ok .brk, z => exact False.elim z
  | .ok .cont, z => exact False.elim z
  | .ok (.ret u), z => exact I.after z
end

/-! ### a + b -/
structure OwnBin (K : PySem.W.Frag) (C : Addr) (op : Operator) (f : Addr) : Prop where
  m : Meth K C (dunder op.info.2) f
  r : PySem.W.findIn K (.ref C) (dunderR op.info.2) = some none
  c : ∃ cd rest, PySem.W.clsIn K C = some cd ∧ cd.mro = .ref C :: rest
  s : PySem.W.subIn K (.type "int") (.ref C) = some false
def rOwn (C : Addr) (sp : Sp) (E : XK) : R2 := fun x y H Q => ∃ a dx fs, x = .ref a ∧ H a = some (.ins C dx fs) ∧ ((∃ b dy gs, y = .ref b ∧ H b = some (.ins C dy gs)) ∨ ∃ n, y = .int n) ∧ sp [x, y] H Q E
theorem op_own {X : Cx} {CX : CXT} {E : XK} {k : Nat} {sp : Sp} {C f : Addr} {op : Operator} (hop : op = .Add ∨ op = .Sub ∨ op = .Mult) (B : OwnBin X.K C op f) (F : FnR X.prog X.w X.K X.mg X.base CX k f sp) (hr : Room k X.A) (hx : Passes CX X E) : OpR X (binaryOp op) (rOwn C sp E) := by
  intro pins s σ H x y v u Q I rx ry h
  obtain ⟨a, dx, fs, rfl, ea, hy, q⟩ := h
  cases (show v = Value.ref a from rx)
  obtain ⟨ox, od, J⟩ := inst_of I ea
  obtain ⟨cd, rest, hcd, hm⟩ := B.c
  have z : wpAny (model X.prog X.w) X.A (PySem.call (.ref f) [.ref a, u]) (PySem.W.CmpBack (EP X pins σ Q)) X.xe s := thn (wpAny_call (run_fnR F hr hx I (Paired.cons (a := V.ref a) (b := Value.ref a) rfl (.cons ry .nil)) q)) fun _ _ => notImpl
  rcases s with ⟨hp, g, d, tk, os⟩
  rcases hy with ⟨b, dy, gs, rfl, eb⟩ | ⟨n, rfl⟩
  · cases (show u = Value.ref b from ry)
    obtain ⟨oy, oe, J'⟩ := inst_of I eb
    exact PySem.GO.bin_same I.kIn J J' hcd hm B.m.at_ (isFn_ty B.m.fn) z
  · obtain ⟨tn, rfl⟩ := (show ∃ t, u = Value.int n t from ry)
    rcases hop with rfl | rfl | rfl
    · exact PySem.GO.bin_int (ia := "int.__add__") (ir := "int.__radd__") I.kIn J hcd hm B.m.at_ B.r (isFn_ty B.m.fn) (by show fastLookup "int" _ = _; decide +kernel) (by show fastLookup "int" _ = _; decide +kernel) (by decide +kernel) B.s z
    · exact PySem.GO.bin_int (ia := "int.__sub__") (ir := "int.__rsub__") I.kIn J hcd hm B.m.at_ B.r (isFn_ty B.m.fn) (by show fastLookup "int" _ = _; decide +kernel) (by show fastLookup "int" _ = _; decide +kernel) (by decide +kernel) B.s z
    · exact PySem.GO.bin_int (ia := "int.__mul__") (ir := "int.__rmul__") I.kIn J hcd hm B.m.at_ B.r (isFn_ty B.m.fn) (by show fastLookup "int" _ = _; decide +kernel) (by show fastLookup "int" _ = _; decide +kernel) (by decide +kernel) B.s z

/-! ### -a -/
theorem un_own {X : Cx} {CX : CXT} {E : XK} {k : Nat} {sp : Sp} {C f : Addr} (B : Meth X.K C "__neg__" f) (F : FnR X.prog X.w X.K X.mg X.base CX k f sp) (hr : Room k X.A) (hx : Passes CX X E) :
    UnR X (unaryOp .USub) (fun x H Q => ∃ a dx fs, x = .ref a ∧ H a = some (.ins C dx fs) ∧ sp [x] H Q E) := by
  intro pins s σ H x v Q I rx h
  obtain ⟨a, dx, fs, rfl, ea, q⟩ := h
  cases (show v = Value.ref a from rx)
  obtain ⟨ox, od, J⟩ := inst_of I ea
  have z := wpAny_call (run_fnR F hr hx I (Paired.cons (a := V.ref a) (b := Value.ref a) rfl .nil) q)
  rcases s with ⟨hp, g, d, tk, os⟩
  exact PySem.GO.neg_own I.kIn J B.at_ (isFn_ty B.fn) z

/-! ### a == b, a != b -/
structure OwnEq (K : PySem.W.Frag) (C f : Addr) : Prop where
  m : Meth K C "__eq__" f
  n : PySem.W.findIn K (.ref C) "__ne__" = some (some (.builtin "object.__ne__"))
  o : PySem.W.mroIn K C (.type "object") = some true
def rOwnE (K : PySem.W.Frag) (C : Addr) (sp : Sp) (E : XK) : R2 := fun x y H Q => ∃ a dx fs t, x = .ref a ∧ H a = some (.ins C dx fs) ∧ TyX K H y t ∧ PySem.W.notFirst K C t = true ∧ sp [x, y] H Q E
def rOwnN (K : PySem.W.Frag) (C : Addr) (sp : Sp) (E : XK) : R2 := fun x y H Q => ∃ a dx fs t, x = .ref a ∧ H a = some (.ins C dx fs) ∧ TyX K H y t ∧ PySem.W.notFirst K C t = true ∧ sp [x, y] H (fun v H' => ∃ k, v = .bl k ∧ Q (.bl !k) H') E
theorem op_eqO {X : Cx} {CX : CXT} {E : XK} {k : Nat} {sp : Sp} {C f : Addr} (B : OwnEq X.K C f) (F : FnR X.prog X.w X.K X.mg X.base CX k f sp) (hr : Room k X.A) (hx : Passes CX X E) : OpR X (compareOp .Eq) (rOwnE X.K C sp E) := by
  intro pins s σ H x y v u Q I rx ry h
  obtain ⟨a, dx, fs, t, rfl, ea, ty, nf, q⟩ := h
  cases (show v = Value.ref a from rx)
  obtain ⟨ox, od, J⟩ := inst_of I ea
  have z : wpAny (model X.prog X.w) X.A (PySem.call (.ref f) [.ref a, u]) (PySem.W.CmpBack (EP X pins σ Q)) X.xe s := thn (wpAny_call (run_fnR F hr hx I (Paired.cons (a := V.ref a) (b := Value.ref a) rfl (.cons ry .nil)) q)) fun _ _ => notImpl
  have hu : X.A.units < cLine := by have := hr.un; omega
  have lk := ty_look I ry ty
  rcases s with ⟨hp, g, d, tk, os⟩
  show wpAny _ _ (richCompare .Eq (.ref a) u) _ _ _
  have e : PySem.W.findIn X.K (.ref C) (cmpInfo .Eq).2.1 = some (some (.ref f)) := B.m.at_
  exact PySem.GO.cmp_any (op := .Eq) (.inl rfl) hu I.kIn J lk nf e (PySem.W.bind_fn I.kIn _ (isFn_ty B.m.fn)) z
theorem op_neO {X : Cx} {CX : CXT} {E : XK} {k : Nat} {sp : Sp} {C f : Addr} (B : OwnEq X.K C f) (F : FnR X.prog X.w X.K X.mg X.base CX k f sp) (hr : Room (k + 1) X.A) (hx : Passes CX X E) : OpR X (compareOp .NotEq) (rOwnN X.K C sp E) := by
  intro pins s σ H x y v u Q I rx ry h
  obtain ⟨a, dx, fs, t, rfl, ea, ty, nf, q⟩ := h
  cases (show v = Value.ref a from rx)
  obtain ⟨ox, od, J⟩ := inst_of I ea
  have hu : X.A.units + 1 < cLine := by have := hr.un; omega
  have lk := ty_look I ry ty
  have z := run_in1 F hr hx I (Paired.cons (a := V.ref a) (b := Value.ref a) rfl (.cons ry .nil)) q
  rcases s with ⟨hp, g, d, tk, os⟩
  refine PySem.GO.ne_own hu I.kIn J lk nf B.n B.m.at_ (isFn_ty B.m.fn) B.o (thn z ?_)
  rintro v s' ⟨r, H', I', rr, k, rfl, q'⟩
  exact ⟨k, rr, V.bl !k, H', I', rfl, q'⟩

/-! ### x in a -/
theorem op_inO {X : Cx} {CX : CXT} {E : XK} {k : Nat} {sp : Sp} {C f : Addr} (B : Meth X.K C "__contains__" f) (F : FnR X.prog X.w X.K X.mg X.base CX k f sp) (hr : Room k X.A) (hx : Passes CX X E) :
    OpR X (compareOp .In) (fun x y H Q => ∃ a dx fs, y = .ref a ∧ H a = some (.ins C dx fs) ∧ sp [y, x] H (fun v H' => ∃ k, v = .bl k ∧ Q v H') E) := by
  intro pins s σ H x y v u Q I rx ry h
  obtain ⟨a, dx, fs, rfl, ea, q⟩ := h
  cases (show u = Value.ref a from ry)
  obtain ⟨ox, od, J⟩ := inst_of I ea
  have z := wpAny_call (run_fnR F hr hx I (Paired.cons (a := V.ref a) (b := Value.ref a) rfl (.cons rx .nil)) q)
  rcases s with ⟨hp, g, d, tk, os⟩
  show wpAny _ _ (do let b ← contains (.ref a) v; return Value.bool b) _ _ _
  apply wpAny_bind
  refine PySem.GO.in_own I.kIn J B.at_ (isFn_ty B.fn) (thn z ?_)
  rintro w s' ⟨r, H', I', rr, k, rfl, q'⟩
  exact ⟨k, rr, wpAny_pure ⟨V.bl k, H', I', rfl, q'⟩⟩
end GL
set_option maxHeartbeats 1000000
/-! Calls with keywords alone: of defs, methods, classmethods. -/
namespace GL
open PySem PySem.Spec PyProof.Rows L2
theorem callWith_MK0 {A : Around} {E : Value → Shared → Prop} {s : Shared} {K : PySem.W.Frag} {M : Model} {env : Env} {pos : Pos} {first : List Value} {Q : Value → Shared → Prop} {q g : Addr} {self : Value} {kws : List Keyword} (hf : PySem.W.fnIn K g = true)
    (hall : ((backToKw pos (keywordEach kws env)).all fun x => x.fst.isSome) = true)
    (h : wpAny M A (evalAll (List.map (fun x => x.snd) (backToKw pos (keywordEach kws env))))
            (fun ks s₂ => PySem.W.MethP K q g self s₂.heap ∧ wpAny M A (call (.ref q) (first ++ []) ((List.filterMap (fun x => x.fst) (backToKw pos (keywordEach kws env))).zip ks)) Q E s₂) E s)
    (hplain : (((backTo pos (starEach [] env)).any fun x => x.fst) || (backToKw pos (keywordEach kws env)).any fun x => x.fst.isNone) = false) :
    wpAny M A (callWith pos (.ref q) first (backTo pos (starEach [] env)) (backToKw pos (keywordEach kws env))) Q E s :=
  PySem.W.callWith_of hplain (PySem.W.keeps_M hf) (evalArgs_kw2_nil hall h)
section
variable {X : Cx} {CX : CXT} {E : XK} {k n : Nat} {sp : Sp} {C f g : Addr} {fd : FuncData} {ps ks : List Str} {gU : List Value → List Value → List Value} {gV : List V → List V → List V} {kws : List Keyword} {tk : TA} {ta : TE} {o : Expr} {m x : Str} {p pos apos : Pos} {pl : Sem Bool}
theorem code_kw {pins : List (Addr × Obj)} {σ : L2.St} {H : Hp} {s : Shared} {Q : VK} {us ws : List Value} {vs zs : List V} (F : FnOk X.prog X.w X.K X.mg X.base CX k f fd ps sp) (hr : Room k X.A) (hb : KBn X.K fd ps n ks gU gV) (hx : Passes CX X E) (I : Inv X pins σ H s)
    (r : Vals vs us) (rz : Vals zs ws) (l1 : vs.length = n) (l2 : zs.length = ks.length) (q : sp (gV vs zs) H Q E) :
    codeAny (model X.prog X.w) X.A (.call (.ref f) ⟨us, ks.zip ws⟩) (fun r s' => match r with | .ok (.ret v) => EP X pins σ Q v s' | .ok _ => False | .error e => X.xe e s') s := by
  refine codeAny_mono (F.run X.A X.stack s H ⟨us, ks.zip ws⟩ (gU us ws) (gV vs zs) Q E hr I.env0 (hb.to s us ws I.kIn (by rw [← Paired.length r]; exact l1) (by rw [← Paired.length rz]; exact l2)) (hb.rel r rz) q) fun r' s' z => ?_
  match r', z with
  | .error er, z => exact hx pins σ H s er s' I z
  | .ok .next, z => exact False.elim z
  | .ok .brk, z => exact False.elim z
  | .ok .cont, z => exact False.elim z
  | .ok (.ret u), z => exact I.after z
/-- f(k = v, ..) -/
theorem pe_callN0 (F : FnOk X.prog X.w X.K X.mg X.base CX k f fd ps sp) (hr : Room k X.A) (hg : Gl X x) (hm : X.mg x = some (.ref f)) (hk : PySem.W.keepIn X.K (.ref f) = true) (hb : KBn X.K fd ps 0 ks gU gV) (hx : Passes CX X E) (hkw : PK X kws tk)
    (hall : (backToKw pos (keywordEach kws X.env)).all (·.1.isSome) = true := by rfl) (hks : (backToKw pos (keywordEach kws X.env)).filterMap (·.1) = ks := by rfl) (hdb : (x == ("__debug__" : Str)) = false := by decide)
    (hpl : ((backTo pos (starEach [] X.env)).any (·.1) || (backToKw pos (keywordEach kws X.env)).any (·.1.isNone)) = false := by rfl) :
    PE X (.Call (.Name x p) [] kws pos) (fun σ H Q => tk σ H fun zs H1 => zs.length = ks.length ∧ sp (gV [] zs) H1 Q E) := by
  constructor
  intro pins s σ H Q I h
  apply wpAny_Call_Name_kw
  refine ld_glob I hg hm ?_ hdb
  refine PySem.W.callWith_KW0 (h₀ := X.base) I.ok.mod.kin hk hall ?_ hpl
  refine thn (hkw.run pos pins s σ H _ I h) ?_
  rintro ws s2 ⟨zs, H2, I2, rz, l2, q⟩
  refine ⟨I2.kIn, ?_⟩
  rw [hks]
  exact wpAny_call (code_kw F hr hb hx I2 .nil rz rfl l2 q)
/-- o.m(k = v, ..) -/
theorem pe_methN0 (he : PE X o ta) (c : Cls X.K C) (hm : Meth X.K C m f) (F : FnOk X.prog X.w X.K X.mg X.base CX k f fd ps sp) (hr : Room k X.A) (hb : KBn X.K fd ps 1 ks gU gV) (hx : Passes CX X E) (hkw : PK X kws tk)
    (hall : (backToKw pos (keywordEach kws X.env)).all (·.1.isSome) = true := by rfl) (hks : (backToKw pos (keywordEach kws X.env)).filterMap (·.1) = ks := by rfl)
    (hpl : ((backTo pos (starEach [] X.env)).any (·.1) || (backToKw pos (keywordEach kws X.env)).any (·.1.isNone)) = false := by rfl)
    (ht : eval (.Call (.Attribute o m apos) [] kws pos) X.env = (do let ov ← eval o X.env; standAt apos.atName; let (f, first) ← holding [ov] (getMethod ov m pl); callWith pos f first (backTo pos (starEach [] X.env)) (backToKw pos (keywordEach kws X.env))) := by rfl) :
    PE X (.Call (.Attribute o m apos) [] kws pos) (fun σ H Q => ta σ H fun x H1 => ∃ a dx fs, x = .ref a ∧ H1 a = some (.ins C dx fs) ∧ fs.lookup m = none ∧ tk σ H1 fun zs H2 => zs.length = ks.length ∧ sp (gV [x] zs) H2 Q E) := by
  constructor
  intro pins s σ H Q I h
  refine PySem.W.methodCall_KW (thn (he.run pins s σ H _ I h) ?_) ht
  rintro u s1 ⟨x, H1, I1, rx, a, dx, fs, rfl, ea, l, q⟩
  cases (show u = Value.ref a from rx)
  refine getmeth_ok I1 ea c hm l ?_
  refine PySem.W.callWith_KW0 (h₀ := X.base) I.ok.mod.kin hm.kp hall ?_ hpl
  refine thn (hkw.run pos pins s1 σ H1 _ I1 q) ?_
  rintro ws s2 ⟨zs, H2, I2, rz, l2, q⟩
  refine ⟨I2.kIn, ?_⟩
  rw [hks]
  exact wpAny_call (code_kw F hr hb hx I2 (Paired.cons (a := V.ref a) (b := Value.ref a) rfl .nil) rz rfl l2 q)
/-- C.m(k = v, ..), m a classmethod -/
theorem pe_cmethN0 {mc : Value} {pp : Addr} (he : PE X o ta) (r : ClX.CRead X.K C mc) (c : ClX.CMet X.K C mc m pp f) (F : FnOk X.prog X.w X.K X.mg X.base CX k f fd ps sp) (hr : Room k X.A) (hb : KBn X.K fd ps 1 ks gU gV) (hx : Passes CX X E) (hkw : PK X kws tk)
    (hall : (backToKw pos (keywordEach kws X.env)).all (·.1.isSome) = true := by rfl) (hks : (backToKw pos (keywordEach kws X.env)).filterMap (·.1) = ks := by rfl)
    (hpl : ((backTo pos (starEach [] X.env)).any (·.1) || (backToKw pos (keywordEach kws X.env)).any (·.1.isNone)) = false := by rfl)
    (ht : eval (.Call (.Attribute o m apos) [] kws pos) X.env = (do let ov ← eval o X.env; standAt apos.atName; let (f, first) ← holding [ov] (getMethod ov m pl); callWith pos f first (backTo pos (starEach [] X.env)) (backToKw pos (keywordEach kws X.env))) := by rfl) :
    PE X (.Call (.Attribute o m apos) [] kws pos) (fun σ H Q => ta σ H fun x H1 => x = .ref C ∧ tk σ H1 fun zs H2 => zs.length = ks.length ∧ sp (gV [x] zs) H2 Q E) := by
  constructor
  intro pins s σ H Q I h
  refine PySem.W.methodCall_KW (thn (he.run pins s σ H _ I h) ?_) ht
  rintro u s1 ⟨x, H1, I1, rx, rfl, q⟩
  cases (show u = Value.ref C from rx)
  refine ClX.getmethcm_ok I1 r c fun s2 I2 => ?_
  refine callWith_MK0 (K := X.K) (g := f) (self := .ref C) c.fi hall ?_ hpl
  refine thn (hkw.run pos _ s2 σ H1 _ I2 q) ?_
  rintro ws s3 ⟨zs, H3, I3, rz, l2, q⟩
  refine ⟨⟨ClX.pin_at I3, I3.kIn⟩, ?_⟩
  rw [hks]
  have z := wpAny_call (PySem.W.method_call (pos := []) (ClX.pin_at I3) (code_kw F hr hb hx I3 (Paired.cons (a := V.ref C) (b := Value.ref C) rfl .nil) rz rfl l2 q))
  exact thn z fun _ _ y => ClX.unpinE y
end
end GL
set_option maxHeartbeats 4000000
/-! The hook with defs at any place: classmethods, properties. -/
namespace GL
open PySem PySem.Spec PyProof.Rows L2
structure DefX where
  ad : PySem.W.Frag → Addr
  d : He.DefD
def fnX (K : PySem.W.Frag) (x : DefX) : He.FnW := match K.lookup (x.ad K) with
  | some ⟨_, _, .func fd, _⟩ => some (fd.name, fd.qualname, fd.params, fd.body, fd.scope, fd.globals, fd.closure, fd.builtins)
  | _ => none
def okX (K : PySem.W.Frag) (x : DefX) : Bool := PySem.W.keepIn K (.ref (x.ad K)) && match K.lookup (x.ad K) with
  | some ⟨_, _, .func fd, _⟩ => PySem.W.codeIn K fd.code x.d.qual && (He.dflB K fd.defaults (He.DefD.dvs K x.d) && He.kwdB K fd.kwdefaults (He.DefD.kws K x.d))
  | _ => false
theorem funX {K : PySem.W.Frag} {x : DefX} (e : fnX K x = x.d.val) (o : okX K x = true) : ∃ fd, FunD K x.d.name x.d.qual x.d.params x.d.body x.d.scope (He.DefD.dvs K x.d) (He.DefD.kws K x.d) (x.ad K) fd := by
  obtain ⟨kp, o⟩ := He.ba o
  unfold fnX at e
  cases q : K.lookup (x.ad K) with
  | none =>
    rw [q] at o
    cases o
  | some ob =>
    obtain ⟨oc, od, dt, osl⟩ := ob
    rw [q] at e o
    cases dt with
    | func fd =>
      obtain ⟨n1, n2, n3, n4, n5, n6, n7, n8, n9, n10, n11, n12, n13, n14, n15⟩ := fd
      have e2 : some (n1, n2, n3, n4, n5, n6, n7, n15) = some (x.d.name, x.d.qual, x.d.params, FuncBody.stmts x.d.body, x.d.scope, mainGlobals, [], builtinsNs) := e
      simp only [Option.some.injEq, Prod.mk.injEq] at e2
      obtain ⟨rfl, rfl, rfl, rfl, rfl, rfl, rfl, rfl⟩ := e2
      obtain ⟨c1, c2⟩ := He.ba o
      obtain ⟨c2, c3⟩ := He.ba c2
      exact ⟨_, ⟨oc, od, n8, n9, n10, n11, n12, n13, n14, osl, rfl, q, c1, He.dflB_ok c2, He.kwdB_ok c3⟩, kp⟩
    | _ => cases o
def SaysX (fx : List DefX) (K : PySem.W.Frag) : Prop := fx.map (fnX K) = fx.map (fun x => x.d.val) ∧ fx.all (okX K) = true
theorem SaysX.def_ {fx : List DefX} {K : PySem.W.Frag} (c : SaysX fx K) (i : Nat) {x : DefX} (h : fx[i]? = some x := by rfl) :
    ∃ fd, FunD K x.d.name x.d.qual x.d.params x.d.body x.d.scope (He.DefD.dvs K x.d) (He.DefD.kws K x.d) (x.ad K) fd := by
  refine funX ?_ (List.all_eq_true.mp c.2 x (List.mem_of_getElem? h))
  have e : (fx.map (fnX K))[i]? = (fx.map (fun x => x.d.val))[i]? := by rw [c.1]
  rw [List.getElem?_map, List.getElem?_map, h] at e
  exact Option.some.inj e
abbrev AlZ : Type := He.AlD × (List He.FnW × Bool)
def obsZ (n : Nat) (fa : List He.Fa) (fn : List He.DefD) (fx : List DefX) (ex : PySem.W.Frag → Bool) (g : Addr → Option Obj) : AlZ := (He.obsD fa fn (kOf n g), (fx.map (fnX (kOf n g)), fx.all (okX (kOf n g)) && ex (kOf n g)))
def hookZ (n : Nat) (fa : List He.Fa) (fn : List He.DefD) (fx : List DefX) (ex : PySem.W.Frag → Bool) : PySem.W.Hook where
  α := AlZ
  obs := fun s => obsZ n fa fn fx ex s.heap.get?
  val := fun _ => (He.valD fn, (fx.map (fun x : DefX => x.d.val), true))
  says := fun _ h => ∃ K : PySem.W.Frag, K.In h ∧ He.SaysD fa fn K ∧ SaysX fx K ∧ ex K = true
  of := fun _ s e => ⟨kOf n s.heap.get?, He.frG_in, congrArg (fun z : AlZ => z.1) e, ⟨congrArg (fun z : AlZ => z.2.1) e, (He.ba (show (fx.all (okX (kOf n s.heap.get?)) && ex (kOf n s.heap.get?)) = true from congrArg (fun z : AlZ => z.2.2) e)).1⟩, (He.ba (show (fx.all (okX (kOf n s.heap.get?)) && ex (kOf n s.heap.get?)) = true from congrArg (fun z : AlZ => z.2.2) e)).2⟩
  keeps := fun _ _ _ ⟨K, hK, c⟩ k => ⟨K, PySem.W.Frag.In.keeps hK k, c⟩
theorem obsZ_eq {n : Nat} {fa : List He.Fa} {fn : List He.DefD} {fx : List DefX} {ex : PySem.W.Frag → Bool} {g : Addr → Option Obj} {s : Shared} (h : ∀ a, g a = s.heap.get? a) : obsZ n fa fn fx ex g = (hookZ n fa fn fx ex).obs s := by
  have e : g = s.heap.get? := funext h
  rw [e]
  rfl
/-! ### where a classmethod's, a property's def stands -/
def wrapAt (K : PySem.W.Frag) (C : Addr) (m : Str) (T : String) : Addr := match PySem.W.recIn K (He.ma K C m) T with
  | some (.ref g :: _) => g
  | _ => 0
def propB (K : PySem.W.Frag) (C : Addr) (f : Str) : Bool := He.eqO (PySem.W.findIn K (.ref C) f) (some (some (.ref (He.ma K C f)))) && (He.eqO (PySem.W.specialIn K (.ref (He.ma K C f)) "__get__") (some (some (.builtin "property.__get__"))) &&
  (decide (PySem.W.takesIn K (.ref (He.ma K C f)) = some true) && (match PySem.W.recIn K (He.ma K C f) "property" with | some (.ref _ :: _) => true | _ => false)))
theorem propB_ok {K : PySem.W.Frag} {C : Addr} {f : Str} (h : propB K C f = true) : PropOf K C f (He.ma K C f) (wrapAt K C f "property") := by
  obtain ⟨h1, h⟩ := He.ba h
  obtain ⟨h2, h⟩ := He.ba h
  obtain ⟨h3, h4⟩ := He.ba h
  refine ⟨He.eqO_ok h1, He.eqO_ok h2, of_decide_eq_true h3, ?_⟩
  unfold wrapAt
  split at h4
  · rename_i g rest e
    exact ⟨rest, by rw [e]⟩
  · cases h4
def cmetB (K : PySem.W.Frag) (C : Addr) (mc : Value) (m : Str) : Bool := (match PySem.W.findCls K (.ref C) mc m with | some (.get (.builtin i) (.ref p) .none (.ref C')) => i == "classmethod.__get__" && (p == He.ma K C m && C' == C) | _ => false) &&
  ((match PySem.W.recIn K (He.ma K C m) "classmethod" with | some (.ref _ :: _) => true | _ => false) && PySem.W.fnIn K (wrapAt K C m "classmethod"))
theorem cmetB_ok {K : PySem.W.Frag} {C : Addr} {mc : Value} {m : Str} (h : cmetB K C mc m = true) : ClX.CMet K C mc m (He.ma K C m) (wrapAt K C m "classmethod") := by
  obtain ⟨h1, h⟩ := He.ba h
  obtain ⟨h2, h3⟩ := He.ba h
  refine ⟨?_, ?_, h3⟩
  · split at h1
    · rename_i i p C' e
      simp only [Bool.and_eq_true, beq_iff_eq] at h1
      obtain ⟨rfl, rfl, rfl⟩ := h1
      exact e
    · cases h1
  · unfold wrapAt
    split at h2
    · rename_i g rest e
      exact ⟨rest, by rw [e]⟩
    · cases h2
end GL
set_option maxHeartbeats 4000000
namespace K18
open PySem PySem.Spec PyProof.Rows L2 GL
def tp (i : Nat) : Stmt := PySem.Challenge.pw_fademodes_k10_whole_ratios.main.body.getD i (.Pass ⟨0, 0, 0, 0⟩)
abbrev sIsInt : Stmt := tp 7
abbrev sIsNum : Stmt := tp 9
abbrev sRatio (j : Nat) : Stmt := inClass (tp 10) j
abbrev sRatiosOf : Stmt := tp 11
end K18
set_option maxHeartbeats 4000000
/-! The hook of GH with the interpreter's own statics among what K holds; keywords of defs without defaults. -/
namespace GL
open PySem PySem.Spec PyProof.Rows L2
/-- what an object names that a law's facts ask: a namespace's values, a def's code and defaults, a class's namespace, a record's fields -/
def refsT (o : Obj) : List Addr := match o.data with
  | .dict es _ => es.toList.flatMap fun e => He.refV e.val
  | .func fd => He.refV fd.code ++ He.refV fd.defaults
  | .cls cd => [cd.ns]
  | .fields vs => vs.toList.flatMap He.refV
  | _ => []
def nextT (g : Addr → Option Obj) (as : List Addr) : List Addr := as.flatMap fun a => match g a with
  | some o => refsT o
  | none => []
def lvls (g : Addr → Option Obj) : Nat → List Addr → List Addr
  | 0, as => as
  | n + 1, as => as ++ lvls g n (nextT g as)
def kOfT (n : Nat) (g : Addr → Option Obj) : PySem.W.Frag := He.frG g (cStatics :: sysModules :: lvls g n [mainGlobals])
def obsT (n : Nat) (fa : List He.Fa) (fn : List He.DefD) (fx : List DefX) (ex : PySem.W.Frag → Bool) (g : Addr → Option Obj) : AlZ := (He.obsD fa fn (kOfT n g), (fx.map (fnX (kOfT n g)), fx.all (okX (kOfT n g)) && ex (kOfT n g)))
def hookT (n : Nat) (fa : List He.Fa) (fn : List He.DefD) (fx : List DefX) (ex : PySem.W.Frag → Bool) : PySem.W.Hook where
  α := AlZ
  obs := fun s => obsT n fa fn fx ex s.heap.get?
  val := fun _ => (He.valD fn, (fx.map (fun x : DefX => x.d.val), true))
  says := fun _ h => ∃ K : PySem.W.Frag, K.In h ∧ He.SaysD fa fn K ∧ SaysX fx K ∧ ex K = true
  of := fun _ s e => ⟨kOfT n s.heap.get?, He.frG_in, congrArg (fun z : AlZ => z.1) e, ⟨congrArg (fun z : AlZ => z.2.1) e, (He.ba (show (fx.all (okX (kOfT n s.heap.get?)) && ex (kOfT n s.heap.get?)) = true from congrArg (fun z : AlZ => z.2.2) e)).1⟩, (He.ba (show (fx.all (okX (kOfT n s.heap.get?)) && ex (kOfT n s.heap.get?)) = true from congrArg (fun z : AlZ => z.2.2) e)).2⟩
  keeps := fun _ _ _ ⟨K, hK, c⟩ k => ⟨K, PySem.W.Frag.In.keeps hK k, c⟩
theorem obsT_eq {n : Nat} {fa : List He.Fa} {fn : List He.DefD} {fx : List DefX} {ex : PySem.W.Frag → Bool} {g : Addr → Option Obj} {s : Shared} (h : ∀ a, g a = s.heap.get? a) : obsT n fa fn fx ex g = (hookT n fa fn fx ex).obs s := by
  have e : g = s.heap.get? := funext h
  rw [e]
  rfl
/-- every parameter but the first n is named -/
theorem kbn {K : PySem.W.Frag} {x qual : Str} {params : Arguments} {body : List Stmt} {scope : Scope} {kws : List (Str × V)} {f : Addr} {fd : FuncData} {ps : List Str} (F : FunD K x qual params body scope [] kws f fd) (n : Nat) (ks : List Str) (gU : List Value → List Value → List Value) (gV : List V → List V → List V)
    (hrel : ∀ {vs zs : List V} {us ws : List Value}, Vals vs us → Vals zs ws → Vals (gV vs zs) (gU us ws))
    (h : ∀ (kV doc pm : Value) (an : Option Addr) (cdv ct : Value) (us ws : List Value), us.length = n → ws.length = ks.length → bindArgs (PySem.W.fnOf x qual params body scope .none kV doc pm an cdv ct) ⟨us, ks.zip ws⟩ = pure (ps.zip (gU us ws))) : KBn K fd ps n ks gU gV := by
  obtain ⟨oc, od, dV, kV, doc, pm, an, cdv, ct, osl, rfl, lk, hcd, hD, hK⟩ := F.ex
  rcases hD with ⟨_, rfl⟩ | ⟨e, _⟩
  · exact ⟨fun s us ws _ l1 l2 => .of_eq (h kV doc pm an cdv ct us ws l1 l2), fun r z => hrel r z⟩
  · exact absurd rfl e
theorem Vals.rev : ∀ {vs : List V} {us : List Value}, Vals vs us → Vals vs.reverse us.reverse
  | _, _, .nil => .nil
  | _, _, .cons a b => by
    rw [List.reverse_cons, List.reverse_cons]
    exact (Vals.rev b).append (.cons a .nil)
end GL
namespace GL
open PySem PySem.Spec PyProof.Rows L2
section
open HandSHeadRun
/-- the head's run, put together from what it shows of its parts: each is computed by itself -/
theorem run_parts {r : PySem.W.OpenRow} {q : Program} {n : Nat} {fa : List He.Fa} {fn : List He.DefD} {fx : List DefX} {ex : PySem.W.Frag → Bool} {M : Nat} {loose : List PySem.Str} {w : World}
    (h1 : (wholeF (fun p => stepQ (denQ tabQ) p w) fenceQ M r.prog).map (fun x => (looksF r.prog x.1.heap x.2.abs, seenQ q loose (importedModules r.prog.main.body) (fun s => PySem.W.xlAt q [] s && PySem.W.recOk r.toRowW.records s) x.2.abs)) = some (true, PySem.W.openGood q loose))
    (h2 : (wholeF (fun p => stepQ (denQ tabQ) p w) fenceQ M r.prog).map (fun x => He.obsD fa fn (kOfT n (getT x.2))) = some (He.valD fn))
    (h3 : (wholeF (fun p => stepQ (denQ tabQ) p w) fenceQ M r.prog).map (fun x => (fx.map (fnX (kOfT n (getT x.2))), fx.all (okX (kOfT n (getT x.2))) && ex (kOfT n (getT x.2)))) = some (fx.map (fun x : DefX => x.d.val), true)) :
    RunEqI r q (hookT n fa fn fx ex) (fun s => obsT n fa fn fx ex (getT s)) M loose w := by
  unfold RunEqI
  cases e : wholeF (fun p => stepQ (denQ tabQ) p w) fenceQ M r.prog with
  | none =>
    rw [e] at h1
    cases h1
  | some x =>
    rw [e] at h1 h2 h3
    have a1 := Option.some.inj h1
    have a2 := Option.some.inj h2
    have a3 := Option.some.inj h3
    obtain ⟨b1, b2⟩ := Prod.mk.inj a1
    refine congrArg some (Prod.ext b1 (Prod.ext b2 ?_))
    exact Prod.ext a2 a3
end
end GL
set_option maxHeartbeats 4000000
/-! Errors of the program raised and caught: raise C(e, ..) of a class of errors with an __init__ that stores its parameters; several clauses with names; a field of what was caught. -/
namespace GL
open PySem PySem.Spec PyProof.Rows L2
/-! ### raise C(e, ..) -/
theorem XC.isType {K : PySem.W.Frag} {C : Addr} {b : EB} (T : XC K C b) : PySem.W.typeIn K (.ref C) = some (.type "type") := by
  obtain ⟨nm, q, N, bs, bm, sn, sub, ab, col, dd, k0, k1, k2, k3, k5, hC, _⟩ := T.cls
  show Option.map (fun x => x.cls) (List.lookup C K) = _
  rw [hC]
  rfl
/-- C(e, ..) made, to be raised: fl its fields -/
def tRaise (C : Addr) (fl : List Str) (t : TA) : L2.St → Hp → XK → Prop := fun σ H Q => t σ H fun vs H1 => vs.length = fl.length ∧ vs.length ≤ 1000 ∧ ∀ d H2, Same H1 H2 → H1 d = none → H2 d = some (.xd (fl.zip vs).reverse) → Q (.ref C) (some d) H2
section
variable {X : Cx} {x : Str} {C fI : Addr} {b : EB} {k : Nat} {fd : FuncData} {ps : List Str} {fl : List Str} {e : Expr} {es : List Expr} {ta : TA} {p pos : Pos}
theorem pmk_x (T : XC X.K C b) (iC : PySem.W.findIn X.K (.ref C) "__init__" = some (some (.ref fI))) (tI : PySem.W.typeIn X.K (.ref fI) = some (.type "function")) (F1 : FnOk X.prog X.w X.K X.mg X.base CX0 k fI fd ps (spInit C fl))
    (hr : Room (k + 1) X.A) (hb : Binds X.K fd ps []) (hg : Gl X x) (hm : X.mg x = some (.ref C)) (ha : PA X (e :: es) ta) (hdb : (x == ("__debug__" : Str)) = false := by decide)
    (he : starEach (e :: es) X.env = (false, eval e X.env) :: starEach es X.env := by rfl) (hpl : (backTo pos (starEach es X.env)).any (·.1) = false := by rfl) : PMk X (.Call (.Name x p) (e :: es) [] pos) (tRaise C fl ta) := by
  intro pins s σ H Q I h
  apply wpAny_Call_Name_kw
  refine ld_glob I hg hm ?_ hdb
  refine PySem.W.callWith_K (h₀ := X.base) I.ok.mod.kin T.keep (thn (ha.run pos pins s σ H _ I h) ?_) he hpl
  rintro us s1 ⟨vs, H1, I1, r1, len, small, q⟩
  refine ⟨I1.kIn, ?_⟩
  obtain ⟨nm, qn, N, bs, bm, sn, sub, ab, col, dd, k0, k1, k2, k3, k5, hC, hbm⟩ := T.cls
  obtain ⟨i, FB⟩ := b.base
  rcases s1 with ⟨hp, g, dr, tk, os⟩
  have le1 : hp.objs.size ≤ hp.objs.size + 1 := Nat.le_succ _
  have free : H1 (hp.objs.size + 1) = none := I1.hok.fresh le1
  have kk : ∀ b o, hp.get? b = some o → ((hp.push (PySem.W.kdv_tup us)).push (PySem.HandSPX.excO C hp.objs.size)).get? b = some o := fun b o z => Heap.get?_push_of_some _ (Heap.get?_push_of_some _ z)
  have at_ : ((hp.push (PySem.W.kdv_tup us)).push (PySem.HandSPX.excO C hp.objs.size)).get? (hp.objs.size + 1) = some (PySem.HandSPX.excO C hp.objs.size) := by heap_get
  have J : Inv X pins σ (upd H1 (hp.objs.size + 1) (exo (hp.objs.size + 1) C none)) ⟨(hp.push (PySem.W.kdv_tup us)).push (PySem.HandSPX.excO C hp.objs.size), g, dr, tk, os⟩ := I1.laid (t' := tk) kk le1 (exo_ok at_)
  have rr : Vals (V.ref (hp.objs.size + 1) :: vs) (Value.ref (hp.objs.size + 1) :: us) := .cons rfl r1
  have le2 : us.length ≤ sizeLine := by
    rw [← Paired.length r1, sizeLine_eq]
    omega
  have hq : spInit C fl (.ref (hp.objs.size + 1) :: vs) (upd H1 (hp.objs.size + 1) (exo (hp.objs.size + 1) C none)) (fun v H2 => v = .non ∧ ∃ d, H2 (hp.objs.size + 1) = some (exo (hp.objs.size + 1) C (some d)) ∧ H2 d = some (exd d (fl.zip vs).reverse) ∧ H1 d = none ∧
      Q (.ref C) (some d) (upd (del H2 (hp.objs.size + 1)) d (.xd (fl.zip vs).reverse))) E0 := by
    refine ⟨_, vs, rfl, len, upd_same, fun dx H' n1 n2 o1 o2 kp => ⟨rfl, dx, o1, o2, ?_, ?_⟩⟩
    · rw [upd_ne n2] at n1
      exact n1
    · rw [upd_ne n2] at n1
      refine q dx _ (fun c o z => ?_) n1 upd_same
      have c1 : c ≠ hp.objs.size + 1 := ne_of_none z free
      have c2 : c ≠ dx := ne_of_none z n1
      rw [upd_ne c2, del_ne c1]
      exact kp c o (by rw [upd_ne c1]; exact z) c1
  have hlen := F1.len _ _ _ _ hq
  show wpAny _ _ (PySem.call (.ref C) us) _ _ _
  refine wpAny_call (PySem.GX.made FB (fun Y => PySem.W.excTail_contains Y bm hbm) (I1.kIn _ _ hC) (PySem.W.looks_findIn I1.kIn iC) (fun self => PySem.W.bind_fn I1.kIn self tI) le2 ?_)
  have bnd : BindsTo ⟨(hp.push (PySem.W.kdv_tup us)).push (PySem.HandSPX.excO C hp.objs.size), g, dr, tk, os⟩ fd ⟨Value.ref (hp.objs.size + 1) :: us, []⟩ (ps.zip (Value.ref (hp.objs.size + 1) :: us)) := by
    have z := hb _ (Value.ref (hp.objs.size + 1) :: us) J.kIn (by rw [List.append_nil, ← hlen, List.length_cons, List.length_cons, Paired.length r1])
    simpa using z
  refine codeAny_mono (F1.run _ X.stack _ _ ⟨Value.ref (hp.objs.size + 1) :: us, []⟩ (Value.ref (hp.objs.size + 1) :: us) _ _ E0 (hr.make C us []) (J.env0.make C us []) bnd rr hq) ?_
  intro r' s' z
  match r', z with
  | .error er, z => exact False.elim z
  | .ok .next, z => exact False.elim z
  | .ok .brk, z => exact False.elim z
  | .ok .cont, z => exact False.elim z
  | .ok (.ret u), z =>
    obtain ⟨v, H2, os2, bare2, un2, hok2, rv, rfl, d, o1, o2, n1, w⟩ := z
    obtain ⟨h2, g2, d2, t2, os'⟩ := s'
    exact ⟨rv, mk_end (raises_own T.exB T.isType) I1 le1 kk un2 hok2 os2 bare2 o1 o2 n1 w⟩
end

/-! ### several clauses, each with a name -/
/-- the ends of a clause's suite: its name (slot i) is gone -/
def gone (D : Ends) (i : Nat) : Ends := { nx := fun z H' => D.nx (z.set i none) H', rt := D.rt, bk := fun z H' => D.bk (z.set i none) H', ct := fun z H' => D.ct (z.set i none) H' }
abbrev Clause : Type := Value × Nat × (Addr → Value → Option Addr → TS)
/-- what the clauses wish of an exception of the body -/
def wNamed (K : PySem.W.Frag) (W0 : WX) (D : Ends) : List Clause → WX
  | [] => W0
  | (c, i, ts) :: rest => fun cls d z H => ∃ hit, PySem.W.exmOne K cls c = some hit ∧ (hit = true → ∀ a, H a = none → ts a cls d (gone D i) (z.set i (some (.ref a))) H) ∧ (hit = false → wNamed K W0 D rest cls d z H)
inductive Clauses (X : Cx) : List ExceptHandler → List Clause → Prop
  | nil : Clauses X [] []
  | cons {x n : Str} {c : Value} {i : Nat} {ts : Addr → Value → Option Addr → TS} {b₀ : Stmt} {suite : List Stmt} {q1 q2 : Pos} {hds : List ExceptHandler} {rest : List Clause} (slot : X.N[i]? = some n) (own : X.env.kindOf n = some .local) (hc : Names X x c)
      (run : ∀ (a : Addr) (oe : Obj) (cls : Value) (d : Option Addr) (pn : List (Addr × Obj)), Zc cls d oe → (∃ vs, oe.data = .fields vs) → PSs (X.suite a ((a, oe) :: pn)) (b₀ :: suite) (ts a cls d)) (more : Clauses X hds rest) :
      Clauses X (.ExceptHandler (some (.Name x q1)) (some n) (b₀ :: suite) q2 :: hds) ((c, i, ts) :: rest)
section
variable {X : Cx} {pins : List (Addr × Obj)} {z z' : L2.St} {H H' : Hp} {s s' sI : Shared} {D : Ends}
/-- behind a suite: the name is taken away -/
theorem suite_end {n : Str} {i : Nat} {a : Addr} {oe : Obj} {pos : Pos} {Q : Shared → Prop} (ok : X.Ok) (hN : X.N.Nodup) (slot : X.N[i]? = some n) (own : X.env.kindOf n = some .local)
    (S : Inv (X.suite a ((a, oe) :: (X.pn ++ pins))) [] z H s) (h : ∀ s2, Inv X pins (z.set i none) H s2 → Q s2) :
    wpAny (model X.prog X.w) X.A (do bindName X.env n .none; unbindBehindTheSuite X.env n pos) (fun _ s2 => Q s2) X.xe s := gone_ok (S.unsuite ok) hN slot own h
theorem in_clauses {W0 : WX} {B : Heap} {a : Addr} {cls : Value} {d : Option Addr} (tk : Takes X W0) (hs : X.stack = X.env :: X.outer) (hf : X.env.frame = some X.env.locals) (hN : X.N.Nodup) (I : Inv X pins z H sI)
    (nb : ∀ b o, sI.heap.get? b = some o → b ∉ frs X.stack → B.get? b = some o) (up : sI.heap.UpToSlots s.heap) (fl : HandSPX.FlyingZ B (X.env :: X.outer) a (Zc cls d) s.heap) (na : H a = none) (os : s.os = sI.os) (ag : AllBare s.gens)
    {hds : List ExceptHandler} {l : List Clause} (hk : Clauses X hds l) (w : wNamed X.K W0 D l cls d z H) : wpAny (model X.prog X.w) X.A (handleBy (.ref a) X.env hds) (SP X pins D) X.xe s := by
  have ok := I.ok
  have landed : Inv X pins z H s := I.landed nb fl.1 up os ag
  have apart : ∀ {h : Heap}, HandSPX.FlyingZ B (X.env :: X.outer) a (Zc cls d) h → a ≠ X.env.locals ∧ a ∉ X.fs := by
    intro h f
    obtain ⟨oe, vs, e1, _, e3⟩ := f.there
    have nm : a ∉ frs (X.env :: X.outer) := fun m => by
      obtain ⟨_, o', e', no⟩ := f.2.2.1.mem m
      rw [e1] at e'
      cases e'
      exact no _ e3
    refine ⟨fun q => nm (List.mem_filterMap.mpr ⟨X.env, List.mem_cons_self, by rw [hf, q]⟩), fun m => ?_⟩
    obtain ⟨e, he, q⟩ := List.mem_filterMap.mp m
    exact nm (List.mem_filterMap.mpr ⟨e, List.mem_cons_of_mem _ he, q⟩)
  obtain ⟨nL, nF⟩ := apart fl
  induction hk with
  | nil =>
    refine wpAny_handleBy_nil ?_
    obtain ⟨_, _, _, oe, vs, T, oT, ts', e0, _, e2, e3, _⟩ := id fl
    unfold PySem.passOn
    refine wpAny_bind (wpAny_field e0 e2 e3 ?_)
    have notNone : ¬ ((Value.ref T == Value.none) = true) := by simp
    rw [if_neg notNone]
    have last : wpAny (model X.prog X.w) X.A (setFlight (.ref a) X.env.frame) (fun _ s4 => wpAny (model X.prog X.w) X.A (throw (.ref a) : Sem Flow) (SP X pins D) X.xe s4) X.xe s := by
      rw [hf]
      refine HandSPX.setFlight_upZ fl fun h4 held up4 => wpAny_throw (tk _ _ ⟨a, B, sI, pins, z, H, cls, d, rfl, I, nb, up.trans up4, .inr (.inr ?_), na, os, ag, w⟩)
      rw [hs]
      exact held
    first
      | exact wpAny_bind last
      | exact wpAny_bind (wpAny_pure (wpAny_bind last))
  | @cons x n c i ts b₀ suite q1 q2 hds rest slot own hc run more ih =>
    obtain ⟨hit, m, yes, no⟩ := w
    obtain ⟨oe, vs, e1, e2, e3⟩ := fl.there
    have S0 := landed.suite e1 e3 na nL nF
    refine wpAny_handleBy_cons (codeAny_handlers_test ?_) (fun q => nomatch q)
    have ty : PySem.W.Looks (model X.prog X.w) s.heap (typeOf (.ref a)) cls := fun A Q E s k q => wpAny_typeOf_ref (k _ _ e1) (by rw [e2.1]; exact q)
    have mt := PySem.W.exm_one (M := model X.prog X.w) landed.kIn ty m
    have named : ∀ {Q : Value → Shared → Prop} {E : Value → Shared → Prop}, Q c s → wpAny (model X.prog X.w) (X.A.mark (some (.ref a))) (eval (.Name x q1) X.env) Q E s := by
      intro Q E q
      rcases hc with ⟨g, db, hm | ⟨hm, hv, hnn⟩⟩
      · exact ld_glob (X := X.suite a ((a, oe) :: (X.pn ++ pins))) S0 g hm q db
      · exact ld_blt (X := X.suite a ((a, oe) :: (X.pn ++ pins))) S0 g hm hv q hnn db
    apply named
    refine mt.here ?_
    cases hit with
    | false => exact ih (no rfl)
    | true =>
      refine codeAny_handlers_suite_as ?_
      refine HandSPX.lands_againZ fl fun h4 fl4 up4 => ?_
      have J4 : Inv X pins z H { s with heap := h4 } := I.landed nb fl4.1 (up.trans up4) os ag
      obtain ⟨oe4, vs4, f1, f2, f3⟩ := fl4.there
      obtain ⟨mL, mF⟩ := apart fl4
      refine store_ok (X := X.suite a ((a, oe4) :: (X.pn ++ pins))) (v := .ref a) (J4.suite f1 f3 na mL mF) hN slot (.inl own) rfl (fun s5 S5 => ?_) (.inr own)
      refine wpAny_mono ((run a oe4 cls d (X.pn ++ pins) f2 ⟨_, f3⟩).run [] s5 _ H _ S5 (yes rfl a na)) ?_ fun _ _ q => False.elim q
      intro f s6 hsp
      match f, hsp with
      | .next, hsp =>
        obtain ⟨z6, H6, S6, w6⟩ := hsp
        exact suite_end ok hN slot own S6 fun s7 J7 => ⟨_, _, J7, w6⟩
      | .brk, hsp =>
        obtain ⟨z6, H6, S6, w6⟩ := hsp
        exact suite_end ok hN slot own S6 fun s7 J7 => ⟨_, _, J7, w6⟩
      | .cont, hsp =>
        obtain ⟨z6, H6, S6, w6⟩ := hsp
        exact suite_end ok hN slot own S6 fun s7 J7 => ⟨_, _, J7, w6⟩
      | .ret u, hsp =>
        obtain ⟨v6, z6, H6, S6, r6, w6⟩ := hsp
        exact suite_end ok hN slot own S6 fun s7 J7 => ⟨_, _, _, J7, r6, w6⟩
theorem ps_try_named {body : List Stmt} {h₀ : ExceptHandler} {hds : List ExceptHandler} {l : List Clause} {pos : Pos} {tb : WX → TS} {W0 : WX} (hs : X.stack = X.env :: X.outer) (hf : X.env.frame = some X.env.locals) (hN : X.N.Nodup) (tk : Takes X W0)
    (hb : ∀ (W : WX) (pn : List (Addr × Obj)) (xe : Value → Shared → Prop), Takes (X.tr pn xe) W → PSs (X.tr pn xe) body (tb W)) (hh : Clauses X (h₀ :: hds) l) :
    PS X (.Try body (h₀ :: hds) [] [] pos) (fun D z H => tb (wNamed X.K W0 D l) D z H) := by
  constructor
  intro pins s z H D I h
  have ok := I.ok
  have frames : X.A.frames = some (X.env :: X.outer) := by rw [ok.frames, hs]
  apply wpAny_Try_except
  refine wpAny_mono ((hb (wNamed X.K W0 D l) (X.pn ++ pins) _ ?_).run [] s z H D (I.toTry _) h) ?_ fun e s1 q => q
  · intro u s' xx
    obtain ⟨a, B, sI, pins', z', H', cls, d, rfl, J', nb, up, sky, na, os, ag, w⟩ := xx
    have sky' : Sky B (X.env :: X.outer) a (Zc cls d) X.env.locals s'.heap := by
      rw [← hs]
      exact sky
    show wpAny (model X.prog X.w) X.A (noteFrame (.ref a) X.env) _ _ _
    refine Sky.land Zc.steady frames hf sky' fun h3 fl3 up3 => ?_
    exact in_clauses (s := { s' with heap := h3 }) tk hs hf hN (J'.ofTry ok) nb (up.trans up3) fl3 na os ag hh w
  · intro f s1 hsp
    match f, hsp with
    | .next, hsp =>
      obtain ⟨z', H', J', q⟩ := hsp
      exact wpAny_execs_nil ⟨z', H', J'.ofTry ok, q⟩
    | .brk, hsp =>
      obtain ⟨z', H', J', q⟩ := hsp
      exact ⟨z', H', J'.ofTry ok, q⟩
    | .cont, hsp =>
      obtain ⟨z', H', J', q⟩ := hsp
      exact ⟨z', H', J'.ofTry ok, q⟩
    | .ret u, hsp =>
      obtain ⟨v, z', H', J', r, q⟩ := hsp
      exact ⟨v, z', H', J'.ofTry ok, r, q⟩
end
end GL
set_option maxHeartbeats 4000000
/-! What was caught: its fields, isinstance. -/
namespace GL
open PySem PySem.Spec PyProof.Rows L2
/-- the caught error's fields: d its dict -/
def Fields (H : Hp) (d : Option Addr) (fs : List (Str × V)) : Prop := (d = none ∧ fs = []) ∨ ∃ dx, d = some dx ∧ H dx = some (.xd fs)
section
variable {X : Cx} {a C : Addr} {oe : Obj} {pn : List (Addr × Obj)} {d : Option Addr} {b : EB} {e : Expr} {te : TE} {f : Str} {pos : Pos}
theorem caught_inst {pins : List (Addr × Obj)} {z : L2.St} {H : Hp} {s : Shared} {fs : List (Str × V)} (I : Inv (X.suite a ((a, oe) :: pn)) pins z H s) (hz : Zc (.ref C) d oe) (hf : ∃ vs, oe.data = .fields vs) (hd : Fields H d fs) :
    ∃ od, PySem.W.InstAt s.heap a oe C od ∧ ∀ f v, fs.lookup f = some v → ∃ u oD, od = some oD ∧ RelV v u ∧ PySem.W.lookIn f oD = some (some u) := by
  have there : s.heap.get? a = some oe := (I.pin (a, oe) (List.mem_append.mpr (.inl List.mem_cons_self))).1
  obtain ⟨vs, hv⟩ := hf
  obtain ⟨oc, od, dt, sl⟩ := oe
  obtain ⟨h1, h2⟩ := hz
  dsimp only at h1 h2 hv
  subst h1 h2 hv
  rcases hd with ⟨rfl, rfl⟩ | ⟨dx, rfl, hx⟩
  · exact ⟨none, ⟨there, rfl, rfl, trivial⟩, fun f v z => nomatch z⟩
  · obtain ⟨mA, hns, hr⟩ := I.hok dx _ hx
    obtain ⟨oD, hD, look⟩ := lookIn_ns hns
    refine ⟨some oD, ⟨there, rfl, rfl, hD⟩, fun f v z => ?_⟩
    obtain ⟨u, hu, ru⟩ := RelO.some_of (v := v) (o := mA f) (by rw [← z]; exact hr f)
    exact ⟨u, oD, rfl, ru, by rw [look, hu]⟩
/-- e.f, e what was caught -/
def tCaught (K : PySem.W.Frag) (C a : Addr) (cls : Value) (d : Option Addr) (te : TE) (f : Str) : TE := fun z H Q => te z H fun x H1 => x = .ref a ∧ cls = .ref C ∧ ∃ (fs : List (Str × V)) (v : V), PySem.W.findIn K (.ref C) f = some none ∧ Fields H1 d fs ∧ fs.lookup f = some v ∧ Q v H1
theorem pe_caught {cls : Value} (T : XC X.K C b) (hz : Zc cls d oe) (hf : ∃ vs, oe.data = .fields vs) (he : PE (X.suite a ((a, oe) :: pn)) e te) (hb : attributeBase e f X.env (eval e X.env) = eval e X.env := by rfl) : PE (X.suite a ((a, oe) :: pn)) (.Attribute e f pos) (tCaught X.K C a cls d te f) := by
  constructor
  intro pins s z H Q I h
  refine attr_of hb (thn (he.run pins s z H _ I h) ?_)
  rintro u s1 ⟨x, H1, I1, rx, rfl, rfl, fs, v, no, hd, l, q⟩
  cases (show u = Value.ref a from rx)
  obtain ⟨od, J, look⟩ := caught_inst I1 hz hf hd
  obtain ⟨u, oD, rfl, ru, hl⟩ := look f v l
  obtain ⟨cd, hcl, _, hdct⟩ := T.data
  have has : PySem.W.hasDictIn X.K C = true := by
    unfold PySem.W.hasDictIn
    rw [hcl]
    exact hdct
  exact HandSPX.exc_get I1.kIn J T.ga T.gg T.exB (PySem.W.findObj_own has no rfl hl) (handed_of ru) ⟨v, H1, I1.tok _, ru, q⟩
/-- isinstance(e, c) -/
def rCaughtIs (K : PySem.W.Frag) (C a : Addr) (cls : Value) (d : Option Addr) : List V → Hp → VK → Prop := fun xs H Q => ∃ (c : V) (cv : Value) (k : Bool) (fs : List (Str × V)), xs = [.ref a, c] ∧ cls = .ref C ∧ Fields H d fs ∧ ClsV c cv ∧ PySem.W.kitOne K (.ref C) cv = some k ∧ Q (.bl k) H
theorem call_caughtIs {cls : Value} (T : XC X.K C b) (hz : Zc cls d oe) (hf : ∃ vs, oe.data = .fields vs) (hn : PySem.W.specialIn X.K (.builtin "object.__class__") "__get__" = some (some (.builtin "getset_descriptor.__get__"))) (ht : PySem.W.takesIn X.K (.builtin "object.__class__") = some true) :
    CallR (X.suite a ((a, oe) :: pn)) (.builtin "isinstance") (rCaughtIs X.K C a cls d) := by
  intro pins s z H xs us Q I r h
  obtain ⟨c, cv, k, fs, rfl, rfl, hd, hc, e, q⟩ := h
  obtain ⟨u1, u2, rfl, r1, r2⟩ := vals2 r
  cases (show u1 = Value.ref a from r1)
  cases hc.eq r2
  obtain ⟨od, J, _⟩ := caught_inst I hz hf hd
  obtain ⟨cd, hcl, _, _⟩ := T.data
  exact PySem.W.kia_one (PySem.W.kitx_exc (by rw [hcl]; rfl) T.ga T.gg T.exB T.kl hn ht T.ob) I.kIn J e (fun z => nomatch z) fun tk => ⟨.bl k, H, I.tok tk, rfl, q⟩
end
end GL
set_option maxHeartbeats 4000000
/-! A lambda handed to a def that calls it within try, the clauses with names. -/
namespace GL
open PySem PySem.Spec PyProof.Rows L2
section
variable {X : Cx} {pins : List (Addr × Obj)} {z : L2.St} {H : Hp} {s : Shared}
abbrev lamObj (X : Cx) (params : Arguments) (body : Expr) (scope : Scope) (pm : Value) (c' : Addr) (ctv : Value) : Obj := PySem.W.kla_obj "<lambda>" (X.env.qual ++ "<lambda>") params body scope (cloFrom X.env.cells scope.names []) pm c' ctv
/-- a(), a the parameter of the def that got the lambda: what the lambda lets out meets the clauses with the slots as they are -/
theorem pe_actAt {CXg : CXT} {Eg : XK} {Ng : List Str} {qg : Str} {sg : Scope} {g f c' : Addr} {cdg pm ctv : Value} {params : Arguments} {body : Expr} {scope : Scope} {k i : Nat} {a : Str} {pn : List (Addr × Obj)} {xe : Value → Shared → Prop} {W : WX} {tb : XK → TE} {p1 p2 : Pos}
    (I : Inv X pins z H s) (L : LamX.LamS X.env.scope scope) (made : s.heap.get? f = some (lamObj X params body scope pm c' ctv)) (free : H f = none) (nofr : f ∉ frs X.stack)
    (bare : bindArgs (PySem.W.kla_fn "<lambda>" (X.env.qual ++ "<lambda>") params body scope (cloFrom X.env.cells scope.names []) pm (.ref c') ctv) ⟨[], []⟩ = pure [])
    (tk : Takes ((cxOf CXg X.prog X.w X.K X.mg X.base Ng qg sg g cdg X.A X.stack s H Eg).tr pn xe) W) (room : Room (k + 1) (X.A.deeper (envOfC qg sg s.heap.objs.size g cdg)))
    (inner : ∀ (A : Around) (outer : List Env) (s2 : Shared) (H2 : Hp) (E : XK), A.guards = X.A.guards → Room k (A.deeper (LamX.lamEnv X scope s2.heap.objs.size f c')) → PE (LamX.lamCx X A outer s2 H2 E scope f c') body (tb E))
    (at_ : Ng[i]? = some a) (hv : Vis sg a) (hd : (a == ("__debug__" : Str)) = false := by decide) (hcd : (a == ("__classdict__" : Str)) = false := by decide) :
    PE ((cxOf CXg X.prog X.w X.K X.mg X.base Ng qg sg g cdg X.A X.stack s H Eg).tr pn xe) (.Call (.Name a p1) [] [] p2)
      (fun y HZ Q => y[i]? = some (some (.ref f)) ∧ HZ c' = some (LamX.CodeO c' (X.env.qual ++ "<lambda>")) ∧ tb (fun cls d H' => W cls d y H') z HZ Q) := by
  constructor
  intro pinsZ sZ y HZ Q IZ ⟨slot, code, rd⟩
  have nm : PE ((cxOf CXg X.prog X.w X.K X.mg X.base Ng qg sg g cdg X.A X.stack s H Eg).tr pn xe) (.Name a p1) _ := pe_var (pos := p1) (i := i) at_ hv hd hcd
  apply wpAny_Call_Name_kw
  refine thn (nm.run pinsZ sZ y HZ (fun v H1 => v = .ref f ∧ H1 = HZ) IZ ⟨.ref f, slot, rfl, rfl⟩) ?_
  rintro u s1 ⟨v, H1, I1, r1, rfl, rfl⟩
  cases (show u = Value.ref f from r1)
  have there : s1.heap.get? f = some (lamObj X params body scope pm c' ctv) := I1.base.keep f _ made free nofr (fun q => nomatch (show f ∈ ([] : List Addr) from q))
  refine PySem.W.callWith_F0 ⟨_, _, _, _, there⟩ ?_
  have un : Un (frs X.stack) [] H H1 s.heap s1.heap := I1.base
  obtain ⟨⟨oc, vs, t, e1, e2, e3⟩, _, _⟩ := I1.hok c' _ code
  have run : codeAny (model X.prog X.w) (X.A.deeper (envOfC qg sg s.heap.objs.size g cdg)) (.call (.ref f) ⟨[], []⟩) (CR (L2.CX X.prog X.w) (envOfC qg sg s.heap.objs.size g cdg :: X.stack) X.prog X.w H1 s1 Q fun cls d H' => W cls d y H') s1 := by
    refine PySem.W.kla_callFunE room.depth there rfl L.co L.gen rfl ⟨c', oc, vs, t, rfl, e1, e2, e3⟩ ?_
    rw [bare]
    refine wpAny_pure (wpAny_newFunctionEnv (fun n hn => (L.own n hn).2) (fun n hn => absurd hn (by simp)) (fun h₁ names but => ⟨I1.nolimit.fresh _ but, ?_⟩) L.kind)
    have kp : ∀ b o, s1.heap.get? b = some o → h₁.get? b = some o := fun b o q => but.extBut b o (Nat.ne_of_lt (Heap.lt_size q)) (Heap.get?_push_of_some _ q)
    have J : Inv (LamX.lamCx X (X.A.deeper (envOfC qg sg s.heap.objs.size g cdg)) (envOfC qg sg s.heap.objs.size g cdg :: X.stack) s1 H1 (fun cls d H' => W cls d y H') scope f c') [] z H1 { s1 with heap := h₁, toks := s1.toks + ([] : List (Str × Value)).length } :=
      LamX.lam_start2 I L I1.env0 room.hd un names kp
    refine PySem.W.kla_codeExpr (wpAny_mono ((inner (X.A.deeper (envOfC qg sg s.heap.objs.size g cdg)) _ s1 H1 _ rfl (room.deeper _)).run [] _ _ H1 Q J rd) ?_ fun e s' q => q)
    rintro v s' ⟨w', H', J', rv, q⟩
    exact ⟨w', H', J'.os, J'.bare, J'.base, J'.hok, rv, q⟩
  have out := passAt tk y
  refine wpAny_call (codeAny_mono run ?_)
  intro r s' q
  match r, q with
  | .error er, q => exact out pinsZ H1 s1 er s' I1 q
  | .ok (.ret u), q => exact I1.after q
  | .ok .next, q => exact False.elim q
  | .ok .brk, q => exact False.elim q
  | .ok .cont, q => exact False.elim q
end

/-- the def that calls what it got (a, its one parameter): TT what it makes of the lambda's reading -/
def Gives (X : Cx) (Ng : List Str) (x : Str) (sg : Scope) (g : Addr) (cdg : Value) (bg : List Stmt) (a q : Str) (k : Nat) (TT : (XK → Hp → VK → Prop) → Hp → VK → Prop) : Prop :=
  ∀ (f c' : Addr) (s : Shared) (H : Hp) (Q : VK) (tl : XK → Hp → VK → Prop), Room k (X.A.deeper (envOfC x sg s.heap.objs.size g cdg)) →
    (∀ (W : WX) (pn : List (Addr × Obj)) (xe : Value → Shared → Prop) (p1 p2 : Pos), Takes ((cxOf CX0 X.prog X.w X.K X.mg X.base Ng x sg g cdg X.A X.stack s H E0).tr pn xe) W →
      PE ((cxOf CX0 X.prog X.w X.K X.mg X.base Ng x sg g cdg X.A X.stack s H E0).tr pn xe) (.Call (.Name a p1) [] [] p2) (fun y HZ Q => y[0]? = some (some (.ref f)) ∧ HZ c' = some (LamX.CodeO c' q) ∧ tl (fun cls d H' => W cls d y H') HZ Q)) →
    H c' = some (LamX.CodeO c' q) → TT tl H Q → ∃ t, PSs (cxOf CX0 X.prog X.w X.K X.mg X.base Ng x sg g cdg X.A X.stack s H E0).nox bg t ∧ t { nx := fun _ H' => Q .non H', rt := Q } (L2.start Ng [.ref f]) H
section
variable {X : Cx}
/-- x(lambda: body) -/
theorem pe_told {T : List (Addr × Str)} {TT : (XK → Hp → VK → Prop) → Hp → VK → Prop} {x a : Str} {g c P : Addr} {k : Nat} {pg : Arguments} {bg : List Stmt} {sg : Scope} {dV kV doc pm cdv ct oc : Value} {an od : Option Addr} {osl : Array (Option Value)} {Ng : List Str}
    {params : Arguments} {body : Expr} {scope : Scope} {t : XK → TE} {p lpos pos : Pos} (hg : Gl X x) (hm : X.mg x = some (.ref g)) (hk : PySem.W.keepIn X.K (.ref g) = true)
    (lk : X.K.lookup g = some ⟨oc, od, .func (PySem.W.fnOf x x pg bg sg dV kV doc pm an cdv ct), osl⟩) (code : PySem.W.codeIn X.K cdv x = true) (hb : Binds X.K (PySem.W.fnOf x x pg bg sg dV kV doc pm an cdv ct) [a] []) (Sg : FnScope Ng [a] sg) (a0 : Ng[0]? = some a) (va : Vis sg a)
    (gives : Gives X Ng x sg g cdv bg a (X.env.qual ++ "<lambda>") (k + 1) TT) (TB : LamX.TabB X.base X.mg c P) (own : X.env.code = .ref c) (mT : (P, X.env.qual ++ "<lambda>") ∈ T) (one : ∀ p ∈ T, p.1 = P → p.2 = X.env.qual ++ "<lambda>")
    (hr : Room (k + 2) X.A) (L : LamX.LamS X.env.scope scope) (nodef : defaultsOf params X.env = ([], []))
    (bare : ∀ (q : Str) (cl : List (Str × Addr)) (pm cv ctv : Value), bindArgs (PySem.W.kla_fn "<lambda>" q params body scope cl pm cv ctv) ⟨[], []⟩ = pure [])
    (inner : ∀ (A : Around) (outer : List Env) (s : Shared) (H : Hp) (E : XK) (f c' : Addr), A.guards = X.A.guards → Room k (A.deeper (LamX.lamEnv X scope s.heap.objs.size f c')) → PE (LamX.lamCx X A outer s H E scope f c') body (t E))
    (hdb : (x == ("__debug__" : Str)) = false := by decide) (hd : (a == ("__debug__" : Str)) = false := by decide) (hcd : (a == ("__classdict__" : Str)) = false := by decide) :
    PE X (.Call (.Name x p) [.Lambda params body scope lpos] [] pos) (LamX.tLam T TT t) := by
  constructor
  intro pins s z H Q I ⟨tabs, h⟩
  apply wpAny_Call_Name_kw
  refine ld_glob I hg hm ?_ hdb
  refine PySem.W.callWith_K (h₀ := X.base) I.ok.mod.kin hk ?_ (by rfl) (by rfl)
  refine Calls.spliced_cons (LamX.lam_make2 I TB own mT one tabs nodef (L.has I.ok) ?_)
  intro f c' pm' ctv H1 s' I1 ext tabs1 made free nofr hco
  refine Calls.spliced_nil ⟨I1.kIn, ?_⟩
  have run : codeAny (model X.prog X.w) X.A (.call (.ref g) ⟨[.ref f], []⟩) (CR CX0 X.stack X.prog X.w H1 s' Q E0) s' := by
    refine LamX.run_ofS (N := Ng) (ps := [a]) (us := [.ref f]) (vs := [.ref f]) lk code Sg hr I1.env0 (hb s' [.ref f] I1.kIn rfl) (.cons rfl .nil) rfl fun room => ?_
    obtain ⟨t', ok, rd⟩ := gives f c' s' H1 Q (fun E H' Q' => t E z H' Q') room (fun W pn xe p1 p2 tk => pe_actAt (i := 0) I1 L made free nofr (bare _ _ _ _ _) tk room (fun A outer s2 H2 E hA hr2 => inner A outer s2 H2 E f c' hA hr2) a0 va hd hcd) hco (h H1 ext tabs1)
    exact ⟨t', ok.nox, rd⟩
  refine wpAny_call (codeAny_mono run ?_)
  intro r s2 q
  match r, q with
  | .error er, q => exact False.elim q
  | .ok (.ret u), q => exact I1.after q
  | .ok .next, q => exact False.elim q
  | .ok .brk, q => exact False.elim q
  | .ok .cont, q => exact False.elim q
end
end GL
set_option maxHeartbeats 8000000
/-! How lists of data are shown: bounds. -/
namespace GL
open PySem PySem.Spec PyProof.Rows L2
theorem textFrom_le : ∀ (ts : List Str) (k : Nat) (acc : Str), (textFrom k acc ts).length ≤ acc.length + piled ts
  | [], k, acc => by
    show acc.length ≤ _
    omega
  | t :: r, k, acc => by
    have ih := textFrom_le r (k + 1) (acc ++ (if k > 0 then ", " else "" : String) ++ t)
    have e : (acc ++ (if k > 0 then ", " else "" : String) ++ t).length ≤ acc.length + 2 + t.length := by
      rw [strLen_append, strLen_append]
      split
      · show acc.length + 2 + t.length ≤ _
        omega
      · show acc.length + 0 + t.length ≤ _
        omega
    rw [piled_cons]
    show (textFrom (k + 1) _ r).length ≤ _
    omega
theorem listText_le (ts : List Str) : (listText ts).length ≤ piled ts + 2 := by
  unfold listText
  rw [strLen_append]
  have h := textFrom_le ts 0 "["
  have e1 : ("[" : Str).length = 1 := rfl
  have e2 : ("]" : Str).length = 1 := rfl
  omega
/-- how a list of data is shown: bounds -/
theorem shown_list {ds : List PyData} {n m : Nat} (h : ∀ d ∈ ds, d.showable = true ∧ d.depth ≤ n ∧ d.shown.length ≤ m) : (PyData.list ds).showable = true ∧ (PyData.list ds).depth ≤ n + 1 ∧ (PyData.list ds).shown.length ≤ ds.length * (m + 2) + 2 := by
  have a : PyData.showableAll ds = true ∧ PyData.depthAll ds ≤ n ∧ piled (PyData.shownAll ds) ≤ ds.length * (m + 2) := by
    induction ds with
    | nil => exact ⟨rfl, Nat.zero_le _, Nat.zero_le _⟩
    | cons d ds ih =>
      obtain ⟨h1, h2, h3⟩ := h d List.mem_cons_self
      obtain ⟨g1, g2, g3⟩ := ih fun e he => h e (List.mem_cons_of_mem _ he)
      refine ⟨?_, ?_, ?_⟩
      · simp [PyData.showableAll, h1, g1]
      · simp only [PyData.depthAll]
        omega
      · simp only [PyData.shownAll]
        rw [piled_cons, List.length_cons, Nat.add_mul]
        omega
  refine ⟨by simp [PyData.showable, a.1], ?_, ?_⟩
  · simp only [PyData.depth]
    omega
  · simp only [PyData.shown]
    have := listText_le (PyData.shownAll ds)
    omega
theorem shown_int {i : Int} (h : i.natAbs.log2 < 1920) : (PyData.int i).showable = true ∧ (PyData.int i).depth ≤ 1 ∧ (PyData.int i).shown.length ≤ 1921 := by
  refine ⟨by simp [PyData.showable, h], by simp [PyData.depth], ?_⟩
  simp only [PyData.shown]
  rw [PySem.ofString_length]
  exact int_text_length_le (by decide) h
theorem shown_two {i j : Int} (hi : i.natAbs.log2 < 1920) (hj : j.natAbs.log2 < 1920) : (PyData.list [.int i, .int j]).showable = true ∧ (PyData.list [.int i, .int j]).depth ≤ 40 ∧ (PyData.list [.int i, .int j]).shown.length ≤ sizeLine := by
  obtain ⟨a, b, c⟩ := shown_list (ds := [.int i, .int j]) (n := 1) (m := 1921) (by
    intro d hd
    simp only [List.mem_cons, List.not_mem_nil, or_false] at hd
    rcases hd with rfl | rfl
    · exact shown_int hi
    · exact shown_int hj)
  refine ⟨a, by omega, ?_⟩
  rw [sizeLine_eq]
  have : ([PyData.int i, .int j] : List PyData).length = 2 := rfl
  rw [this] at c
  omega
/-! ### repr of data of any kind -/
def rReprV (K : PySem.W.Frag) : List V → Hp → VK → Prop := fun xs H Q => ∃ (v : V) (d : PyData), xs = [v] ∧ Dq K H v d ∧ d.showable = true ∧ d.depth ≤ 40 ∧ d.shown.length ≤ sizeLine ∧ Q (.str d.shown) H
theorem call_reprV {X : Cx} (S : SysK X.K) (gd : X.A.guards = some []) (hu : X.A.units + 64 < cLine) : CallR X (.builtin "repr") (rReprV X.K) := by
  intro pins s z H xs us Q I r h
  obtain ⟨v, d, rfl, hd, sh, dp, sz, q⟩ := h
  obtain ⟨u, rfl, r1⟩ := vals1 r
  have ref : ∀ {a : Addr}, v = .ref a → wpAny (model X.prog X.w) X.A (PySem.call (.builtin "repr") [u]) (EP X pins z Q) X.xe s := by
    rintro a rfl
    exact call_reprD S gd hu pins s z H [.ref a] [u] Q I (.cons r1 .nil) ⟨a, d, rfl, hd, sh, dp, sz, q⟩
  cases hd with
  | non =>
    cases r1
    simp only [PyData.shown] at q
    exact PySem.P.repr_of_none ⟨.str _, H, I.tok _, ⟨_, rfl⟩, q⟩
  | bl b =>
    cases r1
    simp only [PyData.shown] at q
    exact PySem.P.repr_of_bool ⟨.str _, H, I.tok _, ⟨_, rfl⟩, q⟩
  | int i =>
    obtain ⟨t, rfl⟩ := r1
    simp only [PyData.shown] at q
    exact PySem.P.repr_of_int (by simpa [PyData.showable] using sh) ⟨.str _, H, I.tok _, ⟨_, rfl⟩, q⟩
  | str x =>
    obtain ⟨t, rfl⟩ := r1
    simp only [PyData.shown] at q sz
    exact PySem.P.repr_of_str ⟨.str _, H, I.tok _, ⟨_, rfl⟩, q⟩ sz
  | lst _ _ => exact ref rfl
  | tup _ _ => exact ref rfl
  | dct _ _ => exact ref rfl
end GL
set_option maxHeartbeats 1000000
/-! == and != of tuples and lists whose items are compared by own methods: which of the two answers is given. -/
namespace PySem
namespace GE
open PySem.SeqAt
open AutoSeq1 (wpAny_loadPart')
open MeetsSeq MeetsSeq2 MeetsSeq3 SeqRoads2
section
variable {prog : Program} {w : World} {A : Around} {R : Result → Shared → Prop}
/-- one pair after the other: es i is what the i-th one gives; F holds at the end -/
def Turns (prog : Program) (w : World) (A : Around) (E : Value → Shared → Prop) (xs ys : Array Value) (es : Nat → Bool) (J : Nat → Shared → Prop) (F : Shared → Prop) : Prop :=
  ∀ i (p : i < xs.size) (q : i < ys.size) (s : Shared), J i s → wpAny (model prog w) A.in1 (eqBool xs[i] ys[i]) (fun r s' => r = es i ∧ F s' ∧ (es i = true → J (i + 1) s')) E s
def allB (m n : Nat) (es : Nat → Bool) (i : Nat) : Bool := ((List.range (min m n)).drop i).all es && m == n
theorem allB_step {m n i : Nat} {es : Nat → Bool} (h : i < min m n) : allB m n es i = (es i && allB m n es (i + 1)) := by
  have e : (List.range (min m n)).drop i = i :: (List.range (min m n)).drop (i + 1) := by simp [List.drop_eq_getElem_cons, h]
  unfold allB
  rw [e, List.all_cons, Bool.and_assoc]
theorem allB_end {m n i : Nat} {es : Nat → Bool} (h : min m n ≤ i) : allB m n es i = (m == n) := by
  unfold allB
  rw [List.drop_of_length_le (by simpa using h), List.all_nil, Bool.true_and]
theorem tup_eqB {l b : Addr} {xs ys : Array Value} {n m : Nat} {dd ee : Option Addr} {sl tl : Array (Option Value)} {J : Nat → Shared → Prop} {F : Shared → Prop} {es : Nat → Bool} (turn : Turns prog w A (fun e s' => R (.error e) s') xs ys es J F) (hJ : ∀ i s, J i s → F s)
    (fin : ∀ s, F s → R (.ok (.ret (.bool (allB xs.size ys.size es 0)))) s) {s : Shared} (hl : s.heap.get? l = some { cls := .type "tuple", dict := dd, data := .seq xs n, slots := sl }) (hb : s.heap.get? b = some { cls := .type "tuple", dict := ee, data := .seq ys m, slots := tl }) (h : J 0 s) :
    wpAny (model prog w) A.in1 (Builtin.«tuple.__eq__» ⟨[.ref l, .ref b], []⟩) (GQ.FinOf prog w A R) (fun e s' => R (.error e) s') s := by
  have f2 := AutoSeq1.sub_tuple_tuple
  have zl : (xs.toList.zip ys.toList).length = min xs.size ys.size := by simp
  have h0 := h
  generalize hk : allB xs.size ys.size es 0 = k at fin
  obtain ⟨hp, g, d, tk, os⟩ := s
  wp_walk using wpAny_loadPart' hl, wpAny_loadPart' hb, wpAny_forIn_list _ (fun rest c s' => c.1 = none ∧ ∃ i, rest = (xs.toList.zip ys.toList).drop i ∧ allB xs.size ys.size es i = k ∧ J i s') _
  case turn =>
    rintro ⟨y, x⟩ rest c s' ⟨hc, i, hz, hi, hJi⟩
    have lt : i < (xs.toList.zip ys.toList).length := by
      apply Nat.lt_of_not_le
      intro z
      rw [List.drop_of_length_le z] at hz
      cases hz
    have lm : i < min xs.size ys.size := zl ▸ lt
    have p : i < xs.size := Nat.lt_of_lt_of_le lm (Nat.min_le_left _ _)
    have q : i < ys.size := Nat.lt_of_lt_of_le lm (Nat.min_le_right _ _)
    rw [List.drop_eq_getElem_cons lt] at hz
    injection hz with e1 e2
    have ey : y = xs[i] := by simpa using congrArg Prod.fst e1
    have ex : x = ys[i] := by simpa using congrArg Prod.snd e1
    subst ey ex
    rw [allB_step lm] at hi
    refine wpAny_bind (wpAny_mono (turn i p q s' hJi) (fun r s2 z => ?_) fun _ _ z => z)
    obtain ⟨rfl, hF, hJ2⟩ := z
    cases he : es i with
    | true =>
      rw [he, Bool.true_and] at hi
      wp_walk
      exact ⟨rfl, i + 1, e2, hi, hJ2 he⟩
    | false =>
      rw [he, Bool.false_and] at hi
      subst hi
      wp_walk
      exact fin _ hF
  case fin =>
    rintro ⟨c1, c2⟩ s' ⟨hc, i, hz, hi, hJi⟩
    simp only at hc
    subst hc
    have ge : min xs.size ys.size ≤ i := by
      rw [← zl]
      apply Nat.le_of_not_lt
      intro z
      rw [List.drop_eq_getElem_cons z] at hz
      cases hz
    rw [allB_end ge] at hi
    subst hi
    wp_walk
    simpa [Builtin.Tuple.tupleCompareSizes] using fin _ (hJ _ _ hJi)
  case h =>
    exact ⟨rfl, 0, rfl, hk, h0⟩
theorem tup_neB {l b : Addr} {xs ys : Array Value} {n m : Nat} {dd ee : Option Addr} {sl tl : Array (Option Value)} {J : Nat → Shared → Prop} {F : Shared → Prop} {es : Nat → Bool} (turn : Turns prog w A (fun e s' => R (.error e) s') xs ys es J F) (hJ : ∀ i s, J i s → F s)
    (fin : ∀ s, F s → R (.ok (.ret (.bool !(allB xs.size ys.size es 0)))) s) {s : Shared} (hl : s.heap.get? l = some { cls := .type "tuple", dict := dd, data := .seq xs n, slots := sl }) (hb : s.heap.get? b = some { cls := .type "tuple", dict := ee, data := .seq ys m, slots := tl }) (h : J 0 s) :
    wpAny (model prog w) A.in1 (Builtin.«tuple.__ne__» ⟨[.ref l, .ref b], []⟩) (GQ.FinOf prog w A R) (fun e s' => R (.error e) s') s := by
  have f2 := AutoSeq1.sub_tuple_tuple
  have zl : (xs.toList.zip ys.toList).length = min xs.size ys.size := by simp
  have h0 := h
  generalize hk : allB xs.size ys.size es 0 = k at fin
  obtain ⟨hp, g, d, tk, os⟩ := s
  wp_walk using wpAny_loadPart' hl, wpAny_loadPart' hb, wpAny_forIn_list _ (fun rest c s' => c.1 = none ∧ ∃ i, rest = (xs.toList.zip ys.toList).drop i ∧ allB xs.size ys.size es i = k ∧ J i s') _
  case turn =>
    rintro ⟨y, x⟩ rest c s' ⟨hc, i, hz, hi, hJi⟩
    have lt : i < (xs.toList.zip ys.toList).length := by
      apply Nat.lt_of_not_le
      intro z
      rw [List.drop_of_length_le z] at hz
      cases hz
    have lm : i < min xs.size ys.size := zl ▸ lt
    have p : i < xs.size := Nat.lt_of_lt_of_le lm (Nat.min_le_left _ _)
    have q : i < ys.size := Nat.lt_of_lt_of_le lm (Nat.min_le_right _ _)
    rw [List.drop_eq_getElem_cons lt] at hz
    injection hz with e1 e2
    have ey : y = xs[i] := by simpa using congrArg Prod.fst e1
    have ex : x = ys[i] := by simpa using congrArg Prod.snd e1
    subst ey ex
    rw [allB_step lm] at hi
    refine wpAny_bind (wpAny_mono (turn i p q s' hJi) (fun r s2 z => ?_) fun _ _ z => z)
    obtain ⟨rfl, hF, hJ2⟩ := z
    cases he : es i with
    | true =>
      rw [he, Bool.true_and] at hi
      wp_walk
      exact ⟨rfl, i + 1, e2, hi, hJ2 he⟩
    | false =>
      rw [he, Bool.false_and] at hi
      subst hi
      wp_walk
      exact fin _ hF
  case fin =>
    rintro ⟨c1, c2⟩ s' ⟨hc, i, hz, hi, hJi⟩
    simp only at hc
    subst hc
    have ge : min xs.size ys.size ≤ i := by
      rw [← zl]
      apply Nat.le_of_not_lt
      intro z
      rw [List.drop_eq_getElem_cons z] at hz
      cases hz
    rw [allB_end ge] at hi
    subst hi
    wp_walk
    simpa [Builtin.Tuple.tupleCompareSizes, bne] using fin _ (hJ _ _ hJi)
  case h =>
    exact ⟨rfl, 0, rfl, hk, h0⟩
/-- the two lists are read anew at each turn -/
def LTurns (prog : Program) (w : World) (A : Around) (E : Value → Shared → Prop) (l b : Addr) (N : Nat) (es : Nat → Bool) (J : Nat → Shared → Prop) (F : Shared → Prop) : Prop :=
  ∀ i (s : Shared), J i s → ∃ (xs ys : Array Value) (n m : Nat), s.heap.get? l = some { cls := .type "list", data := .seq xs n } ∧ s.heap.get? b = some { cls := .type "list", data := .seq ys m } ∧ xs.size = N ∧ ys.size = N ∧
    ∀ (p : i < xs.size) (q : i < ys.size), wpAny (model prog w) A.in1 (eqBool xs[i] ys[i]) (fun r s' => r = es i ∧ F s' ∧ (es i = true → J (i + 1) s')) E s
/-- both can be read -/
def LRead (l b : Addr) (N : Nat) (F : Shared → Prop) : Prop := ∀ s : Shared, F s → ∃ (xs ys : Array Value) (n m : Nat), s.heap.get? l = some { cls := .type "list", data := .seq xs n } ∧ s.heap.get? b = some { cls := .type "list", data := .seq ys m } ∧ xs.size = N ∧ ys.size = N
theorem lst_loopeqB {l b : Addr} {N : Nat} {J : Nat → Shared → Prop} {F : Shared → Prop} {es : Nat → Bool} {k : Bool} (turn : LTurns prog w A (fun e s' => R (.error e) s') l b N es J F) (rd : LRead l b N F) (hJF : ∀ i s, J i s → F s) (fin : ∀ s, F s → R (.ok (.ret (.bool k))) s) (c : Nat) :
    ∀ i : Nat, N - i = c → i ≤ N → allB N N es i = k → ∀ s, J i s → wpAny (model prog w) A.in1 (Builtin.«list.__eq__.loop» ⟨[.ref l, .ref b, rawInt i, rawInt 2], []⟩) (GQ.FinOf prog w A R) (fun e s' => R (.error e) s') s := by
  induction c with
  | zero =>
    intro i hc hi hk s hJ
    obtain ⟨xs, ys, n, m, hl, hb, s1, s2, _⟩ := turn i s hJ
    have last : i = N := by omega
    have hq := fin s (hJF _ _ hJ)
    rw [allB_end (by omega)] at hk
    subst hk
    obtain ⟨hp, g, d, tk, os⟩ := s
    wp_walk using wpAny_loadPart' hl, wpAny_loadPart' hb
    have o1 : xs[((i : Nat) : Int).toNat]? = none := by simp; omega
    have o2 : ys[((i : Nat) : Int).toNat]? = none := by simp; omega
    rw [o1, o2]
    wp_walk using wpAny_loadPart' hl, wpAny_loadPart' hb
    show R (.ok (.ret (.bool (xs.size == ys.size)))) _
    rw [s1, s2]
    simpa using hq
  | succ c ih =>
    intro i hc hi hk s hJ
    obtain ⟨xs, ys, n, m, hl, hb, s1, s2, one⟩ := turn i s hJ
    have p : i < xs.size := by omega
    have q : i < ys.size := by omega
    have ht := one p q
    rw [allB_step (by omega)] at hk
    obtain ⟨hp, g, d, tk, os⟩ := s
    wp_walk using wpAny_loadPart' hl, wpAny_loadPart' hb
    have o1 : xs[((i : Nat) : Int).toNat]? = some xs[i] := by simp [p]
    have o2 : ys[((i : Nat) : Int).toNat]? = some ys[i] := by simp [q]
    have nx : ((i : Int) + 1) = ((i + 1 : Nat) : Int) := by omega
    rw [o1, o2]
    refine wpAny_bind (wpAny_mono ht (fun r s2 z => ?_) fun _ _ z => z)
    obtain ⟨rfl, hF, hJ2⟩ := z
    cases he : es i with
    | true =>
      rw [he, Bool.true_and] at hk
      have more := ih (i + 1) (by omega) (by omega) hk s2 (hJ2 he)
      obtain ⟨hp2, g2, d2, tk2, os2⟩ := s2
      wp_walk
      rw [nx]
      refine ⟨plainId_quiet plain_eq_loop _, codeAny_builtin entry_eq_loop ?_⟩
      rw [Around.under_plainId plain_eq_loop _]
      exact more
    | false =>
      rw [he, Bool.false_and] at hk
      subst hk
      obtain ⟨xs2, ys2, n2, m2, hl2, hb2, t1, t2⟩ := rd s2 hF
      have hq := fin s2 hF
      obtain ⟨hp2, g2, d2, tk2, os2⟩ := s2
      wp_walk using wpAny_loadPart' hl2, wpAny_loadPart' hb2
      have u1 : xs2[((i : Nat) : Int).toNat]? = some (xs2[i]'(by omega)) := by simp
      have u2 : ys2[((i : Nat) : Int).toNat]? = some (ys2[i]'(by omega)) := by simp
      rw [u1, u2]
      wp_walk
      exact hq
theorem lst_eqB {l b : Addr} {N : Nat} {J : Nat → Shared → Prop} {F : Shared → Prop} {es : Nat → Bool} {k : Bool} (turn : LTurns prog w A (fun e s' => R (.error e) s') l b N es J F) (rd : LRead l b N F) (hJF : ∀ i s, J i s → F s) (fin : ∀ s, F s → R (.ok (.ret (.bool k))) s) (hk : allB N N es 0 = k) {s : Shared} (h : J 0 s) :
    wpAny (model prog w) A.in1 (Builtin.«list.__eq__» ⟨[.ref l, .ref b], []⟩) (GQ.FinOf prog w A R) (fun e s' => R (.error e) s') s := by
  obtain ⟨xs, ys, n, m, hl, hb, s1, s2, _⟩ := turn 0 s h
  have more := lst_loopeqB (A := A) turn rd hJF fin _ 0 rfl (Nat.zero_le _) hk s h
  obtain ⟨hp, g, d, tk, os⟩ := s
  have f3 := AutoSeq1.sub_list_list
  have same : ¬ (xs.size != ys.size) = true := by simp [s1, s2]
  wp_walk using wpAny_loadPart' hl, wpAny_loadPart' hb
  refine ⟨plainId_quiet plain_eq_loop _, codeAny_builtin entry_eq_loop ?_⟩
  rw [Around.under_plainId plain_eq_loop _]
  exact more
theorem lst_loopneB {l b : Addr} {N : Nat} {J : Nat → Shared → Prop} {F : Shared → Prop} {es : Nat → Bool} {k : Bool} (turn : LTurns prog w A (fun e s' => R (.error e) s') l b N es J F) (rd : LRead l b N F) (hJF : ∀ i s, J i s → F s) (fin : ∀ s, F s → R (.ok (.ret (.bool !k))) s) (c : Nat) :
    ∀ i : Nat, N - i = c → i ≤ N → allB N N es i = k → ∀ s, J i s → wpAny (model prog w) A.in1 (Builtin.«list.__eq__.loop» ⟨[.ref l, .ref b, rawInt i, rawInt 3], []⟩) (GQ.FinOf prog w A R) (fun e s' => R (.error e) s') s := by
  induction c with
  | zero =>
    intro i hc hi hk s hJ
    obtain ⟨xs, ys, n, m, hl, hb, s1, s2, _⟩ := turn i s hJ
    have last : i = N := by omega
    have hq := fin s (hJF _ _ hJ)
    rw [allB_end (by omega)] at hk
    subst hk
    obtain ⟨hp, g, d, tk, os⟩ := s
    wp_walk using wpAny_loadPart' hl, wpAny_loadPart' hb
    have o1 : xs[((i : Nat) : Int).toNat]? = none := by simp; omega
    have o2 : ys[((i : Nat) : Int).toNat]? = none := by simp; omega
    rw [o1, o2]
    wp_walk using wpAny_loadPart' hl, wpAny_loadPart' hb
    show R (.ok (.ret (.bool (xs.size != ys.size)))) _
    rw [s1, s2]
    simpa using hq
  | succ c ih =>
    intro i hc hi hk s hJ
    obtain ⟨xs, ys, n, m, hl, hb, s1, s2, one⟩ := turn i s hJ
    have p : i < xs.size := by omega
    have q : i < ys.size := by omega
    have ht := one p q
    rw [allB_step (by omega)] at hk
    obtain ⟨hp, g, d, tk, os⟩ := s
    wp_walk using wpAny_loadPart' hl, wpAny_loadPart' hb
    have o1 : xs[((i : Nat) : Int).toNat]? = some xs[i] := by simp [p]
    have o2 : ys[((i : Nat) : Int).toNat]? = some ys[i] := by simp [q]
    have nx : ((i : Int) + 1) = ((i + 1 : Nat) : Int) := by omega
    rw [o1, o2]
    refine wpAny_bind (wpAny_mono ht (fun r s2 z => ?_) fun _ _ z => z)
    obtain ⟨rfl, hF, hJ2⟩ := z
    cases he : es i with
    | true =>
      rw [he, Bool.true_and] at hk
      have more := ih (i + 1) (by omega) (by omega) hk s2 (hJ2 he)
      obtain ⟨hp2, g2, d2, tk2, os2⟩ := s2
      wp_walk
      rw [nx]
      refine ⟨plainId_quiet plain_eq_loop _, codeAny_builtin entry_eq_loop ?_⟩
      rw [Around.under_plainId plain_eq_loop _]
      exact more
    | false =>
      rw [he, Bool.false_and] at hk
      subst hk
      obtain ⟨xs2, ys2, n2, m2, hl2, hb2, t1, t2⟩ := rd s2 hF
      have hq := fin s2 hF
      obtain ⟨hp2, g2, d2, tk2, os2⟩ := s2
      wp_walk using wpAny_loadPart' hl2, wpAny_loadPart' hb2
      have u1 : xs2[((i : Nat) : Int).toNat]? = some (xs2[i]'(by omega)) := by simp
      have u2 : ys2[((i : Nat) : Int).toNat]? = some (ys2[i]'(by omega)) := by simp
      rw [u1, u2]
      wp_walk
      exact hq
theorem lst_neB {l b : Addr} {N : Nat} {J : Nat → Shared → Prop} {F : Shared → Prop} {es : Nat → Bool} {k : Bool} (turn : LTurns prog w A (fun e s' => R (.error e) s') l b N es J F) (rd : LRead l b N F) (hJF : ∀ i s, J i s → F s) (fin : ∀ s, F s → R (.ok (.ret (.bool !k))) s) (hk : allB N N es 0 = k) {s : Shared} (h : J 0 s) :
    wpAny (model prog w) A.in1 (Builtin.«list.__ne__» ⟨[.ref l, .ref b], []⟩) (GQ.FinOf prog w A R) (fun e s' => R (.error e) s') s := by
  obtain ⟨xs, ys, n, m, hl, hb, s1, s2, _⟩ := turn 0 s h
  have more := lst_loopneB (A := A) turn rd hJF fin _ 0 rfl (Nat.zero_le _) hk s h
  obtain ⟨hp, g, d, tk, os⟩ := s
  have f3 := AutoSeq1.sub_list_list
  have same : ¬ (xs.size != ys.size) = true := by simp [s1, s2]
  wp_walk using wpAny_loadPart' hl, wpAny_loadPart' hb
  refine ⟨plainId_quiet plain_eq_loop _, codeAny_builtin entry_eq_loop ?_⟩
  rw [Around.under_plainId plain_eq_loop _]
  exact more
end
end GE
end PySem
set_option maxHeartbeats 1000000
/-! == and != of tuples and lists of own instances, as rules: which answer is given. -/
namespace GL
open PySem PySem.Spec PyProof.Rows L2
abbrev DB : Type := V → V → Bool → Hp → Prop
def MonB (D : DB) : Prop := ∀ x y b H H', Same H H' → D x y b H → D x y b H'
/-- == inside a builtin gives what D says -/
def EqB (X : Cx) (n : Nat) (D : DB) : Prop :=
  ∀ (A : Around) (pins : List (Addr × Obj)) (s : Shared) (σ : L2.St) (H : Hp) (x y : V) (u v : Value) (b : Bool), Sub X n A → Inv X pins σ H s → L2.RelV x u → L2.RelV y v → D x y b H →
    wpAny (model X.prog X.w) A (eqBool u v) (fun r s' => r = b ∧ ∃ H', Inv X pins σ H' s' ∧ Same H H') X.xe s
/-- == (op = .Eq), != (op = .NotEq) as comparisons; g: what is made of D's word -/
def RcB (X : Cx) (n : Nat) (op : CmpOp) (g : Bool → Bool) (D : DB) : Prop :=
  ∀ (A : Around) (pins : List (Addr × Obj)) (s : Shared) (σ : L2.St) (H : Hp) (x y : V) (u v : Value) (b : Bool), Sub X n A → Inv X pins σ H s → L2.RelV x u → L2.RelV y v → D x y b H →
    wpAny (model X.prog X.w) A (richCompare op u v) (fun r s' => r = .bool (g b) ∧ ∃ H', Inv X pins σ H' s' ∧ Same H H') X.xe s
section
variable {X : Cx} {n m : Nat} {D D' : DB}
theorem EqB.mono (h : EqB X n D) (l : n ≤ m) : EqB X m D := fun A pins s σ H x y u v b sb => h A pins s σ H x y u v b (sb.mono l)
theorem EqB.or (h : EqB X n D) (h' : EqB X n D') : EqB X n (fun x y b H => D x y b H ∨ D' x y b H) := by
  intro A pins s σ H x y u v b sb I rx ry d
  rcases d with d | d
  · exact h A pins s σ H x y u v b sb I rx ry d
  · exact h' A pins s σ H x y u v b sb I rx ry d
theorem MonB.or (h : MonB D) (h' : MonB D') : MonB (fun x y b H => D x y b H ∨ D' x y b H) := fun x y b H H' k d => d.imp (h x y b H H' k) (h' x y b H H' k)
/-- flat things -/
def FlatB : DB := fun x y b _ => flatV x = true ∧ flatV y = true ∧ b = eqV x y
theorem monB_flat : MonB FlatB := fun _ _ _ _ _ _ d => d
theorem eqB_flat : EqB X 0 FlatB := by
  intro A pins s σ H x y u v b sb I rx ry d
  obtain ⟨fx, fy, rfl⟩ := d
  exact eqAt_V (A := A) (s := s) rx ry fx fy X.prog X.w X.xe _ ⟨rfl, H, I, fun _ _ e => e⟩
/-- the same thing is equal to itself -/
theorem RcB.eqB (h : RcB X n .Eq id D) (hr : ∀ x y b H, D x y b H → ∃ a c, x = .ref a ∧ y = .ref c ∧ (a = c → b = true)) : EqB X n D := by
  intro A pins s σ H x y u v b sb I rx ry d
  obtain ⟨a, c, rfl, rfl, same⟩ := hr _ _ _ _ d
  cases (show u = Value.ref a from rx)
  cases (show v = Value.ref c from ry)
  by_cases e : a = c
  · cases e
    rw [same rfl]
    exact SeqAt.EqAt.same (A := A) (s := s) (.ref a) X.prog X.w X.xe _ ⟨rfl, H, I, fun _ _ e => e⟩
  · refine GQ.eqBool_refG e (wpAny_mono (h A pins s σ H (V.ref a) (V.ref c) _ _ b sb I rfl rfl d) (fun r s' z => ?_) fun _ _ z => z)
    obtain ⟨rfl, z⟩ := z
    exact ⟨b, rfl, rfl, z⟩
/-- two instances of one class, by its own __eq__ -/
def InsB (C : Addr) (sp : Sp) (E : XK) : DB := fun x y b H => ∃ a c dx dy fs gs, x = .ref a ∧ y = .ref c ∧ H a = some (.ins C dx fs) ∧ H c = some (.ins C dy gs) ∧ (a = c → b = true) ∧ sp [x, y] H (fun v H' => v = .bl b ∧ Same H H') E
theorem rcB_ins {CX : CXT} {C f : Addr} {sp : Sp} {E : XK} (B : GL.OwnEq X.K C f) (F : FnR X.prog X.w X.K X.mg X.base CX n f sp) (hx : Passes CX X E) : RcB X n .Eq id (InsB C sp E) := by
  intro A pins s σ H x y u v b sb I rx ry d
  obtain ⟨a, c, dx, dy, fs, gs, rfl, rfl, ha, hc, _, q⟩ := d
  cases (show u = Value.ref a from rx)
  cases (show v = Value.ref c from ry)
  obtain ⟨ox, od, J⟩ := inst_of I ha
  obtain ⟨oy, oe, J'⟩ := inst_of I hc
  have e0 : Env0 X.prog X.w X.K X.mg X.base A X.stack s H := by
    have e := I.env0
    exact { e with frames := sb.fr.trans e.frames }
  have run := F A X.stack s H [.ref a, .ref c] [.ref a, .ref c] _ E sb.room e0 (Paired.cons (a := V.ref a) (b := Value.ref a) rfl (Paired.cons (a := V.ref c) (b := Value.ref c) rfl .nil)) q
  have z : wpAny (model X.prog X.w) A (PySem.call (.ref f) [.ref a, .ref c]) (PySem.W.CmpBack fun r s' => r = .bool b ∧ ∃ H', Inv X pins σ H' s' ∧ Same H H') X.xe s := by
    refine wpAny_call (codeAny_mono run fun r s' z => ?_)
    match r, z with
    | .error er, z => exact hx pins σ H s er s' I z
    | .ok .next, z => exact False.elim z
    | .ok .brk, z => exact False.elim z
    | .ok .cont, z => exact False.elim z
    | .ok (.ret w), z =>
      obtain ⟨z1, H', I', rz, rfl, k⟩ := I.after z
      cases (show w = Value.bool b from rz)
      exact ⟨rfl, H', I', k⟩
  rcases s with ⟨hp, g, dd, tk, os⟩
  have e : PySem.W.findIn X.K (.ref C) (cmpInfo .Eq).2.1 = some (some (.ref f)) := B.m.at_
  exact PySem.GO.cmp_any (op := .Eq) (.inl rfl) sb.room.units0 I.kIn J J'.type (by simp [PySem.W.notFirst]) e (PySem.W.bind_fn I.kIn _ (isFn_ty B.m.fn)) z
theorem eqB_ins {CX : CXT} {C f : Addr} {sp : Sp} {E : XK} (B : GL.OwnEq X.K C f) (F : FnR X.prog X.w X.K X.mg X.base CX n f sp) (hx : Passes CX X E) : EqB X n (InsB C sp E) :=
  (rcB_ins B F hx).eqB fun x y b H d => by
    obtain ⟨a, c, dx, dy, fs, gs, e1, e2, _, _, same, _⟩ := d
    exact ⟨a, c, e1, e2, same⟩

/-! ### item by item -/
def ItemsB (D : DB) (xs ys : List V) (es : Nat → Bool) (H : Hp) : Prop := ∀ (i : Nat) x y, (∀ j, j < i → es j = true) → xs[i]? = some x → ys[i]? = some y → D x y (es i) H
/-- as far as the items ahead were equal -/
def LoopB (X : Cx) (pins : List (Addr × Obj)) (σ : L2.St) (H : Hp) (es : Nat → Bool) (i : Nat) (s' : Shared) : Prop := LoopI X pins σ H s' ∧ ∀ j, j < i → es j = true
theorem ItemsB.same (hD : MonB D) {xs ys : List V} {es : Nat → Bool} {H H' : Hp} (k : Same H H') (p : ItemsB D xs ys es H) : ItemsB D xs ys es H' := fun i x y h0 h1 h2 => hD _ _ _ _ _ k (p i x y h0 h1 h2)
theorem one_turn (hD : MonB D) (h : EqB X n D) {A : Around} (sb : Sub X (n + 1) A) {pins : List (Addr × Obj)} {σ : L2.St} {H : Hp} {xs ys : List V} {es : Nat → Bool} {us vs : List Value} (p : ItemsB D xs ys es H) (r : Vals xs us) (r2 : Vals ys vs)
    (i : Nat) (h1 : i < us.toArray.size) (h2 : i < vs.toArray.size) (s' : Shared) (l : LoopB X pins σ H es i s') :
    wpAny (model X.prog X.w) A.in1 (eqBool us.toArray[i] vs.toArray[i]) (fun r s2 => r = es i ∧ LoopI X pins σ H s2 ∧ (es i = true → LoopB X pins σ H es (i + 1) s2)) X.xe s' := by
  obtain ⟨⟨H1, I1, k1⟩, ahead⟩ := l
  have l1 : i < us.length := by simpa using h1
  have l2 : i < vs.length := by simpa using h2
  have m1 : i < xs.length := by rw [r.length]; exact l1
  have m2 : i < ys.length := by rw [r2.length]; exact l2
  obtain ⟨u, hu, ru⟩ := r.get (List.getElem?_eq_getElem m1)
  obtain ⟨v, hv, rv⟩ := r2.get (List.getElem?_eq_getElem m2)
  have eu : us.toArray[i] = u := by
    rw [List.getElem?_eq_getElem l1] at hu
    simpa using Option.some.inj hu
  have ev : vs.toArray[i] = v := by
    rw [List.getElem?_eq_getElem l2] at hv
    simpa using Option.some.inj hv
  rw [eu, ev]
  refine wpAny_mono (h A.in1 pins s' σ H1 _ _ u v _ sb.in1 I1 ru rv (hD _ _ _ _ _ k1 (p i _ _ ahead (List.getElem?_eq_getElem m1) (List.getElem?_eq_getElem m2)))) (fun r s2 z => ?_) fun _ _ z => z
  obtain ⟨rfl, H2, I2, k2⟩ := z
  refine ⟨rfl, ⟨H2, I2, k1.trans k2⟩, fun e => ⟨⟨H2, I2, k1.trans k2⟩, fun j hj => ?_⟩⟩
  by_cases q : j = i
  · rw [q]
    exact e
  · exact ahead j (by omega)
def TupB (K : PySem.W.Frag) (D : DB) : DB := fun x y b H => ∃ a c xs ys es, x = .ref a ∧ y = .ref c ∧ SqT K H a xs ∧ SqT K H c ys ∧ ItemsB D xs ys es H ∧ b = PySem.GE.allB xs.length ys.length es 0
theorem rcB_tup (hD : MonB D) (h : EqB X n D) : RcB X (n + 1) .Eq id (TupB X.K D) := by
  intro A pins s σ H x y u v b sb I rx ry d
  obtain ⟨a, c, xs, ys, es, rfl, rfl, ha, hc, p, rfl⟩ := d
  cases (show u = Value.ref a from rx)
  cases (show v = Value.ref c from ry)
  obtain ⟨us, r, e, z⟩ := I.tuple ha
  obtain ⟨vs, r2, e2, z2⟩ := I.tuple hc
  have s1 : us.toArray.size = xs.length := by rw [List.size_toArray, ← r.length]
  have s2 : vs.toArray.size = ys.length := by rw [List.size_toArray, ← r2.length]
  obtain ⟨⟨cls, dd, data, sl⟩, ho, hc1, k1, hd1⟩ := id e
  obtain ⟨⟨cls2, dd2, data2, sl2⟩, ho2, hc2, k2, hd2⟩ := id e2
  dsimp only at hc1 hd1 hc2 hd2
  subst hc1 hd1 hc2 hd2
  refine wpAny_richCompare_same_room (op := .Eq) ⟨_, ho, rfl⟩ ⟨_, ho2, rfl⟩ F.slot_tuple_eq (GQ.call_here F.slot_tuple_eq ⟨_, ho, rfl⟩ F.entry_tuple_eq (F.args_tuple_eq_2 _ _) ?_) sb.room.units0
  refine PySem.GE.tup_eqB (es := es) (J := LoopB X pins σ H es) (F := LoopI X pins σ H) (fun i h1 h2 s' q => one_turn hD h sb p r r2 i h1 h2 s' q) (fun _ _ q => q.1) (fun s' q => ⟨(fun z => nomatch z), ?_⟩) ho ho2 ⟨⟨H, I, fun _ _ e => e⟩, fun j hj => absurd hj (Nat.not_lt_zero _)⟩
  rw [s1, s2]
  exact ⟨rfl, q⟩
theorem rcN_tup (hD : MonB D) (h : EqB X n D) : RcB X (n + 1) .NotEq not (TupB X.K D) := by
  intro A pins s σ H x y u v b sb I rx ry d
  obtain ⟨a, c, xs, ys, es, rfl, rfl, ha, hc, p, rfl⟩ := d
  cases (show u = Value.ref a from rx)
  cases (show v = Value.ref c from ry)
  obtain ⟨us, r, e, z⟩ := I.tuple ha
  obtain ⟨vs, r2, e2, z2⟩ := I.tuple hc
  have s1 : us.toArray.size = xs.length := by rw [List.size_toArray, ← r.length]
  have s2 : vs.toArray.size = ys.length := by rw [List.size_toArray, ← r2.length]
  obtain ⟨⟨cls, dd, data, sl⟩, ho, hc1, k1, hd1⟩ := id e
  obtain ⟨⟨cls2, dd2, data2, sl2⟩, ho2, hc2, k2, hd2⟩ := id e2
  dsimp only at hc1 hd1 hc2 hd2
  subst hc1 hd1 hc2 hd2
  refine wpAny_richCompare_same_room (op := .NotEq) ⟨_, ho, rfl⟩ ⟨_, ho2, rfl⟩ F.slot_tuple_ne (GQ.call_here F.slot_tuple_ne ⟨_, ho, rfl⟩ F.entry_tuple_ne (F.args_tuple_ne_2 _ _) ?_) sb.room.units0
  refine PySem.GE.tup_neB (es := es) (J := LoopB X pins σ H es) (F := LoopI X pins σ H) (fun i h1 h2 s' q => one_turn hD h sb p r r2 i h1 h2 s' q) (fun _ _ q => q.1) (fun s' q => ⟨(fun z => nomatch z), ?_⟩) ho ho2 ⟨⟨H, I, fun _ _ e => e⟩, fun j hj => absurd hj (Nat.not_lt_zero _)⟩
  rw [s1, s2]
  exact ⟨rfl, q⟩
/-- tuples in tuples -/
def TupS (K : PySem.W.Frag) (D : DB) : DB := fun x y b H => TupB K D x y b H ∧ (x = y → b = true)
theorem eqB_tup (hD : MonB D) (h : EqB X n D) : EqB X (n + 1) (TupS X.K D) := by
  have r : RcB X (n + 1) .Eq id (TupS X.K D) := fun A pins s σ H x y u v b sb I rx ry d => rcB_tup hD h A pins s σ H x y u v b sb I rx ry d.1
  refine r.eqB fun x y b H d => ?_
  obtain ⟨⟨a, c, xs, ys, es, rfl, rfl, _⟩, same⟩ := d
  exact ⟨a, c, rfl, rfl, fun e => same (by rw [e])⟩
theorem monB_tup {K : PySem.W.Frag} (hD : MonB D) : MonB (TupB K D) := by
  intro x y b H H' k d
  obtain ⟨a, c, xs, ys, es, e1, e2, ha, hc, p, e⟩ := d
  exact ⟨a, c, xs, ys, es, e1, e2, ha.ext k, hc.ext k, p.same hD k, e⟩
theorem monB_tupS {K : PySem.W.Frag} (hD : MonB D) : MonB (TupS K D) := fun x y b H H' k d => ⟨monB_tup hD x y b H H' k d.1, d.2⟩
/-- lists of one length, tracked -/
def LstB (D : DB) : DB := fun x y b H => ∃ a c xs ys es, x = .ref a ∧ y = .ref c ∧ H a = some (.lst xs) ∧ H c = some (.lst ys) ∧ xs.length = ys.length ∧ ItemsB D xs ys es H ∧ b = PySem.GE.allB xs.length xs.length es 0
theorem lst_turns (hD : MonB D) (h : EqB X n D) {A : Around} (sb : Sub X (n + 1) A) {pins : List (Addr × Obj)} {σ : L2.St} {H : Hp} {a c : Addr} {xs ys : List V} {es : Nat → Bool} (ha : H a = some (.lst xs)) (hc : H c = some (.lst ys)) (hl : xs.length = ys.length) (p : ItemsB D xs ys es H) :
    PySem.GE.LTurns X.prog X.w A X.xe a c xs.length es (LoopB X pins σ H es) (LoopI X pins σ H) := by
  intro i s' q
  obtain ⟨⟨H1, I1, k1⟩, _⟩ := id q
  obtain ⟨z, us, k, r, e⟩ := I1.hok a _ (k1 _ _ ha)
  obtain ⟨z2, vs, k2, r2, e2⟩ := I1.hok c _ (k1 _ _ hc)
  refine ⟨us.toArray, vs.toArray, k, k2, e, e2, ?_, ?_, fun h1 h2 => one_turn hD h sb p r r2 i h1 h2 s' q⟩
  · rw [List.size_toArray, ← r.length]
  · rw [List.size_toArray, ← r2.length, hl]
theorem lst_read {pins : List (Addr × Obj)} {σ : L2.St} {H : Hp} {a c : Addr} {xs ys : List V} (ha : H a = some (.lst xs)) (hc : H c = some (.lst ys)) (hl : xs.length = ys.length) : PySem.GE.LRead a c xs.length (LoopI X pins σ H) := by
  intro s' q
  obtain ⟨H1, I1, k1⟩ := q
  obtain ⟨z, us, k, r, e⟩ := I1.hok a _ (k1 _ _ ha)
  obtain ⟨z2, vs, k2, r2, e2⟩ := I1.hok c _ (k1 _ _ hc)
  refine ⟨us.toArray, vs.toArray, k, k2, e, e2, ?_, ?_⟩
  · rw [List.size_toArray, ← r.length]
  · rw [List.size_toArray, ← r2.length, hl]
theorem rcB_lst (hD : MonB D) (h : EqB X n D) : RcB X (n + 1) .Eq id (LstB D) := by
  intro A pins s σ H x y u v b sb I rx ry d
  obtain ⟨a, c, xs, ys, es, rfl, rfl, ha, hc, hl, p, rfl⟩ := d
  cases (show u = Value.ref a from rx)
  cases (show v = Value.ref c from ry)
  obtain ⟨z, us, k, r, e⟩ := I.hok a _ ha
  obtain ⟨z2, vs, k2, r2, e2⟩ := I.hok c _ hc
  refine wpAny_richCompare_same_room (op := .Eq) ⟨_, e, rfl⟩ ⟨_, e2, rfl⟩ F.slot_list_eq (GQ.call_here F.slot_list_eq ⟨_, e, rfl⟩ F.entry_list_eq (F.args_list_eq_2 _ _) ?_) sb.room.units0
  exact PySem.GE.lst_eqB (lst_turns hD h sb ha hc hl p) (lst_read ha hc hl) (fun _ _ q => q.1) (fun s' q => ⟨(fun z => nomatch z), rfl, q⟩) rfl ⟨⟨H, I, fun _ _ e => e⟩, fun j hj => absurd hj (Nat.not_lt_zero _)⟩
theorem rcN_lst (hD : MonB D) (h : EqB X n D) : RcB X (n + 1) .NotEq not (LstB D) := by
  intro A pins s σ H x y u v b sb I rx ry d
  obtain ⟨a, c, xs, ys, es, rfl, rfl, ha, hc, hl, p, rfl⟩ := d
  cases (show u = Value.ref a from rx)
  cases (show v = Value.ref c from ry)
  obtain ⟨z, us, k, r, e⟩ := I.hok a _ ha
  obtain ⟨z2, vs, k2, r2, e2⟩ := I.hok c _ hc
  refine wpAny_richCompare_same_room (op := .NotEq) ⟨_, e, rfl⟩ ⟨_, e2, rfl⟩ F.slot_list_ne (GQ.call_here F.slot_list_ne ⟨_, e, rfl⟩ F.entry_list_ne (F.args_list_ne_2 _ _) ?_) sb.room.units0
  exact PySem.GE.lst_neB (lst_turns hD h sb ha hc hl p) (lst_read ha hc hl) (fun _ _ q => q.1) (fun s' q => ⟨(fun z => nomatch z), rfl, q⟩) rfl ⟨⟨H, I, fun _ _ e => e⟩, fun j hj => absurd hj (Nat.not_lt_zero _)⟩
/-! ### as operators -/
def rCmpB (g : Bool → Bool) (D : DB) : R2 := fun x y H Q => ∃ b, D x y b H ∧ ∀ H', Same H H' → Q (.bl (g b)) H'
theorem op_rc {op : CmpOp} {g : Bool → Bool} (hc : ∀ u v : Value, compareOp op u v = richCompare op u v) (h : RcB X n op g D) (hr : Room n X.A) : OpR X (compareOp op) (rCmpB g D) := by
  intro pins s σ H x y v u Q I rx ry hq
  obtain ⟨b, d, q⟩ := hq
  rw [hc]
  refine wpAny_mono (h X.A pins s σ H x y v u b ⟨hr, rfl⟩ I rx ry d) (fun r s' z => ?_) fun _ _ z => z
  obtain ⟨rfl, H', I', k⟩ := z
  exact ⟨.bl (g b), H', I', rfl, q H' k⟩
theorem op_eqT (hD : MonB D) (h : EqB X n D) (hr : Room (n + 1) X.A) : OpR X (compareOp .Eq) (rCmpB id (TupB X.K D)) := op_rc (fun _ _ => rfl) (rcB_tup hD h) hr
theorem op_neT (hD : MonB D) (h : EqB X n D) (hr : Room (n + 1) X.A) : OpR X (compareOp .NotEq) (rCmpB not (TupB X.K D)) := op_rc (fun _ _ => rfl) (rcN_tup hD h) hr
theorem op_eqL (hD : MonB D) (h : EqB X n D) (hr : Room (n + 1) X.A) : OpR X (compareOp .Eq) (rCmpB id (LstB D)) := op_rc (fun _ _ => rfl) (rcB_lst hD h) hr
theorem op_neL (hD : MonB D) (h : EqB X n D) (hr : Room (n + 1) X.A) : OpR X (compareOp .NotEq) (rCmpB not (LstB D)) := op_rc (fun _ _ => rfl) (rcN_lst hD h) hr
end
end GL
set_option maxHeartbeats 1000000
/-! o.f as a target among others; the heap without one thing. -/
namespace GL
open PySem PySem.Spec PyProof.Rows L2
def gFld (K : PySem.W.Frag) (to : TE) (f : Str) : TG := fun y σ H Q => to σ H fun x H2 => ∃ a C dx fs, x = .ref a ∧ H2 a = some (.ins C dx fs) ∧ Cls K C ∧ NoAttr K C f ∧ fs.length < 1000 ∧ Q σ (upd H2 a (.ins C dx (putF f y fs)))
theorem pg_fld {X : Cx} {o : Expr} {to : TE} {f : Str} {pos : Pos} (ho : PE X o to) : PG X (.Attribute o f pos) (gFld X.K to f) := by
  constructor
  intro pins s σ H y u Q I ry h
  refine PySem.W.kas_attr (thn (ho.run pins s σ H _ I h) ?_)
  rintro ov s2 ⟨x, H2, I2, rx, a, C, dx, fs, rfl, ea, c, n, l, q⟩
  cases (show ov = Value.ref a from rx)
  exact setattr_ok I2 ea c n l ry fun s3 I3 => ⟨σ, _, I3, q⟩
/-- all but the thing at w -/
def off (H : Hp) (w : Addr) : Hp := fun a => if a = w then none else H a
theorem off_ne {H : Hp} {w a : Addr} (h : a ≠ w) : off H w a = H a := if_neg h
theorem off_at {H : Hp} {w : Addr} : off H w w = none := if_pos rfl
theorem off_some {H : Hp} {w a : Addr} {o : HO} (h : off H w a = some o) : a ≠ w ∧ H a = some o := by
  by_cases e : a = w
  · rw [e, off_at] at h
    cases h
  · rw [off_ne e] at h
    exact ⟨e, h⟩
theorem off_same {H H' : Hp} {w : Addr} (k : Same (off H w) H') : Same (off H w) (off H' w) := fun a o e => by
  rw [off_ne (off_some e).1]
  exact k a o e
theorem off_upd {H H' : Hp} {w : Addr} {o : HO} (k : Same (off H w) H') : Same (off H w) (upd H' w o) := fun a u e => by
  rw [upd_ne (off_some e).1]
  exact k a u e
theorem off_of {H : Hp} {w a : Addr} {o u : HO} (e : H w = some o) (h : H a = some u) (ne : u ≠ o) : off H w a = some u := by
  rw [off_ne]
  · exact h
  · rintro rfl
    rw [e] at h
    exact ne (Option.some.inj h).symm
theorem off_le {H : Hp} {w : Addr} : Same (off H w) H := fun a o e => (off_some e).2
/-- x(e, ..), x a local that holds a class of the program -/
def tMakeL (i : Nat) (C : Addr) (sp : Sp) (dvs : List V) (E : XK) (t : TA) : TE := fun σ H Q => σ[i]? = some (some (.ref C)) ∧ tMake C sp dvs E t σ H Q
theorem pe_makeL {X : Cx} {CX : CXT} {k i : Nat} {f C : Addr} {fd : FuncData} {ps : List Str} {sp : Sp} {dvs : List V} {ds : List Value} {E : XK} {x : Str} {p pos : Pos} {e : Expr} {es : List Expr} {t : TA} (M : Mk X.K C f) (F : FnOk X.prog X.w X.K X.mg X.base CX k f fd ps sp) (hr : Room (k + 1) X.A)
    (hN : X.N[i]? = some x) (hv : Vis X.env.scope x) (hb : Binds X.K fd ps ds) (hd : Vals dvs ds) (hx : Passes CX X E) (ha : PA X (e :: es) t) (h1 : (x == ("__debug__" : Str)) = false := by decide) (h2 : (x == ("__classdict__" : Str)) = false := by decide)
    (h3 : starEach (e :: es) X.env = (false, eval e X.env) :: starEach es X.env := by rfl) (h4 : (backTo pos (starEach es X.env)).any (·.1) = false := by rfl) : PE X (.Call (.Name x p) (e :: es) [] pos) (tMakeL i C sp dvs E t) := by
  constructor
  intro pins s σ H Q I h
  obtain ⟨at_, h⟩ := h
  apply wpAny_Call_Name_kw
  have name := (pe_var (X := X) (pos := p) hN hv h1 h2).run pins s σ H (fun v H1 => v = .ref C ∧ H1 = H) I ⟨.ref C, at_, rfl, rfl⟩
  refine thn name ?_
  rintro u s1 ⟨v, H1, I1, r1, rfl, rfl⟩
  cases (show u = Value.ref C from r1)
  refine PySem.W.callWith_K (h₀ := X.base) I.ok.mod.kin M.kp (thn (ha.run pos pins s1 σ _ _ I1 h) ?_) h3 h4
  rintro us s2 ⟨vs, H2, I2, r, q⟩
  exact ⟨I2.kIn, run_make M F hr hb hd hx I2 r q⟩
end GL
set_option maxHeartbeats 4000000
/-! x is True; heaps whose tables of code objects grow. -/
namespace GL
open PySem PySem.Spec PyProof.Rows L2
theorem op_isB {X : Cx} : OpR X (compareOp .Is) (fun x y H Q => ∃ a b, x = .bl a ∧ y = .bl b ∧ Q (.bl (a == b)) H) := by
  intro pins s z H x y v u Q I rx ry h
  obtain ⟨a, b, rfl, rfl, q⟩ := h
  cases rx
  cases ry
  cases a <;> cases b <;> exact wpAny_pure (fin_bl I q rfl)
/-- what is not a table -/
def noT (H : Hp) : Hp := fun b => match H b with
  | some (.tbl _) => none
  | o => o
section
variable {H H' : Hp} {b : Addr} {o : HO}
theorem noT_some (e : noT H b = some o) : H b = some o ∧ ∀ ps, o ≠ .tbl ps := by
  unfold noT at e
  split at e
  · cases e
  · rename_i n
    exact ⟨e, fun ps z => n ps (by rw [e, z])⟩
theorem noT_at (e : H b = some o) (n : ∀ ps, o ≠ .tbl ps) : noT H b = some o := by
  unfold noT
  split
  · rename_i z
    rw [e] at z
    cases z
    exact absurd rfl (n _)
  · exact e
theorem extN_same (k : LamX.ExtN H H') : Same (noT H) H' := fun b o e => k b o (noT_some e).1 (noT_some e).2
theorem same_extN (k : Same H H') : LamX.ExtN H H' := fun b o e _ => k b o e
theorem Tabs.same {T : List (Addr × Str)} (t : LamX.Tabs T H) (k : Same H H') : LamX.Tabs T H' := t.ext k
theorem codeO_lst {c : Addr} {q : Str} {xs : List V} : LamX.CodeO c q ≠ .lst xs := fun z => by
  unfold LamX.CodeO at z
  cases z
theorem Tabs.offP {T : List (Addr × Str)} {p : Addr} {xs : List V} (t : LamX.Tabs T H) (e : H p = some (.lst xs)) : LamX.Tabs T (off H p) := fun x hx => by
  obtain ⟨ps, h1, h2, h3⟩ := t x hx
  refine ⟨ps, ?_, h2, fun pos cv hc => ?_⟩
  · rw [off_ne (fun z => by rw [z, e] at h1; cases h1)]
    exact h1
  · obtain ⟨c, e1, e2⟩ := h3 pos cv hc
    refine ⟨c, e1, ?_⟩
    rw [off_ne (fun z => by rw [z, e] at e2; exact codeO_lst (Option.some.inj e2).symm)]
    exact e2
end
end GL
set_option maxHeartbeats 4000000
/-! A law one of whose defs makes lambdas: the table of its code object, in the hook and at the end. -/
namespace GL
open PySem PySem.Spec PyProof.Rows L2
/-- a table in which nothing is yet -/
def isTab (o : Obj) : Bool := match o with
  | ⟨.none, none, .fields vs, sl⟩ => vs.isEmpty && sl.isEmpty
  | _ => false
theorem isTab_eq {o : Obj} (h : isTab o = true) : o = { cls := .none, data := .fields #[] } := by
  unfold isTab at h
  split at h
  · rename_i vs sl
    obtain ⟨h1, h2⟩ := He.ba h
    rw [Array.isEmpty_iff.mp h1, Array.isEmpty_iff.mp h2]
  · cases h
def codeAt (K : PySem.W.Frag) (f : Addr) : Addr := match K.lookup f with
  | some ⟨_, _, .func fd, _⟩ => (match fd.code with | .ref c => c | _ => 0)
  | _ => 0
def tabAt (K : PySem.W.Frag) (c : Addr) : Addr := match K.lookup c with
  | some ⟨_, _, .fields vs, _⟩ => (match (vs[11]? : Option Value) with | some (.ref p) => p | _ => 0)
  | _ => 0
def codeB (K : PySem.W.Frag) (f : Addr) : Bool := (match K.lookup f with
  | some ⟨_, _, .func fd, _⟩ => (match fd.code with | .ref _ => true | _ => false)
  | _ => false) && ((match K.lookup (codeAt K f) with
  | some ⟨.type "code", _, .fields vs, _⟩ => (match (vs[11]? : Option Value) with | some (.ref _) => true | _ => false) && ((match vs.getD 18 .none with | .str _ _ => true | _ => false) && ((match vs.getD 7 .none with | .int _ _ => true | _ => false) &&
      ((match vs.getD 9 .none with | .bool _ => true | _ => false) && (match vs.getD 10 .none with | .int _ _ => true | _ => false))))
  | _ => false) && (!(codeAt K f == tabAt K (codeAt K f)) && (K.lookup (tabAt K (codeAt K f))).isNone))
theorem codeB_ok {K : PySem.W.Frag} {h : Heap} {f : Addr} (KX : K.In h) (b : codeB K f = true) : PySem.W.CodeHd h (codeAt K f) (tabAt K (codeAt K f)) ∧ K.lookup (tabAt K (codeAt K f)) = none ∧
    ∀ oc od fd osl, K.lookup f = some ⟨oc, od, .func fd, osl⟩ → fd.code = .ref (codeAt K f) := by
  obtain ⟨b1, b2⟩ := He.ba b
  obtain ⟨b2, b3⟩ := He.ba b2
  obtain ⟨b3, b4⟩ := He.ba b3
  refine ⟨?_, by simpa using b4, fun oc od fd osl e => ?_⟩
  · have ne : codeAt K f ≠ tabAt K (codeAt K f) := by simpa using b3
    generalize hc : codeAt K f = c at *
    unfold tabAt at ne ⊢
    split at b2
    · rename_i dd vs sl e
      rw [e] at ne ⊢
      dsimp only at ne ⊢
      obtain ⟨c1, c2⟩ := He.ba b2
      obtain ⟨c2, c3⟩ := He.ba c2
      obtain ⟨c3, c4⟩ := He.ba c3
      obtain ⟨c4, c5⟩ := He.ba c4
      split at c1
      · rename_i p ep
        try rw [ep] at ne
        dsimp only at ne
        split at c2
        · rename_i x1 x2 e1
          split at c3
          · rename_i y1 y2 e2
            split at c4
            · rename_i z1 e3
              split at c5
              · rename_i w1 w2 e4
                exact ⟨_, vs, x1, x2, y1, y2, z1, w1, w2, KX _ _ e, rfl, rfl, ep, by rw [Array.getD_eq_getD_getElem?, ep]; rfl, e1, e2, e3, e4, ne⟩
              · cases c5
            · cases c4
          · cases c3
        · cases c2
      · cases c1
    · cases b2
  · unfold codeAt
    rw [e] at b1 ⊢
    dsimp only at b1 ⊢
    split at b1
    · rename_i c ec
      rw [ec]
    · cases b1
/-- as kOfT, without the tables -/
def kOfC (n : Nat) (g : Addr → Option Obj) : PySem.W.Frag := He.frG g ((cStatics :: sysModules :: lvls g n [mainGlobals]).filter fun a => match g a with | some o => !isTab o | none => true)
def tabF (n : Nat) (fr : PySem.W.Frag → Addr) (g : Addr → Option Obj) : PySem.W.Frag := He.frG g [tabAt (kOfC n g) (codeAt (kOfC n g) (fr (kOfC n g)))]
def tabB (K T : PySem.W.Frag) (f : Addr) : Bool := codeB K f && (match T.lookup (tabAt K (codeAt K f)) with | some o => isTab o | none => false)
def obsC (n : Nat) (fa : List He.Fa) (fn : List He.DefD) (fx : List DefX) (ex : PySem.W.Frag → Bool) (fr : PySem.W.Frag → Addr) (g : Addr → Option Obj) : AlZ :=
  (He.obsD fa fn (kOfC n g), (fx.map (fnX (kOfC n g)), fx.all (okX (kOfC n g)) && (ex (kOfC n g) && tabB (kOfC n g) (tabF n fr g) (fr (kOfC n g)))))
def hookC (n : Nat) (fa : List He.Fa) (fn : List He.DefD) (fx : List DefX) (ex : PySem.W.Frag → Bool) (fr : PySem.W.Frag → Addr) : PySem.W.Hook where
  α := AlZ
  obs := fun s => obsC n fa fn fx ex fr s.heap.get?
  val := fun _ => (He.valD fn, (fx.map (fun x : DefX => x.d.val), true))
  says := fun _ h => ∃ K T : PySem.W.Frag, K.In h ∧ T.In h ∧ He.SaysD fa fn K ∧ SaysX fx K ∧ ex K = true ∧ tabB K T (fr K) = true
  of := fun _ s e => by
    have e1 := congrArg (fun z : AlZ => z.1) e
    have e2 := congrArg (fun z : AlZ => z.2.1) e
    have e3 := congrArg (fun z : AlZ => z.2.2) e
    obtain ⟨f1, f2⟩ := He.ba (show (fx.all (okX (kOfC n s.heap.get?)) && (ex (kOfC n s.heap.get?) && tabB (kOfC n s.heap.get?) (tabF n fr s.heap.get?) (fr (kOfC n s.heap.get?)))) = true from e3)
    obtain ⟨f2, f3⟩ := He.ba f2
    exact ⟨kOfC n s.heap.get?, tabF n fr s.heap.get?, He.frG_in, He.frG_in, e1, ⟨e2, f1⟩, f2, f3⟩
  keeps := fun _ _ _ ⟨K, T, hK, hT, c⟩ k => ⟨K, T, PySem.W.Frag.In.keeps hK k, PySem.W.Frag.In.keeps hT k, c⟩
theorem obsC_eq {n : Nat} {fa : List He.Fa} {fn : List He.DefD} {fx : List DefX} {ex : PySem.W.Frag → Bool} {fr : PySem.W.Frag → Addr} {g : Addr → Option Obj} {s : Shared} (h : ∀ a, g a = s.heap.get? a) : obsC n fa fn fx ex fr g = (hookC n fa fn fx ex fr).obs s := by
  have e : g = s.heap.get? := funext h
  rw [e]
  rfl
section
open HandSHeadRun
theorem run_partsC {r : PySem.W.OpenRow} {q : Program} {n : Nat} {fa : List He.Fa} {fn : List He.DefD} {fx : List DefX} {ex : PySem.W.Frag → Bool} {fr : PySem.W.Frag → Addr} {M : Nat} {loose : List PySem.Str} {w : World}
    (h1 : (wholeF (fun p => stepQ (denQ tabQ) p w) fenceQ M r.prog).map (fun x => (looksF r.prog x.1.heap x.2.abs, seenQ q loose (importedModules r.prog.main.body) (fun s => PySem.W.xlAt q [] s && PySem.W.recOk r.toRowW.records s) x.2.abs)) = some (true, PySem.W.openGood q loose))
    (h2 : (wholeF (fun p => stepQ (denQ tabQ) p w) fenceQ M r.prog).map (fun x => He.obsD fa fn (kOfC n (getT x.2))) = some (He.valD fn))
    (h3 : (wholeF (fun p => stepQ (denQ tabQ) p w) fenceQ M r.prog).map (fun x => (fx.map (fnX (kOfC n (getT x.2))), fx.all (okX (kOfC n (getT x.2))) && (ex (kOfC n (getT x.2)) && tabB (kOfC n (getT x.2)) (tabF n fr (getT x.2)) (fr (kOfC n (getT x.2)))))) = some (fx.map (fun x : DefX => x.d.val), true)) :
    RunEqI r q (hookC n fa fn fx ex fr) (fun s => obsC n fa fn fx ex fr (getT s)) M loose w := by
  unfold RunEqI
  cases e : wholeF (fun p => stepQ (denQ tabQ) p w) fenceQ M r.prog with
  | none =>
    rw [e] at h1
    cases h1
  | some x =>
    rw [e] at h1 h2 h3
    have a1 := Option.some.inj h1
    have a2 := Option.some.inj h2
    have a3 := Option.some.inj h3
    obtain ⟨b1, b2⟩ := Prod.mk.inj a1
    refine congrArg some (Prod.ext b1 (Prod.ext b2 ?_))
    exact Prod.ext a2 a3
end
end GL
set_option maxHeartbeats 4000000
/-! As GB, several defs that make lambdas: a table for each. -/
namespace GL
open PySem PySem.Spec PyProof.Rows L2
def tabF2 (n : Nat) (fr : PySem.W.Frag → List Addr) (g : Addr → Option Obj) : PySem.W.Frag := He.frG g ((fr (kOfC n g)).map fun f => tabAt (kOfC n g) (codeAt (kOfC n g) f))
def tabB2 (K T : PySem.W.Frag) (fs : List Addr) : Bool := fs.all fun f => tabB K T f
def obsC2 (n : Nat) (fa : List He.Fa) (fn : List He.DefD) (fx : List DefX) (ex : PySem.W.Frag → Bool) (fr : PySem.W.Frag → List Addr) (g : Addr → Option Obj) : AlZ :=
  (He.obsD fa fn (kOfC n g), (fx.map (fnX (kOfC n g)), fx.all (okX (kOfC n g)) && (ex (kOfC n g) && tabB2 (kOfC n g) (tabF2 n fr g) (fr (kOfC n g)))))
def hookC2 (n : Nat) (fa : List He.Fa) (fn : List He.DefD) (fx : List DefX) (ex : PySem.W.Frag → Bool) (fr : PySem.W.Frag → List Addr) : PySem.W.Hook where
  α := AlZ
  obs := fun s => obsC2 n fa fn fx ex fr s.heap.get?
  val := fun _ => (He.valD fn, (fx.map (fun x : DefX => x.d.val), true))
  says := fun _ h => ∃ K T : PySem.W.Frag, K.In h ∧ T.In h ∧ He.SaysD fa fn K ∧ SaysX fx K ∧ ex K = true ∧ tabB2 K T (fr K) = true
  of := fun _ s e => by
    have e1 := congrArg (fun z : AlZ => z.1) e
    have e2 := congrArg (fun z : AlZ => z.2.1) e
    have e3 := congrArg (fun z : AlZ => z.2.2) e
    obtain ⟨f1, f2⟩ := He.ba (show (fx.all (okX (kOfC n s.heap.get?)) && (ex (kOfC n s.heap.get?) && tabB2 (kOfC n s.heap.get?) (tabF2 n fr s.heap.get?) (fr (kOfC n s.heap.get?)))) = true from e3)
    obtain ⟨f2, f3⟩ := He.ba f2
    exact ⟨kOfC n s.heap.get?, tabF2 n fr s.heap.get?, He.frG_in, He.frG_in, e1, ⟨e2, f1⟩, f2, f3⟩
  keeps := fun _ _ _ ⟨K, T, hK, hT, c⟩ k => ⟨K, T, PySem.W.Frag.In.keeps hK k, PySem.W.Frag.In.keeps hT k, c⟩
theorem obsC2_eq {n : Nat} {fa : List He.Fa} {fn : List He.DefD} {fx : List DefX} {ex : PySem.W.Frag → Bool} {fr : PySem.W.Frag → List Addr} {g : Addr → Option Obj} {s : Shared} (h : ∀ a, g a = s.heap.get? a) : obsC2 n fa fn fx ex fr g = (hookC2 n fa fn fx ex fr).obs s := by
  have e : g = s.heap.get? := funext h
  rw [e]
  rfl
section
open HandSHeadRun
theorem run_partsC2 {r : PySem.W.OpenRow} {q : Program} {n : Nat} {fa : List He.Fa} {fn : List He.DefD} {fx : List DefX} {ex : PySem.W.Frag → Bool} {fr : PySem.W.Frag → List Addr} {M : Nat} {loose : List PySem.Str} {w : World}
    (h1 : (wholeF (fun p => stepQ (denQ tabQ) p w) fenceQ M r.prog).map (fun x => (looksF r.prog x.1.heap x.2.abs, seenQ q loose (importedModules r.prog.main.body) (fun s => PySem.W.xlAt q [] s && PySem.W.recOk r.toRowW.records s) x.2.abs)) = some (true, PySem.W.openGood q loose))
    (h2 : (wholeF (fun p => stepQ (denQ tabQ) p w) fenceQ M r.prog).map (fun x => He.obsD fa fn (kOfC n (getT x.2))) = some (He.valD fn))
    (h3 : (wholeF (fun p => stepQ (denQ tabQ) p w) fenceQ M r.prog).map (fun x => (fx.map (fnX (kOfC n (getT x.2))), fx.all (okX (kOfC n (getT x.2))) && (ex (kOfC n (getT x.2)) && tabB2 (kOfC n (getT x.2)) (tabF2 n fr (getT x.2)) (fr (kOfC n (getT x.2)))))) = some (fx.map (fun x : DefX => x.d.val), true)) :
    RunEqI r q (hookC2 n fa fn fx ex fr) (fun s => obsC2 n fa fn fx ex fr (getT s)) M loose w := by
  unfold RunEqI
  cases e : wholeF (fun p => stepQ (denQ tabQ) p w) fenceQ M r.prog with
  | none =>
    rw [e] at h1
    cases h1
  | some x =>
    rw [e] at h1 h2 h3
    have a1 := Option.some.inj h1
    have a2 := Option.some.inj h2
    have a3 := Option.some.inj h3
    obtain ⟨b1, b2⟩ := Prod.mk.inj a1
    refine congrArg some (Prod.ext b1 (Prod.ext b2 ?_))
    exact Prod.ext a2 a3
end
end GL
set_option maxHeartbeats 0
namespace K18
open PySem PySem.Spec PyProof.Rows L2 GL
def plain (x : Str) (i : Nat) : He.DefD := ⟨(x, none), x, x, defArgs (tp i), defBody (tp i), defScope (tp i), [], []⟩
def fns : List He.DefD := [⟨("InvalidNumber", some "__init__"), "__init__", "InvalidNumber.__init__", defArgs (inClass (tp 3) 0), defBody (inClass (tp 3) 0), defScope (inClass (tp 3) 0), [], []⟩,
  plain "is_integer" 7,
  plain "is_number" 9,
  ⟨("Ratio", some "__init__"), "__init__", "Ratio.__init__", defArgs (inClass (tp 10) 0), defBody (inClass (tp 10) 0), defScope (inClass (tp 10) 0), [.int 1], []⟩,
  ⟨("Ratio", some "is_below"), "is_below", "Ratio.is_below", defArgs (inClass (tp 10) 7), defBody (inClass (tp 10) 7), defScope (inClass (tp 10) 7), [], []⟩,
  ⟨("Ratio", some "over"), "over", "Ratio.over", defArgs (inClass (tp 10) 8), defBody (inClass (tp 10) 8), defScope (inClass (tp 10) 8), [], []⟩,
  ⟨("Ratio", some "__add__"), "__add__", "Ratio.__add__", defArgs (inClass (tp 10) 9), defBody (inClass (tp 10) 9), defScope (inClass (tp 10) 9), [], []⟩,
  ⟨("Ratio", some "__sub__"), "__sub__", "Ratio.__sub__", defArgs (inClass (tp 10) 10), defBody (inClass (tp 10) 10), defScope (inClass (tp 10) 10), [], []⟩,
  ⟨("Ratio", some "__mul__"), "__mul__", "Ratio.__mul__", defArgs (inClass (tp 10) 11), defBody (inClass (tp 10) 11), defScope (inClass (tp 10) 11), [], []⟩,
  ⟨("Ratio", some "__neg__"), "__neg__", "Ratio.__neg__", defArgs (inClass (tp 10) 12), defBody (inClass (tp 10) 12), defScope (inClass (tp 10) 12), [], []⟩,
  ⟨("Ratio", some "__eq__"), "__eq__", "Ratio.__eq__", defArgs (inClass (tp 10) 13), defBody (inClass (tp 10) 13), defScope (inClass (tp 10) 13), [], []⟩,
  ⟨("Ratio", some "__str__"), "__str__", "Ratio.__str__", defArgs (inClass (tp 10) 14), defBody (inClass (tp 10) 14), defScope (inClass (tp 10) 14), [], []⟩,
  ⟨("Ratio", some "__repr__"), "__repr__", "Ratio.__repr__", defArgs (inClass (tp 10) 15), defBody (inClass (tp 10) 15), defScope (inClass (tp 10) 15), [], []⟩,
  plain "_ratios_of" 11,
  plain "_law_rng" 13,
  plain "_law_draw" 14,
  plain "_law_choice" 15,
  plain "_law_plain" 16,
  plain "_law_sum" 17,
  plain "_law_less" 18,
  plain "_law_fraction" 19,
  plain "_law_real" 20,
  plain "_law_is" 21,
  plain "_law_told" 22,
  plain "_law_text" 23,
  plain "_law_made" 24,
  plain "_law_alone_right" 25,
  plain "_law_pair_right" 26,
  plain "_law_several_right" 27,
  plain "_law_near_right" 28,
  plain "_law_refused_right" 29,
  plain "_law_right" 30,
  plain "law" 31]
def fxs : List DefX := [⟨fun K => wrapAt K (He.ga K "Ratio") "of" "classmethod", ⟨("Ratio", some "of"), "of", "Ratio.of", defArgs (inClass (tp 10) 1), defBody (inClass (tp 10) 1), defScope (inClass (tp 10) 1), [], []⟩⟩,
  ⟨fun K => wrapAt K (He.ga K "Ratio") "least" "classmethod", ⟨("Ratio", some "least"), "least", "Ratio.least", defArgs (inClass (tp 10) 2), defBody (inClass (tp 10) 2), defScope (inClass (tp 10) 2), [], []⟩⟩,
  ⟨fun K => wrapAt K (He.ga K "Ratio") "greatest" "classmethod", ⟨("Ratio", some "greatest"), "greatest", "Ratio.greatest", defArgs (inClass (tp 10) 3), defBody (inClass (tp 10) 3), defScope (inClass (tp 10) 3), [], []⟩⟩,
  ⟨fun K => wrapAt K (He.ga K "Ratio") "top" "property", ⟨("Ratio", some "top"), "top", "Ratio.top", defArgs (inClass (tp 10) 4), defBody (inClass (tp 10) 4), defScope (inClass (tp 10) 4), [], []⟩⟩,
  ⟨fun K => wrapAt K (He.ga K "Ratio") "bottom" "property", ⟨("Ratio", some "bottom"), "bottom", "Ratio.bottom", defArgs (inClass (tp 10) 5), defBody (inClass (tp 10) 5), defScope (inClass (tp 10) 5), [], []⟩⟩,
  ⟨fun K => wrapAt K (He.ga K "Ratio") "sign" "property", ⟨("Ratio", some "sign"), "sign", "Ratio.sign", defArgs (inClass (tp 10) 6), defBody (inClass (tp 10) 6), defScope (inClass (tp 10) 6), [], []⟩⟩]
def fas : List He.Fa := [.glo "FadeError",
  .glo "InvalidNumber",
  .glo "DividedByZero",
  .glo "is_integer",
  .glo "is_number",
  .glo "Ratio",
  .glo "_ratios_of",
  .glo "_law_rng",
  .glo "_law_draw",
  .glo "_law_choice",
  .glo "_law_plain",
  .glo "_law_sum",
  .glo "_law_less",
  .glo "_law_fraction",
  .glo "_law_real",
  .glo "_law_is",
  .glo "_law_told",
  .glo "_law_text",
  .glo "_law_made",
  .glo "_law_alone_right",
  .glo "_law_pair_right",
  .glo "_law_several_right",
  .glo "_law_near_right",
  .glo "_law_refused_right",
  .glo "_law_right",
  .glo "law",
  .free "isinstance",
  .free "int",
  .free "bool",
  .free "len",
  .free "abs",
  .free "max",
  .free "min",
  .free "divmod",
  .free "str",
  .free "list",
  .free "all",
  .free "range",
  .free "tuple",
  .free "repr",
  .free "any",
  .free "zip",
  .free "RuntimeError",
  .cls "Ratio",
  .noat "Ratio" "_top",
  .noat "Ratio" "_bottom",
  .mkr "Ratio",
  .meth "Ratio" "is_below",
  .meth "Ratio" "over",
  .meth "Ratio" "__add__",
  .meth "Ratio" "__sub__",
  .meth "Ratio" "__mul__",
  .meth "Ratio" "__neg__",
  .meth "Ratio" "__eq__",
  .meth "Ratio" "__str__",
  .meth "Ratio" "__repr__"]
def mroB (K : PySem.W.Frag) (C : Addr) : Bool := match PySem.W.clsIn K C with
  | some cd => (match cd.mro with | .ref a :: _ => a == C | _ => false)
  | none => false
def chks (K : PySem.W.Frag) : List Bool := [decide (PySem.W.specialIn K (.builtin "object.__class__") "__get__" = some (some (.builtin "getset_descriptor.__get__"))),
  decide (PySem.W.takesIn K (.builtin "object.__class__") = some true),
  He.eqO (PySem.W.findIn K (.ref (He.ga K "Ratio")) "__class__") (some (some (.builtin "object.__class__"))),
  decide (PySem.W.mroIn K (He.ga K "Ratio") (.type "object") = some true),
  He.eqO (PySem.W.findIn K (.ref (He.ga K "Ratio")) "__ne__") (some (some (.builtin "object.__ne__"))),
  decide (PySem.W.kitOne K (.ref (He.ga K "Ratio")) (.type "int") = some false),
  decide (PySem.W.kitOne K (.type "int") (.ref (He.ga K "Ratio")) = some false),
  He.eqO (PySem.W.findIn K (.ref (He.ga K "Ratio")) "__radd__") (some none),
  He.eqO (PySem.W.findIn K (.ref (He.ga K "Ratio")) "__rsub__") (some none),
  He.eqO (PySem.W.findIn K (.ref (He.ga K "Ratio")) "__rmul__") (some none),
  mroB K (He.ga K "Ratio"),
  decide (PySem.W.subIn K (.type "int") (.ref (He.ga K "Ratio")) = some false),
  propB K (He.ga K "Ratio") "top",
  propB K (He.ga K "Ratio") "bottom",
  propB K (He.ga K "Ratio") "sign",
  cmetB K (He.ga K "Ratio") (.type "type") "of",
  cmetB K (He.ga K "Ratio") (.type "type") "least",
  cmetB K (He.ga K "Ratio") (.type "type") "greatest",
  PySem.W.readsIn K (He.ga K "Ratio") (.type "type"),
  He.eqO (PySem.W.specialIn K (.ref (He.ga K "Ratio")) "__getattribute__") (some (some (.builtin "type.__getattribute__"))),
  He.eqO (PySem.W.nsIn K mainGlobals "gcd") (some (some (.builtin "math.gcd"))),
  xcB K (He.ga K "InvalidNumber") .ve,
  He.eqO (PySem.W.findIn K (.ref (He.ga K "InvalidNumber")) "value") (some none),
  He.eqO (PySem.W.findIn K (.ref (He.ga K "InvalidNumber")) "__init__") (some (some (.ref (He.ma K (He.ga K "InvalidNumber") "__init__")))),
  decide (PySem.W.typeIn K (.ref (He.ma K (He.ga K "InvalidNumber") "__init__")) = some (.type "function")),
  !(tabAt K (codeAt K (He.ga K "_law_pair_right")) == tabAt K (codeAt K (He.ga K "_law_refused_right"))),
  decide (PySem.W.notFirst K (He.ga K "Ratio") (.type "tuple") = true),
  decide (PySem.W.notFirst K (He.ga K "Ratio") (.type "int") = true),
  xcB K (He.ga K "DividedByZero") .re,
  PySem.W.excIn K (He.ga K "DividedByZero") [.type "RuntimeError", .type "Exception", .type "BaseException", .type "object"] "RuntimeError.__new__",
  decide (PySem.W.exmOne K (.ref (He.ga K "InvalidNumber")) (.ref (He.ga K "InvalidNumber")) = some true),
  decide (PySem.W.exmOne K (.ref (He.ga K "DividedByZero")) (.ref (He.ga K "InvalidNumber")) = some false),
  decide (PySem.W.exmOne K (.ref (He.ga K "DividedByZero")) (.ref (He.ga K "DividedByZero")) = some true),
  decide (PySem.W.kitOne K (.ref (He.ga K "InvalidNumber")) (.ref (He.ga K "FadeError")) = some true),
  decide (PySem.W.kitOne K (.ref (He.ga K "DividedByZero")) (.type "RuntimeError") = some true),
  decide (PySem.W.subIn K (.type "bool") (.ref (He.ga K "Ratio")) = some false),
  decide (PySem.W.kitOne K (.type "NoneType") (.ref (He.ga K "Ratio")) = some false),
  decide (PySem.W.kitOne K (.type "str") (.ref (He.ga K "Ratio")) = some false),
  decide (PySem.W.kitOne K (.type "list") (.ref (He.ga K "Ratio")) = some false),
  decide (PySem.W.kitOne K (.type "tuple") (.ref (He.ga K "Ratio")) = some false),
  decide (PySem.W.kitOne K (.type "dict") (.ref (He.ga K "Ratio")) = some false),
  decide (PySem.W.kitOne K (.type "bool") (.ref (He.ga K "Ratio")) = some false),
  decide (PySem.W.kitOne K (.type "int") (.ref (He.ga K "Ratio")) = some false)]
def exB (K : PySem.W.Frag) : Bool := sysB K && (chks K).all id
def lamF (K : PySem.W.Frag) : List Addr := [He.ga K "_law_pair_right", He.ga K "_law_refused_right"]
end K18
set_option maxHeartbeats 0
namespace K18
open PySem PySem.Spec PyProof.Rows L2 GL
abbrev R : PySem.W.OpenRow := PySem.W.OpenLaw.row PySem.Challenge.rw_fademodes_k10_whole_ratios
abbrev hk : PySem.W.Hook := hookC2 5 fas fns fxs exB lamF
def ob (s : PySem.W.SharedT) : AlZ := obsC2 5 fas fns fxs exB lamF (HandSHeadRun.getT s)
theorem ob_eq (s : PySem.W.SharedT) : ob s = hk.obs s.abs := obsC2_eq (HandSHeadRun.getT_eq s)
def loose : List PySem.Str := (["__name__", "FadeError", "InvalidNumber", "StateError", "DividedByZero", "is_integer", "is_number", "Ratio", "_ratios_of", "_law_rng", "_law_draw", "_law_choice", "_law_plain", "_law_sum", "_law_less", "_law_fraction", "_law_real", "_law_is", "_law_told", "_law_text"] : List PySem.Str) ++ (["_law_made", "_law_alone_right", "_law_pair_right", "_law_several_right", "_law_near_right", "_law_refused_right", "_law_right"] : List PySem.Str)
theorem run1 (w : World) : (HandSHeadRun.wholeF (fun p => HandSHeadRun.stepQ (HandSHeadRun.denQ HandSHeadRun.tabQ) p w) HandSHeadRun.fenceQ 20000 R.prog).map (fun x => (HandSHeadRun.looksF R.prog x.1.heap x.2.abs, HandSHeadRun.seenQ (PySem.W.view R.prog [0, 31]) loose (importedModules R.prog.main.body) (fun s => PySem.W.xlAt (PySem.W.view R.prog [0, 31]) [] s && PySem.W.recOk R.toRowW.records s) x.2.abs)) = some (true, PySem.W.openGood (PySem.W.view R.prog [0, 31]) loose) := by
  kernel_rfl
theorem run2 (w : World) : (HandSHeadRun.wholeF (fun p => HandSHeadRun.stepQ (HandSHeadRun.denQ HandSHeadRun.tabQ) p w) HandSHeadRun.fenceQ 20000 R.prog).map (fun x => He.obsD fas fns (kOfC 5 (HandSHeadRun.getT x.2))) = some (He.valD fns) := by
  kernel_rfl
theorem run3 (w : World) : (HandSHeadRun.wholeF (fun p => HandSHeadRun.stepQ (HandSHeadRun.denQ HandSHeadRun.tabQ) p w) HandSHeadRun.fenceQ 20000 R.prog).map (fun x => (fxs.map (fnX (kOfC 5 (HandSHeadRun.getT x.2))), fxs.all (okX (kOfC 5 (HandSHeadRun.getT x.2))) && (exB (kOfC 5 (HandSHeadRun.getT x.2)) && tabB2 (kOfC 5 (HandSHeadRun.getT x.2)) (tabF2 5 lamF (HandSHeadRun.getT x.2)) (lamF (kOfC 5 (HandSHeadRun.getT x.2)))))) = some (fxs.map (fun x : DefX => x.d.val), true) := by
  kernel_rfl
theorem run (w : World) : HandSHeadRun.RunEqI R (PySem.W.view R.prog [0, 31]) hk ob 20000 loose w := run_partsC2 (run1 w) (run2 w) (run3 w)
end K18
set_option maxHeartbeats 4000000
namespace K18
open PySem PySem.Spec PyProof.Rows L2 GL
/-! ### numbers in lowest terms -/
theorem norm {t b : Int} (hb : b ≠ 0) : t.fdiv (if 0 < b then (t.natAbs.gcd b.natAbs : Int) else -(t.natAbs.gcd b.natAbs : Int)) = (Rat.divInt t b).num ∧
    b.fdiv (if 0 < b then (t.natAbs.gcd b.natAbs : Int) else -(t.natAbs.gcd b.natAbs : Int)) = ((Rat.divInt t b).den : Int) := by
  have hg : b.gcd t = t.natAbs.gcd b.natAbs := Nat.gcd_comm _ _
  have g0 : 0 < t.natAbs.gcd b.natAbs := Nat.gcd_pos_of_pos_right _ (Int.natAbs_pos.mpr hb)
  rw [Rat.num_divInt, Rat.den_divInt, if_neg hb, hg]
  generalize hG : t.natAbs.gcd b.natAbs = G at *
  have dT : (G : Int) ∣ t := by
    rw [← hG]
    exact Int.ofNat_dvd_left.mpr (Nat.gcd_dvd_left _ _)
  have dB : (G : Int) ∣ b := by
    rw [← hG]
    exact Int.ofNat_dvd_left.mpr (Nat.gcd_dvd_right _ _)
  obtain ⟨x, rfl⟩ := dT
  obtain ⟨y, rfl⟩ := dB
  have gi : (0 : Int) < (G : Int) := by omega
  have gn : (G : Int) ≠ 0 := by omega
  have y0 : y ≠ 0 := by
    rintro rfl
    exact hb (Int.mul_zero _)
  have e3 : ((((G : Int) * y).natAbs / G : Nat) : Int) = (y.natAbs : Int) := by
    rw [Int.natAbs_mul, Int.natAbs_natCast, Nat.mul_div_cancel_left _ g0]
  rw [e3]
  by_cases hp : 0 < (G : Int) * y
  · have yp : 0 < y := by
      rcases Int.lt_or_gt_of_ne y0 with q | q
      · exact absurd (Int.mul_neg_of_pos_of_neg gi q) (by omega)
      · exact q
    rw [if_pos hp, Int.fdiv_eq_ediv_of_nonneg _ (by omega), Int.fdiv_eq_ediv_of_nonneg _ (by omega), Int.mul_ediv_cancel_left _ gn, Int.mul_ediv_cancel_left _ gn, Int.sign_eq_one_of_pos hp, Int.one_mul, Int.mul_ediv_cancel_left _ gn]
    exact ⟨rfl, by omega⟩
  · have hn : (G : Int) * y < 0 := by
      have : (G : Int) * y ≠ 0 := hb
      omega
    have yn : y < 0 := by
      rcases Int.lt_or_gt_of_ne y0 with q | q
      · exact q
      · exact absurd (Int.mul_pos gi q) hp
    have e1 : ((G : Int) * x).fdiv (-(G : Int)) = -x := by
      rw [← Int.neg_fdiv_neg, Int.neg_neg, Int.fdiv_eq_ediv_of_nonneg _ (by omega), ← Int.mul_neg, Int.mul_ediv_cancel_left _ gn]
    have e2 : ((G : Int) * y).fdiv (-(G : Int)) = -y := by
      rw [← Int.neg_fdiv_neg, Int.neg_neg, Int.fdiv_eq_ediv_of_nonneg _ (by omega), ← Int.mul_neg, Int.mul_ediv_cancel_left _ gn]
    rw [if_neg hp, e1, e2, Int.sign_eq_neg_one_of_neg hn, Int.neg_one_mul, ← Int.mul_neg, Int.mul_ediv_cancel_left _ gn]
    exact ⟨rfl, by omega⟩
/-! ### the class Ratio -/
abbrev aR (K : PySem.W.Frag) : Addr := He.ga K "Ratio"
structure RF (K : PySem.W.Frag) (mg : Str → Option Value) : Prop where
  cl : Cls K (aR K)
  nT : NoAttr K (aR K) "_top"
  nB : NoAttr K (aR K) "_bottom"
  kc : PySem.W.findIn K (.ref (aR K)) "__class__" = some (some (.builtin "object.__class__"))
  sp : PySem.W.specialIn K (.builtin "object.__class__") "__get__" = some (some (.builtin "getset_descriptor.__get__"))
  tk : PySem.W.takesIn K (.builtin "object.__class__") = some true
  ob : PySem.W.mroIn K (aR K) (.type "object") = some true
  ki : PySem.W.kitOne K (.ref (aR K)) (.type "int") = some false
  gR : mg "Ratio" = some (.ref (aR K))
  isi : mg "isinstance" = none
  int : mg "int" = none
  bool : mg "bool" = none
/-- a Ratio at an address -/
def RatAt (K : PySem.W.Frag) (H : Hp) (p : Addr) (q : Rat) : Prop := ∃ dx, H p = some (.ins (aR K) dx [("_top", .int q.num), ("_bottom", .int q.den)])
theorem RatAt.same {K : PySem.W.Frag} {H H' : Hp} {p : Addr} {q : Rat} (h : RatAt K H p q) (k : Same H H') : RatAt K H' p q := by
  obtain ⟨dx, e⟩ := h
  exact ⟨dx, k _ _ e⟩
theorem RatAt.ty {K : PySem.W.Frag} {mg : Str → Option Value} {H : Hp} {p : Addr} {q : Rat} (T : RF K mg) (h : RatAt K H p q) : TyX K H (.ref p) (.ref (aR K)) := by
  obtain ⟨dx, e⟩ := h
  exact .base (.ins e T.cl T.kc T.sp T.tk T.ob)
/-- a NUMBER: a whole number, or a Ratio -/
def NumAt (K : PySem.W.Frag) (H : Hp) (x : V) (q : Rat) : Prop := (∃ i : Int, x = .int i ∧ q = (i : Rat)) ∨ ∃ p, x = .ref p ∧ RatAt K H p q
theorem NumAt.same {K : PySem.W.Frag} {H H' : Hp} {x : V} {q : Rat} (h : NumAt K H x q) (k : Same H H') : NumAt K H' x q := by
  rcases h with h | ⟨p, e, h⟩
  · exact .inl h
  · exact .inr ⟨p, e, h.same k⟩
section
variable {P : Program} {w : World} {K : PySem.W.Frag} {mg : Str → Option Value} {base : Heap}
/-! ### is_integer -/
def spIsInt (K : PySem.W.Frag) : Sp := fun vs H Q _ => ∃ (x : V) (t : Value) (b1 b2 : Bool), vs = [x] ∧ TyX K H x t ∧ PySem.W.kitOne K t (.type "int") = some b1 ∧ (b1 = true → PySem.W.kitOne K t (.type "bool") = some b2) ∧ Q (.bl (b1 && !b2)) H
theorem scIsInt : FnScope ["value"] ["value"] (defScope sIsInt) := ⟨rfl, rfl, rfl, by decide +kernel, rfl, by decide +kernel, by decide +kernel⟩
theorem ok_isInt {f : Addr} {fd : FuncData} (F : Fun K "is_integer" "is_integer" sIsInt f fd) (T : RF K mg) : FnOk P w K mg base CX0 1 f fd ["value"] (spIsInt K) := by
  refine F.ok scIsInt (fun vs H Q E h => ?_) (fun cdv A outer s H vs Q E hr h => ?_)
  · obtain ⟨x, t, b1, b2, rfl, _⟩ := h
    rfl
  · obtain ⟨x, t, b1, b2, rfl, ty, k1, k2, q⟩ := h
    refine ⟨_, pss_one (ps_ret (pe_and (pe_callB call_isi (by rfl) T.isi (by decide +kernel) (pa_cons (pv 0) (pa_cons (pe_bltn (v := .ty "int") (by rfl) T.int (by decide +kernel) rfl) pa_nil)))
      (pe_one (pe_not (pe_callB call_isi (by rfl) T.isi (by decide +kernel) (pa_cons (pv 0) (pa_cons (pe_bltn (v := .ty "bool") (by rfl) T.bool (by decide +kernel) rfl) pa_nil))))))), ?_⟩
    refine ⟨_, rfl, x, .ty "int", t, _, b1, rfl, .ty _, ty, k1, b1, rfl, ?_⟩
    cases b1 with
    | true => exact iteT ⟨_, rfl, x, .ty "bool", t, _, b2, rfl, .ty _, ty, k2 rfl, b2, rfl, q⟩
    | false => exact q
/-! ### is_number -/
def spIsNum (K : PySem.W.Frag) : Sp := fun vs H Q _ => ∃ (x : V) (q : Rat), vs = [x] ∧ NumAt K H x q ∧ Q (.bl true) H
theorem scIsNum : FnScope ["value"] ["value"] (defScope sIsNum) := ⟨rfl, rfl, rfl, by decide +kernel, rfl, by decide +kernel, by decide +kernel⟩
theorem ok_isNum {f fI : Addr} {fd fdI : FuncData} (F : Fun K "is_number" "is_number" sIsNum f fd) (T : RF K mg) (FI : Fun K "is_integer" "is_integer" sIsInt fI fdI) (gI : mg "is_integer" = some (.ref fI)) (bI : Binds K fdI ["value"] []) (kr : PySem.W.kitOne K (.type "int") (.ref (aR K)) = some false) :
    FnOk P w K mg base CX0 2 f fd ["value"] (spIsNum K) := by
  have GI : FnOk P w K mg base CX0 1 fI fdI ["value"] (spIsInt K) := ok_isInt FI T
  refine F.ok scIsNum (fun vs H Q E h => ?_) (fun cdv A outer s H vs Q E hr h => ?_)
  · obtain ⟨x, q, rfl, _⟩ := h
    rfl
  · obtain ⟨x, q, rfl, hx, k⟩ := h
    refine ⟨_, pss_one (ps_ret (pe_or (pe_callB call_isi (by rfl) T.isi (by decide +kernel) (pa_cons (pv 0) (pa_cons (pe_glob (v := .ref (aR K)) rfl T.gR rfl) pa_nil)))
      (pe_one (pe_call GI hr rfl gI FI.kp bI .nil pass0 (pa_cons (pv 0) pa_nil))))), ?_⟩
    rcases hx with ⟨i, rfl, rfl⟩ | ⟨p, rfl, hp⟩
    · refine ⟨_, rfl, .int i, .ref (aR K), .type "int", _, false, rfl, .own _, .base (.int i), kr, false, rfl, ?_⟩
      refine iteF ⟨_, rfl, .int i, .type "int", true, false, rfl, .base (.int i), kit_ty (by decide +kernel), fun _ => kit_ty (by decide +kernel), k⟩
    · exact ⟨_, rfl, .ref p, .ref (aR K), .ref (aR K), _, true, rfl, .own _, hp.ty T, (by unfold PySem.W.kitOne; rw [if_pos (beq_self_eq_true _)]), true, rfl, iteT k⟩
end
end K18
set_option maxHeartbeats 4000000
namespace K18
open PySem PySem.Spec PyProof.Rows L2 GL
theorem ps_never {X : Cx} {st : Stmt} : PS X st (fun _ _ _ => False) := ⟨fun pins s σ H D I h => h.elim⟩
theorem op_fdivZ {X : Cx} : OpR X (binaryOp .FloorDiv) (rI (fun _ j => j ≠ 0 ∧ j.natAbs.log2 < 9000) fun i j => .int (i.fdiv j)) :=
  opI fun i j t u s Q E hc q => floordiv_int hc.1 q (Or.inl (PyProof.noPylong_of_log2 hc.2))
theorem log2_lt {n k : Nat} (h : n < 2 ^ k) (hk : 0 < k) : n.log2 < k := by
  by_cases z : n = 0
  · subst z
    simpa using hk
  · exact (Nat.log2_lt z).mpr h
section
variable {P : Program} {w : World} {K : PySem.W.Frag} {mg : Str → Option Value} {base : Heap}
/-! ### Ratio.__init__ -/
def spRInit (K : PySem.W.Frag) : Sp := fun vs H Q _ => ∃ (a dx : Addr) (t b : Int), vs = [.ref a, .int t, .int b] ∧ b ≠ 0 ∧ b.natAbs < 2 ^ 9000 ∧ H a = some (.ins (aR K) dx []) ∧
  ∀ H', H' a = some (.ins (aR K) dx [("_top", .int (Rat.divInt t b).num), ("_bottom", .int (Rat.divInt t b).den)]) → (∀ c o, c ≠ a → H c = some o → H' c = some o) → Q .non H'
theorem scRInit : FnScope ["self", "top", "bottom", "common"] ["self", "top", "bottom"] (defScope (sRatio 0)) := ⟨rfl, rfl, rfl, by decide +kernel, rfl, by decide +kernel, by decide +kernel⟩
theorem ok_rInit {f fI : Addr} {fd fdI : FuncData} {dv : List V} (F : FunD K "__init__" "Ratio.__init__" (defArgs (sRatio 0)) (defBody (sRatio 0)) (defScope (sRatio 0)) dv [] f fd) (T : RF K mg) (FI : Fun K "is_integer" "is_integer" sIsInt fI fdI) (gI : mg "is_integer" = some (.ref fI)) (bI : Binds K fdI ["value"] []) (gG : mg "gcd" = some (.builtin "math.gcd")) :
    FnOk P w K mg base CX0 2 f fd ["self", "top", "bottom"] (spRInit K) := by
  have GI : FnOk P w K mg base CX0 1 fI fdI ["value"] (spIsInt K) := ok_isInt FI T
  refine F.ok scRInit (fun vs H Q E h => ?_) (fun cdv A outer s H vs Q E hr h => ?_)
  · obtain ⟨a, dx, t, b, rfl, _⟩ := h
    rfl
  · obtain ⟨a, dx, t, b, rfl, hb, hz, ea, k⟩ := h
    refine ⟨_, pss_cons (ps_if (pt_not (pt_val (pe_call GI hr rfl gI FI.kp bI .nil pass0 (pa_cons (pv 1) pa_nil)))) (pss_one ps_never) pss_nil)
      (pss_cons (ps_if (PW.pt (pw_or (pt_not (pt_val (pe_call GI hr rfl gI FI.kp bI .nil pass0 (pa_cons (pv 2) pa_nil)))) (pw_or1 (pt_cmpR op_eq (pv 2) pe_int (nomark _))))) (pss_one ps_never) pss_nil)
      (pss_cons (ps_set (i := 3) scRInit.nd rfl (Or.inl rfl) (pe_ifExp (pt_cmpR op_gt (pv 2) pe_int (nomark _)) (pe_callBfun cr_gcd rfl gG (pa_cons (pv 1) (pa_cons (pv 2) pa_nil))) (pe_un un_neg (pe_callBfun cr_gcd rfl gG (pa_cons (pv 1) (pa_cons (pv 2) pa_nil))))))
      (pss_cons (ps_fld (pv 0) (pe_op op_fdivZ (pv 1) (pv 3)) rfl) (pss_one (ps_fld (pv 0) (pe_op op_fdivZ (pv 2) (pv 3)) rfl))))), ?_⟩
    refine ⟨_, rfl, .int t, .type "int", true, false, rfl, .base (.int t), kit_ty (by decide +kernel), fun _ => kit_ty (by decide +kernel), true, rfl, ?_⟩
    refine iteF ?_
    refine ⟨_, rfl, .int b, .type "int", true, false, rfl, .base (.int b), kit_ty (by decide +kernel), fun _ => kit_ty (by decide +kernel), true, rfl, ?_⟩
    refine iteF ⟨_, rfl, rfl, _, rfl, ?_⟩
    have e0 : decide (V.int b = V.int 0) = false := decide_eq_false fun z => hb (by injection z)
    dsimp only
    rw [e0]
    refine iteF ?_
    have go : ∀ c : Int, c ≠ 0 → c.natAbs.log2 < 9000 → t.fdiv c = (Rat.divInt t b).num → b.fdiv c = ((Rat.divInt t b).den : Int) →
        tSeq (sFld K (tVar 0) (tOp (rI (fun _ j => j ≠ 0 ∧ j.natAbs.log2 < 9000) fun i j => .int (i.fdiv j)) (tVar 1) (tVar 3)) "_top") (sFld K (tVar 0) (tOp (rI (fun _ j => j ≠ 0 ∧ j.natAbs.log2 < 9000) fun i j => .int (i.fdiv j)) (tVar 2) (tVar 3)) "_bottom")
          { nx := fun _ H' => Q .non H', rt := Q } [some (.ref a), some (.int t), some (.int b), some (.int c)] H := by
      intro c c0 cl e1 e2
      refine ⟨_, rfl, _, rfl, _, _, rfl, rfl, ⟨c0, cl⟩, _, rfl, a, _, dx, _, rfl, ea, T.cl, T.nT, (by decide), ?_⟩
      refine ⟨_, rfl, _, rfl, _, _, rfl, rfl, ⟨c0, cl⟩, _, rfl, a, _, dx, _, rfl, upd_same, T.cl, T.nB, (by show 1 < 1000; decide), ?_⟩
      dsimp only
      rw [e1, e2]
      exact k _ upd_same fun c o ne e => by rw [upd_ne ne, upd_ne ne]; exact e
    have N := norm (t := t) hb
    have g0 : 0 < t.natAbs.gcd b.natAbs := Nat.gcd_pos_of_pos_right _ (Int.natAbs_pos.mpr hb)
    have gl : (t.natAbs.gcd b.natAbs).log2 < 9000 := log2_lt (Nat.lt_of_le_of_lt (Nat.gcd_le_right _ (Int.natAbs_pos.mpr hb)) hz) (by decide)
    refine ⟨_, rfl, _, _, rfl, rfl, _, rfl, ?_⟩
    refine ite2 (fun c => ?_) (fun c => ?_)
    · rw [if_pos (of_decide_eq_true c)] at N
      exact ⟨_, rfl, _, rfl, t, b, rfl, go _ (by omega) gl N.1 N.2⟩
    · rw [if_neg fun z => c (decide_eq_true z)] at N
      exact ⟨_, rfl, _, rfl, t, b, rfl, _, rfl, go _ (by omega) (by rw [Int.natAbs_neg]; exact gl) N.1 N.2⟩
end
end K18
set_option maxHeartbeats 4000000
namespace K18
open PySem PySem.Spec PyProof.Rows L2 GL
section
variable {P : Program} {w : World} {K : PySem.W.Frag} {mg : Str → Option Value} {base : Heap}
/-- Ratio.__init__ without a bottom -/
theorem rInit_binds {f : Addr} {fd : FuncData} {i : Int} (F : FunD K "__init__" "Ratio.__init__" (defArgs (sRatio 0)) (defBody (sRatio 0)) (defScope (sRatio 0)) [.int i] [] f fd) :
    ∃ d : Value, Vals [V.int i] [d] ∧ Binds K fd ["self", "top", "bottom"] [d] ∧ Binds K fd ["self", "top", "bottom"] [] := by
  obtain ⟨oc, od, dV, kV, doc, pm, an, cdv, ct, osl, rfl, lk, hcd, hD, hK⟩ := F.ex
  rcases hD with ⟨z, _⟩ | ⟨_, T, o, its, n, rfl, lT, hdata, hv⟩
  · cases z
  cases hv with
  | cons r0 rest =>
    cases rest
    rename_i d
    refine ⟨d, .cons r0 .nil, fun s us kin hl => ?_, fun s us kin hl => ?_⟩
    · have l2 : us.length = 2 := by
        rw [List.length_append] at hl
        exact Nat.succ.inj hl
      match us, l2 with
      | [a, b], _ => exact BindsTo.of_looks fun M => looks_items (its := #[d]) kin lT hdata (.of_pure rfl)
    · have l2 : us.length = 3 := by
        rw [List.append_nil] at hl
        exact hl
      match us, l2 with
      | [a, b, c], _ => exact BindsTo.of_looks fun M => looks_items (its := #[d]) kin lT hdata (.of_pure rfl)
end
end K18
set_option maxHeartbeats 4000000
namespace K18
open PySem PySem.Spec PyProof.Rows L2 GL
/-- Ratio(a, b), its parts at the end of the call -/
theorem made_rat {K : PySem.W.Frag} {H : Hp} {Q : VK} {E : XK} {x dx : Addr} {t b : Int} (hx : H x = none) (hd : H dx = none) (ne : dx ≠ x) (hb : b ≠ 0) (hz : b.natAbs < 2 ^ 9000) (k : ∀ p H', Same H H' → H p = none → RatAt K H' p (Rat.divInt t b) → Q (.ref p) H') :
    spRInit K [.ref x, .int t, .int b] (upd (upd H dx (.own x)) x (.ins (aR K) dx [])) (fun v H2 => v = .non ∧ Q (.ref x) H2) E :=
  ⟨x, dx, t, b, rfl, hb, hz, upd_same, fun H' e kp => ⟨rfl, k x H' (fun c o ec => kp c o (ne_of_none ec hx) (by rw [upd_ne (ne_of_none ec hx), upd_ne (ne_of_none ec hd)]; exact ec)) hx ⟨dx, e⟩⟩⟩
/-- the parts of Ratio that others call -/
structure RG (P : Program) (w : World) (K : PySem.W.Frag) (mg : Str → Option Value) (base : Heap) : Prop where
  T : RF K mg
  kr : PySem.W.kitOne K (.type "int") (.ref (aR K)) = some false
  isInt : ∃ f fd, FnOk P w K mg base CX0 1 f fd ["value"] (spIsInt K) ∧ mg "is_integer" = some (.ref f) ∧ Binds K fd ["value"] [] ∧ PySem.W.keepIn K (.ref f) = true
  mR : ∃ f fd d, Mk K (aR K) f ∧ FnOk P w K mg base CX0 2 f fd ["self", "top", "bottom"] (spRInit K) ∧ Vals [V.int 1] [d] ∧ Binds K fd ["self", "top", "bottom"] [d] ∧ Binds K fd ["self", "top", "bottom"] []
section
variable {P : Program} {w : World} {K : PySem.W.Frag} {mg : Str → Option Value} {base : Heap}
/-! ### Ratio.of -/
def spOf (K : PySem.W.Frag) : Sp := fun vs H Q _ => ∃ (x : V) (q : Rat), vs = [.ref (aR K), x] ∧ NumAt K H x q ∧ ∀ p H', Same H H' → RatAt K H' p q → Q (.ref p) H'
theorem scOf : FnScope ["cls", "number"] ["cls", "number"] (defScope (sRatio 1)) := ⟨rfl, rfl, rfl, by decide +kernel, rfl, by decide +kernel, by decide +kernel⟩
theorem ok_of {f : Addr} {fd : FuncData} (F : FunD K "of" "Ratio.of" (defArgs (sRatio 1)) (defBody (sRatio 1)) (defScope (sRatio 1)) [] [] f fd) (G : RG P w K mg base) : FnOk P w K mg base CX0 4 f fd ["cls", "number"] (spOf K) := by
  obtain ⟨fR, fdR, d, MR, GR, vd, bR, _⟩ := G.mR
  have T := G.T
  refine F.ok scOf (fun vs H Q E h => ?_) (fun cdv A outer s H vs Q E hr h => ?_)
  · obtain ⟨x, q, rfl, _⟩ := h
    rfl
  · obtain ⟨x, q, rfl, hx, k⟩ := h
    refine ⟨_, pss_cons (ps_if (pt_val (pe_callB call_isi (by rfl) T.isi (by decide +kernel) (pa_cons (pv 1) (pa_cons (pe_glob (v := .ref (aR K)) rfl T.gR rfl) pa_nil)))) (pss_one (ps_ret (pv 1))) pss_nil)
      (pss_one (ps_ret (pe_make MR GR hr rfl T.gR bR vd pass0 (pa_cons (pv 1) pa_nil)))), ?_⟩
    rcases hx with ⟨i, rfl, rfl⟩ | ⟨p, rfl, hp⟩
    · refine ⟨_, rfl, .int i, .ref (aR K), .type "int", _, false, rfl, .own _, .base (.int i), G.kr, false, rfl, ?_⟩
      refine iteF ⟨_, rfl, fun x dx hx hd ne => ?_⟩
      refine made_rat hx hd ne (by decide) (by show 1 < 2 ^ 9000; exact Nat.one_lt_two_pow (by decide)) fun p H' kp _ r => k p H' kp ?_
      have e : Rat.divInt i 1 = (i : Rat) := by
        have := Rat.num_divInt_den (i : Rat)
        rw [Rat.num_intCast, Rat.den_intCast] at this
        exact this
      rw [← e]
      exact r
    · exact ⟨_, rfl, .ref p, .ref (aR K), .ref (aR K), _, true, rfl, .own _, hp.ty T, (by unfold PySem.W.kitOne; rw [if_pos (beq_self_eq_true _)]), true, rfl, iteT ⟨_, rfl, k p _ (fun _ _ e => e) hp⟩⟩
end
end K18
set_option maxHeartbeats 4000000
namespace K18
open PySem PySem.Spec PyProof.Rows L2 GL
theorem fnR_of {P : Program} {w : World} {K : PySem.W.Frag} {mg : Str → Option Value} {base : Heap} {CX : CXT} {k : Nat} {f : Addr} {fd : FuncData} {ps : List Str} {sp : Sp} (F : FnOk P w K mg base CX k f fd ps sp) (hb : Binds K fd ps []) : FnR P w K mg base CX k f sp := by
  intro A outer s H us vs Q E hr e0 rv hsp
  have inS : K.In s.heap := e0.mod.kin.keeps fun b o e => (e0.bs b o e).1
  have hl : us.length = ps.length := rv.length.symm.trans (F.len _ _ _ _ hsp)
  have b := hb s us inS (by rw [List.append_nil]; exact hl)
  rw [List.append_nil] at b
  exact F.run A outer s H ⟨us, []⟩ us vs Q E hr e0 b rv hsp
/-- how long the parts are -/
def Sz (n : Nat) (q : Rat) : Prop := q.num.natAbs < 2 ^ n ∧ q.den < 2 ^ n
theorem Sz.mono {n m : Nat} {q : Rat} (h : Sz n q) (k : n ≤ m) : Sz m q := ⟨Nat.lt_of_lt_of_le h.1 (Nat.pow_le_pow_right (by decide) k), Nat.lt_of_lt_of_le h.2 (Nat.pow_le_pow_right (by decide) k)⟩
theorem Sz.den {n : Nat} {q : Rat} (h : Sz n q) : (q.den : Int).natAbs < 2 ^ n := by rw [Int.natAbs_natCast]; exact h.2
def rBelow (q r : Rat) : Bool := decide (q.num * (r.den : Int) < r.num * (q.den : Int))
def rOver (q r : Rat) : Rat := Rat.divInt (q.num * (r.den : Int)) ((q.den : Int) * r.num)
def rAdd (q r : Rat) : Rat := Rat.divInt (q.num * (r.den : Int) + r.num * (q.den : Int)) ((q.den : Int) * (r.den : Int))
def rSub (q r : Rat) : Rat := Rat.divInt (q.num * (r.den : Int) - r.num * (q.den : Int)) ((q.den : Int) * (r.den : Int))
def rMul (q r : Rat) : Rat := Rat.divInt (q.num * r.num) ((q.den : Int) * (r.den : Int))
def rNeg (q : Rat) : Rat := Rat.divInt (-q.num) (q.den : Int)
theorem mul_lt {i j : Int} {n m : Nat} (h : i.natAbs < 2 ^ n) (k : j.natAbs < 2 ^ m) : (i * j).natAbs < 2 ^ (n + m) := by
  rw [Int.natAbs_mul, Nat.pow_add]
  exact Nat.mul_lt_mul'' h k
structure RH (P : Program) (w : World) (K : PySem.W.Frag) (mg : Str → Option Value) (base : Heap) : Prop where
  G : RG P w K mg base
  of : ∃ mc p f, ClX.CRead K (aR K) mc ∧ ClX.CMet K (aR K) mc "of" p f ∧ FnR P w K mg base CX0 4 f (spOf K)
section
variable {P : Program} {w : World} {K : PySem.W.Frag} {mg : Str → Option Value} {base : Heap}
/-! ### is_below -/
def spBelow (K : PySem.W.Frag) : Sp := fun vs H Q _ => ∃ (a : Addr) (y : V) (q r : Rat), vs = [.ref a, y] ∧ RatAt K H a q ∧ NumAt K H y r ∧ Sz 100000 q ∧ Sz 100000 r ∧ ∀ H', Same H H' → Q (.bl (rBelow q r)) H'
theorem scBelow : FnScope ["self", "other", "right"] ["self", "other"] (defScope (sRatio 7)) := ⟨rfl, rfl, rfl, by decide +kernel, rfl, by decide +kernel, by decide +kernel⟩
theorem ok_below {f : Addr} {fd : FuncData} (F : FunD K "is_below" "Ratio.is_below" (defArgs (sRatio 7)) (defBody (sRatio 7)) (defScope (sRatio 7)) [] [] f fd) (R : RH P w K mg base) : FnOk P w K mg base CX0 5 f fd ["self", "other"] (spBelow K) := by
  obtain ⟨mc, pp, fo, cr, cm, GO⟩ := R.of
  have T := R.G.T
  refine F.ok scBelow (fun vs H Q E h => ?_) (fun cdv A outer s H vs Q E hr h => ?_)
  · obtain ⟨a, y, q, r, rfl, _⟩ := h
    rfl
  · obtain ⟨a, y, q, r, rfl, ha, hy, sq, sr, k⟩ := h
    refine ⟨_, pss_cons (ps_set (i := 2) scBelow.nd rfl (Or.inl rfl) (ClX.pe_cmeth (pe_glob (v := .ref (aR K)) rfl T.gR rfl) cr cm GO hr pass0 (pa_cons (pv 1) pa_nil)))
      (pss_one (ps_ret (pe_cmpR op_lt (pe_op op_mulW (pe_fld (pv 0) rfl) (pe_fld (pv 2) rfl)) (pe_op op_mulW (pe_fld (pv 2) rfl) (pe_fld (pv 0) rfl)) (nomark _)))), ?_⟩
    refine ⟨rfl, _, rfl, y, r, rfl, hy, fun p H' kp hp => ?_⟩
    obtain ⟨dx, ea⟩ := ha.same kp
    obtain ⟨dy, ep⟩ := hp
    refine ⟨_, rfl, a, _, dx, _, _, rfl, ea, T.cl, T.nT, rfl, _, rfl, p, _, dy, _, _, rfl, ep, T.cl, T.nB, rfl, _, _, rfl, rfl, wide_mul sq.1 sr.den (by decide) (by decide) (by decide), ?_⟩
    refine ⟨_, rfl, p, _, dy, _, _, rfl, ep, T.cl, T.nT, rfl, _, rfl, a, _, dx, _, _, rfl, ea, T.cl, T.nB, rfl, _, _, rfl, rfl, wide_mul sr.1 sq.den (by decide) (by decide) (by decide), ?_⟩
    exact ⟨_, _, rfl, rfl, k H' kp⟩
end
end K18
set_option maxHeartbeats 4000000
namespace K18
open PySem PySem.Spec PyProof.Rows L2 GL
theorem divInt_sz {t b : Int} {n : Nat} (hb : b ≠ 0) (ht : t.natAbs < 2 ^ n) (hz : b.natAbs < 2 ^ n) : Sz n (Rat.divInt t b) := by
  constructor
  · rw [Rat.num_divInt]
    refine Nat.lt_of_le_of_lt ?_ ht
    rw [Int.natAbs_ediv_of_dvd]
    · refine Nat.le_trans (Nat.div_le_self _ _) ?_
      rw [Int.natAbs_mul, Int.natAbs_sign_of_ne_zero hb, Nat.one_mul]
      exact Nat.le_refl _
    · exact Int.dvd_mul_of_dvd_right (Int.gcd_dvd_right _ _)
  · rw [Rat.den_divInt, if_neg hb]
    exact Nat.lt_of_le_of_lt (Nat.div_le_self _ _) hz
theorem den_ne (q : Rat) : (q.den : Int) ≠ 0 := by
  have := q.den_nz
  omega
section
variable {P : Program} {w : World} {K : PySem.W.Frag} {mg : Str → Option Value} {base : Heap}
/-! ### over -/
def spBin (K : PySem.W.Frag) (g : Rat → Rat → Rat) (C : Rat → Rat → Prop) : Sp := fun vs H Q _ => ∃ (a : Addr) (y : V) (q r : Rat), vs = [.ref a, y] ∧ RatAt K H a q ∧ NumAt K H y r ∧ Sz 4000 q ∧ Sz 4000 r ∧ C q r ∧ ∀ p H', Same H H' → RatAt K H' p (g q r) → Q (.ref p) H'
theorem scOver : FnScope ["self", "other", "right"] ["self", "other"] (defScope (sRatio 8)) := ⟨rfl, rfl, rfl, by decide +kernel, rfl, by decide +kernel, by decide +kernel⟩
theorem ok_over {f : Addr} {fd : FuncData} (F : FunD K "over" "Ratio.over" (defArgs (sRatio 8)) (defBody (sRatio 8)) (defScope (sRatio 8)) [] [] f fd) (R : RH P w K mg base) : FnOk P w K mg base CX0 5 f fd ["self", "other"] (spBin K rOver fun _ r => r.num ≠ 0) := by
  obtain ⟨mc, pp, fo, cr, cm, GO⟩ := R.of
  obtain ⟨fR, fdR, d, MR, GR, vd, _, bR⟩ := R.G.mR
  have T := R.G.T
  refine F.ok scOver (fun vs H Q E h => ?_) (fun cdv A outer s H vs Q E hr h => ?_)
  · obtain ⟨a, y, q, r, rfl, _⟩ := h
    rfl
  · obtain ⟨a, y, q, r, rfl, ha, hy, sq, sr, r0, k⟩ := h
    refine ⟨_, pss_cons (ps_set (i := 2) scOver.nd rfl (Or.inl rfl) (ClX.pe_cmeth (pe_glob (v := .ref (aR K)) rfl T.gR rfl) cr cm GO hr pass0 (pa_cons (pv 1) pa_nil)))
      (pss_cons (ps_if (pt_cmpR op_eq (pe_fld (pv 2) rfl) pe_int (nomark _)) (pss_one ps_never) pss_nil)
      (pss_one (ps_ret (pe_make MR GR (hr.mono (by decide)) rfl T.gR bR .nil pass0 (pa_cons (pe_op op_mulW (pe_fld (pv 0) rfl) (pe_fld (pv 2) rfl)) (pa_cons (pe_op op_mulW (pe_fld (pv 0) rfl) (pe_fld (pv 2) rfl)) pa_nil)))))), ?_⟩
    refine ⟨rfl, _, rfl, y, r, rfl, hy, fun p H' kp hp => ?_⟩
    obtain ⟨dx, ea⟩ := ha.same kp
    obtain ⟨dy, ep⟩ := hp
    refine ⟨_, rfl, p, _, dy, _, _, rfl, ep, T.cl, T.nT, rfl, rfl, _, rfl, ?_⟩
    have e0 : decide (V.int r.num = V.int 0) = false := decide_eq_false fun z => r0 (by injection z)
    dsimp only
    rw [e0]
    refine iteF ?_
    refine ⟨_, rfl, a, _, dx, _, _, rfl, ea, T.cl, T.nT, rfl, _, rfl, p, _, dy, _, _, rfl, ep, T.cl, T.nB, rfl, _, _, rfl, rfl, wide_mul sq.1 sr.den (by decide) (by decide) (by decide), ?_⟩
    refine ⟨_, rfl, a, _, dx, _, _, rfl, ea, T.cl, T.nB, rfl, _, rfl, p, _, dy, _, _, rfl, ep, T.cl, T.nT, rfl, _, _, rfl, rfl, wide_mul sq.den sr.1 (by decide) (by decide) (by decide), ?_⟩
    intro x dz hx hd ne
    have b0 : (q.den : Int) * r.num ≠ 0 := Int.mul_ne_zero (den_ne q) r0
    exact made_rat hx hd ne b0 (Nat.lt_of_lt_of_le (mul_lt sq.den sr.1) (Nat.pow_le_pow_right (by decide) (by decide))) fun p2 H2 kp2 _ hr2 => k p2 H2 (kp.trans kp2) hr2
/-! ### __add__ -/
theorem scAdd : FnScope ["self", "other", "right"] ["self", "other"] (defScope (sRatio 9)) := ⟨rfl, rfl, rfl, by decide +kernel, rfl, by decide +kernel, by decide +kernel⟩
theorem ok_rAdd {f : Addr} {fd : FuncData} (F : FunD K "__add__" "Ratio.__add__" (defArgs (sRatio 9)) (defBody (sRatio 9)) (defScope (sRatio 9)) [] [] f fd) (R : RH P w K mg base) : FnOk P w K mg base CX0 5 f fd ["self", "other"] (spBin K rAdd fun _ _ => True) := by
  obtain ⟨mc, pp, fo, cr, cm, GO⟩ := R.of
  obtain ⟨fR, fdR, d, MR, GR, vd, _, bR⟩ := R.G.mR
  have T := R.G.T
  refine F.ok scAdd (fun vs H Q E h => ?_) (fun cdv A outer s H vs Q E hr h => ?_)
  · obtain ⟨a, y, q, r, rfl, _⟩ := h
    rfl
  · obtain ⟨a, y, q, r, rfl, ha, hy, sq, sr, _, k⟩ := h
    refine ⟨_, pss_cons (ps_set (i := 2) scAdd.nd rfl (Or.inl rfl) (ClX.pe_cmeth (pe_glob (v := .ref (aR K)) rfl T.gR rfl) cr cm GO hr pass0 (pa_cons (pv 1) pa_nil)))
      (pss_one (ps_ret (pe_make MR GR (hr.mono (by decide)) rfl T.gR bR .nil pass0 (pa_cons (pe_op op_add (pe_op op_mulW (pe_fld (pv 0) rfl) (pe_fld (pv 2) rfl)) (pe_op op_mulW (pe_fld (pv 2) rfl) (pe_fld (pv 0) rfl))) (pa_cons (pe_op op_mulW (pe_fld (pv 0) rfl) (pe_fld (pv 2) rfl)) pa_nil))))), ?_⟩
    refine ⟨rfl, _, rfl, y, r, rfl, hy, fun p H' kp hp => ?_⟩
    obtain ⟨dx, ea⟩ := ha.same kp
    obtain ⟨dy, ep⟩ := hp
    refine ⟨_, rfl, a, _, dx, _, _, rfl, ea, T.cl, T.nT, rfl, _, rfl, p, _, dy, _, _, rfl, ep, T.cl, T.nB, rfl, _, _, rfl, rfl, wide_mul sq.1 sr.den (by decide) (by decide) (by decide), ?_⟩
    refine ⟨_, rfl, p, _, dy, _, _, rfl, ep, T.cl, T.nT, rfl, _, rfl, a, _, dx, _, _, rfl, ea, T.cl, T.nB, rfl, _, _, rfl, rfl, wide_mul sr.1 sq.den (by decide) (by decide) (by decide), ?_⟩
    refine ⟨_, _, rfl, rfl, ?_⟩
    refine ⟨_, rfl, a, _, dx, _, _, rfl, ea, T.cl, T.nB, rfl, _, rfl, p, _, dy, _, _, rfl, ep, T.cl, T.nB, rfl, _, _, rfl, rfl, wide_mul sq.den sr.den (by decide) (by decide) (by decide), ?_⟩
    intro x dz hx hd ne
    have b0 : (q.den : Int) * (r.den : Int) ≠ 0 := Int.mul_ne_zero (den_ne q) (den_ne r)
    exact made_rat hx hd ne b0 (Nat.lt_of_lt_of_le (mul_lt sq.den sr.den) (Nat.pow_le_pow_right (by decide) (by decide))) fun p2 H2 kp2 _ hr2 => k p2 H2 (kp.trans kp2) hr2
/-! ### __sub__ -/
theorem scSub : FnScope ["self", "other", "right"] ["self", "other"] (defScope (sRatio 10)) := ⟨rfl, rfl, rfl, by decide +kernel, rfl, by decide +kernel, by decide +kernel⟩
theorem ok_rSub {f : Addr} {fd : FuncData} (F : FunD K "__sub__" "Ratio.__sub__" (defArgs (sRatio 10)) (defBody (sRatio 10)) (defScope (sRatio 10)) [] [] f fd) (R : RH P w K mg base) : FnOk P w K mg base CX0 5 f fd ["self", "other"] (spBin K rSub fun _ _ => True) := by
  obtain ⟨mc, pp, fo, cr, cm, GO⟩ := R.of
  obtain ⟨fR, fdR, d, MR, GR, vd, _, bR⟩ := R.G.mR
  have T := R.G.T
  refine F.ok scSub (fun vs H Q E h => ?_) (fun cdv A outer s H vs Q E hr h => ?_)
  · obtain ⟨a, y, q, r, rfl, _⟩ := h
    rfl
  · obtain ⟨a, y, q, r, rfl, ha, hy, sq, sr, _, k⟩ := h
    refine ⟨_, pss_cons (ps_set (i := 2) scSub.nd rfl (Or.inl rfl) (ClX.pe_cmeth (pe_glob (v := .ref (aR K)) rfl T.gR rfl) cr cm GO hr pass0 (pa_cons (pv 1) pa_nil)))
      (pss_one (ps_ret (pe_make MR GR (hr.mono (by decide)) rfl T.gR bR .nil pass0 (pa_cons (pe_op op_sub (pe_op op_mulW (pe_fld (pv 0) rfl) (pe_fld (pv 2) rfl)) (pe_op op_mulW (pe_fld (pv 2) rfl) (pe_fld (pv 0) rfl))) (pa_cons (pe_op op_mulW (pe_fld (pv 0) rfl) (pe_fld (pv 2) rfl)) pa_nil))))), ?_⟩
    refine ⟨rfl, _, rfl, y, r, rfl, hy, fun p H' kp hp => ?_⟩
    obtain ⟨dx, ea⟩ := ha.same kp
    obtain ⟨dy, ep⟩ := hp
    refine ⟨_, rfl, a, _, dx, _, _, rfl, ea, T.cl, T.nT, rfl, _, rfl, p, _, dy, _, _, rfl, ep, T.cl, T.nB, rfl, _, _, rfl, rfl, wide_mul sq.1 sr.den (by decide) (by decide) (by decide), ?_⟩
    refine ⟨_, rfl, p, _, dy, _, _, rfl, ep, T.cl, T.nT, rfl, _, rfl, a, _, dx, _, _, rfl, ea, T.cl, T.nB, rfl, _, _, rfl, rfl, wide_mul sr.1 sq.den (by decide) (by decide) (by decide), ?_⟩
    refine ⟨_, _, rfl, rfl, ?_⟩
    refine ⟨_, rfl, a, _, dx, _, _, rfl, ea, T.cl, T.nB, rfl, _, rfl, p, _, dy, _, _, rfl, ep, T.cl, T.nB, rfl, _, _, rfl, rfl, wide_mul sq.den sr.den (by decide) (by decide) (by decide), ?_⟩
    intro x dz hx hd ne
    have b0 : (q.den : Int) * (r.den : Int) ≠ 0 := Int.mul_ne_zero (den_ne q) (den_ne r)
    exact made_rat hx hd ne b0 (Nat.lt_of_lt_of_le (mul_lt sq.den sr.den) (Nat.pow_le_pow_right (by decide) (by decide))) fun p2 H2 kp2 _ hr2 => k p2 H2 (kp.trans kp2) hr2
/-! ### __mul__ -/
theorem scMul : FnScope ["self", "other", "right"] ["self", "other"] (defScope (sRatio 11)) := ⟨rfl, rfl, rfl, by decide +kernel, rfl, by decide +kernel, by decide +kernel⟩
theorem ok_rMul {f : Addr} {fd : FuncData} (F : FunD K "__mul__" "Ratio.__mul__" (defArgs (sRatio 11)) (defBody (sRatio 11)) (defScope (sRatio 11)) [] [] f fd) (R : RH P w K mg base) : FnOk P w K mg base CX0 5 f fd ["self", "other"] (spBin K rMul fun _ _ => True) := by
  obtain ⟨mc, pp, fo, cr, cm, GO⟩ := R.of
  obtain ⟨fR, fdR, d, MR, GR, vd, _, bR⟩ := R.G.mR
  have T := R.G.T
  refine F.ok scMul (fun vs H Q E h => ?_) (fun cdv A outer s H vs Q E hr h => ?_)
  · obtain ⟨a, y, q, r, rfl, _⟩ := h
    rfl
  · obtain ⟨a, y, q, r, rfl, ha, hy, sq, sr, _, k⟩ := h
    refine ⟨_, pss_cons (ps_set (i := 2) scMul.nd rfl (Or.inl rfl) (ClX.pe_cmeth (pe_glob (v := .ref (aR K)) rfl T.gR rfl) cr cm GO hr pass0 (pa_cons (pv 1) pa_nil)))
      (pss_one (ps_ret (pe_make MR GR (hr.mono (by decide)) rfl T.gR bR .nil pass0 (pa_cons (pe_op op_mulW (pe_fld (pv 0) rfl) (pe_fld (pv 2) rfl)) (pa_cons (pe_op op_mulW (pe_fld (pv 0) rfl) (pe_fld (pv 2) rfl)) pa_nil))))), ?_⟩
    refine ⟨rfl, _, rfl, y, r, rfl, hy, fun p H' kp hp => ?_⟩
    obtain ⟨dx, ea⟩ := ha.same kp
    obtain ⟨dy, ep⟩ := hp
    refine ⟨_, rfl, a, _, dx, _, _, rfl, ea, T.cl, T.nT, rfl, _, rfl, p, _, dy, _, _, rfl, ep, T.cl, T.nT, rfl, _, _, rfl, rfl, wide_mul sq.1 sr.1 (by decide) (by decide) (by decide), ?_⟩
    refine ⟨_, rfl, a, _, dx, _, _, rfl, ea, T.cl, T.nB, rfl, _, rfl, p, _, dy, _, _, rfl, ep, T.cl, T.nB, rfl, _, _, rfl, rfl, wide_mul sq.den sr.den (by decide) (by decide) (by decide), ?_⟩
    intro x dz hx hd ne
    have b0 : (q.den : Int) * (r.den : Int) ≠ 0 := Int.mul_ne_zero (den_ne q) (den_ne r)
    exact made_rat hx hd ne b0 (Nat.lt_of_lt_of_le (mul_lt sq.den sr.den) (Nat.pow_le_pow_right (by decide) (by decide))) fun p2 H2 kp2 _ hr2 => k p2 H2 (kp.trans kp2) hr2
end
end K18
set_option maxHeartbeats 4000000
namespace K18
open PySem PySem.Spec PyProof.Rows L2 GL
section
variable {P : Program} {w : World} {K : PySem.W.Frag} {mg : Str → Option Value} {base : Heap}
/-! ### __neg__ -/
def spNeg (K : PySem.W.Frag) : Sp := fun vs H Q _ => ∃ (a : Addr) (q : Rat), vs = [.ref a] ∧ RatAt K H a q ∧ Sz 4000 q ∧ ∀ p H', Same H H' → RatAt K H' p (rNeg q) → Q (.ref p) H'
theorem scNeg : FnScope ["self"] ["self"] (defScope (sRatio 12)) := ⟨rfl, rfl, rfl, by decide +kernel, rfl, by decide +kernel, by decide +kernel⟩
theorem ok_rNeg {f : Addr} {fd : FuncData} (F : FunD K "__neg__" "Ratio.__neg__" (defArgs (sRatio 12)) (defBody (sRatio 12)) (defScope (sRatio 12)) [] [] f fd) (G : RG P w K mg base) : FnOk P w K mg base CX0 4 f fd ["self"] (spNeg K) := by
  obtain ⟨fR, fdR, d, MR, GR, vd, _, bR⟩ := G.mR
  have T := G.T
  refine F.ok scNeg (fun vs H Q E h => ?_) (fun cdv A outer s H vs Q E hr h => ?_)
  · obtain ⟨a, q, rfl, _⟩ := h
    rfl
  · obtain ⟨a, q, rfl, ⟨dx, ea⟩, sq, k⟩ := h
    refine ⟨_, pss_one (ps_ret (pe_make MR GR hr rfl T.gR bR .nil pass0 (pa_cons (pe_un un_neg (pe_fld (pv 0) rfl)) (pa_cons (pe_fld (pv 0) rfl) pa_nil)))), ?_⟩
    refine ⟨_, rfl, a, _, dx, _, _, rfl, ea, T.cl, T.nT, rfl, _, rfl, _, rfl, a, _, dx, _, _, rfl, ea, T.cl, T.nB, rfl, ?_⟩
    intro x dz hx hd ne
    exact made_rat hx hd ne (den_ne q) (Nat.lt_of_lt_of_le sq.den (Nat.pow_le_pow_right (by decide) (by decide))) fun p2 H2 kp2 _ hr2 => k p2 H2 kp2 hr2
/-! ### __eq__ -/
def spREq (K : PySem.W.Frag) : Sp := fun vs H Q _ => ∃ (a : Addr) (y : V) (q : Rat), vs = [.ref a, y] ∧ RatAt K H a q ∧
  ((∃ b r, y = .ref b ∧ RatAt K H b r ∧ Q (.bl (decide (q = r))) H) ∨ ∃ t, TyX K H y t ∧ PySem.W.kitOne K t (.ref (aR K)) = some false ∧ Q (.bl false) H)
theorem scREq : FnScope ["self", "other"] ["self", "other"] (defScope (sRatio 13)) := ⟨rfl, rfl, rfl, by decide +kernel, rfl, by decide +kernel, by decide +kernel⟩
theorem ok_rEq {f : Addr} {fd : FuncData} (F : FunD K "__eq__" "Ratio.__eq__" (defArgs (sRatio 13)) (defBody (sRatio 13)) (defScope (sRatio 13)) [] [] f fd) (T : RF K mg) : FnOk P w K mg base CX0 1 f fd ["self", "other"] (spREq K) := by
  refine F.ok scREq (fun vs H Q E h => ?_) (fun cdv A outer s H vs Q E hr h => ?_)
  · obtain ⟨a, y, q, rfl, _⟩ := h
    rfl
  · obtain ⟨a, y, q, rfl, ha, h⟩ := h
    refine ⟨_, pss_one (ps_ret (pe_and (pe_callB call_isi (by rfl) T.isi (by decide +kernel) (pa_cons (pv 1) (pa_cons (pe_glob (v := .ref (aR K)) rfl T.gR rfl) pa_nil)))
      (pe_and (pe_cmpR op_eq (pe_fld (pv 0) rfl) (pe_fld (pv 1) rfl) (nomark _)) (pe_one (pe_cmpR op_eq (pe_fld (pv 0) rfl) (pe_fld (pv 1) rfl) (nomark _)))))), ?_⟩
    rcases h with ⟨b, r, rfl, hb, k⟩ | ⟨t, ty, kt, k⟩
    · refine ⟨_, rfl, .ref b, .ref (aR K), .ref (aR K), _, true, rfl, .own _, hb.ty T, (by unfold PySem.W.kitOne; rw [if_pos (beq_self_eq_true _)]), true, rfl, iteT ?_⟩
      obtain ⟨dx, ea⟩ := ha
      obtain ⟨dy, eb⟩ := hb
      refine ⟨_, rfl, a, _, dx, _, _, rfl, ea, T.cl, T.nT, rfl, _, rfl, b, _, dy, _, _, rfl, eb, T.cl, T.nT, rfl, rfl, _, rfl, ?_⟩
      refine ite2 (fun c => ?_) (fun c => ?_)
      · have c1 : q.num = r.num := by
          have := of_decide_eq_true c
          injection this
        refine ⟨_, rfl, a, _, dx, _, _, rfl, ea, T.cl, T.nB, rfl, _, rfl, b, _, dy, _, _, rfl, eb, T.cl, T.nB, rfl, rfl, ?_⟩
        have e : decide (V.int (q.den : Int) = V.int (r.den : Int)) = decide (q = r) := by
          rw [decide_eq_decide]
          constructor
          · intro z
            injection z with z
            exact Rat.ext c1 (by omega)
          · rintro rfl
            rfl
        rw [e]
        exact k
      · have e : decide (q = r) = false := by
          refine decide_eq_false ?_
          rintro rfl
          exact c (decide_eq_true rfl)
        rw [e] at k
        exact k
    · exact ⟨_, rfl, y, .ref (aR K), t, _, false, rfl, .own _, ty, kt, false, rfl, iteF k⟩
/-! ### sign -/
def spSign (K : PySem.W.Frag) : Sp := fun vs H Q _ => ∃ (a : Addr) (q : Rat), vs = [.ref a] ∧ RatAt K H a q ∧ Q (.int q.num.sign) H
theorem scSign : FnScope ["self"] ["self"] (defScope (sRatio 6)) := ⟨rfl, rfl, rfl, by decide +kernel, rfl, by decide +kernel, by decide +kernel⟩
theorem ok_sign {f : Addr} {fd : FuncData} (F : FunD K "sign" "Ratio.sign" (defArgs (sRatio 6)) (defBody (sRatio 6)) (defScope (sRatio 6)) [] [] f fd) (T : RF K mg) : FnOk P w K mg base CX0 1 f fd ["self"] (spSign K) := by
  refine F.ok scSign (fun vs H Q E h => ?_) (fun cdv A outer s H vs Q E hr h => ?_)
  · obtain ⟨a, q, rfl, _⟩ := h
    rfl
  · obtain ⟨a, q, rfl, ⟨dx, ea⟩, k⟩ := h
    refine ⟨_, pss_cons (ps_if (pt_cmpR op_eq (pe_fld (pv 0) rfl) pe_int (nomark _)) (pss_one (ps_ret pe_int)) pss_nil)
      (pss_one (ps_ret (pe_ifExp (pt_cmpR op_gt (pe_fld (pv 0) rfl) pe_int (nomark _)) pe_int (pe_un un_neg pe_int)))), ?_⟩
    refine ⟨_, rfl, a, _, dx, _, _, rfl, ea, T.cl, T.nT, rfl, rfl, _, rfl, ?_⟩
    refine ite2 (fun c => ?_) (fun c => ?_)
    · have c1 : q.num = 0 := by
        have := of_decide_eq_true c
        injection this
      rw [c1] at k
      exact k
    · have c1 : q.num ≠ 0 := fun z => c (decide_eq_true (by rw [z]))
      refine ⟨_, rfl, a, _, dx, _, _, rfl, ea, T.cl, T.nT, rfl, _, _, rfl, rfl, _, rfl, ?_⟩
      refine ite2 (fun c2 => ?_) (fun c2 => ?_)
      · have c3 : 0 < q.num := of_decide_eq_true c2
        rw [Int.sign_eq_one_of_pos c3] at k
        exact k
      · have c3 : q.num < 0 := by
          have : ¬ 0 < q.num := fun z => c2 (decide_eq_true z)
          omega
        rw [Int.sign_eq_neg_one_of_neg c3] at k
        exact ⟨_, rfl, k⟩
end
end K18
set_option maxHeartbeats 4000000
namespace K18
open PySem PySem.Spec PyProof.Rows L2 GL
theorem ins_fs {C D d e : Addr} {fs gs : List (Str × V)} (h : some (HO.ins C d fs) = some (HO.ins D e gs)) : fs = gs := by
  injection h with h
  injection h
section
variable {P : Program} {w : World} {K : PySem.W.Frag} {mg : Str → Option Value} {base : Heap}
/-! ### Range.__init__ -/
end
end K18
set_option maxHeartbeats 4000000
namespace K18
open PySem PySem.Spec PyProof.Rows L2 GL
/-- more parts of Ratio -/
structure RI (P : Program) (w : World) (K : PySem.W.Frag) (mg : Str → Option Value) (base : Heap) : Prop where
  R : RH P w K mg base
  isNum : ∃ f fd, FnOk P w K mg base CX0 2 f fd ["value"] (spIsNum K) ∧ mg "is_number" = some (.ref f) ∧ Binds K fd ["value"] [] ∧ PySem.W.keepIn K (.ref f) = true
  below : ∃ f fd, Meth K (aR K) "is_below" f ∧ FnOk P w K mg base CX0 5 f fd ["self", "other"] (spBelow K) ∧ Binds K fd ["self", "other"] []
  eq : ∃ f, OwnEq K (aR K) f ∧ FnR P w K mg base CX0 1 f (spREq K)
  len : mg "len" = none
  tuple : mg "tuple" = none
section
variable {P : Program} {w : World} {K : PySem.W.Frag} {mg : Str → Option Value} {base : Heap}
/-! ### is_cut -/
/-! ### ratio_cut -/
end
end K18
set_option maxHeartbeats 4000000
namespace K18
open PySem PySem.Spec PyProof.Rows L2 GL
/-- all but one thing stand -/
def Kp (s : Addr) (H H' : Hp) : Prop := ∀ c o, c ≠ s → H c = some o → H' c = some o
theorem Kp.put {s : Addr} {H H' : Hp} {o : HO} (k : Kp s H H') : Kp s H (upd H' s o) := fun c o' hc e => by rw [upd_ne hc]; exact k c o' hc e
theorem Kp.same {s : Addr} {H H' H'' : Hp} (k : Kp s H H') (j : Same H' H'') : Kp s H H'' := fun c o' hc e => j _ _ (k c o' hc e)
theorem notRat {K : PySem.W.Frag} {H : Hp} {s C dx a : Addr} {fs : List (Str × V)} {q : Rat} (e : H s = some (.ins C dx fs)) (hf : fs.lookup ("_top" : Str) = none) (h : RatAt K H a q) : a ≠ s := by
  obtain ⟨da, ea⟩ := h
  rintro rfl
  rw [e] at ea
  have z := ins_fs ea
  rw [z] at hf
  cases hf
section
variable {P : Program} {w : World} {K : PySem.W.Frag} {mg : Str → Option Value} {base : Heap}
/-! ### the checks -/
end
end K18
set_option maxHeartbeats 1000000
namespace K18
open PySem PySem.Spec PyProof.Rows L2 GL
/-! ### what the program's arithmetic is -/
theorem rBelow_iff {q r : Rat} : rBelow q r = true ↔ q < r := by
  unfold rBelow
  rw [decide_eq_true_iff, Rat.lt_iff]
theorem rBelow_not {q r : Rat} : rBelow q r = false ↔ r ≤ q := by
  rw [← Rat.not_lt, ← rBelow_iff, Bool.not_eq_true]
theorem rAdd_eq (q r : Rat) : rAdd q r = q + r := by
  have h := Rat.divInt_add_divInt q.num r.num (den_ne q) (den_ne r)
  rw [Rat.num_divInt_den, Rat.num_divInt_den] at h
  exact h.symm
theorem rMul_eq (q r : Rat) : rMul q r = q * r := by
  have h := Rat.divInt_mul_divInt q.num r.num (d₁ := (q.den : Int)) (d₂ := (r.den : Int))
  rw [Rat.num_divInt_den, Rat.num_divInt_den] at h
  exact h.symm
theorem rNeg_eq (q : Rat) : rNeg q = -q := by
  have h := Rat.neg_divInt q.num (q.den : Int)
  rw [Rat.num_divInt_den] at h
  exact h.symm
theorem rSub_eq (q r : Rat) : rSub q r = q - r := by
  have h := rAdd_eq q (-r)
  rw [← Rat.sub_eq_add_neg] at h
  rw [← h]
  unfold rSub rAdd
  rw [Rat.neg_num, Rat.neg_den, Int.neg_mul, ← Int.sub_eq_add_neg]
theorem rOver_eq (q r : Rat) : rOver q r = q / r := by
  have h := Rat.divInt_mul_divInt q.num (r.den : Int) (d₁ := (q.den : Int)) (d₂ := r.num)
  have e := Rat.inv_divInt r.num (r.den : Int)
  rw [Rat.num_divInt_den] at h e
  rw [Rat.div_def, e]
  exact h.symm
end K18
set_option maxHeartbeats 4000000
namespace K18
open PySem PySem.Spec PyProof.Rows L2 GL
theorem rAdd_sz2 {q r : Rat} {n m : Nat} (h : Sz n q) (k : Sz m r) : Sz (n + m + 1) (rAdd q r) := by
  refine divInt_sz (Int.mul_ne_zero (den_ne q) (den_ne r)) ?_ (Nat.lt_of_lt_of_le (mul_lt h.den k.den) (Nat.pow_le_pow_right (by decide) (by omega)))
  have a := mul_lt h.1 k.den
  have b := mul_lt k.1 h.den
  have c := Int.natAbs_add_le (q.num * (r.den : Int)) (r.num * (q.den : Int))
  rw [Nat.pow_succ]
  rw [Nat.add_comm m n] at b
  omega
theorem int_sz {i : Int} {n : Nat} (hn : n ≠ 0) (h : i.natAbs < 2 ^ n) : Sz n (i : Rat) := ⟨h, Nat.one_lt_two_pow hn⟩
section
variable {P : Program} {w : World} {K : PySem.W.Frag} {mg : Str → Option Value} {base : Heap}
theorem isi_self {A : Addr} : PySem.W.kitOne K (.ref A) (.ref A) = some true := by unfold PySem.W.kitOne; rw [if_pos (beq_self_eq_true _)]
/-! ### then -/
end
end K18
set_option maxHeartbeats 4000000
namespace K18
open PySem PySem.Spec PyProof.Rows L2 GL
/-- a property of a class: its record, its def's promise -/
def PropX (P : Program) (w : World) (K : PySem.W.Frag) (mg : Str → Option Value) (base : Heap) (C : Addr) (f : Str) (sp : Sp) : Prop := ∃ p g fd, PropOf K C f p g ∧ FnOk P w K mg base CX0 1 g fd ["self"] sp ∧ Binds K fd ["self"] []
/-- a method -/
def MetX (P : Program) (w : World) (K : PySem.W.Frag) (mg : Str → Option Value) (base : Heap) (C : Addr) (m : Str) (k : Nat) (ps : List Str) (sp : Sp) : Prop := ∃ f fd, Meth K C m f ∧ FnOk P w K mg base CX0 k f fd ps sp ∧ Binds K fd ps []
/-- a def of the module -/
def DefF (P : Program) (w : World) (K : PySem.W.Frag) (mg : Str → Option Value) (base : Heap) (x : Str) (k : Nat) (ps : List Str) (sp : Sp) : Prop := ∃ f fd, FnOk P w K mg base CX0 k f fd ps sp ∧ mg x = some (.ref f) ∧ Binds K fd ps [] ∧ PySem.W.keepIn K (.ref f) = true
/-- two Ratios by Ratio.__eq__ -/
def RatB (K : PySem.W.Frag) : DB := fun x y b H => ∃ a c q r, x = .ref a ∧ y = .ref c ∧ RatAt K H a q ∧ RatAt K H c r ∧ b = decide (q = r)
theorem ratAt_inj {K : PySem.W.Frag} {H : Hp} {a : Addr} {q r : Rat} (h : RatAt K H a q) (k : RatAt K H a r) : q = r := by
  obtain ⟨d, e⟩ := h
  obtain ⟨d2, e2⟩ := k
  rw [e] at e2
  have z := ins_fs e2
  injection z with z1 z2
  injection z1 with _ z1
  injection z1 with z1
  injection z2 with z2 _
  injection z2 with _ z2
  injection z2 with z2
  exact Rat.ext z1 (by omega)
/-- flat things and Ratios -/
def ThB (K : PySem.W.Frag) : DB := fun x y b H => FlatB x y b H ∨ RatB K x y b H
theorem monB_rat {K : PySem.W.Frag} : MonB (RatB K) := by
  intro x y b H H' k d
  obtain ⟨a, c, q, r, e1, e2, ha, hc, e⟩ := d
  exact ⟨a, c, q, r, e1, e2, ha.same k, hc.same k, e⟩
theorem monB_th {K : PySem.W.Frag} : MonB (ThB K) := monB_flat.or monB_rat
theorem eqB_rat {X : Cx} {f : Addr} (B : GL.OwnEq X.K (aR X.K) f) (F : FnR X.prog X.w X.K X.mg X.base CX0 1 f (spREq X.K)) : EqB X 1 (RatB X.K) := by
  have z := eqB_ins (E := fun _ _ _ => False) B F (X := X) (pass0 (X := X))
  intro A pins s σ H x y u v b sb I rx ry d
  refine z A pins s σ H x y u v b sb I rx ry ?_
  obtain ⟨a, c, q, r, rfl, rfl, ha, hc, rfl⟩ := d
  obtain ⟨da, ea⟩ := id ha
  obtain ⟨dc, ec⟩ := id hc
  refine ⟨a, c, da, dc, _, _, rfl, rfl, ea, ec, ?_, a, .ref c, q, rfl, ha, .inl ⟨c, r, rfl, hc, rfl, fun _ _ e => e⟩⟩
  rintro rfl
  exact decide_eq_true (ratAt_inj ha hc)
theorem eqB_th {X : Cx} {f : Addr} (B : GL.OwnEq X.K (aR X.K) f) (F : FnR X.prog X.w X.K X.mg X.base CX0 1 f (spREq X.K)) : EqB X 1 (ThB X.K) := (eqB_flat.mono (by decide)).or (eqB_rat B F)
section
variable {P : Program} {w : World} {K : PySem.W.Frag} {mg : Str → Option Value} {base : Heap}
/-! ### form -/
end
end K18
set_option maxHeartbeats 4000000
namespace K18
open PySem PySem.Spec PyProof.Rows L2 GL
theorem rAdd_sz {q r : Rat} {n : Nat} (h : Sz n q) (k : Sz n r) : Sz (n + n + 1) (rAdd q r) := by
  refine divInt_sz (Int.mul_ne_zero (den_ne q) (den_ne r)) ?_ (Nat.lt_of_lt_of_le (mul_lt h.den k.den) (Nat.pow_le_pow_right (by decide) (by omega)))
  have a := mul_lt h.1 k.den
  have b := mul_lt k.1 h.den
  have c := Int.natAbs_add_le (q.num * (r.den : Int)) (r.num * (q.den : Int))
  rw [Nat.pow_succ]
  omega
section
variable {P : Program} {w : World} {K : PySem.W.Frag} {mg : Str → Option Value} {base : Heap}
/-! ### is_stretch -/
/-! ### is_within -/
end
end K18
set_option maxHeartbeats 4000000
namespace K18
open PySem PySem.Spec PyProof.Rows L2 GL
section
variable {P : Program} {w : World} {K : PySem.W.Frag} {mg : Str → Option Value} {base : Heap}
/-! ### Move.__eq__ -/
/-! ### the parts told -/
theorem scR4 : FnScope ["self"] ["self"] (defScope (sRatio 4)) := ⟨rfl, rfl, rfl, by decide +kernel, rfl, by decide +kernel, by decide +kernel⟩
theorem ok_top {f : Addr} {fd : FuncData} (F : FunD K "top" "Ratio.top" (defArgs (sRatio 4)) (defBody (sRatio 4)) (defScope (sRatio 4)) [] [] f fd) (T : RF K mg) : FnOk P w K mg base CX0 1 f fd ["self"] (fun vs H Q _ => ∃ (a : Addr) (q : Rat), vs = [.ref a] ∧ RatAt K H a q ∧ Q (.int q.num) H) := by
  refine F.ok scR4 (fun vs H Q E h => ?_) (fun cdv A outer s H vs Q E hr h => ?_)
  · obtain ⟨a, q, rfl, _⟩ := h
    rfl
  · obtain ⟨a, q, rfl, ⟨d, e⟩, k⟩ := h
    exact ⟨_, pss_one (ps_ret (pe_fld (pv 0) rfl)), _, rfl, a, _, d, _, _, rfl, e, T.cl, T.nT, rfl, k⟩
theorem scR5 : FnScope ["self"] ["self"] (defScope (sRatio 5)) := ⟨rfl, rfl, rfl, by decide +kernel, rfl, by decide +kernel, by decide +kernel⟩
theorem ok_bottom {f : Addr} {fd : FuncData} (F : FunD K "bottom" "Ratio.bottom" (defArgs (sRatio 5)) (defBody (sRatio 5)) (defScope (sRatio 5)) [] [] f fd) (T : RF K mg) : FnOk P w K mg base CX0 1 f fd ["self"] (fun vs H Q _ => ∃ (a : Addr) (q : Rat), vs = [.ref a] ∧ RatAt K H a q ∧ Q (.int (q.den : Int)) H) := by
  refine F.ok scR5 (fun vs H Q E h => ?_) (fun cdv A outer s H vs Q E hr h => ?_)
  · obtain ⟨a, q, rfl, _⟩ := h
    rfl
  · obtain ⟨a, q, rfl, ⟨d, e⟩, k⟩ := h
    exact ⟨_, pss_one (ps_ret (pe_fld (pv 0) rfl)), _, rfl, a, _, d, _, _, rfl, e, T.cl, T.nB, rfl, k⟩
end
end K18
set_option maxHeartbeats 4000000
/-! xs[::-1] of a list. -/
namespace GL
open PySem PySem.Spec PyProof.Rows L2
/-- a new list, the other way round -/
def tRev (K : PySem.W.Frag) (te : TE) (tk : TO) : TE := fun z H Q => te z H fun x H1 => tk z H1 fun k H2 => k = some (-1) ∧ ∃ a xs, x = .ref a ∧ SqL K H2 a xs ∧ ∀ p, H2 p = none → Q (.ref p) (upd H2 p (.lst xs.reverse))
theorem pe_rev {X : Cx} {e st : Expr} {te : TE} {tk : TO} {pos p2 : Pos} (he : PE X e te) (hk : PO X (some st) tk)
    (hs : ∀ a l : Addr, subscripted (.Slice none none (some st) p2) false (.ref a) (.ref l) = operate [.ref a, .ref l] (getItem (.ref a) (.ref l)) := by intros; with_unfolding_all rfl) : PE X (.Subscript e (.Slice none none (some st) p2) pos) (tRev X.K te tk) := by
  constructor
  intro pins s z H Q I h
  apply Subscript_
  refine thn (he.run pins s z H _ I h) ?_
  rintro v s1 ⟨x, H1, I1, r1, q1⟩
  apply wpAny_Slice
  rw [evalPart_none]
  apply wpAny_pure
  apply wpAny_pure
  refine thn (hk.run pins s1 z H1 _ I1 q1) ?_
  rintro vk s2 ⟨k, H2, I2, pk, rfl, a, xs, rfl, hx, q⟩
  cases (show v = Value.ref a from r1)
  have I3 : Inv X pins z H2 { s2 with heap := s2.heap.push { cls := .type "slice", data := .fields #[.none, .none, vk] } } := I2.kept (t' := s2.toks) fun b o y => Heap.get?_push_of_some _ y
  obtain ⟨its, r, ht, hz⟩ := I3.list hx
  have hlen := r.length
  show wpAny (model X.prog X.w) X.A (subscriptTail e (.Slice none none (some st) p2) (.ref a) (.ref s2.heap.objs.size)) (EP X pins z Q) X.xe { s2 with heap := s2.heap.push { cls := .type "slice", data := .fields #[.none, .none, vk] } }
  refine tail_any (ops := [.ref a, .ref s2.heap.objs.size]) ht.isList.typeIs slot_list_getitem.lookup ?_ (hs _ _)
  refine wpAny_getItem_list_slice ht.isList (Heap.IsSliceOf.new ..) .none .none pk (by decide) ?_ (by rw [List.size_toArray]; omega)
  rw [PySem.W.krv_pick]
  refine ⟨.ref _, _, I3.laid (t' := s2.toks) (o := .lst xs.reverse) (fun b o y => Heap.get?_push_of_some _ y) (Nat.le_refl _) ?_, rfl, q _ (I3.hok.fresh (Nat.le_refl _))⟩
  refine ⟨by rw [List.length_reverse]; omega, its.reverse, 0, paired_rev r, Heap.get?_push_size _ rfl⟩
/-! ### a statement, its end told once for all its ways -/
def tCut (t u : TS) : TS := fun D z H => ∃ Mid : L2.St → Hp → Prop, t { D with nx := Mid } z H ∧ ∀ z' H', Mid z' H' → u D z' H'
theorem pss_cut {X : Cx} {st : Stmt} {rest : List Stmt} {t u : TS} (one : PS X st t) (more : PSs X rest u) : PSs X (st :: rest) (tCut t u) := by
  constructor
  intro pins s z H D I ⟨Mid, first, go⟩
  apply wpAny_execs_cons
  refine thn (one.run pins s z H { D with nx := Mid } I first) ?_
  intro f s1 q
  match f, q with
  | .ret v, q => exact q
  | .brk, q => exact q
  | .cont, q => exact q
  | .next, ⟨z', H', J, m⟩ => exact more.run pins s1 z' H' D J (go z' H' m)
end GL
set_option maxHeartbeats 4000000
namespace K18
open PySem PySem.Spec PyProof.Rows L2 GL
abbrev sRng : Stmt := tp 13
abbrev sDraw : Stmt := tp 14
abbrev sChoice : Stmt := tp 15
/-- names of Python's own that the module leaves alone -/
structure Free (mg : Str → Option Value) : Prop where
  len : mg "len" = none
  abs : mg "abs" = none
  max : mg "max" = none
  min : mg "min" = none
  int : mg "int" = none
  divmod : mg "divmod" = none
  range : mg "range" = none
  all : mg "all" = none
  str : mg "str" = none
  list : mg "list" = none
  repr : mg "repr" = none
  any : mg "any" = none
/-- the state of a drawing: a list of two numbers -/
def Rng (H : Hp) (p : Addr) : Prop := ∃ x y : Int, H p = some (.lst [.int x, .int y]) ∧ 0 ≤ y ∧ y < 2 ^ 40
def spRng (K : PySem.W.Frag) : Sp := fun vs H Q _ => ∃ (a : Addr) (ns : List Int) (i : Int), vs = [.ref a, .int i] ∧ SqL K H a (ns.map V.int) ∧ 0 ≤ i ∧ i < 100 ∧
  ∀ p H', H p = none → Same H H' → Rng H' p → Q (.ref p) H'
section
variable {P : Program} {w : World} {K : PySem.W.Frag} {mg : Str → Option Value} {base : Heap}
theorem scRng : FnScope ["_law_script", "_law_spot", "_law_cell"] ["_law_script", "_law_spot"] (defScope sRng) := ⟨rfl, rfl, rfl, by decide +kernel, rfl, by decide +kernel, by decide +kernel⟩
theorem fm_bd (a : Int) {b : Int} (hb : 0 < b) : 0 ≤ a.fmod b ∧ a.fmod b < b := by
  rw [Int.fmod_eq_emod_of_nonneg _ (by omega)]
  exact ⟨Int.emod_nonneg _ (by omega), Int.emod_lt_of_pos _ hb⟩
theorem ok_rng {f : Addr} {fd : FuncData} (F : Fun K "_law_rng" "_law_rng" sRng f fd) (T : Free mg) : FnOk P w K mg base CX0 1 f fd ["_law_script", "_law_spot"] (spRng K) := by
  refine F.ok scRng (fun vs H Q E h => ?_) (fun cdv A outer s H vs Q E hr h => ?_)
  · obtain ⟨a, ns, i, rfl, _⟩ := h
    rfl
  · obtain ⟨a, ns, i, rfl, hS, i0, i1, k⟩ := h
    refine ⟨_, pss_cons (ps_set (i := 2) scRng.nd rfl (Or.inl rfl)
        (pe_ifExp (pt_cmpR op_lt (pv 1) (pe_callB call_len_seq (by rfl) T.len PySem.boot_len (pa_cons (pv 0) pa_nil)) (nomark _))
          (pe_callB call_abs (by rfl) T.abs (by decide +kernel) (pa_cons (pe_ix ix_list (pv 0) (pv 1) (fun _ _ => rfl)) pa_nil))
          (pe_op op_add (pe_op op_mul pe_int (pv 1)) pe_int)))
      (pss_one (ps_ret (pe_lst (pa_cons (pe_callB (call_max2 rfl) (by rfl) T.max (by decide +kernel) (pa_cons pe_int (pa_cons (pe_op op_sub (pv 2) (pe_op op_pow pe_int pe_int)) pa_nil)))
        (pa_cons (pe_op op_add (pe_op op_modN (pe_callTy call_int1 (by rfl) T.int (by decide +kernel) (pa_cons
          (pe_op op_add (pe_op op_add (pe_op op_mul (pe_op op_modN (pe_callTy call_int1 (by rfl) T.int (by decide +kernel) (pa_cons (pv 2) pa_nil)) pe_int) pe_int) (pe_op op_mul pe_int (pv 1))) pe_int) pa_nil)) pe_int) pe_int) pa_nil))))), ?_⟩
    refine ⟨_, rfl, _, rfl, _, _, rfl, .inl hS, _, _, rfl, rfl, _, rfl, ?_⟩
    refine ite2 (fun c => ?_) (fun c => ?_)
    · have c' : i < ((ns.map V.int).length : Int) := of_decide_eq_true c
      obtain ⟨j, rfl⟩ : ∃ j : Nat, i = (j : Int) := ⟨i.toNat, by omega⟩
      have hj : j < ns.length := by rw [List.length_map] at c'; omega
      refine ⟨_, rfl, _, rfl, a, _, _, V.int ns[j], rfl, rfl, hS, atI_nat (by rw [List.getElem?_map, List.getElem?_eq_getElem hj]; rfl), _, rfl, ?_⟩
      generalize (if ns[j] < 0 then -ns[j] else ns[j]) = c
      (refine ⟨_, rfl, _, _, rfl, rfl, ⟨by decide, by decide, by decide⟩, _, _, rfl, rfl, _, _, rfl, _, rfl, .inl ⟨_, rfl, _, _, rfl, rfl, (by show (2147483543 : Int) ≠ 0; decide), _, _, rfl, rfl, .inr ⟨by decide, by decide⟩,
        _, rfl, _, _, rfl, rfl, .inl ⟨by decide, by decide⟩, _, _, rfl, rfl, _, _, rfl, rfl, .inl ⟨_, rfl, _, _, rfl, rfl, (by show (2147483629 : Int) ≠ 0; decide), _, _, rfl, rfl, by show 2 ≤ sizeLine; decide, fun p hp => ?_⟩⟩⟩
       refine k p _ hp (fun b o e => by rw [upd_ne (ne_of_none e hp)]; exact e) ⟨_, _, upd_same, ?_⟩
       have q := fm_bd (c.fmod 2147483543 * 39373 + 52361 * (j : Int) + 29) (b := 2147483629) (by decide)
       exact ⟨by omega, by omega⟩)
    · refine ⟨_, rfl, _, _, rfl, rfl, .inl ⟨by decide, by decide⟩, _, _, rfl, rfl, ?_⟩
      (refine ⟨_, rfl, _, _, rfl, rfl, ⟨by decide, by decide, by decide⟩, _, _, rfl, rfl, _, _, rfl, _, rfl, .inl ⟨_, rfl, _, _, rfl, rfl, (by show (2147483543 : Int) ≠ 0; decide), _, _, rfl, rfl, .inr ⟨by decide, by decide⟩,
        _, rfl, _, _, rfl, rfl, .inl ⟨by decide, by decide⟩, _, _, rfl, rfl, _, _, rfl, rfl, .inl ⟨_, rfl, _, _, rfl, rfl, (by show (2147483629 : Int) ≠ 0; decide), _, _, rfl, rfl, by show 2 ≤ sizeLine; decide, fun p hp => ?_⟩⟩⟩
       refine k p _ hp (fun b o e => by rw [upd_ne (ne_of_none e hp)]; exact e) ⟨_, _, upd_same, ?_⟩
       have q := fm_bd ((11 * i + 4).fmod 2147483543 * 39373 + 52361 * i + 29) (b := 2147483629) (by decide)
       exact ⟨by omega, by omega⟩)
/-! ### a number drawn -/
def spDraw : Sp := fun vs H Q _ => ∃ (p : Addr) (m : Int), vs = [.ref p, .int m] ∧ Rng H p ∧ 0 < m ∧ m < 1000000000 ∧
  ∀ d H', 0 ≤ d → d < m → (∀ b o, H b = some o → b ≠ p → H' b = some o) → Rng H' p → Q (.int d) H'
theorem scDraw : FnScope ["_law_rng_here", "_law_many", "_law_digit"] ["_law_rng_here", "_law_many"] (defScope sDraw) := ⟨rfl, rfl, rfl, by decide +kernel, rfl, by decide +kernel, by decide +kernel⟩
theorem ok_draw {f : Addr} {fd : FuncData} (F : Fun K "_law_draw" "_law_draw" sDraw f fd) (T : Free mg) : FnOk P w K mg base CX0 1 f fd ["_law_rng_here", "_law_many"] spDraw := by
  refine F.ok scDraw (fun vs H Q E h => ?_) (fun cdv A outer s H vs Q E hr h => ?_)
  · obtain ⟨p, m, rfl, _⟩ := h
    rfl
  · obtain ⟨p, m, rfl, ⟨x, y, hp, y0, y1⟩, m0, m1, k⟩ := h
    refine ⟨_, pss_cons (ps_if (pt_cmpR op_gt (pe_ix ix_list (pv 0) pe_int (fun _ _ => rfl)) pe_int (nomark _))
        (pss_cons (ps_asg (pe_callB call_divmod (by rfl) T.divmod (by decide +kernel) (pa_cons (pe_ix ix_list (pv 0) pe_int (fun _ _ => rfl)) (pa_cons (pv 1) pa_nil)))
            (pg_tup (by rfl) (pgs_cons (pg_sub (pv 0) pe_int set_list) (pgs_cons (pg_name (i := 2) scDraw.nd rfl (.inl rfl)) pgs_nil))))
          (pss_one (ps_ret (pv 2)))) pss_nil)
      (pss_cons (ps_asg (pe_op op_modN (pe_callTy call_int1 (by rfl) T.int (by decide +kernel) (pa_cons (pe_op op_add (pe_op op_mul (pe_ix ix_list (pv 0) pe_int (fun _ _ => rfl)) pe_int) pe_int) pa_nil)) pe_int) (pg_sub (pv 0) pe_int set_list))
        (pss_one (ps_ret (pe_op op_modN (pe_callTy call_int1 (by rfl) T.int (by decide +kernel) (pa_cons (pe_op op_fdiv (pe_op op_modN (pe_callTy call_int1 (by rfl) T.int (by decide +kernel)
          (pa_cons (pe_op op_mul (pe_ix ix_list (pv 0) pe_int (fun _ _ => rfl)) (pe_ix ix_list (pv 0) pe_int (fun _ _ => rfl))) pa_nil)) pe_int) pe_int) pa_nil)) (pv 1))))), ?_⟩
    refine ⟨_, rfl, p, _, _, _, rfl, rfl, SqL.of hp, rfl, _, _, rfl, rfl, _, rfl, ?_⟩
    refine ite2 (fun c => ?_) (fun c => ?_)
    · refine ⟨_, rfl, p, _, _, _, rfl, rfl, SqL.of hp, rfl, _, rfl, ?_⟩
      refine ⟨_, _, rfl, ⟨m0, by omega⟩, fun t ht => ?_⟩
      have hpt : p ≠ t := ne_of_none hp ht
      refine ⟨t, _, rfl, SqT.of upd_same, rfl, _, _, rfl, _, rfl, p, _, _, 0, rfl, rfl, by rw [upd_ne hpt]; exact hp, rfl, _, _, rfl, rfl, _, rfl, ?_⟩
      refine k _ _ (Int.emod_nonneg _ (by omega)) (Int.emod_lt_of_pos _ m0) (fun b o e hb => by rw [upd_ne hb, upd_ne (ne_of_none e ht)]; exact e) ⟨_, _, upd_same, y0, y1⟩
    · refine ⟨_, rfl, p, _, _, _, rfl, rfl, SqL.of hp, rfl, _, _, rfl, rfl, .inr ⟨by decide, by decide⟩, _, _, rfl, rfl, .inl ⟨_, rfl, _, _, rfl, rfl, (by show (2147483587 : Int) ≠ 0; decide), _, rfl, p, _, _, 1, rfl, rfl, hp, rfl, ?_⟩⟩
      have q := fm_bd (y * 48271 + 12227) (b := 2147483587) (by decide)
      refine ⟨_, rfl, p, _, _, _, rfl, rfl, SqL.of upd_same, rfl, _, rfl, p, _, _, _, rfl, rfl, SqL.of upd_same, rfl, _, _, rfl, rfl, .inl ⟨by omega, by omega⟩, .inl ⟨_, rfl, _, _, rfl, rfl, (by show (2147483549 : Int) ≠ 0; decide), _, _, rfl, rfl, ⟨by decide, by decide⟩,
        .inl ⟨_, rfl, _, rfl, _, _, rfl, rfl, (by show m ≠ 0; omega), ?_⟩⟩⟩
      have r := fm_bd (((y * 48271 + 12227).fmod 2147483587 * (y * 48271 + 12227).fmod 2147483587).fmod 2147483549 / 13) m0
      exact k _ _ r.1 r.2 (fun b o e hb => by rw [upd_ne hb]; exact e) ⟨_, _, upd_same, by omega, by omega⟩

/-! ### one of several -/
def spChoice (K : PySem.W.Frag) : Sp := fun vs H Q _ => ∃ (p l : Addr) (xs : List V), vs = [.ref p, .ref l] ∧ Rng H p ∧ H l = some (.lst xs) ∧ l ≠ p ∧ 0 < xs.length ∧ xs.length < 1000 ∧
  ∀ v H', v ∈ xs → (∀ b o, H b = some o → b ≠ p → H' b = some o) → Rng H' p → Q v H'
theorem scChoice : FnScope ["_law_rng_here", "_law_some"] ["_law_rng_here", "_law_some"] (defScope sChoice) := ⟨rfl, rfl, rfl, by decide +kernel, rfl, by decide +kernel, by decide +kernel⟩
theorem ok_choice {f fD : Addr} {fd fdD : FuncData} (F : Fun K "_law_choice" "_law_choice" sChoice f fd) (T : Free mg) (FD : Fun K "_law_draw" "_law_draw" sDraw fD fdD) (gD : mg "_law_draw" = some (.ref fD)) (bD : Binds K fdD ["_law_rng_here", "_law_many"] []) :
    FnOk P w K mg base CX0 2 f fd ["_law_rng_here", "_law_some"] (spChoice K) := by
  have GD : FnOk P w K mg base CX0 1 fD fdD ["_law_rng_here", "_law_many"] spDraw := ok_draw FD T
  refine F.ok scChoice (fun vs H Q E h => ?_) (fun cdv A outer s H vs Q E hr h => ?_)
  · obtain ⟨p, l, xs, rfl, _⟩ := h
    rfl
  · obtain ⟨p, l, xs, rfl, R, hl, hlp, x0, x1, k⟩ := h
    refine ⟨_, pss_one (ps_ret (pe_ix ix_list (pv 1) (pe_call GD hr rfl gD FD.kp bD .nil pass0 (pa_cons (pv 0) (pa_cons (pe_callB call_len_seq (by rfl) T.len PySem.boot_len (pa_cons (pv 1) pa_nil)) pa_nil))) (fun _ _ => rfl))), ?_⟩
    refine ⟨_, rfl, _, rfl, _, rfl, _, _, rfl, .inl (SqL.of hl), ?_⟩
    refine ⟨p, _, rfl, R, by omega, by omega, fun d H' d0 d1 kp R' => ?_⟩
    obtain ⟨j, rfl⟩ : ∃ j : Nat, d = (j : Int) := ⟨d.toNat, by omega⟩
    have hj : j < xs.length := by omega
    exact ⟨l, _, _, _, rfl, rfl, SqL.of (kp l _ hl hlp), atI_nat (List.getElem?_eq_getElem hj), k _ _ (List.getElem_mem hj) kp R'⟩
end
end K18
set_option maxHeartbeats 4000000
namespace K18
open PySem PySem.Spec PyProof.Rows L2 GL
abbrev sPlain : Stmt := tp 16
theorem plain_norm {t b : Int} (hb : b ≠ 0) : ((if b < 0 then -1 else 1) * t).fdiv (t.natAbs.gcd b.natAbs : Int) = (Rat.divInt t b).num ∧ (b.natAbs : Int).fdiv (t.natAbs.gcd b.natAbs : Int) = ((Rat.divInt t b).den : Int) := by
  have N := norm (t := t) hb
  by_cases p : 0 < b
  · rw [if_pos p] at N
    have e : (b.natAbs : Int) = b := by omega
    rw [if_neg (by omega), Int.one_mul, e]
    exact N
  · have n : b < 0 := by omega
    rw [if_neg p] at N
    have e : (b.natAbs : Int) = -b := by omega
    rw [if_pos n, Int.neg_one_mul, e]
    have f1 : (-t).fdiv (t.natAbs.gcd b.natAbs : Int) = t.fdiv (-(t.natAbs.gcd b.natAbs : Int)) := by
      rw [← Int.neg_fdiv_neg, Int.neg_neg]
    have f2 : (-b).fdiv (t.natAbs.gcd b.natAbs : Int) = b.fdiv (-(t.natAbs.gcd b.natAbs : Int)) := by
      rw [← Int.neg_fdiv_neg, Int.neg_neg]
    rw [f1, f2]
    exact N
theorem abs_is (i : Int) : (if i < 0 then -i else i) = (i.natAbs : Int) := by
  split <;> omega
section
variable {P : Program} {w : World} {K : PySem.W.Frag} {mg : Str → Option Value} {base : Heap}
def spPlain (K : PySem.W.Frag) : Sp := fun vs H Q _ => ∃ (t b : Int), vs = [.int t, .int b] ∧ b ≠ 0 ∧ t.natAbs < 2 ^ 4000 ∧ b.natAbs < 2 ^ 4000 ∧ ∀ p H', Same H H' → H p = none → H' p = some (.tup [.int (Rat.divInt t b).num, .int ((Rat.divInt t b).den : Int)]) → Q (.ref p) H'
theorem scPlain : FnScope ["_law_top", "_law_bottom", "_law_first", "_law_second", "_law_sign"] ["_law_top", "_law_bottom"] (defScope sPlain) := ⟨rfl, rfl, rfl, by decide +kernel, rfl, by decide +kernel, by decide +kernel⟩
theorem ok_plain {f : Addr} {fd : FuncData} (F : Fun K "_law_plain" "_law_plain" sPlain f fd) (T : Free mg) : FnOk P w K mg base CX0 1 f fd ["_law_top", "_law_bottom"] (spPlain K) := by
  refine F.ok scPlain (fun vs H Q E h => ?_) (fun cdv A outer s H vs Q E hr h => ?_)
  · obtain ⟨t, b, rfl, _⟩ := h
    rfl
  · obtain ⟨t, b, rfl, hb, ht, hz, k⟩ := h
    refine ⟨_, pss_cons (ps_par (i := 2) (j := 3) (by rfl) scPlain.nd rfl rfl (by decide) rfl rfl (pa_cons (pe_callB call_abs (by rfl) T.abs (by decide +kernel) (pa_cons (pv 0) pa_nil)) (pa_cons (pe_callB call_abs (by rfl) T.abs (by decide +kernel) (pa_cons (pv 1) pa_nil)) pa_nil)) (by rfl))
      (pss_cons (ps_while PassesOwn.never (pt_cmpR op_ne (pv 3) pe_int (nomark _)) (pss_one (ps_par (i := 2) (j := 3) (by rfl) scPlain.nd rfl rfl (by decide) rfl rfl (pa_cons (pv 3) (pa_cons (pe_op op_modN (pe_callTy call_int1 (by rfl) T.int (by decide +kernel) (pa_cons (pv 2) pa_nil)) (pv 3)) pa_nil)) (by rfl))))
      (pss_cons (ps_set (i := 4) scPlain.nd rfl (Or.inl rfl) (pe_ifExp (pt_cmpR op_lt (pv 1) pe_int (nomark _)) (pe_un un_neg pe_int) pe_int))
      (pss_one (ps_ret (pe_tup (pa_cons (pe_op op_fdivZ (pe_op op_mul (pv 4) (pv 0)) (pv 2)) (pa_cons (pe_op op_fdivZ (pe_callB call_abs (by rfl) T.abs (by decide +kernel) (pa_cons (pv 1) pa_nil)) (pv 2)) pa_nil))))))), ?_⟩
    refine ⟨_, rfl, _, rfl, _, rfl, _, rfl, _, _, rfl, ?_⟩
    rw [abs_is, abs_is]
    have gp : 0 < t.natAbs.gcd b.natAbs := Nat.gcd_pos_of_pos_right _ (Int.natAbs_pos.mpr hb)
    have gl : (t.natAbs.gcd b.natAbs).log2 < 9000 := log2_lt (Nat.lt_of_lt_of_le (Nat.lt_of_le_of_lt (Nat.gcd_le_right _ (Int.natAbs_pos.mpr hb)) hz) (Nat.pow_le_pow_right (by decide) (by decide))) (by decide)
    have N := plain_norm (t := t) hb
    generalize hG : t.natAbs.gcd b.natAbs = G at *
    refine ⟨fun m σ H' => ∃ f s : Nat, m = s ∧ H' = H ∧ σ = [some (.int t), some (.int b), some (.int (f : Int)), some (.int (s : Int)), none] ∧ f.gcd s = G, ⟨_, t.natAbs, b.natAbs, rfl, rfl, rfl, hG⟩, ?_⟩
    rintro s σ H1 ⟨f, s2, rfl, rfl, rfl, hg⟩
    refine ⟨_, rfl, rfl, _, rfl, ?_⟩
    by_cases z : s = 0
    · have e : (!decide (V.int (s : Int) = V.int 0)) = false := by rw [z]; rfl
      dsimp only
      rw [e]
      subst z
      rw [Nat.gcd_zero_right] at hg
      subst hg
      have fin : ∀ sg : Int, sg = (if b < 0 then -1 else 1) → tRet (tTup (tCons (tOp (rI (fun _ j => j ≠ 0 ∧ j.natAbs.log2 < 9000) fun i j => .int (i.fdiv j)) (tOp (rI (fun i j => (-(2 ^ 64) < i ∧ i < 2 ^ 64) ∨ (-(2 ^ 64) < j ∧ j < 2 ^ 64)) fun i j => .int (i * j)) (tVar 4) (tVar 0)) (tVar 2)) (tCons (tOp (rI (fun _ j => j ≠ 0 ∧ j.natAbs.log2 < 9000) fun i j => .int (i.fdiv j)) (tCB (fun xs H Q => ∃ n, xs = [V.int n] ∧ Q (.int (if n < 0 then -n else n)) H) (tCons (tVar 1) tNil)) (tVar 2)) tNil))) { nx := fun _ H' => Q .non H', rt := Q } [some (.int t), some (.int b), some (.int (f : Int)), some (.int ((0 : Nat) : Int)), some (.int sg)] H1 := by
        rintro sg rfl
        refine ⟨_, rfl, _, rfl, _, _, rfl, rfl, .inl (by split <;> decide), _, rfl, _, _, rfl, rfl, ⟨by omega, by rw [Int.natAbs_natCast]; exact gl⟩, _, rfl, _, rfl, _, rfl, _, _, rfl, rfl, ⟨by omega, by rw [Int.natAbs_natCast]; exact gl⟩, (by show 2 ≤ sizeLine; decide), fun p np => ?_⟩
        rw [abs_is]
        dsimp only
        rw [N.1, N.2]
        exact k p _ (fun b o e => by rw [upd_ne (ne_of_none e np)]; exact e) np upd_same
      refine iteF ⟨_, rfl, _, _, rfl, rfl, _, rfl, ?_⟩
      refine ite2 (fun c => ?_) (fun c => ?_)
      · exact ⟨_, rfl, fin _ (by rw [if_pos (of_decide_eq_true c)])⟩
      · exact fin _ (by rw [if_neg fun y => c (decide_eq_true y)])
    · have e : (!decide (V.int (s : Int) = V.int 0)) = true := by
        have : decide (V.int (s : Int) = V.int 0) = false := decide_eq_false fun y => by
          injection y with y
          omega
        rw [this]
        rfl
      dsimp only
      rw [e]
      refine iteT ⟨fun σ' H' => H' = H1 ∧ σ' = [some (.int t), some (.int b), some (.int (s : Int)), some (.int ((f % s : Nat) : Int)), none], ?_, ?_⟩
      · rintro σ' H' ⟨rfl, rfl⟩
        refine ⟨f % s, Nat.mod_lt _ (by omega), s, f % s, rfl, rfl, rfl, ?_⟩
        rw [← hg, Nat.gcd_comm s, ← Nat.gcd_rec, Nat.gcd_comm]
      · refine ⟨_, rfl, _, rfl, .inl ⟨_, rfl, _, rfl, _, _, rfl, rfl, (by show (s : Int) ≠ 0; omega), _, _, rfl, rfl, ?_⟩⟩
        show [some (V.int t), some (.int b), some (.int (s : Int)), some (.int ((f : Int).fmod (s : Int))), none] = _
        rw [Int.fmod_eq_emod_of_nonneg _ (by omega)]
        rfl
end
end K18
set_option maxHeartbeats 4000000
namespace K18
open PySem PySem.Spec PyProof.Rows L2 GL
abbrev sFrac : Stmt := tp 19
theorem off_kp {H H' : Hp} {p : Addr} (k : ∀ b o, H b = some o → b ≠ p → H' b = some o) : Same (off H p) H' := fun b o e => k b o (off_some e).2 (off_some e).1
theorem off_off {H H1 H2 : Hp} {p : Addr} (k : Same (off H p) H1) (j : Same (off H1 p) H2) : Same (off H p) H2 := fun b o e => j b o (off_same k b o e)
theorem Rng.ne {H : Hp} {p t : Addr} {xs : List V} (R : Rng H p) (h : H t = some (.tup xs)) : t ≠ p := by
  obtain ⟨x, y, e, _⟩ := R
  rintro rfl
  rw [e] at h
  cases h
theorem Rng.same {H H' : Hp} {p : Addr} (R : Rng H p) (k : Same H H') : Rng H' p := by
  obtain ⟨x, y, e, z⟩ := R
  exact ⟨x, y, k _ _ e, z⟩
section
variable {P : Program} {w : World} {K : PySem.W.Frag} {mg : Str → Option Value} {base : Heap}
def spFrac (K : PySem.W.Frag) : Sp := fun vs H Q _ => ∃ p : Addr, vs = [.ref p] ∧ Rng H p ∧ ∀ t q H', Same (off H p) H' → Rng H' p → H' t = some (.tup [.int q.num, .int (q.den : Int)]) → Sz 80 q → Q (.ref t) H'
theorem scFrac : FnScope ["_law_rng_here"] ["_law_rng_here"] (defScope sFrac) := ⟨rfl, rfl, rfl, by decide +kernel, rfl, by decide +kernel, by decide +kernel⟩
structure DA (P : Program) (w : World) (K : PySem.W.Frag) (mg : Str → Option Value) (base : Heap) : Prop where
  F : Free mg
  draw : DefF P w K mg base "_law_draw" 1 ["_law_rng_here", "_law_many"] spDraw
  choice : DefF P w K mg base "_law_choice" 2 ["_law_rng_here", "_law_some"] (spChoice K)
  plain : DefF P w K mg base "_law_plain" 1 ["_law_top", "_law_bottom"] (spPlain K)
theorem ok_frac {f : Addr} {fd : FuncData} (F : Fun K "_law_fraction" "_law_fraction" sFrac f fd) (D : DA P w K mg base) : FnOk P w K mg base CX0 3 f fd ["_law_rng_here"] (spFrac K) := by
  obtain ⟨fD, fdD, GD, gD, bD, kD⟩ := D.draw
  obtain ⟨fC, fdC, GC, gC, bC, kC⟩ := D.choice
  obtain ⟨fP, fdP, GP, gP, bP, kP⟩ := D.plain
  refine F.ok scFrac (fun vs H Q E h => ?_) (fun cdv A outer s H vs Q E hr h => ?_)
  · obtain ⟨p, rfl, _⟩ := h
    rfl
  · obtain ⟨p, rfl, R, k⟩ := h
    refine ⟨_, pss_cons (ps_if (pt_cmpR op_eq (pe_call GD (hr.mono (by decide)) rfl gD kD bD .nil pass0 (pa_cons (pv 0) (pa_cons pe_int pa_nil))) pe_int (nomark _))
        (pss_one (ps_ret (pe_call GP (hr.mono (by decide)) rfl gP kP bP .nil pass0 (pa_cons (pe_call GC hr rfl gC kC bC .nil pass0 (pa_cons (pv 0) (pa_cons (pe_lst (pa_cons (pe_op op_add (pe_op op_pow pe_int pe_int) pe_int) (pa_cons (pe_un un_neg (pe_op op_pow pe_int pe_int)) (pa_cons (pe_op op_mul pe_int (pe_op op_pow pe_int pe_int)) pa_nil)))) pa_nil)))
          (pa_cons (pe_op op_add pe_int (pe_call GD (hr.mono (by decide)) rfl gD kD bD .nil pass0 (pa_cons (pv 0) (pa_cons (pe_op op_pow pe_int pe_int) pa_nil)))) pa_nil))))) pss_nil)
      (pss_one (ps_ret (pe_call GP (hr.mono (by decide)) rfl gP kP bP .nil pass0 (pa_cons (pe_op op_sub (pe_call GD (hr.mono (by decide)) rfl gD kD bD .nil pass0 (pa_cons (pv 0) (pa_cons pe_int pa_nil))) pe_int)
        (pa_cons (pe_call GC hr rfl gC kC bC .nil pass0 (pa_cons (pv 0) (pa_cons (pe_lst (pa_cons pe_int (pa_cons pe_int (pa_cons pe_int (pa_cons pe_int (pa_cons pe_int (pa_cons pe_int pa_nil))))))) pa_nil))) pa_nil))))), ?_⟩
    -- the ends of both ways
    have fin : ∀ {t b : Int} {H1 : Hp}, Same (off H p) H1 → Rng H1 p → b ≠ 0 → t.natAbs < 2 ^ 80 → b.natAbs < 2 ^ 80 → spPlain K [.int t, .int b] H1 Q (fun _ _ _ => False) := by
      intro t b H1 k1 R1 hb ht hz
      refine ⟨t, b, rfl, hb, Nat.lt_of_lt_of_le ht (Nat.pow_le_pow_right (by decide) (by decide)), Nat.lt_of_lt_of_le hz (Nat.pow_le_pow_right (by decide) (by decide)), fun q H2 k2 nq e2 => ?_⟩
      exact k q _ H2 (fun b o e => k2 b o (k1 b o e)) (R1.same k2) e2 (divInt_sz hb ht hz)
    have new : ∀ {H1 : Hp} {l : Addr} {xs : List V}, H1 l = none → Rng H1 p → Same H1 (upd H1 l (.lst xs)) ∧ Rng (upd H1 l (.lst xs)) p ∧ l ≠ p := by
      intro H1 l xs nl R1
      have up : Same H1 (upd H1 l (.lst xs)) := fun b o e => by rw [upd_ne (ne_of_none e nl)]; exact e
      obtain ⟨x, y, e, z⟩ := id R1
      exact ⟨up, R1.same up, (ne_of_none e nl).symm⟩
    refine ⟨_, rfl, p, 16, rfl, R, by decide, by decide, fun d H1 d0 d1 k1 R1 => ⟨rfl, _, rfl, ?_⟩⟩
    have o1 := off_kp k1
    refine ite2 (fun c => ?_) (fun c => ?_)
    · refine ⟨_, rfl, _, _, rfl, rfl, ⟨by decide, by decide, by decide⟩, _, _, rfl, rfl, _, _, rfl, rfl, ⟨by decide, by decide, by decide⟩, _, rfl, _, _, rfl, rfl, ⟨by decide, by decide, by decide⟩, _, _, rfl, rfl, .inl ⟨by decide, by decide⟩, (by show 3 ≤ sizeLine; decide), fun l nl => ?_⟩
      obtain ⟨up, R2, nlp⟩ := new nl R1
      refine ⟨p, l, _, rfl, R2, upd_same, nlp, (by show 0 < 3; decide), (by show 3 < 1000; decide), fun v H3 hv k3 R3 => ?_⟩
      have o3 : Same (off H p) H3 := off_off o1 (fun b o e => k3 b o (up b o (off_some e).2) (off_some e).1)
      simp only [List.mem_cons, List.not_mem_nil, or_false] at hv
      obtain ⟨i, rfl, hi⟩ : ∃ i : Int, v = .int i ∧ i.natAbs < 2 ^ 80 := by
        rcases hv with rfl | rfl | rfl
        · exact ⟨_, rfl, by decide⟩
        · exact ⟨_, rfl, by decide⟩
        · exact ⟨_, rfl, by decide⟩
      refine ⟨_, rfl, _, _, rfl, rfl, ⟨by decide, by decide, by decide⟩, p, _, rfl, R3, by decide, by decide, fun e H4 e0 e1 k4 R4 => ⟨_, _, rfl, rfl, ?_⟩⟩
      have e1' : e < 1000000 := e1
      exact fin (off_off o3 (off_kp k4)) R4 (by omega) hi (Nat.lt_of_lt_of_le (by omega : (1 + e).natAbs < 2 ^ 20) (Nat.pow_le_pow_right (by decide) (by decide)))
    · refine ⟨_, rfl, p, 41, rfl, R1, by decide, by decide, fun e H2 e0 e1 k2 R2 => ⟨_, _, rfl, rfl, ?_⟩⟩
      have o2 := off_off o1 (off_kp k2)
      refine ⟨_, rfl, (by show 6 ≤ sizeLine; decide), fun l nl => ?_⟩
      obtain ⟨up, R3, nlp⟩ := new nl R2
      refine ⟨p, l, _, rfl, R3, upd_same, nlp, (by show 0 < 6; decide), (by show 6 < 1000; decide), fun v H4 hv k4 R4 => ?_⟩
      have o4 : Same (off H p) H4 := off_off o2 (fun b o e => k4 b o (up b o (off_some e).2) (off_some e).1)
      simp only [List.mem_cons, List.not_mem_nil, or_false] at hv
      obtain ⟨i, rfl, i0, i1⟩ : ∃ i : Int, v = .int i ∧ 1 ≤ i ∧ i ≤ 12 := by
        rcases hv with rfl | rfl | rfl | rfl | rfl | rfl
        · exact ⟨_, rfl, by decide, by decide⟩
        · exact ⟨_, rfl, by decide, by decide⟩
        · exact ⟨_, rfl, by decide, by decide⟩
        · exact ⟨_, rfl, by decide, by decide⟩
        · exact ⟨_, rfl, by decide, by decide⟩
        · exact ⟨_, rfl, by decide, by decide⟩
      exact fin o4 R4 (by omega) (Nat.lt_of_lt_of_le (by omega : (e - 20).natAbs < 2 ^ 5) (Nat.pow_le_pow_right (by decide) (by decide))) (Nat.lt_of_lt_of_le (by omega : i.natAbs < 2 ^ 4) (Nat.pow_le_pow_right (by decide) (by decide)))
end
end K18
set_option maxHeartbeats 4000000
namespace K18
open PySem PySem.Spec PyProof.Rows L2 GL
abbrev sSum : Stmt := tp 17
abbrev sLess : Stmt := tp 18
abbrev sReal : Stmt := tp 20
/-- a fraction of the law's own: a tuple of two numbers, in lowest terms -/
def PartAt (H : Hp) (t : Addr) (q : Rat) : Prop := H t = some (.tup [.int q.num, .int (q.den : Int)])
theorem PartAt.same {H H' : Hp} {t : Addr} {q : Rat} (h : PartAt H t q) (k : Same H H') : PartAt H' t q := k _ _ h
def DefG (P : Program) (w : World) (K : PySem.W.Frag) (mg : Str → Option Value) (base : Heap) (x : Str) (k : Nat) (ps : List Str) (sp : Sp) : Prop := ∃ f fd, FnG P w K mg base CX0 k f fd ps sp ∧ mg x = some (.ref f) ∧ Binds K fd ps [] ∧ PySem.W.keepIn K (.ref f) = true
section
variable {P : Program} {w : World} {K : PySem.W.Frag} {mg : Str → Option Value} {base : Heap}
section
variable {H H' : Hp} {p : Addr}
theorem Same.offs (k : Same H H') : Same (off H p) (off H' p) := fun a o e => by
  rw [off_ne (off_some e).1]
  exact k _ _ (off_some e).2
theorem Rng.at_off {a : Addr} {o : HO} (R : Rng H p) (e : H a = some o) (n : ∀ xs, o ≠ .lst xs) : off H p a = some o := by
  obtain ⟨x, y, ep, _⟩ := R
  exact off_of ep e (n _)
theorem RatAt.offR {a : Addr} {q : Rat} (h : RatAt K H a q) (R : Rng H p) : RatAt K (GL.off H p) a q := by
  obtain ⟨d, e⟩ := h
  exact ⟨d, R.at_off e fun _ z => nomatch z⟩
theorem PartAt.offR {t : Addr} {q : Rat} (h : PartAt H t q) (R : Rng H p) : PartAt (GL.off H p) t q := R.at_off h fun _ e => by cases e
theorem NumAt.offR {x : V} {q : Rat} (h : NumAt K H x q) (R : Rng H p) : NumAt K (GL.off H p) x q := by
  rcases h with h | ⟨a, e, h⟩
  · exact .inl h
  · exact .inr ⟨a, e, h.offR R⟩
end
theorem mul4 {i : Int} {n : Nat} {d : Nat} (hi : i.natAbs < 2 ^ n) (hd : d < 2 ^ n) (h0 : 0 < n) (h : n ≤ 1000) : CMulW i (d : Int) := wide_mul (a := n) (b := n) hi (by rw [Int.natAbs_natCast]; exact hd) h0 h0 (by omega)
/-! ### the sum of two -/
def spSum (K : PySem.W.Frag) : Sp := fun vs H Q _ => ∃ (s t : Addr) (q r : Rat), vs = [.ref s, .ref t] ∧ PartAt H s q ∧ PartAt H t r ∧ Sz 1000 q ∧ Sz 1000 r ∧ ∀ p H', Same H H' → H p = none → PartAt H' p (rAdd q r) → Q (.ref p) H'
theorem scSum : FnScope ["_law_near", "_law_far"] ["_law_near", "_law_far"] (defScope sSum) := ⟨rfl, rfl, rfl, by decide +kernel, rfl, by decide +kernel, by decide +kernel⟩
theorem ok_sum {f : Addr} {fd : FuncData} (F : Fun K "_law_sum" "_law_sum" sSum f fd) (D : DA P w K mg base) : FnOk P w K mg base CX0 2 f fd ["_law_near", "_law_far"] (spSum K) := by
  obtain ⟨fP, fdP, GP, gP, bP, kP⟩ := D.plain
  refine F.ok scSum (fun vs H Q E h => ?_) (fun cdv A outer s H vs Q E hr h => ?_)
  · obtain ⟨s, t, q, r, rfl, _⟩ := h
    rfl
  · obtain ⟨s, t, q, r, rfl, hs, ht, sq, sr, k⟩ := h
    refine ⟨_, pss_one (ps_ret (pe_call GP hr rfl gP kP bP .nil pass0 (pa_cons (pe_op op_add (pe_op op_mulW (pe_ix ix_tup (pv 0) pe_int (fun _ _ => rfl)) (pe_ix ix_tup (pv 1) pe_int (fun _ _ => rfl))) (pe_op op_mulW (pe_ix ix_tup (pv 1) pe_int (fun _ _ => rfl)) (pe_ix ix_tup (pv 0) pe_int (fun _ _ => rfl))))
      (pa_cons (pe_op op_mulW (pe_ix ix_tup (pv 0) pe_int (fun _ _ => rfl)) (pe_ix ix_tup (pv 1) pe_int (fun _ _ => rfl))) pa_nil)))), ?_⟩
    refine ⟨_, rfl, s, _, _, _, rfl, rfl, SqT.of hs, rfl, _, rfl, t, _, _, _, rfl, rfl, SqT.of ht, rfl, _, _, rfl, rfl, mul4 sq.1 sr.den (by decide) (by decide), ?_⟩
    refine ⟨_, rfl, t, _, _, _, rfl, rfl, SqT.of ht, rfl, _, rfl, s, _, _, _, rfl, rfl, SqT.of hs, rfl, _, _, rfl, rfl, mul4 sr.1 sq.den (by decide) (by decide), _, _, rfl, rfl, ?_⟩
    refine ⟨_, rfl, s, _, _, _, rfl, rfl, SqT.of hs, rfl, _, rfl, t, _, _, _, rfl, rfl, SqT.of ht, rfl, _, _, rfl, rfl, mul4 (by rw [Int.natAbs_natCast]; exact sq.den) sr.den (by decide) (by decide), ?_⟩
    have z := rAdd_sz sq sr
    refine ⟨_, _, rfl, Int.mul_ne_zero (den_ne q) (den_ne r), ?_, ?_, fun p H' k' np e => k p H' k' np e⟩
    · have a := mul_lt sq.1 sr.den
      have b := mul_lt sr.1 sq.den
      have c := Int.natAbs_add_le (q.num * (r.den : Int)) (r.num * (q.den : Int))
      have d : 2 ^ (1000 + 1000) + 2 ^ (1000 + 1000) ≤ 2 ^ 4000 := by decide +kernel
      omega
    · exact Nat.lt_of_lt_of_le (mul_lt (by rw [Int.natAbs_natCast]; exact sq.den) sr.den) (Nat.pow_le_pow_right (by decide) (by decide))
/-! ### whether one is less -/
def spLess (K : PySem.W.Frag) : Sp := fun vs H Q _ => ∃ (s t : Addr) (q r : Rat), vs = [.ref s, .ref t] ∧ PartAt H s q ∧ PartAt H t r ∧ Sz 1000 q ∧ Sz 1000 r ∧ Q (.bl (rBelow q r)) H
theorem scLess : FnScope ["_law_near", "_law_far"] ["_law_near", "_law_far"] (defScope sLess) := ⟨rfl, rfl, rfl, by decide +kernel, rfl, by decide +kernel, by decide +kernel⟩
theorem ok_less {f : Addr} {fd : FuncData} (F : Fun K "_law_less" "_law_less" sLess f fd) : FnOk P w K mg base CX0 1 f fd ["_law_near", "_law_far"] (spLess K) := by
  refine F.ok scLess (fun vs H Q E h => ?_) (fun cdv A outer s H vs Q E hr h => ?_)
  · obtain ⟨s, t, q, r, rfl, _⟩ := h
    rfl
  · obtain ⟨s, t, q, r, rfl, hs, ht, sq, sr, k⟩ := h
    refine ⟨_, pss_one (ps_ret (pe_cmpR op_lt (pe_op op_mulW (pe_ix ix_tup (pv 0) pe_int (fun _ _ => rfl)) (pe_ix ix_tup (pv 1) pe_int (fun _ _ => rfl))) (pe_op op_mulW (pe_ix ix_tup (pv 1) pe_int (fun _ _ => rfl)) (pe_ix ix_tup (pv 0) pe_int (fun _ _ => rfl))) (nomark _))), ?_⟩
    refine ⟨_, rfl, s, _, _, _, rfl, rfl, SqT.of hs, rfl, _, rfl, t, _, _, _, rfl, rfl, SqT.of ht, rfl, _, _, rfl, rfl, mul4 sq.1 sr.den (by decide) (by decide), ?_⟩
    exact ⟨_, rfl, t, _, _, _, rfl, rfl, SqT.of ht, rfl, _, rfl, s, _, _, _, rfl, rfl, SqT.of hs, rfl, _, _, rfl, rfl, mul4 sr.1 sq.den (by decide) (by decide), _, _, rfl, rfl, k⟩
/-! ### the quotient -/
/-! ### as a number of the program's, or Python's own -/
def spReal (K : PySem.W.Frag) : Sp := fun vs H Q _ => ∃ (p t : Addr) (q : Rat), vs = [.ref p, .ref t] ∧ Rng H p ∧ PartAt H t q ∧ Sz 1000 q ∧ ∀ x H', Same (off H p) H' → Rng H' p → NumAt K H' x q → Q x H'
theorem scReal : FnScope ["_law_rng_here", "_law_part"] ["_law_rng_here", "_law_part"] (defScope sReal) := ⟨rfl, rfl, rfl, by decide +kernel, rfl, by decide +kernel, by decide +kernel⟩
theorem ok_real {f : Addr} {fd : FuncData} (F : Fun K "_law_real" "_law_real" sReal f fd) (D : DA P w K mg base) (G : RG P w K mg base) : FnOk P w K mg base CX0 4 f fd ["_law_rng_here", "_law_part"] (spReal K) := by
  obtain ⟨fD, fdD, GD, gD, bD, kD⟩ := D.draw
  obtain ⟨fR, fdR, dd, MR, GR, vd, bR, bR0⟩ := G.mR
  have T := G.T
  refine F.ok scReal (fun vs H Q E h => ?_) (fun cdv A outer s H vs Q E hr h => ?_)
  · obtain ⟨p, t, q, rfl, _⟩ := h
    rfl
  · obtain ⟨p, t, q, rfl, R, ht, sq, k⟩ := h
    refine ⟨_, pss_one (ps_ret (pe_ifExp (PW.pt (pw_and (pt_cmpR op_eq (pe_ix ix_tup (pv 1) pe_int (fun _ _ => rfl)) pe_int (nomark _)) (pw_and1 (pt_cmpR op_eq (pe_call GD (hr.mono (by decide)) rfl gD kD bD .nil pass0 (pa_cons (pv 0) (pa_cons pe_int pa_nil))) pe_int (nomark _)))))
      (pe_ix ix_tup (pv 1) pe_int (fun _ _ => rfl))
      (pe_make MR GR hr rfl T.gR bR0 .nil pass0 (pa_cons (pe_ix ix_tup (pv 1) pe_int (fun _ _ => rfl)) (pa_cons (pe_ix ix_tup (pv 1) pe_int (fun _ _ => rfl)) pa_nil))))), ?_⟩
    have made : ∀ (H1 : Hp), Same (off H p) H1 → Rng H1 p → H1 t = some (.tup [.int q.num, .int (q.den : Int)]) → ∀ x dx, H1 x = none → H1 dx = none → dx ≠ x → spRInit K [.ref x, .int q.num, .int (q.den : Int)] (upd (upd H1 dx (.own x)) x (.ins (aR K) dx [])) (fun v H2 => v = .non ∧ Q (.ref x) H2) E := by
      intro H1 k1 R1 h1 x dx hx hd ne
      refine made_rat hx hd ne (den_ne q) (Nat.lt_of_lt_of_le sq.den (Nat.pow_le_pow_right (by decide) (by decide))) fun a H2 k2 _ ha => ?_
      rw [Rat.num_divInt_den] at ha
      exact k (.ref a) H2 (fun b o e => k2 b o (k1 b o e)) (R1.same k2) (.inr ⟨a, rfl, ha⟩)
    refine ⟨_, rfl, t, _, _, _, rfl, rfl, SqT.of ht, rfl, rfl, _, rfl, ?_⟩
    have tp_ : t ≠ p := R.ne ht
    have go : ∀ (H1 : Hp), Same (off H p) H1 → H1 t = some (.tup [.int q.num, .int (q.den : Int)]) := fun H1 k1 => k1 t _ (by rw [off_ne tp_]; exact ht)
    refine ite2 (fun c => ?_) (fun c => ?_)
    · have c1 : (q.den : Int) = 1 := by
        have z := of_decide_eq_true c
        injection z
      refine ⟨_, rfl, p, 2, rfl, R, by decide, by decide, fun d H1 d0 d1 k1 R1 => ⟨rfl, _, rfl, ?_⟩⟩
      have o1 := off_kp k1
      refine ite2 (fun c2 => ?_) (fun c2 => ?_)
      · refine ⟨_, rfl, t, _, _, _, rfl, rfl, SqT.of (go H1 o1), rfl, k _ H1 o1 R1 (.inl ⟨q.num, rfl, ?_⟩)⟩
        refine Rat.ext ?_ ?_
        · rw [Rat.num_intCast]
        · rw [Rat.den_intCast]
          omega
      · exact ⟨_, rfl, t, _, _, _, rfl, rfl, SqT.of (go H1 o1), rfl, _, rfl, t, _, _, _, rfl, rfl, SqT.of (go H1 o1), rfl, made H1 o1 R1 (go H1 o1)⟩
    · have o0 : Same (off H p) H := fun b o e => (off_some e).2
      exact ⟨_, rfl, t, _, _, _, rfl, rfl, SqT.of ht, rfl, _, rfl, t, _, _, _, rfl, rfl, SqT.of ht, rfl, made H o0 R ht⟩
end
end K18
set_option maxHeartbeats 4000000
namespace K18
open PySem PySem.Spec PyProof.Rows L2 GL
abbrev sIs : Stmt := tp 21
section
variable {P : Program} {w : World} {K : PySem.W.Frag} {mg : Str → Option Value} {base : Heap}
/-! ### a Ratio shows a fraction -/
def spIs (K : PySem.W.Frag) : Sp := fun vs H Q _ => ∃ (a t : Addr) (q : Rat), vs = [.ref a, .ref t] ∧ RatAt K H a q ∧ PartAt H t q ∧ Sz 1900 q ∧ ∀ H', Same H H' → Q (.bl true) H'
theorem scIs : FnScope ["_law_made_here", "_law_part"] ["_law_made_here", "_law_part"] (defScope sIs) := ⟨rfl, rfl, rfl, by decide +kernel, rfl, by decide +kernel, by decide +kernel⟩
structure IsF (P : Program) (w : World) (K : PySem.W.Frag) (mg : Str → Option Value) (base : Heap) : Prop where
  I : RI P w K mg base
  D : DA P w K mg base
  S : SysK K
  top : PropX P w K mg base (aR K) "top" (fun vs H Q _ => ∃ (a : Addr) (q : Rat), vs = [.ref a] ∧ RatAt K H a q ∧ Q (.int q.num) H)
  bottom : PropX P w K mg base (aR K) "bottom" (fun vs H Q _ => ∃ (a : Addr) (q : Rat), vs = [.ref a] ∧ RatAt K H a q ∧ Q (.int (q.den : Int)) H)
theorem ok_is {f : Addr} {fd : FuncData} (F : Fun K "_law_is" "_law_is" sIs f fd) (Z : IsF P w K mg base) : FnG P w K mg base CX0 3 f fd ["_law_made_here", "_law_part"] (spIs K) := by
  obtain ⟨p1, g1, fd1, P1, G1, b1⟩ := Z.top
  obtain ⟨p2, g2, fd2, P2, G2, b2⟩ := Z.bottom
  have T := Z.I.R.G.T
  have M := Z.D.F
  refine Fun.okG F scIs (fun vs H Q E h => ?_) (fun cdv A outer s H vs Q E gd hr h => ?_)
  · obtain ⟨a, t, q, rfl, _⟩ := h
    rfl
  · obtain ⟨a, t, q, rfl, ha, ht, sq, k⟩ := h
    have hu := hr.units
    refine ⟨_, pss_one (ps_ret (pe_and (pe_callB call_isi (by rfl) T.isi (by decide +kernel) (pa_cons (pv 0) (pa_cons (pe_glob (v := .ref (aR K)) rfl T.gR rfl) pa_nil)))
      (pe_one (pe_cmpR op_eq (pe_callB (call_reprD Z.S gd hu) (by rfl) M.repr (by decide +kernel) (pa_cons (pe_lst (pa_cons (pe_prop (pv 0) T.cl P1 G1 hr b1 .nil pass0 rfl) (pa_cons (pe_prop (pv 0) T.cl P2 G2 hr b2 .nil pass0 rfl) pa_nil))) pa_nil))
        (pe_callB (call_reprD Z.S gd hu) (by rfl) M.repr (by decide +kernel) (pa_cons (pe_lst (pa_cons (pe_ix ix_tup (pv 1) pe_int (fun _ _ => rfl)) (pa_cons (pe_ix ix_tup (pv 1) pe_int (fun _ _ => rfl)) pa_nil))) pa_nil)) (nomark _))))), ?_⟩
    have l1 : q.num.natAbs.log2 < 1920 := Nat.lt_trans (log2_lt sq.1 (by decide)) (by decide)
    have l2 : (q.den : Int).natAbs.log2 < 1920 := Nat.lt_trans (log2_lt sq.den (by decide)) (by decide)
    obtain ⟨s1, s2, s3⟩ := shown_two l1 l2
    obtain ⟨d, e⟩ := id ha
    refine ⟨_, rfl, .ref a, .ref (aR K), .ref (aR K), _, true, rfl, .own _, ha.ty T, isi_self, true, rfl, iteT ?_⟩
    refine ⟨_, rfl, a, d, _, rfl, e, a, q, rfl, ⟨d, e⟩, _, rfl, a, d, _, rfl, e, a, q, rfl, ⟨d, e⟩, (by show 2 ≤ sizeLine; decide), fun l nl => ?_⟩
    have u1 := same_new (o := .lst [V.int q.num, .int (q.den : Int)]) nl
    refine ⟨l, _, rfl, .lst (SqL.of upd_same) (.cons (.int _) (.cons (.int _) .nil)), s1, s2, s3, ?_⟩
    refine ⟨_, rfl, t, _, _, _, rfl, rfl, SqT.of (u1 _ _ ht), rfl, _, rfl, t, _, _, _, rfl, rfl, SqT.of (u1 _ _ ht), rfl, (by show 2 ≤ sizeLine; decide), fun l2 nl2 => ?_⟩
    have u2 := same_new (o := .lst [V.int q.num, .int (q.den : Int)]) nl2
    refine ⟨l2, _, rfl, .lst (SqL.of upd_same) (.cons (.int _) (.cons (.int _) .nil)), s1, s2, s3, rfl, ?_⟩
    rw [decide_eq_true rfl]
    exact k _ (u1.trans u2)
/-! ### a move of the program's -/
end
end K18
set_option maxHeartbeats 1000000
/-! repr(a), a an own instance. -/
namespace GL
open PySem PySem.Spec PyProof.Rows L2
theorem krp_call {prog : Program} {w : World} {A : Around} {E : Value → Shared → Prop} {s : Shared} {K : PySem.W.Frag} {x C f : Addr} {ox : Obj} {od : Option Obj} {Q : Value → Shared → Prop} (hu : A.in1.units < cLine) (X : K.In s.heap) (I : PySem.W.InstAt s.heap x ox C od) (hr : PySem.W.findIn K (.ref C) "__repr__" = some (some (.ref f))) (hf : PySem.W.isFn K (.ref f) = true)
    (h : wpAny (model prog w) A.in1 (call (.ref f) [.ref x]) (PySem.W.KfoBack Q) E s) : wpAny (model prog w) A (call (.builtin "repr") [.ref x]) Q E s := by
  refine Calls.call_function_entry PySem.F.kind_repr PySem.F.plain_repr PySem.F.entry_repr (PySem.F.args_repr1 _) ?_
  unfold Builtin.«repr»
  refine wpAny_bind (m := PySem.oneArg "repr" _) (wpAny_pure ?_)
  refine wpAny_bind (wpAny_cRoomFor hu ?_)
  refine wpAny_bind (m := specialOf (.ref x) _) (wpAny_bind (I.type.here ((PySem.W.looks_findIn X hr).here ?_)))
  show wpAny _ _ (if (some (Value.ref f)).isNone = true then _ else _) _ _ _
  rw [if_neg (by simp)]
  refine wpAny_bind (m := callSpecialIfBound? (.ref x) (Str.ofString "__repr__") _) (PySem.W.ifBound_K X I hr hf (wpAny_mono h (fun r s' hq => ?_) fun _ _ y => y))
  obtain ⟨m, tk, rfl, hq⟩ := hq
  refine wpAny_bind (wpAny_isInstance (typeIs_str _ _ _) isSubtype_str_str ?_)
  first
    | exact wpAny_pure ⟨_, rfl, hq⟩
    | (rw [if_pos rfl]; exact wpAny_pure ⟨_, rfl, hq⟩)
    | (simp only [if_true]; exact wpAny_pure ⟨_, rfl, hq⟩)
theorem call_reprO {X : Cx} {CX : CXT} {E : XK} {k : Nat} {sp : Sp} {C f : Addr} (B : Meth X.K C "__repr__" f) (F : FnR X.prog X.w X.K X.mg X.base CX k f sp) (hr : Room (k + 1) X.A) (hx : Passes CX X E) :
    CallR X (.builtin "repr") (fun xs H Q => ∃ a dx fs, xs = [.ref a] ∧ H a = some (.ins C dx fs) ∧ sp [.ref a] H (fun v H' => ∃ z, v = .str z ∧ Q v H') E) := by
  intro pins s σ H xs us Q I r h
  obtain ⟨a, dx, fs, rfl, ea, q⟩ := h
  cases r with
  | cons r1 r2 =>
    cases r2
    rename_i u
    cases (show u = Value.ref a from r1)
    obtain ⟨ox, od, J⟩ := inst_of I ea
    have e0 : Env0 X.prog X.w X.K X.mg X.base X.A.in1 X.stack s H := { I.env0 with frames := I.env0.frames }
    have run := F X.A.in1 X.stack s H [.ref a] [.ref a] _ E (Room.in1 hr) e0 (Paired.cons (a := V.ref a) (b := Value.ref a) rfl .nil) q
    have hu : X.A.in1.units < cLine := by
      have := (Room.in1 hr).un
      omega
    refine krp_call hu I.kIn J B.at_ B.fn (wpAny_call (codeAny_mono run fun r' s' z => ?_))
    match r', z with
    | .error er, z => exact hx pins σ H s er s' I z
    | .ok .next, z => exact False.elim z
    | .ok .brk, z => exact False.elim z
    | .ok .cont, z => exact False.elim z
    | .ok (.ret w), z =>
      obtain ⟨v, H', I', rv, y, rfl, q'⟩ := I.after z
      obtain ⟨t, rfl⟩ := (show ∃ t, w = Value.str y t from rv)
      exact ⟨y, t, rfl, V.str y, H', I', rv, q'⟩
end GL
set_option maxHeartbeats 1000000
/-! defs that neither loop nor raise: called whatever is handled. -/
namespace GL
open PySem PySem.Spec PyProof.Rows L2 L2H
structure FnC (P : Program) (w : World) (K : PySem.W.Frag) (mg : Str → Option Value) (base : Heap) (k : Nat) (f : Addr) (fd : FuncData) (ps : List Str) (sp : Sp) : Prop where
  len : ∀ vs H Q E, sp vs H Q E → vs.length = ps.length
  run : ∀ (A : Around) (outer : List Env) (s : Shared) (H : Hp) (args : Args) (us : List Value) (vs : List V) (Q : VK), RoomH k A → Env0 P w K mg base A outer s H → BindsTo s fd args (ps.zip us) → Vals vs us → sp vs H Q E0 →
    codeAny (model P w) A (.call (.ref f) args) (CR CX0 outer P w H s Q E0) s
def cxQ (P : Program) (w : World) (K : PySem.W.Frag) (mg : Str → Option Value) (base : Heap) (N : List Str) (qual : Str) (scope : Scope) (f : Addr) (cd : Value) (A : Around) (outer : List Env) (s : Shared) (H : Hp) : Cx :=
  { cxOf CX0 P w K mg base N qual scope f cd A outer s H E0 with calm := false }
/-- nothing is handled -/
def quiet (A : Around) : Around := { A with handled := none }
section
variable {P : Program} {w : World} {K : PySem.W.Frag} {mg : Str → Option Value} {base : Heap} {N ps : List Str} {q : Str} {sc : Scope} {f : Addr} {cd : Value} {A : Around} {out : List Env} {s s1 : Shared} {H : Hp}
theorem Env0.quiet (e : Env0 P w K mg base A out s H) : Env0 P w K mg base (quiet A) out s H := { e with frames := e.frames }
theorem inv_quiet {z : L2.St} {G : Hp} {pins : List (Addr × Obj)} (I : Inv (cxOf CX0 P w K mg base N q sc f cd (GL.quiet A) out s H E0) pins z G s1) : Inv (cxQ P w K mg base N q sc f cd A out s H) pins z G s1 :=
  { I with ok := { I.ok with hd := fun v => by cases v } }
theorem fnC_of {k : Nat} {nm : Str} {pa : Arguments} {bd : List Stmt} {dV kV dc pm oc ct : Value} {an od : Option Addr} {osl : Array (Option Value)} {sp : Sp} (at_ : K.lookup f = some ⟨oc, od, .func (PySem.W.fnOf nm q pa bd sc dV kV dc pm an cd ct), osl⟩) (code : PySem.W.codeIn K cd q = true) (S : FnScope N ps sc)
    (long : ∀ vs H Q E, sp vs H Q E → vs.length = ps.length)
    (inner : ∀ (A : Around) (out : List Env) (s : Shared) (H : Hp) (vs : List V) (Q : VK), RoomH k (A.deeper (envOfC q sc s.heap.objs.size f cd)) → sp vs H Q E0 → ∃ t, PSs (cxQ P w K mg base N q sc f cd A out s H) bd t ∧ t { nx := fun _ G => Q .non G, rt := Q } (L2.start N vs) H) :
    FnC P w K mg base (k + 1) f (PySem.W.fnOf nm q pa bd sc dV kV dc pm an cd ct) ps sp := by
  refine ⟨long, ?_⟩
  intro A out s H args us vs Q room e0 bnd vals hsp
  have hin := e0.mod.kin.keeps fun b o z => (e0.bs b o z).1
  refine codeAny_call_function room.depth (hin _ _ at_) rfl S.co S.gen rfl (PySem.W.codeRec_of hin code) (bnd _ _ _ _ ?_)
  refine wpAny_newFunctionEnv_cells S.kind ?_ ?_
  · rintro ⟨n, v⟩ hy
    rcases S.par n (List.of_mem_zip hy).1 with z | z
    · exact .inl z
    · exact .inr ⟨z, PySem.W.cellsFrom_some _ _ _ (.inl z)⟩
  · rintro env rfl s1 x
    refine ⟨(e0.mod.nolimit.keeps fun b o z => (e0.bs b o z).1).keeps x.toInCall.keep, codeAny_func ?_⟩
    obtain ⟨t, ok, go⟩ := inner A out s H vs Q (room.deeper _) hsp
    have J := inv_quiet (inv_start (CX := CX0) (E := E0) S (A := GL.quiet A) rfl (GL.Env0.quiet e0) (long _ _ _ _ hsp) vals x)
    refine wpAny_mono (ok.run [] s1 (L2.start N vs) H _ J go) ?_ fun _ _ z => z
    intro fl s2 z
    match fl, z with
    | .ret u, ⟨v, _, G, L, rv, z⟩ => exact ⟨v, G, L.os, L.bare, L.base, L.hok, rv, z⟩
    | .next, ⟨_, G, L, z⟩ => exact ⟨.non, G, L.os, L.bare, L.base, L.hok, rfl, z⟩
    | .brk, ⟨_, _, _, z⟩ => exact z.elim
    | .cont, ⟨_, _, _, z⟩ => exact z.elim
end
theorem call_reprQ {X : Cx} {k : Nat} {fd : FuncData} {sp : Sp} {C f : Addr} (B : Meth X.K C "__repr__" f) (F : FnC X.prog X.w X.K X.mg X.base k f fd ["self"] sp) (hb : Binds X.K fd ["self"] []) (hr : RoomH (k + 1) X.A) :
    CallR X (.builtin "repr") (fun xs H Q => ∃ a dx fs, xs = [.ref a] ∧ H a = some (.ins C dx fs) ∧ sp [.ref a] H (fun v H' => ∃ z, v = .str z ∧ Q v H') E0) := by
  intro pins s σ H xs us Q I r h
  obtain ⟨a, dx, fs, rfl, ea, q⟩ := h
  cases r with
  | cons r1 r2 =>
    cases r2
    rename_i u
    cases (show u = Value.ref a from r1)
    obtain ⟨ox, od, J⟩ := inst_of I ea
    have e0 : Env0 X.prog X.w X.K X.mg X.base X.A.in1 X.stack s H := { I.env0 with frames := I.env0.frames }
    have b := hb s [.ref a] I.kIn rfl
    rw [List.append_nil] at b
    have hr1 : RoomH k X.A.in1 := ⟨by have := hr.dp; show X.A.depth + 3 * k + 5 < _; omega, by have := hr.un; show X.A.units + 1 + 16 * k + 200 < _; omega⟩
    have run := F.run X.A.in1 X.stack s H ⟨[.ref a], []⟩ [.ref a] [.ref a] _ hr1 e0 b (Paired.cons (a := V.ref a) (b := Value.ref a) rfl .nil) q
    have hu : X.A.in1.units < cLine := by
      have := hr1.un
      omega
    refine krp_call hu I.kIn J B.at_ B.fn (wpAny_call (codeAny_mono run fun r' s' z => ?_))
    match r', z with
    | .error er, z => exact False.elim z
    | .ok .next, z => exact False.elim z
    | .ok .brk, z => exact False.elim z
    | .ok .cont, z => exact False.elim z
    | .ok (.ret w), z =>
      obtain ⟨v, H', I', rv, y, rfl, q'⟩ := I.after z
      obtain ⟨t, rfl⟩ := (show ∃ t, w = Value.str y t from rv)
      exact ⟨y, t, rfl, V.str y, H', I', rv, q'⟩
end GL
set_option maxHeartbeats 1000000
/-! repr of tuples that hold own instances. -/
namespace GL
open PySem PySem.Spec PyProof.Rows L2 L2H PySem.Builtin.Tuple
theorem ifBoundBy_K {M : Model} {A : Around} {E : Value → Shared → Prop} {s : Shared} {K : PySem.W.Frag} {x C f : Addr} {ox : Obj} {od : Option Obj} {name : Str} {last : Value → List Value → Sem Value} {Q : Option Value → Shared → Prop} (X : K.In s.heap) (I : PySem.W.InstAt s.heap x ox C od) (hs : PySem.W.findIn K (.ref C) name = some (some (.ref f))) (hf : PySem.W.isFn K (.ref f) = true)
    (h : wpAny M A (last (.ref f) [.ref x]) (fun v => Q (some v)) E s) : wpAny M A (callSpecialIfBoundBy? last (.ref x) name) Q E s := by
  simp only [callSpecialIfBoundBy?, bindSpecialIfBound?]
  refine wpAny_holding (wpAny_bind (wpAny_bind (wpAny_bind (I.type.here ((PySem.W.looks_findIn X hs).here ?_)))))
  refine wpAny_bind (wpAny_askSetting (wpAny_ite ?_))
  have fin : wpAny M A (last (.ref f) [.ref x] >>= fun v => pure (some v)) Q E s := wpAny_bind (wpAny_mono h (fun v s' h' => wpAny_pure h') fun _ _ h' => h')
  split
  · exact wpAny_bind ((PySem.W.bind_fn X _ (beq_iff_eq.mp hf)).here (wpAny_pure (by exact fin)))
  · exact wpAny_tryCatch (wpAny_bind ((PySem.W.bind_fn X _ (beq_iff_eq.mp hf)).here (wpAny_pure (by exact fin))))
theorem krp_under {prog : Program} {w : World} {A : Around} {E : Value → Shared → Prop} {s : Shared} {K : PySem.W.Frag} {x C f : Addr} {ox : Obj} {od : Option Obj} {Q : Str → Shared → Prop} {b : Nat} (hb : b ≤ sizeLine) (hu : A.units < cLine) (X : K.In s.heap) (I : PySem.W.InstAt s.heap x ox C od) (hr : PySem.W.findIn K (.ref C) "__repr__" = some (some (.ref f))) (hf : PySem.W.isFn K (.ref f) = true)
    (h : wpAny (model prog w) A (call (.ref f) [.ref x]) (fun v s' => ∃ m tk, v = .str m tk ∧ Q m s') E s) : wpAny (model prog w) A (pyReprUnder b (.ref x)) Q E s := by
  refine wpAny_pyReprUnder_ref hb ?_
  unfold pyReprObjUnder pyReprObjBy
  refine wpAny_bind (wpAny_cRoomFor hu ?_)
  refine wpAny_bind (m := specialOf (.ref x) _) (wpAny_bind (I.type.here ((PySem.W.looks_findIn X hr).here ?_)))
  show wpAny _ _ (if (some (Value.ref f)).isNone = true then _ else _) _ _ _
  rw [if_neg (by simp)]
  refine wpAny_bind (ifBoundBy_K X I hr hf ?_)
  show wpAny _ _ (call (.ref f) ([.ref x] ++ [])) _ _ _
  refine wpAny_mono h (fun r s' hq => ?_) fun _ _ y => y
  obtain ⟨m, tk, rfl, hq⟩ := hq
  refine wpAny_bind (wpAny_isInstance (typeIs_str _ _ _) isSubtype_str_str ?_)
  first
    | exact wpAny_pure ⟨_, _, rfl, hq⟩
    | (rw [if_pos rfl]; exact wpAny_pure ⟨_, _, rfl, hq⟩)
    | (simp only [if_true]; exact wpAny_pure ⟨_, _, rfl, hq⟩)
structure SubH (X : Cx) (n : Nat) (A : Around) : Prop where
  room : RoomH n A
  fr : A.frames = X.A.frames
theorem SubH.units0 {X : Cx} {n : Nat} {A : Around} (h : SubH X n A) : A.units < cLine := by
  have := h.room.un
  omega
/-- repr inside a tuple gives t -/
def ReprG (X : Cx) (n : Nat) (as : List Addr) (x : V) (t : Str) (H : Hp) : Prop :=
  ∀ (A : Around) (g : List Code) (pins : List (Addr × Obj)) (s : Shared) (σ : L2.St) (H1 : Hp) (u : Value) (b : Nat) (E : Value → Shared → Prop) (Q : Str → Shared → Prop), SubH X n A → A.guards = some g → (∀ c ∈ as, Clear g c) → Same H H1 → Inv X pins σ H1 s → L2.RelV x u → b + t.length ≤ sizeLine →
    (∀ s' H', Inv X pins σ H' s' → Same H1 H' → Q t s') → wpAny (model X.prog X.w) A (pyReprUnder b u) Q E s
inductive ReprsG (X : Cx) (n : Nat) (as : List Addr) (H : Hp) : List V → List Str → Prop
  | nil : ReprsG X n as H [] []
  | cons {x : V} {t : Str} {l : List V} {ts : List Str} : ReprG X n as x t H → ReprsG X n as H l ts → ReprsG X n as H (x :: l) (t :: ts)
section
variable {X : Cx} {n : Nat} {as : List Addr} {H : Hp}
theorem ReprsG.length_eq : ∀ {l : List V} {ts : List Str}, ReprsG X n as H l ts → ts.length = l.length
  | _, _, .nil => rfl
  | _, _, .cons _ h => by simp [h.length_eq]
theorem ReprG.more {x : V} {t : Str} {bs : List Addr} (h : ReprG X n as x t H) (sub : ∀ c ∈ as, c ∈ bs) : ReprG X n bs x t H := fun A g pins s σ H1 u b E Q sb hg hcl k I r hb q => h A g pins s σ H1 u b E Q sb hg (fun c hc => hcl c (sub c hc)) k I r hb q
theorem ReprG.int {i : Int} (hi : i.natAbs.log2 < 1920) : ReprG X n as (.int i) (toString i) H := by
  intro A g pins s σ H1 u b E Q sb hg hcl k I r hb q
  obtain ⟨t, rfl⟩ := (show ∃ t, u = Value.int i t from r)
  exact ReprIs.int t hi b hb A E s Q fun tk => q _ H1 (I.tok tk) fun _ _ e => e
theorem ReprG.bl {c : Bool} : ReprG X n as (.bl c) (if c then "True" else "False") H := by
  intro A g pins s σ H1 u b E Q sb hg hcl k I r hb q
  cases (show u = Value.bool c from r)
  exact ReprIs.bool c b hb A E s Q fun tk => q _ H1 (I.tok tk) fun _ _ e => e
/-- an own instance whose __repr__ neither loops nor raises -/
theorem ReprG.own {fd : FuncData} {sp : Sp} {C f a : Addr} {dx : Addr} {fs : List (Str × V)} {t : Str} (B : Meth X.K C "__repr__" f) (F : FnC X.prog X.w X.K X.mg X.base n f fd ["self"] sp) (hb : Binds X.K fd ["self"] [])
    (ha : H a = some (.ins C dx fs)) (hsp : ∀ H1, Same H H1 → sp [.ref a] H1 (fun v H' => v = .str t ∧ Same H1 H') E0) : ReprG X n as (.ref a) t H := by
  intro A g pins s σ H1 u b E Q sb hg hcl k I r hlen q
  cases (show u = Value.ref a from r)
  obtain ⟨ox, od, J⟩ := inst_of I (k _ _ ha)
  have e0 : Env0 X.prog X.w X.K X.mg X.base A X.stack s H1 := by
    have e := I.env0
    exact { e with frames := sb.fr.trans e.frames }
  have b0 := hb s [.ref a] I.kIn rfl
  rw [List.append_nil] at b0
  have run := F.run A X.stack s H1 ⟨[.ref a], []⟩ [.ref a] [.ref a] _ sb.room e0 b0 (Paired.cons (a := V.ref a) (b := Value.ref a) rfl .nil) (hsp H1 k)
  refine krp_under (by omega) sb.units0 I.kIn J B.at_ B.fn (wpAny_call (codeAny_mono run fun r' s' z => ?_))
  match r', z with
  | .error er, z => exact False.elim z
  | .ok .next, z => exact False.elim z
  | .ok .brk, z => exact False.elim z
  | .ok .cont, z => exact False.elim z
  | .ok (.ret w), z =>
    obtain ⟨v, H', I', rv, rfl, k'⟩ := I.after z
    obtain ⟨tk, rfl⟩ := (show ∃ tk, w = Value.str t tk from rv)
    exact ⟨t, tk, rfl, q s' H' I' k'⟩
/-- the items, one after another -/
theorem foldG {A : Around} {g : List Code} {pins : List (Addr × Obj)} {σ : L2.St} {E : Value → Shared → Prop} (sb : SubH X n A) (hg : A.guards = some g) (hcl : ∀ c ∈ as, Clear g c) : ∀ (xs : List V) (us : List Value) (ts : List Str) (acc : Array Str) (k : Nat) (s : Shared) (H1 : Hp) (Q : (Array Str × Nat) → Shared → Prop), ReprsG X n as H xs ts → Vals xs us → k + piled ts ≤ sizeLine → Same H H1 → Inv X pins σ H1 s →
    (∀ s' H', Inv X pins σ H' s' → Same H1 H' → Q ⟨acc ++ ts.toArray, k + piled ts⟩ s') → wpAny (model X.prog X.w) A (forIn us (⟨acc, k⟩ : (Array Str × Nat)) tupBody) Q E s := by
  intro xs
  induction xs with
  | nil =>
    intro us ts acc k s H1 Q hT r hk kH I q
    cases hT
    cases r
    have h0 := q s H1 I fun _ _ e => e
    simp only [List.forIn_nil]
    exact wpAny_pure (by simpa [piled] using h0)
  | cons x xs ih =>
    intro us ts acc k s H1 Q hT r hk kH I q
    cases hT with
    | cons hx hl =>
      rename_i t ts'
      cases r with
      | cons r1 r2 =>
        rename_i u us'
        rw [piled_cons] at hk
        rw [List.forIn_cons]
        refine wpAny_bind (wpAny_bind (hx A g pins s σ H1 u (k + 1) _ _ sb hg hcl kH I r1 (by omega) fun s' H' I' k' => wpAny_pure ?_))
        refine ih us' ts' (acc.push t) (k + (t.length + 2)) s' H' Q hl r2 (by omega) (kH.trans k') I' fun s2 H2 I2 k2 => ?_
        have h1 := q s2 H2 I2 (k'.trans k2)
        have e : k + piled (t :: ts') = k + (t.length + 2) + piled ts' := by rw [piled_cons]; omega
        rw [e] at h1
        simpa using h1
theorem own_tupG {A : Around} {g : List Code} {pins : List (Addr × Obj)} {σ : L2.St} {s : Shared} {H1 : Hp} {a : Addr} {xs : List V} {ts : List Str} {R : Result → Shared → Prop} {base : Nat} {id : String} {rest : List Value}
    (ha : SqT X.K H1 a xs) (hna : a ∉ as) (hT : ReprsG X n as H xs ts) (kH : Same H H1) (I : Inv X pins σ H1 s)
    (hcg : (Code.builtin id ⟨.ref a :: rest, []⟩).isGuard = true) (sb' : SubH X n (A.under (.builtin id ⟨.ref a :: rest, []⟩)))
    (hg : A.guards = some g) (hcl : ∀ b ∈ a :: as, Clear g b)
    (hR : ∀ s' H' u, Inv X pins σ H' s' → Same H1 H' → R (.ok (.ret (.str (tupleText ts) u))) s') (hsz : base + (tupleText ts).length ≤ sizeLine) :
    wpOwn (model X.prog X.w) A (.builtin id ⟨.ref a :: rest, []⟩) (Builtin.tupleReprAt base ⟨[.ref a], []⟩) (fun fin s' => match fin with | .done f => R (.ok f) s' | .again c' => c'.quiet = true ∧ codeAny (model X.prog X.w) A c' R s') (fun e s' => R (.error e) s') s := by
  have hca : Clear g a := hcl a (.head _)
  obtain ⟨us, r, e, z⟩ := I.tuple ha
  obtain ⟨⟨cls, dd, data, sl⟩, ho, hc1, k1, hd1⟩ := _root_.id e
  dsimp only at hc1 hd1
  have hlen : ts.length = us.toArray.size := by
    rw [List.size_toArray, ← r.length]
    exact hT.length_eq
  have hp := piled_le_tupleText ts
  have hsz0 : (tupleText ts).length ≤ sizeLine := by omega
  rw [tuple_repr_tree, tupleReprUnderWay_eq]
  refine wpOwn_bind (wpOwn_stackTailAny hg (tupGuardF_off _) (tupGuardF_pos _) ?_)
  have hn : (g.any fun c => tupGuardF (.ref a) (c, default)) = false := by
    rw [List.any_eq_false]
    intro c hcm
    rw [tupGuardF_of_clear hca c hcm]
    exact Bool.false_ne_true
  rw [hn]
  refine wpOwn_of_wpAny ?_
  show wpAny _ _ (tupleReprRest base (.ref a)) _ _ s
  unfold tupleReprRest Builtin.Tuple.tupleItemsOf
  refine wpAny_bind (wpAny_bind (wpAny_seqItems ho hd1 (wpAny_pure ?_)))
  rw [← Array.forIn_toList]
  refine wpAny_bind (foldG sb' (guards_under_guard hcg hg) (fun b hb => (hcl b (.tail _ hb)).cons (a := a) fun e => hna (e ▸ hb)) xs us ts _ _ s H1 _ hT r (by omega) kH I fun s' H' I' k' => ?_)
  refine wpAny_bind (wpAny_mkStr (wpAny_pure ?_) (by simpa [tupleText, hlen] using hsz0))
  have h1 := hR _ H' s'.toks (I'.tok (s'.toks + 1)) k'
  simpa [tupleText, hlen] using h1
theorem SubH.under {A : Around} {id : String} {args : Args} (h : SubH X (n + 1) A) (hcu : (A.under (.builtin id args)).units = A.units + 1) (hw : (Code.builtin id args).weight = 1) : SubH X n (A.under (.builtin id args)) := by
  refine ⟨⟨?_, ?_⟩, h.fr⟩
  · have := h.room.dp
    show A.depth + (Code.builtin id args).weight + 3 * n + 5 < _
    omega
  · have := h.room.un
    rw [hcu]
    omega
theorem ReprG.tup {a : Addr} {xs : List V} {ts : List Str} (ha : H a = some (.tup xs)) (hna : a ∉ as) (hT : ReprsG X n as H xs ts) : ReprG X (n + 1) (a :: as) (.ref a) (tupleText ts) H := by
  intro A g pins s σ H1 u b E Q sb hg hcl k I r hb q
  cases (show u = Value.ref a from r)
  have ha1 : SqT X.K H1 a xs := SqT.of (k _ _ ha)
  obtain ⟨us, _, e, _⟩ := I.tuple ha1
  obtain ⟨o, ho, hc, _⟩ := e
  refine wpAny_pyReprUnder_ref (by omega) (wpAny_pyReprObjUnder_twin (twin := "tuple.__repr__.under") ⟨o, ho, hc⟩ F.slot_tuple_repr rfl sb.units0 ?_)
  refine call_twin_own (F.quiet_tuple_repr_under _) F.entry_tuple_repr_under F.check_tuple_repr_under ⟨o, ho, hc⟩ F.slot_tuple_repr (F.args_tuple_repr_1 _) ?_
  exact own_tupG (R := callEnd _ E) ha1 hna hT k I (isGuard_tuple_repr_under _) (sb.under (units_under_tuple_repr_under _ _) (by kernel_rfl)) hg hcl (fun s' H' u I' k' => ⟨⟨_, _, rfl⟩, _, _, rfl, q s' H' I' k'⟩) hb
theorem call_reprG (gd : X.A.guards = some []) (hr : RoomH (n + 2) X.A) :
    CallR X (.builtin "repr") (fun xs H Q => ∃ a l ts as, xs = [.ref a] ∧ SqT X.K H a l ∧ a ∉ as ∧ ReprsG X n as H l ts ∧ (tupleText ts).length ≤ sizeLine ∧ ∀ H', Same H H' → Q (.str (tupleText ts)) H') := by
  intro pins s σ H xs us Q I r h
  obtain ⟨a, l, ts, as, rfl, ha, hna, hT, sz, q⟩ := h
  cases r with
  | cons r1 r2 =>
    cases r2
    rename_i u
    cases (show u = Value.ref a from r1)
    obtain ⟨us, _, e, _⟩ := I.tuple ha
    obtain ⟨o, ho, hc, _⟩ := e
    have un := hr.un
    have dp := hr.dp
    have sb : SubH X (n + 1) X.A.in1 := ⟨⟨by show X.A.depth + 3 * (n + 1) + 5 < _; omega, by show X.A.units + 1 + 16 * (n + 1) + 200 < _; omega⟩, rfl⟩
    refine call_repr_slot (by omega) ⟨o, ho, hc⟩ F.slot_tuple_repr ?_
    refine wpAny_call (codeAny_call_builtin_own (Code.quiet_builtin _ (by decide +kernel)) F.entry_tuple_repr (F.slot_tuple_repr.check _ _ _ _ _ _ _ _ ⟨o, ho, hc⟩ (F.args_tuple_repr_1 _) ?_))
    refine own_tupG (R := callEnd _ X.xe) (base := 0) ha hna hT (fun _ _ z => z) I (isGuard_tuple_repr _) (sb.under (units_under_tuple_repr _ _) (by kernel_rfl)) (g := []) gd (fun b _ => Clear.nil b) (fun s' H' u I' k' => ?_) (by omega)
    exact ⟨_, _, rfl, V.str (tupleText ts), H', I', ⟨_, rfl⟩, q H' k'⟩
end
end GL
set_option maxHeartbeats 4000000
/-! A def with one parameter and a rest (*rest): what is given behind the first stands in a new tuple. -/
namespace GL
open PySem PySem.Spec PyProof.Rows L2
/-- an exception of a call at a heap that has grown by one tuple is one of the call at the heap before -/
def Grown (CX : CXT) : Prop := ∀ (P : Program) (w : World) (outer : List Env) (H : Hp) (p : Addr) (xs : List V) (s s1 : Shared) (E : XK) (e : Value) (s' : Shared), HOk P w H s.heap → (∀ b u, s.heap.get? b = some u → s1.heap.get? b = some u) → s.heap.objs.size ≤ p → s1.os = s.os →
  CX outer (upd H p (.tup xs)) s1 E e s' → CX outer H s E e s'
theorem grown0 : Grown CX0 := fun _ _ _ _ _ _ _ _ _ _ _ _ _ _ _ h => h
theorem grownX {P : Program} {w : World} {outer : List Env} {H : Hp} {p : Addr} {xs : List V} {s s1 : Shared} {E : XK} {e : Value} {s' : Shared} (hok : HOk P w H s.heap) (kp : ∀ b u, s.heap.get? b = some u → s1.heap.get? b = some u) (hp : s.heap.objs.size ≤ p) (os : s1.os = s.os)
    (h : L2.CX P w outer (upd H p (.tup xs)) s1 E e s') : L2.CX P w outer H s E e s' := by
  obtain ⟨a, B, H2, cls, d, rfl, fly, ok2, ub, na, os2, bare, q⟩ := h
  have nP : H p = none := hok.fresh hp
  have lt : ∀ b o, s.heap.get? b = some o → b ≠ p := fun b o z => Nat.ne_of_lt (Nat.lt_of_lt_of_le (Heap.lt_size z) hp)
  have at_ : ∀ b u, H b = some u → upd H p (.tup xs) b = some u := fun b u z => by rw [upd_ne (ne_of_none z nP)]; exact z
  have un : ∀ b o, s.heap.get? b = some o → H b = none → upd H p (.tup xs) b = none := fun b o z n => by rw [upd_ne (lt b o z)]; exact n
  exact ⟨a, B, H2, cls, d, rfl, fly, ok2,
    { keep := fun b o z n m => ub.keep b o (kp b o z) (un b o z n) m
      slot := fun b o z m => ub.slot b o (kp b o z) m
      free := fun b o z n => ub.free b o (kp b o z) (un b o z n)
      there := fun b o z m => ub.there b o (kp b o z) m
      tups := fun b ys z => ub.tups b ys (at_ b _ z)
      frzs := fun b o u z => ub.frzs b o u (at_ b _ z)
      tbls := fun b ps z => ub.tbls b ps (at_ b _ z) }, na, os2.trans os, bare, q⟩
section
variable {P : Program} {w : World} {K : PySem.W.Frag} {mg : Str → Option Value} {base : Heap}
/-- the state behind the binding: the rest's tuple is new -/
theorem env0_tup {A : Around} {outer : List Env} {s : Shared} {H : Hp} {us : List Value} {vs : List V} (e0 : Env0 P w K mg base A outer s H) (r : Vals vs us) (small : vs.length ≤ sizeLine) :
    Env0 P w K mg base A outer { s with heap := s.heap.push { cls := .type "tuple", data := .seq us.toArray } } (upd H s.heap.objs.size (.tup vs)) := by
  have kp : ∀ b o, s.heap.get? b = some o → (s.heap.push { cls := .type "tuple", data := .seq us.toArray }).get? b = some o := fun b o z => Heap.get?_push_of_some _ z
  refine ⟨e0.frames, e0.mod, fun b o z => ?_, Nat.le_trans e0.bsz (by rw [Heap.size_push]; exact Nat.le_succ _), ?_, fun b hb => ?_, ?_, e0.bare⟩
  · obtain ⟨z1, z2⟩ := e0.bs b o z
    exact ⟨kp b o z1, by rw [upd_ne (Nat.ne_of_lt (Heap.lt_size z1))]; exact z2⟩
  · exact Heap.FunFrames.of_keeps (fun b o z _ => ⟨o, kp b o z, rfl⟩) e0.funs
  · have z := e0.frf b hb
    obtain ⟨_, o, z1, _⟩ := e0.funs.mem hb
    rw [upd_ne (Nat.ne_of_lt (Heap.lt_size z1))]
    exact z
  · exact e0.hok.laid (P := P) (w := w) kp (Nat.le_refl _) ⟨small, us, r, ⟨_, Heap.get?_push_size _ rfl, rfl, _, rfl⟩⟩
/-- what such a def binds -/
def RestBinds (fd : FuncData) (a r : Str) : Prop := ∀ (u : Value) (us : List Value), bindArgs fd ⟨u :: us, []⟩ = (newTuple us >>= fun t => pure [(a, u), (r, t)])
theorem okV {CX : CXT} {k : Nat} {f : Addr} {x qual a r : Str} {params : Arguments} {body : List Stmt} {scope : Scope} {fd : FuncData} {N : List Str} {sp : Sp} (F : FunD K x qual params body scope [] [] f fd) (S : FnScope N [a, r] scope) (hb : RestBinds fd a r)
    (grown : ∀ (outer : List Env) (H : Hp) (p : Addr) (xs : List V) (s s1 : Shared) (E : XK) (e : Value) (s' : Shared), HOk P w H s.heap → (∀ b u, s.heap.get? b = some u → s1.heap.get? b = some u) → s.heap.objs.size ≤ p → s1.os = s.os → CX outer (upd H p (.tup xs)) s1 E e s' → CX outer H s E e s')
    (len : ∀ vs H Q E, sp vs H Q E → ∃ v ws, vs = v :: ws ∧ ws.length ≤ sizeLine)
    (hbody : ∀ (cdv : Value) (A : Around) (outer : List Env) (s : Shared) (H : Hp) (v : V) (ws : List V) (Q : VK) (E : XK) (p : Addr), Room k (A.deeper (envOfC qual scope s.heap.objs.size f cdv)) → H p = none → sp (v :: ws) H Q E →
      ∃ t, PSs (cxOf CX P w K mg base N qual scope f cdv A outer s (upd H p (.tup ws)) E) body t ∧ t { nx := fun _ H' => Q .non H', rt := Q } (start N [v, .ref p]) (upd H p (.tup ws))) :
    FnR P w K mg base CX (k + 1) f sp := by
  intro A outer s H us vs Q E hr e0 rv hsp
  obtain ⟨v, ws, rfl, small⟩ := len _ _ _ _ hsp
  cases rv with
  | @cons _ u _ rest r1 r2 =>
    obtain ⟨oc, od, dV, kV, doc, pm, an, cdv, ct, osl, rfl, lk, hcd, _, _⟩ := F.ex
    have e1 := env0_tup e0 r2 small
    have kp : ∀ b o, s.heap.get? b = some o → (s.heap.push { cls := .type "tuple", data := .seq rest.toArray }).get? b = some o := fun b o z => Heap.get?_push_of_some _ z
    have inS : K.In s.heap := e0.mod.kin.keeps fun b o e => (e0.bs b o e).1
    have noLim : s.heap.NoLimit := e0.mod.nolimit.keeps fun b o e => (e0.bs b o e).1
    have fresh : H s.heap.objs.size = none := e0.hok.fresh (Nat.le_refl _)
    have rel : Vals [v, V.ref s.heap.objs.size] [u, Value.ref s.heap.objs.size] := .cons r1 (.cons rfl .nil)
    have kinds : ∀ y ∈ [a, r].zip [u, Value.ref s.heap.objs.size], scope.names.lookup y.1 = some .local ∨ (scope.names.lookup y.1 = some .cell ∧ ((cellsFrom ((s.heap.push { cls := .type "tuple", data := .seq rest.toArray }).objs.size + 1) scope.names []).lookup y.1).isSome = true) := by
      intro y hy
      exact (S.par y.1 (List.of_mem_zip (a := y.1) (b := y.2) hy).1).imp id fun q => ⟨q, PySem.W.cellsFrom_some _ _ _ (.inl q)⟩
    apply codeAny_call_function hr.depth (inS _ _ lk) rfl S.co S.gen rfl (PySem.W.codeRec_of inS hcd)
    rw [hb u rest]
    apply wpAny_bind
    refine wpAny_newObj_type ?_ (by show rest.toArray.size ≤ sizeLine; rw [List.size_toArray, ← Paired.length r2]; exact small)
    apply wpAny_pure
    refine wpAny_newFunctionEnv_cells (s := { s with heap := s.heap.push { cls := .type "tuple", data := .seq rest.toArray } }) S.kind kinds ?_
    intro env he s1 entered
    cases he
    refine ⟨(noLim.keeps kp).keeps entered.toInCall.keep, codeAny_func ?_⟩
    obtain ⟨t, tOk, tRun⟩ := hbody cdv A outer { s with heap := s.heap.push { cls := .type "tuple", data := .seq rest.toArray } } H v ws Q E s.heap.objs.size (hr.deeper _) fresh hsp
    have atStart : Inv (cxOf CX P w K mg base N qual scope f cdv A outer { s with heap := s.heap.push { cls := .type "tuple", data := .seq rest.toArray } } (upd H s.heap.objs.size (.tup ws)) E) [] (start N [v, V.ref s.heap.objs.size]) (upd H s.heap.objs.size (.tup ws)) s1 := inv_start S hr.hd e1 rfl rel entered
    have un : Un (frs outer) [] H (upd H s.heap.objs.size (.tup ws)) s.heap (s.heap.push { cls := .type "tuple", data := .seq rest.toArray }) := Un.laid kp (Nat.le_refl _) fresh
    refine wpAny_mono (tOk.run [] s1 _ _ _ atStart tRun) (fun fl s' hs => ?_) fun e s' hs => ?_
    · match fl, hs with
      | .ret z, hs =>
        obtain ⟨y, σ', H', J, q1, q⟩ := hs
        exact ⟨y, H', J.os, J.bare, un.trans J.base, J.hok, q1, q⟩
      | .next, hs =>
        obtain ⟨σ', H', J, q⟩ := hs
        exact ⟨V.non, H', J.os, J.bare, un.trans J.base, J.hok, rfl, q⟩
      | .brk, hs =>
        obtain ⟨_, _, _, q⟩ := hs
        exact False.elim q
      | .cont, hs =>
        obtain ⟨_, _, _, q⟩ := hs
        exact False.elim q
    · have up : ∀ e' s'', CX outer (upd H s.heap.objs.size (.tup ws)) { s with heap := s.heap.push { cls := .type "tuple", data := .seq rest.toArray } } E e' s'' → CX outer H s E e' s'' := fun e' s'' z => grown outer H s.heap.objs.size ws s { s with heap := s.heap.push { cls := .type "tuple", data := .seq rest.toArray } } E e' s'' e0.hok kp (Nat.le_refl _) rfl z
      exact wpAny_mono hs (fun _ s'' z => up _ _ z) fun e' s'' z => up _ _ z
end
end GL
set_option maxHeartbeats 4000000
/-! Lambdas as values: made and kept in lists, called later by a def that got one of them. -/
namespace GL
open PySem PySem.Spec PyProof.Rows L2
/-- the lambda at f, made in X: its body, its scope, its code object at c' -/
def LamO (X : Cx) (params : Arguments) (body : Expr) (scope : Scope) (f c' : Addr) : HO := .ext fun h => ∃ pm ctv, h.get? f = some (lamObj X params body scope pm c' ctv)
theorem LamO.ok {X : Cx} {params : Arguments} {body : Expr} {scope : Scope} {f c' : Addr} {pm ctv : Value} {H : Hp} {h : Heap} (e : h.get? f = some (lamObj X params body scope pm c' ctv)) : ObjOk X.prog X.w H h f (LamO X params body scope f c') :=
  ⟨⟨pm, ctv, e⟩, ⟨_, e⟩, fun h1 h2 ⟨pm', ctv', e'⟩ st => ⟨pm', ctv', st _ e'⟩⟩
theorem lamO_ne {X : Cx} {params : Arguments} {body : Expr} {scope : Scope} {f c' : Addr} (ps : Array Value) : LamO X params body scope f c' ≠ .tbl ps := fun z => by
  unfold LamO at z
  cases z
section
variable {X : Cx} {pins : List (Addr × Obj)} {z : L2.St} {H : Hp} {s : Shared}
/-- a lambda is made: its object is known from now on -/
theorem lam_new {T : List (Addr × Str)} {c P : Addr} {params : Arguments} {body : Expr} {scope : Scope} {pos : Pos} {E : Value → Shared → Prop} {Q : Value → Shared → Prop} (I : Inv X pins z H s) (TB : LamX.TabB X.base X.mg c P) (own : X.env.code = .ref c)
    (mT : (P, X.env.qual ++ "<lambda>") ∈ T) (one : ∀ p ∈ T, p.1 = P → p.2 = X.env.qual ++ "<lambda>") (tabs : LamX.Tabs T H) (nodef : defaultsOf params X.env = ([], [])) (free : ∀ y ∈ scope.names, y.2 = .free → ∃ c, X.env.cells.lookup y.1 = some c)
    (go : ∀ (f c' : Addr) (H1 : Hp) (s' : Shared), Inv X pins z (upd H1 f (LamO X params body scope f c')) s' → LamX.ExtN H H1 → LamX.Tabs T H1 → H1 f = none → H1 c' = some (LamX.CodeO c' (X.env.qual ++ "<lambda>")) → Q (.ref f) s') :
    wpAny (model X.prog X.w) X.A (eval (.Lambda params body scope pos) X.env) Q E s := by
  obtain ⟨ps, atP, tri, among⟩ := tabs _ mT
  have rawP := I.hok P _ atP
  apply PySem.W.kla_eval nodef
  have glob := I.mod.glob.keeps I.bk
  have blt := TB.bm.keeps I.bk
  have hd := TB.code.keeps I.bk
  cases found : codeAmong pos ps.toList with
  | some cv =>
    obtain ⟨c', rfl, co⟩ := among pos cv found
    apply PySem.W.kla_makeFunctionHit (mg := X.mg) (c := c) (P := P) (ps := ps) (closure_ok free) I.ok.glob glob own hd rawP tri found blt
    intro ctv h' tk kept grew
    have J := I.kept (t' := tk) kept
    have fr : H h'.objs.size = none := I.hok.fresh grew
    exact go h'.objs.size c' H _ (J.laid (t' := tk) (fun b u e => Heap.get?_push_of_some _ e) (Nat.le_refl _) (LamO.ok (Heap.get?_push_size _ rfl))) (.refl H) tabs fr co
  | none =>
    apply PySem.W.kla_makeFunction (mg := X.mg) (c := c) (P := P) (ps := ps) (closure_ok free) I.ok.glob glob own hd rawP tri found TB.gP blt
    intro c' ctv h' tk but low high rec atP'
    obtain ⟨_, oc, vs, t, e0, r1, r2, r3⟩ := rec
    cases e0
    have newC : H c' = none := I.hok.fresh low
    have J := LamX.inv_table (t' := tk) (more := #[rawInt pos.line, rawInt pos.col, .ref c']) (q := X.env.qual ++ "<lambda>") (h' := h') I atP but atP' low ⟨oc, vs, t, r1, r2, r3⟩
    have ext : LamX.ExtN H (upd (upd H P (.tbl (ps ++ #[rawInt pos.line, rawInt pos.col, .ref c']))) c' (LamX.CodeO c' (X.env.qual ++ "<lambda>"))) := by
      intro b o e n
      have bP : b ≠ P := by
        intro w
        subst w
        exact n ps (Option.some.inj (e.symm.trans atP))
      rw [upd_ne (ne_of_none e newC), upd_ne bP]
      exact e
    have asL : (ps ++ #[rawInt pos.line, rawInt pos.col, Value.ref c']).toList = ps.toList ++ [rawInt pos.line, rawInt pos.col, .ref c'] := by simp
    have tabs' : LamX.Tabs T (upd (upd H P (.tbl (ps ++ #[rawInt pos.line, rawInt pos.col, .ref c']))) c' (LamX.CodeO c' (X.env.qual ++ "<lambda>"))) := by
      intro p hp
      by_cases at_ : p.1 = P
      · rw [one p hp at_, at_]
        refine ⟨_, (upd_ne (ne_of_none atP newC)).trans upd_same, by rw [asL]; exact PySem.TriplesOk_snoc _ _ _ _ tri, ?_⟩
        intro p' cv hcv
        rw [asL] at hcv
        rcases LamX.among_app _ tri hcv with old | new
        · obtain ⟨c0, w1, w2⟩ := among p' cv old
          exact ⟨c0, w1, ext _ _ w2 LamX.codeO_ne⟩
        · exact ⟨c', new, upd_same⟩
      · obtain ⟨ps', w1, w2, w3⟩ := tabs p hp
        refine ⟨ps', ?_, w2, fun p' cv hcv => ?_⟩
        · rw [upd_ne (ne_of_none w1 newC), upd_ne at_]
          exact w1
        · obtain ⟨c0, y1, y2⟩ := w3 p' cv hcv
          exact ⟨c0, y1, ext _ _ y2 LamX.codeO_ne⟩
    have fr : upd (upd H P (.tbl (ps ++ #[rawInt pos.line, rawInt pos.col, .ref c']))) c' (LamX.CodeO c' (X.env.qual ++ "<lambda>")) h'.objs.size = none := J.hok.fresh (Nat.le_refl _)
    exact go h'.objs.size c' _ _ (J.laid (t' := tk) (fun b u e => Heap.get?_push_of_some _ e) (Nat.le_refl _) (LamO.ok (Heap.get?_push_size _ rfl))) ext tabs' fr upd_same
/-- lambda: body, as a value -/
def tLamN (X : Cx) (T : List (Addr × Str)) (params : Arguments) (body : Expr) (scope : Scope) : TE := fun _ H Q => LamX.Tabs T H ∧ ∀ f c' H1, LamX.ExtN H H1 → LamX.Tabs T H1 → H1 f = none → H1 c' = some (LamX.CodeO c' (X.env.qual ++ "<lambda>")) → Q (.ref f) (upd H1 f (LamO X params body scope f c'))
theorem pe_lamN {T : List (Addr × Str)} {c P : Addr} {params : Arguments} {body : Expr} {scope : Scope} {pos : Pos} (TB : LamX.TabB X.base X.mg c P) (own : X.env.code = .ref c) (mT : (P, X.env.qual ++ "<lambda>") ∈ T) (one : ∀ p ∈ T, p.1 = P → p.2 = X.env.qual ++ "<lambda>")
    (L : LamX.LamS X.env.scope scope) (nodef : defaultsOf params X.env = ([], [])) : PE X (.Lambda params body scope pos) (tLamN X T params body scope) := by
  constructor
  intro pins s y H Q I ⟨tabs, h⟩
  refine lam_new I TB own mT one tabs nodef (L.has I.ok) ?_
  intro f c' H1 s' J ext tabs' fr co
  exact ⟨.ref f, _, J, rfl, h f c' H1 ext tabs' fr co⟩

/-- a lambda's body at its entry, the frame that made it still there; ex: what else has been written since -/
theorem lam_entry {HZ : Hp} {s1 : Shared} {ex : List Addr} {A : Around} {outer : List Env} {E : XK} {scope : Scope} {f c' : Addr} {h₁ : Heap} {tk : Nat} (I : Inv X pins z H s) (L : LamX.LamS X.env.scope scope) (e0 : Env0 X.prog X.w X.K X.mg X.base A outer s1 HZ) (hd : A.handled = none)
    (un : Un (frs X.stack) ex H HZ s.heap s1.heap) (apart : ∀ y c, X.env.cells.lookup y = some c → c ∉ ex) (names : h₁.Ns s1.heap.objs.size fun y => ([] : List (Str × Value)).reverse.lookup y) (kp : ∀ b o, s1.heap.get? b = some o → h₁.get? b = some o) :
    Inv (LamX.lamCx X A outer s1 HZ E scope f c') [] z HZ { s1 with heap := h₁, toks := tk } := by
  have closed := L.has I.ok
  have cellOf_ : ∀ {y c}, (cloFrom X.env.cells scope.names []).lookup y = some c → X.env.cells.lookup y = some c := by
    intro y c e
    rcases cloFrom_mem (PySem.mem_of_lookup e) with none_ | ⟨isF, rfl⟩
    · cases none_
    · obtain ⟨c1, w⟩ := closed _ isF rfl
      rw [show X.env.cells.lookup y = some c1 from w]
      rfl
  have seen : ∀ {y}, scope.names.lookup y = some .free → ∃ c, (cloFrom X.env.cells scope.names []).lookup y = some c := fun {y} e =>
    mem_lookup (cloFrom_has (cells := X.env.cells) (acc := []) (show (y, NameKind.free) ∈ scope.names from PySem.mem_of_lookup e))
  have stays : ∀ {y : Str} {c : Addr} {v : Option Value}, X.env.cells.lookup y = some c → s.heap.IsCell c v → h₁.IsCell c v := by
    intro y c v e ⟨o, there, isC⟩
    obtain ⟨sl, w⟩ := un.any there (I.freeC y c e) (apart y c e)
    exact ⟨_, kp _ _ w, isC⟩
  have noEx : ∀ b : Addr, b ∉ (LamX.lamCx X A outer s1 HZ E scope f c').ex := by
    intro b w
    cases (show b ∈ ([] : List Addr) from w)
  have notOwn : ∀ {y : Str} {kd : NameKind}, scope.names.lookup y = some kd → kd ≠ .local ∧ kd ≠ .cell := fun {y kd} e => L.own (y, kd) (PySem.mem_of_lookup e)
  have okL : (LamX.lamCx X A outer s1 HZ E scope f c').Ok := by
    refine ⟨e0.mod, L.kind, rfl, rfl, Nat.le_refl _, fun y1 y2 c w1 w2 => I.ok.inj y1 y2 c (cellOf_ w1) (cellOf_ w2), ?_, ?_, fun _ => hd, Around.frames_deeper e0.frames, .inr ⟨rfl, rfl⟩, fun b w => absurd w (noEx b), e0.bs, e0.bsz, fun b _ _ => noEx b, fun b w => absurd w (noEx b), e0.funs, e0.frf⟩
    · intro y hy
      rcases (show scope.names.lookup y = some .cell ∨ scope.names.lookup y = some .free from hy) with w | w
      · exact absurd rfl (notOwn w).2
      · exact seen w
    · intro y c w _
      cases (show false = true from w)
  refine ⟨okL, rfl, e0.bare, Un.kept kp, ⟨_, names, ?_⟩, ?_, e0.hok.fresh (Nat.le_refl _), ?_, ?_, e0.hok.kept kp, I.len⟩
  · intro i y v n1 n2 vis
    rcases (show Vis scope y from vis) with w | w | w
    · exact absurd rfl (notOwn w).1
    · exact absurd rfl (notOwn w).2
    · have inX : X.env.scope.names.lookup y = some .cell ∨ X.env.scope.names.lookup y = some .free := L.free (y, .free) (PySem.mem_of_lookup w) rfl
      obtain ⟨m, _, hl⟩ := I.loc
      obtain ⟨u, r, lk⟩ := hl i y v n1 n2 (.inr inX)
      obtain ⟨c2, e2⟩ := seen w
      refine ⟨u, r, .inr ⟨.inr w, c2, e2, ?_⟩⟩
      have e1 := cellOf_ e2
      rcases lk with ⟨isL, _⟩ | ⟨_, c3, e3, isC⟩
      · have isL' : X.env.scope.names.lookup y = some .local := isL
        rw [isL'] at inX
        rcases inX with w' | w' <;> cases w'
      · rw [e1] at e3
        cases e3
        exact stays e1 isC
  · intro y c e
    obtain ⟨v, isC⟩ := I.cell y c (cellOf_ e)
    exact ⟨v, stays (cellOf_ e) isC⟩
  · intro y c e
    obtain ⟨v, o, there, _⟩ := I.cell y c (cellOf_ e)
    exact un.free c o there (I.freeC y c (cellOf_ e)) (apart y c (cellOf_ e))
  · intro p hp
    cases (show p ∈ ([] : List (Addr × Obj)) ++ [] from hp)
/-- a(), a the parameter of the def that got the lambda; the frame that made the lambda was at s, then (within a comprehension, ex its iterator) the def was entered at s2 -/
theorem pe_actV {s2 : Shared} {H2 : Hp} {ex : List Addr} {CXg : CXT} {Eg : XK} {Ng : List Str} {qg : Str} {sg : Scope} {g f c' : Addr} {cdg : Value} {params : Arguments} {body : Expr} {scope : Scope} {k i : Nat} {a : Str} {pn : List (Addr × Obj)} {xe : Value → Shared → Prop} {W : WX} {tb : XK → TE} {p1 p2 : Pos}
    (I : Inv X pins z H s) (L : LamX.LamS X.env.scope scope) (since : Un (frs X.stack) ex H H2 s.heap s2.heap) (apart : ∀ y c, X.env.cells.lookup y = some c → c ∉ ex)
    (bare : ∀ (pm ctv : Value), bindArgs (PySem.W.kla_fn "<lambda>" (X.env.qual ++ "<lambda>") params body scope (cloFrom X.env.cells scope.names []) pm (.ref c') ctv) ⟨[], []⟩ = pure [])
    (tk : Takes ((cxOf CXg X.prog X.w X.K X.mg X.base Ng qg sg g cdg X.A X.stack s2 H2 Eg).tr pn xe) W) (room : Room (k + 1) (X.A.deeper (envOfC qg sg s2.heap.objs.size g cdg)))
    (inner : ∀ (A : Around) (outer : List Env) (s3 : Shared) (H3 : Hp) (E : XK), A.guards = X.A.guards → Room k (A.deeper (LamX.lamEnv X scope s3.heap.objs.size f c')) → PE (LamX.lamCx X A outer s3 H3 E scope f c') body (tb E))
    (at_ : Ng[i]? = some a) (hv : Vis sg a) (hd : (a == ("__debug__" : Str)) = false := by decide) (hcd : (a == ("__classdict__" : Str)) = false := by decide) :
    PE ((cxOf CXg X.prog X.w X.K X.mg X.base Ng qg sg g cdg X.A X.stack s2 H2 Eg).tr pn xe) (.Call (.Name a p1) [] [] p2)
      (fun y HZ Q => y[i]? = some (some (.ref f)) ∧ HZ f = some (LamO X params body scope f c') ∧ HZ c' = some (LamX.CodeO c' (X.env.qual ++ "<lambda>")) ∧ tb (fun cls d H' => W cls d y H') z HZ Q) := by
  constructor
  intro pinsZ sZ y HZ Q IZ ⟨slot, lamAt, code, rd⟩
  have nm : PE ((cxOf CXg X.prog X.w X.K X.mg X.base Ng qg sg g cdg X.A X.stack s2 H2 Eg).tr pn xe) (.Name a p1) _ := pe_var (pos := p1) (i := i) at_ hv hd hcd
  apply wpAny_Call_Name_kw
  refine thn (nm.run pinsZ sZ y HZ (fun v H1 => v = .ref f ∧ H1 = HZ) IZ ⟨.ref f, slot, rfl, rfl⟩) ?_
  rintro u s1 ⟨v, H1, I1, r1, rfl, rfl⟩
  cases (show u = Value.ref f from r1)
  obtain ⟨⟨pm, ctv, there⟩, _, _⟩ := I1.hok f _ lamAt
  refine PySem.W.callWith_F0 ⟨_, _, _, _, there⟩ ?_
  have un : Un (frs X.stack) [] H2 H1 s2.heap s1.heap := I1.base
  have all : Un (frs X.stack) ex H H1 s.heap s1.heap := since.trans (un.mono (fun b w => w) fun b w => by cases w)
  obtain ⟨⟨oc, vs, t, e1, e2, e3⟩, _, _⟩ := I1.hok c' _ code
  have run : codeAny (model X.prog X.w) (X.A.deeper (envOfC qg sg s2.heap.objs.size g cdg)) (.call (.ref f) ⟨[], []⟩) (CR (L2.CX X.prog X.w) (envOfC qg sg s2.heap.objs.size g cdg :: X.stack) X.prog X.w H1 s1 Q fun cls d H' => W cls d y H') s1 := by
    refine PySem.W.kla_callFunE room.depth there rfl L.co L.gen rfl ⟨c', oc, vs, t, rfl, e1, e2, e3⟩ ?_
    rw [bare]
    refine wpAny_pure (wpAny_newFunctionEnv (fun n hn => (L.own n hn).2) (fun n hn => absurd hn (by simp)) (fun h₁ names but => ⟨I1.nolimit.fresh _ but, ?_⟩) L.kind)
    have kp : ∀ b o, s1.heap.get? b = some o → h₁.get? b = some o := fun b o q => but.extBut b o (Nat.ne_of_lt (Heap.lt_size q)) (Heap.get?_push_of_some _ q)
    have J : Inv (LamX.lamCx X (X.A.deeper (envOfC qg sg s2.heap.objs.size g cdg)) (envOfC qg sg s2.heap.objs.size g cdg :: X.stack) s1 H1 (fun cls d H' => W cls d y H') scope f c') [] z H1 { s1 with heap := h₁, toks := s1.toks + ([] : List (Str × Value)).length } :=
      lam_entry I L I1.env0 room.hd all apart names kp
    refine PySem.W.kla_codeExpr (wpAny_mono ((inner (X.A.deeper (envOfC qg sg s2.heap.objs.size g cdg)) _ s1 H1 _ rfl (room.deeper _)).run [] _ _ H1 Q J rd) ?_ fun e s' q => q)
    rintro v s' ⟨w', H', J', rv, q⟩
    exact ⟨w', H', J'.os, J'.bare, J'.base, J'.hok, rv, q⟩
  have out := passAt tk y
  refine wpAny_call (codeAny_mono run ?_)
  intro r s' q
  match r, q with
  | .error er, q => exact out pinsZ H1 s1 er s' I1 q
  | .ok (.ret u), q => exact I1.after q
  | .ok .next, q => exact False.elim q
  | .ok .brk, q => exact False.elim q
  | .ok .cont, q => exact False.elim q
end
end GL
set_option maxHeartbeats 4000000
/-! [e for a in xs] where e is told of the very frame that the comprehension stands in. -/
namespace GL
open PySem PySem.Spec PyProof.Rows L2
section
variable {X : Cx} {elt tg iter : Expr} {scope : Scope} {own : List (Str × Nat)} {pos : Pos} {wi : TI} {g : TG} {te : L2.St → TE}
theorem pe_lcI (hc : X.calm = true) (hN : X.N.Nodup) (hi : PI X tg iter wi) (ok : BlkOk X.N X.env.scope scope own) (hg : ∀ (s : Shared) (H : Hp) (C : Addr) (cl : List (Str × Addr)) (fp : List Addr), PG (X.blk s H scope (compEnvC scope cl C X.env) fp) tg g)
    (he : ∀ (pins : List (Addr × Obj)) (z : L2.St) (s : Shared) (H : Hp) (C : Addr) (cl : List (Str × Addr)) (fp : List Addr), Inv X pins z H s → (∀ b ∈ fp, FpOk X pins H b) → PE (X.blk s H scope (compEnvC scope cl C X.env) fp) elt (te z))
    (hs : ∀ x, foldedSetIterable iter X.env x = pure x := by intro _; rfl) : PE X (.ListComp elt [⟨tg, iter, [], 0⟩] scope pos) (fun z H Q => tLc wi g tYes (te z) (own.map (·.2)) z H Q) := by
  constructor
  intro pins s z H Q I h
  rw [eval_ListComp]
  have closed : ∀ y ∈ scope.names, y.2 = .free → ∃ c, X.env.cells.lookup y.1 = some c := by
    intro y hy e
    exact (ok.free y hy e).elim (fun k => I.ok.has _ (.inl k)) fun k => I.ok.has _ (.inr k)
  apply wpAny_comprehension_free rfl hs (closure_ok closed) ok.kind (fun y hy e => by rw [ok.uniq y hy, e])
  refine thn (hi.run pins s z H _ I h) fun _ sA ha => thn ha ?_
  rintro itv sB ⟨it, fp, tn, J, HB, rfl, IB, T, tB, fB, rd⟩
  refine wpAny_newObj_type (newEnv_comp ?_) (Nat.zero_le _)
  -- D: the list that grows; sC: the state with it
  obtain ⟨D, hD⟩ : ∃ D, D = sB.heap.objs.size := ⟨_, rfl⟩
  have freshD : HB D = none := IB.hok.fresh (Nat.le_of_eq hD.symm)
  obtain ⟨W, ⟨m0, w0⟩, turn⟩ := rd D freshD
  obtain ⟨sC, eC⟩ : ∃ sC : Shared, sC = { sB with heap := sB.heap.push { cls := .type "list", data := .seq ([] : List Value).toArray } } := ⟨_, rfl⟩
  have hC : sC.heap = sB.heap.push { cls := .type "list", data := .seq ([] : List Value).toArray } := by rw [eC]
  rw [← eC, ← hD]
  have lay : ∀ b o, sB.heap.get? b = some o → sC.heap.get? b = some o := fun b o e => by rw [hC]; exact Heap.get?_push_of_some _ e
  obtain ⟨HC, eHC⟩ : ∃ HC : Hp, HC = upd HB D (.lst []) := ⟨_, rfl⟩
  have IC : Inv X pins z HC sC := by
    rw [eHC, eC]
    exact IB.laid (t' := sB.toks) (fun b o e => Heap.get?_push_of_some _ e) (Nat.le_of_eq hD.symm) ⟨Nat.zero_le _, [], 0, .nil, by rw [hD]; exact Heap.get?_push_size _ rfl⟩
  have young : ∀ b ∈ fp, b < sB.heap.objs.size := fun b hb => let ⟨o, e, _⟩ := T.obj _ _ tB b hb; Heap.lt_size e
  have fC : ∀ b ∈ fp, FpOk X pins HC b := by
    intro b hb
    obtain ⟨f0, fr⟩ := fB b hb
    refine ⟨?_, fr⟩
    rw [eHC, upd_ne (by rw [hD]; exact Nat.ne_of_lt (young b hb))]
    exact f0
  have fC2 : ∀ b ∈ fp, FpOk X pins HC b ∧ b < sC.heap.objs.size := fun b hb => ⟨fC b hb, by rw [hC, Heap.size_push]; exact Nat.lt_succ_of_lt (young b hb)⟩
  have tC : tn 0 sC.heap := T.keep _ _ _ tB fun b _ o e => lay b o e
  have IS := block_start IC ok hN fC2
  obtain ⟨ce, hce⟩ : ∃ ce : Env, ce = compEnvC scope (cellsFrom (sC.heap.objs.size + 1) scope.names (cloFrom X.env.cells scope.names [])) sC.heap.objs.size X.env := ⟨_, rfl⟩
  have pg : PG (X.blk sC HC scope ce fp) tg g := by rw [hce]; exact hg _ _ _ _ _
  have pe : PE (X.blk sC HC scope ce fp) elt (te z) := by rw [hce]; exact he pins z _ _ _ _ _ IC fC
  rw [← hce] at IS
  rw [← eHC] at w0
  have ceL : ce.locals = sC.heap.objs.size := by rw [hce]; rfl
  obtain ⟨sD, eD⟩ : ∃ sD : Shared, sD = { sC with heap := pushCells (sC.heap.push { cls := .type "dict", data := .dict #[] }) scope.names } := ⟨_, rfl⟩
  rw [← eD] at IS
  have tD : tn 0 sD.heap := T.keep _ _ _ tC fun b _ o e => by rw [eD]; exact pushCells_keeps _ _ _ _ (Heap.get?_push_of_some _ e)
  have n0 : ∀ b ∈ fp, HC b = none := fun b hb => (fC b hb).1
  have inBlk : ∀ {σ' : L2.St} {H' : Hp} {s' : Shared}, Inv (X.blk sC HC scope ce fp) [] σ' H' s' → (∀ b ∈ fp, H' b = none) → ∀ b ∈ fp, FpOk (X.blk sC HC scope ce fp) [] H' b := by
    intro σ' H' s' J' n b hb
    obtain ⟨x1, x2⟩ := J'.ok.exf b hb
    refine ⟨n b hb, x1, J'.ok.exfs b hb, .inl hb, x2, fun p hp => ?_⟩
    cases (show p ∈ ([] : List (Addr × Obj)) ++ [] from hp)
  have post : ∀ (sE : Shared) (HE : Hp), Inv (X.blk sC HC scope ce fp) [] (wipe z (own.map (·.2))) HE sE → Q (.ref D) HE → compPost (model X.prog X.w) X.A X.xe none (EP X pins z Q) (.ref D) sC.heap.objs.size (.ok .next) sE := by
    intro sE HE JE q
    have back : Inv X pins z HE sE := IC.call' (ch := fp) JE.os JE.base JE.hok JE.bare fun b hb => by
      obtain ⟨_, y1, y2, y3, y4, y5⟩ := fC b hb
      exact ⟨y3, y1, y4, y5⟩
    have notT : HE sC.heap.objs.size = none := by
      have w := JE.free
      rw [← ceL]
      exact w
    obtain ⟨m, ns, _⟩ := JE.loc
    have ns' : sE.heap.Ns sC.heap.objs.size m := by
      rw [← ceL]
      exact ns
    refine ⟨m, ns', fun h'' sb => ?_⟩
    obtain ⟨y0, y1, y2, y3, y4, y5⟩ := IC.fpOk (H' := HE) (Nat.le_refl _) notT
    exact ⟨.ref D, HE, back.turned (t' := sE.toks) (fun b o hb e => (sb.2 b hb).trans e) y0 y1 y3 y4 y5, rfl, q⟩
  have loop : codeAny (model X.prog X.w) X.A (.compLoop (.ListComp elt [⟨tg, iter, [], 0⟩] scope pos) 0 (.ref it) (.ref D) ce) (compPost (model X.prog X.w) X.A X.xe none (EP X pins z Q) (.ref D) sC.heap.objs.size) sD := by
    refine compLoop_any (fun n s' => ∃ i H', Inv (X.blk sC HC scope ce fp) [] (wipe z (own.map (·.2))) H' s' ∧ tn i s'.heap ∧ (∀ b ∈ fp, H' b = none) ∧ W i n H') ?_ m0 ⟨0, HC, IS, tD, n0, w0⟩
    rintro n sE ⟨i, HE, JE, tE, nE, wE⟩
    rcases turn i n HE wE with ⟨stop, q⟩ | ⟨go, Nx, again, step⟩
    · refine thnF (T.done (X.blk sC HC scope ce fp) rfl rfl rfl hc i [] sE _ HE (fun _ _ => False) JE (inBlk JE nE) tE stop) ?_
      rintro r sF ⟨rfl, JF⟩
      exact post sF HE JF q
    · refine thnF (T.item (X.blk sC HC scope ce fp) rfl rfl rfl hc i [] sE _ HE (fun _ _ => False) JE (inBlk JE nE) tE go) ?_
      rintro r sF ⟨u, rfl, hF⟩
      refine thnF hF ?_
      rintro _ sG ⟨x, HG, JG, rx, yl, tG, nG⟩
      have JP := JG.pinned (inBlk JG nG) (T.obj _ _ tG)
      refine thnF (pg.run _ sG _ HG x u _ JP rx (step x HG yl)) ?_
      rintro _ sH ⟨σH, HH, JH, wiped, rdT⟩
      have close : ∀ {s' : Shared} {H' : Hp}, Inv (X.blk sC HC scope ce fp) ([] ++ pinsAt fp sG.heap) σH H' s' → Nx H' → ∃ m, m < n ∧ ∃ i H', Inv (X.blk sC HC scope ce fp) [] (wipe z (own.map (·.2))) H' s' ∧ tn i s'.heap ∧ (∀ b ∈ fp, H' b = none) ∧ W i m H' := by
        intro s' H' J' nx
        obtain ⟨m', less, w'⟩ := again H' nx
        have held : ∀ b ∈ fp, ∀ o, sG.heap.get? b = some o → s'.heap.get? b = some o ∧ H' b = none := by
          intro b hb o e
          obtain ⟨k1, k2, _⟩ := J'.pin (b, o) (List.mem_append_right _ (List.mem_append_right _ (mem_pinsAt hb e)))
          exact ⟨k1, k2⟩
        have len : (wipe z (own.map (·.2))).length = σH.length := by rw [← wiped, wipe_length]
        refine ⟨m', less, i + 1, H', (J'.unpinned (pins := [])).weak len ?_, T.keep _ _ _ tG fun b hb o e => (held b hb o e).1, ?_, w'⟩
        · intro j v e
          rw [← wiped] at e
          exact (wipe_some e).1
        · intro b hb
          obtain ⟨o, e, _⟩ := T.obj _ _ tG b hb
          exact (held b hb o e).2
      refine thnF ((pts_nil (X := X.blk sC HC scope ce fp)).run _ sH σH HH _ JH rdT) ?_
      rintro b sI ⟨HI, JI, rdE⟩
      cases b with
      | false => exact close JI rdE
      | true =>
        refine thnF (pe.run _ sI σH HI _ JI rdE) ?_
        rintro v sJ ⟨yv, HJ, JJ, ry, acc, atD, small, nx⟩
        exact app_ok (X := X.blk sC HC scope ce fp) JJ atD small ry fun sK JK => close JK nx
  have all := codeAny_compStart_list loop (T.self X.A 0 _ _ _ tD loop)
  rw [eD, hce] at all
  exact all
end
end GL
set_option maxHeartbeats 4000000
/-! [told(a) for a in calls], calls a list of lambdas of the frame. -/
namespace GL
open PySem PySem.Spec PyProof.Rows L2
/-- as Gives, whatever of the heap the lambda's call needs -/
def GivesP (X : Cx) (Ng : List Str) (x : Str) (sg : Scope) (g : Addr) (cdg : Value) (bg : List Stmt) (a : Str) (k : Nat) (TT : (XK → Hp → VK → Prop) → Hp → VK → Prop) : Prop :=
  ∀ (f : Addr) (Ok : Hp → Prop) (s : Shared) (H : Hp) (Q : VK) (tl : XK → Hp → VK → Prop), (∀ H1 H2, (∀ b o, H1 b = some o → H2 b = some o) → Ok H1 → Ok H2) → Room k (X.A.deeper (envOfC x sg s.heap.objs.size g cdg)) →
    (∀ (W : WX) (pn : List (Addr × Obj)) (xe : Value → Shared → Prop) (p1 p2 : Pos), Takes ((cxOf CX0 X.prog X.w X.K X.mg X.base Ng x sg g cdg X.A X.stack s H E0).tr pn xe) W →
      PE ((cxOf CX0 X.prog X.w X.K X.mg X.base Ng x sg g cdg X.A X.stack s H E0).tr pn xe) (.Call (.Name a p1) [] [] p2) (fun y HZ Q => y[0]? = some (some (.ref f)) ∧ Ok HZ ∧ tl (fun cls d H' => W cls d y H') HZ Q)) →
    Ok H → TT tl H Q → ∃ t, PSs (cxOf CX0 X.prog X.w X.K X.mg X.base Ng x sg g cdg X.A X.stack s H E0).nox bg t ∧ t { nx := fun _ H' => Q .non H', rt := Q } (L2.start Ng [.ref f]) H
theorem GivesP.gives {X : Cx} {Ng : List Str} {x : Str} {sg : Scope} {g : Addr} {cdg : Value} {bg : List Stmt} {a q : Str} {k : Nat} {TT : (XK → Hp → VK → Prop) → Hp → VK → Prop} (h : GivesP X Ng x sg g cdg bg a k TT) : Gives X Ng x sg g cdg bg a q k TT :=
  fun f c' s H Q tl room act co rd => h f (fun H => H c' = some (LamX.CodeO c' q)) s H Q tl (fun _ _ k o => k _ _ o) room act co rd
/-- told(e), e one of the frame's lambdas: z the frame's slots -/
def tToldV (X : Cx) (z : L2.St) (k : Nat) (TT : (XK → Hp → VK → Prop) → Hp → VK → Prop) (ta : TE) : TE := fun y H Q => ta y H fun v H1 => ∃ (f c' : Addr) (params : Arguments) (body : Expr) (scope : Scope) (tb : XK → TE), v = .ref f ∧ H1 f = some (LamO X params body scope f c') ∧
  H1 c' = some (LamX.CodeO c' (X.env.qual ++ "<lambda>")) ∧ LamX.LamS X.env.scope scope ∧ (∀ (pm ctv : Value), bindArgs (PySem.W.kla_fn "<lambda>" (X.env.qual ++ "<lambda>") params body scope (cloFrom X.env.cells scope.names []) pm (.ref c') ctv) ⟨[], []⟩ = pure []) ∧
  (∀ (A : Around) (outer : List Env) (s : Shared) (H : Hp) (E : XK), A.guards = X.A.guards → Room k (A.deeper (LamX.lamEnv X scope s.heap.objs.size f c')) → PE (LamX.lamCx X A outer s H E scope f c') body (tb E)) ∧ TT (fun E H' Q' => tb E z H' Q') H1 Q
section
variable {X : Cx}
theorem pe_toldV {TT : (XK → Hp → VK → Prop) → Hp → VK → Prop} {x a : Str} {g : Addr} {k : Nat} {pg : Arguments} {bg : List Stmt} {sg : Scope} {dV kV doc pm cdv ct oc : Value} {an od : Option Addr} {osl : Array (Option Value)} {Ng : List Str} {e : Expr} {ta : TE} {p pos : Pos}
    {pins : List (Addr × Obj)} {z : L2.St} {H : Hp} {s : Shared} {bsc : Scope} {ce : Env} {fp : List Addr} (I : Inv X pins z H s) (fok : ∀ b ∈ fp, FpOk X pins H b)
    (hg : Gl (X.blk s H bsc ce fp) x) (hm : X.mg x = some (.ref g)) (hk : PySem.W.keepIn X.K (.ref g) = true) (lk : X.K.lookup g = some ⟨oc, od, .func (PySem.W.fnOf x x pg bg sg dV kV doc pm an cdv ct), osl⟩) (code : PySem.W.codeIn X.K cdv x = true)
    (hb : Binds X.K (PySem.W.fnOf x x pg bg sg dV kV doc pm an cdv ct) [a] []) (Sg : FnScope Ng [a] sg) (a0 : Ng[0]? = some a) (va : Vis sg a) (gives : GivesP X Ng x sg g cdv bg a (k + 1) TT) (hr : Room (k + 2) X.A)
    (he : PE (X.blk s H bsc ce fp) e ta) (hst : starEach [e] ce = (false, eval e ce) :: starEach [] ce := by rfl) (hdb : (x == ("__debug__" : Str)) = false := by decide) (hd : (a == ("__debug__" : Str)) = false := by decide) (hcd : (a == ("__classdict__" : Str)) = false := by decide) :
    PE (X.blk s H bsc ce fp) (.Call (.Name x p) [e] [] pos) (tToldV X z k TT ta) := by
  constructor
  intro pinsB s0 y H0 Q J h
  apply wpAny_Call_Name_kw
  refine ld_glob J hg hm ?_ hdb
  refine PySem.W.callWith_K (h₀ := X.base) I.ok.mod.kin hk ?_ hst (by rfl)
  rw [show starEach [e] (X.blk s H bsc ce fp).env = _ from hst]
  refine Calls.spliced_cons (thn (he.run pinsB s0 y H0 _ J h) ?_)
  rintro u s2 ⟨v, H2, I2, r2, f, c', params, body, scope, tb, rfl, lamAt, codeAt_, L, bare, inner, rd⟩
  cases (show u = Value.ref f from r2)
  refine Calls.spliced_nil ⟨I2.kIn, ?_⟩
  have since : Un (frs X.stack) fp H H2 s.heap s2.heap := I2.base
  have apart : ∀ y c, X.env.cells.lookup y = some c → c ∉ fp := fun y c q m => (fok c m).2.2.2.2.1 y c q rfl
  have run : codeAny (model X.prog X.w) X.A (.call (.ref g) ⟨[.ref f], []⟩) (CR CX0 X.stack X.prog X.w H2 s2 Q E0) s2 := by
    refine LamX.run_ofS (N := Ng) (ps := [a]) (us := [.ref f]) (vs := [.ref f]) lk code Sg hr I2.env0 (hb s2 [.ref f] I2.kIn rfl) (.cons rfl .nil) rfl fun room => ?_
    obtain ⟨t', ok, rd'⟩ := gives f (fun H => H f = some (LamO X params body scope f c') ∧ H c' = some (LamX.CodeO c' (X.env.qual ++ "<lambda>"))) s2 H2 Q (fun E H' Q' => tb E z H' Q') (fun _ _ k o => ⟨k _ _ o.1, k _ _ o.2⟩) room
      (fun W pn xe p1 p2 tk => by
        have act := pe_actV (p1 := p1) (p2 := p2) (i := 0) I L since apart bare tk room (fun A outer s3 H3 E hA hr3 => inner A outer s3 H3 E hA hr3) a0 va hd hcd
        exact ⟨fun pins s σ H Q I h => act.run pins s σ H Q I ⟨h.1, h.2.1.1, h.2.1.2, h.2.2⟩⟩) ⟨lamAt, codeAt_⟩ rd
    exact ⟨t', ok.nox, rd'⟩
  refine wpAny_call (codeAny_mono run ?_)
  intro r s3 q
  match r, q with
  | .error er, q => exact False.elim q
  | .ok (.ret u), q => exact I2.after q
  | .ok .next, q => exact False.elim q
  | .ok .brk, q => exact False.elim q
  | .ok .cont, q => exact False.elim q
end
end GL
set_option maxHeartbeats 4000000
/-! [e for a in xs] in a def that errors may leave: e may raise. -/
namespace GL
open PySem PySem.Spec PyProof.Rows L2
theorem note_ce {e : Value} {ce env : Env} (h : ce.frame = env.frame) : noteFrame e ce = noteFrame e env := by
  unfold noteFrame PySem.frameOf
  rw [h]
theorem Inv.air {X : Cx} {pins : List (Addr × Obj)} {z : L2.St} {H : Hp} {s : Shared} {f : Value → Shared → Prop} (I : L2.Inv X pins z H s) : L2.Inv { X with xe := f } pins z H s := by
  obtain ⟨⟨a1, a2, a3, a4, a5, a6, a7, a8, a9, a10, a11, a12, a13, a14, a15, a16, a17, a18⟩, b1, b2, b3, b4, b5, b6, b7, b8, b9, b10⟩ := I
  exact ⟨⟨a1, a2, a3, a4, a5, a6, a7, a8, a9, a10, a11, a12, a13, a14, a15, a16, a17, a18⟩, b1, b2, b3, b4, b5, b6, b7, b8, b9, b10⟩
section
variable {M : Model} {A : Around} {E : Value → Shared → Prop} {s : Shared} {env : Env}
/-- how a comprehension ends, its own block's environment kept -/
def compEnd (M : Model) (A : Around) (E : Value → Shared → Prop) (Q : Value → Shared → Prop) (acc : Value) (cenv : Env) (r : Result) (s' : Shared) : Prop :=
  ∃ m, s'.heap.Ns cenv.locals m ∧ ∀ h', Heap.SameBut cenv.locals s'.heap h' → match r with
    | .ok _ => Q acc { s' with heap := h' }
    | .error x => wpAny M A (PySem.passOn "comprehension.variables-let-go" x cenv : Sem Value) (fun _ _ => False) E { s' with heap := h' }
theorem comp_any {e : Expr} {scope : Scope} {pos : Pos} {newAcc first : Sem Value} {g : Comprehension} {gs : List Comprehension} {cl : List (Str × Addr)} {Q : Value → Shared → Prop} (clauses : clausesOf e = g :: gs) (fold : ∀ x, foldedSetIterable g.iter env x = pure x) (clo : closureFor scope env = pure cl)
    (kind : scope.kind = .function) (locals : ∀ x ∈ scope.names, x.2 = .local → scope.names.lookup x.1 = some .local)
    (run : wpAny M A first (fun x s₁ => wpAny M A (pyIter x) (fun it s₂ => wpAny M A newAcc (fun acc s₃ => wpAny M A (newFunctionEnv scope env.globals cl [] env.qual none .none (some env)) (fun cenv s₄ =>
      codeAny M A (.compStart e 0 it acc { cenv with scope := relabel scope env }) (compEnd M A E Q acc { cenv with scope := relabel scope env }) s₄) E s₃) E s₂) E s₁) E s) :
    wpAny M A (comprehension e scope env pos newAcc false first none) Q E s := by
  unfold comprehension
  rw [clo, clauses]
  apply wpAny_bind
  refine wpAny_mono run (fun x sa ha => ?_) fun _ _ y => y
  apply wpAny_bind
  apply wpAny_standAt
  apply wpAny_bind
  apply wpAny_of_eq (fold x)
  apply wpAny_bind
  apply wpAny_holding
  refine wpAny_mono ha (fun it sb hb => ?_) fun _ _ y => y
  apply wpAny_standIf
  apply wpAny_bind
  refine wpAny_mono hb (fun acc sc hc => ?_) fun _ _ y => y
  apply wpAny_bind
  apply wpAny_pure
  apply wpAny_bind
  refine wpAny_mono hc (fun cenv sd hd => ?_) fun _ _ y => y
  dsimp only
  have go : ∀ x ∈ (scope.names.filter fun x => (x.2 == .local || x.2 == .cell) && x.1 != (".0" : Str)).reverse, x.2 = .local → Env.kindOf { cenv with scope := relabel scope env } x.1 = some .local := by
    intro x hx hl
    have mem := List.mem_filter.mp (List.mem_reverse.mp hx)
    exact lookup_relabel_local (locals x mem.1 hl)
  apply wpAny_holding
  apply wpAny_bind
  apply wpAny_attempt
  apply wpAny_holding
  refine wpAny_run ?_ (by intro q; cases q)
  refine codeAny_mono hd ?_
  rintro r se ⟨m, ns, fin⟩
  cases r with
  | ok f =>
    apply wpAny_bind
    apply wpAny_holding
    exact wpAny_comp_letGo (cenv := { cenv with scope := relabel scope env }) kind _ se m go ns fun h' m' _ same => wpAny_pure (fin h' same)
  | error x =>
    apply wpAny_bind
    apply wpAny_holding
    exact wpAny_comp_letGo (cenv := { cenv with scope := relabel scope env }) kind _ se m go ns fun h' m' _ same => wpAny_mono (fin h' same) (fun _ _ f => f.elim) fun _ _ y => y
end
section
variable {X : Cx}
/-- an error of a call within the comprehension's block: the frame as it stood at the call -/
def Air (X : Cx) (W : WX) (z : L2.St) (C : Addr) (e : Value) (s' : Shared) : Prop := ∃ (sX : Shared) (HX : Hp) (m : Str → Option Value), L2.Inv X [] z HX sX ∧ sX.heap.Ns C m ∧ HX C = none ∧ L2.CX X.prog X.w X.stack HX sX (fun cls d H' => W cls d z H') e s'
/-- .. noted, the block let go, passed on: it is in the def's air -/
theorem air_out {W : WX} {z : L2.St} {C : Addr} {e : Value} {s' : Shared} {ce : Env} {Q : Value → Shared → Prop} {acc : Value} (tk : Takes X W) (hst : X.stack = X.env :: X.outer) (hf : X.env.frame = some X.env.locals) (ceL : ce.locals = C) (ceF : ce.frame = X.env.frame)
    (own : (C ∈ X.ex ∨ X.s_0.heap.objs.size ≤ C) ∧ C ≠ X.env.locals ∧ (∀ x c, X.env.cells.lookup x = some c → c ≠ C) ∧ ∀ p ∈ X.pn ++ [], p.1 ≠ C) (nofr : C ∉ frs X.stack) (air : Air X W z C e s') :
    notedBy (model X.prog X.w) X.A ce (fun e s' => compEnd (model X.prog X.w) X.A X.xe Q acc ce (.error e) s') e s' := by
  obtain ⟨sX, HX, m, I, ⟨oC, es, ep, atC, dC, nsC⟩, freeC, a, B, H', cls, d, rfl, fl, hok, ub, na, os, ag, hE⟩ := air
  have hfr : X.A.frames = some (X.env :: X.outer) := by rw [I.ok.frames, hst]
  have BC : B.get? C = some oC := ub.keep C oC atC freeC nofr
  have freeC' : H' C = none := ub.free C oC atC freeC
  unfold notedBy
  rw [note_ce ceF]
  rw [hst] at fl
  refine HandSPX.looks_onZ Zc.steady hfr hf fl fun h1 held up1 => ?_
  obtain ⟨stay1, enone, ff1, tr1⟩ := id held
  refine ⟨m, ⟨oC, es, ep, by rw [ceL]; exact stay1 C oC BC, dC, nsC⟩, fun h' same => ?_⟩
  rw [ceL] at same
  -- the ground and the state without the block's own dict
  obtain ⟨B2, p1, p2⟩ := restrict B fun b => !decide (b = C)
  have B2C : B2.get? C = none := p2 C (by simp)
  have B2B : ∀ b o, B2.get? b = some o → B.get? b = some o ∧ b ≠ C := by
    intro b o e
    by_cases hb : b = C
    · rw [hb, B2C] at e
      cases e
    · rw [p1 b (by simp [hb])] at e
      exact ⟨e, hb⟩
  have BB2 : ∀ b, b ≠ C → B2.get? b = B.get? b := fun b hb => p1 b (by simp [hb])
  have stay2 : B2.StaysIn h' := by
    intro b o e
    obtain ⟨e', hb⟩ := B2B b o e
    rw [same.2 b hb]
    exact stay1 b o e'
  have ff2 : h'.FunFrames B2 (X.env :: X.outer) := by
    have : ∀ l : List Env, C ∉ frs l → h1.FunFrames B l → h'.FunFrames B2 l := by
      intro l
      induction l with
      | nil => exact fun _ _ => trivial
      | cons env rest ih =>
        rintro nC ⟨k1, ⟨L, o, k2, k3, k4, k5⟩, k6⟩
        have LC : L ≠ C := by
          rintro rfl
          exact nC (List.mem_filterMap.mpr ⟨env, List.mem_cons_self, k2⟩)
        refine ⟨k1, ⟨L, o, k2, ?_, ?_, k5⟩, ih (fun w => nC ?_) k6⟩
        · rw [BB2 L LC]
          exact k3
        · rw [same.2 L LC]
          exact k4
        · obtain ⟨e', he, q⟩ := List.mem_filterMap.mp w
          exact List.mem_filterMap.mpr ⟨e', List.mem_cons_of_mem _ he, q⟩
    exact this _ (by rw [← hst]; exact nofr) ff1
  obtain ⟨oe, vs, T, oT, ts, he, hz, hd, h1f, hnT, hTe, hT, hdT, h3⟩ := tr1
  have aC : a ≠ C := by
    rintro rfl
    rw [BC] at enone
    cases enone
  have TC : T ≠ C := by
    rintro rfl
    rw [BC] at hnT
    cases hnT
  have tr2 : HandSPX.TracedZ h' B2 a (Zc cls d) (rawInt X.env.locals) := by
    refine ⟨oe, vs, T, oT, ts, ?_, hz, hd, h1f, ?_, hTe, ?_, hdT, h3⟩
    · rw [same.2 a aC]
      exact he
    · rw [BB2 T TC]
      exact hnT
    · rw [same.2 T TC]
      exact hT
  have e2 : B2.get? a = none := by
    rw [BB2 a aC]
    exact enone
  show wpAny _ _ (PySem.passOn "comprehension.variables-let-go" (.ref a) ce) _ _ _
  unfold PySem.passOn
  have he' : h'.get? a = some oe := by rw [same.2 a aC]; exact he
  refine wpAny_bind (wpAny_field (s := { s' with heap := h' }) he' hd h1f ?_)
  rw [if_neg (show ¬ ((Value.ref T == Value.none) = true) by simp)]
  have last : wpAny (model X.prog X.w) X.A (setFlight (.ref a) ce.frame) (fun _ s4 => wpAny (model X.prog X.w) X.A (throw (.ref a) : Sem Value) (fun _ _ => False) X.xe s4) X.xe { s' with heap := h' } := by
    rw [ceF, hf]
    refine HandSPX.setFlight_anyZ (s := { s' with heap := h' }) stay2 ff2 tr2 fun h2 q1 q2 q3 up2 => wpAny_throw (tk _ _ ?_)
    obtain ⟨G, g1, g2⟩ := restrict s'.heap fun b => ((B.get? b).isSome && !decide (b = C)) || decide (b ∈ frs X.stack)
    have gB : ∀ b o, b ≠ C → B.get? b = some o → G.get? b = some o := by
      intro b o hb e
      rw [g1 b (by simp [e, hb])]
      exact fl.1 b o e
    have gF : ∀ b, b ∈ frs X.stack → G.get? b = s'.heap.get? b := fun b hb => g1 b (by simp [hb])
    have og : ∀ b o, G.get? b = some o → s'.heap.get? b = some o ∧ ((∃ o', B.get? b = some o') ∨ b ∈ frs X.stack) ∧ b ≠ C := by
      intro b o e
      cases q : ((B.get? b).isSome && !decide (b = C)) || decide (b ∈ frs X.stack) with
      | false =>
        rw [g2 b q] at e
        cases e
      | true =>
        rw [g1 b q] at e
        refine ⟨e, ?_⟩
        by_cases hb : b ∈ frs X.stack
        · exact ⟨.inr hb, fun w => nofr (w ▸ hb)⟩
        · simp [hb] at q
          exact ⟨.inl (Option.isSome_iff_exists.mp q.1), q.2⟩
    refine ⟨a, B2, { sX with heap := G, gens := s'.gens, drawn := s'.drawn, toks := s'.toks }, [], z, H', cls, d, rfl, ?_, ?_, ?_, .inr (.inr ?_), na, os, ag, hE⟩
    · refine I.call (ch := [C]) ⟨?_, ?_, ?_, ?_, ub.tups, ub.frzs, ub.tbls⟩ ?_ ag ?_
      · intro b o e n hb hc
        exact gB b o (fun w => hc (by rw [w]; exact List.mem_cons_self)) (ub.keep b o e n hb)
      · intro b o e n hb hc
        obtain ⟨sl, q⟩ := ub.slot b o e hb
        exact ⟨sl, by rw [gF b hb]; exact q⟩
      · intro b o e n hc
        exact ub.free b o e n
      · intro b o e hc
        by_cases hb : b ∈ frs X.stack
        · obtain ⟨sl, q⟩ := ub.slot b o e hb
          exact ⟨_, by rw [gF b hb]; exact q⟩
        · obtain ⟨o', q⟩ := ub.there b o e hb
          exact ⟨o', gB b o' (fun w => hc (by rw [w]; exact List.mem_cons_self)) q⟩
      · intro b u e
        refine (hok b u e).stay (fun x v hx q => gB x v ?_ q) (fun _ q => q) fun _ _ q => q
        rcases hx with w | w
        · rw [w]
          rintro rfl
          rw [freeC'] at e
          cases e
        · rintro rfl
          rw [freeC'] at w
          cases w
      · intro b hb
        simp only [List.mem_cons, List.not_mem_nil, or_false] at hb
        rw [hb]
        exact own
    · intro b o e hb
      obtain ⟨e', h, hc⟩ := og b o e
      rcases h with ⟨o', q⟩ | h
      · have w := fl.1 b o' q
        rw [e'] at w
        cases w
        rw [BB2 b hc]
        exact q
      · exact absurd h hb
    · intro b o e nf
      obtain ⟨e', _, hc⟩ := og b o e
      obtain ⟨sl, u1⟩ := up1 b o e' nf
      have u2 : h'.get? b = some { o with slots := sl } := by
        rw [same.2 b hc]
        exact u1
      obtain ⟨sl2, u3⟩ := up2 b _ u2 nf
      exact ⟨sl2, u3⟩
    · rw [hst]
      exact ⟨q1, e2, q2, q3⟩
  first
    | exact wpAny_bind last
    | exact wpAny_bind (wpAny_pure (wpAny_bind last))
end
end GL
set_option maxHeartbeats 4000000
/-! [e for a in xs], e may raise: the rule. -/
namespace GL
open PySem PySem.Spec PyProof.Rows L2
section
variable {X : Cx} {elt tg iter : Expr} {scope : Scope} {own : List (Str × Nat)} {pos : Pos} {wi : TI} {g : TG} {te : L2.St → TE} {W : WX}
abbrev blkX (X : Cx) (s : Shared) (H : Hp) (scope : Scope) (ce : Env) (fp : List Addr) (air : Value → Shared → Prop) : Cx := { X.blk s H scope ce fp with xe := air }
theorem pe_lcX (tk : Takes X W) (hst : X.stack = X.env :: X.outer) (hf : X.env.frame = some X.env.locals) (hc : X.calm = true) (hN : X.N.Nodup) (hi : PI X tg iter wi) (ok : BlkOk X.N X.env.scope scope own) (hg : ∀ (s : Shared) (H : Hp) (C : Addr) (cl : List (Str × Addr)) (fp : List Addr) (air : Value → Shared → Prop), PG (blkX X s H scope (compEnvC scope cl C X.env) fp air) tg g)
    (he : ∀ (z : L2.St) (s : Shared) (H : Hp) (C : Addr) (cl : List (Str × Addr)) (fp : List Addr) (air : Value → Shared → Prop), (∀ E : XK, (∀ cls d H', E cls d H' → W cls d z H') → Passes (L2.CX X.prog X.w) (blkX X s H scope (compEnvC scope cl C X.env) fp air) E) → PE (blkX X s H scope (compEnvC scope cl C X.env) fp air) elt (te z))
    (hs : ∀ x, foldedSetIterable iter X.env x = pure x := by intro _; rfl) : PE X (.ListComp elt [⟨tg, iter, [], 0⟩] scope pos) (fun z H Q => tLc wi g tYes (te z) (own.map (·.2)) z H Q) := by
  constructor
  intro pins s z H Q I h
  rw [eval_ListComp]
  have closed : ∀ y ∈ scope.names, y.2 = .free → ∃ c, X.env.cells.lookup y.1 = some c := by
    intro y hy e
    exact (ok.free y hy e).elim (fun k => I.ok.has _ (.inl k)) fun k => I.ok.has _ (.inr k)
  apply comp_any rfl hs (closure_ok closed) ok.kind (fun y hy e => by rw [ok.uniq y hy, e])
  refine thn (hi.run pins s z H _ I h) fun _ sA ha => thn ha ?_
  rintro itv sB ⟨it, fp, tn, J, HB, rfl, IB, T, tB, fB, rd⟩
  refine wpAny_newObj_type (newEnv_comp ?_) (Nat.zero_le _)
  -- D: the list that grows; sC: the state with it
  obtain ⟨D, hD⟩ : ∃ D, D = sB.heap.objs.size := ⟨_, rfl⟩
  have freshD : HB D = none := IB.hok.fresh (Nat.le_of_eq hD.symm)
  obtain ⟨Wm, ⟨m0, w0⟩, turn⟩ := rd D freshD
  obtain ⟨sC, eC⟩ : ∃ sC : Shared, sC = { sB with heap := sB.heap.push { cls := .type "list", data := .seq ([] : List Value).toArray } } := ⟨_, rfl⟩
  have hC : sC.heap = sB.heap.push { cls := .type "list", data := .seq ([] : List Value).toArray } := by rw [eC]
  rw [← eC, ← hD]
  have lay : ∀ b o, sB.heap.get? b = some o → sC.heap.get? b = some o := fun b o e => by rw [hC]; exact Heap.get?_push_of_some _ e
  obtain ⟨HC, eHC⟩ : ∃ HC : Hp, HC = upd HB D (.lst []) := ⟨_, rfl⟩
  have IC : Inv X pins z HC sC := by
    rw [eHC, eC]
    exact IB.laid (t' := sB.toks) (fun b o e => Heap.get?_push_of_some _ e) (Nat.le_of_eq hD.symm) ⟨Nat.zero_le _, [], 0, .nil, by rw [hD]; exact Heap.get?_push_size _ rfl⟩
  have young : ∀ b ∈ fp, b < sB.heap.objs.size := fun b hb => let ⟨o, e, _⟩ := T.obj _ _ tB b hb; Heap.lt_size e
  have fC : ∀ b ∈ fp, FpOk X pins HC b := by
    intro b hb
    obtain ⟨f0, fr⟩ := fB b hb
    refine ⟨?_, fr⟩
    rw [eHC, upd_ne (by rw [hD]; exact Nat.ne_of_lt (young b hb))]
    exact f0
  have fC2 : ∀ b ∈ fp, FpOk X pins HC b ∧ b < sC.heap.objs.size := fun b hb => ⟨fC b hb, by rw [hC, Heap.size_push]; exact Nat.lt_succ_of_lt (young b hb)⟩
  have tC : tn 0 sC.heap := T.keep _ _ _ tB fun b _ o e => lay b o e
  have IS := block_start IC ok hN fC2
  obtain ⟨ce, hce⟩ : ∃ ce : Env, ce = compEnvC scope (cellsFrom (sC.heap.objs.size + 1) scope.names (cloFrom X.env.cells scope.names [])) sC.heap.objs.size X.env := ⟨_, rfl⟩
  rw [← hce] at IS
  rw [← eHC] at w0
  have ceL : ce.locals = sC.heap.objs.size := by rw [hce]; rfl
  obtain ⟨sD, eD⟩ : ∃ sD : Shared, sD = { sC with heap := pushCells (sC.heap.push { cls := .type "dict", data := .dict #[] }) scope.names } := ⟨_, rfl⟩
  rw [← eD] at IS
  have tD : tn 0 sD.heap := T.keep _ _ _ tC fun b _ o e => by rw [eD]; exact pushCells_keeps _ _ _ _ (Heap.get?_push_of_some _ e)
  have n0 : ∀ b ∈ fp, HC b = none := fun b hb => (fC b hb).1
  have C0 : HC sC.heap.objs.size = none := IC.hok.fresh (Nat.le_refl _)
  obtain ⟨_, y1, y2, y3, y4, y5⟩ := IC.fpOk (H' := HC) (Nat.le_refl _) C0
  have nofr : sC.heap.objs.size ∉ frs X.stack := by
    intro w
    rcases List.mem_cons.mp (IC.stkSub _ w) with q | q
    · exact y1 q
    · exact y2 q
  obtain ⟨air, eair⟩ : ∃ air : Value → Shared → Prop, air = Air X W z sC.heap.objs.size := ⟨_, rfl⟩
  have back : ∀ {pb : List (Addr × Obj)} {σ' : L2.St} {HE : Hp} {sE : Shared}, Inv (blkX X sC HC scope ce fp air) pb σ' HE sE → Inv X pins z HE sE := by
    intro pb σ' HE sE JE
    exact IC.call' (ch := fp) JE.os JE.base JE.hok JE.bare fun b hb => by
      obtain ⟨_, x1, x2, x3, x4, x5⟩ := fC b hb
      exact ⟨x3, x1, x4, x5⟩
  have named : ∀ {pb : List (Addr × Obj)} {σ' : L2.St} {HE : Hp} {sE : Shared}, Inv (blkX X sC HC scope ce fp air) pb σ' HE sE → HE sC.heap.objs.size = none ∧ ∃ m, sE.heap.Ns sC.heap.objs.size m := by
    intro pb σ' HE sE JE
    have w := JE.free
    obtain ⟨m, ns, _⟩ := JE.loc
    rw [← ceL]
    exact ⟨w, m, ns⟩
  have pg : PG (blkX X sC HC scope ce fp air) tg g := by rw [hce]; exact hg _ _ _ _ _ _
  have pe : PE (blkX X sC HC scope ce fp air) elt (te z) := by
    rw [hce]
    refine he z _ _ _ _ _ _ fun E hE pb σ' HE sE e s' JE c => ?_
    rw [← hce] at JE
    obtain ⟨n, m, ns⟩ := named JE
    show air e s'
    rw [eair]
    refine ⟨sE, HE, m, (back JE).pins_of fun p hp => absurd (show p ∈ ([] : List (Addr × Obj)) from hp) (by simp), ns, n, ?_⟩
    obtain ⟨a, B, H', cls, d, q1, q2, q3, q4, q5, q6, q7, q8⟩ := c
    exact ⟨a, B, H', cls, d, q1, q2, q3, q4, q5, q6, q7, hE _ _ _ q8⟩
  replace IS : Inv (blkX X sC HC scope ce fp air) [] (wipe z (own.map (·.2))) HC sD := Inv.air IS
  have bad : ∀ e s', air e s' → notedBy (model X.prog X.w) X.A ce (fun e s' => compEnd (model X.prog X.w) X.A X.xe (EP X pins z Q) (.ref D) ce (.error e) s') e s' := by
    intro e s' w
    rw [eair] at w
    exact air_out tk hst hf ceL (by rw [hce]; rfl) ⟨y3, y1, y4, fun p hp => y5 p (by rw [List.append_nil] at hp; exact List.mem_append_left _ hp)⟩ nofr w
  have inBlk : ∀ {σ' : L2.St} {H' : Hp} {s' : Shared}, Inv (blkX X sC HC scope ce fp air) [] σ' H' s' → (∀ b ∈ fp, H' b = none) → ∀ b ∈ fp, FpOk (blkX X sC HC scope ce fp air) [] H' b := by
    intro σ' H' s' J' n b hb
    obtain ⟨x1, x2⟩ := J'.ok.exf b hb
    refine ⟨n b hb, x1, J'.ok.exfs b hb, .inl hb, x2, fun p hp => ?_⟩
    cases (show p ∈ ([] : List (Addr × Obj)) ++ [] from hp)
  have post : ∀ (sE : Shared) (HE : Hp), Inv (blkX X sC HC scope ce fp air) [] (wipe z (own.map (·.2))) HE sE → Q (.ref D) HE → compEnd (model X.prog X.w) X.A X.xe (EP X pins z Q) (.ref D) ce (.ok .next) sE := by
    intro sE HE JE q
    obtain ⟨n, m, ns⟩ := named JE
    refine ⟨m, by rw [ceL]; exact ns, fun h'' sb => ?_⟩
    rw [ceL] at sb
    obtain ⟨x0, x1, x2, x3, x4, x5⟩ := IC.fpOk (H' := HE) (Nat.le_refl _) n
    exact ⟨.ref D, HE, (back JE).turned (t' := sE.toks) (fun b o hb e => (sb.2 b hb).trans e) x0 x1 x3 x4 x5, rfl, q⟩
  have loop : codeAny (model X.prog X.w) X.A (.compLoop (.ListComp elt [⟨tg, iter, [], 0⟩] scope pos) 0 (.ref it) (.ref D) ce) (compEnd (model X.prog X.w) X.A X.xe (EP X pins z Q) (.ref D) ce) sD := by
    refine compLoop_any (fun n s' => ∃ i H', Inv (blkX X sC HC scope ce fp air) [] (wipe z (own.map (·.2))) H' s' ∧ tn i s'.heap ∧ (∀ b ∈ fp, H' b = none) ∧ Wm i n H') ?_ m0 ⟨0, HC, IS, tD, n0, w0⟩
    rintro n sE ⟨i, HE, JE, tE, nE, wE⟩
    rcases turn i n HE wE with ⟨stop, q⟩ | ⟨go, Nx, again, step⟩
    · refine thnF (T.done (blkX X sC HC scope ce fp air) rfl rfl rfl hc i [] sE _ HE (fun _ _ => False) JE (inBlk JE nE) tE stop) ?_
      rintro r sF ⟨rfl, JF⟩
      exact post sF HE JF q
    · refine thnF (T.item (blkX X sC HC scope ce fp air) rfl rfl rfl hc i [] sE _ HE (fun _ _ => False) JE (inBlk JE nE) tE go) ?_
      rintro r sF ⟨u, rfl, hF⟩
      refine thnF hF ?_
      rintro _ sG ⟨x, HG, JG, rx, yl, tG, nG⟩
      have JP := JG.pinned (inBlk JG nG) (T.obj _ _ tG)
      refine wpAny_mono (pg.run _ sG _ HG x u _ JP rx (step x HG yl)) ?_ bad
      rintro _ sH ⟨σH, HH, JH, wiped, rdT⟩
      have close : ∀ {s' : Shared} {H' : Hp}, Inv (blkX X sC HC scope ce fp air) ([] ++ pinsAt fp sG.heap) σH H' s' → Nx H' → ∃ m, m < n ∧ ∃ i H', Inv (blkX X sC HC scope ce fp air) [] (wipe z (own.map (·.2))) H' s' ∧ tn i s'.heap ∧ (∀ b ∈ fp, H' b = none) ∧ Wm i m H' := by
        intro s' H' J' nx
        obtain ⟨m', less, w'⟩ := again H' nx
        have held : ∀ b ∈ fp, ∀ o, sG.heap.get? b = some o → s'.heap.get? b = some o ∧ H' b = none := by
          intro b hb o e
          obtain ⟨k1, k2, _⟩ := J'.pin (b, o) (List.mem_append_right _ (List.mem_append_right _ (mem_pinsAt hb e)))
          exact ⟨k1, k2⟩
        have len : (wipe z (own.map (·.2))).length = σH.length := by rw [← wiped, wipe_length]
        refine ⟨m', less, i + 1, H', (J'.unpinned (pins := [])).weak len ?_, T.keep _ _ _ tG fun b hb o e => (held b hb o e).1, ?_, w'⟩
        · intro j v e
          rw [← wiped] at e
          exact (wipe_some e).1
        · intro b hb
          obtain ⟨o, e, _⟩ := T.obj _ _ tG b hb
          exact (held b hb o e).2
      refine wpAny_mono ((pts_nil (X := blkX X sC HC scope ce fp air)).run _ sH σH HH _ JH rdT) ?_ bad
      rintro b sI ⟨HI, JI, rdE⟩
      cases b with
      | false => exact close JI rdE
      | true =>
        refine wpAny_mono (pe.run _ sI σH HI _ JI rdE) ?_ bad
        rintro v sJ ⟨yv, HJ, JJ, ry, acc, atD, small, nx⟩
        exact app_ok (X := blkX X sC HC scope ce fp air) JJ atD small ry fun sK JK => close JK nx
  have all := codeAny_compStart_list loop (T.self X.A 0 _ _ _ tD loop)
  rw [eD, hce] at all
  exact all
end
end GL
set_option maxHeartbeats 4000000
/-! raise C() of a class of errors that has nothing of its own. -/
namespace GL
open PySem PySem.Spec PyProof.Rows L2
section
variable {X : Cx}
theorem pmk_own0 {C : Addr} {bmB : List Value} {B newId initId : String} {x : Str} {p pos : Pos} (F : ExcBaseFacts B newId initId bmB) (own : PySem.W.excIn X.K C bmB newId = true) (gC : X.mg x = some (.ref C)) (keep : PySem.W.keepIn X.K (.ref C) = true) (r : Raises X (.ref C)) (hg : Gl X x)
    (hdb : (x == ("__debug__" : Str)) = false := by decide) : PMk X (.Call (.Name x p) [] [] pos) (fun _ H Q => Q (.ref C) none H) := by
  intro pins s σ H Q I q
  apply wpAny_Call_Name_kw
  refine ld_glob I hg gC ?_ hdb
  refine PySem.W.callWith_K0 I.kIn keep ?_
  show wpAny _ _ (PySem.call (.ref C) []) _ _ _
  obtain ⟨bm, N, nm, qn, bs, hdct, sn, sub, ab, col, dd, k0, k1, k2, k3, k5, mN, hC, hN, hni, T⟩ := exc_obj I.kIn own
  refine wpAny_call_exc_subT F T hC hN hni (fun h' e hm => ?_) (by show 0 ≤ sizeLine; exact Nat.zero_le _)
  exact mk_of I hm r q (I.hok.gone hm.new)
end
end GL
set_option maxHeartbeats 4000000
namespace K18
open PySem PySem.Spec PyProof.Rows L2 GL
abbrev sTold : Stmt := tp 22
abbrev aIN (K : PySem.W.Frag) : Addr := He.ga K "InvalidNumber"
abbrev aDZ (K : PySem.W.Frag) : Addr := He.ga K "DividedByZero"
abbrev aFE (K : PySem.W.Frag) : Addr := He.ga K "FadeError"
/-! ### repr of a Ratio -/
def reprQ (q : Rat) : Str := ((((Str.empty ++ "Ratio(") ++ toString q.num) ++ ", ") ++ toString (q.den : Int)) ++ ")"
section
variable {P : Program} {w : World} {K : PySem.W.Frag} {mg : Str → Option Value} {base : Heap}
def spRepr (K : PySem.W.Frag) : Sp := fun vs H Q _ => ∃ (a : Addr) (q : Rat), vs = [.ref a] ∧ RatAt K H a q ∧ Sz 900 q ∧ Q (.str (reprQ q)) H
theorem scRepr : FnScope ["self"] ["self"] (defScope (sRatio 15)) := ⟨rfl, rfl, rfl, by decide +kernel, rfl, by decide +kernel, by decide +kernel⟩
theorem ok_repr {f : Addr} {fd : FuncData} (F : FunD K "__repr__" "Ratio.__repr__" (defArgs (sRatio 15)) (defBody (sRatio 15)) (defScope (sRatio 15)) [] [] f fd) (T : RF K mg) : FnC P w K mg base 1 f fd ["self"] (spRepr K) := by
  obtain ⟨oc, od, dV, kV, doc, pm, an, cdv, ct, osl, rfl, lk, hcd, _, _⟩ := F.ex
  refine fnC_of lk hcd scRepr (fun vs H Q E h => ?_) (fun A out s H vs Q hr h => ?_)
  · obtain ⟨a, q, rfl, _⟩ := h
    rfl
  · obtain ⟨a, q, rfl, ⟨d, e⟩, sz, k⟩ := h
    refine ⟨_, pss_one (ps_ret (pe_joined (.cons pe_str (.cons (pe_fmt (pe_fld (pv 0) rfl)) (.cons pe_str (.cons (pe_fmt (pe_fld (pv 0) rfl)) (.cons pe_str .nil))))))), ?_⟩
    have l1 : q.num.natAbs.log2 < 1920 := Nat.lt_trans (log2_lt sz.1 (by decide)) (by decide)
    have l2 : (q.den : Int).natAbs.log2 < 1920 := Nat.lt_trans (log2_lt sz.den (by decide)) (by decide)
    have n1 : (Str.ofString (toString q.num)).length ≤ 1921 := by
      rw [PySem.ofString_length]
      exact int_text_length_le (by decide) l1
    have n2 : (Str.ofString (toString (q.den : Int))).length ≤ 1921 := by
      rw [PySem.ofString_length]
      exact int_text_length_le (by decide) l2
    have m0 : (Str.ofString "Ratio(").length = 6 := by decide +kernel
    have m1 : (Str.ofString ", ").length = 2 := by decide +kernel
    have m2 : (Str.ofString ")").length = 1 := by decide +kernel
    have e0 : Str.empty.length = 0 := rfl
    have line := sizeLine_eq
    refine ⟨_, rfl, by rw [strLen_append]; omega, ?_⟩
    refine ⟨_, rfl, a, _, d, _, _, rfl, e, T.cl, T.nT, rfl, .inr ⟨_, rfl, l1, ?_⟩⟩
    refine ⟨_, rfl, by rw [strLen_append, strLen_append]; omega, ?_⟩
    refine ⟨_, rfl, by rw [strLen_append, strLen_append, strLen_append]; omega, ?_⟩
    refine ⟨_, rfl, a, _, d, _, _, rfl, e, T.cl, T.nB, rfl, .inr ⟨_, rfl, l2, ?_⟩⟩
    refine ⟨_, rfl, by rw [strLen_append, strLen_append, strLen_append, strLen_append]; omega, ?_⟩
    refine ⟨_, rfl, by rw [strLen_append, strLen_append, strLen_append, strLen_append, strLen_append]; omega, ?_⟩
    exact k
end
/-! ### repr of data, of numbers -/
def NumR (K : PySem.W.Frag) (H : Hp) (v : V) (z : Str) : Prop := (∃ i : Int, v = .int i ∧ i.natAbs.log2 < 1920 ∧ z = Str.ofString (toString i)) ∨ ∃ a q, v = .ref a ∧ RatAt K H a q ∧ Sz 900 q ∧ z = reprQ q
theorem NumR.same {K : PySem.W.Frag} {H H' : Hp} {v : V} {z : Str} (h : NumR K H v z) (k : Same H H') : NumR K H' v z := by
  rcases h with h | ⟨a, q, e, h, r⟩
  · exact .inl h
  · exact .inr ⟨a, q, e, h.same k, r⟩
def RepAt (K : PySem.W.Frag) (H : Hp) (v : V) (z : Str) : Prop := (∃ pd, Dq K H v pd ∧ pd.showable = true ∧ pd.depth ≤ 40 ∧ pd.shown.length ≤ sizeLine ∧ z = pd.shown) ∨ NumR K H v z
theorem RepAt.same {K : PySem.W.Frag} {H H' : Hp} {v : V} {z : Str} (h : RepAt K H v z) (k : Same H H') : RepAt K H' v z := by
  rcases h with ⟨pd, h, r⟩ | h
  · exact .inl ⟨pd, Dq.same k h, r⟩
  · exact .inr (h.same k)
theorem reprQ_len {q : Rat} (sz : Sz 900 q) : (reprQ q).length ≤ 3900 := by
  have l1 : q.num.natAbs.log2 < 1920 := Nat.lt_trans (log2_lt sz.1 (by decide)) (by decide)
  have l2 : (q.den : Int).natAbs.log2 < 1920 := Nat.lt_trans (log2_lt sz.den (by decide)) (by decide)
  have n1 : (Str.ofString (toString q.num)).length ≤ 1921 := by
    rw [PySem.ofString_length]
    exact int_text_length_le (by decide) l1
  have n2 : (Str.ofString (toString (q.den : Int))).length ≤ 1921 := by
    rw [PySem.ofString_length]
    exact int_text_length_le (by decide) l2
  have m0 : (Str.ofString "Ratio(").length = 6 := by decide +kernel
  have m1 : (Str.ofString ", ").length = 2 := by decide +kernel
  have m2 : (Str.ofString ")").length = 1 := by decide +kernel
  have e0 : Str.empty.length = 0 := rfl
  unfold reprQ
  rw [strLen_append, strLen_append, strLen_append, strLen_append, strLen_append]
  omega
theorem NumR.len {K : PySem.W.Frag} {H : Hp} {v : V} {z : Str} (h : NumR K H v z) : z.length ≤ 3900 := by
  rcases h with ⟨i, _, l, rfl⟩ | ⟨a, q, _, _, sz, rfl⟩
  · rw [PySem.ofString_length]
    exact Nat.le_trans (int_text_length_le (by decide) l) (by decide)
  · exact reprQ_len sz
def rRepZ (K : PySem.W.Frag) : List V → Hp → VK → Prop := fun xs H Q => ∃ (v : V) (z : Str), xs = [v] ∧ RepAt K H v z ∧ Q (.str z) H
/-- what repr of a Ratio is done by -/
def RepF (P : Program) (w : World) (K : PySem.W.Frag) (mg : Str → Option Value) (base : Heap) : Prop := ∃ f fd, Meth K (aR K) "__repr__" f ∧ FnC P w K mg base 1 f fd ["self"] (spRepr K) ∧ Binds K fd ["self"] []
theorem call_repZ {Y : Cx} (S : SysK Y.K) (R : RepF Y.prog Y.w Y.K Y.mg Y.base) (gd : Y.A.guards = some []) (hr : L2H.RoomH 4 Y.A) : CallR Y (.builtin "repr") (rRepZ Y.K) := by
  intro pins s σ H xs us Q I r h
  obtain ⟨v, x, rfl, h, q⟩ := h
  rcases h with ⟨pd, hv, sh, dp, sz, rfl⟩ | (⟨i, rfl, l, rfl⟩ | ⟨a, y, rfl, ha, sz, rfl⟩)
  · exact call_reprV S gd (by have := hr.un; omega) pins s σ H [v] us Q I r ⟨v, pd, rfl, hv, sh, dp, sz, q⟩
  · obtain ⟨u, rfl, r1⟩ := vals1 r
    obtain ⟨t, rfl⟩ := (show ∃ t, u = Value.int i t from r1)
    exact PySem.P.repr_of_int l ⟨.str _, H, I.tok _, ⟨_, rfl⟩, q⟩
  · obtain ⟨f, fd, B, F, hb⟩ := R
    obtain ⟨d, e⟩ := id ha
    exact call_reprQ B F hb (hr.mono (by decide)) pins s σ H [.ref a] us Q I r ⟨a, d, _, rfl, e, a, y, rfl, ha, sz, _, rfl, q⟩
/-! ### told -/
/-- the errors that this law hears of -/
structure EF (K : PySem.W.Frag) (mg : Str → Option Value) : Prop where
  xN : XC K (aIN K) .ve
  xD : XC K (aDZ K) .re
  eD : PySem.W.excIn K (aDZ K) [.type "RuntimeError", .type "Exception", .type "BaseException", .type "object"] "RuntimeError.__new__" = true
  gN : mg "InvalidNumber" = some (.ref (aIN K))
  gD : mg "DividedByZero" = some (.ref (aDZ K))
  gF : mg "FadeError" = some (.ref (aFE K))
  nN : PySem.W.findIn K (.ref (aIN K)) "value" = some none
  nn : PySem.W.exmOne K (.ref (aIN K)) (.ref (aIN K)) = some true
  dn : PySem.W.exmOne K (.ref (aDZ K)) (.ref (aIN K)) = some false
  dd : PySem.W.exmOne K (.ref (aDZ K)) (.ref (aDZ K)) = some true
  isF : PySem.W.kitOne K (.ref (aIN K)) (.ref (aFE K)) = some true
  isR : PySem.W.kitOne K (.ref (aDZ K)) (.type "RuntimeError") = some true
  isi : mg "isinstance" = none
  rte : mg "RuntimeError" = none
  sp : PySem.W.specialIn K (.builtin "object.__class__") "__get__" = some (some (.builtin "getset_descriptor.__get__"))
  tk : PySem.W.takesIn K (.builtin "object.__class__") = some true
theorem none_of {H H1 : Hp} {p : Addr} (k : Same H H1) (n : H1 p = none) : H p = none := by
  cases e : H p with
  | none => rfl
  | some o =>
    have z := k _ _ e
    rw [n] at z
    cases z
/-- what goes out: an error of the class at C whose value is shown so; all stands -/
def outZ (K : PySem.W.Frag) (C : Addr) (z : Str) (H : Hp) (E : XK) : Prop := ∀ d v H2, Same H H2 → H d = none → H2 d = some (.xd [("value", v)]) → RepAt K H2 v z → E (.ref C) (some d) H2
theorem outZ.same {K : PySem.W.Frag} {C : Addr} {z : Str} {H H' : Hp} {E : XK} (h : outZ K C z H E) (k : Same H H') : outZ K C z H' E := fun d v H2 k2 n e r => h d v H2 (k.trans k2) (none_of k n) e r
/-- what is heard of a call that ends so -/
def TT10 (K : PySem.W.Frag) : (XK → Hp → VK → Prop) → Hp → VK → Prop := fun tl H Q =>
  (∃ z : Str, (∀ E H1 R, Same H H1 → outZ K (aIN K) z H1 E → tl E H1 R) ∧ ∀ r H3, Same H H3 → H r = none → H3 r = some (.lst [.str "number", .str z, .bl true]) → Q (.ref r) H3) ∨
  ((∀ E H1 R, Same H H1 → (∀ H2, Same H1 H2 → E (.ref (aDZ K)) none H2) → tl E H1 R) ∧ ∀ r H3, Same H H3 → H r = none → H3 r = some (.lst [.str "zero", .bl true]) → Q (.ref r) H3)
section
variable {mg : Str → Option Value}
theorem scTold : FnScope ["_law_call", "_law_heard", "e"] ["_law_call"] (defScope sTold) := ⟨rfl, rfl, rfl, by decide +kernel, rfl, by decide +kernel, by decide +kernel⟩
theorem told10 {X : Cx} {g : Addr} {cdg : Value} {k : Nat} (hm : X.mg = mg) (Z : EF X.K mg) (S : SysK X.K) (RR : RepF X.prog X.w X.K X.mg X.base) (rp : mg "repr" = none) (gd : X.A.guards = some []) :
    GivesP X ["_law_call", "_law_heard", "e"] "_law_told" (defScope sTold) g cdg (defBody sTold) "_law_call" (k + 4) (TT10 X.K) := by
  subst hm
  intro f Ok s H Q tl okSame room act hc h
  have r2 : Room 4 (X.A.deeper (envOfC "_law_told" (defScope sTold) s.heap.objs.size g cdg)) := room.mono (by omega)
  have RP : ∀ (Y : Cx), Y.prog = X.prog → Y.w = X.w → Y.K = X.K → Y.mg = X.mg → Y.base = X.base → Y.A.guards = X.A.guards → Y.A.units = (X.A.deeper (envOfC "_law_told" (defScope sTold) s.heap.objs.size g cdg)).units → Y.A.depth = (X.A.deeper (envOfC "_law_told" (defScope sTold) s.heap.objs.size g cdg)).depth → CallR Y (.builtin "repr") (rRepZ X.K) := fun Y e1 e2 e3 e4 e5 e6 e7 e8 => by
    rw [← e3]
    exact call_repZ (Y := Y) (by rw [e3]; exact S) (by rw [e1, e2, e3, e4, e5]; exact RR) (by rw [e6]; exact gd) ⟨by rw [e8]; exact r2.dp, by rw [e7]; exact r2.un⟩
  refine ⟨_, pss_cons (ps_set (i := 1) scTold.nd rfl (Or.inl rfl) (pe_lst (pa_cons pe_str pa_nil)))
    (pss_cons (ps_try_named rfl rfl scTold.nd LamX.takes0 (fun W pn xe tk => pss_one (ps_set (i := 1) scTold.nd rfl (Or.inl rfl) (pe_lst (pa_cons pe_str (pa_cons (pe_callB (RP _ rfl rfl rfl rfl rfl rfl rfl rfl) (by rfl) rp (by decide +kernel) (pa_cons (act W pn xe _ _ tk) pa_nil)) pa_nil)))))
      (Clauses.cons (c := .ref (aIN X.K)) (i := 2) rfl rfl ⟨rfl, by decide, .inl Z.gN⟩ (fun a oe cls d pn hz hf => pss_one (ps_set (i := 1) scTold.nd rfl (Or.inl rfl) (pe_lst (pa_cons pe_str (pa_cons (pe_callB (RP _ rfl rfl rfl rfl rfl rfl rfl rfl) (by rfl) rp (by decide +kernel) (pa_cons (pe_caught Z.xN hz hf (pv 2)) pa_nil))
        (pa_cons (pe_callB (call_caughtIs Z.xN hz hf Z.sp Z.tk) (by rfl) Z.isi (by decide +kernel) (pa_cons (pv 2) (pa_cons (pe_glob (v := .ref (aFE X.K)) rfl Z.gF rfl) pa_nil))) pa_nil))))))
      (Clauses.cons (c := .ref (aDZ X.K)) (i := 2) rfl rfl ⟨rfl, by decide, .inl Z.gD⟩ (fun a oe cls d pn hz hf => pss_one (ps_set (i := 1) scTold.nd rfl (Or.inl rfl) (pe_lst (pa_cons pe_str (pa_cons (pe_callB (call_caughtIs Z.xD hz hf Z.sp Z.tk) (by rfl) Z.isi (by decide +kernel) (pa_cons (pv 2) (pa_cons (pe_bltn (v := .ty "RuntimeError") (by rfl) Z.rte (by decide +kernel) rfl) pa_nil))) pa_nil)))))
      .nil)))
    (pss_one (ps_ret (pv 1)))), ?_⟩
  refine ⟨(by show 1 ≤ sizeLine; decide), fun l nl => ?_⟩
  have u1 := same_new (o := .lst [V.str "other"]) nl
  have hc1 := okSame _ _ u1 hc
  generalize upd H l (.lst [V.str "other"]) = H1 at *
  refine ⟨rfl, hc1, ?_⟩
  rcases h with ⟨z, run, fin⟩ | ⟨run, fin⟩
  · refine run _ _ _ u1 fun d v H2 k2 n2 e2 rp2 => ?_
    refine ⟨true, Z.nn, fun _ a na => ?_, (fun z => nomatch z)⟩
    refine ⟨_, rfl, rfl, rfl, _, _, Z.nN, .inr ⟨d, rfl, e2⟩, rfl, v, z, rfl, rp2, _, rfl, .ref (aFE X.K), .ref (aFE X.K), true, _, rfl, rfl, .inr ⟨d, rfl, e2⟩, .own _, Z.isF, (by show 3 ≤ sizeLine; decide), fun p np => ?_⟩
    have u3 := same_new (o := .lst [V.str "number", .str z, .bl true]) np
    exact ⟨_, rfl, fin p _ ((u1.trans k2).trans u3) (none_of (u1.trans k2) np) upd_same⟩
  · refine run _ _ _ u1 fun H2 k2 => ?_
    refine ⟨false, Z.dn, (fun z => nomatch z), fun _ => ⟨true, Z.dd, fun _ a na => ?_, (fun z => nomatch z)⟩⟩
    refine ⟨_, rfl, .ty "RuntimeError", .type "RuntimeError", true, _, rfl, rfl, .inl ⟨rfl, rfl⟩, .ty _, Z.isR, (by show 2 ≤ sizeLine; decide), fun p np => ?_⟩
    have u3 := same_new (o := .lst [V.str "zero", .bl true]) np
    exact ⟨_, rfl, fin p _ ((u1.trans k2).trans u3) (none_of (u1.trans k2) np) upd_same⟩
end
end K18
set_option maxHeartbeats 4000000
namespace K18
open PySem PySem.Spec PyProof.Rows L2 GL
abbrev sINi : Stmt := inClass (tp 3) 0
/-- how the errors are made -/
def MkE (P : Program) (w : World) (K : PySem.W.Frag) (mg : Str → Option Value) (base : Heap) (C : Addr) (fl : Str) : Prop := ∃ fI fd, PySem.W.findIn K (.ref C) "__init__" = some (some (.ref fI)) ∧ PySem.W.typeIn K (.ref fI) = some (.type "function") ∧ FnOk P w K mg base CX0 1 fI fd ["self", fl] (spInit C [fl]) ∧ Binds K fd ["self", fl] []
structure EM (P : Program) (w : World) (K : PySem.W.Frag) (mg : Str → Option Value) (base : Heap) : Prop where
  F : EF K mg
  mN : MkE P w K mg base (aIN K) "value"
/-- not of the class at C -/
def NotA (K : PySem.W.Frag) (C : Addr) (H : Hp) (x : V) : Prop := ∃ t, TyX K H x t ∧ PySem.W.kitOne K t (.ref C) = some false
/-- no whole number -/
def NotI (K : PySem.W.Frag) (H : Hp) (x : V) : Prop := ∃ t b1 b2, TyX K H x t ∧ PySem.W.kitOne K t (.type "int") = some b1 ∧ (b1 = true → PySem.W.kitOne K t (.type "bool") = some b2) ∧ (b1 && !b2) = false
/-- no number -/
def NotN (K : PySem.W.Frag) (H : Hp) (x : V) : Prop := NotI K H x ∧ NotA K (aR K) H x
/-- what goes out: an error of the class at C with one field; all but s stands -/
def outK (C : Addr) (f : Str) (v : V) (s : Addr) (H : Hp) (E : XK) : Prop := ∀ d H2, Kp s H H2 → H d = none → H2 d = some (.xd [(f, v)]) → E (.ref C) (some d) H2
def outS (C : Addr) (f : Str) (v : V) (H : Hp) (E : XK) : Prop := ∀ d H2, Same H H2 → H d = none → H2 d = some (.xd [(f, v)]) → E (.ref C) (some d) H2
theorem outK.out {C : Addr} {f : Str} {v : V} {s : Addr} {H : Hp} {E : XK} (h : outK C f v s H E) : outS C f v H E := fun d H2 k n e => h d H2 (fun c o _ z => k c o z) n e
theorem outS.same {C : Addr} {f : Str} {v : V} {H H' : Hp} {E : XK} (h : outS C f v H E) (k : Same H H') : outS C f v H' E := fun d H2 k2 n e => h d H2 (k.trans k2) (none_of k n) e
/-- out of the making of a new object -/
theorem outS.new {C D : Addr} {f : Str} {v : V} {H : Hp} {E : XK} {x dx : Addr} {o1 o2 : HO} (h : outS C f v H E) (hx : H x = none) (hd : H dx = none) : outK C f v x (upd (upd H dx o1) x o2) E := fun d H2 k n e => by
  have up : Same H (upd (upd H dx o1) x o2) := fun b o z => by rw [upd_ne (ne_of_none z hx), upd_ne (ne_of_none z hd)]; exact z
  exact h d H2 (fun b o z => k b o (ne_of_none z hx) (up b o z)) (none_of up n) e
section
variable {P : Program} {w : World} {K : PySem.W.Frag} {mg : Str → Option Value} {base : Heap}
theorem passE {X : Cx} {E : XK} (tk : Takes X fun cls d _ H => E cls d H) : Passes (L2.CX X.prog X.w) X E := passes_call tk fun _ _ _ _ h => h
theorem NotI.same {H H' : Hp} {x : V} (h : NotI K H x) (k : ∀ t, TyX K H x t → TyX K H' x t) : NotI K H' x := by
  obtain ⟨t, c1, c2, ty, r⟩ := h
  exact ⟨t, c1, c2, k t ty, r⟩
theorem TyX.same {H H' : Hp} {x : V} {t : Value} (h : TyX K H x t) (k : Same H H') : TyX K H' x t := by
  cases h with
  | base h =>
    refine .base ?_
    cases h with
    | non => exact .non
    | bl x => exact .bl x
    | int i => exact .int i
    | str x => exact .str x
    | flt x => exact .flt x
    | lst e => exact .lst (k _ _ e)
    | frz e => exact .frz (k _ _ e)
    | tup e => exact .tup (k _ _ e)
    | dK e => exact .dK (k _ _ e)
    | dT e => exact .dT (k _ _ e)
    | ins e cl ha hn htk hm => exact .ins (k _ _ e) cl ha hn htk hm
  | byt b => exact .byt b
  | set e => exact .set (k _ _ e)
  | kList e c => exact .kList e c
  | kTuple e c => exact .kTuple e c
  | kDict e c => exact .kDict e c
  | fTuple e => exact .fTuple (k _ _ e)
  | fDict e => exact .fDict (k _ _ e)
theorem NotN.same {H H' : Hp} {x : V} (h : NotN K H x) (k : Same H H') : NotN K H' x := by
  obtain ⟨a, t, ty, no⟩ := h
  exact ⟨a.same fun t ty => TyX.same ty k, t, TyX.same ty k, no⟩
theorem NotA.same {H H' : Hp} {C : Addr} {x : V} (h : NotA K C H x) (k : Same H H') : NotA K C H' x := by
  obtain ⟨t, ty, no⟩ := h
  exact ⟨t, TyX.same ty k, no⟩
/-! ### Ratio of what is no number -/
def spRInitX (K : PySem.W.Frag) : Sp := fun vs H _ E => ∃ (s : Addr) (x y : V), vs = [.ref s, x, y] ∧ NotI K H x ∧ outS (aIN K) "value" x H E
theorem ok_rInitX {f : Addr} {fd : FuncData} {dv : List V} (F : FunD K "__init__" "Ratio.__init__" (defArgs (sRatio 0)) (defBody (sRatio 0)) (defScope (sRatio 0)) dv [] f fd) (G : RG P w K mg base) (Z : EM P w K mg base) : FnOk P w K mg base (L2.CX P w) 3 f fd ["self", "top", "bottom"] (spRInitX K) := by
  obtain ⟨fI, fdI, GI, gI, bI, kI⟩ := G.isInt
  obtain ⟨fN, fdN, i1, i2, GN, bN⟩ := Z.mN
  refine F.ok scRInit (fun vs H Q E h => ?_) (fun cdv A outer s H vs Q E hr h => ?_)
  · obtain ⟨s, x, y, rfl, _⟩ := h
    rfl
  · obtain ⟨s', x, y, rfl, ⟨t, c1, c2, ty, k1, k2, e⟩, out⟩ := h
    have r1 : Room 1 _ := hr.mono (by decide)
    refine ⟨_, pss_cons (ps_if (pt_not (pt_val (pe_call GI r1 rfl gI kI bI .nil pass0 (pa_cons (pv 1) pa_nil)))) (pss_one (ps_raise rfl (takes_of rfl rfl rfl rfl) (pmk_x Z.F.xN i1 i2 GN hr bN rfl Z.F.gN (pa_cons (pv 1) pa_nil)))) pss_nil)
      (pss_cons ps_never (pss_cons ps_never (pss_cons ps_never (pss_one ps_never)))), ?_⟩
    refine ⟨_, rfl, x, t, c1, c2, rfl, ty, k1, k2, (c1 && !c2), rfl, ?_⟩
    rw [e]
    exact iteT ⟨_, rfl, rfl, by show 1 ≤ 1000; decide, fun d H2 k2 n2 e2 => out d H2 k2 n2 e2⟩
def spOfX (K : PySem.W.Frag) : Sp := fun vs H _ E => ∃ x : V, vs = [.ref (aR K), x] ∧ NotN K H x ∧ outS (aIN K) "value" x H E
theorem ok_ofX {f fI : Addr} {fd fdI : FuncData} (F : FunD K "of" "Ratio.of" (defArgs (sRatio 1)) (defBody (sRatio 1)) (defScope (sRatio 1)) [] [] f fd) (G : RG P w K mg base) {d : Value} (MR : Mk K (aR K) fI) (GR : FnOk P w K mg base (L2.CX P w) 3 fI fdI ["self", "top", "bottom"] (spRInitX K)) (vd : Vals [V.int 1] [d]) (bR : Binds K fdI ["self", "top", "bottom"] [d]) :
    FnOk P w K mg base (L2.CX P w) 5 f fd ["cls", "number"] (spOfX K) := by
  have T := G.T
  refine F.ok scOf (fun vs H Q E h => ?_) (fun cdv A outer s H vs Q E hr h => ?_)
  · obtain ⟨x, rfl, _⟩ := h
    rfl
  · obtain ⟨x, rfl, ⟨ni, t, ty, no⟩, out⟩ := h
    refine ⟨_, pss_cons (ps_if (pt_val (pe_callB call_isi (by rfl) T.isi (by decide +kernel) (pa_cons (pv 1) (pa_cons (pe_glob (v := .ref (aR K)) rfl T.gR rfl) pa_nil)))) (pss_one (ps_ret (pv 1))) pss_nil)
      (pss_one (ps_ret (pe_make MR GR hr rfl T.gR bR vd (passE (takes_of rfl rfl rfl rfl)) (pa_cons (pv 1) pa_nil)))), ?_⟩
    refine ⟨_, rfl, x, .ref (aR K), t, _, false, rfl, .own _, ty, no, false, rfl, iteF ⟨_, rfl, fun a dx ha hd ne => ?_⟩⟩
    have up : Same H (upd (upd H dx (.own a)) a (.ins (aR K) dx [])) := fun b o e => by rw [upd_ne (ne_of_none e ha), upd_ne (ne_of_none e hd)]; exact e
    exact ⟨a, x, .int 1, rfl, ni.same fun t ty => TyX.same ty up, out.same up⟩
def OfX (P : Program) (w : World) (K : PySem.W.Frag) (mg : Str → Option Value) (base : Heap) : Prop := ∃ mc p f, ClX.CRead K (aR K) mc ∧ ClX.CMet K (aR K) mc "of" p f ∧ FnR P w K mg base (L2.CX P w) 5 f (spOfX K)
/-! ### is_number of what is none -/
def spNumX (K : PySem.W.Frag) : Sp := fun vs H Q _ => ∃ x : V, vs = [x] ∧ NotN K H x ∧ Q (.bl false) H
theorem ok_numX {f : Addr} {fd : FuncData} (F : Fun K "is_number" "is_number" sIsNum f fd) (G : RG P w K mg base) : FnOk P w K mg base CX0 2 f fd ["value"] (spNumX K) := by
  obtain ⟨fI, fdI, GI, gI, bI, kI⟩ := G.isInt
  have T := G.T
  refine F.ok scIsNum (fun vs H Q E h => ?_) (fun cdv A outer s H vs Q E hr h => ?_)
  · obtain ⟨x, rfl, _⟩ := h
    rfl
  · obtain ⟨x, rfl, ⟨⟨t, c1, c2, ty, k1, k2, e⟩, ⟨t2, ty2, no⟩⟩, k⟩ := h
    refine ⟨_, pss_one (ps_ret (pe_or (pe_callB call_isi (by rfl) T.isi (by decide +kernel) (pa_cons (pv 0) (pa_cons (pe_glob (v := .ref (aR K)) rfl T.gR rfl) pa_nil)))
      (pe_one (pe_call GI hr rfl gI kI bI .nil pass0 (pa_cons (pv 0) pa_nil))))), ?_⟩
    refine ⟨_, rfl, x, .ref (aR K), t2, _, false, rfl, .own _, ty2, no, false, rfl, iteF ⟨_, rfl, x, t, c1, c2, rfl, ty, k1, k2, ?_⟩⟩
    rw [e]
    exact k
/-! ### a bottom that is none -/
def spRInitB (K : PySem.W.Frag) : Sp := fun vs H _ E => ∃ (s : Addr) (t : Int) (y : V), vs = [.ref s, .int t, y] ∧ (NotI K H y ∨ y = .int 0) ∧ outS (aIN K) "value" y H E
theorem ok_rInitB {f : Addr} {fd : FuncData} {dv : List V} (F : FunD K "__init__" "Ratio.__init__" (defArgs (sRatio 0)) (defBody (sRatio 0)) (defScope (sRatio 0)) dv [] f fd) (G : RG P w K mg base) (Z : EM P w K mg base) : FnOk P w K mg base (L2.CX P w) 3 f fd ["self", "top", "bottom"] (spRInitB K) := by
  obtain ⟨fI, fdI, GI, gI, bI, kI⟩ := G.isInt
  obtain ⟨fN, fdN, i1, i2, GN, bN⟩ := Z.mN
  refine F.ok scRInit (fun vs H Q E h => ?_) (fun cdv A outer s H vs Q E hr h => ?_)
  · obtain ⟨s, t, y, rfl, _⟩ := h
    rfl
  · obtain ⟨s', t0, y, rfl, h, out⟩ := h
    have r1 : Room 1 _ := hr.mono (by decide)
    refine ⟨_, pss_cons (ps_if (pt_not (pt_val (pe_call GI r1 rfl gI kI bI .nil pass0 (pa_cons (pv 1) pa_nil)))) (pss_one ps_never) pss_nil)
      (pss_cons (ps_if (PW.pt (pw_or (pt_not (pt_val (pe_call GI r1 rfl gI kI bI .nil pass0 (pa_cons (pv 2) pa_nil)))) (pw_or1 (pt_cmpR op_eq (pv 2) pe_int (nomark _))))) (pss_one (ps_raise rfl (takes_of rfl rfl rfl rfl) (pmk_x Z.F.xN i1 i2 GN hr bN rfl Z.F.gN (pa_cons (pv 2) pa_nil)))) pss_nil)
      (pss_cons ps_never (pss_cons ps_never (pss_one ps_never)))), ?_⟩
    refine ⟨_, rfl, .int t0, .type "int", true, false, rfl, .base (.int t0), kit_ty (by decide +kernel), fun _ => kit_ty (by decide +kernel), true, rfl, ?_⟩
    refine iteF ?_
    rcases h with ⟨t, c1, c2, ty, k1, k2, e⟩ | rfl
    · refine ⟨_, rfl, y, t, c1, c2, rfl, ty, k1, k2, (c1 && !c2), rfl, ?_⟩
      rw [e]
      exact iteT (iteT ⟨_, rfl, rfl, by show 1 ≤ 1000; decide, fun d H2 k2 n2 e2 => out d H2 k2 n2 e2⟩)
    · refine ⟨_, rfl, .int 0, .type "int", true, false, rfl, .base (.int 0), kit_ty (by decide +kernel), fun _ => kit_ty (by decide +kernel), true, rfl, ?_⟩
      exact iteF ⟨_, rfl, rfl, _, rfl, iteT ⟨_, rfl, rfl, by show 1 ≤ 1000; decide, fun d H2 k2 n2 e2 => out d H2 k2 n2 e2⟩⟩
/-! ### Ratio's operations with what is no number -/
def spBinX (K : PySem.W.Frag) : Sp := fun vs H _ E => ∃ (a : Addr) (x : V), vs = [.ref a, x] ∧ NotN K H x ∧ outS (aIN K) "value" x H E
theorem ok_rBelowX {f : Addr} {fd : FuncData} (F : FunD K "is_below" "Ratio.is_below" (defArgs (sRatio 7)) (defBody (sRatio 7)) (defScope (sRatio 7)) [] [] f fd) (T : RF K mg) (ox : OfX P w K mg base) : FnOk P w K mg base (L2.CX P w) 6 f fd ["self", "other"] (spBinX K) := by
  obtain ⟨mc, pp, fo, cr, cm, GO⟩ := ox
  refine F.ok scBelow (fun vs H Q E h => ?_) (fun cdv A outer s H vs Q E hr h => ?_)
  · obtain ⟨a, x, rfl, _⟩ := h
    rfl
  · obtain ⟨a, x, rfl, no, out⟩ := h
    refine ⟨_, pss_cons (ps_set (i := 2) scBelow.nd rfl (Or.inl rfl) (ClX.pe_cmeth (pe_glob (v := .ref (aR K)) rfl T.gR rfl) cr cm GO hr (passE (takes_of rfl rfl rfl rfl)) (pa_cons (pv 1) pa_nil))) (pss_one ps_never), ?_⟩
    exact ⟨rfl, _, rfl, x, rfl, no, out⟩
theorem ok_rOverX {f : Addr} {fd : FuncData} (F : FunD K "over" "Ratio.over" (defArgs (sRatio 8)) (defBody (sRatio 8)) (defScope (sRatio 8)) [] [] f fd) (T : RF K mg) (ox : OfX P w K mg base) : FnOk P w K mg base (L2.CX P w) 6 f fd ["self", "other"] (spBinX K) := by
  obtain ⟨mc, pp, fo, cr, cm, GO⟩ := ox
  refine F.ok scOver (fun vs H Q E h => ?_) (fun cdv A outer s H vs Q E hr h => ?_)
  · obtain ⟨a, x, rfl, _⟩ := h
    rfl
  · obtain ⟨a, x, rfl, no, out⟩ := h
    refine ⟨_, pss_cons (ps_set (i := 2) scOver.nd rfl (Or.inl rfl) (ClX.pe_cmeth (pe_glob (v := .ref (aR K)) rfl T.gR rfl) cr cm GO hr (passE (takes_of rfl rfl rfl rfl)) (pa_cons (pv 1) pa_nil))) (pss_cons ps_never (pss_one ps_never)), ?_⟩
    exact ⟨rfl, _, rfl, x, rfl, no, out⟩
theorem ok_rAddX {f : Addr} {fd : FuncData} (F : FunD K "__add__" "Ratio.__add__" (defArgs (sRatio 9)) (defBody (sRatio 9)) (defScope (sRatio 9)) [] [] f fd) (T : RF K mg) (ox : OfX P w K mg base) : FnOk P w K mg base (L2.CX P w) 6 f fd ["self", "other"] (spBinX K) := by
  obtain ⟨mc, pp, fo, cr, cm, GO⟩ := ox
  refine F.ok scAdd (fun vs H Q E h => ?_) (fun cdv A outer s H vs Q E hr h => ?_)
  · obtain ⟨a, x, rfl, _⟩ := h
    rfl
  · obtain ⟨a, x, rfl, no, out⟩ := h
    refine ⟨_, pss_cons (ps_set (i := 2) scAdd.nd rfl (Or.inl rfl) (ClX.pe_cmeth (pe_glob (v := .ref (aR K)) rfl T.gR rfl) cr cm GO hr (passE (takes_of rfl rfl rfl rfl)) (pa_cons (pv 1) pa_nil))) (pss_one ps_never), ?_⟩
    exact ⟨rfl, _, rfl, x, rfl, no, out⟩
theorem ok_rSubX {f : Addr} {fd : FuncData} (F : FunD K "__sub__" "Ratio.__sub__" (defArgs (sRatio 10)) (defBody (sRatio 10)) (defScope (sRatio 10)) [] [] f fd) (T : RF K mg) (ox : OfX P w K mg base) : FnOk P w K mg base (L2.CX P w) 6 f fd ["self", "other"] (spBinX K) := by
  obtain ⟨mc, pp, fo, cr, cm, GO⟩ := ox
  refine F.ok scSub (fun vs H Q E h => ?_) (fun cdv A outer s H vs Q E hr h => ?_)
  · obtain ⟨a, x, rfl, _⟩ := h
    rfl
  · obtain ⟨a, x, rfl, no, out⟩ := h
    refine ⟨_, pss_cons (ps_set (i := 2) scSub.nd rfl (Or.inl rfl) (ClX.pe_cmeth (pe_glob (v := .ref (aR K)) rfl T.gR rfl) cr cm GO hr (passE (takes_of rfl rfl rfl rfl)) (pa_cons (pv 1) pa_nil))) (pss_one ps_never), ?_⟩
    exact ⟨rfl, _, rfl, x, rfl, no, out⟩
theorem ok_rMulX {f : Addr} {fd : FuncData} (F : FunD K "__mul__" "Ratio.__mul__" (defArgs (sRatio 11)) (defBody (sRatio 11)) (defScope (sRatio 11)) [] [] f fd) (T : RF K mg) (ox : OfX P w K mg base) : FnOk P w K mg base (L2.CX P w) 6 f fd ["self", "other"] (spBinX K) := by
  obtain ⟨mc, pp, fo, cr, cm, GO⟩ := ox
  refine F.ok scMul (fun vs H Q E h => ?_) (fun cdv A outer s H vs Q E hr h => ?_)
  · obtain ⟨a, x, rfl, _⟩ := h
    rfl
  · obtain ⟨a, x, rfl, no, out⟩ := h
    refine ⟨_, pss_cons (ps_set (i := 2) scMul.nd rfl (Or.inl rfl) (ClX.pe_cmeth (pe_glob (v := .ref (aR K)) rfl T.gR rfl) cr cm GO hr (passE (takes_of rfl rfl rfl rfl)) (pa_cons (pv 1) pa_nil))) (pss_one ps_never), ?_⟩
    exact ⟨rfl, _, rfl, x, rfl, no, out⟩
/-! ### over nothing -/
def spOverZ (K : PySem.W.Frag) : Sp := fun vs H _ E => ∃ (a : Addr) (y : V) (q : Rat), vs = [.ref a, y] ∧ RatAt K H a q ∧ NumAt K H y 0 ∧ ∀ H2, Same H H2 → E (.ref (aDZ K)) none H2
theorem ok_rOverZ {f : Addr} {fd : FuncData} (F : FunD K "over" "Ratio.over" (defArgs (sRatio 8)) (defBody (sRatio 8)) (defScope (sRatio 8)) [] [] f fd) (R : RH P w K mg base) (Z : EF K mg) : FnOk P w K mg base (L2.CX P w) 5 f fd ["self", "other"] (spOverZ K) := by
  obtain ⟨mc, pp, fo, cr, cm, GO⟩ := R.of
  have T := R.G.T
  refine F.ok scOver (fun vs H Q E h => ?_) (fun cdv A outer s H vs Q E hr h => ?_)
  · obtain ⟨a, y, q, rfl, _⟩ := h
    rfl
  · obtain ⟨a, y, q, rfl, ha, hy, out⟩ := h
    refine ⟨_, pss_cons (ps_set (i := 2) scOver.nd rfl (Or.inl rfl) (ClX.pe_cmeth (pe_glob (v := .ref (aR K)) rfl T.gR rfl) cr cm GO hr pass0 (pa_cons (pv 1) pa_nil)))
      (pss_cons (ps_if (pt_cmpR op_eq (pe_fld (pv 2) rfl) pe_int (nomark _)) (pss_one (ps_raise rfl (takes_of rfl rfl rfl rfl) (pmk_own0 PySem.F.excBase_RuntimeError Z.eD Z.gD Z.xD.keep (raises_own Z.xD.exB Z.xD.isType) rfl))) pss_nil)
      (pss_one ps_never)), ?_⟩
    refine ⟨rfl, _, rfl, y, 0, rfl, hy, fun p H' kp hp => ?_⟩
    obtain ⟨dy, ep⟩ := hp
    refine ⟨_, rfl, p, _, dy, _, _, rfl, ep, T.cl, T.nT, rfl, rfl, _, rfl, ?_⟩
    exact iteT (out H' kp)
end
end K18
set_option maxHeartbeats 4000000
namespace K18
open PySem PySem.Spec PyProof.Rows L2 GL
theorem rest_of {K : PySem.W.Frag} {x qual a r : Str} {params : Arguments} {body : List Stmt} {scope : Scope} {f : Addr} {fd : FuncData} (F : FunD K x qual params body scope [] [] f fd)
    (h : ∀ (kV doc pm : Value) (an : Option Addr) (cdv ct u : Value) (us : List Value), bindArgs (PySem.W.fnOf x qual params body scope .none kV doc pm an cdv ct) ⟨u :: us, []⟩ = (newTuple us >>= fun t => pure [(a, u), (r, t)])) : RestBinds fd a r := by
  obtain ⟨oc, od, dV, kV, doc, pm, an, cdv, ct, osl, rfl, lk, hcd, hD, hK⟩ := F.ex
  rcases hD with ⟨_, rfl⟩ | ⟨e, _⟩
  · exact h kV doc pm an cdv ct
  · exact absurd rfl e
theorem least_rest {K : PySem.W.Frag} {f : Addr} {fd : FuncData} (F : FunD K "least" "Ratio.least" (defArgs (sRatio 2)) (defBody (sRatio 2)) (defScope (sRatio 2)) [] [] f fd) : RestBinds fd "cls" "numbers" := rest_of F fun _ _ _ _ _ _ u us => by cases us <;> with_unfolding_all rfl
theorem greatest_rest {K : PySem.W.Frag} {f : Addr} {fd : FuncData} (F : FunD K "greatest" "Ratio.greatest" (defArgs (sRatio 3)) (defBody (sRatio 3)) (defScope (sRatio 3)) [] [] f fd) : RestBinds fd "cls" "numbers" := rest_of F fun _ _ _ _ _ _ u us => by cases us <;> with_unfolding_all rfl
/-! ### several numbers -/
def NumsL (K : PySem.W.Frag) (H : Hp) (xs : List V) (qs : List Rat) : Prop := xs.length = qs.length ∧ ∀ (i : Nat) (v : V) (q : Rat), xs[i]? = some v → qs[i]? = some q → NumAt K H v q
theorem NumsL.same {K : PySem.W.Frag} {H H' : Hp} {xs : List V} {qs : List Rat} (h : NumsL K H xs qs) (k : Same H H') : NumsL K H' xs qs := ⟨h.1, fun i v q a b => (h.2 i v q a b).same k⟩
def RatsL (K : PySem.W.Frag) (H : Hp) (xs : List V) (qs : List Rat) : Prop := xs.length = qs.length ∧ ∀ (i : Nat) (v : V) (q : Rat), xs[i]? = some v → qs[i]? = some q → ∃ a : Addr, v = .ref a ∧ RatAt K H a q
theorem RatsL.same {K : PySem.W.Frag} {H H' : Hp} {xs : List V} {qs : List Rat} (h : RatsL K H xs qs) (k : Same H H') : RatsL K H' xs qs := ⟨h.1, fun i v q a b => by
  obtain ⟨x, e, r⟩ := h.2 i v q a b
  exact ⟨x, e, r.same k⟩⟩
/-- the better one of what was found and one more -/
def stepQ (lt : Rat → Rat → Bool) (o : Option Rat) (q : Rat) : Option Rat := match o with
  | none => some q
  | some m => if lt q m = true then some q else some m
def bestQ (lt : Rat → Rat → Bool) (qs : List Rat) : Option Rat := qs.foldl (stepQ lt) none
theorem bestQ_take {lt : Rat → Rat → Bool} {qs : List Rat} {i : Nat} {q : Rat} (h : qs[i]? = some q) : bestQ lt (qs.take (i + 1)) = stepQ lt (bestQ lt (qs.take i)) q := by
  unfold bestQ
  rw [List.take_add_one, h, Option.toList_some, List.foldl_append]
  rfl
theorem bestQ_mem {lt : Rat → Rat → Bool} : ∀ {qs : List Rat} {m : Rat}, bestQ lt qs = some m → m ∈ qs := by
  have go : ∀ (qs : List Rat) (o : Option Rat) (m : Rat), qs.foldl (stepQ lt) o = some m → m ∈ qs ∨ o = some m := by
    intro qs
    induction qs with
    | nil => exact fun o m h => .inr h
    | cons q qs ih =>
      intro o m h
      rcases ih _ _ h with k | k
      · exact .inl (List.mem_cons_of_mem _ k)
      · cases o with
        | none => exact .inl (by injection k with k; rw [k]; exact List.mem_cons_self)
        | some n =>
          simp only [stepQ] at k
          split at k
          · exact .inl (by injection k with k; rw [k]; exact List.mem_cons_self)
          · exact .inr k
  intro qs m h
  rcases go qs none m h with k | k
  · exact k
  · cases k
theorem bestQ_some {lt : Rat → Rat → Bool} {qs : List Rat} (h : qs ≠ []) : bestQ lt qs ≠ none := by
  have go : ∀ (qs : List Rat) (m : Rat), qs.foldl (stepQ lt) (some m) ≠ none := by
    intro qs
    induction qs with
    | nil => exact fun m h => nomatch h
    | cons q qs ih =>
      intro m
      simp only [List.foldl_cons, stepQ]
      split
      · exact ih _
      · exact ih _
  cases qs with
  | nil => exact absurd rfl h
  | cons q qs => exact go qs q
section
variable {P : Program} {w : World} {K : PySem.W.Frag} {mg : Str → Option Value} {base : Heap}
def spRatios (K : PySem.W.Frag) : Sp := fun vs H Q _ => ∃ (t : Addr) (xs : List V) (qs : List Rat), vs = [.ref t] ∧ H t = some (.tup xs) ∧ xs ≠ [] ∧ xs.length ≤ 100 ∧ NumsL K H xs qs ∧ ∀ l ys H', Same H H' → H' l = some (.lst ys) → RatsL K H' ys qs → Q (.ref l) H'
abbrev nRatios : List Str := ["numbers", "number"]
theorem scRatios : FnScope nRatios ["numbers"] (defScope sRatiosOf) := ⟨rfl, rfl, rfl, by decide +kernel, rfl, by decide +kernel, by decide +kernel⟩
theorem ok_ratios {f : Addr} {fd : FuncData} (F : Fun K "_ratios_of" "_ratios_of" sRatiosOf f fd) (R : RH P w K mg base) : FnOk P w K mg base CX0 5 f fd ["numbers"] (spRatios K) := by
  obtain ⟨mc, pp, fo, cr, cm, GO⟩ := R.of
  have T := R.G.T
  refine F.ok scRatios (fun vs H Q E h => ?_) (fun cdv A outer s H vs Q E hr h => ?_)
  · obtain ⟨t, xs, qs, rfl, _⟩ := h
    rfl
  · obtain ⟨t, xs, qs, rfl, ht, ne, len, hx, k⟩ := h
    refine ⟨_, pss_cons (ps_if (pt_not (pt_truth (pv 0) (fun _ => rfl))) (pss_one ps_never) pss_nil)
      (pss_one (ps_ret (pe_lc (own := [("number", 1)]) (g := gName 1) (tt := tYes) (te := ClX.tCMeth (aR K) (spOf K) E0 (tC (.ref (aR K))) (tCons (tVar 1) tNil)) rfl scRatios.nd (pi_tup (pv 0))
        (blkOk_by (N := nRatios) (sc := defScope sRatiosOf) (by decide +kernel)) (fun _ _ _ _ _ => pg_name (i := 1) scRatios.nd rfl (Or.inl rfl)) (fun _ _ _ _ _ => pts_nil)
        (fun _ _ _ _ _ => by exact (ClX.pe_cmeth (pe_glob (v := .ref (aR K)) rfl T.gR rfl) cr cm GO hr pass0 (pa_cons (pv 1) pa_nil)))))), ?_⟩
    have full : (!xs.isEmpty) = true := by
      cases xs with
      | nil => exact absurd rfl ne
      | cons _ _ => rfl
    refine ⟨_, rfl, _, .inr (.inl ⟨xs, SqT.of ht, rfl⟩), ?_⟩
    rw [full]
    refine iteF ?_
    refine ⟨_, rfl, t, rfl, ⟨_, SqT.of ht⟩, fun D hD => ?_⟩
    have up := same_new (o := .lst []) hD
    refine lc_tup (K := K) (a := t) (xs := xs) (fun i G => Same H G ∧ ∃ acc, G D = some (.lst acc) ∧ RatsL K G acc (qs.take i)) ⟨up, [], upd_same, by simp, fun i v q z => by simp at z⟩ (fun i G _ ⟨s, _⟩ => SqT.of (s _ _ ht)) ?_ ?_
    · rintro i x G hi ⟨s, acc, hacc, la, ra⟩
      have hlt : i < xs.length := (List.getElem?_eq_some_iff.mp hi).1
      have hlq : i < qs.length := by rw [← hx.1]; exact hlt
      have hq : qs[i]? = some qs[i] := List.getElem?_eq_getElem hlq
      have hn : NumAt K G x qs[i] := (hx.2 i x _ hi hq).same s
      refine ⟨rfl, ?_⟩
      refine ⟨rfl, _, rfl, x, qs[i], rfl, hn, fun p G1 k1 hp => ⟨acc, k1 _ _ hacc, ?_, ?_⟩⟩
      · rw [la, sizeLine_eq, List.length_take]
        omega
      · have nd : ∀ a q, RatAt K G1 a q → a ≠ D := by
          rintro a q ⟨d, e⟩ rfl
          rw [k1 _ _ hacc] at e
          cases e
        have keep : ∀ a q, RatAt K G1 a q → RatAt K (upd G1 D (.lst (acc ++ [.ref p]))) a q := by
          intro a q h
          have n := nd a q h
          obtain ⟨d, e⟩ := h
          exact ⟨d, by rw [upd_ne n]; exact e⟩
        refine ⟨fun b o e => ?_, acc ++ [.ref p], upd_same, ?_, ?_⟩
        · rw [upd_ne (ne_of_none e hD)]
          exact k1 _ _ (s _ _ e)
        · rw [List.length_append, la, List.length_take, List.length_take]
          simp
          omega
        · intro j v q e1 e2
          by_cases hj : j < acc.length
          · rw [List.getElem?_append_left hj] at e1
            have e2' : (qs.take i)[j]? = some q := by
              rw [la, List.length_take] at hj
              rw [List.getElem?_take_of_lt (by omega)] at e2 ⊢
              exact e2
            obtain ⟨a, ea, ha⟩ := ra j v q e1 e2'
            exact ⟨a, ea, keep a q (ha.same k1)⟩
          · have j1 : j = acc.length := by
              have := (List.getElem?_eq_some_iff.mp e1).1
              rw [List.length_append] at this
              simp at this
              omega
            rw [List.getElem?_append_right (by omega), j1, Nat.sub_self] at e1
            have e1' : v = .ref p := by simpa using e1.symm
            have e3 : j = i := by
              rw [j1, la, List.length_take]
              omega
            rw [e3, List.getElem?_take_of_lt (by omega), hq] at e2
            have e2' := Option.some.inj e2
            rw [← e2']
            exact ⟨p, e1', keep p _ hp⟩
    · rintro G ⟨s, acc, hacc, ra⟩
      rw [hx.1, List.take_length] at ra
      exact k D acc G s hacc ra
end
end K18
set_option maxHeartbeats 4000000
namespace K18
open PySem PySem.Spec PyProof.Rows L2 GL
def Fnd (K : PySem.W.Frag) (H : Hp) (o : Option Rat) (v : V) : Prop := (o = none ∧ v = .non) ∨ ∃ a m, o = some m ∧ v = .ref a ∧ RatAt K H a m
theorem Fnd.same {K : PySem.W.Frag} {H H' : Hp} {o : Option Rat} {v : V} (h : Fnd K H o v) (k : Same H H') : Fnd K H' o v := by
  rcases h with h | ⟨a, m, e, f, r⟩
  · exact .inl h
  · exact .inr ⟨a, m, e, f, r.same k⟩
section
variable {P : Program} {w : World} {K : PySem.W.Frag} {mg : Str → Option Value} {base : Heap}
def spPick (K : PySem.W.Frag) (lt : Rat → Rat → Bool) : Sp := fun vs H Q _ => ∃ (xs : List V) (qs : List Rat), vs = .ref (aR K) :: xs ∧ xs ≠ [] ∧ xs.length ≤ 100 ∧ NumsL K H xs qs ∧ (∀ q ∈ qs, Sz 1000 q) ∧ ∀ p m H', bestQ lt qs = some m → Same H H' → RatAt K H' p m → Q (.ref p) H'
abbrev nPick : List Str := ["cls", "numbers", "found", "ratio"]
abbrev ltL : Rat → Rat → Bool := fun q m => rBelow q m
abbrev ltG : Rat → Rat → Bool := fun q m => rBelow m q
theorem scLeast : FnScope nPick ["cls", "numbers"] (defScope (sRatio 2)) := ⟨rfl, rfl, rfl, by decide +kernel, rfl, by decide +kernel, by decide +kernel⟩
theorem scGreatest : FnScope nPick ["cls", "numbers"] (defScope (sRatio 3)) := ⟨rfl, rfl, rfl, by decide +kernel, rfl, by decide +kernel, by decide +kernel⟩
theorem sz_line {n : Nat} (h : n ≤ 100) : n ≤ sizeLine := Nat.le_trans h (by rw [sizeLine_eq]; decide)
theorem ok_least {f : Addr} {fd : FuncData} (F : FunD K "least" "Ratio.least" (defArgs (sRatio 2)) (defBody (sRatio 2)) (defScope (sRatio 2)) [] [] f fd) (I : RI P w K mg base) (rs : DefF P w K mg base "_ratios_of" 5 ["numbers"] (spRatios K)) : FnR P w K mg base CX0 6 f (spPick K ltL) := by
  obtain ⟨fS, fdS, GS, gS, bS, kS⟩ := rs
  obtain ⟨fB, fdB, mB, GB, bB⟩ := I.below
  have T := I.R.G.T
  refine okV F scLeast (least_rest F) (fun _ _ _ _ _ _ _ _ _ _ _ _ _ h => h) (fun vs H Q E h => ?_) (fun cdv A outer s H v ws Q E p hr hp h => ?_)
  · obtain ⟨xs, qs, rfl, _, len, _⟩ := h
    exact ⟨_, xs, rfl, sz_line len⟩
  · obtain ⟨xs, qs, e, ne, len, hx, sz, k⟩ := h
    injection e with e1 e2
    subst e1 e2
    have main : ∃ t, PSs (cxOf CX0 P w K mg base nPick "Ratio.least" (defScope (sRatio 2)) f cdv A outer s (upd H p (.tup ws)) E).nox (defBody (sRatio 2)) t ∧ t { nx := fun _ H' => Q .non H', rt := Q } (start nPick [.ref (aR K), .ref p]) (upd H p (.tup ws)) := by
      refine ⟨_, pss_cons (ps_set (i := 2) scLeast.nd rfl (Or.inl rfl) pe_non)
        (pss_cons (ps_for PassesOwn.never rfl (pi_list (pe_call GS hr rfl gS kS bS .nil pass0 (pa_cons (pv 1) pa_nil))) (pg_name (i := 3) scLeast.nd rfl (Or.inl rfl))
          (pss_one (ps_if (PW.pt (pw_or (pt_cmpR op_isN (pv 2) pe_non (nomark _)) (pw_or1 (pt_val (pe_meth (pv 3) T.cl mB GB hr bB .nil pass0 (pa_cons (pv 2) pa_nil)))))) (pss_one (ps_set (i := 2) scLeast.nd rfl (Or.inl rfl) (pv 3))) pss_nil)))
        (pss_one (ps_ret (pv 2)))), ?_⟩
      have up := same_new (o := .tup ws) hp
      refine ⟨_, rfl, p, ws, qs, rfl, upd_same, ne, len, hx.same up, fun l ys H1 k1 hl hy => ?_⟩
      have k01 := up.trans k1
      refine ⟨l, rfl, ⟨_, SqL.of hl⟩, ?_⟩
      refine for_list (K := K) (a := l) (xs := ys) (fun i z G => Same H1 G ∧ ∃ v v3, z = [some (.ref (aR K)), some (.ref p), some v, v3] ∧ Fnd K G (bestQ ltL (qs.take i)) v) ?_ ?_ ?_ ?_
      · exact ⟨fun _ _ e => e, .non, none, rfl, .inl ⟨rfl, rfl⟩⟩
      · rintro i z G _ ⟨s1, _⟩
        exact SqL.of (s1 _ _ hl)
      · rintro i y z G hi ⟨s1, v, v3, rfl, fnd⟩
        have hlt : i < qs.length := by
          rw [← hy.1]
          exact (List.getElem?_eq_some_iff.mp hi).1
        have hq : qs[i]? = some qs[i] := List.getElem?_eq_getElem hlt
        obtain ⟨a, rfl, ha0⟩ := hy.2 i y _ hi hq
        have ha := ha0.same s1
        have sq := sz _ (List.getElem_mem hlt)
        rw [bestQ_take hq]
        rcases fnd with ⟨eo, rfl⟩ | ⟨b, m, eo, rfl, hb⟩
        · rw [eo]
          exact ⟨_, rfl, rfl, _, rfl, iteT (iteT ⟨_, rfl, s1, _, _, rfl, .inr ⟨a, _, rfl, rfl, ha⟩⟩)⟩
        · have sm : Sz 1000 m := sz _ (List.mem_of_mem_take (bestQ_mem eo))
          rw [eo]
          refine ⟨_, rfl, rfl, _, rfl, iteF ?_⟩
          obtain ⟨d, ea⟩ := id ha
          refine ⟨_, rfl, a, d, _, rfl, ea, rfl, _, rfl, a, .ref b, qs[i], m, rfl, ha, .inr ⟨b, rfl, hb⟩, sq.mono (by decide), sm.mono (by decide), fun G1 k2 => ⟨_, rfl, ?_⟩⟩
          cases hB : rBelow qs[i] m with
          | true => exact iteT ⟨_, rfl, s1.trans k2, _, _, rfl, .inr ⟨a, _, by simp [stepQ, hB], rfl, ha.same k2⟩⟩
          | false => exact iteF ⟨s1.trans k2, _, _, rfl, .inr ⟨b, _, by simp [stepQ, hB], rfl, hb.same k2⟩⟩
      · rintro z G ⟨s1, v, v3, rfl, fnd⟩
        rw [hy.1, List.take_length] at fnd
        refine ⟨_, rfl, ?_⟩
        rcases fnd with ⟨eo, rfl⟩ | ⟨b, m, eo, rfl, hb⟩
        · exact absurd eo (bestQ_some fun z => ne (List.eq_nil_of_length_eq_zero (by rw [hx.1, z]; rfl)))
        · exact k b m G eo (k01.trans s1) hb
    obtain ⟨t, ht, hq⟩ := main
    exact ⟨t, ht.nox, hq⟩
theorem ok_greatest {f : Addr} {fd : FuncData} (F : FunD K "greatest" "Ratio.greatest" (defArgs (sRatio 3)) (defBody (sRatio 3)) (defScope (sRatio 3)) [] [] f fd) (I : RI P w K mg base) (rs : DefF P w K mg base "_ratios_of" 5 ["numbers"] (spRatios K)) : FnR P w K mg base CX0 6 f (spPick K ltG) := by
  obtain ⟨fS, fdS, GS, gS, bS, kS⟩ := rs
  obtain ⟨fB, fdB, mB, GB, bB⟩ := I.below
  have T := I.R.G.T
  refine okV F scGreatest (greatest_rest F) (fun _ _ _ _ _ _ _ _ _ _ _ _ _ h => h) (fun vs H Q E h => ?_) (fun cdv A outer s H v ws Q E p hr hp h => ?_)
  · obtain ⟨xs, qs, rfl, _, len, _⟩ := h
    exact ⟨_, xs, rfl, sz_line len⟩
  · obtain ⟨xs, qs, e, ne, len, hx, sz, k⟩ := h
    injection e with e1 e2
    subst e1 e2
    have main : ∃ t, PSs (cxOf CX0 P w K mg base nPick "Ratio.greatest" (defScope (sRatio 3)) f cdv A outer s (upd H p (.tup ws)) E).nox (defBody (sRatio 3)) t ∧ t { nx := fun _ H' => Q .non H', rt := Q } (start nPick [.ref (aR K), .ref p]) (upd H p (.tup ws)) := by
      refine ⟨_, pss_cons (ps_set (i := 2) scGreatest.nd rfl (Or.inl rfl) pe_non)
        (pss_cons (ps_for PassesOwn.never rfl (pi_list (pe_call GS hr rfl gS kS bS .nil pass0 (pa_cons (pv 1) pa_nil))) (pg_name (i := 3) scGreatest.nd rfl (Or.inl rfl))
          (pss_one (ps_if (PW.pt (pw_or (pt_cmpR op_isN (pv 2) pe_non (nomark _)) (pw_or1 (pt_val (pe_meth (pv 2) T.cl mB GB hr bB .nil pass0 (pa_cons (pv 3) pa_nil)))))) (pss_one (ps_set (i := 2) scGreatest.nd rfl (Or.inl rfl) (pv 3))) pss_nil)))
        (pss_one (ps_ret (pv 2)))), ?_⟩
      have up := same_new (o := .tup ws) hp
      refine ⟨_, rfl, p, ws, qs, rfl, upd_same, ne, len, hx.same up, fun l ys H1 k1 hl hy => ?_⟩
      have k01 := up.trans k1
      refine ⟨l, rfl, ⟨_, SqL.of hl⟩, ?_⟩
      refine for_list (K := K) (a := l) (xs := ys) (fun i z G => Same H1 G ∧ ∃ v v3, z = [some (.ref (aR K)), some (.ref p), some v, v3] ∧ Fnd K G (bestQ ltG (qs.take i)) v) ?_ ?_ ?_ ?_
      · exact ⟨fun _ _ e => e, .non, none, rfl, .inl ⟨rfl, rfl⟩⟩
      · rintro i z G _ ⟨s1, _⟩
        exact SqL.of (s1 _ _ hl)
      · rintro i y z G hi ⟨s1, v, v3, rfl, fnd⟩
        have hlt : i < qs.length := by
          rw [← hy.1]
          exact (List.getElem?_eq_some_iff.mp hi).1
        have hq : qs[i]? = some qs[i] := List.getElem?_eq_getElem hlt
        obtain ⟨a, rfl, ha0⟩ := hy.2 i y _ hi hq
        have ha := ha0.same s1
        have sq := sz _ (List.getElem_mem hlt)
        rw [bestQ_take hq]
        rcases fnd with ⟨eo, rfl⟩ | ⟨b, m, eo, rfl, hb⟩
        · rw [eo]
          exact ⟨_, rfl, rfl, _, rfl, iteT (iteT ⟨_, rfl, s1, _, _, rfl, .inr ⟨a, _, rfl, rfl, ha⟩⟩)⟩
        · have sm : Sz 1000 m := sz _ (List.mem_of_mem_take (bestQ_mem eo))
          rw [eo]
          refine ⟨_, rfl, rfl, _, rfl, iteF ?_⟩
          obtain ⟨d, eb⟩ := id hb
          refine ⟨_, rfl, b, d, _, rfl, eb, rfl, _, rfl, b, .ref a, m, qs[i], rfl, hb, .inr ⟨a, rfl, ha⟩, sm.mono (by decide), sq.mono (by decide), fun G1 k2 => ⟨_, rfl, ?_⟩⟩
          cases hB : rBelow m qs[i] with
          | true => exact iteT ⟨_, rfl, s1.trans k2, _, _, rfl, .inr ⟨a, _, by simp [stepQ, hB], rfl, ha.same k2⟩⟩
          | false => exact iteF ⟨s1.trans k2, _, _, rfl, .inr ⟨b, _, by simp [stepQ, hB], rfl, hb.same k2⟩⟩
      · rintro z G ⟨s1, v, v3, rfl, fnd⟩
        rw [hy.1, List.take_length] at fnd
        refine ⟨_, rfl, ?_⟩
        rcases fnd with ⟨eo, rfl⟩ | ⟨b, m, eo, rfl, hb⟩
        · exact absurd eo (bestQ_some fun z => ne (List.eq_nil_of_length_eq_zero (by rw [hx.1, z]; rfl)))
        · exact k b m G eo (k01.trans s1) hb
    obtain ⟨t, ht, hq⟩ := main
    exact ⟨t, ht.nox, hq⟩
end
end K18
set_option maxHeartbeats 4000000
namespace K18
open PySem PySem.Spec PyProof.Rows L2 GL
section
variable {P : Program} {w : World} {K : PySem.W.Frag} {mg : Str → Option Value} {base : Heap}
theorem FnOk.lift {CX : CXT} {k : Nat} {f : Addr} {fd : FuncData} {ps : List Str} {sp : Sp} (F : FnOk P w K mg base CX0 k f fd ps sp) : FnOk P w K mg base CX k f fd ps sp :=
  ⟨F.len, fun A outer s H args us vs Q E hr he hb hv hs => codeAny_mono (F.run A outer s H args us vs Q E hr he hb hv hs) fun r s' h => match r, h with
    | .error e, h => False.elim h
    | .ok (.ret _), h => h
    | .ok .next, h => False.elim h
    | .ok .brk, h => False.elim h
    | .ok .cont, h => False.elim h⟩
theorem FnR.lift {CX : CXT} {k : Nat} {f : Addr} {sp : Sp} (F : FnR P w K mg base CX0 k f sp) : FnR P w K mg base CX k f sp :=
  fun A outer s H us vs Q E hr he hv hs => codeAny_mono (F A outer s H us vs Q E hr he hv hs) fun r s' h => match r, h with
    | .error e, h => False.elim h
    | .ok (.ret _), h => h
    | .ok .next, h => False.elim h
    | .ok .brk, h => False.elim h
    | .ok .cont, h => False.elim h
theorem FnR.or {CX : CXT} {k : Nat} {f : Addr} {s1 s2 : Sp} (a : FnR P w K mg base CX k f s1) (b : FnR P w K mg base CX k f s2) : FnR P w K mg base CX k f (fun vs H Q E => s1 vs H Q E ∨ s2 vs H Q E) :=
  fun A outer s H us vs Q E hr he hv h => h.elim (a A outer s H us vs Q E hr he hv) (b A outer s H us vs Q E hr he hv)
def spOfA (K : PySem.W.Frag) : Sp := fun vs H Q E => spOf K vs H Q E ∨ spOfX K vs H Q E
def OfA (P : Program) (w : World) (K : PySem.W.Frag) (mg : Str → Option Value) (base : Heap) : Prop := ∃ mc p f, ClX.CRead K (aR K) mc ∧ ClX.CMet K (aR K) mc "of" p f ∧ FnR P w K mg base (L2.CX P w) 5 f (spOfA K)
/-- a def of the module that errors may leave -/
def DefX (P : Program) (w : World) (K : PySem.W.Frag) (mg : Str → Option Value) (base : Heap) (x : Str) (k : Nat) (ps : List Str) (sp : Sp) : Prop := ∃ f fd, FnOk P w K mg base (L2.CX P w) k f fd ps sp ∧ mg x = some (.ref f) ∧ Binds K fd ps [] ∧ PySem.W.keepIn K (.ref f) = true
/-- nothing at all, or something that is no number behind numbers -/
def Bad (K : PySem.W.Frag) (H : Hp) (xs : List V) (v : V) : Prop := (xs = [] ∧ v = .non) ∨ ∃ j : Nat, xs[j]? = some v ∧ NotN K H v ∧ (∀ (i : Nat) (y : V), i < j → xs[i]? = some y → ∃ q, NumAt K H y q) ∧ xs.length ≤ 100
theorem Bad.same {H H' : Hp} {xs : List V} {v : V} (h : Bad K H xs v) (k : Same H H') : Bad K H' xs v := by
  rcases h with h | ⟨j, a, b, c, d⟩
  · exact .inl h
  · exact .inr ⟨j, a, b.same k, fun i y hi hy => by
      obtain ⟨q, r⟩ := c i y hi hy
      exact ⟨q, r.same k⟩, d⟩
def spRatiosX (K : PySem.W.Frag) : Sp := fun vs H _ E => ∃ (t : Addr) (xs : List V) (v : V), vs = [.ref t] ∧ H t = some (.tup xs) ∧ Bad K H xs v ∧ outS (aIN K) "value" v H E
theorem ok_ratiosX {f : Addr} {fd : FuncData} (F : Fun K "_ratios_of" "_ratios_of" sRatiosOf f fd) (T : RF K mg) (oa : OfA P w K mg base) (Z : EM P w K mg base) : FnOk P w K mg base (L2.CX P w) 6 f fd ["numbers"] (spRatiosX K) := by
  obtain ⟨mc, pp, fo, cr, cm, GO⟩ := oa
  obtain ⟨fN, fdN, i1, i2, GN, bN⟩ := Z.mN
  refine F.okX scRatios (fun vs H Q E h => ?_) (fun cdv A outer s H vs Q E hr h => ?_)
  · obtain ⟨t, xs, v, rfl, _⟩ := h
    rfl
  · obtain ⟨t, xs, v, rfl, ht, bad, out⟩ := h
    refine ⟨_, pss_cons (ps_if (pt_not (pt_truth (pv 0) (fun _ => rfl))) (pss_one (ps_raise rfl (takes_of rfl rfl rfl rfl) (pmk_x Z.F.xN i1 i2 GN (hr.mono (by decide)) bN rfl Z.F.gN (pa_cons pe_non pa_nil)))) pss_nil)
      (pss_one (ps_ret (pe_lcX (W := fun cls d _ H => E cls d H) (own := [("number", 1)]) (g := gName 1) (te := fun _ => ClX.tCMeth (aR K) (spOfA K) E (tC (.ref (aR K))) (tCons (tVar 1) tNil)) (takes_of rfl rfl rfl rfl) rfl rfl rfl scRatios.nd (pi_tup (pv 0))
        (blkOk_by (N := nRatios) (sc := defScope sRatiosOf) (by decide +kernel)) (fun _ _ _ _ _ _ => pg_name (i := 1) scRatios.nd rfl (Or.inl rfl))
        (fun _ _ _ _ _ _ _ pass => by exact (ClX.pe_cmeth (pe_glob (v := .ref (aR K)) rfl T.gR rfl) cr cm GO hr (pass E fun _ _ _ h => h) (pa_cons (pv 1) pa_nil)))))), ?_⟩
    refine ⟨_, rfl, _, .inr (.inl ⟨xs, SqT.of ht, rfl⟩), ?_⟩
    rcases bad with ⟨rfl, rfl⟩ | ⟨j, hj, no, nums, len⟩
    · exact iteT ⟨rfl, by show 1 ≤ 1000; decide, fun d H2 k2 n2 e2 => out d H2 k2 n2 e2⟩
    · have lt : j < xs.length := (List.getElem?_eq_some_iff.mp hj).1
      have full : (!xs.isEmpty) = true := by
        cases xs with
        | nil => simp at lt
        | cons _ _ => rfl
      rw [full]
      refine iteF ?_
      refine ⟨_, rfl, t, rfl, ⟨_, SqT.of ht⟩, fun D hD => ?_⟩
      have up := same_new (o := .lst []) hD
      refine lc_tup (K := K) (a := t) (xs := xs) (fun i G => Same H G ∧ i ≤ j ∧ ∃ acc, G D = some (.lst acc) ∧ acc.length = i) ⟨up, Nat.zero_le _, [], upd_same, rfl⟩ (fun i G _ ⟨s, _⟩ => SqT.of (s _ _ ht)) ?_ ?_
      · rintro i x G hi ⟨s, le, acc, hacc, la⟩
        refine ⟨rfl, rfl, _, rfl, ?_⟩
        rcases Nat.lt_or_eq_of_le le with h | rfl
        · obtain ⟨q, hq⟩ := nums i x h hi
          refine .inl ⟨x, q, rfl, hq.same s, fun p G1 k1 hp => ⟨acc, k1 _ _ hacc, by rw [la, sizeLine_eq]; omega, ?_, h, acc ++ [.ref p], upd_same, by rw [List.length_append, la]; rfl⟩⟩
          intro b o e
          rw [upd_ne (ne_of_none e hD)]
          exact k1 _ _ (s _ _ e)
        · rw [hj] at hi
          cases hi
          exact .inr ⟨v, rfl, no.same s, out.same s⟩
      · rintro G ⟨s, le, _⟩
        exact absurd lt (Nat.not_lt.mpr le)
/-! ### least and greatest of what is no number -/
def spPickX (K : PySem.W.Frag) : Sp := fun vs H _ E => ∃ (xs : List V) (v : V), vs = .ref (aR K) :: xs ∧ Bad K H xs v ∧ xs.length ≤ 100 ∧ outS (aIN K) "value" v H E
theorem ok_leastX {f : Addr} {fd : FuncData} (F : FunD K "least" "Ratio.least" (defArgs (sRatio 2)) (defBody (sRatio 2)) (defScope (sRatio 2)) [] [] f fd) (rs : DefX P w K mg base "_ratios_of" 6 ["numbers"] (spRatiosX K)) : FnR P w K mg base (L2.CX P w) 7 f (spPickX K) := by
  obtain ⟨fS, fdS, GS, gS, bS, kS⟩ := rs
  refine okV F scLeast (least_rest F) (fun _ _ _ _ _ _ _ _ _ hok kp hp os h => grownX hok kp hp os h) (fun vs H Q E h => ?_) (fun cdv A outer s H v ws Q E p hr hp h => ?_)
  · obtain ⟨xs, v, rfl, _, len, _⟩ := h
    exact ⟨_, xs, rfl, sz_line len⟩
  · obtain ⟨xs, v, e, bad, len, out⟩ := h
    injection e with e1 e2
    subst e1 e2
    refine ⟨_, pss_cons (ps_set (i := 2) scLeast.nd rfl (Or.inl rfl) pe_non)
      (pss_cons (ps_for (passes_of rfl) rfl (pi_list (pe_call GS hr rfl gS kS bS .nil (passE (takes_of rfl rfl rfl rfl)) (pa_cons (pv 1) pa_nil))) (pg_name (i := 3) scLeast.nd rfl (Or.inl rfl)) (pss_one ps_never)) (pss_one ps_never)), ?_⟩
    have up := same_new (o := .tup ws) hp
    exact ⟨_, rfl, p, ws, v, rfl, upd_same, bad.same up, out.same up⟩
theorem ok_greatestX {f : Addr} {fd : FuncData} (F : FunD K "greatest" "Ratio.greatest" (defArgs (sRatio 3)) (defBody (sRatio 3)) (defScope (sRatio 3)) [] [] f fd) (rs : DefX P w K mg base "_ratios_of" 6 ["numbers"] (spRatiosX K)) : FnR P w K mg base (L2.CX P w) 7 f (spPickX K) := by
  obtain ⟨fS, fdS, GS, gS, bS, kS⟩ := rs
  refine okV F scGreatest (greatest_rest F) (fun _ _ _ _ _ _ _ _ _ hok kp hp os h => grownX hok kp hp os h) (fun vs H Q E h => ?_) (fun cdv A outer s H v ws Q E p hr hp h => ?_)
  · obtain ⟨xs, v, rfl, _, len, _⟩ := h
    exact ⟨_, xs, rfl, sz_line len⟩
  · obtain ⟨xs, v, e, bad, len, out⟩ := h
    injection e with e1 e2
    subst e1 e2
    refine ⟨_, pss_cons (ps_set (i := 2) scGreatest.nd rfl (Or.inl rfl) pe_non)
      (pss_cons (ps_for (passes_of rfl) rfl (pi_list (pe_call GS hr rfl gS kS bS .nil (passE (takes_of rfl rfl rfl rfl)) (pa_cons (pv 1) pa_nil))) (pg_name (i := 3) scGreatest.nd rfl (Or.inl rfl)) (pss_one ps_never)) (pss_one ps_never)), ?_⟩
    have up := same_new (o := .tup ws) hp
    exact ⟨_, rfl, p, ws, v, rfl, upd_same, bad.same up, out.same up⟩
end
end K18
set_option maxHeartbeats 1000000
/-! str(a), a an own instance. -/
namespace GL
open PySem PySem.Spec PyProof.Rows L2
theorem call_strO {X : Cx} {CX : CXT} {E : XK} {k : Nat} {sp : Sp} {C f : Addr} (B : Meth X.K C "__str__" f) (F : FnR X.prog X.w X.K X.mg X.base CX k f sp) (hr : Room (k + 2) X.A) (hx : Passes CX X E) :
    CallR X (.type "str") (fun xs H Q => ∃ a dx fs, xs = [.ref a] ∧ H a = some (.ins C dx fs) ∧ sp [.ref a] H (fun v H' => ∃ z, v = .str z ∧ Q v H') E) := by
  intro pins s σ H xs us Q I r h
  obtain ⟨a, dx, fs, rfl, ea, q⟩ := h
  cases r with
  | cons r1 r2 =>
    cases r2
    rename_i u
    cases (show u = Value.ref a from r1)
    obtain ⟨ox, od, J⟩ := inst_of I ea
    have e0 : Env0 X.prog X.w X.K X.mg X.base X.A.in1.in1 X.stack s H := { I.env0 with frames := I.env0.frames }
    have run := F X.A.in1.in1 X.stack s H [.ref a] [.ref a] _ E (Room.in1 (Room.in1 hr)) e0 (Paired.cons (a := V.ref a) (b := Value.ref a) rfl .nil) q
    have hu : X.A.in1.in1.units < cLine := by
      have := (Room.in1 (Room.in1 hr)).un
      omega
    refine PySem.W.kso_call hu I.kIn J B.at_ B.fn (wpAny_call (codeAny_mono run fun r' s' z => ?_))
    match r', z with
    | .error er, z => exact hx pins σ H s er s' I z
    | .ok .next, z => exact False.elim z
    | .ok .brk, z => exact False.elim z
    | .ok .cont, z => exact False.elim z
    | .ok (.ret w), z =>
      obtain ⟨v, H', I', rv, y, rfl, q'⟩ := I.after z
      obtain ⟨t, rfl⟩ := (show ∃ t, w = Value.str y t from rv)
      exact ⟨V.str y, H', I', rv, q'⟩
end GL
set_option maxHeartbeats 4000000
namespace K18
open PySem PySem.Spec PyProof.Rows L2 GL
abbrev sText : Stmt := tp 23
abbrev sMade : Stmt := tp 24
/-- the text of a number -/
def strQ (q : Rat) : Str := if q.den = 1 then Str.ofString (toString q.num) else ((Str.empty ++ Str.ofString (toString q.num)) ++ "/") ++ Str.ofString (toString (q.den : Int))
section
variable {P : Program} {w : World} {K : PySem.W.Frag} {mg : Str → Option Value} {base : Heap}
theorem ok_strQ {f : Addr} {fd : FuncData} (F : FunD K "__str__" "Ratio.__str__" (defArgs (sRatio 14)) (defBody (sRatio 14)) (defScope (sRatio 14)) [] [] f fd) (T : RF K mg) (sT : mg "str" = none) : FnOk P w K mg base CX0 1 f fd ["self"] (fun vs H Q _ => ∃ (a : Addr) (q : Rat), vs = [.ref a] ∧ RatAt K H a q ∧ Sz 900 q ∧ Q (.str (strQ q)) H) := by
  have sc : FnScope ["self"] ["self"] (defScope (sRatio 14)) := ⟨rfl, rfl, rfl, by decide +kernel, rfl, by decide +kernel, by decide +kernel⟩
  refine F.ok sc (fun vs H Q E h => ?_) (fun cdv A outer s H vs Q E hr h => ?_)
  · obtain ⟨a, q, rfl, _⟩ := h
    rfl
  · obtain ⟨a, q, rfl, ⟨d, e⟩, sz, k⟩ := h
    refine ⟨_, pss_cons (ps_if (pt_cmpR op_eq (pe_fld (pv 0) rfl) pe_int (nomark _)) (pss_one (ps_ret (pe_callTy call_str_int (by rfl) sT (by decide +kernel) (pa_cons (pe_fld (pv 0) rfl) pa_nil)))) pss_nil)
      (pss_one (ps_ret (pe_joined (.cons (pe_fmt (pe_fld (pv 0) rfl)) (.cons pe_str (.cons (pe_fmt (pe_fld (pv 0) rfl)) .nil)))))), ?_⟩
    have l1 : q.num.natAbs.log2 < 1920 := Nat.lt_trans (log2_lt sz.1 (by decide)) (by decide)
    have l2 : (q.den : Int).natAbs.log2 < 1920 := Nat.lt_trans (log2_lt sz.den (by decide)) (by decide)
    refine ⟨_, rfl, a, _, d, _, _, rfl, e, T.cl, T.nB, rfl, rfl, _, rfl, ?_⟩
    refine ite2 (fun c => ?_) (fun c => ?_)
    · have c1 : q.den = 1 := by
        have z := of_decide_eq_true c
        injection z with z
        omega
      unfold strQ at k
      rw [if_pos c1] at k
      exact ⟨_, rfl, a, _, d, _, _, rfl, e, T.cl, T.nT, rfl, _, rfl, l1, k⟩
    · have c1 : ¬ q.den = 1 := fun z => c (decide_eq_true (by rw [z]; rfl))
      unfold strQ at k
      rw [if_neg c1] at k
      refine ⟨_, rfl, a, _, d, _, _, rfl, e, T.cl, T.nT, rfl, .inr ⟨_, rfl, l1, ?_⟩⟩
      have n1 : (Str.ofString (toString q.num)).length ≤ 1921 := by
        rw [PySem.ofString_length]
        exact int_text_length_le (by decide) l1
      have n2 : (Str.ofString (toString (q.den : Int))).length ≤ 1921 := by
        rw [PySem.ofString_length]
        exact int_text_length_le (by decide) l2
      have n0 : (Str.ofString "/").length = 1 := by decide +kernel
      have e0 : Str.empty.length = 0 := rfl
      have line := sizeLine_eq
      refine ⟨_, rfl, by rw [strLen_append]; omega, ?_⟩
      refine ⟨_, rfl, by rw [strLen_append, strLen_append]; omega, ?_⟩
      refine ⟨_, rfl, a, _, d, _, _, rfl, e, T.cl, T.nB, rfl, .inr ⟨_, rfl, l2, ?_⟩⟩
      refine ⟨_, rfl, by rw [strLen_append, strLen_append, strLen_append]; omega, ?_⟩
      exact k
/-! ### the law's own text -/
def spText (K : PySem.W.Frag) : Sp := fun vs H Q _ => ∃ (t : Addr) (q : Rat), vs = [.ref t] ∧ PartAt H t q ∧ Sz 900 q ∧ Q (.str (strQ q)) H
theorem scText : FnScope ["_law_part"] ["_law_part"] (defScope sText) := ⟨rfl, rfl, rfl, by decide +kernel, rfl, by decide +kernel, by decide +kernel⟩
theorem ok_text {f : Addr} {fd : FuncData} (F : Fun K "_law_text" "_law_text" sText f fd) (M : Free mg) : FnOk P w K mg base CX0 1 f fd ["_law_part"] (spText K) := by
  refine F.ok scText (fun vs H Q E h => ?_) (fun cdv A outer s H vs Q E hr h => ?_)
  · obtain ⟨t, q, rfl, _⟩ := h
    rfl
  · obtain ⟨t, q, rfl, ht, sz, k⟩ := h
    refine ⟨_, pss_one (ps_ret (pe_op op_add_str (pe_callTy call_str_int (by rfl) M.str (by decide +kernel) (pa_cons (pe_ix ix_tup (pv 0) pe_int (fun _ _ => rfl)) pa_nil))
      (pe_ifExp (pt_cmpR op_ne (pe_ix ix_tup (pv 0) pe_int (fun _ _ => rfl)) pe_int (nomark _)) (pe_op op_add_str pe_str (pe_callTy call_str_int (by rfl) M.str (by decide +kernel) (pa_cons (pe_ix ix_tup (pv 0) pe_int (fun _ _ => rfl)) pa_nil))) pe_str))), ?_⟩
    have l1 : q.num.natAbs.log2 < 1920 := Nat.lt_trans (log2_lt sz.1 (by decide)) (by decide)
    have l2 : (q.den : Int).natAbs.log2 < 1920 := Nat.lt_trans (log2_lt sz.den (by decide)) (by decide)
    have n1 : (Str.ofString (toString q.num)).length ≤ 1921 := by
      rw [PySem.ofString_length]
      exact int_text_length_le (by decide) l1
    have n2 : (Str.ofString (toString (q.den : Int))).length ≤ 1921 := by
      rw [PySem.ofString_length]
      exact int_text_length_le (by decide) l2
    have n0 : (Str.ofString "/").length = 1 := by decide +kernel
    have e0 : (Str.ofString "").length = 0 := by decide +kernel
    have line := sizeLine_eq
    refine ⟨_, rfl, t, _, _, _, rfl, rfl, SqT.of ht, rfl, _, rfl, l1, ?_⟩
    refine ⟨_, rfl, t, _, _, _, rfl, rfl, SqT.of ht, rfl, rfl, _, rfl, ?_⟩
    refine ite2 (fun c => ?_) (fun c => ?_)
    · have c1 : ¬ q.den = 1 := by
        intro z
        rw [z] at c
        revert c
        decide +kernel
      refine ⟨_, rfl, t, _, _, _, rfl, rfl, SqT.of ht, rfl, _, rfl, l2, _, _, rfl, rfl, by omega, _, _, rfl, rfl, by rw [strLen_append]; omega, ?_⟩
      unfold strQ at k
      rw [if_neg c1, PySem.Str.empty_append, PySem.Str.append_assoc] at k
      exact k
    · have c1 : q.den = 1 := by
        apply Decidable.byContradiction
        intro z
        apply c
        have : decide (V.int (q.den : Int) = V.int 1) = false := decide_eq_false fun y => z (by injection y with y; omega)
        rw [this]
        rfl
      refine ⟨_, _, rfl, rfl, by omega, ?_⟩
      unfold strQ at k
      rw [if_pos c1] at k
      have e : Str.ofString (toString q.num) ++ Str.ofString "" = Str.ofString (toString q.num) := by
        have z : Str.ofString "" = Str.empty := by decide +kernel
        rw [z, PySem.Str.append_empty]
      show Q (.str (Str.ofString (toString q.num) ++ Str.ofString "")) H
      rw [e]
      exact k
/-! ### a Ratio, made otherwise -/
def spMade (K : PySem.W.Frag) : Sp := fun vs H Q _ => ∃ (p t : Addr) (q : Rat), vs = [.ref p, .ref t] ∧ Rng H p ∧ PartAt H t q ∧ Sz 1000 q ∧ ∀ a H', Same (off H p) H' → Rng H' p → RatAt K H' a q → Q (.ref a) H'
theorem scMade : FnScope ["_law_rng_here", "_law_part", "_law_by"] ["_law_rng_here", "_law_part"] (defScope sMade) := ⟨rfl, rfl, rfl, by decide +kernel, rfl, by decide +kernel, by decide +kernel⟩
theorem divInt_by {q : Rat} {b : Int} (hb : b ≠ 0) : Rat.divInt (q.num * b) ((q.den : Int) * b) = q := by
  rw [Rat.divInt_mul_right hb, Rat.num_divInt_den]
theorem ok_made {f : Addr} {fd : FuncData} (F : Fun K "_law_made" "_law_made" sMade f fd) (D : DA P w K mg base) (G : RG P w K mg base) : FnOk P w K mg base CX0 4 f fd ["_law_rng_here", "_law_part"] (spMade K) := by
  obtain ⟨fC, fdC, GC, gC, bC, kC⟩ := D.choice
  obtain ⟨fR, fdR, dd, MR, GR, vd, bR, bR0⟩ := G.mR
  have T := G.T
  refine F.ok scMade (fun vs H Q E h => ?_) (fun cdv A outer s H vs Q E hr h => ?_)
  · obtain ⟨p, t, q, rfl, _⟩ := h
    rfl
  · obtain ⟨p, t, q, rfl, R, ht, sq, k⟩ := h
    refine ⟨_, pss_cons (ps_set (i := 2) scMade.nd rfl (Or.inl rfl) (pe_call GC (hr.mono (by decide)) rfl gC kC bC .nil pass0 (pa_cons (pv 0) (pa_cons (pe_lst (pa_cons pe_int (pa_cons pe_int (pa_cons pe_int (pa_cons (pe_un un_neg pe_int) (pa_cons (pe_un un_neg pe_int) (pa_cons (pe_op op_pow pe_int pe_int) pa_nil))))))) pa_nil))))
      (pss_one (ps_ret (pe_make MR GR hr rfl T.gR bR0 .nil pass0 (pa_cons (pe_op op_mul (pe_ix ix_tup (pv 1) pe_int (fun _ _ => rfl)) (pv 2)) (pa_cons (pe_op op_mul (pe_ix ix_tup (pv 1) pe_int (fun _ _ => rfl)) (pv 2)) pa_nil))))), ?_⟩
    refine ⟨_, rfl, _, rfl, _, rfl, _, _, rfl, rfl, ⟨by decide, by decide, by decide⟩, (by show 6 ≤ sizeLine; decide), fun l nl => ?_⟩
    have u1 := same_new (o := .lst [V.int 1, .int 1, .int 2, .int (-1), .int (-3), .int (10 ^ (9 : Int).toNat)]) nl
    have tp_ : t ≠ p := R.ne ht
    obtain ⟨x0, y0, ep, _⟩ := id R
    have lp : l ≠ p := (ne_of_none ep nl).symm
    refine ⟨p, l, _, rfl, R.same u1, upd_same, lp, (by show 0 < 6; decide), (by show 6 < 1000; decide), fun v H2 hv k2 R2 => ?_⟩
    have o2 : Same (off H p) H2 := fun b o e => k2 b o (u1 b o (off_some e).2) (off_some e).1
    have ht2 : H2 t = some (.tup [.int q.num, .int (q.den : Int)]) := o2 t _ (by rw [off_ne tp_]; exact ht)
    obtain ⟨i, rfl, i0, il, ih⟩ : ∃ i : Int, v = .int i ∧ i ≠ 0 ∧ -(2 ^ 40) < i ∧ i < 2 ^ 40 := by
      simp only [List.mem_cons, List.not_mem_nil, or_false] at hv
      rcases hv with rfl | rfl | rfl | rfl | rfl | rfl <;> exact ⟨_, rfl, by decide, by decide, by decide⟩
    have cm : ∀ x : Int, CMul x i := fun x => .inr ⟨by omega, by omega⟩
    refine ⟨_, rfl, t, _, _, _, rfl, rfl, SqT.of ht2, rfl, _, rfl, _, _, rfl, rfl, cm _, _, rfl, t, _, _, _, rfl, rfl, SqT.of ht2, rfl, _, rfl, _, _, rfl, rfl, cm _, ?_⟩
    intro x dz hx hd ne
    have iz : i.natAbs < 2 ^ 40 := by omega
    refine made_rat hx hd ne (Int.mul_ne_zero (den_ne q) i0) (Nat.lt_of_lt_of_le (mul_lt (by rw [Int.natAbs_natCast]; exact sq.den) iz) (Nat.pow_le_pow_right (by decide) (by decide))) fun a H3 k3 _ ha => ?_
    rw [divInt_by i0] at ha
    exact k a H3 (fun b o e => k3 b o (o2 b o e)) (R2.same k3) ha
end
end K18
set_option maxHeartbeats 4000000
set_option pp.maxSteps 400
namespace K18
open PySem PySem.Spec PyProof.Rows L2 GL
abbrev sAlone : Stmt := tp 25
def spStrQ (K : PySem.W.Frag) : Sp := fun vs H Q _ => ∃ (a : Addr) (q : Rat), vs = [.ref a] ∧ RatAt K H a q ∧ Sz 900 q ∧ Q (.str (strQ q)) H
/-- what the checks of one number need -/
structure LA (P : Program) (w : World) (K : PySem.W.Frag) (mg : Str → Option Value) (base : Heap) : Prop where
  Z : IsF P w K mg base
  RR : RepF P w K mg base
  is : DefG P w K mg base "_law_is" 3 ["_law_made_here", "_law_part"] (spIs K)
  made : DefF P w K mg base "_law_made" 4 ["_law_rng_here", "_law_part"] (spMade K)
  neg : ∃ f, Meth K (aR K) "__neg__" f ∧ FnR P w K mg base CX0 4 f (spNeg K)
  sign : PropX P w K mg base (aR K) "sign" (spSign K)
  str : ∃ f, Meth K (aR K) "__str__" f ∧ FnR P w K mg base CX0 1 f (spStrQ K)
  text : DefF P w K mg base "_law_text" 1 ["_law_part"] (spText K)
  nT : PySem.W.notFirst K (aR K) (.type "tuple") = true
  nI : PySem.W.notFirst K (aR K) (.type "int") = true
  tT : PySem.W.kitOne K (.type "tuple") (.ref (aR K)) = some false
section
variable {P : Program} {w : World} {K : PySem.W.Frag} {mg : Str → Option Value} {base : Heap}
theorem eqR {H : Hp} {x y : Addr} {q r : Rat} {Q : VK} {E : XK} (T : RF K mg) (hx : RatAt K H x q) (hy : RatAt K H y r) (k : Q (.bl (decide (q = r))) H) : rOwnE K (aR K) (spREq K) E (.ref x) (.ref y) H Q := by
  obtain ⟨dx, ex⟩ := hx
  exact ⟨x, dx, _, .ref (aR K), rfl, ex, hy.ty T, (by unfold PySem.W.notFirst; rw [beq_self_eq_true, Bool.true_or]), x, .ref y, q, rfl, ⟨dx, ex⟩, .inl ⟨y, r, rfl, hy, k⟩⟩
theorem neR {H : Hp} {x y : Addr} {q r : Rat} {Q : VK} {E : XK} (T : RF K mg) (hx : RatAt K H x q) (hy : RatAt K H y r) (k : Q (.bl !(decide (q = r))) H) : rOwnN K (aR K) (spREq K) E (.ref x) (.ref y) H Q := by
  obtain ⟨dx, ex⟩ := hx
  exact ⟨x, dx, _, .ref (aR K), rfl, ex, hy.ty T, (by unfold PySem.W.notFirst; rw [beq_self_eq_true, Bool.true_or]), x, .ref y, q, rfl, ⟨dx, ex⟩, .inl ⟨y, r, rfl, hy, _, rfl, k⟩⟩
theorem eqO_no {H : Hp} {x : Addr} {y : V} {t : Value} {q : Rat} {Q : VK} {E : XK} (hx : RatAt K H x q) (ty : TyX K H y t) (nf : PySem.W.notFirst K (aR K) t = true) (no : PySem.W.kitOne K t (.ref (aR K)) = some false) (k : Q (.bl false) H) : rOwnE K (aR K) (spREq K) E (.ref x) y H Q := by
  obtain ⟨dx, ex⟩ := hx
  exact ⟨x, dx, _, t, rfl, ex, ty, nf, x, y, q, rfl, ⟨dx, ex⟩, .inr ⟨t, ty, no, k⟩⟩
theorem neO_no {H : Hp} {x : Addr} {y : V} {t : Value} {q : Rat} {Q : VK} {E : XK} (hx : RatAt K H x q) (ty : TyX K H y t) (nf : PySem.W.notFirst K (aR K) t = true) (no : PySem.W.kitOne K t (.ref (aR K)) = some false) (k : Q (.bl true) H) : rOwnN K (aR K) (spREq K) E (.ref x) y H Q := by
  obtain ⟨dx, ex⟩ := hx
  exact ⟨x, dx, _, t, rfl, ex, ty, nf, x, y, q, rfl, ⟨dx, ex⟩, .inr ⟨t, ty, no, _, rfl, k⟩⟩
theorem rne_refl {x : V} {H : Hp} {Q : VK} (h : scal x x = true) (k : Q (.bl false) H) : rNe x x H Q := ⟨h, by rw [decide_eq_true (rfl : x = x)]; exact k⟩
theorem made_ratR {H : Hp} {R : VK} {E : XK} {x dx : Addr} {t b : Int} (hx : H x = none) (hd : H dx = none) (hb : b ≠ 0) (hz : b.natAbs < 2 ^ 9000) (k : ∀ H', Same H H' → RatAt K H' x (Rat.divInt t b) → R .non H') :
    spRInit K [.ref x, .int t, .int b] (upd (upd H dx (.own x)) x (.ins (aR K) dx [])) R E :=
  ⟨x, dx, t, b, rfl, hb, hz, upd_same, fun H' e kp => k H' (fun c o ec => kp c o (ne_of_none ec hx) (by rw [upd_ne (ne_of_none ec hx), upd_ne (ne_of_none ec hd)]; exact ec)) ⟨dx, e⟩⟩
theorem made_ratQ {H : Hp} {R : VK} {E : XK} {x dx : Addr} {q : Rat} {n : Nat} (hx : H x = none) (hd : H dx = none) (sq : Sz n q) (hn : n ≤ 9000) (k : ∀ H', Same H H' → RatAt K H' x q → R .non H') :
    spRInit K [.ref x, .int q.num, .int (q.den : Int)] (upd (upd H dx (.own x)) x (.ins (aR K) dx [])) R E :=
  made_ratR hx hd (den_ne q) (by rw [Int.natAbs_natCast]; exact Nat.lt_of_lt_of_le sq.den (Nat.pow_le_pow_right (by decide) hn)) fun H' s r => by rw [Rat.num_divInt_den] at r; exact k H' s r
theorem sign_is (n : Int) : (if decide (0 < n) = true then (1 : Int) else 0) - (if decide (n < 0) = true then 1 else 0) = n.sign := by
  rcases Int.lt_trichotomy n 0 with h | h | h
  · rw [Int.sign_eq_neg_one_of_neg h, if_neg (by simp; omega), if_pos (by simpa using h)]
    rfl
  · subst h
    rfl
  · rw [Int.sign_eq_one_of_pos h, if_pos (by simpa using h), if_neg (by simp; omega)]
    rfl
def spAlone (K : PySem.W.Frag) : Sp := fun vs H Q _ => ∃ (p t : Addr) (q : Rat), vs = [.ref p, .ref t] ∧ Rng H p ∧ PartAt H t q ∧ Sz 200 q ∧ ∀ H', Same (off H p) H' → Rng H' p → Q (.bl true) H'
abbrev nAlone : List Str := ["_law_rng_here", "_law_part", "_law_made_here"]
theorem scAlone : FnScope nAlone ["_law_rng_here", "_law_part"] (defScope sAlone) := ⟨rfl, rfl, rfl, by decide +kernel, rfl, by decide +kernel, by decide +kernel⟩
theorem ok_alone {f : Addr} {fd : FuncData} (F : Fun K "_law_alone_right" "_law_alone_right" sAlone f fd) (X : LA P w K mg base) : FnG P w K mg base CX0 5 f fd ["_law_rng_here", "_law_part"] (spAlone K) := by
  obtain ⟨fI, fdI, GI, gI, bI, kI⟩ := X.is
  obtain ⟨fM, fdM, GM, gM, bM, kM⟩ := X.made
  obtain ⟨fN, mN, FN⟩ := X.neg
  obtain ⟨p1, g1, fd1, P1, G1, b1⟩ := X.sign
  obtain ⟨fS, mS, FS⟩ := X.str
  obtain ⟨fT, fdT, GT, gT, bT, kT⟩ := X.text
  obtain ⟨fU, fdU, GU, gU, bU, kU⟩ := X.Z.I.isNum
  obtain ⟨fE, oE, GE⟩ := X.Z.I.eq
  obtain ⟨mc, pp, fo, cr, cm, GO⟩ := X.Z.I.R.of
  obtain ⟨fR, fdR, dd, MR, GR, vd, bR, bR0⟩ := X.Z.I.R.G.mR
  have T := X.Z.I.R.G.T
  have kr := X.Z.I.R.G.kr
  have M := X.Z.D.F
  have S := X.Z.S
  refine Fun.okG F scAlone (fun vs H Q E h => ?_) (fun cdv A outer s H vs Q E gd hr h => ?_)
  · obtain ⟨p, t, q, rfl, _⟩ := h
    rfl
  · obtain ⟨p, t, q, rfl, R, ht, sq, k⟩ := h
    have r1 : Room 1 _ := hr.mono (by decide)
    have r2 : Room 2 _ := hr.mono (by decide)
    have r3 : Room 3 _ := hr.mono (by decide)
    have hu := hr.units
    refine ⟨_, pss_cons (ps_set (i := 2) scAlone.nd rfl (Or.inl rfl) (pe_call GM hr rfl gM kM bM .nil pass0 (pa_cons (pv 0) (pa_cons (pv 1) pa_nil))))
      (pss_cons (ps_if (PW.pt (pw_or (pt_not (pt_val (pe_callG GI gd r3 rfl gI kI bI .nil pass0 (pa_cons (pv 2) (pa_cons (pv 1) pa_nil)))))
          (pw_or (pt_not (pt_val (pe_callG GI gd r3 rfl gI kI bI .nil pass0 (pa_cons (pe_un (un_own mN FN hr pass0) (pv 2)) (pa_cons (pe_tup (pa_cons (pe_un un_neg (pe_ix ix_tup (pv 1) pe_int (fun _ _ => rfl))) (pa_cons (pe_ix ix_tup (pv 1) pe_int (fun _ _ => rfl)) pa_nil))) pa_nil)))))
          (pw_or1 (pt_not (pt_val (pe_call GU r2 rfl gU kU bU .nil pass0 (pa_cons (pv 2) pa_nil)))))))) (pss_one (ps_ret pe_bl)) pss_nil)
      (pss_cons (ps_if (PW.pt (pw_or (pt_cmpR op_ne (pe_callB (call_reprV S gd hu) (by rfl) M.repr (by decide +kernel) (pa_cons (pe_prop (pv 2) T.cl P1 G1 r2 b1 .nil pass0 rfl) pa_nil))
            (pe_callB (call_reprV S gd hu) (by rfl) M.repr (by decide +kernel) (pa_cons (pe_op op_sub (pe_callTy call_int1 (by rfl) M.int (by decide +kernel) (pa_cons (pe_cmpR op_gt (pe_ix ix_tup (pv 1) pe_int (fun _ _ => rfl)) pe_int (nomark _)) pa_nil))
              (pe_callTy call_int1 (by rfl) M.int (by decide +kernel) (pa_cons (pe_cmpR op_lt (pe_ix ix_tup (pv 1) pe_int (fun _ _ => rfl)) pe_int (nomark _)) pa_nil))) pa_nil)) (nomark _))
          (pw_or1 (pt_cmpR op_ne (pe_callTy (call_strO mS FS r3 pass0) (by rfl) M.str (by decide +kernel) (pa_cons (pv 2) pa_nil)) (pe_call GT r1 rfl gT kT bT .nil pass0 (pa_cons (pv 1) pa_nil)) (nomark _))))) (pss_one (ps_ret pe_bl)) pss_nil)
      (pss_cons (ps_if (pt_cmpR op_ne (pe_callB (call_repZ S X.RR gd ⟨hr.dp, hr.un⟩) (by rfl) M.repr (by decide +kernel) (pa_cons (pv 2) pa_nil))
          (pe_op op_add_str (pe_op op_add_str (pe_op op_add_str (pe_op op_add_str pe_str (pe_callTy call_str_int (by rfl) M.str (by decide +kernel) (pa_cons (pe_ix ix_tup (pv 1) pe_int (fun _ _ => rfl)) pa_nil))) pe_str) (pe_callTy call_str_int (by rfl) M.str (by decide +kernel) (pa_cons (pe_ix ix_tup (pv 1) pe_int (fun _ _ => rfl)) pa_nil))) pe_str) (nomark _)) (pss_one (ps_ret pe_bl)) pss_nil)
      (pss_cut (ps_if (PW.pt (pw_and (pt_cmpR op_eq (pe_ix ix_tup (pv 1) pe_int (fun _ _ => rfl)) pe_int (nomark _)) (pw_and1 (PW.pt (pw_or (pt_not (pt_val (pe_callG GI gd r3 rfl gI kI bI .nil pass0 (pa_cons (ClX.pe_cmeth (pe_glob (v := .ref (aR K)) rfl T.gR rfl) cr cm GO hr pass0 (pa_cons (pe_ix ix_tup (pv 1) pe_int (fun _ _ => rfl)) pa_nil)) (pa_cons (pv 1) pa_nil)))))
          (pw_or1 (pt_not (pt_val (pe_callG GI gd r3 rfl gI kI bI .nil pass0 (pa_cons (pe_make MR GR r3 rfl T.gR bR vd pass0 (pa_cons (pe_ix ix_tup (pv 1) pe_int (fun _ _ => rfl)) pa_nil)) (pa_cons (pv 1) pa_nil))))))))))) (pss_one (ps_ret pe_bl)) pss_nil)
      (pss_cons (ps_if (PW.pt (pw_or (pt_cmpR (op_eqO oE GE r1 pass0) (pv 2) (pv 1) (nomark _)) (pw_or (pt_cmpR (op_eqO oE GE r1 pass0) (pv 2) (pe_ix ix_tup (pv 1) pe_int (fun _ _ => rfl)) (nomark _)) (pw_or1 (pt_not (pt_cmpR (op_neO oE GE r2 pass0) (pv 2) (pe_ix ix_tup (pv 1) pe_int (fun _ _ => rfl)) (nomark _))))))) (pss_one (ps_ret pe_bl)) pss_nil)
      (pss_one (ps_ret (pe_and (pe_cmpR (op_eqO oE GE r1 pass0) (pv 2) (pe_make MR GR r3 rfl T.gR bR0 .nil pass0 (pa_cons (pe_ix ix_tup (pv 1) pe_int (fun _ _ => rfl)) (pa_cons (pe_ix ix_tup (pv 1) pe_int (fun _ _ => rfl)) pa_nil))) (nomark _))
        (pe_one (pe_callG GI gd r3 rfl gI kI bI .nil pass0 (pa_cons (ClX.pe_cmeth (pe_glob (v := .ref (aR K)) rfl T.gR rfl) cr cm GO hr pass0 (pa_cons (pv 2) pa_nil)) (pa_cons (pv 1) pa_nil)))))))))))), ?_⟩
    have tp_ : t ≠ p := R.ne ht
    have s9 : Sz 900 q := sq.mono (by decide)
    have l1 : q.num.natAbs.log2 < 1920 := Nat.lt_trans (log2_lt sq.1 (by decide)) (by decide)
    have l2 : (q.den : Int).natAbs.log2 < 1920 := Nat.lt_trans (log2_lt sq.den (by decide)) (by decide)
    refine ⟨_, rfl, _, rfl, p, t, q, rfl, R, ht, sq.mono (by decide), fun a H1 k1 R1 ha1 => ?_⟩
    obtain ⟨C, hC⟩ : ∃ C : Hp → Prop, ∀ G, C G ↔ (Same (off H p) G ∧ Rng G p ∧ RatAt K G a q ∧ PartAt G t q) := ⟨_, fun _ => Iff.rfl⟩
    have st : ∀ {G G' : Hp}, C G → Same G G' → C G' := by
      intro G G' c s
      obtain ⟨c1, c2, c3, c4⟩ := (hC _).mp c
      exact (hC _).mpr ⟨fun b o e => s b o (c1 b o e), c2.same s, c3.same s, s _ _ c4⟩
    have C1 : C H1 := (hC _).mpr ⟨k1, R1, ha1, k1 t _ (by rw [off_ne tp_]; exact ht)⟩
    have aT : ∀ {G : Hp}, C G → SqT K G t [.int q.num, .int (q.den : Int)] := fun c => SqT.of ((hC _).mp c).2.2.2
    have aR_ : ∀ {G : Hp}, C G → RatAt K G a q := fun c => ((hC _).mp c).2.2.1
    have aP : ∀ {G : Hp}, C G → PartAt G t q := fun c => ((hC _).mp c).2.2.2
    clear ha1 R1 k1 R ht
    -- it is the number, and its opposite
    refine ⟨_, rfl, _, rfl, a, t, q, rfl, aR_ C1, aP C1, sq.mono (by decide), fun H2 k2 => ⟨_, rfl, iteF ?_⟩⟩
    have C2 := st C1 k2
    obtain ⟨d2, e2⟩ := aR_ C2
    refine ⟨_, rfl, a, d2, _, rfl, e2, a, q, rfl, aR_ C2, sq.mono (by decide), fun b H3 k3 hb => ?_⟩
    have C3 := st C2 k3
    refine ⟨_, rfl, t, _, _, _, rfl, rfl, aT C3, rfl, _, rfl, _, rfl, t, _, _, _, rfl, rfl, aT C3, rfl, (by show 2 ≤ sizeLine; decide), fun u nu => ?_⟩
    have u3 := same_new (o := .tup [V.int (-q.num), .int (q.den : Int)]) nu
    have hu3 : PartAt (upd H3 u (.tup [V.int (-q.num), .int (q.den : Int)])) u (rNeg q) := by
      rw [rNeg_eq]
      exact upd_same
    have C4 := st C3 u3
    have hb4 := hb.same u3
    generalize upd H3 u (.tup [V.int (-q.num), .int (q.den : Int)]) = H4 at *
    have sn : Sz 1900 (rNeg q) := by
      rw [rNeg_eq]
      exact ⟨by rw [show (-q).num = -q.num from rfl, Int.natAbs_neg]; exact (sq.mono (by decide : 200 ≤ 1900)).1, (sq.mono (by decide : 200 ≤ 1900)).2⟩
    refine ⟨b, u, rNeg q, rfl, hb4, hu3, sn, fun H5 k5 => ⟨_, rfl, iteF ?_⟩⟩
    have C5 := st C4 k5
    refine ⟨_, rfl, .ref a, q, rfl, .inr ⟨a, rfl, aR_ C5⟩, true, rfl, iteF ?_⟩
    -- its sign, its text
    obtain ⟨d5, e5⟩ := aR_ C5
    have lS : q.num.sign.natAbs.log2 < 1920 := by
      have : q.num.sign.natAbs ≤ 1 := by
        rcases Int.sign_trichotomy q.num with h | h | h <;> rw [h] <;> decide
      have : q.num.sign.natAbs.log2 ≤ 1 := by
        rcases Nat.le_one_iff_eq_zero_or_eq_one.mp this with h | h <;> rw [h] <;> decide +kernel
      omega
    obtain ⟨sh1, sh2, sh3⟩ := shown_int lS
    have line := sizeLine_eq
    refine ⟨_, rfl, a, d5, _, rfl, e5, a, q, rfl, aR_ C5, .int q.num.sign, .int q.num.sign, rfl, .int _, sh1, by omega, by omega, ?_⟩
    refine ⟨_, rfl, t, _, _, _, rfl, rfl, aT C5, rfl, _, _, rfl, rfl, .inr ⟨_, rfl, _, rfl, t, _, _, _, rfl, rfl, aT C5, rfl, _, _, rfl, rfl, .inr ⟨_, rfl, _, _, rfl, rfl, ?_⟩⟩⟩
    refine ⟨_, .int q.num.sign, rfl, (by rw [← sign_is]; exact .int _), sh1, by omega, by omega, rne_refl rfl ⟨_, rfl, iteF ?_⟩⟩
    refine ⟨_, rfl, a, d5, _, rfl, e5, a, q, rfl, aR_ C5, s9, _, rfl, _, rfl, t, q, rfl, aP C5, s9, rne_refl rfl ⟨_, rfl, iteF ?_⟩⟩
    -- how it is shown
    have n1 : (Str.ofString (toString q.num)).length ≤ 1921 := by
      rw [PySem.ofString_length]
      exact int_text_length_le (by decide) l1
    have n2 : (Str.ofString (toString (q.den : Int))).length ≤ 1921 := by
      rw [PySem.ofString_length]
      exact int_text_length_le (by decide) l2
    have m0 : (Str.ofString "Ratio(").length = 6 := by decide +kernel
    have m1 : (Str.ofString ", ").length = 2 := by decide +kernel
    have m2 : (Str.ofString ")").length = 1 := by decide +kernel
    refine ⟨_, rfl, .ref a, reprQ q, rfl, .inr (.inr ⟨a, q, rfl, aR_ C5, s9, rfl⟩), ?_⟩
    refine ⟨_, rfl, t, _, _, _, rfl, rfl, aT C5, rfl, _, rfl, l1, _, _, rfl, rfl, by omega, _, _, rfl, rfl, by rw [strLen_append]; omega, ?_⟩
    refine ⟨_, rfl, t, _, _, _, rfl, rfl, aT C5, rfl, _, rfl, l2, _, _, rfl, rfl, by rw [strLen_append, strLen_append]; omega, _, _, rfl, rfl, by rw [strLen_append, strLen_append, strLen_append]; omega, ?_⟩
    have et : reprQ q = ((((Str.ofString "Ratio(") ++ Str.ofString (toString q.num)) ++ Str.ofString ", ") ++ Str.ofString (toString (q.den : Int))) ++ Str.ofString ")" := by
      unfold reprQ
      rw [PySem.Str.empty_append]
    rw [et]
    refine rne_refl rfl ⟨_, rfl, iteF ?_⟩
    -- whole numbers
    refine ⟨fun z G => z = [some (.ref p), some (.ref t), some (.ref a)] ∧ C G, ?_, ?_⟩
    · refine ⟨_, rfl, t, _, _, _, rfl, rfl, aT C5, rfl, rfl, _, rfl, ?_⟩
      refine ite2 (fun c => ?_) (fun c => ?_)
      · have c1 : q.den = 1 := by
          have z := of_decide_eq_true c
          injection z with z
          omega
        have qi : q = (q.num : Rat) := by
          refine Rat.ext ?_ ?_
          · rw [Rat.num_intCast]
          · rw [Rat.den_intCast]
            exact c1
        refine ⟨rfl, _, rfl, t, _, _, _, rfl, rfl, aT C5, rfl, .int q.num, q, rfl, .inl ⟨q.num, rfl, qi⟩, fun x H6 k6 hx => ?_⟩
        have C6 := st C5 k6
        refine ⟨_, rfl, x, t, q, rfl, hx, aP C6, sq.mono (by decide), fun H7 k7 => ⟨_, rfl, iteF ?_⟩⟩
        have C7 := st C6 k7
        refine ⟨_, rfl, t, _, _, _, rfl, rfl, aT C7, rfl, ?_⟩
        intro y dy ny ndy ney
        refine made_ratR ny ndy (by decide) (Nat.lt_of_lt_of_le (by decide : (1 : Int).natAbs < 2 ^ 1) (Nat.pow_le_pow_right (by decide) (by decide))) fun H8 k8 hy => ⟨rfl, ?_⟩
        have e1 : Rat.divInt q.num 1 = q := by
          have := Rat.num_divInt_den q
          rw [c1] at this
          exact this
        rw [e1] at hy
        have C8 := st C7 k8
        refine ⟨_, rfl, y, t, q, rfl, hy, aP C8, sq.mono (by decide), fun H9 k9 => ⟨_, rfl, iteF ?_⟩⟩
        exact ⟨rfl, st C8 k9⟩
      · exact iteF ⟨rfl, C5⟩
    rintro z G ⟨rfl, CG⟩
    -- what it is equal to
    refine ⟨_, rfl, _, rfl, eqO_no (aR_ CG) (.base (.tup ((hC _).mp CG).2.2.2)) X.nT X.tT ⟨_, rfl, iteF ?_⟩⟩
    refine ⟨_, rfl, _, rfl, t, _, _, _, rfl, rfl, aT CG, rfl, eqO_no (aR_ CG) (.base (.int _)) X.nI kr ⟨_, rfl, iteF ?_⟩⟩
    refine ⟨_, rfl, _, rfl, t, _, _, _, rfl, rfl, aT CG, rfl, neO_no (aR_ CG) (.base (.int _)) X.nI kr ⟨_, rfl, iteF ?_⟩⟩
    refine ⟨_, rfl, _, rfl, t, _, _, _, rfl, rfl, aT CG, rfl, _, rfl, t, _, _, _, rfl, rfl, aT CG, rfl, ?_⟩
    intro y dy ny ndy ney
    refine made_ratQ ny ndy sq (by decide) fun H8 k8 hy => ⟨rfl, ?_⟩
    have C8 := st CG k8
    refine eqR T (aR_ C8) hy ⟨_, rfl, ?_⟩
    rw [decide_eq_true rfl]
    refine iteT ?_
    refine ⟨rfl, _, rfl, .ref a, q, rfl, .inr ⟨a, rfl, aR_ C8⟩, fun x H9 k9 hx => ?_⟩
    have C9 := st C8 k9
    refine ⟨_, rfl, x, t, q, rfl, hx, aP C9, sq.mono (by decide), fun H10 k10 => ?_⟩
    obtain ⟨c1, c2, _, _⟩ := (hC _).mp (st C9 k10)
    exact k _ c1 c2
end
end K18
set_option maxHeartbeats 4000000
namespace K18
open PySem PySem.Spec PyProof.Rows L2 GL
abbrev sPair : Stmt := tp 26
/-! ### texts are made of signs -/
theorem strOk_of (s : String) : PyData.strOk (Str.ofString s) = true := by
  rw [Str.ofString_eq_toList]
  unfold PyData.strOk
  simp only [List.all_toArray, List.all_map, List.all_eq_true, Function.comp_apply, decide_eq_true_eq]
  intro c _
  have h := c.valid
  show c.val.toNat < 0x110000
  rcases h with h | ⟨_, h⟩
  · exact Nat.lt_trans h (by decide)
  · exact h
theorem strOk_app {a b : Str} (h : PyData.strOk a = true) (k : PyData.strOk b = true) : PyData.strOk (a ++ b) = true := by
  show PyData.strOk (Str.append a b) = true
  unfold PyData.strOk Str.append at *
  simp only [Array.all_append, Bool.and_eq_true]
  exact ⟨h, k⟩
theorem reprQ_ok (q : Rat) : PyData.strOk (reprQ q) = true := by
  have e : PyData.strOk Str.empty = true := by decide +kernel
  exact strOk_app (strOk_app (strOk_app (strOk_app (strOk_app e (strOk_of _)) (strOk_of _)) (strOk_of _)) (strOk_of _)) (strOk_of _)
theorem NumR.ok {K : PySem.W.Frag} {H : Hp} {v : V} {z : Str} (h : NumR K H v z) : PyData.strOk z = true := by
  rcases h with ⟨i, _, l, rfl⟩ | ⟨a, q, _, _, sz, rfl⟩
  · exact strOk_of _
  · exact reprQ_ok q
theorem numR_of {K : PySem.W.Frag} {H : Hp} {v : V} {q : Rat} (h : NumAt K H v q) (sz : Sz 900 q) : ∃ z, NumR K H v z := by
  rcases h with ⟨i, e, rfl⟩ | ⟨a, e, ha⟩
  · exact ⟨_, .inl ⟨i, e, Nat.lt_trans (log2_lt sz.1 (by decide)) (by decide), rfl⟩⟩
  · exact ⟨_, .inr ⟨a, q, e, ha, sz, rfl⟩⟩
/-! ### what stands behind tables -/
theorem RatAt.noT {K : PySem.W.Frag} {H : Hp} {a : Addr} {q : Rat} (h : RatAt K H a q) : RatAt K (GL.noT H) a q := by
  obtain ⟨d, e⟩ := h
  exact ⟨d, noT_at e fun _ z => nomatch z⟩
theorem NumAt.noT {K : PySem.W.Frag} {H : Hp} {v : V} {q : Rat} (h : NumAt K H v q) : NumAt K (GL.noT H) v q := by
  rcases h with h | ⟨a, e, h⟩
  · exact .inl h
  · exact .inr ⟨a, e, h.noT⟩
theorem RatAt.ext {K : PySem.W.Frag} {H H' : Hp} {g : Addr} {q : Rat} (h : RatAt K H g q) (k : LamX.ExtN H H') : RatAt K H' g q := h.noT.same (extN_same k)
theorem PartAt.ext {H H' : Hp} {a : Addr} {q : Rat} (h : PartAt H a q) (k : LamX.ExtN H H') : PartAt H' a q := k _ _ h fun _ z => by cases z
theorem NumAt.ext {K : PySem.W.Frag} {H H' : Hp} {v : V} {q : Rat} (h : NumAt K H v q) (k : LamX.ExtN H H') : NumAt K H' v q := h.noT.same (extN_same k)
theorem Rng.ext {H H' : Hp} {p : Addr} (h : Rng H p) (k : LamX.ExtN H H') : Rng H' p := by
  obtain ⟨x, y, e, r⟩ := h
  exact ⟨x, y, k _ _ e (fun _ z => by cases z), r⟩
/-- fractions of the law's own -/
def PartsL (H : Hp) (xs : List V) : Prop := ∀ v ∈ xs, ∃ t q, v = .ref t ∧ PartAt H t q ∧ Sz 200 q
theorem PartsL.same {H H' : Hp} {xs : List V} (h : PartsL H xs) (k : Same H H') : PartsL H' xs := fun v hv => by
  obtain ⟨t, q, e, m, s⟩ := h v hv
  exact ⟨t, q, e, m.same k, s⟩
theorem PartsL.offR {H : Hp} {p : Addr} {xs : List V} (h : PartsL H xs) (R : Rng H p) : PartsL (GL.off H p) xs := fun v hv => by
  obtain ⟨t, q, e, m, s⟩ := h v hv
  exact ⟨t, q, e, m.offR R, s⟩
theorem PartsL.ext {H H' : Hp} {xs : List V} (h : PartsL H xs) (k : LamX.ExtN H H') : PartsL H' xs := fun v hv => by
  obtain ⟨t, q, e, m, s⟩ := h v hv
  exact ⟨t, q, e, m.ext k, s⟩
def dP (q : Rat) : PyData := .tuple [.int q.num, .int (q.den : Int)]
theorem dP_eqv (q r : Rat) : PyData.eqv (dP q) (dP r) = decide (q = r) := by
  unfold dP
  simp only [PyData.eqv, PyData.eqvAll, Bool.and_true]
  by_cases c : q = r
  · subst c
    simp
  · rw [decide_eq_false c]
    rw [Bool.and_eq_false_iff]
    by_cases a : q.num = r.num
    · refine .inr (beq_eq_false_iff_ne.mpr fun z => c (Rat.ext a ?_))
      omega
    · exact .inl (beq_eq_false_iff_ne.mpr a)
theorem dP_shaped (q : Rat) : SeqAt.shaped (dP q) = true := rfl
theorem PartAt.dp {K : PySem.W.Frag} {H : Hp} {a : Addr} {q : Rat} (h : PartAt H a q) : Dp K H (.ref a) (dP q) := .tup (SqT.of h) (.cons (.int _) (.cons (.int _) .nil))
abbrev lamP : Str := "_law_pair_right.<locals>.<lambda>"
abbrev lamR : Str := "_law_refused_right.<locals>.<lambda>"
abbrev tbs (x y : Addr) : List (Addr × Str) := [(x, lamP), (y, lamR)]
def zD : PyData := .list [.str "zero", .bool true]
theorem zDp {K : PySem.W.Frag} {H : Hp} {r : Addr} (e : H r = some (.lst [.str "zero", .bl true])) : Dp K H (.ref r) zD := .lst (SqL.of e) (.cons (.str _) (.cons (.bl _) .nil))
theorem zD_eqv : PyData.eqv zD zD = true := by simp [zD, PyData.eqv, PyData.eqvAll]
theorem zD_shp : SeqAt.shaped zD = true := by decide +kernel
/-- what the checks of two numbers need -/
structure LP (P : Program) (w : World) (K : PySem.W.Frag) (mg : Str → Option Value) (base : Heap) : Prop where
  A : LA P w K mg base
  X : EF K mg
  told : ∃ f fd, Fun K "_law_told" "_law_told" sTold f fd ∧ mg "_law_told" = some (.ref f) ∧ Binds K fd ["_law_call"] []
  rl : DefF P w K mg base "_law_real" 4 ["_law_rng_here", "_law_part"] (spReal K)
  sm : DefF P w K mg base "_law_sum" 2 ["_law_near", "_law_far"] (spSum K)
  ls : DefF P w K mg base "_law_less" 1 ["_law_near", "_law_far"] (spLess K)
  add : ∃ f, OwnBin K (aR K) .Add f ∧ FnR P w K mg base CX0 5 f (spBin K rAdd fun _ _ => True)
  sub : ∃ f, OwnBin K (aR K) .Sub f ∧ FnR P w K mg base CX0 5 f (spBin K rSub fun _ _ => True)
  mul : ∃ f, OwnBin K (aR K) .Mult f ∧ FnR P w K mg base CX0 5 f (spBin K rMul fun _ _ => True)
  over : MetX P w K mg base (aR K) "over" 5 ["self", "other"] (spBin K rOver fun _ r => r.num ≠ 0)
  overZ : ∃ f fd, Meth K (aR K) "over" f ∧ FnOk P w K mg base (L2.CX P w) 5 f fd ["self", "other"] (spOverZ K) ∧ Binds K fd ["self", "other"] []
abbrev nPair : List Str := ["_law_rng_here", "_law_near", "_law_far", "_law_first", "_law_second", "_law_minus", "_law_ratio"]
def spPair (K : PySem.W.Frag) (tbp tbr : Addr) : Sp := fun vs H Q _ => ∃ (p s t : Addr) (q r : Rat), vs = [.ref p, .ref s, .ref t] ∧ Rng H p ∧ PartAt H s q ∧ PartAt H t r ∧ Sz 200 q ∧ Sz 200 r ∧ LamX.Tabs (tbs tbp tbr) H ∧ ∀ H', LamX.ExtN (off H p) H' → Rng H' p → LamX.Tabs (tbs tbp tbr) H' → Q (.bl true) H'
theorem scPair : FnScope nPair ["_law_rng_here", "_law_near", "_law_far"] (defScope sPair) := ⟨rfl, rfl, rfl, by decide +kernel, rfl, by decide +kernel, by decide +kernel⟩
section
variable {P : Program} {w : World} {K : PySem.W.Frag} {mg : Str → Option Value} {base : Heap}
theorem own_rd {H : Hp} {a : Addr} {y : V} {q r : Rat} {sp : Sp} {E : XK} {Q : VK} (ha : RatAt K H a q) (hy : NumAt K H y r) (h : sp [.ref a, y] H Q E) : rOwn (aR K) sp E (.ref a) y H Q := by
  obtain ⟨d, e⟩ := ha
  refine ⟨a, d, _, rfl, e, ?_, h⟩
  rcases hy with ⟨i, rfl, _⟩ | ⟨b, rfl, ⟨d2, e2⟩⟩
  · exact .inr ⟨i, rfl⟩
  · exact .inl ⟨b, d2, _, rfl, e2⟩
theorem neg_sz {n : Nat} {q : Rat} (h : Sz n q) : Sz n (rNeg q) := by
  rw [rNeg_eq]
  exact ⟨by rw [show (-q).num = -q.num from rfl, Int.natAbs_neg]; exact h.1, h.2⟩
theorem rMul_sz {n : Nat} {q r : Rat} (h : Sz n q) (k : Sz n r) : Sz (n + n) (rMul q r) :=
  divInt_sz (Int.mul_ne_zero (den_ne q) (den_ne r)) (mul_lt h.1 k.1) (Nat.lt_of_lt_of_le (mul_lt h.den k.den) (Nat.pow_le_pow_right (by decide) (by omega)))
theorem rOver_sz {n : Nat} {q r : Rat} (h : Sz n q) (k : Sz n r) (z : r.num ≠ 0) : Sz (n + n) (rOver q r) :=
  divInt_sz (Int.mul_ne_zero (den_ne q) z) (mul_lt h.1 k.den) (mul_lt h.den k.1)
theorem ok_pair {f c tbp tbr : Addr} {fd : FuncData} (F : Fun K "_law_pair_right" "_law_pair_right" sPair f fd) (hc : fd.code = .ref c) (TB : LamX.TabB base mg c tbp) (ne : tbp ≠ tbr) (X : LP P w K mg base) : FnG P w K mg base CX0 8 f fd ["_law_rng_here", "_law_near", "_law_far"] (spPair K tbp tbr) := by
  obtain ⟨fT, fdT, FT, gT, bT⟩ := X.told
  obtain ⟨fR, fdR, GR, gR, bR, kR⟩ := X.rl
  obtain ⟨fM, fdM, GM, gM, bM, kM⟩ := X.A.made
  obtain ⟨fI, fdI, GI, gI, bI, kI⟩ := X.A.is
  obtain ⟨fS, fdS, GS, gS, bS, kS⟩ := X.sm
  obtain ⟨fL, fdL, GL_, gL, bL, kL⟩ := X.ls
  obtain ⟨fP, fdP, GP, gP, bP, kP⟩ := X.A.Z.D.plain
  obtain ⟨f1, o1, G1⟩ := X.add
  obtain ⟨f2, o2, G2⟩ := X.sub
  obtain ⟨f3, o3, G3⟩ := X.mul
  obtain ⟨fO, fdO, mO, GO, bO⟩ := X.over
  obtain ⟨fZ, fdZ, mZ, GZ, bZ⟩ := X.overZ
  obtain ⟨fB, fdB, mB, GB, bB⟩ := X.A.Z.I.below
  obtain ⟨fE, oE, GE⟩ := X.A.Z.I.eq
  obtain ⟨mc, pp, fo, cr, cm, GF⟩ := X.A.Z.I.R.of
  have T := X.A.Z.I.R.G.T
  have M := X.A.Z.D.F
  have S := X.A.Z.S
  obtain ⟨ocT, odT, kVT, docT, pmT, anT, cdT, ctT, oslT, rfl, lkT, hcT⟩ := FT.ex
  have kT := FT.kp
  obtain ⟨oc, od, kV, doc, pm, an, cdv, ct, osl, rfl, lk, hcd⟩ := F.ex
  obtain rfl : cdv = .ref c := hc
  refine FnG.ofBody lk hcd scPair (fun vs H Q E h => ?_) (fun A outer sh H vs Q E gd hr h => ?_)
  · obtain ⟨p, s, t, q, r, rfl, _⟩ := h
    rfl
  · obtain ⟨p, s, t, q, r, rfl, R, hs, ht, sq, sr, tabs, k⟩ := h
    have hu := hr.units
    have r1 : Room 1 _ := hr.mono (by decide)
    have r2 : Room 2 _ := hr.mono (by decide)
    have r3 : Room 3 _ := hr.mono (by decide)
    have r4 : Room 4 _ := hr.mono (by decide)
    have r5 : Room 5 _ := hr.mono (by decide)
    have one : ∀ x ∈ tbs tbp tbr, x.1 = tbp → x.2 = lamP := fun x hx e => by
      simp only [List.mem_cons, List.not_mem_nil, or_false] at hx
      rcases hx with rfl | rfl
      · rfl
      · exact absurd e.symm ne
    suffices z : ∃ y, PSs (cxOf CX0 P w K mg base nPair "_law_pair_right" (defScope sPair) f (.ref c) A outer sh H E).nox (defBody sPair) y ∧ y { nx := fun _ H' => Q .non H', rt := Q } (L2.start nPair [.ref p, .ref s, .ref t]) H by
      obtain ⟨y, h, q⟩ := z
      exact ⟨y, h.nox, q⟩
    refine ⟨_, pss_cons (ps_asg (pe_tup (pa_cons (pe_call GM r4 rfl gM kM bM .nil pass0 (pa_cons (pv 0) (pa_cons (pv 1) pa_nil))) (pa_cons (pe_call GR r4 rfl gR kR bR .nil pass0 (pa_cons (pv 0) (pa_cons (pv 2) pa_nil))) pa_nil))) (pg_tup (by rfl) (pgs_cons (pg_name (i := 3) scPair.nd rfl (.inr rfl)) (pgs_cons (pg_name (i := 4) scPair.nd rfl (.inr rfl)) pgs_nil))))
      (pss_cons (ps_set (i := 5) scPair.nd rfl (Or.inl rfl) (pe_tup (pa_cons (pe_un un_neg (pe_ix ix_tup (pv 2) pe_int (fun _ _ => rfl))) (pa_cons (pe_ix ix_tup (pv 2) pe_int (fun _ _ => rfl)) pa_nil))))
      (pss_cons (ps_if (PW.pt (pw_or (pt_not (pt_val (pe_callG GI gd r3 rfl gI kI bI .nil pass0 (pa_cons (pe_op (op_own (.inl rfl) o1 G1 r5 pass0) (pv 3) (pv 4)) (pa_cons (pe_call GS r2 rfl gS kS bS .nil pass0 (pa_cons (pv 1) (pa_cons (pv 2) pa_nil))) pa_nil)))))
          (pw_or1 (pt_not (pt_val (pe_callG GI gd r3 rfl gI kI bI .nil pass0 (pa_cons (pe_op (op_own (.inr (.inl rfl)) o2 G2 r5 pass0) (pv 3) (pv 4)) (pa_cons (pe_call GS r2 rfl gS kS bS .nil pass0 (pa_cons (pv 1) (pa_cons (pv 5) pa_nil))) pa_nil)))))))) (pss_one (ps_ret pe_bl)) pss_nil)
      (pss_cons (ps_if (pt_not (pt_val (pe_callG GI gd r3 rfl gI kI bI .nil pass0 (pa_cons (pe_op (op_own (.inr (.inr rfl)) o3 G3 r5 pass0) (pv 3) (pv 4)) (pa_cons (pe_call GP r1 rfl gP kP bP .nil pass0 (pa_cons (pe_op op_mulW (pe_ix ix_tup (pv 1) pe_int (fun _ _ => rfl)) (pe_ix ix_tup (pv 2) pe_int (fun _ _ => rfl))) (pa_cons (pe_op op_mulW (pe_ix ix_tup (pv 1) pe_int (fun _ _ => rfl)) (pe_ix ix_tup (pv 2) pe_int (fun _ _ => rfl))) pa_nil))) pa_nil))))) (pss_one (ps_ret pe_bl)) pss_nil)
      (pss_cut (ps_if (PW.pt (pw_and (pt_cmpR op_eq (pe_ix ix_tup (pv 2) pe_int (fun _ _ => rfl)) pe_int (nomark _))
          (pw_and1 (pt_cmpR (op_neD hu) (pe_told (T := tbs tbp tbr) (TT := TT10 K) (k := 5) rfl gT kT lkT hcT bT scTold rfl (.inl rfl) (told10 (k := 2) rfl X.X S X.A.RR M.repr gd).gives TB rfl List.mem_cons_self one hr (LamX.lamS_by (sc := defScope sPair) (by decide +kernel)) rfl (fun _ _ _ _ _ => rfl) (fun A outer s H E f c' hA hr5 => pe_meth (pv 3) T.cl mZ GZ hr5 bZ .nil (passE (takes_of rfl rfl rfl rfl)) (pa_cons (pv 4) pa_nil)))
            (pe_lst (pa_cons pe_str (pa_cons pe_bl pa_nil))) (nomark _))))) (pss_one (ps_ret pe_bl)) pss_nil)
      (pss_cut (ps_set (i := 6) scPair.nd rfl (Or.inl rfl) (pe_ifExp (pt_cmpR op_ne (pe_ix ix_tup (pv 2) pe_int (fun _ _ => rfl)) pe_int (nomark _)) (pe_call GP r1 rfl gP kP bP .nil pass0 (pa_cons (pe_op op_mulW (pe_ix ix_tup (pv 1) pe_int (fun _ _ => rfl)) (pe_ix ix_tup (pv 2) pe_int (fun _ _ => rfl))) (pa_cons (pe_op op_mulW (pe_ix ix_tup (pv 1) pe_int (fun _ _ => rfl)) (pe_ix ix_tup (pv 2) pe_int (fun _ _ => rfl))) pa_nil))) (pe_tup (pa_cons pe_int (pa_cons pe_int pa_nil)))))
      (pss_cut (ps_if (PW.pt (pw_and (pt_cmpR op_ne (pe_ix ix_tup (pv 2) pe_int (fun _ _ => rfl)) pe_int (nomark _)) (pw_and1 (pt_not (pt_val (pe_callG GI gd r3 rfl gI kI bI .nil pass0 (pa_cons (pe_meth (pv 3) T.cl mO GO r5 bO .nil pass0 (pa_cons (pv 4) pa_nil)) (pa_cons (pv 6) pa_nil)))))))) (pss_one (ps_ret pe_bl)) pss_nil)
      (pss_cons (ps_if (pt_cmpR op_ne (pe_callB (call_reprV S gd hu) (by rfl) M.repr (by decide +kernel) (pa_cons (pe_meth (pv 3) T.cl mB GB r5 bB .nil pass0 (pa_cons (pv 4) pa_nil)) pa_nil)) (pe_callB (call_reprV S gd hu) (by rfl) M.repr (by decide +kernel) (pa_cons (pe_call GL_ r1 rfl gL kL bL .nil pass0 (pa_cons (pv 1) (pa_cons (pv 2) pa_nil))) pa_nil)) (nomark _)) (pss_one (ps_ret pe_bl)) pss_nil)
      (pss_cons (ps_if (PW.pt (pw_or (pt_cmpR op_ne (pe_cmpR (op_eqO oE GE r1 pass0) (pv 3) (ClX.pe_cmeth (pe_glob (v := .ref (aR K)) rfl T.gR rfl) cr cm GF r4 pass0 (pa_cons (pv 4) pa_nil)) (nomark _)) (pe_cmpR (op_eqD hu) (pv 1) (pv 2) (nomark _)) (nomark _))
          (pw_or1 (pt_cmpR op_ne (pe_cmpR (op_neO oE GE r2 pass0) (pv 3) (ClX.pe_cmeth (pe_glob (v := .ref (aR K)) rfl T.gR rfl) cr cm GF r4 pass0 (pa_cons (pv 4) pa_nil)) (nomark _)) (pe_cmpR (op_neD hu) (pv 1) (pv 2) (nomark _)) (nomark _))))) (pss_one (ps_ret pe_bl)) pss_nil)
      (pss_one (ps_ret (pe_callG GI gd r3 rfl gI kI bI .nil pass0 (pa_cons (pv 3) (pa_cons (pv 1) pa_nil))))))))))))), ?_⟩
    have sq1 : Sz 1000 q := sq.mono (by decide)
    have sr1 : Sz 1000 r := sr.mono (by decide)
    have sq4 : Sz 4000 q := sq.mono (by decide)
    have sr4 : Sz 4000 r := sr.mono (by decide)
    have sq9 : Sz 100000 q := sq.mono (by decide)
    have sr9 : Sz 100000 r := sr.mono (by decide)
    have pz : 2 ^ (200 + 200) ≤ 2 ^ 4000 := Nat.pow_le_pow_right (by decide) (by decide)
    refine ⟨_, rfl, _, rfl, p, s, q, rfl, R, hs, sq1, fun a H1 k1 R1 ha => ?_⟩
    refine ⟨_, rfl, _, rfl, p, t, r, rfl, R1, (ht.offR R).same k1, sr1, fun y H2 k2 R2 hy => ⟨(by show 2 ≤ sizeLine; decide), fun tq nq => ?_⟩⟩
    have u3 := same_new (o := .tup [V.ref a, y]) nq
    have etq : upd H2 tq (.tup [V.ref a, y]) tq = some (.tup [V.ref a, y]) := upd_same
    have tO : ∀ {G G' : Hp}, LamX.Tabs (tbs tbp tbr) G → Rng G p → Same (off G p) G' → LamX.Tabs (tbs tbp tbr) G' := by
      intro G G' t R' s
      obtain ⟨x, y, ep, _⟩ := R'
      exact Tabs.same (Tabs.offP t ep) s
    have tabs3 := Tabs.same (tO (tO tabs R k1) R1 k2) u3
    have x3 : LamX.ExtN (off H p) (upd H2 tq (.tup [V.ref a, y])) := same_extN (fun b o e => u3 b o (off_off k1 k2 b o e))
    have R3 := R2.same u3
    have ha3 := ((ha.offR R1).same k2).same u3
    have hy3 := hy.same u3
    generalize upd H2 tq (.tup [V.ref a, y]) = H3 at *
    refine ⟨tq, _, rfl, SqT.of etq, rfl, _, _, rfl, _, _, rfl, rfl, ?_⟩
    have hs3 : PartAt H3 s q := (hs.offR R).ext x3
    have ht3 : PartAt H3 t r := (ht.offR R).ext x3
    refine ⟨_, rfl, t, _, _, _, rfl, rfl, SqT.of ht3, rfl, _, rfl, _, rfl, t, _, _, _, rfl, rfl, SqT.of ht3, rfl, (by show 2 ≤ sizeLine; decide), fun m nm => ?_⟩
    have u4 := same_new (o := .tup [V.int (-r.num), .int (r.den : Int)]) nm
    have hm4 : PartAt (upd H3 m (.tup [V.int (-r.num), .int (r.den : Int)])) m (rNeg r) := by
      rw [rNeg_eq]
      exact upd_same
    obtain ⟨C, hC⟩ : ∃ C : Hp → Prop, ∀ G, C G ↔ (LamX.ExtN (off H p) G ∧ Rng G p ∧ RatAt K G a q ∧ NumAt K G y r ∧ PartAt G m (rNeg r) ∧ LamX.Tabs (tbs tbp tbr) G) := ⟨_, fun _ => Iff.rfl⟩
    have stE : ∀ {G G' : Hp}, C G → LamX.ExtN G G' → LamX.Tabs (tbs tbp tbr) G' → C G' := by
      intro G G' x e tt
      obtain ⟨x1, x2, x3, x4, x5, _⟩ := (hC _).mp x
      exact (hC _).mpr ⟨x1.trans e, x2.ext e, x3.ext e, x4.ext e, x5.ext e, tt⟩
    have st : ∀ {G G' : Hp}, C G → Same G G' → C G' := fun x s => stE x (same_extN s) (Tabs.same ((hC _).mp x).2.2.2.2.2 s)
    have c4 : C (upd H3 m (.tup [V.int (-r.num), .int (r.den : Int)])) := (hC _).mpr ⟨x3.trans (same_extN u4), R3.same u4, ha3.same u4, hy3.same u4, hm4, Tabs.same tabs3 u4⟩
    generalize upd H3 m (.tup [V.int (-r.num), .int (r.den : Int)]) = G0 at *
    have aS : ∀ {G : Hp}, C G → PartAt G s q := fun x => (hs.offR R).ext ((hC _).mp x).1
    have aT : ∀ {G : Hp}, C G → PartAt G t r := fun x => (ht.offR R).ext ((hC _).mp x).1
    have aA : ∀ {G : Hp}, C G → RatAt K G a q := fun x => ((hC _).mp x).2.2.1
    have aY : ∀ {G : Hp}, C G → NumAt K G y r := fun x => ((hC _).mp x).2.2.2.1
    have aM : ∀ {G : Hp}, C G → PartAt G m (rNeg r) := fun x => ((hC _).mp x).2.2.2.2.1
    have aB : ∀ {G : Hp}, C G → LamX.Tabs (tbs tbp tbr) G := fun x => ((hC _).mp x).2.2.2.2.2
    clear hm4 u4 nm hs3 ht3 hy3 ha3 R3 x3 tabs3 etq u3 nq hy R2 k2 ha R1 k1
    -- sum and difference
    refine ⟨_, rfl, _, rfl, own_rd (aA c4) (aY c4) ⟨a, y, q, r, rfl, aA c4, aY c4, sq4, sr4, trivial, fun x5 G5 k5 hx5 => ?_⟩⟩
    have c5 := st c4 k5
    refine ⟨_, rfl, _, rfl, s, t, q, r, rfl, aS c5, aT c5, sq1, sr1, fun g G6 k6 _ hg => ?_⟩
    have c6 := st c5 k6
    refine ⟨x5, g, rAdd q r, rfl, hx5.same k6, hg, (rAdd_sz sq sr).mono (by decide), fun G7 k7 => ⟨_, rfl, iteF ?_⟩⟩
    have c7 := st c6 k7
    refine ⟨_, rfl, _, rfl, own_rd (aA c7) (aY c7) ⟨a, y, q, r, rfl, aA c7, aY c7, sq4, sr4, trivial, fun x8 G8 k8 hx8 => ?_⟩⟩
    have c8 := st c7 k8
    refine ⟨_, rfl, _, rfl, s, m, q, rNeg r, rfl, aS c8, aM c8, sq1, neg_sz sr1, fun g9 G9 k9 _ hg9 => ?_⟩
    have c9 := st c8 k9
    have es : rSub q r = rAdd q (rNeg r) := by rw [rSub_eq, rAdd_eq, rNeg_eq, Rat.sub_eq_add_neg]
    rw [es] at hx8
    refine ⟨x8, g9, rAdd q (rNeg r), rfl, hx8.same k9, hg9, (rAdd_sz sq (neg_sz sr)).mono (by decide), fun G10 k10 => ⟨_, rfl, iteF ?_⟩⟩
    have c10 := st c9 k10
    -- the product
    refine ⟨_, rfl, _, rfl, own_rd (aA c10) (aY c10) ⟨a, y, q, r, rfl, aA c10, aY c10, sq4, sr4, trivial, fun x11 G11 k11 hx11 => ?_⟩⟩
    have c11 := st c10 k11
    refine ⟨_, rfl, s, _, _, _, rfl, rfl, SqT.of (aS c11), rfl, _, rfl, t, _, _, _, rfl, rfl, SqT.of (aT c11), rfl, _, _, rfl, rfl, mul4 sq.1 sr.1 (by decide) (by decide), ?_⟩
    refine ⟨_, rfl, s, _, _, _, rfl, rfl, SqT.of (aS c11), rfl, _, rfl, t, _, _, _, rfl, rfl, SqT.of (aT c11), rfl, _, _, rfl, rfl, mul4 (by rw [Int.natAbs_natCast]; exact sq.den) sr.den (by decide) (by decide), ?_⟩
    refine ⟨_, _, rfl, Int.mul_ne_zero (den_ne q) (den_ne r), Nat.lt_of_lt_of_le (mul_lt sq.1 sr.1) pz, Nat.lt_of_lt_of_le (mul_lt (by rw [Int.natAbs_natCast]; exact sq.den) sr.den) pz, fun g12 G12 k12 _ hg12 => ?_⟩
    have c12 := st c11 k12
    refine ⟨x11, g12, rMul q r, rfl, hx11.same k12, hg12, (rMul_sz sq sr).mono (by decide), fun G13 k13 => ⟨_, rfl, iteF ?_⟩⟩
    have c13 := st c12 k13
    -- over nothing
    refine ⟨fun z G => z = [some (.ref p), some (.ref s), some (.ref t), some (.ref a), some y, some (.ref m), none] ∧ C G, ?_, ?_⟩
    · refine ⟨_, rfl, t, _, _, _, rfl, rfl, SqT.of (aT c13), rfl, rfl, _, rfl, ?_⟩
      refine ite2 (fun c => ?_) (fun c => ?_)
      · have r0 : r.num = 0 := by
          have z := of_decide_eq_true c
          injection z
        have rz : r = 0 := Rat.num_eq_zero.mp r0
        refine ⟨aB c13, fun G4 x4 t4 => ?_⟩
        have w4 := stE c13 x4 t4
        refine .inr ⟨fun E1 H5 R5 s5 o => ?_, fun ra G5 s5 n5 e5 => ?_⟩
        · have w5 := st w4 s5
          obtain ⟨d, e⟩ := aA w5
          exact ⟨_, rfl, a, d, _, rfl, e, rfl, _, rfl, a, y, q, rfl, aA w5, by rw [← rz]; exact aY w5, o⟩
        · have w5 := st w4 s5
          refine ⟨(by show 2 ≤ sizeLine; decide), fun rb nb => ?_⟩
          have u := same_new (o := .lst [V.str "zero", .bl true]) nb
          refine ⟨zD, zD, zDp (u _ _ e5), zDp upd_same, zD_shp, zD_shp, _, rfl, ?_⟩
          rw [zD_eqv]
          exact iteF ⟨rfl, st w5 u⟩
      · exact iteF ⟨rfl, c13⟩
    rintro z G ⟨rfl, cG⟩
    -- the quotient, by the law
    refine ⟨fun z G => ∃ g, z = [some (.ref p), some (.ref s), some (.ref t), some (.ref a), some y, some (.ref m), some (.ref g)] ∧ C G ∧ (r.num ≠ 0 → PartAt G g (rOver q r)), ?_, ?_⟩
    · refine ⟨_, rfl, t, _, _, _, rfl, rfl, SqT.of (aT cG), rfl, rfl, _, rfl, ?_⟩
      refine ite2 (fun c => ?_) (fun c => ?_)
      · have r0 : r.num ≠ 0 := by
          intro z
          rw [z] at c
          revert c
          decide +kernel
        refine ⟨_, rfl, s, _, _, _, rfl, rfl, SqT.of (aS cG), rfl, _, rfl, t, _, _, _, rfl, rfl, SqT.of (aT cG), rfl, _, _, rfl, rfl, mul4 sq.1 sr.den (by decide) (by decide), ?_⟩
        refine ⟨_, rfl, s, _, _, _, rfl, rfl, SqT.of (aS cG), rfl, _, rfl, t, _, _, _, rfl, rfl, SqT.of (aT cG), rfl, _, _, rfl, rfl, mul4 (by rw [Int.natAbs_natCast]; exact sq.den) sr.1 (by decide) (by decide), ?_⟩
        refine ⟨_, _, rfl, Int.mul_ne_zero (den_ne q) r0, Nat.lt_of_lt_of_le (mul_lt sq.1 sr.den) pz, Nat.lt_of_lt_of_le (mul_lt (by rw [Int.natAbs_natCast]; exact sq.den) sr.1) pz, fun g G2 k2 _ hg => ?_⟩
        exact ⟨g, rfl, st cG k2, fun _ => hg⟩
      · have r0 : r.num = 0 := by
          apply Decidable.byContradiction
          intro z
          apply c
          have : decide (V.int r.num = V.int 0) = false := decide_eq_false fun y => z (by injection y)
          rw [this]
          rfl
        refine ⟨(by show 2 ≤ sizeLine; decide), fun g ng => ?_⟩
        exact ⟨g, rfl, st cG (same_new ng), fun z => absurd r0 z⟩
    rintro z G ⟨g, rfl, cG, hg⟩
    -- .. and by the program
    refine ⟨fun z G => z = [some (.ref p), some (.ref s), some (.ref t), some (.ref a), some y, some (.ref m), some (.ref g)] ∧ C G, ?_, ?_⟩
    · refine ⟨_, rfl, t, _, _, _, rfl, rfl, SqT.of (aT cG), rfl, rfl, _, rfl, ?_⟩
      refine ite2 (fun c => ?_) (fun c => iteF ⟨rfl, cG⟩)
      have r0 : r.num ≠ 0 := by
        intro z
        rw [z] at c
        revert c
        decide +kernel
      obtain ⟨d, e⟩ := aA cG
      refine ⟨_, rfl, a, d, _, rfl, e, rfl, _, rfl, a, y, q, r, rfl, aA cG, aY cG, sq4, sr4, r0, fun x G2 k2 hx => ?_⟩
      have c2 := st cG k2
      refine ⟨_, rfl, x, g, rOver q r, rfl, hx, (hg r0).same k2, (rOver_sz sq sr r0).mono (by decide), fun G3 k3 => ⟨_, rfl, iteF ⟨rfl, st c2 k3⟩⟩⟩
    rintro z G ⟨rfl, cG⟩
    -- the order
    have shB : ∀ b : Bool, (PyData.bool b).showable = true ∧ (PyData.bool b).depth ≤ 40 ∧ (PyData.bool b).shown.length ≤ sizeLine := by
      intro b
      rw [sizeLine_eq]
      cases b <;> exact ⟨by decide +kernel, by decide, by decide +kernel⟩
    obtain ⟨d, e⟩ := aA cG
    obtain ⟨b1_, b2_, b3_⟩ := shB (rBelow q r)
    refine ⟨_, rfl, a, d, _, rfl, e, rfl, _, rfl, a, y, q, r, rfl, aA cG, aY cG, sq9, sr9, fun G2 k2 => ?_⟩
    have c2 := st cG k2
    refine ⟨.bl (rBelow q r), .bool (rBelow q r), rfl, .bl _, b1_, b2_, b3_, ?_⟩
    refine ⟨_, rfl, _, rfl, s, t, q, r, rfl, aS c2, aT c2, sq1, sr1, ?_⟩
    refine ⟨.bl (rBelow q r), .bool (rBelow q r), rfl, .bl _, b1_, b2_, b3_, rne_refl rfl ⟨_, rfl, iteF ?_⟩⟩
    -- equality
    refine ⟨_, rfl, rfl, _, rfl, y, r, rfl, aY c2, fun x3 G3 k3 hx3 => ?_⟩
    have c3 := st c2 k3
    refine eqR T (aA c3) hx3 ⟨_, rfl, _, rfl, dP q, dP r, (aS c3).dp, (aT c3).dp, rfl, rfl, ?_⟩
    rw [dP_eqv]
    refine rne_refl rfl ⟨_, rfl, iteF ?_⟩
    refine ⟨_, rfl, rfl, _, rfl, y, r, rfl, aY c3, fun x4 G4 k4 hx4 => ?_⟩
    have c4' := st c3 k4
    refine neR T (aA c4') hx4 ⟨_, rfl, _, rfl, dP q, dP r, (aS c4').dp, (aT c4').dp, rfl, rfl, ?_⟩
    rw [dP_eqv]
    refine rne_refl rfl ⟨_, rfl, iteF ?_⟩
    refine ⟨_, rfl, _, rfl, a, s, q, rfl, aA c4', aS c4', sq.mono (by decide), fun G5 k5 => ?_⟩
    have c5' := (hC _).mp (st c4' k5)
    exact k _ c5'.1 c5'.2.1 c5'.2.2.2.2.2
end
end K18
set_option maxHeartbeats 4000000
namespace K18
open PySem PySem.Spec PyProof.Rows L2 GL
abbrev sNear : Stmt := tp 28
/-! ### the best of several -/
def low (m q : Rat) : Rat := if rBelow q m = true then q else m
def high (m q : Rat) : Rat := if rBelow m q = true then q else m
theorem below_self (x : Rat) : rBelow x x = false := rBelow_not.mpr Rat.le_refl
theorem low_self (q : Rat) : low q q = q := by unfold low; split <;> rfl
theorem high_self (q : Rat) : high q q = q := by unfold high; split <;> rfl
theorem low_twice (m q : Rat) : low (low m q) q = low m q := by
  by_cases c : rBelow q m = true
  · have e : low m q = q := by unfold low; rw [if_pos c]
    rw [e, low_self]
  · have e : low m q = m := by unfold low; rw [if_neg c]
    rw [e, e]
theorem bestL_cons (q : Rat) (qs : List Rat) : bestQ ltL (q :: qs) = some (qs.foldl low q) := by
  have go : ∀ (qs : List Rat) (m : Rat), qs.foldl (stepQ ltL) (some m) = some (qs.foldl low m) := by
    intro qs
    induction qs with
    | nil => exact fun _ => rfl
    | cons x xs ih =>
      intro m
      rw [List.foldl_cons, List.foldl_cons, ← ih]
      congr 1
      show (if rBelow x m = true then some x else some m) = _
      unfold low
      split <;> rfl
  exact go qs q
theorem bestG_cons (q : Rat) (qs : List Rat) : bestQ ltG (q :: qs) = some (qs.foldl high q) := by
  have go : ∀ (qs : List Rat) (m : Rat), qs.foldl (stepQ ltG) (some m) = some (qs.foldl high m) := by
    intro qs
    induction qs with
    | nil => exact fun _ => rfl
    | cons x xs ih =>
      intro m
      rw [List.foldl_cons, List.foldl_cons, ← ih]
      congr 1
      show (if rBelow m x = true then some x else some m) = _
      unfold high
      split <;> rfl
  exact go qs q
theorem numsL1 {K : PySem.W.Frag} {H : Hp} {x : V} {q : Rat} (h : NumAt K H x q) : NumsL K H [x] [q] := ⟨rfl, fun i v r a b => by
  match i, a, b with
  | 0, a, b =>
    cases a
    cases b
    exact h⟩
theorem numsL_cons {K : PySem.W.Frag} {H : Hp} {x : V} {q : Rat} {xs : List V} {qs : List Rat} (h : NumAt K H x q) (t : NumsL K H xs qs) : NumsL K H (x :: xs) (q :: qs) := ⟨by rw [List.length_cons, List.length_cons, t.1], fun i v r a b => by
  match i, a, b with
  | 0, a, b =>
    cases a
    cases b
    exact h
  | i + 1, a, b => exact t.2 i v r a b⟩
/-- one part of so many -/
def eps (k : Nat) : Rat := mkRat 1 (10 ^ k)
/-- a small fraction of the law's own -/
def Small (H : Hp) (v : V) : Prop := ∃ t e, v = .ref t ∧ PartAt H t e ∧ 0 < e ∧ Sz 100 e
theorem Small.same {H H' : Hp} {v : V} (h : Small H v) (k : Same H H') : Small H' v := by
  obtain ⟨t, e, a, b, c⟩ := h
  exact ⟨t, e, a, k _ _ b, c⟩
theorem small_of {H : Hp} {t : Addr} {e : Rat} {n d : Int} (h : H t = some (.tup [.int n, .int d])) (a : e.num = n) (b : (e.den : Int) = d) (p : 0 < e) (z : Sz 100 e) : Small H (.ref t) := ⟨t, e, rfl, by show H t = some (.tup [.int e.num, .int (e.den : Int)]); rw [a, b]; exact h, p, z⟩
/-- what the checks of several numbers need -/
structure LS (P : Program) (w : World) (K : PySem.W.Frag) (mg : Str → Option Value) (base : Heap) : Prop where
  P_ : LP P w K mg base
  least : ∃ mc p f, ClX.CRead K (aR K) mc ∧ ClX.CMet K (aR K) mc "least" p f ∧ FnR P w K mg base CX0 6 f (spPick K ltL)
  greatest : ∃ mc p f, ClX.CRead K (aR K) mc ∧ ClX.CMet K (aR K) mc "greatest" p f ∧ FnR P w K mg base CX0 6 f (spPick K ltG)
def bD (a b c : Bool) : PyData := .list [.bool a, .bool b, .bool c]
theorem bDp {K : PySem.W.Frag} {H : Hp} {r : Addr} {a b c : Bool} (e : H r = some (.lst [.bl a, .bl b, .bl c])) : Dp K H (.ref r) (bD a b c) := .lst (SqL.of e) (.cons (.bl _) (.cons (.bl _) (.cons (.bl _) .nil)))
theorem bD_eqv (a b c : Bool) : PyData.eqv (bD a b c) (bD a b c) = true := by simp [bD, PyData.eqv, PyData.eqvAll]
def spNear (K : PySem.W.Frag) : Sp := fun vs H Q _ => ∃ (p t : Addr) (y : V) (q : Rat), vs = [.ref p, .ref t, y] ∧ Rng H p ∧ PartAt H t q ∧ NumAt K H y q ∧ Sz 200 q ∧ ∀ H', Same (off H p) H' → Rng H' p → Q (.bl true) H'
abbrev nNear : List Str := ["_law_rng_here", "_law_part", "_law_made_here", "_law_more", "_law_other"]
theorem scNear : FnScope nNear ["_law_rng_here", "_law_part", "_law_made_here"] (defScope sNear) := ⟨rfl, rfl, rfl, by decide +kernel, rfl, by decide +kernel, by decide +kernel⟩
section
variable {P : Program} {w : World} {K : PySem.W.Frag} {mg : Str → Option Value} {base : Heap}
theorem eqN {H : Hp} {o : Addr} {y : V} {m r : Rat} {Q : VK} {E : XK} (T : RF K mg) (nI : PySem.W.notFirst K (aR K) (.type "int") = true) (kr : PySem.W.kitOne K (.type "int") (.ref (aR K)) = some false) (ho : RatAt K H o m) (hy : NumAt K H y r) (ne : m ≠ r) (k : Q (.bl false) H) : rOwnE K (aR K) (spREq K) E (.ref o) y H Q := by
  rcases hy with ⟨i, rfl, _⟩ | ⟨b, rfl, hb⟩
  · exact eqO_no ho (.base (.int i)) nI kr k
  · exact eqR T ho hb (by rw [decide_eq_false ne]; exact k)
theorem ok_near {f : Addr} {fd : FuncData} (F : Fun K "_law_near_right" "_law_near_right" sNear f fd) (X : LS P w K mg base) : FnG P w K mg base CX0 7 f fd ["_law_rng_here", "_law_part", "_law_made_here"] (spNear K) := by
  obtain ⟨fI, fdI, GI, gI, bI, kI⟩ := X.P_.A.is
  obtain ⟨fS, fdS, GS, gS, bS, kS⟩ := X.P_.sm
  obtain ⟨fC, fdC, GC, gC, bC, kC⟩ := X.P_.A.Z.D.choice
  obtain ⟨f2, o2, G2⟩ := X.P_.sub
  obtain ⟨fB, fdB, mB, GB, bB⟩ := X.P_.A.Z.I.below
  obtain ⟨fE, oE, GE⟩ := X.P_.A.Z.I.eq
  obtain ⟨mc, pp, fo, cr, cm, GF⟩ := X.P_.A.Z.I.R.of
  obtain ⟨fR, fdR, dd, MR, GR, vd, bR, bR0⟩ := X.P_.A.Z.I.R.G.mR
  obtain ⟨mcL, ppL, fL, crL, cmL, GL_⟩ := X.least
  obtain ⟨mcG, ppG, fG, crG, cmG, GG⟩ := X.greatest
  have T := X.P_.A.Z.I.R.G.T
  refine Fun.okG F scNear (fun vs H Q E h => ?_) (fun cdv A outer s H vs Q E gd hr h => ?_)
  · obtain ⟨p, t, y, q, rfl, _⟩ := h
    rfl
  · obtain ⟨p, t, y, q, rfl, R, ht, hy, sq, k⟩ := h
    have hu := hr.units
    have r1 : Room 1 _ := hr.mono (by decide)
    have r2 : Room 2 _ := hr.mono (by decide)
    have r3 : Room 3 _ := hr.mono (by decide)
    have r4 : Room 4 _ := hr.mono (by decide)
    have r5 : Room 5 _ := hr.mono (by decide)
    refine ⟨_, pss_cons (ps_set (i := 3) scNear.nd rfl (Or.inl rfl) (pe_call GS r2 rfl gS kS bS .nil pass0 (pa_cons (pv 1) (pa_cons (pe_call GC r2 rfl gC kC bC .nil pass0 (pa_cons (pv 0) (pa_cons (pe_lst (pa_cons (pe_tup (pa_cons pe_int (pa_cons pe_int pa_nil))) (pa_cons (pe_tup (pa_cons pe_int (pa_cons (pe_op op_pow pe_int pe_int) pa_nil))) (pa_cons (pe_tup (pa_cons pe_int (pa_cons (pe_op op_pow pe_int pe_int) pa_nil))) (pa_cons (pe_tup (pa_cons pe_int (pa_cons (pe_op op_pow pe_int pe_int) pa_nil))) pa_nil))))) pa_nil))) pa_nil))))
      (pss_cons (ps_set (i := 4) scNear.nd rfl (Or.inl rfl) (pe_make MR GR r3 rfl T.gR bR0 .nil pass0 (pa_cons (pe_ix ix_tup (pv 3) pe_int (fun _ _ => rfl)) (pa_cons (pe_ix ix_tup (pv 3) pe_int (fun _ _ => rfl)) pa_nil))))
      (pss_cons (ps_if (pt_cmpR (op_neD hu) (pe_lst (pa_cons (pe_meth (ClX.pe_cmeth (pe_glob (v := .ref (aR K)) rfl T.gR rfl) cr cm GF r4 pass0 (pa_cons (pv 2) pa_nil)) T.cl mB GB r5 bB .nil pass0 (pa_cons (pv 4) pa_nil)) (pa_cons (pe_meth (pv 4) T.cl mB GB r5 bB .nil pass0 (pa_cons (pv 2) pa_nil)) (pa_cons (pe_cmpR (op_eqO oE GE r1 pass0) (pv 4) (pv 2) (nomark _)) pa_nil))))
          (pe_lst (pa_cons pe_bl (pa_cons pe_bl (pa_cons pe_bl pa_nil)))) (nomark _)) (pss_one (ps_ret pe_bl)) pss_nil)
      (pss_cons (ps_if (PW.pt (pw_or (pt_not (pt_val (pe_callG GI gd r3 rfl gI kI bI .nil pass0 (pa_cons (ClX.pe_cmeth (pe_glob (v := .ref (aR K)) rfl T.gR rfl) crL cmL GL_ hr pass0 (pa_cons (pv 4) (pa_cons (pv 2) pa_nil))) (pa_cons (pv 1) pa_nil)))))
          (pw_or1 (pt_not (pt_val (pe_callG GI gd r3 rfl gI kI bI .nil pass0 (pa_cons (ClX.pe_cmeth (pe_glob (v := .ref (aR K)) rfl T.gR rfl) crG cmG GG hr pass0 (pa_cons (pv 2) (pa_cons (pv 4) (pa_cons (pv 2) pa_nil)))) (pa_cons (pv 3) pa_nil)))))))) (pss_one (ps_ret pe_bl)) pss_nil)
      (pss_one (ps_ret (pe_and (pe_callG GI gd r3 rfl gI kI bI .nil pass0 (pa_cons (ClX.pe_cmeth (pe_glob (v := .ref (aR K)) rfl T.gR rfl) crG cmG GG hr pass0 (pa_cons (pv 2) (pa_cons (pv 2) pa_nil))) (pa_cons (pv 1) pa_nil)))
        (pe_one (pe_callG GI gd r3 rfl gI kI bI .nil pass0 (pa_cons (pe_op (op_own (.inr (.inl rfl)) o2 G2 r5 pass0) (pv 4) (pv 2)) (pa_cons (pe_call GS r2 rfl gS kS bS .nil pass0 (pa_cons (pv 3) (pa_cons (pe_tup (pa_cons (pe_un un_neg (pe_ix ix_tup (pv 1) pe_int (fun _ _ => rfl))) (pa_cons (pe_ix ix_tup (pv 1) pe_int (fun _ _ => rfl)) pa_nil))) pa_nil))) pa_nil)))))))))), ?_⟩
    have kr := X.P_.A.Z.I.R.G.kr
    have nI := X.P_.A.nI
    have sq1 : Sz 1000 q := sq.mono (by decide)
    -- the small fractions
    refine ⟨_, rfl, _, rfl, (by show 2 ≤ sizeLine; decide), fun t1 n1 => ?_⟩
    have u1 := same_new (o := .tup [V.int 1, .int 10]) n1
    have s1 : Small (upd H t1 (.tup [V.int 1, .int 10])) (.ref t1) := small_of (e := eps 1) upd_same (by decide +kernel) (by decide +kernel) (by decide +kernel) ⟨by decide +kernel, by decide +kernel⟩
    generalize upd H t1 (.tup [V.int 1, .int 10]) = H1 at *
    refine ⟨_, _, rfl, rfl, ⟨by decide, by decide, by decide⟩, (by show 2 ≤ sizeLine; decide), fun t2 n2 => ?_⟩
    have u2 := same_new (o := .tup [V.int 1, .int (10 ^ (16 : Int).toNat)]) n2
    have s2 : Small (upd H1 t2 (.tup [V.int 1, .int (10 ^ (16 : Int).toNat)])) (.ref t2) := small_of (e := eps 16) upd_same (by decide +kernel) (by decide +kernel) (by decide +kernel) ⟨by decide +kernel, by decide +kernel⟩
    replace s1 := s1.same u2
    refine ⟨_, _, rfl, rfl, ⟨by decide, by decide, by decide⟩, (by show 2 ≤ sizeLine; decide), fun t3 n3 => ?_⟩
    replace n3 : upd H1 t2 (.tup [V.int 1, .int (10 ^ (16 : Int).toNat)]) t3 = none := n3
    have u3 := same_new (o := .tup [V.int 1, .int (10 ^ (20 : Int).toNat)]) n3
    have s3 : Small (upd (upd H1 t2 (.tup [V.int 1, .int (10 ^ (16 : Int).toNat)])) t3 (.tup [V.int 1, .int (10 ^ (20 : Int).toNat)])) (.ref t3) := small_of (e := eps 20) upd_same (by decide +kernel) (by decide +kernel) (by decide +kernel) ⟨by decide +kernel, by decide +kernel⟩
    replace s1 := s1.same u3
    replace s2 := s2.same u3
    refine ⟨_, _, rfl, rfl, ⟨by decide, by decide, by decide⟩, (by show 2 ≤ sizeLine; decide), fun t4 n4 => ?_⟩
    replace n4 : upd (upd H1 t2 (.tup [V.int 1, .int (10 ^ (16 : Int).toNat)])) t3 (.tup [V.int 1, .int (10 ^ (20 : Int).toNat)]) t4 = none := n4
    have u4 := same_new (o := .tup [V.int 1, .int (10 ^ (25 : Int).toNat)]) n4
    have s4 : Small (upd (upd (upd H1 t2 (.tup [V.int 1, .int (10 ^ (16 : Int).toNat)])) t3 (.tup [V.int 1, .int (10 ^ (20 : Int).toNat)])) t4 (.tup [V.int 1, .int (10 ^ (25 : Int).toNat)])) (.ref t4) := small_of (e := eps 25) upd_same (by decide +kernel) (by decide +kernel) (by decide +kernel) ⟨by decide +kernel, by decide +kernel⟩
    replace s1 := s1.same u4
    replace s2 := s2.same u4
    replace s3 := s3.same u4
    have k04 := ((u1.trans u2).trans u3).trans u4
    refine ⟨(by show 4 ≤ sizeLine; decide), fun l nl => ?_⟩
    replace nl : upd (upd (upd H1 t2 (.tup [V.int 1, .int (10 ^ (16 : Int).toNat)])) t3 (.tup [V.int 1, .int (10 ^ (20 : Int).toNat)])) t4 (.tup [V.int 1, .int (10 ^ (25 : Int).toNat)]) l = none := nl
    have u5 := same_new (o := .lst [V.ref t1, .ref t2, .ref t3, .ref t4]) nl
    show spChoice K [.ref p, .ref l] (upd (upd (upd (upd H1 t2 (.tup [V.int 1, .int (10 ^ (16 : Int).toNat)])) t3 (.tup [V.int 1, .int (10 ^ (20 : Int).toNat)])) t4 (.tup [V.int 1, .int (10 ^ (25 : Int).toNat)])) l (.lst [V.ref t1, .ref t2, .ref t3, .ref t4])) _ E0
    have hl : upd (upd (upd (upd H1 t2 (.tup [V.int 1, .int (10 ^ (16 : Int).toNat)])) t3 (.tup [V.int 1, .int (10 ^ (20 : Int).toNat)])) t4 (.tup [V.int 1, .int (10 ^ (25 : Int).toNat)])) l (.lst [V.ref t1, .ref t2, .ref t3, .ref t4]) l = some (.lst [V.ref t1, .ref t2, .ref t3, .ref t4]) := upd_same
    generalize upd (upd (upd H1 t2 (.tup [V.int 1, .int (10 ^ (16 : Int).toNat)])) t3 (.tup [V.int 1, .int (10 ^ (20 : Int).toNat)])) t4 (.tup [V.int 1, .int (10 ^ (25 : Int).toNat)]) = H4 at *
    replace s1 := s1.same u5
    replace s2 := s2.same u5
    replace s3 := s3.same u5
    replace s4 := s4.same u5
    generalize upd H4 l (.lst [V.ref t1, .ref t2, .ref t3, .ref t4]) = H5 at *
    have k05 := k04.trans u5
    have R5 := R.same k05
    have tp_ : t ≠ p := R.ne ht
    have lp : l ≠ p := by
      obtain ⟨x0, y0, ep, _⟩ := R.same k04
      exact (ne_of_none ep nl).symm
    refine ⟨p, l, _, rfl, R5, hl, lp, (by show 0 < 4; decide), (by show 4 < 1000; decide), fun v H6 hv k6 R6 => ?_⟩
    have all : ∀ v ∈ [V.ref t1, .ref t2, .ref t3, .ref t4], Small H5 v := by
      intro v hv
      simp only [List.mem_cons, List.not_mem_nil, or_false] at hv
      rcases hv with rfl | rfl | rfl | rfl <;> assumption
    obtain ⟨te, e, rfl, he5, epos, se⟩ := all v hv
    have he6 : PartAt H6 te e := k6 _ _ he5 (R5.ne he5)
    have o6 : Same (off H p) H6 := fun b o z => k6 b o (k05 b o (off_some z).2) (off_some z).1
    have ht6 : PartAt H6 t q := o6 t _ (by rw [off_ne tp_]; exact ht)
    have hy6 : NumAt K H6 y q := (hy.offR R).same o6
    clear all hv he5 k6 s1 s2 s3 s4 hl lp R5 k05 u5 k04 u4 n4 u3 n3 u2 n2 u1 n1 nl
    refine ⟨t, te, q, e, rfl, ht6, he6, sq1, se.mono (by decide), fun g H7 k7 _ hg => ?_⟩
    have lt : q < rAdd q e := by
      rw [rAdd_eq]
      grind
    have sm : Sz 401 (rAdd q e) := rAdd_sz sq (se.mono (by decide))
    generalize rAdd q e = m at *
    have lt1 : rBelow q m = true := rBelow_iff.mpr lt
    have lt2 : rBelow m q = false := rBelow_not.mpr (by grind)
    have ne : m ≠ q := by grind
    refine ⟨_, rfl, g, _, _, _, rfl, rfl, SqT.of hg, rfl, _, rfl, g, _, _, _, rfl, rfl, SqT.of hg, rfl, ?_⟩
    intro o do_ no ndo neo
    refine made_ratQ no ndo sm (by decide) fun H8 k8 ho => ⟨rfl, ?_⟩
    obtain ⟨C, hC⟩ : ∃ C : Hp → Prop, ∀ G, C G ↔ (Same (off H p) G ∧ Rng G p ∧ PartAt G t q ∧ NumAt K G y q ∧ PartAt G g m ∧ RatAt K G o m) := ⟨_, fun _ => Iff.rfl⟩
    have st : ∀ {G G' : Hp}, C G → Same G G' → C G' := by
      intro G G' c s
      obtain ⟨c1, c2, c3, c4, c5, c6⟩ := (hC _).mp c
      exact (hC _).mpr ⟨fun b o e => s b o (c1 b o e), c2.same s, s _ _ c3, c4.same s, s _ _ c5, c6.same s⟩
    have k78 := k7.trans k8
    have c8 : C H8 := (hC _).mpr ⟨fun b o z => k78 b o (o6 b o z), R6.same k78, ht6.same k78, hy6.same k78, hg.same k8, ho⟩
    have aT : ∀ {G : Hp}, C G → PartAt G t q := fun x => ((hC _).mp x).2.2.1
    have aY : ∀ {G : Hp}, C G → NumAt K G y q := fun x => ((hC _).mp x).2.2.2.1
    have aG_ : ∀ {G : Hp}, C G → PartAt G g m := fun x => ((hC _).mp x).2.2.2.2.1
    have aO : ∀ {G : Hp}, C G → RatAt K G o m := fun x => ((hC _).mp x).2.2.2.2.2
    have sq9 : Sz 100000 q := sq.mono (by decide)
    have sm9 : Sz 100000 m := sm.mono (by decide)
    clear ho hg ht6 hy6 R6 o6 he6 k78 k8 k7
    -- the order of both
    refine ⟨rfl, _, rfl, y, q, rfl, aY c8, fun x H9 k9 hx => ?_⟩
    have c9 := st c8 k9
    obtain ⟨dx, ex⟩ := id hx
    refine ⟨x, dx, _, rfl, ex, rfl, _, rfl, x, .ref o, q, m, rfl, hx, .inr ⟨o, rfl, aO c9⟩, sq9, sm9, fun H10 k10 => ?_⟩
    have c10 := st c9 k10
    obtain ⟨d10, e10⟩ := aO c10
    refine ⟨_, rfl, o, d10, _, rfl, e10, rfl, _, rfl, o, y, m, q, rfl, aO c10, aY c10, sm9, sq9, fun H11 k11 => ?_⟩
    have c11 := st c10 k11
    refine ⟨_, rfl, _, rfl, eqN T nI kr (aO c11) (aY c11) ne ?_⟩
    rw [lt1, lt2]
    refine ⟨(by show 3 ≤ sizeLine; decide), fun l1 n1 => ?_⟩
    have u1 := same_new (o := .lst [V.bl true, .bl false, .bl false]) n1
    refine ⟨(by show 3 ≤ sizeLine; decide), fun l2 n2 => ?_⟩
    have u2 := same_new (o := .lst [V.bl true, .bl false, .bl false]) n2
    refine ⟨bD true false false, bD true false false, bDp (u2 _ _ upd_same), bDp upd_same, by decide +kernel, by decide +kernel, _, rfl, ?_⟩
    rw [bD_eqv]
    refine iteF ?_
    have c12 := st c11 (u1.trans u2)
    generalize upd (upd H11 l1 (.lst [V.bl true, .bl false, .bl false])) l2 (.lst [V.bl true, .bl false, .bl false]) = H12 at *
    clear u1 u2 n1 n2
    -- the least and the greatest
    have nO : ∀ {G : Hp}, C G → NumAt K G (.ref o) m := fun c => .inr ⟨o, rfl, aO c⟩
    have szs : ∀ x : Rat, x = q ∨ x = m → Sz 1000 x := fun x h => h.elim (fun e => e ▸ sq1) fun e => e ▸ sm.mono (by decide)
    refine ⟨rfl, _, rfl, _, rfl, [.ref o, y], [m, q], rfl, (by simp), (by show 2 ≤ 100; decide), numsL_cons (nO c12) (numsL1 (aY c12)), (fun x hx => szs x (by simpa [or_comm] using hx)), fun x b H13 hb k13 hx => ?_⟩
    have eb : b = q := by
      rw [bestL_cons] at hb
      injection hb with hb
      rw [← hb]
      show low m q = q
      unfold low
      rw [if_pos lt1]
    rw [eb] at hx
    have c13 := st c12 k13
    refine ⟨_, rfl, x, t, q, rfl, hx, aT c13, sq.mono (by decide), fun H14 k14 => ⟨_, rfl, iteF ?_⟩⟩
    have c14 := st c13 k14
    refine ⟨rfl, _, rfl, _, rfl, _, rfl, [y, .ref o, y], [q, m, q], rfl, (by simp), (by show 3 ≤ 100; decide), numsL_cons (aY c14) (numsL_cons (nO c14) (numsL1 (aY c14))), (fun x hx => szs x (by simp only [List.mem_cons, List.not_mem_nil, or_false] at hx; rcases hx with h | h | h <;> simp [h])), fun x2 b2 H15 hb2 k15 hx2 => ?_⟩
    have eb2 : b2 = m := by
      rw [bestG_cons] at hb2
      injection hb2 with hb2
      rw [← hb2]
      show high (high q m) q = m
      have z : high q m = m := by
        unfold high
        rw [if_pos lt1]
      rw [z]
      unfold high
      rw [if_neg (by rw [lt2]; simp)]
    rw [eb2] at hx2
    have c15 := st c14 k15
    refine ⟨_, rfl, x2, g, m, rfl, hx2, aG_ c15, sm.mono (by decide), fun H16 k16 => ⟨_, rfl, iteF ?_⟩⟩
    have c16 := st c15 k16
    refine ⟨rfl, _, rfl, _, rfl, [y, y], [q, q], rfl, (by simp), (by show 2 ≤ 100; decide), numsL_cons (aY c16) (numsL1 (aY c16)), (fun x hx => szs x (by simp only [List.mem_cons, List.not_mem_nil, or_false] at hx; rcases hx with h | h <;> simp [h])), fun x3 b3 H17 hb3 k17 hx3 => ?_⟩
    have eb3 : b3 = q := by
      rw [bestG_cons] at hb3
      injection hb3 with hb3
      rw [← hb3]
      exact high_self q
    rw [eb3] at hx3
    have c17 := st c16 k17
    refine ⟨_, rfl, x3, t, q, rfl, hx3, aT c17, sq.mono (by decide), fun H18 k18 => ⟨_, rfl, iteT ?_⟩⟩
    have c18 := st c17 k18
    refine ⟨_, rfl, _, rfl, own_rd (aO c18) (aY c18) ⟨o, y, m, q, rfl, aO c18, aY c18, sm.mono (by decide), sq.mono (by decide), trivial, fun x4 H19 k19 hx4 => ?_⟩⟩
    have c19 := st c18 k19
    refine ⟨_, rfl, _, rfl, t, _, _, _, rfl, rfl, SqT.of (aT c19), rfl, _, rfl, _, rfl, t, _, _, _, rfl, rfl, SqT.of (aT c19), rfl, (by show 2 ≤ sizeLine; decide), fun mm nm => ?_⟩
    have u4 := same_new (o := .tup [V.int (-q.num), .int (q.den : Int)]) nm
    have hm4 : PartAt (upd H19 mm (.tup [V.int (-q.num), .int (q.den : Int)])) mm (rNeg q) := by
      rw [rNeg_eq]
      exact upd_same
    have c20 := st c19 u4
    have hx5 := hx4.same u4
    generalize upd H19 mm (.tup [V.int (-q.num), .int (q.den : Int)]) = H20 at *
    refine ⟨g, mm, m, rNeg q, rfl, aG_ c20, hm4, sm.mono (by decide), neg_sz sq1, fun w H21 k21 _ hw => ?_⟩
    have c21 := st c20 k21
    have es : rSub m q = rAdd m (rNeg q) := by rw [rSub_eq, rAdd_eq, rNeg_eq, Rat.sub_eq_add_neg]
    rw [es] at hx5
    refine ⟨x4, w, rAdd m (rNeg q), rfl, hx5.same k21, hw, (rAdd_sz (sm.mono (by decide : 401 ≤ 900)) (neg_sz (sq.mono (by decide : 200 ≤ 900)))).mono (by decide), fun H22 k22 => ?_⟩
    obtain ⟨f1, f2, _⟩ := (hC _).mp (st c21 k22)
    exact k _ f1 f2
end
end K18
set_option maxHeartbeats 4000000
namespace K18
open PySem PySem.Spec PyProof.Rows L2 GL
abbrev sSev : Stmt := tp 27
theorem Rng.ne_new {H : Hp} {p l : Addr} (R : Rng H p) (n : H l = none) : l ≠ p := by
  obtain ⟨x, y, e, _⟩ := R
  exact (ne_of_none e n).symm
def BN : Int := 10 ^ (30 : Int).toNat
theorem BN_is : BN = 1000000000000000000000000000000 := by decide +kernel
theorem below_B {q : Rat} (h : Sz 80 q) : rBelow q (BN : Rat) = true := by
  unfold rBelow
  rw [Rat.num_intCast, Rat.den_intCast, BN_is]
  have a : q.num.natAbs < 1208925819614629174706176 := h.1
  have d := q.den_pos
  exact decide_eq_true (by omega)
theorem above_B {q : Rat} (h : Sz 80 q) : rBelow ((-BN : Int) : Rat) q = true := by
  unfold rBelow
  rw [Rat.num_intCast, Rat.den_intCast, BN_is]
  have a : q.num.natAbs < 1208925819614629174706176 := h.1
  have d := q.den_pos
  exact decide_eq_true (by omega)
theorem both_B : rBelow ((-BN : Int) : Rat) (BN : Rat) = true := by decide +kernel
theorem low_P {P : Rat → Prop} {m q : Rat} (a : P m) (b : P q) : P (low m q) := by
  unfold low
  split
  · exact b
  · exact a
theorem high_P {P : Rat → Prop} {m q : Rat} (a : P m) (b : P q) : P (high m q) := by
  unfold high
  split
  · exact b
  · exact a
theorem numsL_snoc {K : PySem.W.Frag} {H : Hp} {acc : List V} {qs : List Rat} {i : Nat} {y : V} {q : Rat} (h : NumsL K H acc (qs.take i)) (hq : qs[i]? = some q) (hy : NumAt K H y q) : NumsL K H (acc ++ [y]) (qs.take (i + 1)) := by
  have il : i < qs.length := (List.getElem?_eq_some_iff.mp hq).1
  have la : acc.length = i := by
    rw [h.1, List.length_take]
    omega
  refine ⟨by rw [List.length_append, la, List.length_take]; simp; omega, fun j v r e1 e2 => ?_⟩
  by_cases hj : j < acc.length
  · rw [List.getElem?_append_left hj] at e1
    refine h.2 j v r e1 ?_
    rw [List.getElem?_take_of_lt (by omega)] at e2 ⊢
    exact e2
  · have j1 : j = acc.length := by
      have := (List.getElem?_eq_some_iff.mp e1).1
      rw [List.length_append] at this
      simp at this
      omega
    rw [List.getElem?_append_right (by omega), j1, Nat.sub_self] at e1
    have e1' : v = y := by simpa using e1.symm
    rw [j1, la, List.getElem?_take_of_lt (by omega), hq] at e2
    have e2' := Option.some.inj e2
    rw [e1', ← e2']
    exact hy
def spSev (K : PySem.W.Frag) : Sp := fun vs H Q _ => ∃ (p l t0 t1 t2 t3 : Addr) (q0 q1 q2 q3 : Rat), vs = [.ref p, .ref l] ∧ Rng H p ∧ H l = some (.lst [.ref t0, .ref t1, .ref t2, .ref t3]) ∧ l ≠ p ∧ PartAt H t0 q0 ∧ PartAt H t1 q1 ∧ PartAt H t2 q2 ∧ PartAt H t3 q3 ∧ Sz 80 q0 ∧ Sz 80 q1 ∧ Sz 80 q2 ∧ Sz 80 q3 ∧ ∀ H', Same (off H p) H' → Rng H' p → Q (.bl true) H'
abbrev nSev : List Str := ["_law_rng_here", "_law_parts", "_law_made_here", "_law_part", "_law_least", "_law_greatest", "_law_told_here", "_law_far"]
theorem scSev : FnScope nSev ["_law_rng_here", "_law_parts"] (defScope sSev) := ⟨rfl, rfl, rfl, by decide +kernel, rfl, by decide +kernel, by decide +kernel⟩
section
variable {P : Program} {w : World} {K : PySem.W.Frag} {mg : Str → Option Value} {base : Heap}
theorem ok_sev {f : Addr} {fd : FuncData} (F : Fun K "_law_several_right" "_law_several_right" sSev f fd) (X : LS P w K mg base) (nr : DefG P w K mg base "_law_near_right" 7 ["_law_rng_here", "_law_part", "_law_made_here"] (spNear K)) : FnG P w K mg base CX0 8 f fd ["_law_rng_here", "_law_parts"] (spSev K) := by
  obtain ⟨fI, fdI, GI, gI, bI, kI⟩ := X.P_.A.is
  obtain ⟨fR, fdR, GR, gR, bR, kR⟩ := X.P_.rl
  obtain ⟨fL, fdL, GL1, gL, bL, kL⟩ := X.P_.ls
  obtain ⟨fN, fdN, GN, gN, bN, kN⟩ := nr
  obtain ⟨mcL, ppL, fLe, crL, cmL, GL_⟩ := X.least
  obtain ⟨mcG, ppG, fGr, crG, cmG, GG⟩ := X.greatest
  have T := X.P_.A.Z.I.R.G.T
  refine Fun.okG F scSev (fun vs H Q E h => ?_) (fun cdv A outer s H vs Q E gd hr h => ?_)
  · obtain ⟨p, l, t0, t1, t2, t3, q0, q1, q2, q3, rfl, _⟩ := h
    rfl
  · obtain ⟨p, l, t0, t1, t2, t3, q0, q1, q2, q3, rfl, R, hl, lp, h0, h1, h2, h3, z0, z1, z2, z3, k⟩ := h
    have r1 : Room 1 _ := hr.mono (by decide)
    have r3 : Room 3 _ := hr.mono (by decide)
    have r4 : Room 4 _ := hr.mono (by decide)
    have r6 : Room 6 _ := hr.mono (by decide)
    refine ⟨_, pss_cons (ps_setLc (i := 2) (own := [("_law_part", 3)]) (g := gName 3) (tt := tYes) (te := tCall (spReal K) [] E0 (tCons (tVar 0) (tCons (tVar 3) tNil))) (by rfl) scSev.nd rfl rfl (sw_true rfl rfl rfl (by decide +kernel)) (pi_list (pv 1))
        (blkOk_by (own := [("_law_part", 3)]) (N := nSev) (sc := defScope sSev) (by decide +kernel)) (fun _ _ _ _ _ => pg_name (i := 3) scSev.nd rfl (Or.inl rfl)) (fun _ _ _ _ _ => pts_nil)
        (fun _ _ _ _ _ => by exact (pe_call GR r4 rfl gR kR bR .nil pass0 (pa_cons (pv 0) (pa_cons (pv 3) pa_nil)))))
      (pss_cons (ps_par (i := 4) (j := 5) (by rfl) scSev.nd rfl rfl (by decide) rfl rfl (pa_cons (pe_ix ix_list (pv 1) pe_int (fun _ _ => rfl)) (pa_cons (pe_ix ix_list (pv 1) pe_int (fun _ _ => rfl)) pa_nil)) (by rfl))
      (pss_cons (ps_for PassesOwn.never rfl (pi_list (pv 1)) (pg_name (i := 3) scSev.nd rfl (Or.inl rfl)) (pss_cons (ps_set (i := 4) scSev.nd rfl (Or.inl rfl) (pe_ifExp (pt_val (pe_call GL1 r1 rfl gL kL bL .nil pass0 (pa_cons (pv 3) (pa_cons (pv 4) pa_nil)))) (pv 3) (pv 4))) (pss_one (ps_set (i := 5) scSev.nd rfl (Or.inl rfl) (pe_ifExp (pt_val (pe_call GL1 r1 rfl gL kL bL .nil pass0 (pa_cons (pv 5) (pa_cons (pv 3) pa_nil)))) (pv 3) (pv 5))))))
      (pss_cons (ps_if (PW.pt (pw_or (pt_not (pt_val (pe_callG GI gd r3 rfl gI kI bI .nil pass0 (pa_cons (ClX.pe_cmeth (pe_glob (v := .ref (aR K)) rfl T.gR rfl) crL cmL GL_ r6 pass0 (pa_cons (pe_ix ix_list (pv 2) pe_int (fun _ _ => rfl)) pa_nil)) (pa_cons (pe_ix ix_list (pv 1) pe_int (fun _ _ => rfl)) pa_nil))))) (pw_or1 (pt_not (pt_val (pe_callG GI gd r3 rfl gI kI bI .nil pass0 (pa_cons (ClX.pe_cmeth (pe_glob (v := .ref (aR K)) rfl T.gR rfl) crG cmG GG r6 pass0 (pa_cons (pe_ix ix_list (pv 2) pe_int (fun _ _ => rfl)) pa_nil)) (pa_cons (pe_ix ix_list (pv 1) pe_int (fun _ _ => rfl)) pa_nil)))))))) (pss_one (ps_ret pe_bl)) pss_nil)
      (pss_cons (ps_set (i := 6) scSev.nd rfl (Or.inl rfl) (pe_lst (pa_cons (ClX.pe_cmeth (pe_glob (v := .ref (aR K)) rfl T.gR rfl) crL cmL GL_ r6 pass0 (pa_cons (pe_ix ix_list (pv 2) pe_int (fun _ _ => rfl)) (pa_cons (pe_ix ix_list (pv 2) pe_int (fun _ _ => rfl)) (pa_cons (pe_ix ix_list (pv 2) pe_int (fun _ _ => rfl)) (pa_cons (pe_ix ix_list (pv 2) pe_int (fun _ _ => rfl)) pa_nil))))) (pa_cons (ClX.pe_cmeth (pe_glob (v := .ref (aR K)) rfl T.gR rfl) crG cmG GG r6 pass0 (pa_cons (pe_ix ix_list (pv 2) pe_int (fun _ _ => rfl)) (pa_cons (pe_ix ix_list (pv 2) pe_int (fun _ _ => rfl)) (pa_cons (pe_ix ix_list (pv 2) pe_int (fun _ _ => rfl)) (pa_cons (pe_ix ix_list (pv 2) pe_int (fun _ _ => rfl)) pa_nil))))) pa_nil))))
      (pss_cons (ps_if (PW.pt (pw_or (pt_not (pt_val (pe_callG GI gd r3 rfl gI kI bI .nil pass0 (pa_cons (pe_ix ix_list (pv 6) pe_int (fun _ _ => rfl)) (pa_cons (pv 4) pa_nil))))) (pw_or1 (pt_not (pt_val (pe_callG GI gd r3 rfl gI kI bI .nil pass0 (pa_cons (pe_ix ix_list (pv 6) pe_int (fun _ _ => rfl)) (pa_cons (pv 5) pa_nil)))))))) (pss_one (ps_ret pe_bl)) pss_nil)
      (pss_cons (ps_set (i := 7) scSev.nd rfl (Or.inl rfl) (pe_lst (pa_cons (pe_op op_pow pe_int pe_int) (pa_cons (pe_un un_neg (pe_op op_pow pe_int pe_int)) pa_nil))))
      (pss_cons (ps_if (pt_not (pt_val (pe_callG GI gd r3 rfl gI kI bI .nil pass0 (pa_cons (ClX.pe_cmeth (pe_glob (v := .ref (aR K)) rfl T.gR rfl) crL cmL GL_ r6 pass0 (pa_cons (pe_ix ix_list (pv 2) pe_int (fun _ _ => rfl)) (pa_cons (pe_ix ix_list (pv 2) pe_int (fun _ _ => rfl)) (pa_cons (pe_ix ix_list (pv 2) pe_int (fun _ _ => rfl)) (pa_cons (pe_ix ix_list (pv 2) pe_int (fun _ _ => rfl)) (pa_cons (pe_ix ix_list (pv 7) pe_int (fun _ _ => rfl)) (pa_cons (pe_ix ix_list (pv 7) pe_int (fun _ _ => rfl)) pa_nil))))))) (pa_cons (pe_tup (pa_cons (pe_ix ix_list (pv 7) pe_int (fun _ _ => rfl)) (pa_cons pe_int pa_nil))) pa_nil))))) (pss_one (ps_ret pe_bl)) pss_nil)
      (pss_cons (ps_if (pt_not (pt_val (pe_callG GI gd r3 rfl gI kI bI .nil pass0 (pa_cons (ClX.pe_cmeth (pe_glob (v := .ref (aR K)) rfl T.gR rfl) crG cmG GG r6 pass0 (pa_cons (pe_ix ix_list (pv 2) pe_int (fun _ _ => rfl)) (pa_cons (pe_ix ix_list (pv 2) pe_int (fun _ _ => rfl)) (pa_cons (pe_ix ix_list (pv 2) pe_int (fun _ _ => rfl)) (pa_cons (pe_ix ix_list (pv 7) pe_int (fun _ _ => rfl)) (pa_cons (pe_ix ix_list (pv 2) pe_int (fun _ _ => rfl)) (pa_cons (pe_ix ix_list (pv 2) pe_int (fun _ _ => rfl)) (pa_cons (pe_ix ix_list (pv 7) pe_int (fun _ _ => rfl)) pa_nil)))))))) (pa_cons (pe_tup (pa_cons (pe_ix ix_list (pv 7) pe_int (fun _ _ => rfl)) (pa_cons pe_int pa_nil))) pa_nil))))) (pss_one (ps_ret pe_bl)) pss_nil)
      (pss_cons (ps_if (pt_not (pt_val (pe_callG GI gd r3 rfl gI kI bI .nil pass0 (pa_cons (ClX.pe_cmeth (pe_glob (v := .ref (aR K)) rfl T.gR rfl) crL cmL GL_ r6 pass0 (pa_cons (pe_ix ix_list (pv 2) pe_int (fun _ _ => rfl)) (pa_cons (pe_ix ix_list (pv 2) pe_int (fun _ _ => rfl)) (pa_cons (pe_ix ix_list (pv 2) pe_int (fun _ _ => rfl)) (pa_cons (pe_ix ix_list (pv 2) pe_int (fun _ _ => rfl)) (pa_cons (pe_ix ix_list (pv 2) pe_int (fun _ _ => rfl)) (pa_cons (pe_ix ix_list (pv 2) pe_int (fun _ _ => rfl)) (pa_cons (pe_ix ix_list (pv 2) pe_int (fun _ _ => rfl)) (pa_cons (pe_ix ix_list (pv 2) pe_int (fun _ _ => rfl)) pa_nil))))))))) (pa_cons (pv 4) pa_nil))))) (pss_one (ps_ret pe_bl)) pss_nil)
      (pss_one (ps_ret (pe_callG GN gd hr rfl gN kN bN .nil pass0 (pa_cons (pv 0) (pa_cons (pe_ix ix_list (pv 1) pe_int (fun _ _ => rfl)) (pa_cons (pe_ix ix_list (pv 2) pe_int (fun _ _ => rfl)) pa_nil))))))))))))))), ?_⟩
    have sq0 : Sz 1000 q0 := z0.mono (by decide)
    have sq1 : Sz 1000 q1 := z1.mono (by decide)
    have sq2 : Sz 1000 q2 := z2.mono (by decide)
    have sq3 : Sz 1000 q3 := z3.mono (by decide)
    have tp0 : t0 ≠ p := R.ne h0
    have tp1 : t1 ≠ p := R.ne h1
    have tp2 : t2 ≠ p := R.ne h2
    have tp3 : t3 ≠ p := R.ne h3
    have parts : ∀ (i : Nat) (x : V), ([.ref t0, .ref t1, .ref t2, .ref t3] : List V)[i]? = some x → ∃ t q, x = .ref t ∧ [q0, q1, q2, q3][i]? = some q ∧ Sz 80 q ∧ ∀ G, Same (off H p) G → PartAt G t q := by
      intro i x e
      match i, e with
      | 0, e => exact ⟨t0, q0, (Option.some.inj e).symm, rfl, z0, fun G s => s t0 _ (by rw [off_ne tp0]; exact h0)⟩
      | 1, e => exact ⟨t1, q1, (Option.some.inj e).symm, rfl, z1, fun G s => s t1 _ (by rw [off_ne tp1]; exact h1)⟩
      | 2, e => exact ⟨t2, q2, (Option.some.inj e).symm, rfl, z2, fun G s => s t2 _ (by rw [off_ne tp2]; exact h2)⟩
      | 3, e => exact ⟨t3, q3, (Option.some.inj e).symm, rfl, z3, fun G s => s t3 _ (by rw [off_ne tp3]; exact h3)⟩
    -- the numbers as the program takes them
    refine ⟨_, rfl, l, rfl, ⟨_, SqL.of hl⟩, fun D hD => ?_⟩
    have Dp_ : D ≠ p := Rng.ne_new R hD
    have lT : ∀ {G : Hp}, Same (off H p) G → G l = some (.lst [.ref t0, .ref t1, .ref t2, .ref t3]) := fun s => s l _ (by rw [off_ne lp]; exact hl)
    refine lc_list (K := K) (a := l) (xs := [.ref t0, .ref t1, .ref t2, .ref t3]) (fun i G => Same (off H p) G ∧ Rng G p ∧ ∃ acc, G D = some (.lst acc) ∧ NumsL K G acc ([q0, q1, q2, q3].take i)) ⟨fun x o e => ?_, ?_, [], upd_same, rfl, fun i v q e => by simp at e⟩ (fun i G _ ⟨s, _⟩ => SqL.of (lT s)) ?_ ?_
    · rw [upd_ne (ne_of_none (off_some e).2 hD)]
      exact (off_some e).2
    · obtain ⟨x, y, ep, r⟩ := R
      exact ⟨x, y, by rw [upd_ne Dp_.symm]; exact ep, r⟩
    · rintro i x G hi ⟨s, RG, acc, hacc, nums⟩
      obtain ⟨t, q, rfl, hq, sz, pt⟩ := parts i x hi
      refine ⟨rfl, ?_⟩
      refine ⟨_, rfl, _, rfl, p, t, q, rfl, RG, pt G s, sz.mono (by decide), fun y G' k' R' hy => ?_⟩
      have hacc' : G' D = some (.lst acc) := k' D _ (by rw [off_ne Dp_]; exact hacc)
      have il : i < 4 := (List.getElem?_eq_some_iff.mp hi).1
      have la : acc.length = i := by
        rw [nums.1, List.length_take]
        show min i 4 = i
        omega
      refine ⟨acc, hacc', by rw [la, sizeLine_eq]; omega, ?_, ?_, acc ++ [y], upd_same, ?_⟩
      · intro b o e
        rw [upd_ne (ne_of_none (off_some e).2 hD)]
        exact off_off s k' b o e
      · obtain ⟨x, y, ep, r⟩ := R'
        exact ⟨x, y, by rw [upd_ne Dp_.symm]; exact ep, r⟩
      · have keep : ∀ {v : V} {q : Rat}, NumAt K G' v q → NumAt K (upd G' D (.lst (acc ++ [y]))) v q := by
          intro v q h
          rcases h with h | ⟨a, e, d, h⟩
          · exact .inl h
          · refine .inr ⟨a, e, d, ?_⟩
            rw [upd_ne]
            · exact h
            · rintro rfl
              rw [hacc'] at h
              cases h
        exact numsL_snoc ⟨nums.1, fun j v r e1 e2 => keep (((nums.2 j v r e1 e2).offR RG).same k')⟩ hq (keep hy)
    rintro G ⟨s, RG, acc, hacc, nums⟩
    obtain ⟨y0, y1, y2, y3, rfl⟩ : ∃ y0 y1 y2 y3, acc = [y0, y1, y2, y3] := by
      have len : acc.length = 4 := nums.1
      match acc, len with
      | [a, b, c, d], _ => exact ⟨a, b, c, d, rfl⟩
    obtain ⟨C, hC⟩ : ∃ C : Hp → Prop, ∀ G, C G ↔ (Same (off H p) G ∧ Rng G p ∧ G D = some (.lst [y0, y1, y2, y3]) ∧ NumAt K G y0 q0 ∧ NumAt K G y1 q1 ∧ NumAt K G y2 q2 ∧ NumAt K G y3 q3) := ⟨_, fun _ => Iff.rfl⟩
    have c0 : C G := (hC _).mpr ⟨s, RG, hacc, nums.2 0 y0 q0 rfl rfl, nums.2 1 y1 q1 rfl rfl, nums.2 2 y2 q2 rfl rfl, nums.2 3 y3 q3 rfl rfl⟩
    have st : ∀ {G G' : Hp}, C G → Same G G' → C G' := by
      intro G G' c s
      obtain ⟨c1, c2, c3, c4, c5, c6, c7⟩ := (hC _).mp c
      exact (hC _).mpr ⟨fun b o e => s b o (c1 b o e), c2.same s, s _ _ c3, c4.same s, c5.same s, c6.same s, c7.same s⟩
    have aS : ∀ {G : Hp}, C G → Same (off H p) G := fun c => ((hC _).mp c).1
    have aL : ∀ {G : Hp}, C G → SqL K G l [.ref t0, .ref t1, .ref t2, .ref t3] := fun c => SqL.of (lT (aS c))
    have aD : ∀ {G : Hp}, C G → SqL K G D [y0, y1, y2, y3] := fun c => SqL.of ((hC _).mp c).2.2.1
    have a0 : ∀ {G : Hp}, C G → NumAt K G y0 q0 := fun c => ((hC _).mp c).2.2.2.1
    have a1 : ∀ {G : Hp}, C G → NumAt K G y1 q1 := fun c => ((hC _).mp c).2.2.2.2.1
    have a2 : ∀ {G : Hp}, C G → NumAt K G y2 q2 := fun c => ((hC _).mp c).2.2.2.2.2.1
    have a3 : ∀ {G : Hp}, C G → NumAt K G y3 q3 := fun c => ((hC _).mp c).2.2.2.2.2.2
    have p0 : ∀ {G : Hp}, C G → PartAt G t0 q0 := fun c => aS c t0 _ (by rw [off_ne tp0]; exact h0)
    clear nums hacc RG s
    -- the law's own least and greatest
    refine ⟨_, rfl, l, _, _, _, rfl, rfl, aL c0, rfl, _, rfl, l, _, _, _, rfl, rfl, aL c0, rfl, _, _, rfl, ?_⟩
    refine ⟨_, rfl, l, rfl, ⟨_, aL c0⟩, ?_⟩
    refine for_list (K := K) (a := l) (xs := [.ref t0, .ref t1, .ref t2, .ref t3]) (fun i z G => C G ∧ ∃ v3 a b, z = [some (.ref p), some (.ref l), some (.ref D), v3, some (.ref a), some (.ref b), none, none] ∧ PartAt G a (([q0, q1, q2, q3].take i).foldl low q0) ∧ PartAt G b (([q0, q1, q2, q3].take i).foldl high q0) ∧ Sz 80 (([q0, q1, q2, q3].take i).foldl low q0) ∧ Sz 80 (([q0, q1, q2, q3].take i).foldl high q0)) ?_ ?_ ?_ ?_
    · exact ⟨c0, none, t0, t0, rfl, p0 c0, p0 c0, z0, z0⟩
    · rintro i z G _ ⟨c, _⟩
      exact aL c
    · rintro i x z G hi ⟨c, v3, a, b, rfl, ha, hb, sa, sb⟩
      obtain ⟨t, q, rfl, hq, sz, pt⟩ := parts i x hi
      have ht := pt G (aS c)
      have e1 : ([q0, q1, q2, q3].take (i + 1)).foldl low q0 = low (([q0, q1, q2, q3].take i).foldl low q0) q := by
        rw [List.take_add_one, hq, Option.toList_some, List.foldl_append]
        rfl
      have e2 : ([q0, q1, q2, q3].take (i + 1)).foldl high q0 = high (([q0, q1, q2, q3].take i).foldl high q0) q := by
        rw [List.take_add_one, hq, Option.toList_some, List.foldl_append]
        rfl
      rw [e1, e2]
      generalize ([q0, q1, q2, q3].take i).foldl low q0 = m at *
      generalize ([q0, q1, q2, q3].take i).foldl high q0 = n at *
      have lo : rBelow q m = true → low m q = q := fun h => by unfold low; rw [if_pos h]
      have lo' : rBelow q m = false → low m q = m := fun h => by unfold low; rw [if_neg (by rw [h]; simp)]
      have hi1 : rBelow n q = true → high n q = q := fun h => by unfold high; rw [if_pos h]
      have hi2 : rBelow n q = false → high n q = n := fun h => by unfold high; rw [if_neg (by rw [h]; simp)]
      refine ⟨_, rfl, _, rfl, t, a, q, m, rfl, ht, ha, sz.mono (by decide), sa.mono (by decide), ⟨_, rfl, ?_⟩⟩
      cases hA : rBelow q m with
      | true =>
        rw [lo hA]
        refine iteT ⟨_, rfl, ?_⟩
        refine ⟨_, rfl, _, rfl, b, t, n, q, rfl, hb, ht, sb.mono (by decide), sz.mono (by decide), ⟨_, rfl, ?_⟩⟩
        cases hB : rBelow n q with
        | true =>
          rw [hi1 hB]
          exact iteT ⟨_, rfl, c, _, t, t, rfl, ht, ht, sz, sz⟩
        | false =>
          rw [hi2 hB]
          exact iteF ⟨_, rfl, c, _, t, b, rfl, ht, hb, sz, sb⟩
      | false =>
        rw [lo' hA]
        refine iteF ⟨_, rfl, ?_⟩
        refine ⟨_, rfl, _, rfl, b, t, n, q, rfl, hb, ht, sb.mono (by decide), sz.mono (by decide), ⟨_, rfl, ?_⟩⟩
        cases hB : rBelow n q with
        | true =>
          rw [hi1 hB]
          exact iteT ⟨_, rfl, c, _, a, t, rfl, ha, ht, sa, sz⟩
        | false =>
          rw [hi2 hB]
          exact iteF ⟨_, rfl, c, _, a, b, rfl, ha, hb, sa, sb⟩
    rintro z G1 ⟨c1, v3, a, b, rfl, ha, hb, sa, sb⟩
    replace ha : PartAt G1 a ([q0, q1, q2, q3].foldl low q0) := ha
    replace hb : PartAt G1 b ([q0, q1, q2, q3].foldl high q0) := hb
    replace sa : Sz 80 ([q0, q1, q2, q3].foldl low q0) := sa
    replace sb : Sz 80 ([q0, q1, q2, q3].foldl high q0) := sb
    have fa : [q1, q2, q3].foldl low q0 = [q0, q1, q2, q3].foldl low q0 := by simp only [List.foldl_cons, List.foldl_nil, low_self]
    have fb : [q1, q2, q3].foldl high q0 = [q0, q1, q2, q3].foldl high q0 := by simp only [List.foldl_cons, List.foldl_nil, high_self]
    have f8 : [q0, q0, q1, q1, q2, q2, q3].foldl low q0 = [q0, q1, q2, q3].foldl low q0 := by simp only [List.foldl_cons, List.foldl_nil, low_self, low_twice]
    generalize [q0, q1, q2, q3].foldl low q0 = L at *
    generalize [q0, q1, q2, q3].foldl high q0 = U at *
    have szs : ∀ x : Rat, x = q0 ∨ x = q1 ∨ x = q2 ∨ x = q3 → Sz 1000 x := by
      rintro x (rfl | rfl | rfl | rfl) <;> assumption
    have sBN : Sz 1000 (BN : Rat) := ⟨by rw [Rat.num_intCast]; decide +kernel, by rw [Rat.den_intCast]; decide +kernel⟩
    have sNB : Sz 1000 ((-BN : Int) : Rat) := ⟨by rw [Rat.num_intCast]; decide +kernel, by rw [Rat.den_intCast]; decide +kernel⟩
    refine ⟨rfl, _, rfl, D, _, _, _, rfl, rfl, aD c1, rfl, [y0], [q0], rfl, (by simp), (by show 1 ≤ 100; decide), (numsL1 (a0 c1)), (fun x hx => by simp only [List.mem_cons, List.not_mem_nil, or_false] at hx; rcases hx with rfl <;> first | assumption | exact szs _ (by simp)), fun x1 b1 G1a hb1 k1a hx1 => ?_⟩
    have eb1 : b1 = q0 := by
      rw [bestL_cons] at hb1
      injection hb1 with hb1
      rw [← hb1]
      rfl
    rw [eb1] at hx1
    have d1 := st c1 k1a
    refine ⟨_, rfl, l, _, _, _, rfl, rfl, aL d1, rfl, x1, t0, q0, rfl, hx1, p0 d1, z0.mono (by decide), fun G2 k2 => ⟨_, rfl, iteF ?_⟩⟩
    have c2 := st d1 k2
    refine ⟨rfl, _, rfl, D, _, _, _, rfl, rfl, aD c2, rfl, [y0], [q0], rfl, (by simp), (by show 1 ≤ 100; decide), (numsL1 (a0 c2)), (fun x hx => by simp only [List.mem_cons, List.not_mem_nil, or_false] at hx; rcases hx with rfl <;> first | assumption | exact szs _ (by simp)), fun x2 b2 G2a hb2 k2a hx2 => ?_⟩
    have eb2 : b2 = q0 := by
      rw [bestG_cons] at hb2
      injection hb2 with hb2
      rw [← hb2]
      rfl
    rw [eb2] at hx2
    have d2 := st c2 k2a
    refine ⟨_, rfl, l, _, _, _, rfl, rfl, aL d2, rfl, x2, t0, q0, rfl, hx2, p0 d2, z0.mono (by decide), fun G3 k3 => ⟨_, rfl, iteF ?_⟩⟩
    have c3 := st d2 k3
    refine ⟨rfl, _, rfl, D, _, _, _, rfl, rfl, aD c3, rfl, _, rfl, D, _, _, _, rfl, rfl, aD c3, rfl, _, rfl, D, _, _, _, rfl, rfl, aD c3, rfl, _, rfl, D, _, _, _, rfl, rfl, aD c3, rfl, [y0, y1, y2, y3], [q0, q1, q2, q3], rfl, (by simp), (by show 4 ≤ 100; decide), (numsL_cons (a0 c3) (numsL_cons (a1 c3) (numsL_cons (a2 c3) (numsL1 (a3 c3))))), (fun x hx => by simp only [List.mem_cons, List.not_mem_nil, or_false] at hx; rcases hx with rfl | rfl | rfl | rfl <;> first | assumption | exact szs _ (by simp)), fun x3 b3 G3a hb3 k3a hx3 => ?_⟩
    have eb3 : b3 = L := by
      rw [bestL_cons] at hb3
      injection hb3 with hb3
      rw [← hb3]
      exact fa
    rw [eb3] at hx3
    have d3 := st c3 k3a
    refine ⟨rfl, _, rfl, D, _, _, _, rfl, rfl, aD d3, rfl, _, rfl, D, _, _, _, rfl, rfl, aD d3, rfl, _, rfl, D, _, _, _, rfl, rfl, aD d3, rfl, _, rfl, D, _, _, _, rfl, rfl, aD d3, rfl, [y0, y1, y2, y3], [q0, q1, q2, q3], rfl, (by simp), (by show 4 ≤ 100; decide), (numsL_cons (a0 d3) (numsL_cons (a1 d3) (numsL_cons (a2 d3) (numsL1 (a3 d3))))), (fun x hx => by simp only [List.mem_cons, List.not_mem_nil, or_false] at hx; rcases hx with rfl | rfl | rfl | rfl <;> first | assumption | exact szs _ (by simp)), fun x4 b4 G4a hb4 k4a hx4 => ?_⟩
    have eb4 : b4 = U := by
      rw [bestG_cons] at hb4
      injection hb4 with hb4
      rw [← hb4]
      exact fb
    rw [eb4] at hx4
    have d4 := st d3 k4a
    have hx3' := hx3.same k4a
    refine ⟨(by show 2 ≤ sizeLine; decide), fun W nW => ?_⟩
    have uW := same_new (o := .lst [V.ref x3, .ref x4]) nW
    have hW : upd G4a W (.lst [V.ref x3, .ref x4]) W = some (.lst [V.ref x3, .ref x4]) := upd_same
    have c4 := st d4 uW
    have w1 := hx3'.same uW
    have w2 := hx4.same uW
    have wa : PartAt _ a L := uW _ _ (k4a _ _ (k3a _ _ (k3 _ _ (k2a _ _ (k2 _ _ (k1a _ _ ha))))))
    have wb : PartAt _ b U := uW _ _ (k4a _ _ (k3a _ _ (k3 _ _ (k2a _ _ (k2 _ _ (k1a _ _ hb))))))
    generalize upd G4a W (.lst [V.ref x3, .ref x4]) = G4 at *
    refine ⟨_, rfl, W, _, _, _, rfl, rfl, SqL.of hW, rfl, _, rfl, x3, a, L, rfl, w1, wa, sa.mono (by decide), fun G5 k5 => ⟨_, rfl, iteF ?_⟩⟩
    have c5 := st c4 k5
    refine ⟨_, rfl, W, _, _, _, rfl, rfl, SqL.of (k5 _ _ hW), rfl, _, rfl, x4, b, U, rfl, w2.same k5, k5 _ _ wb, sb.mono (by decide), fun G6 k6 => ⟨_, rfl, iteF ?_⟩⟩
    have c6 := st c5 k6
    have va : PartAt G6 a L := k6 _ _ (k5 _ _ wa)
    clear wb wa w2 w1 hW uW nW
    -- numbers far below and above
    refine ⟨_, _, rfl, rfl, ⟨by decide, by decide, by decide⟩, _, _, rfl, rfl, ⟨by decide, by decide, by decide⟩, _, rfl, (by show 2 ≤ sizeLine; decide), fun F nF => ?_⟩
    have uF := same_new (o := .lst [V.int BN, .int (-BN)]) nF
    have hF : upd G6 F (.lst [V.int BN, .int (-BN)]) F = some (.lst [V.int BN, .int (-BN)]) := upd_same
    have c7 := st c6 uF
    have v7 := uF _ _ va
    obtain ⟨C2, hC2⟩ : ∃ C2 : Hp → Prop, ∀ G, C2 G ↔ (C G ∧ PartAt G a L ∧ G F = some (.lst [V.int BN, .int (-BN)])) := ⟨_, fun _ => Iff.rfl⟩
    have s2 : ∀ {G G' : Hp}, C2 G → Same G G' → C2 G' := by
      intro G G' c s
      obtain ⟨x1, x2, x3⟩ := (hC2 _).mp c
      exact (hC2 _).mpr ⟨st x1 s, s _ _ x2, s _ _ x3⟩
    have e0 : C2 (upd G6 F (.lst [V.int BN, .int (-BN)])) := (hC2 _).mpr ⟨c7, v7, hF⟩
    have aF : ∀ {G : Hp}, C2 G → G F = some (.lst [V.int BN, .int (-BN)]) := fun c => ((hC2 _).mp c).2.2
    have aC : ∀ {G : Hp}, C2 G → C G := fun c => ((hC2 _).mp c).1
    have aA : ∀ {G : Hp}, C2 G → PartAt G a L := fun c => ((hC2 _).mp c).2.1
    have unit_ : ∀ {G : Hp} {u : Addr} {i : Int}, upd G u (.tup [V.int i, .int 1]) u = some (.tup [V.int ((i : Rat)).num, .int (((i : Rat)).den : Int)]) := by
      intro G u i
      rw [Rat.num_intCast, Rat.den_intCast]
      exact upd_same
    replace e0 : C2 _ := e0
    refine ⟨rfl, _, rfl, D, _, _, _, rfl, rfl, aD (aC e0), rfl, _, rfl, D, _, _, _, rfl, rfl, aD (aC e0), rfl, _, rfl, D, _, _, _, rfl, rfl, aD (aC e0), rfl, _, rfl, D, _, _, _, rfl, rfl, aD (aC e0), rfl, _, rfl, F, _, _, _, rfl, rfl, SqL.of (aF e0), rfl, _, rfl, F, _, _, _, rfl, rfl, SqL.of (aF e0), rfl, [y0, y1, y2, y3, .int BN, .int (-BN)], [q0, q1, q2, q3, (BN : Rat), ((-BN : Int) : Rat)], rfl, (by simp), (by show 6 ≤ 100; decide), (numsL_cons (a0 (aC e0)) (numsL_cons (a1 (aC e0)) (numsL_cons (a2 (aC e0)) (numsL_cons (a3 (aC e0)) (numsL_cons (.inl ⟨BN, rfl, rfl⟩) (numsL1 (.inl ⟨-BN, rfl, rfl⟩))))))), (fun x hx => by simp only [List.mem_cons, List.not_mem_nil, or_false] at hx; rcases hx with rfl | rfl | rfl | rfl | rfl | rfl <;> first | assumption | exact szs _ (by simp)), fun x5 b5 G5a hb5 k5a hx5 => ?_⟩
    have eb5 : b5 = ((-BN : Int) : Rat) := by
      rw [bestL_cons] at hb5
      injection hb5 with hb5
      rw [← hb5]
      show low (low (low (low (low q0 q1) q2) q3) (BN : Rat)) ((-BN : Int) : Rat) = _
      have z : rBelow ((-BN : Int) : Rat) (low (low (low (low q0 q1) q2) q3) (BN : Rat)) = true := low_P (P := fun x => rBelow ((-BN : Int) : Rat) x = true) (low_P (P := fun x => rBelow ((-BN : Int) : Rat) x = true) (low_P (P := fun x => rBelow ((-BN : Int) : Rat) x = true) (low_P (P := fun x => rBelow ((-BN : Int) : Rat) x = true) (above_B z0) (above_B z1)) (above_B z2)) (above_B z3)) both_B
      generalize low (low (low (low q0 q1) q2) q3) (BN : Rat) = m at *
      unfold low
      rw [if_pos z]
    rw [eb5] at hx5
    have d5 := s2 e0 k5a
    refine ⟨_, rfl, F, _, _, _, rfl, rfl, SqL.of (aF d5), rfl, (by show 2 ≤ sizeLine; decide), fun u5 nu5 => ?_⟩
    have uu5 := same_new (o := .tup [V.int (-BN), .int 1]) nu5
    have e1 := s2 d5 uu5
    refine ⟨x5, u5, ((-BN : Int) : Rat), rfl, hx5.same uu5, unit_, sNB.mono (by decide), fun G9 k9 => ⟨_, rfl, iteF ?_⟩⟩
    have e2 := s2 e1 k9
    refine ⟨rfl, _, rfl, D, _, _, _, rfl, rfl, aD (aC e2), rfl, _, rfl, D, _, _, _, rfl, rfl, aD (aC e2), rfl, _, rfl, D, _, _, _, rfl, rfl, aD (aC e2), rfl, _, rfl, F, _, _, _, rfl, rfl, SqL.of (aF e2), rfl, _, rfl, D, _, _, _, rfl, rfl, aD (aC e2), rfl, _, rfl, D, _, _, _, rfl, rfl, aD (aC e2), rfl, _, rfl, F, _, _, _, rfl, rfl, SqL.of (aF e2), rfl, [y3, y3, y1, .int (-BN), y2, y0, .int BN], [q3, q3, q1, ((-BN : Int) : Rat), q2, q0, (BN : Rat)], rfl, (by simp), (by show 7 ≤ 100; decide), (numsL_cons (a3 (aC e2)) (numsL_cons (a3 (aC e2)) (numsL_cons (a1 (aC e2)) (numsL_cons (.inl ⟨-BN, rfl, rfl⟩) (numsL_cons (a2 (aC e2)) (numsL_cons (a0 (aC e2)) (numsL1 (.inl ⟨BN, rfl, rfl⟩)))))))), (fun x hx => by simp only [List.mem_cons, List.not_mem_nil, or_false] at hx; rcases hx with rfl | rfl | rfl | rfl | rfl | rfl | rfl <;> first | assumption | exact szs _ (by simp)), fun x6 b6 G6a hb6 k6a hx6 => ?_⟩
    have eb6 : b6 = (BN : Rat) := by
      rw [bestG_cons] at hb6
      injection hb6 with hb6
      rw [← hb6]
      show high (high (high (high (high (high q3 q3) q1) ((-BN : Int) : Rat)) q2) q0) (BN : Rat) = _
      have z : rBelow (high (high (high (high (high q3 q3) q1) ((-BN : Int) : Rat)) q2) q0) (BN : Rat) = true := high_P (P := fun x => rBelow x (BN : Rat) = true) (high_P (P := fun x => rBelow x (BN : Rat) = true) (high_P (P := fun x => rBelow x (BN : Rat) = true) (high_P (P := fun x => rBelow x (BN : Rat) = true) (high_P (P := fun x => rBelow x (BN : Rat) = true) (below_B z3) (below_B z3)) (below_B z1)) both_B) (below_B z2)) (below_B z0)
      generalize high (high (high (high (high q3 q3) q1) ((-BN : Int) : Rat)) q2) q0 = m at *
      unfold high
      rw [if_pos z]
    rw [eb6] at hx6
    have d6 := s2 e2 k6a
    refine ⟨_, rfl, F, _, _, _, rfl, rfl, SqL.of (aF d6), rfl, (by show 2 ≤ sizeLine; decide), fun u6 nu6 => ?_⟩
    have uu6 := same_new (o := .tup [V.int BN, .int 1]) nu6
    have e3 := s2 d6 uu6
    refine ⟨x6, u6, (BN : Rat), rfl, hx6.same uu6, unit_, sBN.mono (by decide), fun G10 k10 => ⟨_, rfl, iteF ?_⟩⟩
    have e4 := s2 e3 k10
    refine ⟨rfl, _, rfl, D, _, _, _, rfl, rfl, aD (aC e4), rfl, _, rfl, D, _, _, _, rfl, rfl, aD (aC e4), rfl, _, rfl, D, _, _, _, rfl, rfl, aD (aC e4), rfl, _, rfl, D, _, _, _, rfl, rfl, aD (aC e4), rfl, _, rfl, D, _, _, _, rfl, rfl, aD (aC e4), rfl, _, rfl, D, _, _, _, rfl, rfl, aD (aC e4), rfl, _, rfl, D, _, _, _, rfl, rfl, aD (aC e4), rfl, _, rfl, D, _, _, _, rfl, rfl, aD (aC e4), rfl, [y0, y0, y0, y1, y1, y2, y2, y3], [q0, q0, q0, q1, q1, q2, q2, q3], rfl, (by simp), (by show 8 ≤ 100; decide), (numsL_cons (a0 (aC e4)) (numsL_cons (a0 (aC e4)) (numsL_cons (a0 (aC e4)) (numsL_cons (a1 (aC e4)) (numsL_cons (a1 (aC e4)) (numsL_cons (a2 (aC e4)) (numsL_cons (a2 (aC e4)) (numsL1 (a3 (aC e4)))))))))), (fun x hx => by simp only [List.mem_cons, List.not_mem_nil, or_false] at hx; rcases hx with rfl | rfl | rfl | rfl | rfl | rfl | rfl | rfl <;> first | assumption | exact szs _ (by simp)), fun x7 b7 G7a hb7 k7a hx7 => ?_⟩
    have eb7 : b7 = L := by
      rw [bestL_cons] at hb7
      injection hb7 with hb7
      rw [← hb7]
      exact f8
    rw [eb7] at hx7
    have d7 := s2 e4 k7a
    refine ⟨_, rfl, x7, a, L, rfl, hx7, aA d7, sa.mono (by decide), fun G11 k11 => ⟨_, rfl, iteF ?_⟩⟩
    have e5 := aC (s2 d7 k11)
    refine ⟨_, rfl, _, rfl, l, _, _, _, rfl, rfl, aL e5, rfl, _, rfl, D, _, _, _, rfl, rfl, aD e5, rfl, ?_⟩
    refine ⟨p, t0, y0, q0, rfl, ((hC _).mp e5).2.1, p0 e5, a0 e5, z0.mono (by decide), fun G12 s12 R12 => ?_⟩
    exact k _ (off_off (aS e5) s12) R12
end
end K18
set_option maxHeartbeats 4000000
/-! Own operators of own instances with a thing of a built-in type at the right. -/
namespace PySem
namespace GO
open PySem.W PySem.Calls PyProof.Rows PySem.HandSPX Builtin
section
variable {prog : Program} {w : World} {A : Around} {E : Value → Shared → Prop} {hp : Heap} {g : Array GenState} {d : Drawn} {t : Nat} {os : OsState} {K : W.Frag} {x y C f : Addr} {ox oy : Obj} {od oe : Option Obj} {b : Value} {op : Operator} {Q : Value → Shared → Prop} {cd : ClassData} {rest : List Value}
/-- whether the type's table fills the slot -/
def tabB (va vr : Option Value) : Bool := (va.isSome && !isSeqSlot va) || (vr.isSome && !isSeqSlot vr)
/-- a + b, b of a built-in type that doesn't fill the slot -/
theorem bin_not {T : String} {va vr : Option Value} (X : K.In hp) (I : InstAt hp x ox C od) (hcd : clsIn K C = some cd) (hm : cd.mro = .ref C :: rest) (hf : findIn K (.ref C) (dunder op.info.2) = some (some (.ref f))) (tf : typeIn K (.ref f) = some (.type "function"))
    (lk : W.Looks (model prog w) hp (typeOf b) (.type T)) (fa : findIn K (.type T) (dunder op.info.2) = some va) (fr : findIn K (.type T) (dunderR op.info.2) = some vr) (no : tabB va vr = false)
    (h : wpAny (model prog w) A (call (.ref f) [.ref x, b]) (W.CmpBack Q) E ⟨hp, g, d, t, os⟩) : wpAny (model prog w) A (binaryOp op (.ref x) b) Q E ⟨hp, g, d, t, os⟩ := by
  have left := fills_K (M := model prog w) (nm := op.info.2) X hcd hm hf
  have l3 := looks_findIn (M := model prog w) X fa
  have l4 := looks_findIn (M := model prog w) X fr
  unfold binaryOp
  generalize op.info = z at *
  obtain ⟨sym, nm⟩ := z
  apply wpAny_holding
  unfold binaryOp1
  apply wpAny_bind
  apply wpAny_bind
  apply I.type.at
  apply wpAny_bind
  apply lk.at
  apply wpAny_bind
  apply left.at
  have right : W.Looks (model prog w) hp (fillsNumberSlot (.type T) nm) false := by
    unfold fillsNumberSlot
    dsimp only
    refine l3.andThen (l4.andThen ?_)
    show W.Looks _ _ (pure (tabB va vr)) false
    rw [no]
    exact .now
  dsimp only
  rw [if_neg (by simp)]
  apply wpAny_bind
  apply right.at
  simp only [Bool.and_false, Bool.false_and, Bool.true_and, Bool.false_eq_true, if_false, if_true]
  repeat (first | with_reducible refine try_own X I hf tf ?_ | wp_step)
  refine wpAny_mono h (fun v s' z => ?_) fun _ _ z => z
  cases v <;> first | exact wpAny_pure (wpAny_pure z) | exact z.elim
/-- a + b, b of a built-in type that fills the slot and isn't below the class -/
theorem bin_too {T : String} {ia ir : String} (X : K.In hp) (I : InstAt hp x ox C od) (hcd : clsIn K C = some cd) (hm : cd.mro = .ref C :: rest) (hf : findIn K (.ref C) (dunder op.info.2) = some (some (.ref f))) (hr : findIn K (.ref C) (dunderR op.info.2) = some none) (tf : typeIn K (.ref f) = some (.type "function"))
    (lk : W.Looks (model prog w) hp (typeOf b) (.type T)) (fa : findIn K (.type T) (dunder op.info.2) = some (some (.builtin ia))) (fr : findIn K (.type T) (dunderR op.info.2) = some (some (.builtin ir))) (sq : isSeqSlot (some (.builtin ia)) = false) (sub : subIn K (.type T) (.ref C) = some false)
    (h : wpAny (model prog w) A (call (.ref f) [.ref x, b]) (W.CmpBack Q) E ⟨hp, g, d, t, os⟩) : wpAny (model prog w) A (binaryOp op (.ref x) b) Q E ⟨hp, g, d, t, os⟩ := by
  have left := fills_K (M := model prog w) (nm := op.info.2) X hcd hm hf
  have l1 := looks_findIn (M := model prog w) X hf
  have l2 := looks_findIn (M := model prog w) X hr
  have l3 := looks_findIn (M := model prog w) X fa
  have l4 := looks_findIn (M := model prog w) X fr
  have l5 := looks_subIn (M := model prog w) X sub
  unfold binaryOp
  generalize op.info = z at *
  obtain ⟨sym, nm⟩ := z
  apply wpAny_holding
  unfold binaryOp1 numberSlotInPython fillsNumberSlot
  apply wpAny_bind
  apply wpAny_bind
  apply I.type.at
  apply wpAny_bind
  apply lk.at
  apply wpAny_bind
  apply left.at
  repeat (first | with_reducible refine try_own X I hf tf ?_ | with_reducible refine l1.at ?_ | with_reducible refine l2.at ?_ | with_reducible refine l3.at ?_ | with_reducible refine l4.at ?_ | with_reducible refine l5.at ?_ | wp_step)
  refine wpAny_mono h (fun v s' z => ?_) fun _ _ z => z
  cases v <;> first | exact wpAny_pure (wpAny_pure z) | exact z.elim
end
end GO
end PySem

namespace GL
open PySem PySem.Spec PyProof.Rows L2
/-- T's things fill no slot of op at the right of it -/
def flatB (op : Operator) (T : String) : Bool := match PySem.W.findIn [] (.type T) (dunder op.info.2), PySem.W.findIn [] (.type T) (dunderR op.info.2) with
  | some va, some vr => !PySem.GO.tabB va vr
  | _, _ => false
abbrev flatTs : List String := ["NoneType", "str", "list", "tuple", "dict"]
theorem flat_all : ∀ op ∈ [Operator.Add, .Sub, .Mult], ∀ T ∈ flatTs, flatB op T = true := by decide +kernel
theorem flat_vals {K : PySem.W.Frag} {op : Operator} {T : String} (h : flatB op T = true) : ∃ va vr, PySem.W.findIn K (.type T) (dunder op.info.2) = some va ∧ PySem.W.findIn K (.type T) (dunderR op.info.2) = some vr ∧ PySem.GO.tabB va vr = false := by
  unfold flatB at h
  have e : ∀ nm, PySem.W.findIn K (.type T) nm = PySem.W.findIn [] (.type T) nm := fun _ => rfl
  rw [e, e]
  split at h
  · rename_i va vr a b
    exact ⟨va, vr, a, b, by simpa using h⟩
  · cases h
def rOwnX (K : PySem.W.Frag) (C : Addr) (sp : Sp) (E : XK) : R2 := fun x y H Q => ∃ a dx fs T, x = .ref a ∧ H a = some (.ins C dx fs) ∧ TyX K H y (.type T) ∧ (T ∈ flatTs ∨ (T = "bool" ∧ PySem.W.subIn K (.type "bool") (.ref C) = some false)) ∧ sp [x, y] H Q E
theorem op_ownX {X : Cx} {CX : CXT} {E : XK} {k : Nat} {sp : Sp} {C f : Addr} {op : Operator} (hop : op ∈ [Operator.Add, .Sub, .Mult]) (B : OwnBin X.K C op f) (F : FnR X.prog X.w X.K X.mg X.base CX k f sp) (hr : Room k X.A) (hx : Passes CX X E) : OpR X (binaryOp op) (rOwnX X.K C sp E) := by
  intro pins s σ H x y v u Q I rx ry h
  obtain ⟨a, dx, fs, T, rfl, ea, ty, hT, q⟩ := h
  cases (show v = Value.ref a from rx)
  obtain ⟨ox, od, J⟩ := inst_of I ea
  obtain ⟨cd, rest, hcd, hm⟩ := B.c
  have z : wpAny (model X.prog X.w) X.A (PySem.call (.ref f) [.ref a, u]) (PySem.W.CmpBack (EP X pins σ Q)) X.xe s := thn (wpAny_call (run_fnR F hr hx I (Paired.cons (a := V.ref a) (b := Value.ref a) rfl (.cons ry .nil)) q)) fun _ _ => notImpl
  have lk := ty_look I ry ty
  rcases s with ⟨hp, g, d, tk, os⟩
  rcases hT with hT | ⟨rfl, sub⟩
  · obtain ⟨va, vr, fa, fr, no⟩ := flat_vals (K := X.K) (flat_all op hop T hT)
    exact PySem.GO.bin_not I.kIn J hcd hm B.m.at_ (isFn_ty B.m.fn) lk fa fr no z
  · simp only [List.mem_cons, List.not_mem_nil, or_false] at hop
    rcases hop with rfl | rfl | rfl
    · exact PySem.GO.bin_too (ia := "int.__add__") (ir := "int.__radd__") I.kIn J hcd hm B.m.at_ B.r (isFn_ty B.m.fn) lk (by show fastLookup "bool" _ = _; decide +kernel) (by show fastLookup "bool" _ = _; decide +kernel) (by decide +kernel) sub z
    · exact PySem.GO.bin_too (ia := "int.__sub__") (ir := "int.__rsub__") I.kIn J hcd hm B.m.at_ B.r (isFn_ty B.m.fn) lk (by show fastLookup "bool" _ = _; decide +kernel) (by show fastLookup "bool" _ = _; decide +kernel) (by decide +kernel) sub z
    · exact PySem.GO.bin_too (ia := "int.__mul__") (ir := "int.__rmul__") I.kIn J hcd hm B.m.at_ B.r (isFn_ty B.m.fn) lk (by show fastLookup "bool" _ = _; decide +kernel) (by show fastLookup "bool" _ = _; decide +kernel) (by decide +kernel) sub z
end GL
set_option maxHeartbeats 4000000
/-! C.m(), m a classmethod, no arguments. -/
namespace GL
open PySem PySem.Spec PyProof.Rows L2
def tCMeth0 (C : Addr) (sp : Sp) (E : XK) (ta : TE) : TE := fun σ H Q => ta σ H fun x H1 => x = .ref C ∧ sp [.ref C] H1 Q E
section
variable {X : Cx} {CX : CXT} {k : Nat} {C p g : Addr} {mc : Value} {sp : Sp} {E : XK} {o : Expr} {m : Str} {pos apos : Pos} {ta : TE} {pl : Sem Bool}
theorem pe_cmeth0 (he : PE X o ta) (r : ClX.CRead X.K C mc) (c : ClX.CMet X.K C mc m p g) (F : FnR X.prog X.w X.K X.mg X.base CX k g sp) (hr : Room k X.A) (hx : Passes CX X E)
    (ht : eval (.Call (.Attribute o m apos) [] [] pos) X.env = (do
      let ov ← eval o X.env
      standAt apos.atName
      let (f, first) ← holding [ov] (getMethod ov m pl)
      callWith pos f first (backTo pos (starEach [] X.env)) (backToKw pos (keywordEach [] X.env))) := by rfl) :
    PE X (.Call (.Attribute o m apos) [] [] pos) (tCMeth0 C sp E ta) := by
  refine ⟨fun pins s σ H Q I h => ?_⟩
  refine PySem.W.methodCall_KW (pl := pl) (thn (he.run pins s σ H _ I h) fun u s1 ⟨x, H1, I1, rx, ex, q⟩ => ?_) ht
  subst ex
  obtain rfl : u = Value.ref C := rx
  refine ClX.getmethcm_ok I1 r c fun s2 I2 => ?_
  refine PySem.W.callWith_M0 (K := X.K) ⟨ClX.pin_at I2, I2.kIn⟩ c.fi ?_
  exact ClX.run_cm F hr hx I2 .nil q
end
end GL
set_option maxHeartbeats 4000000
namespace K18
open PySem PySem.Spec PyProof.Rows L2 GL
/-- no type of things that stand here is of the class Ratio -/
structure NA (K : PySem.W.Frag) : Prop where
  r : ∀ n ∈ (["NoneType", "str", "list", "tuple", "dict", "bool", "int"] : List String), PySem.W.kitOne K (.type n) (.ref (aR K)) = some false
  i : PySem.W.kitOne K (.ref (aR K)) (.type "int") = some false
  sb : PySem.W.subIn K (.type "bool") (.ref (aR K)) = some false
/-- what is no number: how it stands there, how it is shown, its type -/
inductive OddO : HO → PyData → String → Prop
  | l0 : OddO (.lst []) (.list []) "list"
  | l1 : OddO (.lst [.int 1]) (.list [.int 1]) "list"
  | t12 : OddO (.tup [.int 1, .int 2]) (.tuple [.int 1, .int 2]) "tuple"
  | t0 : OddO (.tup []) (.tuple []) "tuple"
  | d : OddO (.dK []) (.dict []) "dict"
inductive OddF : V → PyData → String → Prop
  | non : OddF .non .none "NoneType"
  | bT : OddF (.bl true) (.bool true) "bool"
  | bF : OddF (.bl false) (.bool false) "bool"
  | s1 : OddF (.str "1") (.str "1") "str"
  | s0 : OddF (.str "") (.str "") "str"
  | s2 : OddF (.str "1/2") (.str "1/2") "str"
theorem OddO.noTbl {o : HO} {pd : PyData} {T : String} (h : OddO o pd T) (x) : o ≠ .tbl x := by cases h <;> exact fun z => nomatch z
def Odd (p : Addr) (H : Hp) (v : V) (pd : PyData) (T : String) : Prop := OddF v pd T ∨ ∃ a o, v = .ref a ∧ a ≠ p ∧ H a = some o ∧ OddO o pd T
theorem Odd.ext {p : Addr} {H H' : Hp} {v : V} {pd : PyData} {T : String} (h : Odd p H v pd T) (k : LamX.ExtN H H') : Odd p H' v pd T := by
  rcases h with h | ⟨a, o, e, n, h, c⟩
  · exact .inl h
  · exact .inr ⟨a, o, e, n, k _ _ h fun x => c.noTbl x, c⟩
theorem Odd.offp {p : Addr} {H : Hp} {v : V} {pd : PyData} {T : String} (h : Odd p H v pd T) : Odd p (GL.off H p) v pd T := by
  rcases h with h | ⟨a, o, e, n, h, c⟩
  · exact .inl h
  · exact .inr ⟨a, o, e, n, by rw [off_ne n]; exact h, c⟩
/-- how data is shown: within bounds -/
structure Shows (pd : PyData) : Prop where
  sh : pd.showable = true
  dp : pd.depth ≤ 9
  ln : pd.shown.length ≤ 90
  ok : PyData.strOk pd.shown = true
theorem Odd.shows {p : Addr} {H : Hp} {v : V} {pd : PyData} {T : String} (h : Odd p H v pd T) : Shows pd := by
  rcases h with h | ⟨a, o, rfl, n, h, c⟩
  · cases h <;> exact ⟨by decide +kernel, by decide, by decide +kernel, by decide +kernel⟩
  · cases c <;> exact ⟨by decide +kernel, by decide, by decide +kernel, by decide +kernel⟩
theorem none_shows : Shows .none := ⟨by decide +kernel, by decide, by decide +kernel, by decide +kernel⟩
theorem Odd.dq {K : PySem.W.Frag} {p : Addr} {H : Hp} {v : V} {pd : PyData} {T : String} (h : Odd p H v pd T) : Dq K H v pd := by
  rcases h with h | ⟨a, o, rfl, n, h, c⟩
  · cases h with
    | non => exact .non
    | bT => exact .bl _
    | bF => exact .bl _
    | s1 => exact .str _
    | s0 => exact .str _
    | s2 => exact .str _
  · cases c with
    | l0 => exact .lst (SqL.of h) .nil
    | l1 => exact .lst (SqL.of h) (.cons (.int 1) .nil)
    | t12 => exact .tup (SqT.of h) (.cons (.int 1) (.cons (.int 2) .nil))
    | t0 => exact .tup (SqT.of h) .nil
    | d => exact .dct h .nil
theorem Shows.rep {K : PySem.W.Frag} {H : Hp} {v : V} {pd : PyData} (s : Shows pd) (h : Dq K H v pd) : RepAt K H v pd.shown := .inl ⟨pd, h, s.sh, Nat.le_trans s.dp (by decide), Nat.le_trans s.ln (by decide), rfl⟩
section
variable {K : PySem.W.Frag} {p : Addr} {H : Hp} {v : V} {pd : PyData} {T : String}
theorem Odd.ty (h : Odd p H v pd T) : TyX K H v (.type T) := by
  rcases h with h | ⟨a, o, rfl, n, h, c⟩
  · cases h with
    | non => exact .base .non
    | bT => exact .base (.bl _)
    | bF => exact .base (.bl _)
    | s1 => exact .base (.str _)
    | s0 => exact .base (.str _)
    | s2 => exact .base (.str _)
  · cases c with
    | l0 => exact .base (.lst h)
    | l1 => exact .base (.lst h)
    | t12 => exact .base (.tup h)
    | t0 => exact .base (.tup h)
    | d => exact .base (.dK h)
theorem Odd.names (h : Odd p H v pd T) : T ∈ (["NoneType", "str", "list", "tuple", "dict", "bool"] : List String) := by
  rcases h with h | ⟨a, o, rfl, n, h, c⟩
  · cases h <;> decide
  · cases c <;> decide
theorem Odd.flat (N : NA K) (h : Odd p H v pd T) : T ∈ flatTs ∨ (T = "bool" ∧ PySem.W.subIn K (.type "bool") (.ref (aR K)) = some false) := by
  have z := h.names
  simp only [List.mem_cons, List.not_mem_nil, or_false] at z
  rcases z with rfl | rfl | rfl | rfl | rfl | rfl
  · exact .inl (by decide)
  · exact .inl (by decide)
  · exact .inl (by decide)
  · exact .inl (by decide)
  · exact .inl (by decide)
  · exact .inr ⟨rfl, N.sb⟩
theorem Odd.notN (N : NA K) (h : Odd p H v pd T) : NotN K H v := by
  have ty := h.ty (K := K)
  refine ⟨?_, .type T, ty, N.r _ (by have z := h.names; simp only [List.mem_cons, List.not_mem_nil, or_false] at z ⊢; rcases z with z | z | z | z | z | z <;> simp [z])⟩
  have z := h.names
  simp only [List.mem_cons, List.not_mem_nil, or_false] at z
  rcases z with rfl | rfl | rfl | rfl | rfl | rfl
  · exact ⟨_, false, false, ty, kit_ty (by decide +kernel), (fun z => by cases z), rfl⟩
  · exact ⟨_, false, false, ty, kit_ty (by decide +kernel), (fun z => by cases z), rfl⟩
  · exact ⟨_, false, false, ty, kit_ty (by decide +kernel), (fun z => by cases z), rfl⟩
  · exact ⟨_, false, false, ty, kit_ty (by decide +kernel), (fun z => by cases z), rfl⟩
  · exact ⟨_, false, false, ty, kit_ty (by decide +kernel), (fun z => by cases z), rfl⟩
  · exact ⟨_, true, true, ty, kit_ty (by decide +kernel), fun _ => kit_ty (by decide +kernel), rfl⟩
theorem NotN.ne0 (h : Odd p H v pd T) : v ≠ .int 0 := by
  rintro rfl
  rcases h with h | ⟨a, o, e, _⟩
  · cases h
  · cases e
end
/-- what stands behind G0, with the tables -/
structure BX (T : List (Addr × Str)) (G0 G : Hp) : Prop where
  ex : LamX.ExtN G0 G
  tb : LamX.Tabs T G
theorem BX.stE {T : List (Addr × Str)} {G0 G G' : Hp} (b : BX T G0 G) (e : LamX.ExtN G G') (t : LamX.Tabs T G') : BX T G0 G' := ⟨b.1.trans e, t⟩
theorem BX.stS {T : List (Addr × Str)} {G0 G G' : Hp} (b : BX T G0 G) (s : Same G G') : BX T G0 G' := ⟨b.1.trans (same_extN s), Tabs.same b.2 s⟩
theorem tabs_updL {T : List (Addr × Str)} {H : Hp} {D : Addr} {xs : List V} {o : HO} (t : LamX.Tabs T H) (e : H D = some (.lst xs)) : LamX.Tabs T (upd H D o) := fun x hx => by
  obtain ⟨ps, h1, h2, h3⟩ := t x hx
  refine ⟨ps, ?_, h2, fun pos cv hc => ?_⟩
  · rw [upd_ne (fun z => by rw [z, e] at h1; cases h1)]
    exact h1
  · obtain ⟨c, e1, e2⟩ := h3 pos cv hc
    refine ⟨c, e1, ?_⟩
    rw [upd_ne (fun z => by rw [z, e] at e2; exact codeO_lst (Option.some.inj e2).symm)]
    exact e2
/-- neither a table nor a list -/
def NL (o : HO) : Prop := (∀ ps, o ≠ .tbl ps) ∧ ∀ xs, o ≠ .lst xs
/-- the list at W, what is known besides; W not in G0 -/
structure KN (T : List (Addr × Str)) (G0 : Hp) (know : List (Addr × HO)) (W : Addr) (xs : List V) (G : Hp) : Prop where
  b : BX T G0 G
  k : ∀ p ∈ know, G p.1 = some p.2 ∧ NL p.2
  w : G W = some (.lst xs)
  nw : ∀ o, G0 W = some o → (∀ ps, o ≠ .tbl ps) → False
theorem lamO_nl {X : Cx} {params : Arguments} {body : Expr} {scope : Scope} {f c' : Addr} : NL (LamO X params body scope f c') := ⟨fun ps => lamO_ne ps, fun xs z => by unfold LamO at z; cases z⟩
theorem codeO_nl {c : Addr} {q : Str} : NL (LamX.CodeO c q) := ⟨fun ps => LamX.codeO_ne ps, fun xs => codeO_lst⟩
/-- one more lambda, appended -/
theorem KN.app {T : List (Addr × Str)} {G0 G H1 : Hp} {know : List (Addr × HO)} {W f c' : Addr} {xs : List V} {o o' : HO} (a : KN T G0 know W xs G) (x : LamX.ExtN G H1) (t : LamX.Tabs T H1) (fr : H1 f = none) (co : H1 c' = some o') (ho : NL o) (ho' : NL o') :
    (upd H1 f o) W = some (.lst xs) ∧ KN T G0 ((f, o) :: (c', o') :: know) W (xs ++ [.ref f]) (upd (upd H1 f o) W (.lst (xs ++ [.ref f]))) := by
  have s := same_new (o := o) fr
  have w1 : (upd H1 f o) W = some (.lst xs) := s _ _ (x _ _ a.w fun _ z => by cases z)
  have keep : ∀ {b : Addr} {u : HO}, NL u → (upd H1 f o) b = some u → upd (upd H1 f o) W (.lst (xs ++ [.ref f])) b = some u := by
    intro b u nl e
    rw [upd_ne (fun z => by rw [z, w1] at e; exact nl.2 xs (Option.some.inj e).symm)]
    exact e
  have b2 : BX T G0 (upd H1 f o) := (a.b.stE x t).stS s
  refine ⟨w1, ⟨⟨fun b u e n => ?_, tabs_updL b2.tb w1⟩, fun p hp => ?_, upd_same, a.nw⟩⟩
  · have ne : b ≠ W := by
      rintro rfl
      exact a.nw _ e n
    rw [upd_ne ne]
    exact b2.ex b u e n
  · rcases List.mem_cons.mp hp with rfl | hp
    · exact ⟨keep ho upd_same, ho⟩
    · rcases List.mem_cons.mp hp with rfl | hp
      · exact ⟨keep ho' (s _ _ co), ho'⟩
      · obtain ⟨k1, k2⟩ := a.k p hp
        exact ⟨keep k2 (s _ _ (x _ _ k1 k2.1)), k2⟩
/-- [what, text, True] -/
def kdN (z : Str) : PyData := .list [.str "number", .str z, .bool true]
theorem kdN_dp {K : PySem.W.Frag} {H : Hp} {r : Addr} {z : Str} (e : H r = some (.lst [.str "number", .str z, .bl true])) : Dp K H (.ref r) (kdN z) := .lst (SqL.of e) (.cons (.str _) (.cons (.str _) (.cons (.bl _) .nil)))
theorem kdN_eqv (z : Str) : PyData.eqv (kdN z) (kdN z) = true := by simp [kdN, PyData.eqv, PyData.eqvAll]
theorem kdN_shp {z : Str} (a : PyData.strOk z = true) : SeqAt.shaped (kdN z) = true := by simp [kdN, SeqAt.shaped, PyData.canLay0, PyData.canLayAll0, PyData.depth, PyData.depthAll, a, show PyData.strOk "number" = true by decide +kernel]
def kdT (z : Str) : PyData := .list [kdN z, kdN z, kdN z, kdN z, kdN z, kdN z, kdN z, kdN z, kdN z, kdN z]
theorem kdT_dp {K : PySem.W.Frag} {H : Hp} {D : Addr} {z : Str} {rs : List V} (e : H D = some (.lst rs)) (len : rs.length = 10) (h : ∀ r ∈ rs, ∃ a, r = .ref a ∧ H a = some (.lst [.str "number", .str z, .bl true])) : Dp K H (.ref D) (kdT z) := by
  have d : ∀ r ∈ rs, Dp K H r (kdN z) := fun r hr => by
    obtain ⟨a, rfl, ha⟩ := h r hr
    exact kdN_dp ha
  match rs, len, e, d with
  | [a0, a1, a2, a3, a4, a5, a6, a7, a8, a9], _, e, d =>
    exact .lst (SqL.of e) (.cons (d _ (by simp)) (.cons (d _ (by simp)) (.cons (d _ (by simp)) (.cons (d _ (by simp)) (.cons (d _ (by simp)) (.cons (d _ (by simp)) (.cons (d _ (by simp)) (.cons (d _ (by simp)) (.cons (d _ (by simp)) (.cons (d _ (by simp)) .nil))))))))))
theorem kdT_eqv (z : Str) : PyData.eqv (kdT z) (kdT z) = true := by simp [kdT, kdN, PyData.eqv, PyData.eqvAll]
theorem kdT_shp {z : Str} (a : PyData.strOk z = true) : SeqAt.shaped (kdT z) = true := by simp [kdT, kdN, SeqAt.shaped, PyData.canLay0, PyData.canLayAll0, PyData.depth, PyData.depthAll, a, show PyData.strOk "number" = true by decide +kernel]
theorem op_isnB {X : Cx} : OpR X (compareOp .IsNot) (fun x y H Q => ∃ a b, x = .bl a ∧ y = .bl b ∧ Q (.bl !(a == b)) H) := by
  intro pins s z H x y v u Q I rx ry h
  obtain ⟨a, b, rfl, rfl, q⟩ := h
  cases rx
  cases ry
  cases a <;> cases b <;> exact wpAny_pure (fin_bl I q rfl)
/-- what is heard of a call that an error of this value leaves -/
theorem tt_val {K : PySem.W.Frag} {z : Str} {tl : XK → Hp → VK → Prop} {H : Hp} {Q : VK} {v : V} (h : RepAt K H v z) (run : ∀ E H1 R, Same H H1 → outS (aIN K) "value" v H1 E → tl E H1 R) (fin : ∀ r H3, Same H H3 → H r = none → H3 r = some (.lst [.str "number", .str z, .bl true]) → Q (.ref r) H3) : TT10 K tl H Q :=
  .inl ⟨z, fun E H1 R s o => run E H1 R s fun d H2 k2 n2 e2 => o d v H2 k2 n2 e2 (h.same (s.trans k2)), fin⟩
end K18
set_option maxHeartbeats 8000000
namespace K18
open PySem PySem.Spec PyProof.Rows L2 GL
abbrev sRefused : Stmt := tp 29
theorem BX.upL {T : List (Addr × Str)} {G0 G : Hp} {W : Addr} {xs : List V} {o : HO} (b : BX T G0 G) (n : ∀ o, G0 W = some o → (∀ ps, o ≠ .tbl ps) → False) (e : G W = some (.lst xs)) : BX T G0 (upd G W o) := ⟨fun c o' ec nt => by
  by_cases h : c = W
  · rw [h] at ec
    exact (n _ ec nt).elim
  · rw [upd_ne h]
    exact b.1 c o' ec nt, tabs_updL b.2 e⟩
theorem KN.start {T : List (Addr × Str)} {G0 H1 : Hp} {W f c' : Addr} {o o' : HO} (a : BX T G0 G0) (x : LamX.ExtN G0 H1) (t : LamX.Tabs T H1) (fr : H1 f = none) (co : H1 c' = some o') (ho : NL o) (ho' : NL o') (nW : (upd H1 f o) W = none) :
    KN T G0 [(f, o), (c', o')] W [.ref f] (upd (upd H1 f o) W (.lst [.ref f])) := by
  have s := same_new (o := o) fr
  have s2 := same_new (o := .lst [.ref f]) nW
  refine ⟨((a.stE x t).stS s).stS s2, fun p hp => ?_, upd_same, fun u e n => ?_⟩
  · simp only [List.mem_cons, List.not_mem_nil, or_false] at hp
    rcases hp with rfl | rfl
    · exact ⟨s2 _ _ upd_same, ho⟩
    · exact ⟨s2 _ _ (s _ _ co), ho'⟩
  · have z := s _ _ (x _ _ e n)
    rw [nW] at z
    cases z
/-- a lambda of the frame whose call an error of the class at C leaves, with this value -/
def LamGood (X : Cx) (z : L2.St) (k : Nat) (T : List (Addr × Str)) (C : Addr) (v : V) (G0 : Hp) (x : V) : Prop := ∃ (f c' : Addr) (params : Arguments) (body : Expr) (scope : Scope) (tb : XK → TE), x = .ref f ∧
  (∀ G, BX T G0 G → G f = some (LamO X params body scope f c') ∧ G c' = some (LamX.CodeO c' (X.env.qual ++ "<lambda>"))) ∧ LamX.LamS X.env.scope scope ∧
  (∀ (pm ctv : Value), bindArgs (PySem.W.kla_fn "<lambda>" (X.env.qual ++ "<lambda>") params body scope (cloFrom X.env.cells scope.names []) pm (.ref c') ctv) ⟨[], []⟩ = pure []) ∧
  (∀ (A : Around) (outer : List Env) (s : Shared) (H : Hp) (E : XK), A.guards = X.A.guards → Room k (A.deeper (LamX.lamEnv X scope s.heap.objs.size f c')) → PE (LamX.lamCx X A outer s H E scope f c') body (tb E)) ∧
  ∀ G, BX T G0 G → ∀ E H1 R, Same G H1 → outS C "value" v H1 E → tb E z H1 R
theorem LamGood.told {X : Cx} {z y : L2.St} {k i : Nat} {T : List (Addr × Str)} {v x : V} {zt : Str} {G0 G : Hp} {Q : VK} (h : LamGood X z k T (aIN X.K) v G0 x) (b : BX T G0 G) (r : RepAt X.K G v zt) (at_ : y[i]? = some (some x))
    (fin : ∀ r H3, Same G H3 → G r = none → H3 r = some (.lst [.str "number", .str zt, .bl true]) → Q (.ref r) H3) : tToldV X z k (TT10 X.K) (tVar i) y G Q := by
  obtain ⟨f, c', params, body, scope, tb, rfl, h1, h2, h3, h4, h5⟩ := h
  exact ⟨_, at_, f, c', params, body, scope, tb, rfl, (h1 G b).1, (h1 G b).2, h2, h3, h4, tt_val r (fun E H1 R s o => h5 G b E H1 R s o) fin⟩
/-- xs.append(lambda: body), xs the list in slot i -/
def tAppL (X : Cx) (T : List (Addr × Str)) (i : Nat) (params : Arguments) (body : Expr) (scope : Scope) : TE := fun σ H Q => ∃ (G0 : Hp) (know : List (Addr × HO)) (W : Addr) (xs : List V), σ[i]? = some (some (.ref W)) ∧ KN T G0 know W xs H ∧ xs.length < sizeLine ∧
  ∀ f c' H', KN T G0 ((f, LamO X params body scope f c') :: (c', LamX.CodeO c' (X.env.qual ++ "<lambda>")) :: know) W (xs ++ [.ref f]) H' → Q .non H'
theorem pe_appL {X : Cx} {T : List (Addr × Str)} {i : Nat} {x : Str} {params : Arguments} {body : Expr} {scope : Scope} {p1 p2 p3 p4 : Pos} (hv : PE X (.Name x p1) (tVar i)) (hl : PE X (.Lambda params body scope p2) (tLamN X T params body scope)) (hline : (p3.endLine == p4.line) = true := by rfl) :
    PE X (.Call (.Attribute (.Name x p1) "append" p3) [.Lambda params body scope p2] [] p4) (tAppL X T i params body scope) := by
  constructor
  intro pins s σ H Q I ⟨G0, know, W, xs, sl, kn, small, go⟩
  exact (pe_bm PySem.F.plainAttrs_list PySem.F.slot_list_append PySem.F.type_list_append mt_append hv (pa_cons hl pa_nil) (hline := hline)).run pins s σ H Q I
    ⟨_, sl, .inl ⟨rfl, _, SqL.of kn.w⟩, kn.b.tb, fun f c' H1 x t fr co => ⟨W, _, _, rfl, rfl, (kn.app x t fr co lamO_nl codeO_nl).1, small, go f c' _ (kn.app x t fr co lamO_nl codeO_nl).2⟩⟩
section
variable {P : Program} {w : World} {K : PySem.W.Frag} {mg : Str → Option Value} {base : Heap}
/-- what the checks of refusals need -/
structure LR (P : Program) (w : World) (K : PySem.W.Frag) (mg : Str → Option Value) (base : Heap) : Prop where
  U : LP P w K mg base
  N : NA K
  add : ∃ f, OwnBin K (aR K) .Add f ∧ FnR P w K mg base (L2.CX P w) 6 f (spBinX K)
  sub : ∃ f, OwnBin K (aR K) .Sub f ∧ FnR P w K mg base (L2.CX P w) 6 f (spBinX K)
  mul : ∃ f, OwnBin K (aR K) .Mult f ∧ FnR P w K mg base (L2.CX P w) 6 f (spBinX K)
  below : ∃ f fd, Meth K (aR K) "is_below" f ∧ FnOk P w K mg base (L2.CX P w) 6 f fd ["self", "other"] (spBinX K) ∧ Binds K fd ["self", "other"] []
  over : ∃ f fd, Meth K (aR K) "over" f ∧ FnOk P w K mg base (L2.CX P w) 6 f fd ["self", "other"] (spBinX K) ∧ Binds K fd ["self", "other"] []
  ofX : OfX P w K mg base
  rI : ∃ f fd d, Mk K (aR K) f ∧ FnOk P w K mg base (L2.CX P w) 3 f fd ["self", "top", "bottom"] (spRInitX K) ∧ FnOk P w K mg base (L2.CX P w) 3 f fd ["self", "top", "bottom"] (spRInitB K) ∧ Vals [V.int 1] [d] ∧ Binds K fd ["self", "top", "bottom"] [d] ∧ Binds K fd ["self", "top", "bottom"] []
  least : ∃ mc p f, ClX.CRead K (aR K) mc ∧ ClX.CMet K (aR K) mc "least" p f ∧ FnR P w K mg base (L2.CX P w) 7 f (spPickX K)
  greatest : ∃ mc p f, ClX.CRead K (aR K) mc ∧ ClX.CMet K (aR K) mc "greatest" p f ∧ FnR P w K mg base (L2.CX P w) 7 f (spPickX K)
  numX : DefF P w K mg base "is_number" 2 ["value"] (spNumX K)
  choice : DefF P w K mg base "_law_choice" 2 ["_law_rng_here", "_law_some"] (spChoice K)
abbrev nRefused : List Str := ["_law_rng_here", "_law_part", "_law_odd", "_law_made_here", "_law_calls", "_law_call"]
def spRefused (K : PySem.W.Frag) (tbp tbr : Addr) : Sp := fun vs H Q _ => ∃ (p t : Addr) (q : Rat), vs = [.ref p, .ref t] ∧ Rng H p ∧ PartAt H t q ∧ Sz 200 q ∧ LamX.Tabs (tbs tbp tbr) H ∧ ∀ H', LamX.ExtN (off H p) H' → Rng H' p → LamX.Tabs (tbs tbp tbr) H' → Q (.bl true) H'
theorem scRefused : FnScope nRefused ["_law_rng_here", "_law_part"] (defScope sRefused) := ⟨rfl, rfl, rfl, by decide +kernel, rfl, by decide +kernel, by decide +kernel⟩
theorem ok_refused {f c tbp tbr : Addr} {fd : FuncData} (F : Fun K "_law_refused_right" "_law_refused_right" sRefused f fd) (hc : fd.code = .ref c) (TB : LamX.TabB base mg c tbr) (ne : tbp ≠ tbr) (X : LR P w K mg base) : FnG P w K mg base CX0 10 f fd ["_law_rng_here", "_law_part"] (spRefused K tbp tbr) := by
  obtain ⟨fT, fdT, FT, gT, bT⟩ := X.U.told
  obtain ⟨fw1, ow1, Gw1⟩ := X.add
  obtain ⟨fw2, ow2, Gw2⟩ := X.sub
  obtain ⟨fw3, ow3, Gw3⟩ := X.mul
  obtain ⟨fB, fdB, mB, GB, bB⟩ := X.below
  obtain ⟨fO, fdO, mO, GO, bO⟩ := X.over
  obtain ⟨mcF, ppF, foF, crF, cmF, GF⟩ := X.ofX
  obtain ⟨mcL, ppL, foL, crL, cmL, GL_⟩ := X.least
  obtain ⟨mcM, ppM, foM, crM, cmM, GM⟩ := X.greatest
  obtain ⟨fX, fdX, dX, MR, GX, GY, vd, bR, bR0⟩ := X.rI
  obtain ⟨fN, fdN, GN_, gN_, bN_, kN_⟩ := X.numX
  obtain ⟨fU, fdU, GU, gU, bU, kU⟩ := X.U.A.Z.I.isNum
  obtain ⟨fCh, fdCh, GCh, gCh, bCh, kCh⟩ := X.choice
  obtain ⟨fRi, fdRi, dd, MRi, GRi, vdi, bRi, bR0i⟩ := X.U.A.Z.I.R.G.mR
  have T := X.U.A.Z.I.R.G.T
  have M := X.U.A.Z.D.F
  have S := X.U.A.Z.S
  obtain ⟨ocT, odT, kVT, docT, pmT, anT, cdT, ctT, oslT, rfl, lkT, hcT⟩ := FT.ex
  have kT := FT.kp
  obtain ⟨oc, od, kV, doc, pm, an, cdv, ct, osl, rfl, lk, hcd⟩ := F.ex
  obtain rfl : cdv = .ref c := hc
  refine FnG.ofBody lk hcd scRefused (fun vs H Q E h => ?_) (fun A outer sh H vs Q E gd hr h => ?_)
  · obtain ⟨p, t, q, rfl, _⟩ := h
    rfl
  · obtain ⟨p, t, q, rfl, R, ht, sq, tabs, k⟩ := h
    have hop1 : Operator.Add ∈ [Operator.Add, .Sub, .Mult] := by decide
    have hop2 : Operator.Sub ∈ [Operator.Add, .Sub, .Mult] := by decide
    have hop3 : Operator.Mult ∈ [Operator.Add, .Sub, .Mult] := by decide
    have hu := hr.units
    have r2 : Room 2 _ := hr.mono (by decide)
    have r3 : Room 3 _ := hr.mono (by decide)
    have r4 : Room 4 _ := hr.mono (by decide)
    have one : ∀ x ∈ tbs tbp tbr, x.1 = tbr → x.2 = lamR := fun x hx e => by
      simp only [List.mem_cons, List.not_mem_nil, or_false] at hx
      rcases hx with rfl | rfl
      · exact absurd e ne
      · rfl
    suffices z : ∃ y, PSs (cxOf CX0 P w K mg base nRefused "_law_refused_right" (defScope sRefused) f (.ref c) A outer sh H E).nox (defBody sRefused) y ∧ y { nx := fun _ H' => Q .non H', rt := Q } (L2.start nRefused [.ref p, .ref t]) H by
      obtain ⟨y, h, q⟩ := z
      exact ⟨y, h.nox, q⟩
    refine ⟨_, pss_cons (ps_set (i := 2) scRefused.nd rfl (Or.inr rfl) (pe_call GCh r2 rfl gCh kCh bCh .nil pass0 (pa_cons (pv 0) (pa_cons (pe_lst (pa_cons pe_non (pa_cons pe_bl (pa_cons pe_bl (pa_cons pe_str (pa_cons pe_str (pa_cons (pe_lst pa_nil) (pa_cons (pe_lst (pa_cons pe_int pa_nil)) (pa_cons (pe_tup (pa_cons pe_int (pa_cons pe_int pa_nil))) (pa_cons (pe_tup pa_nil) (pa_cons pe_dnewK (pa_cons pe_str pa_nil)))))))))))) pa_nil)))) (pss_cons (ps_set (i := 3) scRefused.nd rfl (Or.inr rfl) (pe_make MRi GRi r3 rfl T.gR bR0i .nil pass0 (pa_cons (pe_ix ix_tup (pv 1) pe_int (fun _ _ => rfl)) (pa_cons (pe_ix ix_tup (pv 1) pe_int (fun _ _ => rfl)) pa_nil)))) (pss_cons (ps_set (i := 4) scRefused.nd rfl (Or.inl rfl) (pe_lst (pa_cons (pe_lamN (T := tbs tbp tbr) TB rfl (List.mem_cons_of_mem _ List.mem_cons_self) one (LamX.lamS_by (sc := defScope sRefused) (by decide +kernel)) rfl) pa_nil))) (pss_cons (ps_expr (pe_appL (T := tbs tbp tbr) (i := 4) (pv 4) (pe_lamN (T := tbs tbp tbr) TB rfl (List.mem_cons_of_mem _ List.mem_cons_self) one (LamX.lamS_by (sc := defScope sRefused) (by decide +kernel)) rfl))) (pss_cons (ps_expr (pe_appL (T := tbs tbp tbr) (i := 4) (pv 4) (pe_lamN (T := tbs tbp tbr) TB rfl (List.mem_cons_of_mem _ List.mem_cons_self) one (LamX.lamS_by (sc := defScope sRefused) (by decide +kernel)) rfl))) (pss_cons (ps_expr (pe_appL (T := tbs tbp tbr) (i := 4) (pv 4) (pe_lamN (T := tbs tbp tbr) TB rfl (List.mem_cons_of_mem _ List.mem_cons_self) one (LamX.lamS_by (sc := defScope sRefused) (by decide +kernel)) rfl))) (pss_cons (ps_expr (pe_appL (T := tbs tbp tbr) (i := 4) (pv 4) (pe_lamN (T := tbs tbp tbr) TB rfl (List.mem_cons_of_mem _ List.mem_cons_self) one (LamX.lamS_by (sc := defScope sRefused) (by decide +kernel)) rfl))) (pss_cons (ps_expr (pe_appL (T := tbs tbp tbr) (i := 4) (pv 4) (pe_lamN (T := tbs tbp tbr) TB rfl (List.mem_cons_of_mem _ List.mem_cons_self) one (LamX.lamS_by (sc := defScope sRefused) (by decide +kernel)) rfl))) (pss_cons (ps_expr (pe_appL (T := tbs tbp tbr) (i := 4) (pv 4) (pe_lamN (T := tbs tbp tbr) TB rfl (List.mem_cons_of_mem _ List.mem_cons_self) one (LamX.lamS_by (sc := defScope sRefused) (by decide +kernel)) rfl))) (pss_cons (ps_expr (pe_appL (T := tbs tbp tbr) (i := 4) (pv 4) (pe_lamN (T := tbs tbp tbr) TB rfl (List.mem_cons_of_mem _ List.mem_cons_self) one (LamX.lamS_by (sc := defScope sRefused) (by decide +kernel)) rfl))) (pss_cons (ps_expr (pe_appL (T := tbs tbp tbr) (i := 4) (pv 4) (pe_lamN (T := tbs tbp tbr) TB rfl (List.mem_cons_of_mem _ List.mem_cons_self) one (LamX.lamS_by (sc := defScope sRefused) (by decide +kernel)) rfl))) (pss_cons (ps_expr (pe_appL (T := tbs tbp tbr) (i := 4) (pv 4) (pe_lamN (T := tbs tbp tbr) TB rfl (List.mem_cons_of_mem _ List.mem_cons_self) one (LamX.lamS_by (sc := defScope sRefused) (by decide +kernel)) rfl))) (pss_cons (ps_if (PW.pt (pw_or (pt_cmpR (op_neD hu) (pe_lcI (own := [("_law_call", 5)]) (g := gName 5) rfl scRefused.nd (pi_list (pv 4)) (blkOk_by (N := nRefused) (sc := defScope sRefused) (by decide +kernel)) (fun _ _ _ _ _ => pg_name (i := 5) scRefused.nd rfl (Or.inl rfl)) (fun pins z s H C cl fp I fok => pe_toldV (k := 7) (TT := TT10 K) I fok rfl gT kT lkT hcT bT scTold rfl (.inl rfl) (told10 (k := 4) rfl X.U.X S X.U.A.RR M.repr gd) hr (pv 5))) (pe_op op_rep (pe_lst (pa_cons (pe_lst (pa_cons pe_str (pa_cons (pe_callB (call_repZ S X.U.A.RR gd ⟨r4.dp, r4.un⟩) (by rfl) M.repr (by decide +kernel) (pa_cons (pv 2) pa_nil)) (pa_cons pe_bl pa_nil)))) pa_nil)) pe_int) (nomark _)) (pw_or1 (pt_cmpR op_isnB (pe_call GN_ r2 rfl gN_ kN_ bN_ .nil pass0 (pa_cons (pv 2) pa_nil)) pe_bl (nomark _))))) (pss_one (ps_ret pe_bl)) pss_nil) (pss_cons (ps_if (pt_cmpR (op_neD hu) (pe_told (T := tbs tbp tbr) (TT := TT10 K) (k := 7) rfl gT kT lkT hcT bT scTold rfl (.inl rfl) (told10 (k := 4) rfl X.U.X S X.U.A.RR M.repr gd).gives TB rfl (List.mem_cons_of_mem _ List.mem_cons_self) one hr (LamX.lamS_by (sc := defScope sRefused) (by decide +kernel)) rfl (fun _ _ _ _ _ => rfl) (fun A outer s H E f c' hA hr7 => (pe_make MR GY (hr7.mono (by decide)) rfl T.gR bR0 .nil (passE (takes_of rfl rfl rfl rfl)) (pa_cons (pe_ix (show IxR _ (rIxT K) from ix_tup) (pv 1) pe_int (fun _ _ => rfl)) (pa_cons pe_int pa_nil))))) (pe_lst (pa_cons pe_str (pa_cons pe_str (pa_cons pe_bl pa_nil)))) (nomark _)) (pss_one (ps_ret pe_bl)) pss_nil) (pss_cons (ps_if (pt_cmpR (op_neD hu) (pe_told (T := tbs tbp tbr) (TT := TT10 K) (k := 7) rfl gT kT lkT hcT bT scTold rfl (.inl rfl) (told10 (k := 4) rfl X.U.X S X.U.A.RR M.repr gd).gives TB rfl (List.mem_cons_of_mem _ List.mem_cons_self) one hr (LamX.lamS_by (sc := defScope sRefused) (by decide +kernel)) rfl (fun _ _ _ _ _ => rfl) (fun A outer s H E f c' hA hr7 => (pe_make MR GX (hr7.mono (by decide)) rfl T.gR bR vd (passE (takes_of rfl rfl rfl rfl)) (pa_cons (pv 3) pa_nil)))) (pe_lst (pa_cons pe_str (pa_cons (pe_callB (call_repZ S X.U.A.RR gd ⟨r4.dp, r4.un⟩) (by rfl) M.repr (by decide +kernel) (pa_cons (pv 3) pa_nil)) (pa_cons pe_bl pa_nil)))) (nomark _)) (pss_one (ps_ret pe_bl)) pss_nil) (pss_cons (ps_if (pt_cmpR (op_neD hu) (pe_told (T := tbs tbp tbr) (TT := TT10 K) (k := 7) rfl gT kT lkT hcT bT scTold rfl (.inl rfl) (told10 (k := 4) rfl X.U.X S X.U.A.RR M.repr gd).gives TB rfl (List.mem_cons_of_mem _ List.mem_cons_self) one hr (LamX.lamS_by (sc := defScope sRefused) (by decide +kernel)) rfl (fun _ _ _ _ _ => rfl) (fun A outer s H E f c' hA hr7 => (pe_cmeth0 (pe_glob (v := .ref (aR K)) rfl T.gR rfl) crL cmL GL_ (hr7.mono (by decide)) (passE (takes_of rfl rfl rfl rfl))))) (pe_lst (pa_cons pe_str (pa_cons pe_str (pa_cons pe_bl pa_nil)))) (nomark _)) (pss_one (ps_ret pe_bl)) pss_nil) (pss_one (ps_ret (pe_and (pe_cmpR (op_eqD hu) (pe_told (T := tbs tbp tbr) (TT := TT10 K) (k := 7) rfl gT kT lkT hcT bT scTold rfl (.inl rfl) (told10 (k := 4) rfl X.U.X S X.U.A.RR M.repr gd).gives TB rfl (List.mem_cons_of_mem _ List.mem_cons_self) one hr (LamX.lamS_by (sc := defScope sRefused) (by decide +kernel)) rfl (fun _ _ _ _ _ => rfl) (fun A outer s H E f c' hA hr7 => (pe_cmeth0 (pe_glob (v := .ref (aR K)) rfl T.gR rfl) crM cmM GM (hr7.mono (by decide)) (passE (takes_of rfl rfl rfl rfl))))) (pe_lst (pa_cons pe_str (pa_cons pe_str (pa_cons pe_bl pa_nil)))) (nomark _)) (pe_one (pe_cmpR op_isB (pe_call GU r2 rfl gU kU bU .nil pass0 (pa_cons (pe_ix ix_tup (pv 1) pe_int (fun _ _ => rfl)) pa_nil)) pe_bl (nomark _))))))))))))))))))))), ?_⟩
    have tO : ∀ {G G' : Hp}, LamX.Tabs (tbs tbp tbr) G → Rng G p → Same (off G p) G' → LamX.Tabs (tbs tbp tbr) G' := by
      intro G G' t R' s
      obtain ⟨x, y, ep, _⟩ := R'
      exact Tabs.same (Tabs.offP t ep) s
    refine ⟨_, rfl, (by show 0 ≤ sizeLine; decide), fun o0 no0 => ⟨(by show 1 ≤ sizeLine; decide), fun o1 no1 => ⟨(by show 2 ≤ sizeLine; decide), fun o2 no2 => ⟨(by show 0 ≤ sizeLine; decide), fun o3 no3 => fun o4 no4 => ⟨(by show 11 ≤ sizeLine; decide), fun oL noL => ?_⟩⟩⟩⟩⟩
    have so0 := same_new (o := .lst []) no0
    have fo0 : upd H o0 (.lst []) o0 = some (.lst []) := upd_same
    generalize upd H o0 (.lst []) = Ho0 at *
    have so1 := same_new (o := .lst [V.int 1]) no1
    have fo1 : upd Ho0 o1 (.lst [V.int 1]) o1 = some (.lst [V.int 1]) := upd_same
    generalize upd Ho0 o1 (.lst [V.int 1]) = Ho1 at *
    have so2 := same_new (o := .tup [V.int 1, .int 2]) no2
    have fo2 : upd Ho1 o2 (.tup [V.int 1, .int 2]) o2 = some (.tup [V.int 1, .int 2]) := upd_same
    generalize upd Ho1 o2 (.tup [V.int 1, .int 2]) = Ho2 at *
    have so3 := same_new (o := .tup []) no3
    have fo3 : upd Ho2 o3 (.tup []) o3 = some (.tup []) := upd_same
    generalize upd Ho2 o3 (.tup []) = Ho3 at *
    have so4 := same_new (o := .dK []) no4
    have fo4 : upd Ho3 o4 (.dK []) o4 = some (.dK []) := upd_same
    generalize upd Ho3 o4 (.dK []) = Ho4 at *
    have soL := same_new (o := .lst [V.non, .bl true, .bl false, .str "1", .str "", .ref o0, .ref o1, .ref o2, .ref o3, .ref o4, .str "1/2"]) noL
    have foL : upd Ho4 oL (.lst [V.non, .bl true, .bl false, .str "1", .str "", .ref o0, .ref o1, .ref o2, .ref o3, .ref o4, .str "1/2"]) oL = some (.lst [V.non, .bl true, .bl false, .str "1", .str "", .ref o0, .ref o1, .ref o2, .ref o3, .ref o4, .str "1/2"]) := upd_same
    generalize upd Ho4 oL (.lst [V.non, .bl true, .bl false, .str "1", .str "", .ref o0, .ref o1, .ref o2, .ref o3, .ref o4, .str "1/2"]) = HoL at *
    have go0 := soL _ _ (so4 _ _ (so3 _ _ (so2 _ _ (so1 _ _ fo0))))
    have go1 := soL _ _ (so4 _ _ (so3 _ _ (so2 _ _ fo1)))
    have go2 := soL _ _ (so4 _ _ (so3 _ _ fo2))
    have go3 := soL _ _ (so4 _ _ fo3)
    have go4 := soL _ _ fo4
    have soA : Same H HoL := ((((so0.trans so1).trans so2).trans so3).trans so4).trans soL
    have RL := R.same soA
    have po0 : o0 ≠ p := R.ne_new no0
    have po1 : o1 ≠ p := Rng.ne_new (R.same so0) no1
    have po2 : o2 ≠ p := Rng.ne_new (R.same (so0.trans so1)) no2
    have po3 : o3 ≠ p := Rng.ne_new (R.same ((so0.trans so1).trans so2)) no3
    have po4 : o4 ≠ p := Rng.ne_new (R.same (((so0.trans so1).trans so2).trans so3)) no4
    have poL : oL ≠ p := Rng.ne_new (R.same ((((so0.trans so1).trans so2).trans so3).trans so4)) noL
    refine ⟨p, oL, _, rfl, RL, foL, poL, by show 0 < 11; decide, by show 11 < 1000; decide, fun v Hf mv kp Rf => ?_⟩
    have odd1 : ∃ pd T, Odd p HoL v pd T := by
      simp only [List.mem_cons, List.not_mem_nil, or_false] at mv
      rcases mv with rfl | rfl | rfl | rfl | rfl | rfl | rfl | rfl | rfl | rfl | rfl
      · exact ⟨_, _, .inl .non⟩
      · exact ⟨_, _, .inl .bT⟩
      · exact ⟨_, _, .inl .bF⟩
      · exact ⟨_, _, .inl .s1⟩
      · exact ⟨_, _, .inl .s0⟩
      · exact ⟨_, _, .inr ⟨o0, _, rfl, po0, go0, .l0⟩⟩
      · exact ⟨_, _, .inr ⟨o1, _, rfl, po1, go1, .l1⟩⟩
      · exact ⟨_, _, .inr ⟨o2, _, rfl, po2, go2, .t12⟩⟩
      · exact ⟨_, _, .inr ⟨o3, _, rfl, po3, go3, .t0⟩⟩
      · exact ⟨_, _, .inr ⟨o4, _, rfl, po4, go4, .d⟩⟩
      · exact ⟨_, _, .inl .s2⟩
    obtain ⟨pd, Ty, odd0⟩ := odd1
    have koff : Same (off H p) Hf := fun b o e => kp b o (soA b o (off_some e).2) (off_some e).1
    have odd2 : Odd p Hf v pd Ty := odd0.offp.ext (same_extN (off_kp kp))
    have tabsF := tO tabs R koff
    have htF : PartAt Hf t q := koff t _ (by rw [off_ne (R.ne ht)]; exact ht)
    clear mv kp odd0 soA go0 go1 go2 go3 go4 fo0 fo1 fo2 fo3 fo4 foL so0 so1 so2 so3 so4 soL no0 no1 no2 no3 no4 noL po0 po1 po2 po3 po4 poL RL
    refine ⟨_, rfl, t, _, _, _, rfl, rfl, SqT.of htF, rfl, _, rfl, t, _, _, _, rfl, rfl, SqT.of htF, rfl, ?_⟩
    intro a dy ny ndy ney
    refine made_ratQ ny ndy sq (by decide) fun H8 k8 ha => ⟨rfl, ?_⟩
    have x08 : LamX.ExtN (off H p) H8 := same_extN fun b o e => k8 b o (koff b o e)
    have R8 := Rf.same k8
    have od8 : Odd p H8 v pd Ty := odd2.ext (same_extN k8)
    have ht8 : PartAt H8 t q := k8 _ _ htF
    have b8 : BX (tbs tbp tbr) H8 H8 := ⟨LamX.ExtN.refl _, Tabs.same tabsF k8⟩
    clear koff k8 htF odd2 tabsF ny ndy ney
    have okp : PyData.strOk pd.shown = true := od8.shows.ok
    have od_ : ∀ {G}, BX (tbs tbp tbr) H8 G → Odd p G v pd Ty := fun x => od8.ext x.ex
    have no_ : ∀ {G}, BX (tbs tbp tbr) H8 G → NotN K G v := fun x => (od_ x).notN X.N
    have rp_ : ∀ {G}, BX (tbs tbp tbr) H8 G → RepAt K G v pd.shown := fun x => (od_ x).shows.rep (od_ x).dq
    have a_ : ∀ {G}, BX (tbs tbp tbr) H8 G → RatAt K G a q := fun x => ha.ext x.ex
    have t_ : ∀ {G}, BX (tbs tbp tbr) H8 G → PartAt G t q := fun x => ht8.ext x.ex
    refine ⟨b8.tb, fun f1 c1 H1 x1 t1 e1 d1 => ⟨(by show 1 ≤ sizeLine; decide), fun W nW => ?_⟩⟩
    have n1 := KN.start b8 x1 t1 e1 d1 lamO_nl codeO_nl nW
    clear nW
    refine ⟨_, _, W, _, rfl, n1, by show 1 < sizeLine; decide, fun f2 c2 H2 n2 => ?_⟩
    clear n1
    refine ⟨_, _, W, _, rfl, n2, by show 2 < sizeLine; decide, fun f3 c3 H3 n3 => ?_⟩
    clear n2
    refine ⟨_, _, W, _, rfl, n3, by show 3 < sizeLine; decide, fun f4 c4 H4 n4 => ?_⟩
    clear n3
    refine ⟨_, _, W, _, rfl, n4, by show 4 < sizeLine; decide, fun f5 c5 H5 n5 => ?_⟩
    clear n4
    refine ⟨_, _, W, _, rfl, n5, by show 5 < sizeLine; decide, fun f6 c6 H6 n6 => ?_⟩
    clear n5
    refine ⟨_, _, W, _, rfl, n6, by show 6 < sizeLine; decide, fun f7 c7 H7 n7 => ?_⟩
    clear n6
    refine ⟨_, _, W, _, rfl, n7, by show 7 < sizeLine; decide, fun f8 c8 H8 n8 => ?_⟩
    clear n7
    refine ⟨_, _, W, _, rfl, n8, by show 8 < sizeLine; decide, fun f9 c9 H9 n9 => ?_⟩
    clear n8
    refine ⟨_, _, W, _, rfl, n9, by show 9 < sizeLine; decide, fun f10 c10 H10 n10 => ?_⟩
    clear n9
    have good : ∀ x ∈ ([V.ref f1, .ref f2, .ref f3, .ref f4, .ref f5, .ref f6, .ref f7, .ref f8, .ref f9, .ref f10] : List V), LamGood ((cxOf CX0 P w K mg base nRefused "_law_refused_right" (defScope sRefused) f (.ref c) A outer sh H E).nox) [some (.ref p), some (.ref t), some v, some (.ref a), some (.ref W), none] 7 (tbs tbp tbr) (aIN K) v H10 x := by
      have kf : ∀ (n : Nat) (p : Addr × HO), _ → _ := fun n p (h : _[n]? = some p) => n10.k p (List.mem_of_getElem? h)
      intro x hx
      simp only [List.mem_cons, List.not_mem_nil, or_false] at hx
      rcases hx with rfl | rfl | rfl | rfl | rfl | rfl | rfl | rfl | rfl | rfl
      · refine ⟨f1, c1, _, _, _, _, rfl, fun G b => ⟨b.ex _ _ (kf 18 _ rfl).1 (kf 18 _ rfl).2.1, b.ex _ _ (kf 19 _ rfl).1 (kf 19 _ rfl).2.1⟩, LamX.lamS_by (sc := defScope sRefused) (by decide +kernel), fun _ _ => rfl, fun A outer s H E hA hr7 => (pe_op (show OpR _ _ (rOwnX K (aR K) (spBinX K) E) from op_ownX (k := 6) hop1 ow1 Gw1 (hr7.mono (by decide)) (passE (takes_of rfl rfl rfl rfl))) (pv 3) (pv 2)), fun G b E H1 R s o => ?_⟩
        have z := (n10.b.stE b.ex b.tb).stS s
        obtain ⟨d, e⟩ := id (a_ z)
        exact ⟨_, rfl, _, rfl, a, d, _, Ty, rfl, e, (od_ z).ty, (od_ z).flat X.N, a, v, rfl, no_ z, o⟩
      · refine ⟨f2, c2, _, _, _, _, rfl, fun G b => ⟨b.ex _ _ (kf 16 _ rfl).1 (kf 16 _ rfl).2.1, b.ex _ _ (kf 17 _ rfl).1 (kf 17 _ rfl).2.1⟩, LamX.lamS_by (sc := defScope sRefused) (by decide +kernel), fun _ _ => rfl, fun A outer s H E hA hr7 => (pe_op (show OpR _ _ (rOwnX K (aR K) (spBinX K) E) from op_ownX (k := 6) hop2 ow2 Gw2 (hr7.mono (by decide)) (passE (takes_of rfl rfl rfl rfl))) (pv 3) (pv 2)), fun G b E H1 R s o => ?_⟩
        have z := (n10.b.stE b.ex b.tb).stS s
        obtain ⟨d, e⟩ := id (a_ z)
        exact ⟨_, rfl, _, rfl, a, d, _, Ty, rfl, e, (od_ z).ty, (od_ z).flat X.N, a, v, rfl, no_ z, o⟩
      · refine ⟨f3, c3, _, _, _, _, rfl, fun G b => ⟨b.ex _ _ (kf 14 _ rfl).1 (kf 14 _ rfl).2.1, b.ex _ _ (kf 15 _ rfl).1 (kf 15 _ rfl).2.1⟩, LamX.lamS_by (sc := defScope sRefused) (by decide +kernel), fun _ _ => rfl, fun A outer s H E hA hr7 => (pe_op (show OpR _ _ (rOwnX K (aR K) (spBinX K) E) from op_ownX (k := 6) hop3 ow3 Gw3 (hr7.mono (by decide)) (passE (takes_of rfl rfl rfl rfl))) (pv 3) (pv 2)), fun G b E H1 R s o => ?_⟩
        have z := (n10.b.stE b.ex b.tb).stS s
        obtain ⟨d, e⟩ := id (a_ z)
        exact ⟨_, rfl, _, rfl, a, d, _, Ty, rfl, e, (od_ z).ty, (od_ z).flat X.N, a, v, rfl, no_ z, o⟩
      · refine ⟨f4, c4, _, _, _, _, rfl, fun G b => ⟨b.ex _ _ (kf 12 _ rfl).1 (kf 12 _ rfl).2.1, b.ex _ _ (kf 13 _ rfl).1 (kf 13 _ rfl).2.1⟩, LamX.lamS_by (sc := defScope sRefused) (by decide +kernel), fun _ _ => rfl, fun A outer s H E hA hr7 => (pe_meth (pv 3) T.cl mB GB (hr7.mono (by decide)) bB .nil (passE (takes_of rfl rfl rfl rfl)) (pa_cons (pv 2) pa_nil)), fun G b E H1 R s o => ?_⟩
        have z := (n10.b.stE b.ex b.tb).stS s
        obtain ⟨d, e⟩ := id (a_ z)
        exact ⟨_, rfl, a, d, _, rfl, e, rfl, _, rfl, a, v, rfl, no_ z, o⟩
      · refine ⟨f5, c5, _, _, _, _, rfl, fun G b => ⟨b.ex _ _ (kf 10 _ rfl).1 (kf 10 _ rfl).2.1, b.ex _ _ (kf 11 _ rfl).1 (kf 11 _ rfl).2.1⟩, LamX.lamS_by (sc := defScope sRefused) (by decide +kernel), fun _ _ => rfl, fun A outer s H E hA hr7 => (pe_meth (pv 3) T.cl mO GO (hr7.mono (by decide)) bO .nil (passE (takes_of rfl rfl rfl rfl)) (pa_cons (pv 2) pa_nil)), fun G b E H1 R s o => ?_⟩
        have z := (n10.b.stE b.ex b.tb).stS s
        obtain ⟨d, e⟩ := id (a_ z)
        exact ⟨_, rfl, a, d, _, rfl, e, rfl, _, rfl, a, v, rfl, no_ z, o⟩
      · refine ⟨f6, c6, _, _, _, _, rfl, fun G b => ⟨b.ex _ _ (kf 8 _ rfl).1 (kf 8 _ rfl).2.1, b.ex _ _ (kf 9 _ rfl).1 (kf 9 _ rfl).2.1⟩, LamX.lamS_by (sc := defScope sRefused) (by decide +kernel), fun _ _ => rfl, fun A outer s H E hA hr7 => (ClX.pe_cmeth (pe_glob (v := .ref (aR K)) rfl T.gR rfl) crF cmF GF (hr7.mono (by decide)) (passE (takes_of rfl rfl rfl rfl)) (pa_cons (pv 2) pa_nil)), fun G b E H1 R s o => ?_⟩
        have z := (n10.b.stE b.ex b.tb).stS s
        exact ⟨rfl, _, rfl, v, rfl, no_ z, o⟩
      · refine ⟨f7, c7, _, _, _, _, rfl, fun G b => ⟨b.ex _ _ (kf 6 _ rfl).1 (kf 6 _ rfl).2.1, b.ex _ _ (kf 7 _ rfl).1 (kf 7 _ rfl).2.1⟩, LamX.lamS_by (sc := defScope sRefused) (by decide +kernel), fun _ _ => rfl, fun A outer s H E hA hr7 => (pe_make MR GX (hr7.mono (by decide)) rfl T.gR bR0 .nil (passE (takes_of rfl rfl rfl rfl)) (pa_cons (pv 2) (pa_cons pe_non pa_nil))), fun G b E H1 R s o => ?_⟩
        have z := (n10.b.stE b.ex b.tb).stS s
        refine ⟨_, rfl, fun x dx hx hd ne => ?_⟩
        have up : Same H1 (upd (upd H1 dx (.own x)) x (.ins (aR K) dx [])) := fun b o e => by rw [upd_ne (ne_of_none e hx), upd_ne (ne_of_none e hd)]; exact e
        exact ⟨x, v, .non, rfl, (no_ z).1.same fun t ty => TyX.same ty up, o.same up⟩
      · refine ⟨f8, c8, _, _, _, _, rfl, fun G b => ⟨b.ex _ _ (kf 4 _ rfl).1 (kf 4 _ rfl).2.1, b.ex _ _ (kf 5 _ rfl).1 (kf 5 _ rfl).2.1⟩, LamX.lamS_by (sc := defScope sRefused) (by decide +kernel), fun _ _ => rfl, fun A outer s H E hA hr7 => (pe_make MR GY (hr7.mono (by decide)) rfl T.gR bR0 .nil (passE (takes_of rfl rfl rfl rfl)) (pa_cons pe_int (pa_cons (pv 2) pa_nil))), fun G b E H1 R s o => ?_⟩
        have z := (n10.b.stE b.ex b.tb).stS s
        refine ⟨_, rfl, fun x dx hx hd ne => ?_⟩
        have up : Same H1 (upd (upd H1 dx (.own x)) x (.ins (aR K) dx [])) := fun b o e => by rw [upd_ne (ne_of_none e hx), upd_ne (ne_of_none e hd)]; exact e
        exact ⟨x, 3, v, rfl, .inl ((no_ z).1.same fun t ty => TyX.same ty up), o.same up⟩
      · refine ⟨f9, c9, _, _, _, _, rfl, fun G b => ⟨b.ex _ _ (kf 2 _ rfl).1 (kf 2 _ rfl).2.1, b.ex _ _ (kf 3 _ rfl).1 (kf 3 _ rfl).2.1⟩, LamX.lamS_by (sc := defScope sRefused) (by decide +kernel), fun _ _ => rfl, fun A outer s H E hA hr7 => (ClX.pe_cmeth (pe_glob (v := .ref (aR K)) rfl T.gR rfl) crL cmL GL_ (hr7.mono (by decide)) (passE (takes_of rfl rfl rfl rfl)) (pa_cons (pv 3) (pa_cons (pv 2) (pa_cons pe_non pa_nil)))), fun G b E H1 R s o => ?_⟩
        have z := (n10.b.stE b.ex b.tb).stS s
        exact ⟨rfl, _, rfl, _, rfl, [.ref a, v, .non], v, rfl, .inr ⟨1, rfl, no_ z, fun i y hi hy => by
          obtain rfl : i = 0 := by omega
          obtain rfl : V.ref a = y := Option.some.inj hy
          exact ⟨q, .inr ⟨a, rfl, a_ z⟩⟩, by show 3 ≤ 100; decide⟩, by show 3 ≤ 100; decide, o⟩
      · refine ⟨f10, c10, _, _, _, _, rfl, fun G b => ⟨b.ex _ _ (kf 0 _ rfl).1 (kf 0 _ rfl).2.1, b.ex _ _ (kf 1 _ rfl).1 (kf 1 _ rfl).2.1⟩, LamX.lamS_by (sc := defScope sRefused) (by decide +kernel), fun _ _ => rfl, fun A outer s H E hA hr7 => (ClX.pe_cmeth (pe_glob (v := .ref (aR K)) rfl T.gR rfl) crM cmM GM (hr7.mono (by decide)) (passE (takes_of rfl rfl rfl rfl)) (pa_cons (pv 2) pa_nil)), fun G b E H1 R s o => ?_⟩
        have z := (n10.b.stE b.ex b.tb).stS s
        exact ⟨rfl, _, rfl, [v], v, rfl, .inr ⟨0, rfl, no_ z, fun i y hi hy => absurd hi (Nat.not_lt_zero _), by show 1 ≤ 100; decide⟩, by show 1 ≤ 100; decide, o⟩
    have b := n10.b
    have w_ : H10 W = some (.lst [V.ref f1, .ref f2, .ref f3, .ref f4, .ref f5, .ref f6, .ref f7, .ref f8, .ref f9, .ref f10]) := n10.w
    clear n10
    refine ⟨_, rfl, W, rfl, ⟨_, SqL.of w_⟩, fun D hD => ?_⟩
    refine lc_list (K := K) (a := W) (xs := [V.ref f1, .ref f2, .ref f3, .ref f4, .ref f5, .ref f6, .ref f7, .ref f8, .ref f9, .ref f10]) (fun i G' => BX (tbs tbp tbr) H10 G' ∧ ∃ rs, G' D = some (.lst rs) ∧ rs.length = i ∧ ∀ r ∈ rs, ∃ y, r = .ref y ∧ G' y = some (.lst [.str "number", .str pd.shown, .bl true])) ⟨⟨same_extN (same_new hD), Tabs.same b.tb (same_new hD)⟩, [], upd_same, rfl, fun r hr => by cases hr⟩ (fun i G' _ ⟨s, _⟩ => SqL.of (s.ex _ _ w_ fun _ z => by cases z)) ?_ ?_
    · rintro i x G1 hi ⟨b1, rs, hrs, len, all⟩
      have il : i < 10 := (List.getElem?_eq_some_iff.mp hi).1
      have B1 := b.stE b1.ex b1.tb
      refine ⟨rfl, LamGood.told (good x (List.mem_of_getElem? hi)) b1 (rp_ B1) rfl fun r G2 s2 n2 e2 => ?_⟩
      have hrs2 := s2 _ _ hrs
      have rD : r ≠ D := (ne_of_none hrs n2).symm
      refine ⟨rs, hrs2, by rw [len, sizeLine_eq]; omega, (b1.stS s2).upL (fun o e _ => by rw [hD] at e; cases e) hrs2, rs ++ [.ref r], upd_same, by rw [List.length_append, len]; rfl, fun r' hr' => ?_⟩
      rcases List.mem_append.mp hr' with h | h
      · obtain ⟨y, rfl, hy⟩ := all r' h
        refine ⟨y, rfl, ?_⟩
        rw [upd_ne]
        · exact s2 _ _ hy
        · rintro rfl
          rw [hrs] at hy
          obtain rfl : rs = [.str "number", .str pd.shown, .bl true] := by
            injection hy with hy
            injection hy
          obtain ⟨y', e, _⟩ := all (.str "number") (by simp)
          cases e
      · obtain rfl : r' = .ref r := by simpa using h
        exact ⟨r, rfl, by rw [upd_ne rD]; exact e2⟩
    rintro G1 ⟨b1, rs, hrs, len, all⟩
    replace len : rs.length = 10 := len
    replace b1 := b.stE b1.ex b1.tb
    clear good w_ b hD
    refine ⟨_, rfl, v, pd.shown, rfl, rp_ b1, (by show 3 ≤ sizeLine; decide), fun i1 n1 => ?_⟩
    have s1 := same_new (o := .lst [V.str "number", .str pd.shown, .bl true]) n1
    have e1 : upd G1 i1 (.lst [V.str "number", .str pd.shown, .bl true]) i1 = some (.lst [V.str "number", .str pd.shown, .bl true]) := upd_same
    generalize upd G1 i1 (.lst [V.str "number", .str pd.shown, .bl true]) = G2 at *
    refine ⟨(by show 1 ≤ sizeLine; decide), fun i2 n2 => ⟨i2, _, _, rfl, rfl, upd_same, by decide, by decide, by show 1 * 10 ≤ sizeLine; decide, fun i3 n3 => ?_⟩⟩
    have s2 := (same_new (o := .lst [V.ref i1]) n2).trans (same_new (o := .lst (List.replicate (10 : Int).toNat [V.ref i1]).flatten) n3)
    have e2 : upd (upd G2 i2 (.lst [V.ref i1])) i3 (.lst (List.replicate (10 : Int).toNat [V.ref i1]).flatten) i3 = some (.lst (List.replicate (10 : Int).toNat [V.ref i1]).flatten) := upd_same
    generalize upd (upd G2 i2 (.lst [V.ref i1])) i3 (.lst (List.replicate (10 : Int).toNat [V.ref i1]).flatten) = G3 at *
    have s13 := s1.trans s2
    refine ⟨kdT pd.shown, kdT pd.shown, kdT_dp (s13 _ _ hrs) len (fun r hr => ?_), kdT_dp e2 rfl (fun r hr => ?_), kdT_shp okp, kdT_shp okp, _, rfl, ?_⟩
    · obtain ⟨y, e, h⟩ := all r hr
      exact ⟨y, e, s13 _ _ h⟩
    · have : r = V.ref i1 := by simpa using hr
      exact ⟨i1, this, s2 _ _ e1⟩
    have b3 := b1.stS s13
    clear s13 s2 e2 e1 s1 n1 n2 n3 all len hrs b1
    rw [kdT_eqv]
    refine iteF ⟨_, rfl, v, rfl, no_ b3, ⟨_, _, rfl, rfl, _, rfl, iteF ?_⟩⟩
    -- a bottom of 0
    have z0 : PyData.strOk "0" = true := by decide +kernel
    have zN : PyData.strOk "None" = true := by decide +kernel
    have rep0 : ∀ {G : Hp}, RepAt K G (.int 0) "0" := .inr (.inl ⟨0, rfl, by decide, by decide +kernel⟩)
    have repN : ∀ {G : Hp}, RepAt K G .non "None" := .inl ⟨.none, .non, none_shows.sh, by decide, Nat.le_trans none_shows.ln (by decide), by decide +kernel⟩
    have sq9 : Sz 900 q := sq.mono (by decide)
    refine ⟨b3.tb, fun G4 x4 t4 => ?_⟩
    have b4 := b3.stE x4 t4
    refine tt_val rep0 (fun E H1 R s o => ?_) (fun r G5 s5 _ e5 => ⟨(by show 3 ≤ sizeLine; decide), fun i1 n1 => ?_⟩)
    · refine ⟨_, rfl, t, _, _, _, rfl, rfl, SqT.of (t_ (b4.stS s)), rfl, fun x dx hx hd ne => ?_⟩
      have up : Same H1 (upd (upd H1 dx (.own x)) x (.ins (aR K) dx [])) := fun b o e => by rw [upd_ne (ne_of_none e hx), upd_ne (ne_of_none e hd)]; exact e
      exact ⟨x, q.num, .int 0, rfl, .inr rfl, o.same up⟩
    have u5 := same_new (o := .lst [V.str "number", .str "0", .bl true]) n1
    refine ⟨kdN "0", kdN "0", kdN_dp (u5 _ _ e5), kdN_dp upd_same, kdN_shp z0, kdN_shp z0, _, rfl, ?_⟩
    rw [kdN_eqv]
    have b5 := (b4.stS s5).stS u5
    clear e5 u5 s5 n1 b4 x4 t4 b3
    refine iteF ?_
    generalize upd G5 i1 (.lst [V.str "number", .str "0", .bl true]) = G6 at *
    -- a Ratio as top
    refine ⟨b5.tb, fun G4 x4 t4 => ?_⟩
    have b4 := b5.stE x4 t4
    refine tt_val (.inr (.inr ⟨a, q, rfl, a_ b4, sq9, rfl⟩)) (fun E H1 R s o => ?_) (fun r G5 s5 _ e5 => ⟨_, rfl, .ref a, reprQ q, rfl, .inr (.inr ⟨a, q, rfl, a_ (b4.stS s5), sq9, rfl⟩), (by show 3 ≤ sizeLine; decide), fun i1 n1 => ?_⟩)
    · refine ⟨_, rfl, fun x dx hx hd ne => ?_⟩
      have up : Same H1 (upd (upd H1 dx (.own x)) x (.ins (aR K) dx [])) := fun b o e => by rw [upd_ne (ne_of_none e hx), upd_ne (ne_of_none e hd)]; exact e
      exact ⟨x, .ref a, .int 1, rfl, ⟨.ref (aR K), false, false, ((a_ (b4.stS s)).same up).ty T, X.N.i, (fun z => by cases z), rfl⟩, o.same up⟩
    have u5 := same_new (o := .lst [V.str "number", .str (reprQ q), .bl true]) n1
    refine ⟨kdN (reprQ q), kdN (reprQ q), kdN_dp (u5 _ _ e5), kdN_dp upd_same, kdN_shp (reprQ_ok q), kdN_shp (reprQ_ok q), _, rfl, ?_⟩
    rw [kdN_eqv]
    have b6 := (b4.stS s5).stS u5
    clear e5 u5 s5 n1 b4 x4 t4 b5
    refine iteF ?_
    generalize upd G5 i1 (.lst [V.str "number", .str (reprQ q), .bl true]) = G7 at *
    -- the least of none
    refine ⟨b6.tb, fun G4 x4 t4 => ?_⟩
    have b4 := b6.stE x4 t4
    refine tt_val repN (fun E H1 R s o => ?_) (fun r G5 s5 _ e5 => ⟨(by show 3 ≤ sizeLine; decide), fun i1 n1 => ?_⟩)
    · exact ⟨rfl, [], .non, rfl, .inl ⟨rfl, rfl⟩, Nat.zero_le _, o⟩
    have u5 := same_new (o := .lst [V.str "number", .str "None", .bl true]) n1
    refine ⟨kdN "None", kdN "None", kdN_dp (u5 _ _ e5), kdN_dp upd_same, kdN_shp zN, kdN_shp zN, _, rfl, ?_⟩
    rw [kdN_eqv]
    have b7 := (b4.stS s5).stS u5
    clear e5 u5 s5 n1 b4 x4 t4 b6
    refine iteF ?_
    generalize upd G5 i1 (.lst [V.str "number", .str "None", .bl true]) = G8 at *
    -- the greatest of none
    refine ⟨b7.tb, fun G4 x4 t4 => ?_⟩
    have b4 := b7.stE x4 t4
    refine tt_val repN (fun E H1 R s o => ?_) (fun r G5 s5 _ e5 => ⟨(by show 3 ≤ sizeLine; decide), fun i1 n1 => ?_⟩)
    · exact ⟨rfl, [], .non, rfl, .inl ⟨rfl, rfl⟩, Nat.zero_le _, o⟩
    have u5 := same_new (o := .lst [V.str "number", .str "None", .bl true]) n1
    refine ⟨kdN "None", kdN "None", kdN_dp (u5 _ _ e5), kdN_dp upd_same, kdN_shp zN, kdN_shp zN, ?_⟩
    have b9 := (b4.stS s5).stS u5
    rw [kdN_eqv]
    refine ⟨_, rfl, iteT ?_⟩
    exact ⟨_, rfl, t, _, _, _, rfl, rfl, SqT.of (t_ b9), rfl, .int q.num, (q.num : Rat), rfl, .inl ⟨q.num, rfl, rfl⟩, true, true, rfl, rfl, k _ (x08.trans b9.ex) (Rng.ext R8 b9.ex) b9.tb⟩
end
end K18
set_option maxHeartbeats 4000000
namespace K18
open PySem PySem.Spec PyProof.Rows L2 GL
abbrev sRight : Stmt := tp 30
abbrev sLaw : Stmt := tp 31
theorem sqL_ext {K : PySem.W.Frag} {H H' : Hp} {a : Addr} {xs : List V} (h : SqL K H a xs) (k : LamX.ExtN H H') : SqL K H' a xs := by
  rcases h with (h | ⟨o, h⟩) | h
  · exact .inl (.inl (k _ _ h fun _ z => by cases z))
  · exact .inl (.inr ⟨o, k _ _ h fun _ z => by cases z⟩)
  · exact .inr h
theorem rng_off {H : Hp} {p : Addr} : Same (GL.off H p) H := fun b o e => (off_some e).2
/-- fractions, not too long -/
def Frs (H : Hp) (xs : List V) : Prop := ∀ v ∈ xs, ∃ t q, v = .ref t ∧ PartAt H t q ∧ Sz 80 q
theorem Frs.same {H H' : Hp} {xs : List V} (h : Frs H xs) (k : Same H H') : Frs H' xs := fun v hv => by
  obtain ⟨t, q, e, m, s⟩ := h v hv
  exact ⟨t, q, e, m.same k, s⟩
theorem Frs.offR {H : Hp} {p : Addr} {xs : List V} (h : Frs H xs) (R : Rng H p) : Frs (GL.off H p) xs := fun v hv => by
  obtain ⟨t, q, e, m, s⟩ := h v hv
  exact ⟨t, q, e, m.offR R, s⟩
theorem Frs.ext {H H' : Hp} {xs : List V} (h : Frs H xs) (k : LamX.ExtN H H') : Frs H' xs := fun v hv => by
  obtain ⟨t, q, e, m, s⟩ := h v hv
  exact ⟨t, q, e, m.ext k, s⟩
theorem Frs.updL {H : Hp} {D : Addr} {xs ys : List V} {o : HO} (h : Frs H ys) (e : H D = some (.lst xs)) : Frs (upd H D o) ys := fun v hv => by
  obtain ⟨t, q, e1, m, s⟩ := h v hv
  refine ⟨t, q, e1, ?_, s⟩
  have m' : H t = some (.tup [.int q.num, .int (q.den : Int)]) := m
  show upd H D o t = _
  rw [upd_ne (fun z => by rw [z, e] at m'; cases m')]
  exact m'
section
variable {P : Program} {w : World} {K : PySem.W.Frag} {mg : Str → Option Value} {base : Heap}
def spRight (K : PySem.W.Frag) (tbp tbr : Addr) : Sp := fun vs H Q _ => ∃ p : Addr, vs = [.ref p] ∧ Rng H p ∧ LamX.Tabs (tbs tbp tbr) H ∧ ∀ H', LamX.ExtN (off H p) H' → LamX.Tabs (tbs tbp tbr) H' → Q (.bl true) H'
structure LZ (P : Program) (w : World) (K : PySem.W.Frag) (mg : Str → Option Value) (base : Heap) (tbp tbr : Addr) : Prop where
  F : Free mg
  dr : DefF P w K mg base "_law_draw" 1 ["_law_rng_here", "_law_many"] spDraw
  fr : DefF P w K mg base "_law_fraction" 3 ["_law_rng_here"] (spFrac K)
  al : DefG P w K mg base "_law_alone_right" 5 ["_law_rng_here", "_law_part"] (spAlone K)
  pr : DefG P w K mg base "_law_pair_right" 8 ["_law_rng_here", "_law_near", "_law_far"] (spPair K tbp tbr)
  sv : DefG P w K mg base "_law_several_right" 8 ["_law_rng_here", "_law_parts"] (spSev K)
  xr : DefG P w K mg base "_law_refused_right" 10 ["_law_rng_here", "_law_part"] (spRefused K tbp tbr)
abbrev nRight : List Str := ["_law_rng_here", "_law_parts", "_law_turn", "_law_near", "_law_far"]
theorem scRight : FnScope nRight ["_law_rng_here"] (defScope sRight) := ⟨rfl, rfl, rfl, by decide +kernel, rfl, by decide +kernel, by decide +kernel⟩
theorem ok_right {tbp tbr f : Addr} {fd : FuncData} (F : Fun K "_law_right" "_law_right" sRight f fd) (Z : LZ P w K mg base tbp tbr) : FnG P w K mg base CX0 11 f fd ["_law_rng_here"] (spRight K tbp tbr) := by
  obtain ⟨fD, fdD, GD, gD, bD, kD⟩ := Z.dr
  obtain ⟨fF, fdF, GF, gF, bF, kF⟩ := Z.fr
  obtain ⟨fA, fdA, GA, gA, bA, kA⟩ := Z.al
  obtain ⟨fP, fdP, GP, gP, bP, kP⟩ := Z.pr
  obtain ⟨fS, fdS, GS, gS, bS, kS⟩ := Z.sv
  obtain ⟨fX, fdX, GX, gX, bX, kX⟩ := Z.xr
  have M := Z.F
  refine Fun.okG F scRight (fun vs H Q E h => ?_) (fun cdv A outer s H vs Q E gd hr h => ?_)
  · obtain ⟨p, rfl, _⟩ := h
    rfl
  · obtain ⟨p, rfl, R, tabs, k⟩ := h
    have r1 : Room 1 _ := hr.mono (by decide)
    have r3 : Room 3 _ := hr.mono (by decide)
    have r5 : Room 5 _ := hr.mono (by decide)
    have r8 : Room 8 _ := hr.mono (by decide)
    refine ⟨_, pss_cons (ps_setLc (i := 1) (own := [("_law_turn", 2)]) (g := gName 2) (tt := tYes) (te := tCall (spFrac K) [] E0 (tCons (tVar 0) tNil)) (by rfl) scRight.nd rfl rfl (sw_true rfl rfl rfl (by decide +kernel)) (pi_range1 (by rfl) M.range (pa_cons pe_int pa_nil))
        (blkOk_by (own := [("_law_turn", 2)]) (N := nRight) (sc := defScope sRight) (by decide +kernel)) (fun _ _ _ _ _ => pg_name (i := 2) scRight.nd rfl (Or.inl rfl)) (fun _ _ _ _ _ => pts_nil)
        (fun _ _ _ _ _ => by exact (pe_call GF r3 rfl gF kF bF .nil pass0 (pa_cons (pv 0) pa_nil))))
      (pss_cut (ps_if (pt_cmpR op_eq (pe_call GD r1 rfl gD kD bD .nil pass0 (pa_cons (pv 0) (pa_cons pe_int pa_nil))) pe_int (nomark _)) (pss_one (ps_asg (pe_ix ix_list (pv 1) pe_int (fun _ _ => rfl)) (pg_sub (pv 1) pe_int set_list))) pss_nil)
      (pss_cons (ps_for PassesOwn.never rfl (pi_list (pv 1)) (pg_name (i := 3) scRight.nd rfl (Or.inr rfl))
        (pss_one (ps_if (PW.pt (pw_or (pt_not (pt_val (pe_callG GA gd r5 rfl gA kA bA .nil pass0 (pa_cons (pv 0) (pa_cons (pv 3) pa_nil)))))
          (pw_or1 (pt_not (pt_val (pe_callB (cr_all rfl) (by rfl) M.all (by decide +kernel) (pa_cons (pe_lc (own := [("_law_far", 4)]) (g := gName 4) (tt := tYes) (te := tCall (spPair K tbp tbr) [] E0 (tCons (tVar 0) (tCons (tVar 3) (tCons (tVar 4) tNil)))) rfl scRight.nd (pi_list (pv 1))
            (blkOk_by (own := [("_law_far", 4)]) (N := nRight) (sc := defScope sRight) (by decide +kernel)) (fun _ _ _ _ _ => pg_name (i := 4) scRight.nd rfl (Or.inl rfl)) (fun _ _ _ _ _ => pts_nil)
            (fun _ _ _ _ _ => by exact (pe_callG GP gd r8 rfl gP kP bP .nil pass0 (pa_cons (pv 0) (pa_cons (pv 3) (pa_cons (pv 4) pa_nil)))))) pa_nil)))))))
          (pss_one (ps_ret pe_bl)) pss_nil)))
      (pss_one (ps_ret (pe_and (pe_callG GS gd r8 rfl gS kS bS .nil pass0 (pa_cons (pv 0) (pa_cons (pv 1) pa_nil)))
        (pe_one (pe_callG GX gd hr rfl gX kX bX .nil pass0 (pa_cons (pv 0) (pa_cons (pe_ix ix_list (pv 1) pe_int (fun _ _ => rfl)) pa_nil))))))))), ?_⟩
    refine ⟨_, rfl, by decide, by decide, fun D hD => ?_⟩
    have Dp_ : D ≠ p := Rng.ne_new R hD
    refine lc_range (lo := 0) (n := 4) (fun i G => ∃ acc, G D = some (.lst acc) ∧ acc.length = i ∧ Same (off H p) G ∧ Rng G p ∧ Frs G acc) ⟨[], upd_same, rfl, fun x o e => ?_, ?_, fun v hv => by cases hv⟩ ?_ ?_
    · rw [upd_ne (ne_of_none (off_some e).2 hD)]
      exact (off_some e).2
    · obtain ⟨x, y, ep, r⟩ := R
      exact ⟨x, y, by rw [upd_ne Dp_.symm]; exact ep, r⟩
    · rintro i G hi ⟨acc, hacc, lacc, s, RG, parts⟩
      refine ⟨rfl, ?_⟩
      refine ⟨_, rfl, p, rfl, RG, fun t q G' k' R' ht sz => ?_⟩
      have hacc' := k' D _ (by rw [off_ne Dp_]; exact hacc)
      have all' : Frs G' (acc ++ [.ref t]) := fun v hv => by
        rcases List.mem_append.mp hv with hv | hv
        · exact ((parts.offR RG).same k') v hv
        · rw [List.mem_singleton.mp hv]
          exact ⟨t, q, rfl, ht, sz⟩
      refine ⟨acc, hacc', (by rw [sizeLine_eq]; omega), acc ++ [.ref t], upd_same, (by rw [List.length_append, List.length_singleton]; omega), fun x o e => ?_, ?_, all'.updL hacc'⟩
      · rw [upd_ne (ne_of_none (off_some e).2 hD)]
        exact off_off s k' x o e
      · obtain ⟨x, y, ep, r⟩ := R'
        exact ⟨x, y, by rw [upd_ne Dp_.symm]; exact ep, r⟩
    · rintro G ⟨acc, hacc, lacc, s, RG, parts⟩
      obtain ⟨v0, v1, v2, v3, rfl⟩ : ∃ v0 v1 v2 v3, acc = [v0, v1, v2, v3] := by
        match acc, lacc with
        | [a, b, c, d], _ => exact ⟨a, b, c, d, rfl⟩
      refine ⟨fun z G => z = [some (.ref p), some (.ref D), none, none, none] ∧ Same (off H p) G ∧ Rng G p ∧ ∃ v0 v1 v2 v3, G D = some (.lst [v0, v1, v2, v3]) ∧ Frs G [v0, v1, v2, v3], ?_, ?_⟩
      · refine ⟨_, rfl, p, 3, rfl, RG, by decide, by decide, fun d G2 _ _ kp R2 => ?_⟩
        have s2 : Same (off H p) G2 := fun b o e => kp b o (s b o e) (off_some e).1
        have hacc2 := kp D _ hacc Dp_
        have parts2 : Frs G2 [v0, v1, v2, v3] := (parts.offR RG).same (off_kp kp)
        refine ⟨rfl, _, rfl, ?_⟩
        refine ite2 (fun _ => ?_) (fun _ => ?_)
        · refine ⟨_, rfl, D, _, _, _, rfl, rfl, SqL.of hacc2, rfl, _, rfl, D, _, _, 1, rfl, rfl, hacc2, rfl, ?_⟩
          refine ⟨rfl, fun b o e => ?_, ?_, v0, v0, v2, v3, upd_same, ?_⟩
          · rw [upd_ne (ne_of_none (off_some e).2 hD)]
            exact s2 b o e
          · obtain ⟨x, y, ep, r⟩ := R2
            exact ⟨x, y, by rw [upd_ne Dp_.symm]; exact ep, r⟩
          · refine Frs.updL (fun v hv => parts2 v ?_) hacc2
            simp only [List.mem_cons, List.not_mem_nil, or_false] at hv ⊢
            rcases hv with h | h | h | h
            · exact .inl h
            · exact .inl h
            · exact .inr (.inr (.inl h))
            · exact .inr (.inr (.inr h))
        · exact ⟨rfl, s2, R2, v0, v1, v2, v3, hacc2, parts2⟩
      clear hacc parts RG s lacc
      rintro z G1 ⟨rfl, s1, RG, v0, v1, v2, v3, hacc, parts⟩
      have tG : LamX.Tabs (tbs tbp tbr) G1 := by
        obtain ⟨x, y, ep, _⟩ := id R
        exact Tabs.same (Tabs.offP tabs ep) s1
      obtain ⟨B, hB⟩ : ∃ B : Hp → Prop, ∀ G, B G ↔ (LamX.ExtN (off G1 p) G ∧ Rng G p ∧ LamX.Tabs (tbs tbp tbr) G) := ⟨_, fun _ => Iff.rfl⟩
      have b1 : B G1 := (hB _).mpr ⟨same_extN rng_off, RG, tG⟩
      have stE : ∀ {G G' : Hp}, B G → LamX.ExtN G G' → LamX.Tabs (tbs tbp tbr) G' → B G' := by
        intro G G' x e tt
        obtain ⟨x1, x2, _⟩ := (hB _).mp x
        exact (hB _).mpr ⟨x1.trans e, x2.ext e, tt⟩
      have stS : ∀ {G G' : Hp}, B G → Same G G' → B G' := fun x s => stE x (same_extN s) (Tabs.same ((hB _).mp x).2.2 s)
      have stP : ∀ {G G' : Hp}, B G → LamX.ExtN (off G p) G' → Rng G' p → LamX.Tabs (tbs tbp tbr) G' → B G' := by
        intro G G' x e R' tt
        obtain ⟨x1, x2, x3⟩ := (hB _).mp x
        exact (hB _).mpr ⟨fun a o e' n => e a o (by rw [off_ne (off_some e').1]; exact x1 a o e' n) n, R', tt⟩
      have stO : ∀ {G G' : Hp}, B G → Same (off G p) G' → Rng G' p → B G' := by
        intro G G' x s R'
        refine stP x (same_extN s) R' ?_
        obtain ⟨y, z, ep, _⟩ := id ((hB _).mp x).2.1
        exact Tabs.same (Tabs.offP ((hB _).mp x).2.2 ep) s
      have R_ : ∀ {G : Hp}, B G → Rng G p := fun x => ((hB _).mp x).2.1
      have T_ : ∀ {G : Hp}, B G → LamX.Tabs (tbs tbp tbr) G := fun x => ((hB _).mp x).2.2
      have D_ : ∀ {G : Hp}, B G → G D = some (.lst [v0, v1, v2, v3]) := fun x => ((hB _).mp x).1 D _ (by rw [off_ne Dp_]; exact hacc) (fun _ z => by cases z)
      have p_ : ∀ {G : Hp}, B G → Frs G [v0, v1, v2, v3] := fun x => (parts.offR RG).ext ((hB _).mp x).1
      have fin : ∀ {G : Hp}, B G → LamX.ExtN (off H p) G := fun x => fun b o e n => ((hB _).mp x).1 b o (by rw [off_ne (off_some e).1]; exact s1 b o e) n
      refine ⟨_, rfl, D, rfl, ⟨_, SqL.of hacc⟩, ?_⟩
      refine for_list (K := K) (a := D) (xs := [v0, v1, v2, v3]) (fun i z G => B G ∧ ∃ (w2 w3 w4 : Option V), z = [some (.ref p), some (.ref D), w2, w3, w4]) ?_ ?_ ?_ ?_
      · exact ⟨b1, _, _, _, rfl⟩
      · rintro i z G _ ⟨x, _⟩
        exact SqL.of (D_ x)
      · rintro i y z G hy ⟨w0, w2, w3, w4, rfl⟩
        have mem := List.mem_of_getElem? hy
        obtain ⟨t, q, rfl, ht, sq⟩ := parts y mem
        have pt_ : ∀ {G : Hp}, B G → PartAt G t q := fun x => (ht.offR RG).ext ((hB _).mp x).1
        refine ⟨_, rfl, _, rfl, p, t, q, rfl, R_ w0, pt_ w0, sq.mono (by decide), fun G2 k2 R2 => ⟨_, rfl, iteF ?_⟩⟩
        have x2 := stO w0 k2 R2
        refine ⟨_, rfl, D, rfl, ⟨_, SqL.of (D_ x2)⟩, fun D3 n3 => ?_⟩
        have D3p : D3 ≠ p := Rng.ne_new (R_ x2) n3
        have nb : ∀ o, off G1 p D3 = some o → (∀ ps, o ≠ .tbl ps) → False := fun o e nt => by
          have z := ((hB _).mp x2).1 _ _ e nt
          rw [n3] at z
          cases z
        have up : ∀ {G : Hp} {ys : List V} {o : HO}, B G → G D3 = some (.lst ys) → B (upd G D3 o) := by
          intro G ys o x e
          obtain ⟨y1, ⟨a, b, ep, r⟩, y3⟩ := (hB _).mp x
          refine (hB _).mpr ⟨fun b o e' nt => ?_, ⟨a, b, by rw [upd_ne D3p.symm]; exact ep, r⟩, tabs_updL y3 e⟩
          by_cases h : b = D3
          · rw [h] at e'
            exact (nb o e' nt).elim
          · rw [upd_ne h]
            exact y1 b o e' nt
        have x0 := stS x2 (same_new (o := .lst []) n3)
        refine lc_list (K := K) (a := D) (xs := [v0, v1, v2, v3]) (fun i G' => G' D3 = some (.lst (List.replicate i (.bl true))) ∧ B G') ⟨upd_same, x0⟩ (fun i G' _ ⟨_, y⟩ => SqL.of (D_ y)) ?_ ?_
        · rintro i y G2 hy2 ⟨hD3, y2⟩
          have il : i < 4 := (List.getElem?_eq_some_iff.mp hy2).1
          obtain ⟨tf, qf, rfl, hf1, sf⟩ := parts y (List.mem_of_getElem? hy2)
          have mf : PartAt G2 tf qf := (hf1.offR RG).ext ((hB _).mp y2).1
          refine ⟨rfl, ?_⟩
          refine ⟨_, rfl, _, rfl, _, rfl, p, t, tf, q, qf, rfl, R_ y2, pt_ y2, mf, sq.mono (by decide), sf.mono (by decide), T_ y2, fun G5 e5 R5 t5 => ?_⟩
          have y5 := stP y2 e5 R5 t5
          have hD5 := e5 D3 _ (by rw [off_ne D3p]; exact hD3) (fun _ z => by cases z)
          exact ⟨_, hD5, (by rw [List.length_replicate, sizeLine_eq]; omega), by rw [upd_same, List.replicate_succ'], up y5 hD5⟩
        · rintro G2 ⟨hD3, y2⟩
          refine ⟨D3, List.replicate 4 true, rfl, SqL.of hD3, _, rfl, ?_⟩
          have ea : (List.replicate 4 true).all id = true := by decide
          rw [ea]
          exact iteF ⟨y2, _, _, _, rfl⟩
      · rintro z G ⟨x, w2, w3, w4, rfl⟩
        have pp : ∀ {G : Hp} {t : Addr} {q : Rat}, B G → PartAt G1 t q → PartAt G t q := fun x h => (h.offR RG).ext ((hB _).mp x).1
        obtain ⟨t0, q0, rfl, h0, z0⟩ := parts v0 (by simp)
        obtain ⟨t1, q1, rfl, h1, z1⟩ := parts v1 (by simp)
        obtain ⟨t2, q2, rfl, h2, z2⟩ := parts v2 (by simp)
        obtain ⟨t3, q3, rfl, h3, z3⟩ := parts v3 (by simp)
        refine ⟨_, rfl, _, rfl, p, D, t0, t1, t2, t3, q0, q1, q2, q3, rfl, R_ x, D_ x, Dp_, pp x h0, pp x h1, pp x h2, pp x h3, z0, z1, z2, z3, fun G6 k6 R6 => ⟨_, rfl, iteT ?_⟩⟩
        have w6 := stO x k6 R6
        refine ⟨_, rfl, _, rfl, D, _, _, _, rfl, rfl, SqL.of (D_ w6), rfl, p, t0, q0, rfl, R_ w6, pp w6 h0, z0.mono (by decide), T_ w6, fun G7 e7 R7 t7 => k G7 (fin (stP w6 e7 R7 t7)) t7⟩
def spLaw (K : PySem.W.Frag) (tbp tbr : Addr) : Sp := fun vs H Q _ => ∃ (a : Addr) (ns : List Int), vs = [.ref a] ∧ SqL K H a (ns.map V.int) ∧ ns.length ≤ 63 ∧ LamX.Tabs (tbs tbp tbr) H ∧ ∀ H', Q (.bl true) H'
theorem scLaw : FnScope ["_law_script", "_law_k"] ["_law_script"] (defScope sLaw) := ⟨rfl, rfl, rfl, by decide +kernel, rfl, by decide +kernel, by decide +kernel⟩
theorem ok_law {tbp tbr f : Addr} {fd : FuncData} (F : Fun K "law" "law" sLaw f fd) (M : Free mg) (rg : DefF P w K mg base "_law_rng" 1 ["_law_script", "_law_spot"] (spRng K)) (rt : DefG P w K mg base "_law_right" 11 ["_law_rng_here"] (spRight K tbp tbr)) :
    FnG P w K mg base CX0 12 f fd ["_law_script"] (spLaw K tbp tbr) := by
  obtain ⟨fG, fdG, GG, gG, bG, kG⟩ := rg
  obtain ⟨fR, fdR, GR, gR, bR, kR⟩ := rt
  refine Fun.okG F scLaw (fun vs H Q E h => ?_) (fun cdv A outer s H vs Q E gd hr h => ?_)
  · obtain ⟨a, ns, rfl, _⟩ := h
    rfl
  · obtain ⟨a, ns, rfl, hS, hn, tabs, k⟩ := h
    have hr1 : Room 1 _ := hr.mono (by decide)
    refine ⟨_, pss_one (ps_ret (pe_callB (cr_all rfl) (by rfl) M.all (by decide +kernel) (pa_cons (pe_lc (own := [("_law_k", 1)]) (g := gName 1) (tt := tYes) (te := tCall (spRight K tbp tbr) [] E0 (tCons (tCall (spRng K) [] E0 (tCons (tVar 0) (tCons (tVar 1) tNil))) tNil)) rfl scLaw.nd
      (pi_range1 (by rfl) M.range (pa_cons (pe_callB (call_max2 rfl) (by rfl) M.max (by decide +kernel) (pa_cons pe_int (pa_cons (pe_callB (call_min2 rfl) (by rfl) M.min (by decide +kernel) (pa_cons pe_int (pa_cons (pe_callB call_len_seq (by rfl) M.len PySem.boot_len (pa_cons (pv 0) pa_nil)) pa_nil))) pa_nil))) pa_nil))
      (blkOk_by (own := [("_law_k", 1)]) (N := ["_law_script", "_law_k"]) (sc := defScope sLaw) (by decide +kernel)) (fun _ _ _ _ _ => pg_name (i := 1) scLaw.nd rfl (Or.inl rfl)) (fun _ _ _ _ _ => pts_nil)
      (fun _ _ _ _ _ => by exact (pe_callG GR gd hr rfl gR kR bR .nil pass0 (pa_cons (pe_call GG hr1 rfl gG kG bG .nil pass0 (pa_cons (pv 0) (pa_cons (pv 1) pa_nil))) pa_nil)))) pa_nil))), ?_⟩
    refine ⟨_, rfl, _, _, rfl, .inl hS, ?_⟩
    rw [List.length_map]
    have bd : ∀ z : Int, 0 ≤ z → z ≤ 63 → 0 ≤ (if (if z < 6 then z else 6) > 1 then (if z < 6 then z else 6) else 1) ∧ (if (if z < 6 then z else 6) > 1 then (if z < 6 then z else 6) else 1) ≤ 6 := by
      intro z h0 h1
      split <;> split <;> omega
    have b := bd ns.length (by omega) (by omega)
    refine ⟨_, _, rfl, _, _, rfl, _, rfl, Int.le_trans (by decide) b.1, Int.lt_of_le_of_lt b.2 (by decide), fun D hD => ?_⟩
    generalize (if (if (ns.length : Int) < 6 then (ns.length : Int) else 6) > 1 then (if (ns.length : Int) < 6 then (ns.length : Int) else 6) else 1) = z at b ⊢
    refine lc_range (lo := 0) (n := z.toNat) (fun i G => G D = some (.lst (List.replicate i (.bl true))) ∧ LamX.ExtN H G ∧ LamX.Tabs (tbs tbp tbr) G) ⟨upd_same, same_extN (same_new hD), Tabs.same tabs (same_new hD)⟩ ?_ ?_
    · rintro i G hi ⟨h2, s2, t2⟩
      refine ⟨rfl, ?_⟩
      refine ⟨_, rfl, _, rfl, a, ns, _, rfl, sqL_ext hS s2, by omega, by omega, fun p G1 np s3 hp => ?_⟩
      refine ⟨p, rfl, hp, Tabs.same t2 s3, fun G2 x2 t3 => ?_⟩
      have x12 : LamX.ExtN G G2 := fun y o e n => x2 y o (by rw [off_ne (ne_of_none e np)]; exact s3 _ _ e) n
      have h3 := x12 _ _ h2 fun _ z => by cases z
      refine ⟨_, h3, (by rw [List.length_replicate, sizeLine_eq]; omega), ?_, fun y o e n => ?_, tabs_updL t3 h3⟩
      · rw [upd_same, List.replicate_succ']
      · rw [upd_ne (ne_of_none e hD)]
        exact x12 _ _ (s2 _ _ e n) n
    · rintro G ⟨h2, _, _⟩
      refine ⟨D, List.replicate z.toNat true, rfl, SqL.of (by rw [h2, List.map_replicate]), ?_⟩
      have e : (List.replicate z.toNat true).all id = true := by simp
      rw [e]
      exact k _
end
end K18
set_option maxHeartbeats 0
namespace K18
open PySem PySem.Spec PyProof.Rows L2 GL
structure HY (K T : PySem.W.Frag) (h : Heap) (mg : Str → Option Value) : Prop where
  X : K.In h
  XT : T.In h
  G : h.Ns mainGlobals mg
  D : He.SaysD fas fns K
  Dx : SaysX fxs K
  S : SysK K
  B : (chks K).all id = true
  tab : tabB2 K T (lamF K) = true
theorem HY.chk {K T : PySem.W.Frag} {h : Heap} {mg : Str → Option Value} (Y : HY K T h mg) (i : Nat) {b : Bool} (e : (chks K)[i]? = some b) : b = true := List.all_eq_true.mp Y.B b (List.mem_of_getElem? e)
theorem toR {P : Program} {w : World} {K : PySem.W.Frag} {mg : Str → Option Value} {base : Heap} {CX : CXT} {k : Nat} {f : Addr} {fd : FuncData} {ps : List Str} {sp : Sp} (F : FnOk P w K mg base CX k f fd ps sp) (hb : Binds K fd ps []) : FnR P w K mg base CX k f sp := (F.raw hb .nil).imp fun vs H Q E h => by rw [List.append_nil]; exact h
theorem mro_ok {K : PySem.W.Frag} {C : Addr} (h : mroB K C = true) : ∃ cd rest, PySem.W.clsIn K C = some cd ∧ cd.mro = .ref C :: rest := by
  unfold mroB at h
  split at h
  · rename_i cd e
    split at h
    · rename_i a rest em
      have ea : a = C := eq_of_beq h
      rw [ea] at em
      exact ⟨cd, rest, e, em⟩
    · cases h
  · cases h
section
variable {P : Program} {w : World} {K T : PySem.W.Frag} {h : Heap} {mg : Str → Option Value} {base : Heap}
theorem rf (Y : HY K T h mg) : RF K mg := { cl := (He.cls_ok (Y.D.fact 43 (f := .cls "Ratio") rfl)), nT := (He.noat_ok (Y.D.fact 44 (f := .noat "Ratio" "_top") rfl)), nB := (He.noat_ok (Y.D.fact 45 (f := .noat "Ratio" "_bottom") rfl)), kc := (He.eqO_ok (Y.chk 2 (b := He.eqO (PySem.W.findIn K (.ref (He.ga K "Ratio")) "__class__") (some (some (.builtin "object.__class__")))) rfl)), sp := (of_decide_eq_true (Y.chk 0 (b := decide (PySem.W.specialIn K (.builtin "object.__class__") "__get__" = some (some (.builtin "getset_descriptor.__get__")))) rfl)), tk := (of_decide_eq_true (Y.chk 1 (b := decide (PySem.W.takesIn K (.builtin "object.__class__") = some true)) rfl)), ob := (of_decide_eq_true (Y.chk 3 (b := decide (PySem.W.mroIn K (He.ga K "Ratio") (.type "object") = some true)) rfl)), gR := (He.glo_ok Y.X Y.G (Y.D.fact 5 (f := .glo "Ratio") rfl)), ki := (of_decide_eq_true (Y.chk 5 (b := decide (PySem.W.kitOne K (.ref (He.ga K "Ratio")) (.type "int") = some false)) rfl)), isi := (He.free_ok Y.X Y.G (Y.D.fact 26 (f := .free "isinstance") rfl)), int := (He.free_ok Y.X Y.G (Y.D.fact 27 (f := .free "int") rfl)), bool := (He.free_ok Y.X Y.G (Y.D.fact 28 (f := .free "bool") rfl)) }
theorem free_ (Y : HY K T h mg) : Free mg := { len := (He.free_ok Y.X Y.G (Y.D.fact 29 (f := .free "len") rfl)), abs := (He.free_ok Y.X Y.G (Y.D.fact 30 (f := .free "abs") rfl)), max := (He.free_ok Y.X Y.G (Y.D.fact 31 (f := .free "max") rfl)), min := (He.free_ok Y.X Y.G (Y.D.fact 32 (f := .free "min") rfl)), int := (He.free_ok Y.X Y.G (Y.D.fact 27 (f := .free "int") rfl)), divmod := (He.free_ok Y.X Y.G (Y.D.fact 33 (f := .free "divmod") rfl)), range := (He.free_ok Y.X Y.G (Y.D.fact 37 (f := .free "range") rfl)), all := (He.free_ok Y.X Y.G (Y.D.fact 36 (f := .free "all") rfl)), str := (He.free_ok Y.X Y.G (Y.D.fact 34 (f := .free "str") rfl)), list := (He.free_ok Y.X Y.G (Y.D.fact 35 (f := .free "list") rfl)), repr := (He.free_ok Y.X Y.G (Y.D.fact 39 (f := .free "repr") rfl)), any := (He.free_ok Y.X Y.G (Y.D.fact 40 (f := .free "any") rfl)) }
theorem ef (Y : HY K T h mg) : EF K mg := { xN := xcB_ok (Y.chk 21 (b := xcB K (He.ga K "InvalidNumber") .ve) rfl), xD := xcB_ok (Y.chk 28 (b := xcB K (He.ga K "DividedByZero") .re) rfl), eD := (Y.chk 29 (b := PySem.W.excIn K (He.ga K "DividedByZero") [.type "RuntimeError", .type "Exception", .type "BaseException", .type "object"] "RuntimeError.__new__") rfl), gN := (He.glo_ok Y.X Y.G (Y.D.fact 1 (f := .glo "InvalidNumber") rfl)), gD := (He.glo_ok Y.X Y.G (Y.D.fact 2 (f := .glo "DividedByZero") rfl)), gF := (He.glo_ok Y.X Y.G (Y.D.fact 0 (f := .glo "FadeError") rfl)), nN := (He.eqO_ok (Y.chk 22 (b := He.eqO (PySem.W.findIn K (.ref (He.ga K "InvalidNumber")) "value") (some none)) rfl)), nn := (of_decide_eq_true (Y.chk 30 (b := decide (PySem.W.exmOne K (.ref (He.ga K "InvalidNumber")) (.ref (He.ga K "InvalidNumber")) = some true)) rfl)), dn := (of_decide_eq_true (Y.chk 31 (b := decide (PySem.W.exmOne K (.ref (He.ga K "DividedByZero")) (.ref (He.ga K "InvalidNumber")) = some false)) rfl)), dd := (of_decide_eq_true (Y.chk 32 (b := decide (PySem.W.exmOne K (.ref (He.ga K "DividedByZero")) (.ref (He.ga K "DividedByZero")) = some true)) rfl)), isF := (of_decide_eq_true (Y.chk 33 (b := decide (PySem.W.kitOne K (.ref (He.ga K "InvalidNumber")) (.ref (He.ga K "FadeError")) = some true)) rfl)), isR := (of_decide_eq_true (Y.chk 34 (b := decide (PySem.W.kitOne K (.ref (He.ga K "DividedByZero")) (.type "RuntimeError") = some true)) rfl)), isi := (He.free_ok Y.X Y.G (Y.D.fact 26 (f := .free "isinstance") rfl)), rte := (He.free_ok Y.X Y.G (Y.D.fact 42 (f := .free "RuntimeError") rfl)), sp := (of_decide_eq_true (Y.chk 0 (b := decide (PySem.W.specialIn K (.builtin "object.__class__") "__get__" = some (some (.builtin "getset_descriptor.__get__")))) rfl)), tk := (of_decide_eq_true (Y.chk 1 (b := decide (PySem.W.takesIn K (.builtin "object.__class__") = some true)) rfl)) }
theorem na (Y : HY K T h mg) : NA K := by
  refine ⟨fun n hn => ?_, (of_decide_eq_true (Y.chk 5 (b := decide (PySem.W.kitOne K (.ref (He.ga K "Ratio")) (.type "int") = some false)) rfl)), (of_decide_eq_true (Y.chk 35 (b := decide (PySem.W.subIn K (.type "bool") (.ref (He.ga K "Ratio")) = some false)) rfl))⟩
  · simp only [List.mem_cons, List.not_mem_nil, or_false] at hn
    rcases hn with rfl | rfl | rfl | rfl | rfl | rfl | rfl
    · exact (of_decide_eq_true (Y.chk 36 (b := decide (PySem.W.kitOne K (.type "NoneType") (.ref (He.ga K "Ratio")) = some false)) rfl))
    · exact (of_decide_eq_true (Y.chk 37 (b := decide (PySem.W.kitOne K (.type "str") (.ref (He.ga K "Ratio")) = some false)) rfl))
    · exact (of_decide_eq_true (Y.chk 38 (b := decide (PySem.W.kitOne K (.type "list") (.ref (He.ga K "Ratio")) = some false)) rfl))
    · exact (of_decide_eq_true (Y.chk 39 (b := decide (PySem.W.kitOne K (.type "tuple") (.ref (He.ga K "Ratio")) = some false)) rfl))
    · exact (of_decide_eq_true (Y.chk 40 (b := decide (PySem.W.kitOne K (.type "dict") (.ref (He.ga K "Ratio")) = some false)) rfl))
    · exact (of_decide_eq_true (Y.chk 41 (b := decide (PySem.W.kitOne K (.type "bool") (.ref (He.ga K "Ratio")) = some false)) rfl))
    · exact (of_decide_eq_true (Y.chk 42 (b := decide (PySem.W.kitOne K (.type "int") (.ref (He.ga K "Ratio")) = some false)) rfl))
theorem own_add (Y : HY K T h mg) : OwnBin K (aR K) .Add (He.ma K (aR K) "__add__") := ⟨by exact (He.meth_ok (Y.D.fact 49 (f := .meth "Ratio" "__add__") rfl)), by exact (He.eqO_ok (Y.chk 7 (b := He.eqO (PySem.W.findIn K (.ref (He.ga K "Ratio")) "__radd__") (some none)) rfl)), mro_ok (Y.chk 10 (b := mroB K (He.ga K "Ratio")) rfl), (of_decide_eq_true (Y.chk 11 (b := decide (PySem.W.subIn K (.type "int") (.ref (He.ga K "Ratio")) = some false)) rfl))⟩
theorem own_sub (Y : HY K T h mg) : OwnBin K (aR K) .Sub (He.ma K (aR K) "__sub__") := ⟨by exact (He.meth_ok (Y.D.fact 50 (f := .meth "Ratio" "__sub__") rfl)), by exact (He.eqO_ok (Y.chk 8 (b := He.eqO (PySem.W.findIn K (.ref (He.ga K "Ratio")) "__rsub__") (some none)) rfl)), mro_ok (Y.chk 10 (b := mroB K (He.ga K "Ratio")) rfl), (of_decide_eq_true (Y.chk 11 (b := decide (PySem.W.subIn K (.type "int") (.ref (He.ga K "Ratio")) = some false)) rfl))⟩
theorem own_mul (Y : HY K T h mg) : OwnBin K (aR K) .Mult (He.ma K (aR K) "__mul__") := ⟨by exact (He.meth_ok (Y.D.fact 51 (f := .meth "Ratio" "__mul__") rfl)), by exact (He.eqO_ok (Y.chk 9 (b := He.eqO (PySem.W.findIn K (.ref (He.ga K "Ratio")) "__rmul__") (some none)) rfl)), mro_ok (Y.chk 10 (b := mroB K (He.ga K "Ratio")) rfl), (of_decide_eq_true (Y.chk 11 (b := decide (PySem.W.subIn K (.type "int") (.ref (He.ga K "Ratio")) = some false)) rfl))⟩
theorem creadR (Y : HY K T h mg) : ClX.CRead K (aR K) (.type "type") := ⟨(Y.chk 18 (b := PySem.W.readsIn K (He.ga K "Ratio") (.type "type")) rfl), (He.eqO_ok (Y.chk 19 (b := He.eqO (PySem.W.specialIn K (.ref (He.ga K "Ratio")) "__getattribute__") (some (some (.builtin "type.__getattribute__")))) rfl))⟩
theorem d_is_integer (Y : HY K T h mg) : ∃ fd, FunD K "is_integer" "is_integer" (defArgs (tp 7)) (defBody (tp 7)) (defScope (tp 7)) [] [] (He.ga K "is_integer") fd ∧ Binds K fd ["value"] [] := by
  obtain ⟨fd, F⟩ : ∃ fd, FunD K "is_integer" "is_integer" (defArgs (tp 7)) (defBody (tp 7)) (defScope (tp 7)) [] [] (He.ga K "is_integer") fd := Y.D.def_ 1 rfl
  exact ⟨fd, F, F.bindsN fun _ _ _ _ _ _ us hl => match us, hl with | [_], _ => rfl⟩
theorem d_is_number (Y : HY K T h mg) : ∃ fd, FunD K "is_number" "is_number" (defArgs (tp 9)) (defBody (tp 9)) (defScope (tp 9)) [] [] (He.ga K "is_number") fd ∧ Binds K fd ["value"] [] := by
  obtain ⟨fd, F⟩ : ∃ fd, FunD K "is_number" "is_number" (defArgs (tp 9)) (defBody (tp 9)) (defScope (tp 9)) [] [] (He.ga K "is_number") fd := Y.D.def_ 2 rfl
  exact ⟨fd, F, F.bindsN fun _ _ _ _ _ _ us hl => match us, hl with | [_], _ => rfl⟩
theorem d__ratios_of (Y : HY K T h mg) : ∃ fd, FunD K "_ratios_of" "_ratios_of" (defArgs (tp 11)) (defBody (tp 11)) (defScope (tp 11)) [] [] (He.ga K "_ratios_of") fd ∧ Binds K fd ["numbers"] [] := by
  obtain ⟨fd, F⟩ : ∃ fd, FunD K "_ratios_of" "_ratios_of" (defArgs (tp 11)) (defBody (tp 11)) (defScope (tp 11)) [] [] (He.ga K "_ratios_of") fd := Y.D.def_ 13 rfl
  exact ⟨fd, F, F.bindsN fun _ _ _ _ _ _ us hl => match us, hl with | [_], _ => rfl⟩
theorem d__law_rng (Y : HY K T h mg) : ∃ fd, FunD K "_law_rng" "_law_rng" (defArgs (tp 13)) (defBody (tp 13)) (defScope (tp 13)) [] [] (He.ga K "_law_rng") fd ∧ Binds K fd ["_law_script", "_law_spot"] [] := by
  obtain ⟨fd, F⟩ : ∃ fd, FunD K "_law_rng" "_law_rng" (defArgs (tp 13)) (defBody (tp 13)) (defScope (tp 13)) [] [] (He.ga K "_law_rng") fd := Y.D.def_ 14 rfl
  exact ⟨fd, F, F.bindsN fun _ _ _ _ _ _ us hl => match us, hl with | [_, _], _ => rfl⟩
theorem d__law_draw (Y : HY K T h mg) : ∃ fd, FunD K "_law_draw" "_law_draw" (defArgs (tp 14)) (defBody (tp 14)) (defScope (tp 14)) [] [] (He.ga K "_law_draw") fd ∧ Binds K fd ["_law_rng_here", "_law_many"] [] := by
  obtain ⟨fd, F⟩ : ∃ fd, FunD K "_law_draw" "_law_draw" (defArgs (tp 14)) (defBody (tp 14)) (defScope (tp 14)) [] [] (He.ga K "_law_draw") fd := Y.D.def_ 15 rfl
  exact ⟨fd, F, F.bindsN fun _ _ _ _ _ _ us hl => match us, hl with | [_, _], _ => rfl⟩
theorem d__law_choice (Y : HY K T h mg) : ∃ fd, FunD K "_law_choice" "_law_choice" (defArgs (tp 15)) (defBody (tp 15)) (defScope (tp 15)) [] [] (He.ga K "_law_choice") fd ∧ Binds K fd ["_law_rng_here", "_law_some"] [] := by
  obtain ⟨fd, F⟩ : ∃ fd, FunD K "_law_choice" "_law_choice" (defArgs (tp 15)) (defBody (tp 15)) (defScope (tp 15)) [] [] (He.ga K "_law_choice") fd := Y.D.def_ 16 rfl
  exact ⟨fd, F, F.bindsN fun _ _ _ _ _ _ us hl => match us, hl with | [_, _], _ => rfl⟩
theorem d__law_plain (Y : HY K T h mg) : ∃ fd, FunD K "_law_plain" "_law_plain" (defArgs (tp 16)) (defBody (tp 16)) (defScope (tp 16)) [] [] (He.ga K "_law_plain") fd ∧ Binds K fd ["_law_top", "_law_bottom"] [] := by
  obtain ⟨fd, F⟩ : ∃ fd, FunD K "_law_plain" "_law_plain" (defArgs (tp 16)) (defBody (tp 16)) (defScope (tp 16)) [] [] (He.ga K "_law_plain") fd := Y.D.def_ 17 rfl
  exact ⟨fd, F, F.bindsN fun _ _ _ _ _ _ us hl => match us, hl with | [_, _], _ => rfl⟩
theorem d__law_sum (Y : HY K T h mg) : ∃ fd, FunD K "_law_sum" "_law_sum" (defArgs (tp 17)) (defBody (tp 17)) (defScope (tp 17)) [] [] (He.ga K "_law_sum") fd ∧ Binds K fd ["_law_near", "_law_far"] [] := by
  obtain ⟨fd, F⟩ : ∃ fd, FunD K "_law_sum" "_law_sum" (defArgs (tp 17)) (defBody (tp 17)) (defScope (tp 17)) [] [] (He.ga K "_law_sum") fd := Y.D.def_ 18 rfl
  exact ⟨fd, F, F.bindsN fun _ _ _ _ _ _ us hl => match us, hl with | [_, _], _ => rfl⟩
theorem d__law_less (Y : HY K T h mg) : ∃ fd, FunD K "_law_less" "_law_less" (defArgs (tp 18)) (defBody (tp 18)) (defScope (tp 18)) [] [] (He.ga K "_law_less") fd ∧ Binds K fd ["_law_near", "_law_far"] [] := by
  obtain ⟨fd, F⟩ : ∃ fd, FunD K "_law_less" "_law_less" (defArgs (tp 18)) (defBody (tp 18)) (defScope (tp 18)) [] [] (He.ga K "_law_less") fd := Y.D.def_ 19 rfl
  exact ⟨fd, F, F.bindsN fun _ _ _ _ _ _ us hl => match us, hl with | [_, _], _ => rfl⟩
theorem d__law_fraction (Y : HY K T h mg) : ∃ fd, FunD K "_law_fraction" "_law_fraction" (defArgs (tp 19)) (defBody (tp 19)) (defScope (tp 19)) [] [] (He.ga K "_law_fraction") fd ∧ Binds K fd ["_law_rng_here"] [] := by
  obtain ⟨fd, F⟩ : ∃ fd, FunD K "_law_fraction" "_law_fraction" (defArgs (tp 19)) (defBody (tp 19)) (defScope (tp 19)) [] [] (He.ga K "_law_fraction") fd := Y.D.def_ 20 rfl
  exact ⟨fd, F, F.bindsN fun _ _ _ _ _ _ us hl => match us, hl with | [_], _ => rfl⟩
theorem d__law_real (Y : HY K T h mg) : ∃ fd, FunD K "_law_real" "_law_real" (defArgs (tp 20)) (defBody (tp 20)) (defScope (tp 20)) [] [] (He.ga K "_law_real") fd ∧ Binds K fd ["_law_rng_here", "_law_part"] [] := by
  obtain ⟨fd, F⟩ : ∃ fd, FunD K "_law_real" "_law_real" (defArgs (tp 20)) (defBody (tp 20)) (defScope (tp 20)) [] [] (He.ga K "_law_real") fd := Y.D.def_ 21 rfl
  exact ⟨fd, F, F.bindsN fun _ _ _ _ _ _ us hl => match us, hl with | [_, _], _ => rfl⟩
theorem d__law_is (Y : HY K T h mg) : ∃ fd, FunD K "_law_is" "_law_is" (defArgs (tp 21)) (defBody (tp 21)) (defScope (tp 21)) [] [] (He.ga K "_law_is") fd ∧ Binds K fd ["_law_made_here", "_law_part"] [] := by
  obtain ⟨fd, F⟩ : ∃ fd, FunD K "_law_is" "_law_is" (defArgs (tp 21)) (defBody (tp 21)) (defScope (tp 21)) [] [] (He.ga K "_law_is") fd := Y.D.def_ 22 rfl
  exact ⟨fd, F, F.bindsN fun _ _ _ _ _ _ us hl => match us, hl with | [_, _], _ => rfl⟩
theorem d__law_told (Y : HY K T h mg) : ∃ fd, FunD K "_law_told" "_law_told" (defArgs (tp 22)) (defBody (tp 22)) (defScope (tp 22)) [] [] (He.ga K "_law_told") fd ∧ Binds K fd ["_law_call"] [] := by
  obtain ⟨fd, F⟩ : ∃ fd, FunD K "_law_told" "_law_told" (defArgs (tp 22)) (defBody (tp 22)) (defScope (tp 22)) [] [] (He.ga K "_law_told") fd := Y.D.def_ 23 rfl
  exact ⟨fd, F, F.bindsN fun _ _ _ _ _ _ us hl => match us, hl with | [_], _ => rfl⟩
theorem d__law_text (Y : HY K T h mg) : ∃ fd, FunD K "_law_text" "_law_text" (defArgs (tp 23)) (defBody (tp 23)) (defScope (tp 23)) [] [] (He.ga K "_law_text") fd ∧ Binds K fd ["_law_part"] [] := by
  obtain ⟨fd, F⟩ : ∃ fd, FunD K "_law_text" "_law_text" (defArgs (tp 23)) (defBody (tp 23)) (defScope (tp 23)) [] [] (He.ga K "_law_text") fd := Y.D.def_ 24 rfl
  exact ⟨fd, F, F.bindsN fun _ _ _ _ _ _ us hl => match us, hl with | [_], _ => rfl⟩
theorem d__law_made (Y : HY K T h mg) : ∃ fd, FunD K "_law_made" "_law_made" (defArgs (tp 24)) (defBody (tp 24)) (defScope (tp 24)) [] [] (He.ga K "_law_made") fd ∧ Binds K fd ["_law_rng_here", "_law_part"] [] := by
  obtain ⟨fd, F⟩ : ∃ fd, FunD K "_law_made" "_law_made" (defArgs (tp 24)) (defBody (tp 24)) (defScope (tp 24)) [] [] (He.ga K "_law_made") fd := Y.D.def_ 25 rfl
  exact ⟨fd, F, F.bindsN fun _ _ _ _ _ _ us hl => match us, hl with | [_, _], _ => rfl⟩
theorem d__law_alone_right (Y : HY K T h mg) : ∃ fd, FunD K "_law_alone_right" "_law_alone_right" (defArgs (tp 25)) (defBody (tp 25)) (defScope (tp 25)) [] [] (He.ga K "_law_alone_right") fd ∧ Binds K fd ["_law_rng_here", "_law_part"] [] := by
  obtain ⟨fd, F⟩ : ∃ fd, FunD K "_law_alone_right" "_law_alone_right" (defArgs (tp 25)) (defBody (tp 25)) (defScope (tp 25)) [] [] (He.ga K "_law_alone_right") fd := Y.D.def_ 26 rfl
  exact ⟨fd, F, F.bindsN fun _ _ _ _ _ _ us hl => match us, hl with | [_, _], _ => rfl⟩
theorem d__law_pair_right (Y : HY K T h mg) : ∃ fd, FunD K "_law_pair_right" "_law_pair_right" (defArgs (tp 26)) (defBody (tp 26)) (defScope (tp 26)) [] [] (He.ga K "_law_pair_right") fd ∧ Binds K fd ["_law_rng_here", "_law_near", "_law_far"] [] := by
  obtain ⟨fd, F⟩ : ∃ fd, FunD K "_law_pair_right" "_law_pair_right" (defArgs (tp 26)) (defBody (tp 26)) (defScope (tp 26)) [] [] (He.ga K "_law_pair_right") fd := Y.D.def_ 27 rfl
  exact ⟨fd, F, F.bindsN fun _ _ _ _ _ _ us hl => match us, hl with | [_, _, _], _ => rfl⟩
theorem d__law_several_right (Y : HY K T h mg) : ∃ fd, FunD K "_law_several_right" "_law_several_right" (defArgs (tp 27)) (defBody (tp 27)) (defScope (tp 27)) [] [] (He.ga K "_law_several_right") fd ∧ Binds K fd ["_law_rng_here", "_law_parts"] [] := by
  obtain ⟨fd, F⟩ : ∃ fd, FunD K "_law_several_right" "_law_several_right" (defArgs (tp 27)) (defBody (tp 27)) (defScope (tp 27)) [] [] (He.ga K "_law_several_right") fd := Y.D.def_ 28 rfl
  exact ⟨fd, F, F.bindsN fun _ _ _ _ _ _ us hl => match us, hl with | [_, _], _ => rfl⟩
theorem d__law_near_right (Y : HY K T h mg) : ∃ fd, FunD K "_law_near_right" "_law_near_right" (defArgs (tp 28)) (defBody (tp 28)) (defScope (tp 28)) [] [] (He.ga K "_law_near_right") fd ∧ Binds K fd ["_law_rng_here", "_law_part", "_law_made_here"] [] := by
  obtain ⟨fd, F⟩ : ∃ fd, FunD K "_law_near_right" "_law_near_right" (defArgs (tp 28)) (defBody (tp 28)) (defScope (tp 28)) [] [] (He.ga K "_law_near_right") fd := Y.D.def_ 29 rfl
  exact ⟨fd, F, F.bindsN fun _ _ _ _ _ _ us hl => match us, hl with | [_, _, _], _ => rfl⟩
theorem d__law_refused_right (Y : HY K T h mg) : ∃ fd, FunD K "_law_refused_right" "_law_refused_right" (defArgs (tp 29)) (defBody (tp 29)) (defScope (tp 29)) [] [] (He.ga K "_law_refused_right") fd ∧ Binds K fd ["_law_rng_here", "_law_part"] [] := by
  obtain ⟨fd, F⟩ : ∃ fd, FunD K "_law_refused_right" "_law_refused_right" (defArgs (tp 29)) (defBody (tp 29)) (defScope (tp 29)) [] [] (He.ga K "_law_refused_right") fd := Y.D.def_ 30 rfl
  exact ⟨fd, F, F.bindsN fun _ _ _ _ _ _ us hl => match us, hl with | [_, _], _ => rfl⟩
theorem d__law_right (Y : HY K T h mg) : ∃ fd, FunD K "_law_right" "_law_right" (defArgs (tp 30)) (defBody (tp 30)) (defScope (tp 30)) [] [] (He.ga K "_law_right") fd ∧ Binds K fd ["_law_rng_here"] [] := by
  obtain ⟨fd, F⟩ : ∃ fd, FunD K "_law_right" "_law_right" (defArgs (tp 30)) (defBody (tp 30)) (defScope (tp 30)) [] [] (He.ga K "_law_right") fd := Y.D.def_ 31 rfl
  exact ⟨fd, F, F.bindsN fun _ _ _ _ _ _ us hl => match us, hl with | [_], _ => rfl⟩
theorem d_law (Y : HY K T h mg) : ∃ fd, FunD K "law" "law" (defArgs (tp 31)) (defBody (tp 31)) (defScope (tp 31)) [] [] (He.ga K "law") fd ∧ Binds K fd ["_law_script"] [] := by
  obtain ⟨fd, F⟩ : ∃ fd, FunD K "law" "law" (defArgs (tp 31)) (defBody (tp 31)) (defScope (tp 31)) [] [] (He.ga K "law") fd := Y.D.def_ 32 rfl
  exact ⟨fd, F, F.bindsN fun _ _ _ _ _ _ us hl => match us, hl with | [_], _ => rfl⟩
theorem d_InvalidNumber_init (Y : HY K T h mg) : ∃ fd, FunD K "__init__" "InvalidNumber.__init__" (defArgs (inClass (tp 3) 0)) (defBody (inClass (tp 3) 0)) (defScope (inClass (tp 3) 0)) [] [] (He.ma K (aIN K) "__init__") fd ∧ Binds K fd ["self", "value"] [] := by
  obtain ⟨fd, F⟩ : ∃ fd, FunD K "__init__" "InvalidNumber.__init__" (defArgs (inClass (tp 3) 0)) (defBody (inClass (tp 3) 0)) (defScope (inClass (tp 3) 0)) [] [] (He.ma K (aIN K) "__init__") fd := Y.D.def_ 0 rfl
  exact ⟨fd, F, F.bindsN fun _ _ _ _ _ _ us hl => match us, hl with | [_, _], _ => rfl⟩
theorem d_Ratio_init (Y : HY K T h mg) : ∃ fd, FunD K "__init__" "Ratio.__init__" (defArgs (sRatio 0)) (defBody (sRatio 0)) (defScope (sRatio 0)) [.int 1] [] (He.ma K (aR K) "__init__") fd := Y.D.def_ 3 rfl
theorem d_Ratio_is_below (Y : HY K T h mg) : ∃ fd, FunD K "is_below" "Ratio.is_below" (defArgs (sRatio 7)) (defBody (sRatio 7)) (defScope (sRatio 7)) [] [] (He.ma K (aR K) "is_below") fd ∧ Binds K fd ["self", "other"] [] := by
  obtain ⟨fd, F⟩ : ∃ fd, FunD K "is_below" "Ratio.is_below" (defArgs (sRatio 7)) (defBody (sRatio 7)) (defScope (sRatio 7)) [] [] (He.ma K (aR K) "is_below") fd := Y.D.def_ 4 rfl
  exact ⟨fd, F, F.bindsN fun _ _ _ _ _ _ us hl => match us, hl with | [_, _], _ => rfl⟩
theorem d_Ratio_over (Y : HY K T h mg) : ∃ fd, FunD K "over" "Ratio.over" (defArgs (sRatio 8)) (defBody (sRatio 8)) (defScope (sRatio 8)) [] [] (He.ma K (aR K) "over") fd ∧ Binds K fd ["self", "other"] [] := by
  obtain ⟨fd, F⟩ : ∃ fd, FunD K "over" "Ratio.over" (defArgs (sRatio 8)) (defBody (sRatio 8)) (defScope (sRatio 8)) [] [] (He.ma K (aR K) "over") fd := Y.D.def_ 5 rfl
  exact ⟨fd, F, F.bindsN fun _ _ _ _ _ _ us hl => match us, hl with | [_, _], _ => rfl⟩
theorem d_Ratio_add (Y : HY K T h mg) : ∃ fd, FunD K "__add__" "Ratio.__add__" (defArgs (sRatio 9)) (defBody (sRatio 9)) (defScope (sRatio 9)) [] [] (He.ma K (aR K) "__add__") fd ∧ Binds K fd ["self", "other"] [] := by
  obtain ⟨fd, F⟩ : ∃ fd, FunD K "__add__" "Ratio.__add__" (defArgs (sRatio 9)) (defBody (sRatio 9)) (defScope (sRatio 9)) [] [] (He.ma K (aR K) "__add__") fd := Y.D.def_ 6 rfl
  exact ⟨fd, F, F.bindsN fun _ _ _ _ _ _ us hl => match us, hl with | [_, _], _ => rfl⟩
theorem d_Ratio_sub (Y : HY K T h mg) : ∃ fd, FunD K "__sub__" "Ratio.__sub__" (defArgs (sRatio 10)) (defBody (sRatio 10)) (defScope (sRatio 10)) [] [] (He.ma K (aR K) "__sub__") fd ∧ Binds K fd ["self", "other"] [] := by
  obtain ⟨fd, F⟩ : ∃ fd, FunD K "__sub__" "Ratio.__sub__" (defArgs (sRatio 10)) (defBody (sRatio 10)) (defScope (sRatio 10)) [] [] (He.ma K (aR K) "__sub__") fd := Y.D.def_ 7 rfl
  exact ⟨fd, F, F.bindsN fun _ _ _ _ _ _ us hl => match us, hl with | [_, _], _ => rfl⟩
theorem d_Ratio_mul (Y : HY K T h mg) : ∃ fd, FunD K "__mul__" "Ratio.__mul__" (defArgs (sRatio 11)) (defBody (sRatio 11)) (defScope (sRatio 11)) [] [] (He.ma K (aR K) "__mul__") fd ∧ Binds K fd ["self", "other"] [] := by
  obtain ⟨fd, F⟩ : ∃ fd, FunD K "__mul__" "Ratio.__mul__" (defArgs (sRatio 11)) (defBody (sRatio 11)) (defScope (sRatio 11)) [] [] (He.ma K (aR K) "__mul__") fd := Y.D.def_ 8 rfl
  exact ⟨fd, F, F.bindsN fun _ _ _ _ _ _ us hl => match us, hl with | [_, _], _ => rfl⟩
theorem d_Ratio_neg (Y : HY K T h mg) : ∃ fd, FunD K "__neg__" "Ratio.__neg__" (defArgs (sRatio 12)) (defBody (sRatio 12)) (defScope (sRatio 12)) [] [] (He.ma K (aR K) "__neg__") fd ∧ Binds K fd ["self"] [] := by
  obtain ⟨fd, F⟩ : ∃ fd, FunD K "__neg__" "Ratio.__neg__" (defArgs (sRatio 12)) (defBody (sRatio 12)) (defScope (sRatio 12)) [] [] (He.ma K (aR K) "__neg__") fd := Y.D.def_ 9 rfl
  exact ⟨fd, F, F.bindsN fun _ _ _ _ _ _ us hl => match us, hl with | [_], _ => rfl⟩
theorem d_Ratio_eq (Y : HY K T h mg) : ∃ fd, FunD K "__eq__" "Ratio.__eq__" (defArgs (sRatio 13)) (defBody (sRatio 13)) (defScope (sRatio 13)) [] [] (He.ma K (aR K) "__eq__") fd ∧ Binds K fd ["self", "other"] [] := by
  obtain ⟨fd, F⟩ : ∃ fd, FunD K "__eq__" "Ratio.__eq__" (defArgs (sRatio 13)) (defBody (sRatio 13)) (defScope (sRatio 13)) [] [] (He.ma K (aR K) "__eq__") fd := Y.D.def_ 10 rfl
  exact ⟨fd, F, F.bindsN fun _ _ _ _ _ _ us hl => match us, hl with | [_, _], _ => rfl⟩
theorem d_Ratio_str (Y : HY K T h mg) : ∃ fd, FunD K "__str__" "Ratio.__str__" (defArgs (sRatio 14)) (defBody (sRatio 14)) (defScope (sRatio 14)) [] [] (He.ma K (aR K) "__str__") fd ∧ Binds K fd ["self"] [] := by
  obtain ⟨fd, F⟩ : ∃ fd, FunD K "__str__" "Ratio.__str__" (defArgs (sRatio 14)) (defBody (sRatio 14)) (defScope (sRatio 14)) [] [] (He.ma K (aR K) "__str__") fd := Y.D.def_ 11 rfl
  exact ⟨fd, F, F.bindsN fun _ _ _ _ _ _ us hl => match us, hl with | [_], _ => rfl⟩
theorem d_Ratio_repr (Y : HY K T h mg) : ∃ fd, FunD K "__repr__" "Ratio.__repr__" (defArgs (sRatio 15)) (defBody (sRatio 15)) (defScope (sRatio 15)) [] [] (He.ma K (aR K) "__repr__") fd ∧ Binds K fd ["self"] [] := by
  obtain ⟨fd, F⟩ : ∃ fd, FunD K "__repr__" "Ratio.__repr__" (defArgs (sRatio 15)) (defBody (sRatio 15)) (defScope (sRatio 15)) [] [] (He.ma K (aR K) "__repr__") fd := Y.D.def_ 12 rfl
  exact ⟨fd, F, F.bindsN fun _ _ _ _ _ _ us hl => match us, hl with | [_], _ => rfl⟩
theorem d_Ratio_of (Y : HY K T h mg) : ∃ fd, FunD K "of" "Ratio.of" (defArgs (sRatio 1)) (defBody (sRatio 1)) (defScope (sRatio 1)) [] [] (wrapAt K (aR K) "of" "classmethod") fd ∧ Binds K fd ["cls", "number"] [] := by
  obtain ⟨fd, F⟩ : ∃ fd, FunD K "of" "Ratio.of" (defArgs (sRatio 1)) (defBody (sRatio 1)) (defScope (sRatio 1)) [] [] (wrapAt K (aR K) "of" "classmethod") fd := Y.Dx.def_ 0 rfl
  exact ⟨fd, F, F.bindsN fun _ _ _ _ _ _ us hl => match us, hl with | [_, _], _ => rfl⟩
theorem d_Ratio_least (Y : HY K T h mg) : ∃ fd, FunD K "least" "Ratio.least" (defArgs (sRatio 2)) (defBody (sRatio 2)) (defScope (sRatio 2)) [] [] (wrapAt K (aR K) "least" "classmethod") fd := Y.Dx.def_ 1 rfl
theorem d_Ratio_greatest (Y : HY K T h mg) : ∃ fd, FunD K "greatest" "Ratio.greatest" (defArgs (sRatio 3)) (defBody (sRatio 3)) (defScope (sRatio 3)) [] [] (wrapAt K (aR K) "greatest" "classmethod") fd := Y.Dx.def_ 2 rfl
theorem d_Ratio_top (Y : HY K T h mg) : ∃ fd, FunD K "top" "Ratio.top" (defArgs (sRatio 4)) (defBody (sRatio 4)) (defScope (sRatio 4)) [] [] (wrapAt K (aR K) "top" "property") fd ∧ Binds K fd ["self"] [] := by
  obtain ⟨fd, F⟩ : ∃ fd, FunD K "top" "Ratio.top" (defArgs (sRatio 4)) (defBody (sRatio 4)) (defScope (sRatio 4)) [] [] (wrapAt K (aR K) "top" "property") fd := Y.Dx.def_ 3 rfl
  exact ⟨fd, F, F.bindsN fun _ _ _ _ _ _ us hl => match us, hl with | [_], _ => rfl⟩
theorem d_Ratio_bottom (Y : HY K T h mg) : ∃ fd, FunD K "bottom" "Ratio.bottom" (defArgs (sRatio 5)) (defBody (sRatio 5)) (defScope (sRatio 5)) [] [] (wrapAt K (aR K) "bottom" "property") fd ∧ Binds K fd ["self"] [] := by
  obtain ⟨fd, F⟩ : ∃ fd, FunD K "bottom" "Ratio.bottom" (defArgs (sRatio 5)) (defBody (sRatio 5)) (defScope (sRatio 5)) [] [] (wrapAt K (aR K) "bottom" "property") fd := Y.Dx.def_ 4 rfl
  exact ⟨fd, F, F.bindsN fun _ _ _ _ _ _ us hl => match us, hl with | [_], _ => rfl⟩
theorem d_Ratio_sign (Y : HY K T h mg) : ∃ fd, FunD K "sign" "Ratio.sign" (defArgs (sRatio 6)) (defBody (sRatio 6)) (defScope (sRatio 6)) [] [] (wrapAt K (aR K) "sign" "property") fd ∧ Binds K fd ["self"] [] := by
  obtain ⟨fd, F⟩ : ∃ fd, FunD K "sign" "Ratio.sign" (defArgs (sRatio 6)) (defBody (sRatio 6)) (defScope (sRatio 6)) [] [] (wrapAt K (aR K) "sign" "property") fd := Y.Dx.def_ 5 rfl
  exact ⟨fd, F, F.bindsN fun _ _ _ _ _ _ us hl => match us, hl with | [_], _ => rfl⟩
end
end K18
set_option maxHeartbeats 0
namespace K18
open PySem PySem.Spec PyProof.Rows L2 GL
theorem facts {P : Program} {w : World} {K T : PySem.W.Frag} {h : Heap} {mg : Str → Option Value} {f : Addr} (Y : HY K T h mg) (hfa : mg ("law" : Str) = some (.ref f)) :
    ∃ fd : FuncData, (∀ (s : Shared) (v : Value), BindsTo s fd ⟨[v], []⟩ [("_law_script", v)]) ∧ ∀ base : Heap, K.In base → base.Ns mainGlobals mg → (∀ x ∈ (lamF K).map (fun f => (codeAt K f, tabAt K (codeAt K f))), LamX.TabB base mg x.1 x.2) →
      FnG P w K mg base CX0 12 f fd ["_law_script"] (spLaw K (tabAt K (codeAt K (He.ga K "_law_pair_right"))) (tabAt K (codeAt K (He.ga K "_law_refused_right")))) := by
  have T_ := rf Y
  have FR := free_ Y
  have ZE := ef Y
  have NN := na Y
  have tabs := List.all_eq_true.mp Y.tab
  obtain ⟨td1, td2⟩ := He.ba (tabs (He.ga K "_law_pair_right") List.mem_cons_self)
  obtain ⟨_, _, hcodeD⟩ := codeB_ok Y.X td1
  obtain ⟨tr1, tr2⟩ := He.ba (tabs (He.ga K "_law_refused_right") (List.mem_cons_of_mem _ List.mem_cons_self))
  obtain ⟨_, _, hcodeR⟩ := codeB_ok Y.X tr1
  obtain ⟨fd_is_integer, D_is_integer, b_is_integer⟩ := d_is_integer Y
  have F_is_integer := fun_of (st := tp 7) D_is_integer
  have g_is_integer : mg "is_integer" = some (.ref (He.ga K "is_integer")) := (He.glo_ok Y.X Y.G (Y.D.fact 3 (f := .glo "is_integer") rfl))
  obtain ⟨fd_is_number, D_is_number, b_is_number⟩ := d_is_number Y
  have F_is_number := fun_of (st := tp 9) D_is_number
  have g_is_number : mg "is_number" = some (.ref (He.ga K "is_number")) := (He.glo_ok Y.X Y.G (Y.D.fact 4 (f := .glo "is_number") rfl))
  obtain ⟨fd_ratios_of, D_ratios_of, b_ratios_of⟩ := d__ratios_of Y
  have F_ratios_of := fun_of (st := tp 11) D_ratios_of
  have g_ratios_of : mg "_ratios_of" = some (.ref (He.ga K "_ratios_of")) := (He.glo_ok Y.X Y.G (Y.D.fact 6 (f := .glo "_ratios_of") rfl))
  obtain ⟨fd_lrng, D_lrng, b_lrng⟩ := d__law_rng Y
  have F_lrng := fun_of (st := tp 13) D_lrng
  have g_lrng : mg "_law_rng" = some (.ref (He.ga K "_law_rng")) := (He.glo_ok Y.X Y.G (Y.D.fact 7 (f := .glo "_law_rng") rfl))
  obtain ⟨fd_ldraw, D_ldraw, b_ldraw⟩ := d__law_draw Y
  have F_ldraw := fun_of (st := tp 14) D_ldraw
  have g_ldraw : mg "_law_draw" = some (.ref (He.ga K "_law_draw")) := (He.glo_ok Y.X Y.G (Y.D.fact 8 (f := .glo "_law_draw") rfl))
  obtain ⟨fd_lchoice, D_lchoice, b_lchoice⟩ := d__law_choice Y
  have F_lchoice := fun_of (st := tp 15) D_lchoice
  have g_lchoice : mg "_law_choice" = some (.ref (He.ga K "_law_choice")) := (He.glo_ok Y.X Y.G (Y.D.fact 9 (f := .glo "_law_choice") rfl))
  obtain ⟨fd_lplain, D_lplain, b_lplain⟩ := d__law_plain Y
  have F_lplain := fun_of (st := tp 16) D_lplain
  have g_lplain : mg "_law_plain" = some (.ref (He.ga K "_law_plain")) := (He.glo_ok Y.X Y.G (Y.D.fact 10 (f := .glo "_law_plain") rfl))
  obtain ⟨fd_lsum, D_lsum, b_lsum⟩ := d__law_sum Y
  have F_lsum := fun_of (st := tp 17) D_lsum
  have g_lsum : mg "_law_sum" = some (.ref (He.ga K "_law_sum")) := (He.glo_ok Y.X Y.G (Y.D.fact 11 (f := .glo "_law_sum") rfl))
  obtain ⟨fd_lless, D_lless, b_lless⟩ := d__law_less Y
  have F_lless := fun_of (st := tp 18) D_lless
  have g_lless : mg "_law_less" = some (.ref (He.ga K "_law_less")) := (He.glo_ok Y.X Y.G (Y.D.fact 12 (f := .glo "_law_less") rfl))
  obtain ⟨fd_lfraction, D_lfraction, b_lfraction⟩ := d__law_fraction Y
  have F_lfraction := fun_of (st := tp 19) D_lfraction
  have g_lfraction : mg "_law_fraction" = some (.ref (He.ga K "_law_fraction")) := (He.glo_ok Y.X Y.G (Y.D.fact 13 (f := .glo "_law_fraction") rfl))
  obtain ⟨fd_lreal, D_lreal, b_lreal⟩ := d__law_real Y
  have F_lreal := fun_of (st := tp 20) D_lreal
  have g_lreal : mg "_law_real" = some (.ref (He.ga K "_law_real")) := (He.glo_ok Y.X Y.G (Y.D.fact 14 (f := .glo "_law_real") rfl))
  obtain ⟨fd_lis, D_lis, b_lis⟩ := d__law_is Y
  have F_lis := fun_of (st := tp 21) D_lis
  have g_lis : mg "_law_is" = some (.ref (He.ga K "_law_is")) := (He.glo_ok Y.X Y.G (Y.D.fact 15 (f := .glo "_law_is") rfl))
  obtain ⟨fd_ltold, D_ltold, b_ltold⟩ := d__law_told Y
  have F_ltold := fun_of (st := tp 22) D_ltold
  have g_ltold : mg "_law_told" = some (.ref (He.ga K "_law_told")) := (He.glo_ok Y.X Y.G (Y.D.fact 16 (f := .glo "_law_told") rfl))
  obtain ⟨fd_ltext, D_ltext, b_ltext⟩ := d__law_text Y
  have F_ltext := fun_of (st := tp 23) D_ltext
  have g_ltext : mg "_law_text" = some (.ref (He.ga K "_law_text")) := (He.glo_ok Y.X Y.G (Y.D.fact 17 (f := .glo "_law_text") rfl))
  obtain ⟨fd_lmade, D_lmade, b_lmade⟩ := d__law_made Y
  have F_lmade := fun_of (st := tp 24) D_lmade
  have g_lmade : mg "_law_made" = some (.ref (He.ga K "_law_made")) := (He.glo_ok Y.X Y.G (Y.D.fact 18 (f := .glo "_law_made") rfl))
  obtain ⟨fd_lalone_right, D_lalone_right, b_lalone_right⟩ := d__law_alone_right Y
  have F_lalone_right := fun_of (st := tp 25) D_lalone_right
  have g_lalone_right : mg "_law_alone_right" = some (.ref (He.ga K "_law_alone_right")) := (He.glo_ok Y.X Y.G (Y.D.fact 19 (f := .glo "_law_alone_right") rfl))
  obtain ⟨fd_lpair_right, D_lpair_right, b_lpair_right⟩ := d__law_pair_right Y
  have F_lpair_right := fun_of (st := tp 26) D_lpair_right
  have g_lpair_right : mg "_law_pair_right" = some (.ref (He.ga K "_law_pair_right")) := (He.glo_ok Y.X Y.G (Y.D.fact 20 (f := .glo "_law_pair_right") rfl))
  obtain ⟨fd_lseveral_right, D_lseveral_right, b_lseveral_right⟩ := d__law_several_right Y
  have F_lseveral_right := fun_of (st := tp 27) D_lseveral_right
  have g_lseveral_right : mg "_law_several_right" = some (.ref (He.ga K "_law_several_right")) := (He.glo_ok Y.X Y.G (Y.D.fact 21 (f := .glo "_law_several_right") rfl))
  obtain ⟨fd_lnear_right, D_lnear_right, b_lnear_right⟩ := d__law_near_right Y
  have F_lnear_right := fun_of (st := tp 28) D_lnear_right
  have g_lnear_right : mg "_law_near_right" = some (.ref (He.ga K "_law_near_right")) := (He.glo_ok Y.X Y.G (Y.D.fact 22 (f := .glo "_law_near_right") rfl))
  obtain ⟨fd_lrefused_right, D_lrefused_right, b_lrefused_right⟩ := d__law_refused_right Y
  have F_lrefused_right := fun_of (st := tp 29) D_lrefused_right
  have g_lrefused_right : mg "_law_refused_right" = some (.ref (He.ga K "_law_refused_right")) := (He.glo_ok Y.X Y.G (Y.D.fact 23 (f := .glo "_law_refused_right") rfl))
  obtain ⟨fd_lright, D_lright, b_lright⟩ := d__law_right Y
  have F_lright := fun_of (st := tp 30) D_lright
  have g_lright : mg "_law_right" = some (.ref (He.ga K "_law_right")) := (He.glo_ok Y.X Y.G (Y.D.fact 24 (f := .glo "_law_right") rfl))
  obtain ⟨fd_law, D_law, b_law⟩ := d_law Y
  have F_law := fun_of (st := tp 31) D_law
  have g_law : mg "law" = some (.ref (He.ga K "law")) := (He.glo_ok Y.X Y.G (Y.D.fact 25 (f := .glo "law") rfl))
  obtain ⟨fd_InvalidNumber_init, F_InvalidNumber_init, b_InvalidNumber_init⟩ := d_InvalidNumber_init Y
  obtain ⟨fd_Ratio_init, F_Ratio_init⟩ := d_Ratio_init Y
  obtain ⟨fd_Ratio_is_below, F_Ratio_is_below, b_Ratio_is_below⟩ := d_Ratio_is_below Y
  obtain ⟨fd_Ratio_over, F_Ratio_over, b_Ratio_over⟩ := d_Ratio_over Y
  obtain ⟨fd_Ratio_add, F_Ratio_add, b_Ratio_add⟩ := d_Ratio_add Y
  obtain ⟨fd_Ratio_sub, F_Ratio_sub, b_Ratio_sub⟩ := d_Ratio_sub Y
  obtain ⟨fd_Ratio_mul, F_Ratio_mul, b_Ratio_mul⟩ := d_Ratio_mul Y
  obtain ⟨fd_Ratio_neg, F_Ratio_neg, b_Ratio_neg⟩ := d_Ratio_neg Y
  obtain ⟨fd_Ratio_eq, F_Ratio_eq, b_Ratio_eq⟩ := d_Ratio_eq Y
  obtain ⟨fd_Ratio_str, F_Ratio_str, b_Ratio_str⟩ := d_Ratio_str Y
  obtain ⟨fd_Ratio_repr, F_Ratio_repr, b_Ratio_repr⟩ := d_Ratio_repr Y
  obtain ⟨fd_Ratio_of, F_Ratio_of, b_Ratio_of⟩ := d_Ratio_of Y
  obtain ⟨fd_Ratio_least, F_Ratio_least⟩ := d_Ratio_least Y
  obtain ⟨fd_Ratio_greatest, F_Ratio_greatest⟩ := d_Ratio_greatest Y
  obtain ⟨fd_Ratio_top, F_Ratio_top, b_Ratio_top⟩ := d_Ratio_top Y
  obtain ⟨fd_Ratio_bottom, F_Ratio_bottom, b_Ratio_bottom⟩ := d_Ratio_bottom Y
  obtain ⟨fd_Ratio_sign, F_Ratio_sign, b_Ratio_sign⟩ := d_Ratio_sign Y
  obtain ⟨dI, vI, bI, bI0⟩ := rInit_binds F_Ratio_init
  have e := hfa.symm.trans g_law
  cases e
  have hcR : fd_lrefused_right.code = .ref (codeAt K (He.ga K "_law_refused_right")) := by
    obtain ⟨oc, od, kV, doc, pm, an, cdv, ct, osl, e1, lk, _⟩ := F_lrefused_right.ex
    exact hcodeR _ _ _ _ lk
  have hcP : fd_lpair_right.code = .ref (codeAt K (He.ga K "_law_pair_right")) := by
    obtain ⟨oc, od, kV, doc, pm, an, cdv, ct, osl, e1, lk, _⟩ := F_lpair_right.ex
    exact hcodeD _ _ _ _ lk
  refine ⟨fd_law, fun s v => ?_, fun base _ _ TBs => ?_⟩
  · exact FunD.bindsA (ps := ["_law_script"]) D_law (fun _ _ _ _ _ _ us hl => match us, hl with | [_], _ => rfl) s [v] rfl
  · have OI : FnOk P w K mg base CX0 1 _ fd_is_integer ["value"] (spIsInt K) := ok_isInt F_is_integer T_
    have ORI : FnOk P w K mg base CX0 2 _ fd_Ratio_init ["self", "top", "bottom"] (spRInit K) := ok_rInit F_Ratio_init T_ F_is_integer g_is_integer b_is_integer (PySem.W.mg_of Y.X Y.G (He.eqO_ok (Y.chk 20 (b := He.eqO (PySem.W.nsIn K mainGlobals "gcd") (some (some (.builtin "math.gcd")))) rfl)))
    have G : RG P w K mg base := ⟨T_, (of_decide_eq_true (Y.chk 6 (b := decide (PySem.W.kitOne K (.type "int") (.ref (He.ga K "Ratio")) = some false)) rfl)), ⟨_, _, OI, g_is_integer, b_is_integer, D_is_integer.kp⟩, ⟨_, _, dI, (He.mkr_ok (Y.D.fact 46 (f := .mkr "Ratio") rfl)), ORI, vI, bI, bI0⟩⟩
    have OOf : FnOk P w K mg base CX0 4 _ fd_Ratio_of ["cls", "number"] (spOf K) := ok_of F_Ratio_of G
    have Rh : RH P w K mg base := ⟨G, ⟨_, _, _, creadR Y, cmetB_ok (Y.chk 15 (b := cmetB K (He.ga K "Ratio") (.type "type") "of") rfl), toR OOf b_Ratio_of⟩⟩
    have OBl : FnOk P w K mg base CX0 5 _ fd_Ratio_is_below ["self", "other"] (spBelow K) := ok_below F_Ratio_is_below Rh
    have OOv : FnOk P w K mg base CX0 5 _ fd_Ratio_over ["self", "other"] (spBin K rOver fun _ r => r.num ≠ 0) := ok_over F_Ratio_over Rh
    have OAd : FnOk P w K mg base CX0 5 _ fd_Ratio_add ["self", "other"] (spBin K rAdd fun _ _ => True) := ok_rAdd F_Ratio_add Rh
    have OSb : FnOk P w K mg base CX0 5 _ fd_Ratio_sub ["self", "other"] (spBin K rSub fun _ _ => True) := ok_rSub F_Ratio_sub Rh
    have OMl : FnOk P w K mg base CX0 5 _ fd_Ratio_mul ["self", "other"] (spBin K rMul fun _ _ => True) := ok_rMul F_Ratio_mul Rh
    have OEq : FnOk P w K mg base CX0 1 _ fd_Ratio_eq ["self", "other"] (spREq K) := ok_rEq F_Ratio_eq T_
    have OIn : FnOk P w K mg base CX0 2 _ fd_is_number ["value"] (spIsNum K) := ok_isNum F_is_number T_ F_is_integer g_is_integer b_is_integer (of_decide_eq_true (Y.chk 6 (b := decide (PySem.W.kitOne K (.type "int") (.ref (He.ga K "Ratio")) = some false)) rfl))
    have I : RI P w K mg base := ⟨Rh, ⟨_, _, OIn, g_is_number, b_is_number, D_is_number.kp⟩, ⟨_, _, (He.meth_ok (Y.D.fact 47 (f := .meth "Ratio" "is_below") rfl)), OBl, b_Ratio_is_below⟩, ⟨_, ⟨(He.meth_ok (Y.D.fact 53 (f := .meth "Ratio" "__eq__") rfl)), (He.eqO_ok (Y.chk 4 (b := He.eqO (PySem.W.findIn K (.ref (He.ga K "Ratio")) "__ne__") (some (some (.builtin "object.__ne__")))) rfl)), (of_decide_eq_true (Y.chk 3 (b := decide (PySem.W.mroIn K (He.ga K "Ratio") (.type "object") = some true)) rfl))⟩, toR OEq b_Ratio_eq⟩, FR.len, (He.free_ok Y.X Y.G (Y.D.fact 38 (f := .free "tuple") rfl))⟩
    have ONg : FnOk P w K mg base CX0 4 _ fd_Ratio_neg ["self"] (spNeg K) := ok_rNeg F_Ratio_neg G
    have OSg : FnOk P w K mg base CX0 1 _ fd_Ratio_sign ["self"] (spSign K) := ok_sign F_Ratio_sign T_
    have OStr : FnOk P w K mg base CX0 1 _ fd_Ratio_str ["self"] (spStrQ K) := ok_strQ F_Ratio_str T_ FR.str
    have OTp : FnOk P w K mg base CX0 1 _ fd_Ratio_top ["self"] (fun vs H Q _ => ∃ (a : Addr) (q : Rat), vs = [.ref a] ∧ RatAt K H a q ∧ Q (.int q.num) H) := ok_top F_Ratio_top T_
    have OBt : FnOk P w K mg base CX0 1 _ fd_Ratio_bottom ["self"] (fun vs H Q _ => ∃ (a : Addr) (q : Rat), vs = [.ref a] ∧ RatAt K H a q ∧ Q (.int (q.den : Int)) H) := ok_bottom F_Ratio_bottom T_
    have Rr : RepF P w K mg base := ⟨_, _, (He.meth_ok (Y.D.fact 55 (f := .meth "Ratio" "__repr__") rfl)), ok_repr F_Ratio_repr T_, b_Ratio_repr⟩
    have OOZ : FnOk P w K mg base (L2.CX P w) 5 _ fd_Ratio_over ["self", "other"] (spOverZ K) := ok_rOverZ F_Ratio_over Rh ZE
    have ORs : FnOk P w K mg base CX0 5 _ fd_ratios_of ["numbers"] (spRatios K) := ok_ratios F_ratios_of Rh
    have OLe : FnR P w K mg base CX0 6 _ (spPick K ltL) := ok_least F_Ratio_least I ⟨_, _, ORs, g_ratios_of, b_ratios_of, D_ratios_of.kp⟩
    have OGr : FnR P w K mg base CX0 6 _ (spPick K ltG) := ok_greatest F_Ratio_greatest I ⟨_, _, ORs, g_ratios_of, b_ratios_of, D_ratios_of.kp⟩
    have OEN : FnOk P w K mg base CX0 1 _ fd_InvalidNumber_init ["self", "value"] (spInit (aIN K) ["value"]) := ok_init1 (fun_of (st := inClass (tp 3) 0) F_InvalidNumber_init) ZE.xN ZE.nN rfl ⟨rfl, rfl, rfl, by decide +kernel, rfl, by decide +kernel, by decide +kernel⟩ rfl rfl (by decide) (by decide)
    have EMx : EM P w K mg base := ⟨ZE, ⟨_, _, (He.eqO_ok (Y.chk 23 (b := He.eqO (PySem.W.findIn K (.ref (He.ga K "InvalidNumber")) "__init__") (some (some (.ref (He.ma K (He.ga K "InvalidNumber") "__init__"))))) rfl)), (of_decide_eq_true (Y.chk 24 (b := decide (PySem.W.typeIn K (.ref (He.ma K (He.ga K "InvalidNumber") "__init__")) = some (.type "function"))) rfl)), OEN, b_InvalidNumber_init⟩⟩
    have XRI : FnOk P w K mg base (L2.CX P w) 3 _ fd_Ratio_init ["self", "top", "bottom"] (spRInitX K) := ok_rInitX F_Ratio_init G EMx
    have XRB : FnOk P w K mg base (L2.CX P w) 3 _ fd_Ratio_init ["self", "top", "bottom"] (spRInitB K) := ok_rInitB F_Ratio_init G EMx
    have XOf : FnOk P w K mg base (L2.CX P w) 5 _ fd_Ratio_of ["cls", "number"] (spOfX K) := ok_ofX F_Ratio_of G (He.mkr_ok (Y.D.fact 46 (f := .mkr "Ratio") rfl)) XRI vI bI
    have OX : OfX P w K mg base := ⟨_, _, _, creadR Y, cmetB_ok (Y.chk 15 (b := cmetB K (He.ga K "Ratio") (.type "type") "of") rfl), toR XOf b_Ratio_of⟩
    have XNu : FnOk P w K mg base CX0 2 _ fd_is_number ["value"] (spNumX K) := ok_numX F_is_number G
    have XBl : FnOk P w K mg base (L2.CX P w) 6 _ fd_Ratio_is_below ["self", "other"] (spBinX K) := ok_rBelowX F_Ratio_is_below T_ OX
    have XOv : FnOk P w K mg base (L2.CX P w) 6 _ fd_Ratio_over ["self", "other"] (spBinX K) := ok_rOverX F_Ratio_over T_ OX
    have XAd : FnOk P w K mg base (L2.CX P w) 6 _ fd_Ratio_add ["self", "other"] (spBinX K) := ok_rAddX F_Ratio_add T_ OX
    have XSb : FnOk P w K mg base (L2.CX P w) 6 _ fd_Ratio_sub ["self", "other"] (spBinX K) := ok_rSubX F_Ratio_sub T_ OX
    have XMl : FnOk P w K mg base (L2.CX P w) 6 _ fd_Ratio_mul ["self", "other"] (spBinX K) := ok_rMulX F_Ratio_mul T_ OX
    have OA : OfA P w K mg base := ⟨_, _, _, creadR Y, cmetB_ok (Y.chk 15 (b := cmetB K (He.ga K "Ratio") (.type "type") "of") rfl), FnR.or (FnR.mono (FnR.lift (toR OOf b_Ratio_of)) (by decide)) (toR XOf b_Ratio_of)⟩
    have XRs : FnOk P w K mg base (L2.CX P w) 6 _ fd_ratios_of ["numbers"] (spRatiosX K) := ok_ratiosX F_ratios_of T_ OA EMx
    have XLe : FnR P w K mg base (L2.CX P w) 7 _ (spPickX K) := ok_leastX F_Ratio_least ⟨_, _, XRs, g_ratios_of, b_ratios_of, D_ratios_of.kp⟩
    have XGr : FnR P w K mg base (L2.CX P w) 7 _ (spPickX K) := ok_greatestX F_Ratio_greatest ⟨_, _, XRs, g_ratios_of, b_ratios_of, D_ratios_of.kp⟩
    have Lrng : FnOk P w K mg base CX0 1 _ fd_lrng ["_law_script", "_law_spot"] (spRng K) := ok_rng F_lrng FR
    have Ldraw : FnOk P w K mg base CX0 1 _ fd_ldraw ["_law_rng_here", "_law_many"] spDraw := ok_draw F_ldraw FR
    have Lchoice : FnOk P w K mg base CX0 2 _ fd_lchoice ["_law_rng_here", "_law_some"] (spChoice K) := ok_choice F_lchoice FR F_ldraw g_ldraw b_ldraw
    have Lplain : FnOk P w K mg base CX0 1 _ fd_lplain ["_law_top", "_law_bottom"] (spPlain K) := ok_plain F_lplain FR
    have Da : DA P w K mg base := ⟨FR, ⟨_, _, Ldraw, g_ldraw, b_ldraw, D_ldraw.kp⟩, ⟨_, _, Lchoice, g_lchoice, b_lchoice, D_lchoice.kp⟩, ⟨_, _, Lplain, g_lplain, b_lplain, D_lplain.kp⟩⟩
    have Lsum : FnOk P w K mg base CX0 2 _ fd_lsum ["_law_near", "_law_far"] (spSum K) := ok_sum F_lsum Da
    have Lless : FnOk P w K mg base CX0 1 _ fd_lless ["_law_near", "_law_far"] (spLess K) := ok_less F_lless
    have Lfrac : FnOk P w K mg base CX0 3 _ fd_lfraction ["_law_rng_here"] (spFrac K) := ok_frac F_lfraction Da
    have Lreal : FnOk P w K mg base CX0 4 _ fd_lreal ["_law_rng_here", "_law_part"] (spReal K) := ok_real F_lreal Da G
    have Ltext : FnOk P w K mg base CX0 1 _ fd_ltext ["_law_part"] (spText K) := ok_text F_ltext FR
    have Lmade : FnOk P w K mg base CX0 4 _ fd_lmade ["_law_rng_here", "_law_part"] (spMade K) := ok_made F_lmade Da G
    have Zi : IsF P w K mg base := ⟨I, Da, Y.S, ⟨_, _, _, propB_ok (Y.chk 12 (b := propB K (He.ga K "Ratio") "top") rfl), OTp, b_Ratio_top⟩, ⟨_, _, _, propB_ok (Y.chk 13 (b := propB K (He.ga K "Ratio") "bottom") rfl), OBt, b_Ratio_bottom⟩⟩
    have Lis : FnG P w K mg base CX0 3 _ fd_lis ["_law_made_here", "_law_part"] (spIs K) := ok_is F_lis Zi
    have La : LA P w K mg base := ⟨Zi, Rr, ⟨_, _, Lis, g_lis, b_lis, D_lis.kp⟩, ⟨_, _, Lmade, g_lmade, b_lmade, D_lmade.kp⟩, ⟨_, (He.meth_ok (Y.D.fact 52 (f := .meth "Ratio" "__neg__") rfl)), toR ONg b_Ratio_neg⟩, ⟨_, _, _, propB_ok (Y.chk 14 (b := propB K (He.ga K "Ratio") "sign") rfl), OSg, b_Ratio_sign⟩, ⟨_, (He.meth_ok (Y.D.fact 54 (f := .meth "Ratio" "__str__") rfl)), toR OStr b_Ratio_str⟩, ⟨_, _, Ltext, g_ltext, b_ltext, D_ltext.kp⟩, (of_decide_eq_true (Y.chk 26 (b := decide (PySem.W.notFirst K (He.ga K "Ratio") (.type "tuple") = true)) rfl)), (of_decide_eq_true (Y.chk 27 (b := decide (PySem.W.notFirst K (He.ga K "Ratio") (.type "int") = true)) rfl)), (of_decide_eq_true (Y.chk 39 (b := decide (PySem.W.kitOne K (.type "tuple") (.ref (He.ga K "Ratio")) = some false)) rfl))⟩
    have Lalo : FnG P w K mg base CX0 5 _ fd_lalone_right ["_law_rng_here", "_law_part"] (spAlone K) := ok_alone F_lalone_right La
    have Lp : LP P w K mg base := ⟨La, ZE, ⟨_, _, F_ltold, g_ltold, b_ltold⟩, ⟨_, _, Lreal, g_lreal, b_lreal, D_lreal.kp⟩, ⟨_, _, Lsum, g_lsum, b_lsum, D_lsum.kp⟩, ⟨_, _, Lless, g_lless, b_lless, D_lless.kp⟩, ⟨_, own_add Y, toR OAd b_Ratio_add⟩, ⟨_, own_sub Y, toR OSb b_Ratio_sub⟩, ⟨_, own_mul Y, toR OMl b_Ratio_mul⟩, ⟨_, _, (He.meth_ok (Y.D.fact 48 (f := .meth "Ratio" "over") rfl)), OOv, b_Ratio_over⟩, ⟨_, _, (He.meth_ok (Y.D.fact 48 (f := .meth "Ratio" "over") rfl)), OOZ, b_Ratio_over⟩⟩
    have TBP := TBs (codeAt K (He.ga K "_law_pair_right"), tabAt K (codeAt K (He.ga K "_law_pair_right"))) List.mem_cons_self
    have TBR := TBs (codeAt K (He.ga K "_law_refused_right"), tabAt K (codeAt K (He.ga K "_law_refused_right"))) (List.mem_cons_of_mem _ List.mem_cons_self)
    have nt : tabAt K (codeAt K (He.ga K "_law_pair_right")) ≠ tabAt K (codeAt K (He.ga K "_law_refused_right")) := by simpa using (Y.chk 25 (b := !(tabAt K (codeAt K (He.ga K "_law_pair_right")) == tabAt K (codeAt K (He.ga K "_law_refused_right")))) rfl)
    have Lpai : FnG P w K mg base CX0 8 _ fd_lpair_right ["_law_rng_here", "_law_near", "_law_far"] (spPair K (tabAt K (codeAt K (He.ga K "_law_pair_right"))) (tabAt K (codeAt K (He.ga K "_law_refused_right")))) := ok_pair F_lpair_right hcP TBP nt Lp
    have Ls : LS P w K mg base := ⟨Lp, ⟨_, _, _, creadR Y, cmetB_ok (Y.chk 16 (b := cmetB K (He.ga K "Ratio") (.type "type") "least") rfl), OLe⟩, ⟨_, _, _, creadR Y, cmetB_ok (Y.chk 17 (b := cmetB K (He.ga K "Ratio") (.type "type") "greatest") rfl), OGr⟩⟩
    have Lnea : FnG P w K mg base CX0 7 _ fd_lnear_right ["_law_rng_here", "_law_part", "_law_made_here"] (spNear K) := ok_near F_lnear_right Ls
    have Lsev : FnG P w K mg base CX0 8 _ fd_lseveral_right ["_law_rng_here", "_law_parts"] (spSev K) := ok_sev F_lseveral_right Ls ⟨_, _, Lnea, g_lnear_right, b_lnear_right, D_lnear_right.kp⟩
    have Lr : LR P w K mg base := ⟨Lp, NN, ⟨_, own_add Y, toR XAd b_Ratio_add⟩, ⟨_, own_sub Y, toR XSb b_Ratio_sub⟩, ⟨_, own_mul Y, toR XMl b_Ratio_mul⟩, ⟨_, _, (He.meth_ok (Y.D.fact 47 (f := .meth "Ratio" "is_below") rfl)), XBl, b_Ratio_is_below⟩, ⟨_, _, (He.meth_ok (Y.D.fact 48 (f := .meth "Ratio" "over") rfl)), XOv, b_Ratio_over⟩, OX, ⟨_, _, dI, (He.mkr_ok (Y.D.fact 46 (f := .mkr "Ratio") rfl)), XRI, XRB, vI, bI, bI0⟩, ⟨_, _, _, creadR Y, cmetB_ok (Y.chk 16 (b := cmetB K (He.ga K "Ratio") (.type "type") "least") rfl), XLe⟩, ⟨_, _, _, creadR Y, cmetB_ok (Y.chk 17 (b := cmetB K (He.ga K "Ratio") (.type "type") "greatest") rfl), XGr⟩, ⟨_, _, XNu, g_is_number, b_is_number, D_is_number.kp⟩, ⟨_, _, Lchoice, g_lchoice, b_lchoice, D_lchoice.kp⟩⟩
    have Lref : FnG P w K mg base CX0 10 _ fd_lrefused_right ["_law_rng_here", "_law_part"] (spRefused K (tabAt K (codeAt K (He.ga K "_law_pair_right"))) (tabAt K (codeAt K (He.ga K "_law_refused_right")))) := ok_refused F_lrefused_right hcR TBR nt Lr
    have Lz : LZ P w K mg base (tabAt K (codeAt K (He.ga K "_law_pair_right"))) (tabAt K (codeAt K (He.ga K "_law_refused_right"))) := ⟨FR, ⟨_, _, Ldraw, g_ldraw, b_ldraw, D_ldraw.kp⟩, ⟨_, _, Lfrac, g_lfraction, b_lfraction, D_lfraction.kp⟩, ⟨_, _, Lalo, g_lalone_right, b_lalone_right, D_lalone_right.kp⟩, ⟨_, _, Lpai, g_lpair_right, b_lpair_right, D_lpair_right.kp⟩, ⟨_, _, Lsev, g_lseveral_right, b_lseveral_right, D_lseveral_right.kp⟩, ⟨_, _, Lref, g_lrefused_right, b_lrefused_right, D_lrefused_right.kp⟩⟩
    have Lri : FnG P w K mg base CX0 11 _ fd_lright ["_law_rng_here"] (spRight K (tabAt K (codeAt K (He.ga K "_law_pair_right"))) (tabAt K (codeAt K (He.ga K "_law_refused_right")))) := ok_right F_lright Lz
    exact ok_law F_law FR ⟨_, _, Lrng, g_lrng, b_lrng, D_lrng.kp⟩ ⟨_, _, Lri, g_lright, b_lright, D_lright.kp⟩
end K18
set_option maxHeartbeats 4000000
/-! The end of a law whose promise asks the units' guards and a table of lambdas. -/
namespace GL
open PySem PySem.Spec PyProof.Rows L2
theorem law_callT2 {P : Program} {w : World} {K : PySem.W.Frag} {mg mb : Str → Option Value} {k : Nat} {fa a : Addr} {L : List (Addr × Addr)} {fd : FuncData} {x : Str} {sp : Sp} {s₁ : Shared} {vs : List Value} {ns : List Int}
    (KX : K.In s₁.heap) (hns : s₁.heap.Ns mainGlobals mg) (hb : s₁.heap.Ns builtinsNs mb) (hbb : ∀ x : Str, x ≠ "__name__" → mb x = bootBuiltins x) (hlim : s₁.heap.NoLimit) (hg : s₁.gens = #[])
    (tab : ∀ tb ∈ L.map Prod.snd, s₁.heap.get? tb = some { cls := .none, data := .fields #[] }) (noK : ∀ tb ∈ L.map Prod.snd, K.lookup tb = none) (code : ∀ x ∈ L, PySem.W.CodeHd s₁.heap x.1 x.2)
    (hbm : ∃ (bm : Addr) (ob : Obj), mg "__builtins__" = some (.ref bm) ∧ bm ≠ builtinsNs ∧ s₁.heap.get? bm = some ob ∧ ob.cls = .type "module" ∧ ob.dict = some builtinsNs ∧ ob.data = .plain)
    (ha : s₁.heap.get? a = some { cls := .type "list", data := .seq vs.toArray }) (hi : IntsAre vs ns) (hl : ns.length ≤ sizeLine) (hr : Room k callerA)
    (F : ∀ base : Heap, K.In base → base.Ns mainGlobals mg → (∀ x ∈ L, LamX.TabB base mg x.1 x.2) → FnG P w K mg base CX0 k fa fd [x] sp) (hbind : ∀ (s : Shared) (u : Value), BindsTo s fd ⟨[u], []⟩ [(x, u)])
    (hsp : ∀ H : Hp, (∀ tb ∈ L.map Prod.snd, H tb = some (.tbl #[])) → SqL K H a (ns.map V.int) → sp [.ref a] H (fun v _ => v = .bl true) E0) :
    codeAny (model P w) callerA (.call (.ref fa) ⟨[.ref a], []⟩) (fun r s' => r = .ok (.ret (.bool true)) ∧ OldK s₁.heap s'.heap ∧ s'.os = s₁.os ∧ AllBare s'.gens) s₁ := by
  have rv := vals_ints hi
  have atb : a ∉ L.map Prod.snd := fun z => by
    rw [tab _ z] at ha
    cases ha
  have main : ∀ H : Hp, (∀ tb ∈ L.map Prod.snd, H tb = some (.tbl #[])) → (∀ b u, b ∉ L.map Prod.snd → H b = some u → b = a ∧ K.lookup a = none ∧ ∃ o xs, u = .frz o (.lst xs)) → SqL K H a (ns.map V.int) → HOk P w H s₁.heap →
      codeAny (model P w) callerA (.call (.ref fa) ⟨[.ref a], []⟩) (fun r s' => r = .ok (.ret (.bool true)) ∧ OldK s₁.heap s'.heap ∧ s'.os = s₁.os ∧ AllBare s'.gens) s₁ := by
    intro H ht ours sq hok
    have stays : ∀ {b : Addr} {o : Obj}, s₁.heap.get? b = some o → H b = none → (hidT s₁.heap H).get? b = some o := fun e n => hidT_get e n
    -- what is neither the script nor the table isn't tracked
    have free : ∀ {b : Addr} {o : Obj}, s₁.heap.get? b = some o → (∀ us n, o.data ≠ .seq us n) → o.data ≠ .fields #[] → H b = none := by
      intro b o e n1 n2
      cases q : H b with
      | none => rfl
      | some u =>
        by_cases hb : b ∈ L.map Prod.snd
        · rw [tab _ hb] at e
          cases e
          exact absurd rfl n2
        · cases (ours b u hb q).1
          rw [ha] at e
          cases e
          exact absurd rfl (n1 _ _)
    have spaces : ∀ {b : Addr} {m : Str → Option Value}, s₁.heap.Ns b m → (hidT s₁.heap H).Ns b m := fun {b m} ⟨o, es, ep, e, d, r⟩ => ⟨o, es, ep, stays e (free e (fun us n z => by rw [d] at z; cases z) fun z => by rw [d] at z; cases z), d, r⟩
    have kin : K.In (hidT s₁.heap H) := by
      intro b o e
      refine stays (KX b o e) ?_
      cases q : H b with
      | none => rfl
      | some u =>
        by_cases hb : b ∈ L.map Prod.snd
        · rw [noK _ hb] at e
          cases e
        · obtain ⟨rfl, z, _⟩ := ours b u hb q
          rw [z] at e
          cases e
    have md : Mod K mg (hidT s₁.heap H) := ⟨kin, spaces hns, ⟨mb, spaces hb, hbb⟩, let ⟨mc, h1, h2⟩ := hlim; ⟨mc, spaces h1, h2⟩⟩
    have TB : ∀ x ∈ L, LamX.TabB (hidT s₁.heap H) mg x.1 x.2 := by
      intro x hx
      have hx2 : x.2 ∈ L.map Prod.snd := List.mem_map.mpr ⟨x, hx, rfl⟩
      refine ⟨?_, ?_, fun z => ?_⟩
      · obtain ⟨o, us, file, tf, flags, tg, inF, text, tt, e1, r1, r2, r3, r⟩ := code x hx
        refine ⟨o, us, file, tf, flags, tg, inF, text, tt, stays e1 (free e1 (fun us n z => by rw [r2] at z; cases z) fun z => ?_), r1, r2, r3, r⟩
        rw [r2] at z
        cases z
        simp at r3
      · obtain ⟨bm, ob, b1, b2, b3, b4, b5, b6⟩ := hbm
        have n1 : bm ≠ mainGlobals := fun q => by
          obtain ⟨o, es, ep, e, d, _⟩ := hns
          rw [q, e] at b3
          cases b3
          rw [d] at b6
          cases b6
        have n2 : bm ≠ x.2 := fun q => by
          rw [q, tab _ hx2] at b3
          cases b3
          cases b6
        exact ⟨bm, ob, b1, b2, n1, n2, stays b3 (free b3 (fun us n z => by rw [b6] at z; cases z) fun z => by rw [b6] at z; cases z), b4, b5, b6⟩
      · obtain ⟨o, es, ep, e, d, _⟩ := hns
        rw [z, tab _ hx2] at e
        cases e
        cases d
    have nofr : ∀ b ∈ frs ([] : List Env), H b = none := fun b z => nomatch z
    have e0 : Env0 P w K mg (hidT s₁.heap H) callerA [] s₁ H := ⟨rfl, md, fun b o e => of_hidT e, Nat.le_of_eq (hidT_size _ _), trivial, nofr, hok, .of_eq hg⟩
    refine codeAny_mono ((F _ kin (spaces hns) TB).go callerA [] s₁ H ⟨[.ref a], []⟩ [.ref a] [.ref a] _ _ rfl hr e0 (hbind s₁ (.ref a)) (.cons rfl .nil) (hsp H ht sq)) ?_
    intro r s' h
    match r, h with
    | .error e, h => exact False.elim h
    | .ok .next, h => exact False.elim h
    | .ok .brk, h => exact False.elim h
    | .ok .cont, h => exact False.elim h
    | .ok (.ret u), h =>
      obtain ⟨v, H', os, bare, un, hok', r', rfl⟩ := h
      cases (show u = Value.bool true from r')
      have other : ∀ b o, b ∉ L.map Prod.snd → s₁.heap.get? b = some o → s'.heap.get? b = some o := by
        intro b o hb e
        cases q : H b with
        | none => exact un.keep b o e q (fun z => nomatch z) (fun z => nomatch z)
        | some u =>
          obtain ⟨_, _, ob, xs, rfl⟩ := ours b u hb q
          have e1 := (hok b _ q).1
          have e2 := (hok' b _ (un.frzs b ob _ q)).1
          rw [e] at e1
          cases e1
          exact e2
      have grow : ∀ tb ∈ L.map Prod.snd, ∃ more : Array Value, s'.heap.get? tb = some { cls := .none, data := .fields more } := fun tb htb => by
        obtain ⟨more, grown⟩ := un.tbls tb #[] (ht tb htb)
        have grown : s'.heap.get? tb = some { cls := .none, data := .fields (#[] ++ more) } := hok' tb _ grown
        rw [Array.empty_append] at grown
        exact ⟨more, grown⟩
      refine ⟨rfl, ⟨fun b o e => ?_, fun b o e => ?_⟩, os, bare⟩
      · by_cases hb : b ∈ L.map Prod.snd
        · rw [tab _ hb] at e
          cases e
          obtain ⟨more, grown⟩ := grow b hb
          obtain ⟨x, hx, ex⟩ := List.mem_map.mp hb
          have tx := tab _ hb
          rw [← ex] at tx
          have it := ((code x hx).tab tx).isCodeTable
          rw [ex] at it
          exact .inr (.inl ⟨it, rfl, #[], more, rfl, by rw [Array.empty_append]; exact grown⟩)
        · exact .inl (other b o hb e)
      · by_cases hb : b ∈ L.map Prod.snd
        · obtain ⟨more, grown⟩ := grow b hb
          exact ⟨_, grown⟩
        · exact ⟨o, other b o hb e⟩
  cases hk : K.lookup a with
  | some o =>
    have e := KX a o hk
    rw [ha] at e
    cases e
    refine main (fun b => if b ∈ L.map Prod.snd then some (.tbl #[]) else none) (fun _ hb => if_pos hb) (fun b u hb z => ?_) (.inr ⟨_, vs.toArray, _, hk, rfl, rfl, rfl, ?_, by simpa using rv⟩) fun b u z => ?_
    · rw [if_neg hb] at z
      cases z
    · rw [List.size_toArray, hi.length]
      exact hl
    · by_cases hb : b ∈ L.map Prod.snd
      · have z' := (if_pos hb).symm.trans z
        cases z'
        exact tab _ hb
      · have z' := (if_neg hb).symm.trans z
        cases z'
  | none =>
    refine main (fun b => if b ∈ L.map Prod.snd then some (.tbl #[]) else if b = a then some (HO.frz { cls := .type "list", data := .seq vs.toArray } (.lst (ns.map V.int))) else none) (fun _ hb => if_pos hb) (fun b u hb z => ?_) (.inl (.inr ⟨{ cls := .type "list", data := .seq vs.toArray }, ?_⟩)) fun b u z => ?_
    · have z1 := (if_neg hb).symm.trans z
      by_cases h : b = a
      · have z2 := (if_pos h).symm.trans z1
        exact ⟨h, hk, _, _, (Option.some.inj z2).symm⟩
      · have z2 := (if_neg h).symm.trans z1
        cases z2
    · exact (if_neg atb).trans (if_pos rfl)
    · by_cases hb : b ∈ L.map Prod.snd
      · have z' := (if_pos hb).symm.trans z
        cases z'
        exact tab _ hb
      · have z1 := (if_neg hb).symm.trans z
        by_cases h : b = a
        · have z2 := (if_pos h).symm.trans z1
          cases z2
          rw [h]
          exact ⟨ha, by rw [List.length_map]; exact hl, vs, _, rv, ha⟩
        · have z2 := (if_neg h).symm.trans z1
          cases z2
theorem walk_T2 {l : PySem.W.OpenLaw} {n k : Nat} {q : Program} {loose : List Str} {XP : (Str → Option Value) → Heap → Prop} {YP : World → Heap → Prop} {d : DefRec} {x : Str}
    (hn : l.most = some n) (hn2 : n ≤ sizeLine) (hdf : d.params.defaults = []) (hr : Room k callerA)
    (F : ∀ (w : World) (mg : Str → Option Value) (fa : Addr) (h : Heap), YP w h → h.Ns mainGlobals mg → mg d.name = some (.ref fa) →
      ∃ (K : PySem.W.Frag) (L : List (Addr × Addr)) (fd : FuncData) (sp : Sp), K.In h ∧ (∀ tb ∈ L.map Prod.snd, h.get? tb = some { cls := .none, data := .fields #[] }) ∧ (∀ tb ∈ L.map Prod.snd, K.lookup tb = none) ∧ (∀ x ∈ L, PySem.W.CodeHd h x.1 x.2) ∧ (∀ (s : Shared) (u : Value), BindsTo s fd ⟨[u], []⟩ [(x, u)]) ∧
        (∀ (H : Hp) (a : Addr) (ns : List Int), ns.length ≤ n → (∀ tb ∈ L.map Prod.snd, H tb = some (.tbl #[])) → SqL K H a (ns.map V.int) → sp [.ref a] H (fun v _ => v = .bl true) E0) ∧
        ∀ base : Heap, K.In base → base.Ns mainGlobals mg → (∀ x ∈ L, LamX.TabB base mg x.1 x.2) → FnG l.prog w K mg base CX0 k fa fd [x] sp) :
    PySem.W.WalkO q loose XP YP l.row.toRowW d [] (fun f vs => PySem.call f vs) := by
  apply Att.attach_callB hn hdf
  intro w s₀ s₁ mg mb fa o pm cd doc a vs ns G Y ho hd hcd hmg hobj hints hlen hbits hg
  obtain ⟨K, L, fd, sp, KX, t1, t2, t3, hb, hsp, hF⟩ := F w mg fa _ Y G.T.g hmg
  exact law_callT2 KX G.T.g G.T.b G.T.builtins G.T.nolimit hg t1 t2 t3 G.T.bmain hobj hints (Nat.le_trans hlen hn2) hr hF hb fun H ht sq => hsp H a ns hlen ht sq
end GL
set_option maxHeartbeats 0
open PySem PySem.W PySem.Calls PyProof.Rows
theorem PySem.Challenge.cw_fademodes_k10_whole_ratios_holds : PySem.Challenge.rw_fademodes_k10_whole_ratios.Holds := by
  w_on; o_law
  refine HandSHeadRun.head_imp (r := OpenLaw.row PySem.Challenge.rw_fademodes_k10_whole_ratios) (q := view (OpenLaw.row PySem.Challenge.rw_fademodes_k10_whole_ratios).prog [0, 31]) (H := K18.hk) (ob := K18.ob) (M := 20000) (loose := K18.loose) (d := HandSHeadRun.topDef (OpenLaw.row PySem.Challenge.rw_fademodes_k10_whole_ratios).prog 31) (kwd := []) K18.ob_eq
    K18.run (by kernel_rfl) (by kernel_rfl) (by kernel_rfl) (by rfl) (by first | assumption | decide +kernel) (by decide +kernel) ⟨rfl, rfl, rfl, rfl, rfl, by decide +kernel⟩ ?hw ?hc
  case hw => w_witness2
  case hc =>
    refine GL.walk_T2 (l := PySem.Challenge.rw_fademodes_k10_whole_ratios) (n := 63) (k := 12) (x := "_law_script") rfl (by decide) (by kernel_rfl) ⟨rfl, by decide, by decide⟩ ?F
    intro w mg fa h Y G hmg0
    obtain ⟨K, T, KX, TX, c, cx, b, tb⟩ := Y
    have hmg : mg ("law" : PySem.Str) = some (.ref fa) := by
      have e : (HandSHeadRun.topDef (OpenLaw.row PySem.Challenge.rw_fademodes_k10_whole_ratios).prog 31).name = ("law" : PySem.Str) := by kernel_rfl
      rw [← e]
      exact hmg0
    obtain ⟨b1, b2⟩ := He.ba b
    have one : ∀ f ∈ K18.lamF K, PySem.W.CodeHd h (GL.codeAt K f) (GL.tabAt K (GL.codeAt K f)) ∧ K.lookup (GL.tabAt K (GL.codeAt K f)) = none ∧ h.get? (GL.tabAt K (GL.codeAt K f)) = some { cls := .none, data := .fields #[] } := by
      intro f hf
      obtain ⟨t1, t2⟩ := He.ba (List.all_eq_true.mp tb f hf)
      obtain ⟨c1, c2, _⟩ := GL.codeB_ok KX t1
      refine ⟨c1, c2, ?_⟩
      split at t2
      · rename_i o e
        rw [GL.isTab_eq t2] at e
        exact TX _ _ e
      · cases t2
    have tabs : ∀ {y : PySem.Addr}, y ∈ ((K18.lamF K).map (fun f => (GL.codeAt K f, GL.tabAt K (GL.codeAt K f)))).map Prod.snd → ∃ f ∈ K18.lamF K, y = GL.tabAt K (GL.codeAt K f) := by
      intro y hy
      obtain ⟨x, hx, rfl⟩ := List.mem_map.mp hy
      obtain ⟨f, hf, rfl⟩ := List.mem_map.mp hx
      exact ⟨f, hf, rfl⟩
    obtain ⟨fd, hb, hF⟩ := K18.facts (P := (PySem.Challenge.rw_fademodes_k10_whole_ratios).prog) (w := w) ⟨KX, TX, G, c, cx, GL.sysB_ok b1, b2, tb⟩ hmg
    refine ⟨K, (K18.lamF K).map (fun f => (GL.codeAt K f, GL.tabAt K (GL.codeAt K f))), fd, K18.spLaw K (GL.tabAt K (GL.codeAt K (He.ga K "_law_pair_right"))) (GL.tabAt K (GL.codeAt K (He.ga K "_law_refused_right"))), KX, ?_, ?_, ?_, hb, ?_, hF⟩
    · intro y hy
      obtain ⟨f, hf, rfl⟩ := tabs hy
      exact (one f hf).2.2
    · intro y hy
      obtain ⟨f, hf, rfl⟩ := tabs hy
      exact (one f hf).2.1
    · intro x hx
      obtain ⟨f, hf, rfl⟩ := List.mem_map.mp hx
      exact (one f hf).1
    · intro H a ns hl ht hS
      refine ⟨a, ns, rfl, hS, hl, fun x hx => ?_, fun _ => rfl⟩
      simp only [List.mem_cons, List.not_mem_nil, or_false] at hx
      rcases hx with rfl | rfl
      · exact LamX.TabS.nil (ht _ (List.mem_map.mpr ⟨_, List.mem_map.mpr ⟨_, List.mem_cons_self, rfl⟩, rfl⟩))
      · exact LamX.TabS.nil (ht _ (List.mem_map.mpr ⟨_, List.mem_map.mpr ⟨_, List.mem_cons_of_mem _ List.mem_cons_self, rfl⟩, rfl⟩))
