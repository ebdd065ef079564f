import PyProof.Rows.All
import Wide.All
import OpenK.AllK
import Wide.FinOn
import PyProof.EqAt
import PyProof.EqKinds
import PyProof.TupleCall
import HandS.ForMost
import HandS.ExcInit
import HandS.IsInst
import HandS.Wide
import HandS.WideBits
import HandS.ExcValue
import KE.KExcIs
import KE.KExcInit
import HandS.Defaults
import HandS.HeadHook2
import HandS.HeadEnd
import HandS.Head2
import HandS.Conv
import KE.KOpsOwn
import HandS.OwnEq
import HandS.Property
import HandS.ClsMeth
import HandS.Gcd
import HandS.MakeKw
import HandS.Star
import HandS.MethStar
import PyProof.InstNe
import HandS.Flow
import HandS.Head3
import KE.KAssignIn
import KE.KCallOwn
import HandS.FStr
import HandS.TupLe
import HandS.MakeKwOnly
import HandS.Style
import PySem.Challenge.RW_fademodes_k18_stage_one_by_names
set_option Elab.async false
set_option linter.all false
set_option maxRecDepth 100000
set_option maxHeartbeats 4000000
namespace GL
open PySem PySem.Spec PyProof.Rows L2

/-! ### promises that hold where no container is being shown -/
structure FnG (P : Program) (w : World) (K : PySem.W.Frag) (mg : Str → Option Value) (base : Heap) (CX : CXT) (k : Nat) (f : Addr) (fd : FuncData) (ps : List Str) (sp : Sp) : Prop where
  many : ∀ vs H Q E, sp vs H Q E → vs.length = ps.length
  go : ∀ (A : Around) (outer : List Env) (s : Shared) (H : Hp) (args : Args) (us : List Value) (vs : List V) (Q : VK) (E : XK), A.guards = some [] → Room k A →
    Env0 P w K mg base A outer s H → BindsTo s fd args (ps.zip us) → Vals vs us → sp vs H Q E → codeAny (model P w) A (.call (.ref f) args) (CR CX outer P w H s Q E) s
theorem FnG.of {P : Program} {w : World} {K : PySem.W.Frag} {mg : Str → Option Value} {base : Heap} {CX : CXT} {k : Nat} {f : Addr} {fd : FuncData} {ps : List Str} {sp : Sp} (F : FnOk P w K mg base CX k f fd ps sp) : FnG P w K mg base CX k f fd ps sp :=
  ⟨F.len, fun A outer s H args us vs Q E _ => F.run A outer s H args us vs Q E⟩

section
variable {P : Program} {w : World} {K : PySem.W.Frag} {mg : Str → Option Value} {base : Heap} {CX : CXT}
theorem FnG.ofBody {k : Nat} {f : Addr} {name qual : Str} {params : Arguments} {body : List Stmt} {scope : Scope} {dV kV doc pm cdv ct oc : Value} {an od : Option Addr} {osl : Array (Option Value)} {N ps : List Str} {sp : Sp}
    (lk : K.lookup f = some ⟨oc, od, .func (PySem.W.fnOf name qual params body scope dV kV doc pm an cdv ct), osl⟩) (hcd : PySem.W.codeIn K cdv qual = true) (S : FnScope N ps scope) (many : ∀ vs H Q E, sp vs H Q E → vs.length = ps.length)
    (hbody : ∀ (A : Around) (outer : List Env) (s : Shared) (H : Hp) (vs : List V) (Q : VK) (E : XK), A.guards = some [] → Room k (A.deeper (envOfC qual scope s.heap.objs.size f cdv)) → sp vs H Q E →
      ∃ t, PSs (cxOf CX P w K mg base N qual scope f cdv A outer s H E) body t ∧ t { nx := fun _ H' => Q .non H', rt := Q } (start N vs) H) :
    FnG P w K mg base CX (k + 1) f (PySem.W.fnOf name qual params body scope dV kV doc pm an cdv ct) ps sp := by
  constructor
  · exact many
  intro A outer s H args us vs Q E gd hr e0 hb rv hsp
  have sameLen := many _ _ _ _ hsp
  have inS : K.In s.heap := e0.mod.kin.keeps fun b o e => (e0.bs b o e).1
  have noLim : s.heap.NoLimit := e0.mod.nolimit.keeps fun b o e => (e0.bs b o e).1
  have kinds : ∀ y ∈ ps.zip us, scope.names.lookup y.1 = some .local ∨ (scope.names.lookup y.1 = some .cell ∧ ((cellsFrom (s.heap.objs.size + 1) scope.names []).lookup y.1).isSome = true) := by
    intro y hy
    have hm := (List.of_mem_zip (a := y.1) (b := y.2) hy).1
    exact (S.par y.1 hm).imp id fun q => ⟨q, PySem.W.cellsFrom_some _ _ _ (.inl q)⟩
  apply codeAny_call_function hr.depth (inS _ _ lk) rfl S.co S.gen rfl (PySem.W.codeRec_of inS hcd)
  apply hb
  apply wpAny_newFunctionEnv_cells S.kind kinds
  intro env he s1 entered
  cases he
  refine ⟨noLim.keeps entered.toInCall.keep, codeAny_func ?_⟩
  obtain ⟨t, tOk, tRun⟩ := hbody A outer s H vs Q E gd (hr.deeper _) hsp
  have atStart : Inv (cxOf CX P w K mg base N qual scope f cdv A outer s H E) [] (start N vs) H s1 := inv_start S hr.hd e0 sameLen rv entered
  refine wpAny_mono (tOk.run [] s1 (start N vs) H _ atStart tRun) (fun fl s' hs => ?_) fun e s' hs => hs
  match fl, hs with
  | .ret u, hs =>
    obtain ⟨v, σ', H', J, r, q⟩ := hs
    exact ⟨v, H', J.os, J.bare, J.base, J.hok, r, q⟩
  | .next, hs =>
    obtain ⟨σ', H', J, q⟩ := hs
    exact ⟨V.non, H', J.os, J.bare, J.base, J.hok, rfl, q⟩
  | .brk, hs =>
    obtain ⟨_, _, _, q⟩ := hs
    exact False.elim q
  | .cont, hs =>
    obtain ⟨_, _, _, q⟩ := hs
    exact False.elim q
end

section
variable {X : Cx} {CX : CXT} {k : Nat} {f : Addr} {fd : FuncData} {ps : List Str} {sp : Sp} {dvs : List V} {ds : List Value} {E : XK} {x : Str} {p pos : Pos} {e : Expr} {es : List Expr} {t : TA}
theorem FnG.call {pins : List (Addr × Obj)} {σ : L2.St} {H : Hp} {s : Shared} {Q : VK} {us : List Value} {vs : List V} (F : FnG X.prog X.w X.K X.mg X.base CX k f fd ps sp) (gd : X.A.guards = some []) (hr : Room k X.A) (hb : Binds X.K fd ps ds) (hd : Vals dvs ds)
    (hx : Passes CX X E) (I : Inv X pins σ H s) (r : Vals vs us) (h : sp (vs ++ dvs) H Q E) : wpAny (model X.prog X.w) X.A (PySem.call (.ref f) us) (EP X pins σ Q) X.xe s := by
  have all := r.append hd
  have hl : (us ++ ds).length = ps.length := all.length.symm.trans (F.many _ _ _ _ h)
  apply wpAny_call
  refine codeAny_mono (F.go X.A X.stack s H ⟨us, []⟩ (us ++ ds) (vs ++ dvs) Q E gd hr I.env0 (hb s us I.kIn hl) all h) ?_
  intro r' s' hq
  match r', hq with
  | .error er, hq => exact hx pins σ H s er s' I hq
  | .ok (.ret u), hq => exact I.after hq
  | .ok .next, hq => exact False.elim hq
  | .ok .brk, hq => exact False.elim hq
  | .ok .cont, hq => exact False.elim hq
/-- f(e, ..), f one of these defs -/
theorem pe_callG (F : FnG X.prog X.w X.K X.mg X.base CX k f fd ps sp) (gd : X.A.guards = some []) (hr : Room k X.A) (hg : Gl X x) (hm : X.mg x = some (.ref f)) (hk : PySem.W.keepIn X.K (.ref f) = true) (hb : Binds X.K fd ps ds) (hd : Vals dvs ds) (hx : Passes CX X E)
    (ha : PA X (e :: es) t) (hdb : (x == ("__debug__" : Str)) = false := by decide) (he : starEach (e :: es) X.env = (false, eval e X.env) :: starEach es X.env := by rfl) (hpl : (backTo pos (starEach es X.env)).any (·.1) = false := by rfl) :
    PE X (.Call (.Name x p) (e :: es) [] pos) (tCall sp dvs E t) := by
  constructor
  intro pins s σ H Q I h
  apply wpAny_Call_Name_kw
  refine ld_glob I hg hm ?_ hdb
  refine PySem.W.callWith_K (h₀ := X.base) I.ok.mod.kin hk (thn (ha.run pos pins s σ H _ I h) ?_) he hpl
  rintro us s1 ⟨vs, H1, I1, r, q⟩
  exact ⟨I1.kIn, F.call gd hr hb hd hx I1 r q⟩
theorem pe_callG0 (F : FnG X.prog X.w X.K X.mg X.base CX k f fd ps sp) (gd : X.A.guards = some []) (hr : Room k X.A) (hg : Gl X x) (hm : X.mg x = some (.ref f)) (hk : PySem.W.keepIn X.K (.ref f) = true) (hb : Binds X.K fd ps ds) (hd : Vals dvs ds) (hx : Passes CX X E)
    (hdb : (x == ("__debug__" : Str)) = false := by decide) : PE X (.Call (.Name x p) [] [] pos) (tCall sp dvs E tNil) := by
  constructor
  intro pins s σ H Q I h
  apply wpAny_Call_Name_kw
  refine ld_glob I hg hm ?_ hdb
  exact PySem.W.callWith_K0 I.kIn hk (F.call (us := []) gd hr hb hd hx I .nil h)
end

section
variable {P : Program} {w : World} {K : PySem.W.Frag} {mg : Str → Option Value} {base : Heap}
theorem Fun.okG {x qual : Str} {st : Stmt} {f : Addr} {fd : FuncData} {N ps : List Str} {k : Nat} {sp : Sp} (F : L2.Fun K x qual st f fd) (S : FnScope N ps (defScope st)) (many : ∀ vs H Q E, sp vs H Q E → vs.length = ps.length)
    (hbody : ∀ (cdv : Value) (A : Around) (outer : List Env) (s : Shared) (H : Hp) (vs : List V) (Q : VK) (E : XK), A.guards = some [] → Room k (A.deeper (envOfC qual (defScope st) s.heap.objs.size f cdv)) → sp vs H Q E →
      ∃ t, PSs (cxOf CX0 P w K mg base N qual (defScope st) f cdv A outer s H E).nox (defBody st) t ∧ t { nx := fun _ H' => Q .non H', rt := Q } (start N vs) H) : FnG P w K mg base CX0 (k + 1) f fd ps sp := by
  obtain ⟨oc, od, kV, doc, pm, an, cdv, ct, osl, rfl, lk, hcd⟩ := F.ex
  refine FnG.ofBody lk hcd S many ?_
  intro A outer s H vs Q E gd hr hsp
  obtain ⟨t, h, q⟩ := hbody cdv A outer s H vs Q E gd hr hsp
  exact ⟨t, h.nox, q⟩
end

/-! ### the law's call -/
theorem law_callG {P : Program} {w : World} {K : PySem.W.Frag} {mg mb : Str → Option Value} {k : Nat} {fa a : Addr} {fd : FuncData} {x : Str} {sp : Sp} {s₁ : Shared} {vs : List Value} {ns : List Int}
    (KX : K.In s₁.heap) (hns : s₁.heap.Ns mainGlobals mg) (hb : s₁.heap.Ns builtinsNs mb) (hbb : ∀ x : Str, x ≠ "__name__" → mb x = bootBuiltins x) (hlim : s₁.heap.NoLimit) (hg : s₁.gens = #[])
    (ha : s₁.heap.get? a = some { cls := .type "list", data := .seq vs.toArray }) (hi : IntsAre vs ns) (hl : ns.length ≤ sizeLine) (hr : Room k callerA)
    (F : ∀ base : Heap, K.In base → base.Ns mainGlobals mg → FnG P w K mg base CX0 k fa fd [x] sp) (hbind : ∀ (s : Shared) (u : Value), BindsTo s fd ⟨[u], []⟩ [(x, u)])
    (hsp : ∀ H : Hp, Only H → SqL K H a (ns.map V.int) → sp [.ref a] H (fun v _ => v = .bl true) E0) :
    codeAny (model P w) callerA (.call (.ref fa) ⟨[.ref a], []⟩) (fun r s' => r = .ok (.ret (.bool true)) ∧ OldK s₁.heap s'.heap ∧ s'.os = s₁.os ∧ AllBare s'.gens) s₁ := by
  have rv := vals_ints hi
  have main : ∀ H : Hp, Only H → SqL K H a (ns.map V.int) → HOk P w H s₁.heap → (∀ b u, H b = some u → b = a ∧ K.lookup a = none) →
      codeAny (model P w) callerA (.call (.ref fa) ⟨[.ref a], []⟩) (fun r s' => r = .ok (.ret (.bool true)) ∧ OldK s₁.heap s'.heap ∧ s'.os = s₁.os ∧ AllBare s'.gens) s₁ := by
    intro H only sq hok ours
    have stays : ∀ {b : Addr} {o : Obj}, s₁.heap.get? b = some o → H b = none → (hidT s₁.heap H).get? b = some o := fun e n => hidT_get e n
    have free : ∀ {b : Addr} {o : Obj} {es : Array DictEntry} {ep : Nat}, s₁.heap.get? b = some o → o.data = .dict es ep → H b = none := by
      intro b o es ep e d
      cases q : H b with
      | none => rfl
      | some u =>
        cases (ours b u q).1
        rw [ha] at e
        cases e
        cases d
    have spaces : ∀ {b : Addr} {m : Str → Option Value}, s₁.heap.Ns b m → (hidT s₁.heap H).Ns b m := fun {b m} ⟨o, es, ep, e, d, r⟩ => ⟨o, es, ep, stays e (free e d), d, r⟩
    have kin : K.In (hidT s₁.heap H) := by
      intro b o e
      refine stays (KX b o e) ?_
      cases q : H b with
      | none => rfl
      | some u =>
        obtain ⟨rfl, z⟩ := ours b u q
        rw [z] at e
        cases e
    have md : Mod K mg (hidT s₁.heap H) := ⟨kin, spaces hns, ⟨mb, spaces hb, hbb⟩, let ⟨mc, h1, h2⟩ := hlim; ⟨mc, spaces h1, h2⟩⟩
    have nofr : ∀ b ∈ frs ([] : List Env), H b = none := fun b z => nomatch z
    have e0 : Env0 P w K mg (hidT s₁.heap H) callerA [] s₁ H := ⟨rfl, md, fun b o e => of_hidT e, Nat.le_of_eq (hidT_size _ _), trivial, nofr, hok, .of_eq hg⟩
    refine codeAny_mono ((F _ kin (spaces hns)).go callerA [] s₁ H ⟨[.ref a], []⟩ [.ref a] [.ref a] _ _ rfl hr e0 (hbind s₁ (.ref a)) (.cons rfl .nil) (hsp H only sq)) ?_
    intro r s' h
    match r, h with
    | .error e, h => exact False.elim h
    | .ok .next, h => exact False.elim h
    | .ok .brk, h => exact False.elim h
    | .ok .cont, h => exact False.elim h
    | .ok (.ret u), h =>
      obtain ⟨v, H', os, bare, un, hok', r', rfl⟩ := h
      cases (show u = Value.bool true from r')
      refine ⟨rfl, OldK.of_keep fun b o e => ?_, os, bare⟩
      cases q : H b with
      | none => exact un.keep b o e q (fun z => nomatch z) (fun z => nomatch z)
      | some u =>
        rcases only b with z | ⟨ob, xs, z⟩
        · rw [q] at z
          cases z
        · have e1 := (hok b _ z).1
          have e2 := (hok' b _ (un.frzs b ob _ z)).1
          rw [e] at e1
          cases e1
          exact e2
  cases hk : K.lookup a with
  | some o =>
    have e := KX a o hk
    rw [ha] at e
    cases e
    have none_ : ∀ b u, (fun _ => none : Hp) b = some u → b = a ∧ K.lookup a = none := fun b u z => nomatch z
    refine main (fun _ => none) (fun _ => .inl rfl) (.inr ⟨_, vs.toArray, _, hk, rfl, rfl, rfl, ?_, by simpa using rv⟩) (fun b u z => nomatch z) none_
    rw [List.size_toArray, hi.length]
    exact hl
  | none =>
    have at_ : ∀ b u, (fun b => if b = a then some (HO.frz { cls := .type "list", data := .seq vs.toArray } (.lst (ns.map V.int))) else none : Hp) b = some u → b = a ∧ u = HO.frz { cls := .type "list", data := .seq vs.toArray } (.lst (ns.map V.int)) := by
      intro b u z
      by_cases hb : b = a
      · have z' := (if_pos hb).symm.trans z
        exact ⟨hb, (Option.some.inj z').symm⟩
      · have z' := (if_neg hb).symm.trans z
        cases z'
    refine main (fun b => if b = a then some (HO.frz { cls := .type "list", data := .seq vs.toArray } (.lst (ns.map V.int))) else none) ?_ (.inl (.inr ⟨{ cls := .type "list", data := .seq vs.toArray }, if_pos rfl⟩)) ?_ ?_
    · intro b
      by_cases hb : b = a
      · exact .inr ⟨_, _, if_pos hb⟩
      · exact .inl (if_neg hb)
    · intro b u z
      obtain ⟨rfl, rfl⟩ := at_ b u z
      exact ⟨ha, by rw [List.length_map]; exact hl, vs, _, rv, ha⟩
    · intro b u z
      exact ⟨(at_ b u z).1, hk⟩

theorem walk_G {l : PySem.W.OpenLaw} {n k : Nat} {q : Program} {loose : List Str} {XP : (Str → Option Value) → Heap → Prop} {YP : World → Heap → Prop} {d : DefRec} {x : Str}
    (hn : l.most = some n) (hn2 : n ≤ sizeLine) (hdf : d.params.defaults = []) (hr : Room k callerA)
    (F : ∀ (w : World) (mg : Str → Option Value) (fa : Addr) (h : Heap), YP w h → h.Ns mainGlobals mg → mg d.name = some (.ref fa) →
      ∃ (K : PySem.W.Frag) (fd : FuncData) (sp : Sp), K.In h ∧ (∀ (s : Shared) (u : Value), BindsTo s fd ⟨[u], []⟩ [(x, u)]) ∧
        (∀ (H : Hp) (a : Addr) (ns : List Int), ns.length ≤ n → Only H → SqL K H a (ns.map V.int) → sp [.ref a] H (fun v _ => v = .bl true) E0) ∧
        ∀ base : Heap, K.In base → base.Ns mainGlobals mg → FnG l.prog w K mg base CX0 k fa fd [x] sp) :
    PySem.W.WalkO q loose XP YP l.row.toRowW d [] (fun f vs => PySem.call f vs) := by
  apply Att.attach_call hn hdf
  intro w s₀ s₁ mg mb fa o pm cd doc a vs ns G Y ho hd hcd hmg hobj hints hlen hg
  obtain ⟨K, fd, sp, KX, hb, hsp, hF⟩ := F w mg fa _ Y G.T.g hmg
  exact law_callG KX G.T.g G.T.b G.T.builtins G.T.nolimit hg hobj hints (Nat.le_trans hlen hn2) hr hF hb fun H only sq => hsp H a ns hlen only sq

/-! ### data that is read, dicts too -/
mutual
inductive Dq (K : PySem.W.Frag) (H : Hp) : V → PyData → Prop
  | non : Dq K H .non .none
  | bl (b : Bool) : Dq K H (.bl b) (.bool b)
  | int (i : Int) : Dq K H (.int i) (.int i)
  | str (x : Str) : Dq K H (.str x) (.str x)
  | lst {a : Addr} {xs : List V} {ds : List PyData} : SqL K H a xs → DqAll K H xs ds → Dq K H (.ref a) (.list ds)
  | tup {a : Addr} {xs : List V} {ds : List PyData} : SqT K H a xs → DqAll K H xs ds → Dq K H (.ref a) (.tuple ds)
  | dct {a : Addr} {kvs : List (Key × V)} {ps : List (PyData × PyData)} : H a = some (.dK kvs) → DqKv K H kvs ps → Dq K H (.ref a) (.dict ps)
inductive DqAll (K : PySem.W.Frag) (H : Hp) : List V → List PyData → Prop
  | nil : DqAll K H [] []
  | cons {v : V} {vs : List V} {d : PyData} {ds : List PyData} : Dq K H v d → DqAll K H vs ds → DqAll K H (v :: vs) (d :: ds)
inductive DqKv (K : PySem.W.Frag) (H : Hp) : List (Key × V) → List (PyData × PyData) → Prop
  | nil : DqKv K H [] []
  | consI {i : Int} {v : V} {d : PyData} {r : List (Key × V)} {ps : List (PyData × PyData)} : Dq K H v d → DqKv K H r ps → DqKv K H ((.inl i, v) :: r) ((.int i, d) :: ps)
  | consS {x : Str} {v : V} {d : PyData} {r : List (Key × V)} {ps : List (PyData × PyData)} : Dq K H v d → DqKv K H r ps → DqKv K H ((.inr x, v) :: r) ((.str x, d) :: ps)
end
end GL
set_option maxHeartbeats 4000000
namespace GL
open PySem PySem.Spec PyProof.Rows L2
/-- the written part knows the table of modules -/
def SysK (K : PySem.W.Frag) : Prop := ∃ o es ep, K.lookup sysModules = some o ∧ o.data = .dict es ep
section
variable {X : Cx} {pins : List (Addr × Obj)} {σ : L2.St} {H : Hp} {s : Shared}
theorem notSys (S : SysK X.K) (I : Inv X pins σ H s) {a : Addr} {o : Obj} {vs : Array Value} {n : Nat} (e : s.heap.get? a = some o) (d : o.data = .seq vs n) : sysModules ≠ a := by
  rintro rfl
  obtain ⟨o', es, ep, l, d'⟩ := S
  have e' := I.kIn _ _ l
  rw [e] at e'
  cases e'
  rw [d] at d'
  cases d'
theorem kvReads {h : Heap} : ∀ {kvs : List (Key × Value)} {es : List DictEntry} {P : Program} {w : World}, Pairs (mixKind P w) es kvs →
    ∀ {ps : List (PyData × PyData)} {as : List Addr}, ReadsAll h (es.map (·.val)) (ps.map (·.2)) as → (∀ i : Nat, (kvs[i]?).map (fun kv => match kv.1 with | .inl j => PyData.int j | .inr x => PyData.str x) = (ps[i]?).map (·.1)) → ReadsAll h (es.map (·.key)) (ps.map (·.1)) [] := by
  intro kvs es P w pr
  induction pr with
  | nil =>
    intro ps as r hk
    cases ps with
    | nil => exact ReadsAll.nil
    | cons p ps => cases r
  | @cons e kv es kvs hk hv _ ih =>
    intro ps as r hh
    cases ps with
    | nil => cases r
    | cons p ps =>
      have h0 := hh 0
      have rest : ∀ i : Nat, (kvs[i]?).map (fun kv => match kv.1 with | .inl j => PyData.int j | .inr x => PyData.str x) = (ps[i]?).map (·.1) := fun i => by simpa using hh (i + 1)
      obtain ⟨pk, pv⟩ := p
      obtain ⟨k, v⟩ := kv
      simp at h0
      cases r with
      | cons r1 r2 =>
        have t := ih r2 rest
        show ReadsAll h (e.key :: es.map (·.key)) (pk :: ps.map (·.1)) ([] ++ [])
        refine ReadsAll.cons ?_ t
        rcases keyIs_shape (show keyIs k e.key = true from hk) with ⟨j, u, rfl, e1⟩ | ⟨x, u, rfl, e1⟩
        · rw [e1, ← h0]
          exact Reads.int j u
        · rw [e1, ← h0]
          exact Reads.str x u
theorem pairsVals {P : Program} {w : World} : ∀ {kvs : List (Key × Value)} {es : List DictEntry}, Pairs (mixKind P w) es kvs → es.map (·.val) = kvs.map (·.2) := by
  intro kvs es pr
  induction pr with
  | nil => rfl
  | @cons e kv es kvs _ hv _ ih => rw [List.map_cons, List.map_cons, ih, hv]
theorem kvVals : ∀ {kvs : List (Key × V)} {vs : List (Key × Value)}, KV kvs vs → Vals (kvs.map (·.2)) (vs.map (·.2)) ∧ ∀ i : Nat, (vs[i]?).map (·.1) = (kvs[i]?).map (·.1)
  | _, _, .nil => ⟨.nil, fun i => by simp⟩
  | _, _, .cons r t => by
    obtain ⟨a, b⟩ := kvVals t
    refine ⟨.cons r.2 a, fun i => ?_⟩
    cases i with
    | zero => simp [r.1]
    | succ i => simpa using b i
theorem kvKeys {K : PySem.W.Frag} {H : Hp} : ∀ {kvs : List (Key × V)} {ps : List (PyData × PyData)}, DqKv K H kvs ps → ∀ i : Nat, (kvs[i]?).map (fun kv => match kv.1 with | .inl j => PyData.int j | .inr x => PyData.str x) = (ps[i]?).map (·.1) := by
  intro kvs
  induction kvs with
  | nil =>
    intro ps h i
    cases h
    rfl
  | cons kv kvs ih =>
    intro ps h i
    cases h with
    | consI a b =>
      cases i with
      | zero => rfl
      | succ i => simpa using ih b i
    | consS a b =>
      cases i with
      | zero => rfl
      | succ i => simpa using ih b i
mutual
theorem Dq.reads (S : SysK X.K) (I : Inv X pins σ H s) : ∀ {v : V} {d : PyData} {u : Value}, Dq X.K H v d → RelV v u → ∃ as, Reads s.heap u d as ∧ sysModules ∉ as
  | _, _, _, .non, r => by
    cases r
    exact ⟨_, Reads.none, List.not_mem_nil⟩
  | _, _, _, .bl b, r => by
    cases r
    exact ⟨_, Reads.bool b, List.not_mem_nil⟩
  | _, _, _, .int i, r => by
    obtain ⟨t, rfl⟩ := r
    exact ⟨_, Reads.int i t, List.not_mem_nil⟩
  | _, _, _, .str x, r => by
    obtain ⟨t, rfl⟩ := r
    exact ⟨_, Reads.str x t, List.not_mem_nil⟩
  | _, _, _, .lst hs ha, r => by
    cases r
    obtain ⟨its, rv, ⟨o, n, ho, hc, _, hd⟩, _⟩ := I.list hs
    obtain ⟨as, hr, hn⟩ := DqAll.reads S I ha rv
    exact ⟨_, Reads.list ho hc hd hr, List.not_mem_cons_of_ne_of_not_mem (notSys S I ho hd) hn⟩
  | _, _, _, .tup hs ha, r => by
    cases r
    obtain ⟨its, rv, ⟨o, ho, hc, n, hd⟩, _⟩ := I.tuple hs
    obtain ⟨as, hr, hn⟩ := DqAll.reads S I ha rv
    exact ⟨_, Reads.tuple ho hc hd hr, hn⟩
  | _, _, _, @Dq.dct _ _ a kvs ps e hk, r => by
    cases r
    obtain ⟨_, ns, vs, kv, o, es, ep, ho, ex, hd, _, pr, _⟩ := I.hok a _ e
    obtain ⟨rv, ks⟩ := kvVals kv
    obtain ⟨as, hr, hn⟩ := DqKv.reads S I hk rv
    rw [← pairsVals pr] at hr
    have kr := kvReads pr hr (fun i => by
      rw [← kvKeys hk i]
      have := ks i
      cases q : vs[i]? <;> cases q' : kvs[i]? <;> rw [q, q'] at this <;> simp at this ⊢
      rw [this])
    refine ⟨_, Reads.dict ho ex.1 hd kr hr, ?_⟩
    refine List.not_mem_cons_of_ne_of_not_mem (fun z => ?_) (by simpa using hn)
    rw [← z] at ns
    simp at ns
theorem DqAll.reads (S : SysK X.K) (I : Inv X pins σ H s) : ∀ {vs : List V} {ds : List PyData} {us : List Value}, DqAll X.K H vs ds → Vals vs us → ∃ as, ReadsAll s.heap us ds as ∧ sysModules ∉ as
  | _, _, _, .nil, r => by
    cases r
    exact ⟨_, ReadsAll.nil, List.not_mem_nil⟩
  | _, _, _, .cons h1 h2, .cons r1 r2 => by
    obtain ⟨as, q1, n1⟩ := Dq.reads S I h1 r1
    obtain ⟨bs, q2, n2⟩ := DqAll.reads S I h2 r2
    exact ⟨_, ReadsAll.cons q1 q2, by simp [n1, n2]⟩
theorem DqKv.reads (S : SysK X.K) (I : Inv X pins σ H s) : ∀ {kvs : List (Key × V)} {ps : List (PyData × PyData)} {us : List Value}, DqKv X.K H kvs ps → Vals (kvs.map (·.2)) us → ∃ as, ReadsAll s.heap us (ps.map (·.2)) as ∧ sysModules ∉ as
  | _, _, _, .nil, r => by
    cases r
    exact ⟨_, ReadsAll.nil, List.not_mem_nil⟩
  | _, _, _, .consI h1 h2, .cons r1 r2 => by
    obtain ⟨as, q1, n1⟩ := Dq.reads S I h1 r1
    obtain ⟨bs, q2, n2⟩ := DqKv.reads S I h2 r2
    exact ⟨_, ReadsAll.cons q1 q2, by simp [n1, n2]⟩
  | _, _, _, .consS h1 h2, .cons r1 r2 => by
    obtain ⟨as, q1, n1⟩ := Dq.reads S I h1 r1
    obtain ⟨bs, q2, n2⟩ := DqKv.reads S I h2 r2
    exact ⟨_, ReadsAll.cons q1 q2, by simp [n1, n2]⟩
end
end

/-! ### repr of data -/
def rRepr (K : PySem.W.Frag) : List V → Hp → VK → Prop := fun xs H Q => ∃ (a : Addr) (d : PyData), xs = [.ref a] ∧ Dq K H (.ref a) d ∧ d.showable = true ∧ d.depth ≤ 40 ∧ d.shown.length ≤ sizeLine ∧ Q (.str d.shown) H
theorem call_reprD {X : Cx} (S : SysK X.K) (gd : X.A.guards = some []) (hu : X.A.units + 64 < cLine) : CallR X (.builtin "repr") (rRepr X.K) := by
  intro pins s σ H xs us Q I r h
  obtain ⟨a, d, rfl, hd, sh, dp, sz, q⟩ := h
  cases r with
  | cons r1 r2 =>
    cases r2
    cases r1
    obtain ⟨as, rd, ns⟩ := Dq.reads S I hd rfl
    refine repr_of_reads' rd sh (fun _ => ns) gd (by omega) (fun b o e => e) (fun h' u tk keep => ?_) sz
    exact ⟨.str d.shown, H, I.kept keep, ⟨u, rfl⟩, q⟩
end GL
set_option maxHeartbeats 4000000
/-! Errors of the program as values: made by places and by names, their fields stored and read, isinstance. -/
namespace PySem
namespace GX
open PySem.W PySem.Calls PyProof.Rows PySem.HandSPX Builtin Builtin.ObjectAttr
section
variable {prog : Program} {w : World} {A : Around} {E : Value → Shared → Prop} {R : Result → Shared → Prop} {hp : Heap} {g : Array GenState} {d : Drawn} {t : Nat} {os : OsState}
variable {nm q : Str} {C N : Addr} {bs bm bmB : List Value} {hdct : Bool} {sn : List Str} {sub : List Value} {ab : Bool} {col : Option Bool} {dd : Option Addr} {k0 k1 k2 k3 k5 : Option Value} {B newId initId : String}
theorem tail_some {l : List Value} (hB : bmB.isEmpty = false) (e : excTail bmB l = true) : l.isEmpty = false := by
  cases l with
  | cons _ _ => rfl
  | nil =>
    have q : ([] : List Value) = bmB := beq_iff_eq.mp e
    rw [← q] at hB
    exact hB
/-- the way of a store at an error's object as far as the own dict -/
theorem to_own {K : W.Frag} {name : Str} {tk : Tok} {v : Value} {x : Addr} {ox : Obj} {od : Option Obj} {cd : ClassData} (SB : StoreFacts B bmB "object.__setattr__" "object") (hB : bmB.isEmpty = false) (hO : bmB.contains (.type "object") = true)
    (X : K.In hp) (I : W.InstAt hp x ox C od) (hcd : W.clsIn K C = some cd) (hm : excTail bmB cd.mro = true) (ha : W.findIn K (.ref C) name = some none)
    (h : wpAny (model prog w) A.in1 (storeInOwnDict (.ref x) (.ref C) (.str name tk) name v false)
      (fun fin s' => match fin with | .done f => R (.ok f) s' | .again c' => c'.quiet = true ∧ codeAny (model prog w) A c' R s') (fun e s' => R (.error e) s') ⟨hp, g, d, t, os⟩) :
    codeAny (model prog w) A (.call (.builtin "object.__setattr__") ⟨[.ref x, .str name tk, v], []⟩) R ⟨hp, g, d, t, os⟩ := by
  have SO := F.store_object
  have some_ := tail_some hB hm
  have obj : cd.mro.contains (.type "object") = true := (excTail_contains "object" _ hm).trans hO
  have isO : W.Looks (model prog w) hp (isInstance (.ref x) (.type "object")) true := by
    refine I.type.andThen (W.looks_mroIn X ?_)
    unfold W.mroIn
    rw [hcd, Option.bind_some, some_, obj]
    rfl
  apply codeAny_call_builtin SO.slot.plain SO.entry
  refine @W.check_slot (model prog w) _ _ ⟨hp, g, d, t, os⟩ "object.__setattr__" "object" "__setattr__" (.ref x) [.str name tk, v] [] _ SO.kind SO.split isO (SO.args (.ref x) (.str name tk) v) ?_
  have mro : W.Looks (model prog w) hp (mroOf (.ref C)) cd.mro := (W.looks_clsIn X hcd).andThen .now
  have nobody : W.Looks (model prog w) hp (storeTaker? none) none := .now
  rw [W.osa_eq, refuse_eq]
  apply wpAny_bind
  apply wpAny_bind
  apply I.type.at
  apply wpAny_bind
  apply mro.at
  rw [excTail_pass (.ref x) (SB.passes (.ref x)) _ hm]
  apply wpAny_pure
  apply wpAny_bind
  apply I.type.at
  apply wpAny_bind
  apply (W.looks_findIn X ha).at
  apply wpAny_bind
  apply nobody.at
  exact h
/-- the first field: the error gets its dict -/
theorem store_first {K : W.Frag} {name : Str} {tk : Tok} {v : Value} {x : Addr} {fv : Array Value} {cd : ClassData} (SB : StoreFacts B bmB "object.__setattr__" "object") (hB : bmB.isEmpty = false) (hO : bmB.contains (.type "object") = true)
    (X : K.In hp) (hx : hp.get? x = some { cls := .ref C, data := .fields fv }) (hcd : W.clsIn K C = some cd) (hm : excTail bmB cd.mro = true) (hh : cd.hasDict = true) (ha : W.findIn K (.ref C) name = some none)
    (hq : ∀ h' tk' dx, (∀ b o, b ≠ x → hp.get? b = some o → h'.get? b = some o) → hp.objs.size ≤ dx → dx ≠ x → h'.get? x = some { cls := .ref C, dict := some dx, data := .fields fv } →
      h'.Ns1 dx (fun y => if y = name then some v else none) → R (.ok (.ret .none)) ⟨h', g, d, tk', os⟩) :
    codeAny (model prog w) A (.call (.builtin "object.__setattr__") ⟨[.ref x, .str name tk, v], []⟩) R ⟨hp, g, d, t, os⟩ := by
  have I : W.InstAt hp x { cls := .ref C, data := .fields fv } C none := ⟨hx, rfl, rfl, trivial⟩
  have cl : W.Looks (model prog w) hp (classData C) cd := W.looks_clsIn X hcd
  have apart : x ≠ hp.objs.size := Nat.ne_of_lt (Heap.lt_size hx)
  apply to_own SB hB hO X I hcd hm ha
  rcases cd with ⟨n1, n2, n3, n4, n5, n6, n7, n8, n9, n10, n11⟩
  cases (show n6 = true from hh)
  unfold storeInOwnDict ownDictForStores
  repeat (first | with_reducible refine HandSPX.store_in_new ?_ ?_ | with_reducible refine wpAny_loadPart_at hx ?_ | with_reducible refine cl.at ?_ | wp_step)
  · exact ⟨_, #[], _, (Heap.get?_update_ne _ _ _ _ apart.symm).trans (Heap.get?_push_at rfl rfl), rfl, fun e he => absurd he (by simp), fun _ => rfl⟩
  · intro h' tk' named but
    have there : (hp.push { cls := .type "dict", data := .dict #[] }).get? x = some { cls := .ref C, data := .fields fv } := Heap.get?_push_of_some _ hx
    apply hq h' tk' hp.objs.size
    · intro b o hb ho
      rw [but.2 b (Nat.ne_of_lt (Heap.lt_size ho)), Heap.get?_update_ne _ _ _ _ hb]
      exact Heap.get?_push_of_some _ ho
    · exact Nat.le_refl _
    · exact apart.symm
    · rw [but.2 x apart]
      exact Heap.get?_update_self _ there rfl
    · exact named
/-- a further field -/
theorem store_next {K : W.Frag} {name : Str} {tk : Tok} {v : Value} {x dx : Addr} {fv : Array Value} {cd : ClassData} {m0 : Str → Option Value} {nl : List Str} (SB : StoreFacts B bmB "object.__setattr__" "object") (hB : bmB.isEmpty = false) (hO : bmB.contains (.type "object") = true)
    (X : K.In hp) (hx : hp.get? x = some { cls := .ref C, dict := some dx, data := .fields fv }) (hns : hp.Ns1 dx m0) (hw : Within m0 nl) (hz : nl.length ≤ 1000) (hcd : W.clsIn K C = some cd) (hm : excTail bmB cd.mro = true) (hh : cd.hasDict = true) (ha : W.findIn K (.ref C) name = some none)
    (hq : ∀ h' tk', (∀ b o, b ≠ dx → hp.get? b = some o → h'.get? b = some o) → h'.Ns1 dx (fun y => if y = name then some v else m0 y) → R (.ok (.ret .none)) ⟨h', g, d, tk', os⟩) :
    codeAny (model prog w) A (.call (.builtin "object.__setattr__") ⟨[.ref x, .str name tk, v], []⟩) R ⟨hp, g, d, t, os⟩ := by
  obtain ⟨oD, esD, epD, atD, isD, _⟩ := hns.count hw
  have I : W.InstAt hp x { cls := .ref C, dict := some dx, data := .fields fv } C (some oD) := ⟨hx, rfl, rfl, atD⟩
  have cl : W.Looks (model prog w) hp (classData C) cd := W.looks_clsIn X hcd
  apply to_own SB hB hO X I hcd hm ha
  rcases cd with ⟨n1, n2, n3, n4, n5, n6, n7, n8, n9, n10, n11⟩
  cases (show n6 = true from hh)
  unfold storeInOwnDict ownDictForStores
  repeat (first | with_reducible refine OEX.store_in_old hns hw hz ?_ | with_reducible refine wpAny_loadPart_at hx ?_ | with_reducible refine cl.at ?_ | wp_step)
  intro h' tk' named but
  exact hq h' tk' (fun b o hb ho => (but.2 b hb).trans ho) named

/-! ### C(.., k = ..) of an error class with an __init__ of its own -/
theorem made (FB : ExcBaseFacts B newId initId bmB) (hT : ∀ X : String, bm.contains (.type X) = bmB.contains (.type X)) {rest : List Value} {kw : List (Str × Value)} {fI : Addr}
    (hC : hp.get? C = some (excClassObj nm q C N bs bm hdct sn sub ab col dd k0 k1 k2 k3 k5 newId))
    (hi : W.Looks (model prog w) hp (typeLookup (.ref C) "__init__") (some (.ref fI))) (hb : ∀ self, W.Looks (model prog w) hp (bindSpecial (.ref fI) self) (.ref fI, [self])) (hrest : rest.length ≤ sizeLine)
    (hq : codeAny (model prog w) (A.under (.builtin "type.__call__" ⟨.ref C :: rest, kw⟩)) (.call (.ref fI) ⟨.ref (hp.objs.size + 1) :: rest, kw⟩) (W.InitBack (hp.objs.size + 1) R)
      ⟨(hp.push (W.kdv_tup rest)).push (excO C hp.objs.size), g, d, t, os⟩) :
    codeAny (model prog w) A (.call (.ref C) ⟨rest, kw⟩) R ⟨hp, g, d, t, os⟩ := by
  have f1 := tc_lookup
  have f2 := tc_bind (.ref C)
  have isC : (⟨hp, g, d, t, os⟩ : Shared).TypeIs (.ref C) "type" := ⟨_, hC, rfl⟩
  have kept : ∀ b o, hp.get? b = some o → ((hp.push (W.kdv_tup rest)).push (excO C hp.objs.size)).get? b = some o := fun b o e => Heap.get?_push_of_some _ (Heap.get?_push_of_some _ e)
  have inB : (Value.ref C :: bm).contains (.type B) = true := by rw [List.contains_cons, hT, FB.hasB, Bool.or_true]
  have noA : (Value.ref C :: bm).contains (.type "AttributeError") = false := by rw [List.contains_cons, hT, FB.noAttr]; rfl
  have noN : (Value.ref C :: bm).contains (.type "NameError") = false := by rw [List.contains_cons, hT, FB.noName]; rfl
  have inC : (Value.ref C :: bm).contains (.ref C) = true := by simp
  have ends := FB.ends
  have star := FB.noStar
  apply codeAny_of_tree
  show wpAny _ _ (callAny (.ref C) _) _ _ _
  repeat (any_goals (first | assumption | with_reducible refine wpAny_loadPart_at hC ?_ | wp_step))
  refine ⟨rfl, ?_⟩
  apply codeAny_call_builtin_at (Code.quiet_builtin _ (by decide +kernel)) entry_typeCall
  apply wpAny_check_type_call_sub hC
  repeat (first | with_reducible refine wpAny_loadPart_at hC ?_ | with_reducible refine wpAny_madeBy_exc hC ?_ | wp_step)
  apply codeAny_call_builtin_code (Code.quiet_builtin _ FB.quiet)
  simp only [checkBuiltinCall, FB.newKind, FB.newSplit, FB.newRow]
  repeat (first | refine wpAny_loadPart_at hC ?_ | (refine wpAny_isSubtype_exc hC ?_; rw [inB]) | refine wpAny_staticBase_exc hC ?_ | refine wpAny_madeBy_exc hC ?_ | simp only [bne_self_eq_false, Bool.false_eq_true, if_false] | wp_step)
  show codeAny _ _ (Code.builtin newId { pos := Value.ref C :: rest, kw := kw }) _ _
  refine codeAny_builtinAt FB.entry ?_
  unfold Builtin.«BaseException.__new__»
  apply wpAt_bind
  show wpAt _ _ _ (stack >>= _) _ _ _
  refine wpAt_bind (wpAt_stack fun p below => wpAt_of_wpAny ?_)
  wp_walk
  apply wpAt_of_wpAny
  rw [FB.owner]
  repeat (first | with_reducible refine wpAny_madeHere_exc FB.canon hC ?_ | with_reducible refine wpAny_loadPart_at hC ?_ | (with_reducible refine wpAny_isSubtype_exc hC ?_; first | rw [inB] | rw [noA] | rw [noN]) | wp_step)
  show wpAny _ _ _ _ _ _
  rw [Heap.size_push]
  have hC₁ := kept _ _ hC
  have new : ((hp.push (W.kdv_tup rest)).push (excO C hp.objs.size)).get? (hp.objs.size + 1) = some (excO C hp.objs.size) := by heap_get
  have i1 := hi.keeps kept
  have b1 := (hb (.ref (hp.objs.size + 1))).keeps kept
  show wpAny _ _ (isSubtype (.ref C) (.ref C)) _ _ ⟨(hp.push (W.kdv_tup rest)).push (excO C hp.objs.size), g, d, t, os⟩
  refine wpAny_isSubtype_exc hC₁ ?_
  rw [inC]
  repeat (first | with_reducible refine wpAny_loadPart_at new ?_ | wp_step)
  show wpAny _ _ (typeLookup (.ref C) _) _ _ _
  apply i1.at
  apply wpAny_holding
  apply wpAny_bind
  apply b1.at
  apply wpAny_bind
  apply wpAny_call
  refine codeAny_mono hq fun r s' z => ?_
  rcases r with e | (v | _ | _ | _) <;> first | exact z | exact z.elim | skip
  obtain ⟨rfl, z⟩ := z
  first
    | exact wpAny_pure (wpAny_pure z)
    | (wp_walk; exact z)
end
end GX
end PySem
set_option maxHeartbeats 4000000
namespace GL
open PySem PySem.Spec PyProof.Rows L2
/-! ### the hook: the library's facts, and any Bool over the written part, the table of modules in it -/
def kOf (n : Nat) (g : Addr → Option Obj) : PySem.W.Frag := He.frG g (sysModules :: He.asD g n)
abbrev AlX : Type := He.AlD × Bool
def obsX (n : Nat) (fa : List He.Fa) (fn : List He.DefD) (ex : PySem.W.Frag → Bool) (g : Addr → Option Obj) : AlX := (He.obsD fa fn (kOf n g), ex (kOf n g))
def hookX (n : Nat) (fa : List He.Fa) (fn : List He.DefD) (ex : PySem.W.Frag → Bool) : PySem.W.Hook where
  α := AlX
  obs := fun s => obsX n fa fn ex s.heap.get?
  val := fun _ => (He.valD fn, true)
  says := fun _ h => ∃ K : PySem.W.Frag, K.In h ∧ He.SaysD fa fn K ∧ ex K = true
  of := fun _ _ e => ⟨_, He.frG_in, congrArg (fun z : AlX => z.1) e, congrArg (fun z : AlX => z.2) e⟩
  keeps := fun _ _ _ ⟨K, hK, c⟩ k => ⟨K, PySem.W.Frag.In.keeps hK k, c⟩
theorem obsX_eq {n : Nat} {fa : List He.Fa} {fn : List He.DefD} {ex : PySem.W.Frag → Bool} {g : Addr → Option Obj} {s : Shared} (h : ∀ a, g a = s.heap.get? a) : obsX n fa fn ex g = (hookX n fa fn ex).obs s := by
  have e : g = s.heap.get? := funext h
  rw [e]
  rfl
def sysB (K : PySem.W.Frag) : Bool := match K.lookup sysModules with
  | some ⟨_, _, .dict _ _, _⟩ => true
  | _ => false
theorem sysB_ok {K : PySem.W.Frag} (h : sysB K = true) : SysK K := by
  unfold sysB at h
  cases q : K.lookup sysModules with
  | none =>
    rw [q] at h
    cases h
  | some o =>
    obtain ⟨c, dd, dt, sl⟩ := o
    rw [q] at h
    cases dt with
    | dict es ep => exact ⟨_, es, ep, q, rfl⟩
    | _ => cases h

/-! ### classes of errors -/
inductive EB where
  | ve | le | re
  deriving DecidableEq
def EB.name : EB → String
  | .ve => "ValueError"
  | .le => "LookupError"
  | .re => "RuntimeError"
def EB.new : EB → String
  | .ve => "ValueError.__new__"
  | .le => "LookupError.__new__"
  | .re => "RuntimeError.__new__"
def EB.tail (b : EB) : List Value := [.type b.name, .type "Exception", .type "BaseException", .type "object"]
theorem EB.base (b : EB) : ∃ i, ExcBaseFacts b.name b.new i b.tail := by
  cases b with
  | ve => exact ⟨_, PySem.F.excBase_ValueError⟩
  | le => exact ⟨_, PySem.F.excBase_LookupError⟩
  | re => exact ⟨_, PySem.F.excBase_RuntimeError⟩
theorem EB.store (b : EB) : StoreFacts b.name b.tail "object.__setattr__" "object" := by
  cases b with
  | ve => exact PySem.F.store_ValueError
  | le => exact PySem.F.store_LookupError
  | re => exact PySem.F.store_RuntimeError
theorem EB.obj (b : EB) : b.tail.contains (.type "object") = true := by cases b <;> decide +kernel
/-- what the written part says of a class of errors -/
structure XC (K : PySem.W.Frag) (C : Addr) (b : EB) : Prop where
  cls : ∃ nm q N bs bm sn sub ab col dd k0 k1 k2 k3 k5, K.lookup C = some (excClassObj nm q C N bs bm true sn sub ab col dd k0 k1 k2 k3 k5 b.new) ∧ PySem.W.excTail b.tail bm = true
  sa : PySem.W.findIn K (.ref C) "__setattr__" = some (some (.builtin "object.__setattr__"))
  ga : PySem.W.findIn K (.ref C) "__getattribute__" = some (some (.builtin "BaseException.__getattribute__"))
  gg : PySem.W.findIn K (.ref C) "__getattr__" = some none
  kl : PySem.W.findIn K (.ref C) "__class__" = some (some (.builtin "object.__class__"))
  exB : PySem.W.subIn K (.ref C) (.type "BaseException") = some true
  ob : PySem.W.mroIn K C (.type "object") = some true
  keep : PySem.W.keepIn K (.ref C) = true
def xcB (K : PySem.W.Frag) (C : Addr) (b : EB) : Bool :=
  (match K.lookup C with
  | some ⟨.type "type", _, .cls cd, sl⟩ => (match cd.mro, sl.toList with
    | .ref C' :: bm, [_, _, _, _, some (.builtin n), _] => C' == C && (n == b.new && (!cd.hasDel && (cd.hasDict && PySem.W.excTail b.tail bm)))
    | _, _ => false)
  | _ => false) &&
  (He.eqO (PySem.W.findIn K (.ref C) "__setattr__") (some (some (.builtin "object.__setattr__"))) && (He.eqO (PySem.W.findIn K (.ref C) "__getattribute__") (some (some (.builtin "BaseException.__getattribute__"))) &&
  (He.eqO (PySem.W.findIn K (.ref C) "__getattr__") (some none) && (He.eqO (PySem.W.findIn K (.ref C) "__class__") (some (some (.builtin "object.__class__"))) &&
  (decide (PySem.W.subIn K (.ref C) (.type "BaseException") = some true) && (decide (PySem.W.mroIn K C (.type "object") = some true) && PySem.W.keepIn K (.ref C)))))))
theorem xcB_ok {K : PySem.W.Frag} {C : Addr} {b : EB} (h : xcB K C b = true) : XC K C b := by
  obtain ⟨h0, h⟩ := He.ba h
  obtain ⟨h1, h⟩ := He.ba h
  obtain ⟨h2, h⟩ := He.ba h
  obtain ⟨h3, h⟩ := He.ba h
  obtain ⟨h4, h⟩ := He.ba h
  obtain ⟨h5, h⟩ := He.ba h
  obtain ⟨h6, h7⟩ := He.ba h
  refine ⟨?_, He.eqO_ok h1, He.eqO_ok h2, He.eqO_ok h3, He.eqO_ok h4, of_decide_eq_true h5, of_decide_eq_true h6, h7⟩
  split at h0
  · rename_i dd cd sl ho
    split at h0
    · rename_i C' bm k0 k1 k2 k3 n k5 hm hs
      simp only [Bool.and_eq_true, beq_iff_eq, Bool.not_eq_true'] at h0
      obtain ⟨rfl, rfl, e1, e2, e3⟩ := h0
      obtain ⟨nm, bs, mro, ns, qn, hd, sn, sub, ab, col, del⟩ := cd
      dsimp only at hm e1 e2
      subst hm e1 e2
      have hsl : sl = #[k0, k1, k2, k3, some (.builtin b.new), k5] := by
        obtain ⟨l⟩ := sl
        simp only at hs
        rw [hs]
      subst hsl
      exact ⟨nm, qn, ns, bs, bm, sn, sub, ab, col, dd, k0, k1, k2, k3, k5, ho, e3⟩
    · cases h0
  · cases h0
theorem XC.data {K : PySem.W.Frag} {C : Addr} {b : EB} (T : XC K C b) : ∃ cd, PySem.W.clsIn K C = some cd ∧ PySem.W.excTail b.tail cd.mro = true ∧ cd.hasDict = true := by
  obtain ⟨nm, q, N, bs, bm, sn, sub, ab, col, dd, k0, k1, k2, k3, k5, hC, hbm⟩ := T.cls
  refine ⟨{ name := nm, bases := bs, mro := .ref C :: bm, ns := N, qualname := q, hasDict := true, slotNames := sn, subclasses := sub, abstract := ab, collection := col, hasDel := false }, ?_, hbm, rfl⟩
  unfold PySem.W.clsIn
  rw [hC]

section
variable {X : Cx} {pins : List (Addr × Obj)} {σ : L2.St} {H : Hp} {s : Shared} {a C dx : Addr} {b : EB} {f : Str} {y : V} {u : Value} {fs : List (Str × V)} {Q : Unit → Shared → Prop} {E : Value → Shared → Prop} {A : Around}
theorem put_first (T : XC X.K C b) (I : Inv X pins σ H s) (e : H a = some (exo a C none)) (hno : PySem.W.findIn X.K (.ref C) f = some none) (ry : RelV y u)
    (h : ∀ dx s', H dx = none → dx ≠ a → Inv X pins σ (upd (upd H dx (exd dx [(f, y)])) a (exo a C (some dx))) s' → Q () s') : wpAny (model X.prog X.w) A (setAttr (.ref a) f u) Q E s := by
  obtain ⟨cd, hcl, tl, hd⟩ := T.data
  obtain ⟨t1, ho⟩ := exo_at I.hok e
  rcases s with ⟨hp, g, d, t, os⟩
  refine PySem.W.set_plain I.kIn (ox := { cls := .ref C, dict := none, data := .fields #[.ref t1, .none, .none, .none, .bool false, .none] }) (od := none) ⟨ho, rfl, rfl, trivial⟩ T.sa ?_
  refine PySem.GX.store_first b.store rfl b.obj I.kIn ho hcl tl hd hno (fun h' tk' dx k dn dne hx hn => ?_)
  have newD : H dx = none := I.hok.fresh dn
  have offD : ∀ {c : Addr} {o : Obj}, hp.get? c = some o → c ≠ dx := fun q => Nat.ne_of_lt (Nat.lt_of_lt_of_le (Heap.lt_size q) dn)
  have offA : ∀ {c : Addr}, H c = none → c ≠ a := by
    rintro c n rfl
    rw [e] at n
    cases n
  refine h dx _ newD dne (I.un (t' := tk') ?_ fun c o q => ?_)
  · exact {
      keep := fun c o q n _ _ => k c o (offA n) q
      slot := fun c o q n _ _ => ⟨o.slots, k c o (offA n) q⟩
      free := fun c o q n _ => by rw [upd_ne (offA n), upd_ne (offD q)]; exact n
      there := fun c o q _ => by
        by_cases hc : c = a
        · exact ⟨_, by rw [hc]; exact hx⟩
        · exact ⟨o, k c o hc q⟩
      tups := fun c xs q => by rw [upd_ne (at_ne e q exo_tup), upd_ne (ne_of_none q newD)]; exact q
      frzs := fun c o v q => by rw [upd_ne (at_ne e q exo_frz), upd_ne (ne_of_none q newD)]; exact q
      tbls := fun c ps q => ⟨#[], by rw [upd_ne (at_ne e q exo_tbl), upd_ne (ne_of_none q newD), q]; simp⟩ }
  · by_cases hc : c = a
    · subst hc
      rw [upd_same] at q
      cases q
      exact exo_ok hx
    · rw [upd_ne hc] at q
      by_cases hd : c = dx
      · subst hd
        rw [upd_same] at q
        cases q
        exact exd_ok hn (relO_put (fs := []) ry fun g => True.intro)
      · rw [upd_ne hd] at q
        refine (I.hok c o q).stay (fun c' v hc' z => k c' v ?_ z) (fun c' hc' => ?_) (fun c' xs hc' => ?_)
        · rcases hc' with hc' | hc'
          · rw [hc']
            exact hc
          · exact at_ne e hc' exo_own
        · rw [upd_ne (at_ne e hc' exo_own), upd_ne (ne_of_none hc' newD)]
          exact hc'
        · rw [upd_ne (at_ne e hc' exo_tup), upd_ne (ne_of_none hc' newD)]
          exact hc'
theorem put_next (T : XC X.K C b) (I : Inv X pins σ H s) (e : H a = some (exo a C (some dx))) (ed : H dx = some (exd dx fs)) (hl : fs.length ≤ 900) (hno : PySem.W.findIn X.K (.ref C) f = some none) (ry : RelV y u)
    (h : ∀ s', Inv X pins σ (upd H dx (exd dx ((f, y) :: fs))) s' → Q () s') : wpAny (model X.prog X.w) A (setAttr (.ref a) f u) Q E s := by
  obtain ⟨cd, hcl, tl, hd⟩ := T.data
  obtain ⟨t1, ho⟩ := exo_at I.hok e
  obtain ⟨mA, hns, rel⟩ := exd_at I.hok ed
  have hw := within_of rel
  rcases s with ⟨hp, g, d, t, os⟩
  obtain ⟨oD, _, _, hoD, _, _⟩ := hns.count hw
  refine PySem.W.set_plain I.kIn (ox := { cls := .ref C, dict := some dx, data := .fields #[.ref t1, .none, .none, .none, .bool false, .none] }) (od := some oD) ⟨ho, rfl, rfl, hoD⟩ T.sa ?_
  refine PySem.GX.store_next b.store rfl b.obj I.kIn ho hns hw (by rw [List.length_map]; omega) hcl tl hd hno (fun h' tk' k hn => ?_)
  have hd : ∃ o, h'.get? dx = some o := by
    obtain ⟨o, _, _, e', _⟩ := hn
    exact ⟨o, e'⟩
  exact h _ (I.write (t' := tk') (x := dx) (e := dx) (o := exd dx ((f, y) :: fs)) (by rw [ed]; exact True.intro) (.inl rfl) k hd (exd_ok hn (relO_put ry rel)))
end
/-- self.f = e in an __init__ of an error -/
def tPut (K : PySem.W.Frag) (f : Str) (to te : TE) : TS := fun D σ H => te σ H fun y H1 => to σ H1 fun x H2 => ∃ (a C : Addr) (b : EB), x = .ref a ∧ XC K C b ∧ PySem.W.findIn K (.ref C) f = some none ∧
  ((H2 a = some (exo a C none) ∧ ∀ dx, H2 dx = none → dx ≠ a → D.nx σ (upd (upd H2 dx (exd dx [(f, y)])) a (exo a C (some dx)))) ∨
    ∃ (dx : Addr) (fs : List (Str × V)), H2 a = some (exo a C (some dx)) ∧ H2 dx = some (exd dx fs) ∧ fs.length ≤ 900 ∧ D.nx σ (upd H2 dx (exd dx ((f, y) :: fs))))
section
variable {X : Cx} {o e : Expr} {es : List Expr} {to te : TE} {ta : TA} {f : Str} {p p' p1 p2 pos : Pos}
theorem ps_put (ho : PE X o to) (he : PE X e te) (hs : swapsWith e (some (.Attribute o f p')) pos.line X.env = pure false := by rfl) : PS X (.Assign [.Attribute o f p'] e pos) (tPut X.K f to te) := by
  constructor
  intro pins s σ H D I h
  refine plainObj_wpAny_Assign_Attribute (thn (he.run pins s σ H _ I h) ?_) hs
  rintro v s1 ⟨y, H1, I1, r1, q1⟩
  refine thn (ho.run pins s1 σ H1 _ I1 q1) ?_
  rintro u s2 ⟨x, H2, I2, r2, a, C, b, rfl, T, hno, q⟩
  cases (show u = Value.ref a from r2)
  rcases q with ⟨ea, q⟩ | ⟨dx, fs, ea, ed, hl, q⟩
  · exact put_first T I2 ea hno r1 fun dx s' n ne J => ⟨σ, _, J, q dx n ne⟩
  · exact put_next T I2 ea ed hl hno r1 fun s' J => ⟨σ, _, J, q⟩

/-! ### an error made, as a value -/
/-- its __init__ runs with these parameters -/
def tErr (C : Addr) (sp : Sp) (t : TA) : TE := fun σ H Q => t σ H fun vs H1 => vs.length ≤ 1000 ∧ ∀ a, H1 a = none → sp (.ref a :: vs) (upd H1 a (exo a C none)) (fun v H2 => v = .non ∧ Q (.ref a) H2) E0
theorem run_err {pins : List (Addr × Obj)} {σ : L2.St} {H : Hp} {s : Shared} {Q : VK} {C fI : Addr} {b : EB} {k : Nat} {fd : FuncData} {ps : List Str} {sp : Sp} {us all : List Value} {kw : List (Str × Value)} {vs : List V} (T : XC X.K C b)
    (iC : PySem.W.findIn X.K (.ref C) "__init__" = some (some (.ref fI))) (tI : PySem.W.typeIn X.K (.ref fI) = some (.type "function")) (F1 : FnOk X.prog X.w X.K X.mg X.base CX0 k fI fd ps sp) (hr : Room (k + 1) X.A)
    (hb : ∀ (s' : Shared) (z : Value), X.K.In s'.heap → BindsTo s' fd ⟨z :: us, kw⟩ (ps.zip (z :: all))) (hl : us.length ≤ 1000) (I : Inv X pins σ H s) (r : Vals vs all)
    (h : ∀ a, H a = none → sp (.ref a :: vs) (upd H a (exo a C none)) (fun v H2 => v = .non ∧ Q (.ref a) H2) E0) :
    wpAny (model X.prog X.w) X.A (PySem.call (.ref C) us kw) (EP X pins σ Q) X.xe s := by
  obtain ⟨nm, q, N, bs, bm, sn, sub, ab, col, dd, k0, k1, k2, k3, k5, hC, hbm⟩ := T.cls
  obtain ⟨i, FB⟩ := b.base
  rcases s with ⟨hp, g, dr, tk, os⟩
  have hsz : hp.objs.size ≤ hp.objs.size + 1 := Nat.le_succ _
  have hn : H (hp.objs.size + 1) = none := I.hok.fresh hsz
  have hq := h (hp.objs.size + 1) hn
  have kk : ∀ b o, hp.get? b = some o → ((hp.push (PySem.W.kdv_tup us)).push (PySem.HandSPX.excO C hp.objs.size)).get? b = some o := fun b o e => Heap.get?_push_of_some _ (Heap.get?_push_of_some _ e)
  have hget : ((hp.push (PySem.W.kdv_tup us)).push (PySem.HandSPX.excO C hp.objs.size)).get? (hp.objs.size + 1) = some (PySem.HandSPX.excO C hp.objs.size) := by heap_get
  have J : Inv X pins σ (upd H (hp.objs.size + 1) (exo (hp.objs.size + 1) C none)) ⟨(hp.push (PySem.W.kdv_tup us)).push (PySem.HandSPX.excO C hp.objs.size), g, dr, tk, os⟩ := I.laid (t' := tk) kk hsz (exo_ok hget)
  have rr : Vals (V.ref (hp.objs.size + 1) :: vs) (Value.ref (hp.objs.size + 1) :: all) := .cons rfl r
  have small : us.length ≤ sizeLine := by
    rw [sizeLine_eq]
    omega
  refine wpAny_call (PySem.GX.made FB (fun Y => PySem.W.excTail_contains Y bm hbm) (I.kIn _ _ hC) (PySem.W.looks_findIn I.kIn iC) (fun self => PySem.W.bind_fn I.kIn self tI) small ?_)
  refine codeAny_mono (F1.run _ X.stack _ _ ⟨Value.ref (hp.objs.size + 1) :: us, kw⟩ (Value.ref (hp.objs.size + 1) :: all) _ _ E0 (hr.make C us kw) (J.env0.make C us kw) (hb _ _ J.kIn) rr hq) ?_
  intro r' s' z
  match r', z with
  | .error er, z => exact False.elim z
  | .ok .next, z => exact False.elim z
  | .ok .brk, z => exact False.elim z
  | .ok .cont, z => exact False.elim z
  | .ok (.ret u), z =>
    obtain ⟨v, H', K1, rv, rfl, q3⟩ := J.after z
    exact ⟨rv, V.ref (hp.objs.size + 1), H', K1, rfl, q3⟩
theorem pe_err {x : Str} {C fI : Addr} {b : EB} {k : Nat} {fd : FuncData} {ps : List Str} {sp : Sp} (T : XC X.K C b) (iC : PySem.W.findIn X.K (.ref C) "__init__" = some (some (.ref fI))) (tI : PySem.W.typeIn X.K (.ref fI) = some (.type "function"))
    (F1 : FnOk X.prog X.w X.K X.mg X.base CX0 k fI fd ps sp) (hr : Room (k + 1) X.A) (hb : Binds X.K fd ps []) (hg : Gl X x) (hm : X.mg x = some (.ref C)) (ha : PA X (e :: es) ta)
    (hdb : (x == ("__debug__" : Str)) = false := by decide) (he : starEach (e :: es) X.env = (false, eval e X.env) :: starEach es X.env := by rfl) (hpl : (backTo pos (starEach es X.env)).any (·.1) = false := by rfl) :
    PE X (.Call (.Name x p) (e :: es) [] pos) (tErr C sp ta) := by
  constructor
  intro pins s σ H Q I h
  apply wpAny_Call_Name_kw
  refine ld_glob I hg hm ?_ hdb
  refine PySem.W.callWith_K (h₀ := X.base) I.ok.mod.kin T.keep (thn (ha.run pos pins s σ H _ I h) ?_) he hpl
  rintro us s1 ⟨vs, H1, I1, r1, hz, q1⟩
  refine ⟨I1.kIn, run_err T iC tI F1 hr (all := us) (fun s' z kin => ?_) (by show us.length ≤ 1000; rw [← Paired.length r1]; exact hz) I1 r1 q1⟩
  have l := F1.len _ _ _ _ (q1 s1.heap.objs.size (I1.hok.fresh (Nat.le_refl _)))
  have b := hb s' (z :: us) kin (by rw [List.append_nil, ← l, List.length_cons, List.length_cons, Paired.length r1])
  simpa using b
end

/-! ### an error's field, isinstance of an error -/
/-- an error of the class at C with these fields -/
def ErrAt (H : Hp) (e C : Addr) (fs : List (Str × V)) : Prop := (fs = [] ∧ H e = some (exo e C none)) ∨ ∃ d, H e = some (exo e C (some d)) ∧ H d = some (exd d fs)
theorem ErrAt.same {H H' : Hp} {e C : Addr} {fs : List (Str × V)} (h : ErrAt H e C fs) (k : Same H H') : ErrAt H' e C fs := by
  rcases h with ⟨rfl, a⟩ | ⟨d, a, b⟩
  · exact .inl ⟨rfl, k _ _ a⟩
  · exact .inr ⟨d, k _ _ a, k _ _ b⟩
theorem ErrAt.inst {X : Cx} {pins : List (Addr × Obj)} {σ : L2.St} {H : Hp} {s : Shared} {e C : Addr} {fs : List (Str × V)} (I : Inv X pins σ H s) (h : ErrAt H e C fs) : ∃ ox od, PySem.W.InstAt s.heap e ox C od ∧ ∀ f v, fs.lookup f = some v → ∃ u oD, od = some oD ∧ RelV v u ∧ PySem.W.lookIn f oD = some (some u) := by
  rcases h with ⟨rfl, a⟩ | ⟨d, a, b⟩
  · obtain ⟨t, ho⟩ := exo_at I.hok a
    exact ⟨_, none, ⟨ho, rfl, rfl, trivial⟩, fun f v z => nomatch z⟩
  · obtain ⟨t, ho⟩ := exo_at I.hok a
    obtain ⟨mA, hns, hr⟩ := exd_at I.hok b
    obtain ⟨oD, hD, hl⟩ := lookIn_ns hns
    refine ⟨_, some oD, ⟨ho, rfl, rfl, hD⟩, fun f v z => ?_⟩
    obtain ⟨u, hu, ru⟩ := RelO.some_of (v := v) (o := mA f) (by rw [← z]; exact hr f)
    exact ⟨u, oD, rfl, ru, by rw [hl, hu]⟩
def tErrFld (K : PySem.W.Frag) (te : TE) (f : Str) : TE := fun σ H Q => te σ H fun x H1 => ∃ (a C : Addr) (b : EB) (fs : List (Str × V)) (v : V), x = .ref a ∧ XC K C b ∧ PySem.W.findIn K (.ref C) f = some none ∧ ErrAt H1 a C fs ∧ fs.lookup f = some v ∧ Q v H1
theorem pe_errfld {X : Cx} {e : Expr} {te : TE} {f : Str} {pos : Pos} (he : PE X e te) (hb : attributeBase e f X.env (eval e X.env) = eval e X.env := by rfl) : PE X (.Attribute e f pos) (tErrFld X.K te f) := by
  constructor
  intro pins s σ H Q I h
  refine attr_of hb (thn (he.run pins s σ H _ I h) ?_)
  rintro u s1 ⟨x, H1, I1, rx, a, C, b, fs, v, rfl, T, no, ea, l, q⟩
  cases (show u = Value.ref a from rx)
  obtain ⟨ox, od, J, look⟩ := ea.inst I1
  obtain ⟨u, oD, rfl, ru, hl⟩ := look f v l
  obtain ⟨cd, hcl, _, hd⟩ := T.data
  have hdct : PySem.W.hasDictIn X.K C = true := by
    unfold PySem.W.hasDictIn
    rw [hcl]
    exact hd
  exact HandSPX.exc_get I1.kIn J T.ga T.gg T.exB (PySem.W.findObj_own hdct no rfl hl) (handed_of ru) ⟨v, H1, I1.tok _, ru, q⟩
def rErrIs (K : PySem.W.Frag) : List V → Hp → VK → Prop := fun xs H Q => ∃ (a C : Addr) (b : EB) (fs : List (Str × V)) (c : V) (cv : Value) (k : Bool), xs = [.ref a, c] ∧ XC K C b ∧ ErrAt H a C fs ∧ ClsV c cv ∧ PySem.W.kitOne K (.ref C) cv = some k ∧ Q (.bl k) H
theorem call_errIs {X : Cx} (hn : PySem.W.specialIn X.K (.builtin "object.__class__") "__get__" = some (some (.builtin "getset_descriptor.__get__"))) (ht : PySem.W.takesIn X.K (.builtin "object.__class__") = some true) : CallR X (.builtin "isinstance") (rErrIs X.K) := by
  intro pins s σ H xs us Q I r h
  obtain ⟨a, C, b, fs, c, cv, k, rfl, T, ea, hc, e, q⟩ := h
  obtain ⟨u1, u2, rfl, r1, r2⟩ := vals2 r
  cases (show u1 = Value.ref a from r1)
  cases hc.eq r2
  obtain ⟨ox, od, J, _⟩ := ea.inst I
  obtain ⟨cd, hcl, _, _⟩ := T.data
  exact PySem.W.kia_one (PySem.W.kitx_exc (by rw [hcl]; rfl) T.ga T.gg T.exB T.kl hn ht T.ob) I.kIn J e (fun z => nomatch z) fun tk => ⟨.bl k, H, I.tok tk, rfl, q⟩
end GL
set_option maxHeartbeats 4000000
namespace GL
open PySem PySem.Spec PyProof.Rows L2
theorem PE.imp {X : Cx} {e : Expr} {t t' : TE} (h : PE X e t) (k : ∀ σ H Q, t' σ H Q → t σ H Q) : PE X e t' := ⟨fun pins s σ H Q I q => h.run pins s σ H Q I (k σ H Q q)⟩
theorem PA.imp {X : Cx} {es : List Expr} {t t' : TA} (h : PA X es t) (k : ∀ σ H Q, t' σ H Q → t σ H Q) : PA X es t' := ⟨fun pos pins s σ H Q I q => h.run pos pins s σ H Q I (k σ H Q q)⟩
theorem fun_of {K : PySem.W.Frag} {x q : Str} {st : Stmt} {kws : List (Str × V)} {f : Addr} {fd : FuncData} (F : FunD K x q (defArgs st) (defBody st) (defScope st) [] kws f fd) : L2.Fun K x q st f fd := by
  obtain ⟨⟨oc, od, dV, kV, doc, pm, an, cdv, ct, osl, e, lk, hcd, hD, hK⟩, kp⟩ := F
  rcases hD with ⟨_, rfl⟩ | ⟨z, _⟩
  · exact ⟨⟨oc, od, kV, doc, pm, an, cdv, ct, osl, e, lk, hcd⟩, kp⟩
  · exact absurd rfl z
/-- C(k = v, ..) of an error: its parameters' values are all, by the keywords' -/
def tErrK (C : Addr) (sp : Sp) (g : List V → List V) (t : TA) : TE := fun σ H Q => t σ H fun zs H1 => ∀ a, H1 a = none → sp (.ref a :: g zs) (upd H1 a (exo a C none)) (fun v H2 => v = .non ∧ Q (.ref a) H2) E0
section
variable {X : Cx} {p pos : Pos} {kws : List Keyword} {tk : TA} {x : Str} {C fI : Addr} {b : EB} {k : Nat} {fd : FuncData} {ps ks : List Str} {sp : Sp}
theorem pe_errK {gV : List V → List V} {gU : List Value → List Value} (T : XC X.K C b) (iC : PySem.W.findIn X.K (.ref C) "__init__" = some (some (.ref fI))) (tI : PySem.W.typeIn X.K (.ref fI) = some (.type "function")) (F1 : FnOk X.prog X.w X.K X.mg X.base CX0 k fI fd ps sp)
    (hr : Room (k + 1) X.A) (hb : ∀ (s : Shared) (z : Value) (us : List Value), us.length = ks.length → BindsTo s fd ⟨[z], ks.zip us⟩ (ps.zip (z :: gU us))) (hg : Gl X x) (hm : X.mg x = some (.ref C)) (hkw : PK X kws tk)
    (hrel : ∀ {zs : List V} {us : List Value}, Vals zs us → Vals (gV zs) (gU us)) (hlen : ∀ {σ : L2.St} {H : Hp} {Q : List V → Hp → Prop}, tk σ H Q → tk σ H fun zs H' => zs.length = ks.length ∧ Q zs H')
    (hall : (backToKw pos (keywordEach kws X.env)).all (·.1.isSome) = true := by rfl) (hks : (backToKw pos (keywordEach kws X.env)).filterMap (·.1) = ks := by rfl) (hdb : (x == ("__debug__" : Str)) = false := by decide)
    (hpl : ((backTo pos (starEach [] X.env)).any (·.1) || (backToKw pos (keywordEach kws X.env)).any (·.1.isNone)) = false := by rfl) :
    PE X (.Call (.Name x p) [] kws pos) (tErrK C sp gV tk) := by
  constructor
  intro pins s σ H Q I h
  apply wpAny_Call_Name_kw
  refine ld_glob I hg hm ?_ hdb
  refine PySem.W.callWith_KW0 (h₀ := X.base) I.ok.mod.kin T.keep hall ?_ hpl
  refine thn (hkw.run pos pins s σ H _ I (hlen h)) ?_
  rintro ws s2 ⟨zs, H2, I2, rz, lz, q⟩
  refine ⟨I2.kIn, ?_⟩
  rw [hks]
  exact run_err (us := []) T iC tI F1 hr (fun s' z _ => hb s' z ws (by rw [← Paired.length rz]; exact lz)) (Nat.zero_le _) I2 (hrel rz) q
end
/-- C() of an error class without an __init__ of its own -/
theorem pe_err0 {X : Cx} {C : Addr} {b : EB} {x : Str} {p pos : Pos} (q : PySem.W.excIn X.K C b.tail b.new = true) (gC : X.mg x = some (.ref C)) (kC : PySem.W.keepIn X.K (.ref C) = true) (hg : Gl X x) (hdb : (x == ("__debug__" : Str)) = false := by decide) :
    PE X (.Call (.Name x p) [] [] pos) (fun σ H Q => ∀ a, H a = none → Q (.ref a) (upd H a (exo a C none))) := by
  constructor
  intro pins s σ H Q I h
  apply wpAny_Call_Name_kw
  refine ld_glob I hg gC ?_ hdb
  apply PySem.W.callWith_K0 I.kIn kC
  obtain ⟨i, FB⟩ := b.base
  rcases s with ⟨hp, g, d, t, os⟩
  obtain ⟨bm, N, nm, qn, bs, hdct, sn, sub, ab, col, dd, k0, k1, k2, k3, k5, mN, hC, hN, hni, T⟩ := exc_obj I.kIn q
  refine wpAny_call_exc_subT FB T hC hN hni (fun h' a hm => ?_) (by show 0 ≤ sizeLine; exact Nat.zero_le _)
  have hn : H a = none := I.hok.gone hm.new
  obtain ⟨t, ht, _, _⟩ := hm.there
  exact ⟨.ref a, upd H a (exo a C none), I.laidN hm.keeps hm.new hn (exo_ok ht), rfl, h a hn⟩

/-! ### an __init__ that stores its parameters -/
def spInit (C : Addr) (fl : List Str) : Sp := fun vs H Q _ => ∃ (a : Addr) (ys : List V), vs = .ref a :: ys ∧ ys.length = fl.length ∧ H a = some (exo a C none) ∧
  ∀ dx H', H dx = none → dx ≠ a → H' a = some (exo a C (some dx)) → H' dx = some (exd dx (fl.zip ys).reverse) → (∀ b o, H b = some o → b ≠ a → H' b = some o) → Q .non H'
section
variable {P : Program} {w : World} {K : PySem.W.Frag} {mg : Str → Option Value} {base : Heap} {st : Stmt} {qual f1 f2 f3 : Str} {C fI : Addr} {b : EB} {fd : FuncData} {q1 q2 q3 q4 r1 r2 r3 r4 z1 z2 z3 z4 : Pos}
theorem swap_name {n : Str} {pp : Pos} {o : Option Expr} {l : Nat} {env : Env} : swapsWith (.Name n pp) o l env = pure false := by rfl
theorem ok_init1 (F : L2.Fun K "__init__" qual st fI fd) (T : XC K C b) (n1 : PySem.W.findIn K (.ref C) f1 = some none) (hb : defBody st = [.Assign [.Attribute (.Name "self" q1) f1 q2] (.Name f1 q3) q4])
    (S : FnScope ["self", f1] ["self", f1] (defScope st)) (v0 : (defScope st).names.lookup ("self" : Str) = some .local) (v1 : (defScope st).names.lookup f1 = some .local) (d1 : (f1 == ("__debug__" : Str)) = false) (c1 : (f1 == ("__classdict__" : Str)) = false) :
    FnOk P w K mg base CX0 1 fI fd ["self", f1] (spInit C [f1]) := by
  refine F.ok S (fun vs H Q E h => ?_) (fun cdv A outer s H vs Q E hr h => ?_)
  · obtain ⟨a, ys, rfl, l, _⟩ := h
    exact congrArg Nat.succ l
  · obtain ⟨a, ys, rfl, l, ha, k⟩ := h
    rw [hb]
    match ys, l with
    | [y], _ =>
      refine ⟨_, pss_one (ps_put (pe_var (i := 0) rfl (.inl v0)) (pe_var (i := 1) rfl (.inl v1) d1 c1) swap_name), ?_⟩
      refine ⟨y, rfl, .ref a, rfl, a, C, b, rfl, T, n1, .inl ⟨ha, fun dx hd hne => ?_⟩⟩
      exact k dx _ hd hne upd_same (by rw [upd_ne hne]; exact upd_same) fun c o e hc => by rw [upd_ne hc, upd_ne (ne_of_none e hd)]; exact e
theorem ok_init2 (F : L2.Fun K "__init__" qual st fI fd) (T : XC K C b) (n1 : PySem.W.findIn K (.ref C) f1 = some none) (n2 : PySem.W.findIn K (.ref C) f2 = some none)
    (hb : defBody st = [.Assign [.Attribute (.Name "self" q1) f1 q2] (.Name f1 q3) q4, .Assign [.Attribute (.Name "self" r1) f2 r2] (.Name f2 r3) r4])
    (S : FnScope ["self", f1, f2] ["self", f1, f2] (defScope st)) (v0 : (defScope st).names.lookup ("self" : Str) = some .local) (v1 : (defScope st).names.lookup f1 = some .local) (v2 : (defScope st).names.lookup f2 = some .local)
    (d1 : (f1 == ("__debug__" : Str)) = false) (c1 : (f1 == ("__classdict__" : Str)) = false) (d2 : (f2 == ("__debug__" : Str)) = false) (c2 : (f2 == ("__classdict__" : Str)) = false) :
    FnOk P w K mg base CX0 1 fI fd ["self", f1, f2] (spInit C [f1, f2]) := by
  refine F.ok S (fun vs H Q E h => ?_) (fun cdv A outer s H vs Q E hr h => ?_)
  · obtain ⟨a, ys, rfl, l, _⟩ := h
    exact congrArg Nat.succ l
  · obtain ⟨a, ys, rfl, l, ha, k⟩ := h
    rw [hb]
    match ys, l with
    | [y, z], _ =>
      refine ⟨_, pss_cons (ps_put (pe_var (i := 0) rfl (.inl v0)) (pe_var (i := 1) rfl (.inl v1) d1 c1) swap_name) (pss_one (ps_put (pe_var (i := 0) rfl (.inl v0)) (pe_var (i := 2) rfl (.inl v2) d2 c2) swap_name)), ?_⟩
      refine ⟨y, rfl, .ref a, rfl, a, C, b, rfl, T, n1, .inl ⟨ha, fun dx hd hne => ?_⟩⟩
      refine ⟨z, rfl, .ref a, rfl, a, C, b, rfl, T, n2, .inr ⟨dx, _, upd_same, (by rw [upd_ne hne]; exact upd_same), (by show 1 ≤ 900; decide), ?_⟩⟩
      exact k dx _ hd hne (by rw [upd_ne hne.symm]; exact upd_same) upd_same fun c o e hc => by rw [upd_ne (ne_of_none e hd), upd_ne hc, upd_ne (ne_of_none e hd)]; exact e
theorem ok_init3 (F : L2.Fun K "__init__" qual st fI fd) (T : XC K C b) (n1 : PySem.W.findIn K (.ref C) f1 = some none) (n2 : PySem.W.findIn K (.ref C) f2 = some none) (n3 : PySem.W.findIn K (.ref C) f3 = some none)
    (hb : defBody st = [.Assign [.Attribute (.Name "self" q1) f1 q2] (.Name f1 q3) q4, .Assign [.Attribute (.Name "self" r1) f2 r2] (.Name f2 r3) r4, .Assign [.Attribute (.Name "self" z1) f3 z2] (.Name f3 z3) z4])
    (S : FnScope ["self", f1, f2, f3] ["self", f1, f2, f3] (defScope st)) (v0 : (defScope st).names.lookup ("self" : Str) = some .local) (v1 : (defScope st).names.lookup f1 = some .local) (v2 : (defScope st).names.lookup f2 = some .local) (v3 : (defScope st).names.lookup f3 = some .local)
    (d1 : (f1 == ("__debug__" : Str)) = false) (c1 : (f1 == ("__classdict__" : Str)) = false) (d2 : (f2 == ("__debug__" : Str)) = false) (c2 : (f2 == ("__classdict__" : Str)) = false) (d3 : (f3 == ("__debug__" : Str)) = false) (c3 : (f3 == ("__classdict__" : Str)) = false) :
    FnOk P w K mg base CX0 1 fI fd ["self", f1, f2, f3] (spInit C [f1, f2, f3]) := by
  refine F.ok S (fun vs H Q E h => ?_) (fun cdv A outer s H vs Q E hr h => ?_)
  · obtain ⟨a, ys, rfl, l, _⟩ := h
    exact congrArg Nat.succ l
  · obtain ⟨a, ys, rfl, l, ha, k⟩ := h
    rw [hb]
    match ys, l with
    | [y, z, u], _ =>
      refine ⟨_, pss_cons (ps_put (pe_var (i := 0) rfl (.inl v0)) (pe_var (i := 1) rfl (.inl v1) d1 c1) swap_name) (pss_cons (ps_put (pe_var (i := 0) rfl (.inl v0)) (pe_var (i := 2) rfl (.inl v2) d2 c2) swap_name)
        (pss_one (ps_put (pe_var (i := 0) rfl (.inl v0)) (pe_var (i := 3) rfl (.inl v3) d3 c3) swap_name))), ?_⟩
      refine ⟨y, rfl, .ref a, rfl, a, C, b, rfl, T, n1, .inl ⟨ha, fun dx hd hne => ?_⟩⟩
      refine ⟨z, rfl, .ref a, rfl, a, C, b, rfl, T, n2, .inr ⟨dx, _, upd_same, (by rw [upd_ne hne]; exact upd_same), (by show 1 ≤ 900; decide), ?_⟩⟩
      refine ⟨u, rfl, .ref a, rfl, a, C, b, rfl, T, n3, .inr ⟨dx, _, (by rw [upd_ne hne.symm]; exact upd_same), upd_same, (by show 2 ≤ 900; decide), ?_⟩⟩
      exact k dx _ hd hne (by rw [upd_ne hne.symm, upd_ne hne.symm]; exact upd_same) upd_same fun c o e hc => by rw [upd_ne (ne_of_none e hd), upd_ne (ne_of_none e hd), upd_ne hc, upd_ne (ne_of_none e hd)]; exact e
end
/-- an error made, told in whole: what was tracked stands, its fields are as its __init__ stores them -/
theorem init_made {C : Addr} {fl : List Str} {H1 : Hp} {Q : VK} {x : Addr} {ys : List V} (hx : H1 x = none) (hl : ys.length = fl.length) (q : ∀ (e : Addr) (H' : Hp), Same H1 H' → H1 e = none → ErrAt H' e C (fl.zip ys).reverse → Q (.ref e) H') :
    spInit C fl (.ref x :: ys) (upd H1 x (exo x C none)) (fun v H2 => v = .non ∧ Q (.ref x) H2) E0 := by
  refine ⟨x, ys, rfl, hl, upd_same, fun dx H' hd hne ha hdx kp => ⟨rfl, q x H' (fun b o e => ?_) hx (.inr ⟨dx, ha, hdx⟩)⟩⟩
  have hb : b ≠ x := ne_of_none e hx
  exact kp b o (by rw [upd_ne hb]; exact e) hb
end GL
set_option maxHeartbeats 4000000
namespace GL
open PySem PySem.Spec PyProof.Rows L2
theorem same_sqT {K : PySem.W.Frag} {H H' : Hp} {a : Addr} {xs : List V} (e : Same H H') (h : SqT K H a xs) : SqT K H' a xs := by
  rcases h with (h | ⟨o, h⟩) | h
  · exact .inl (.inl (e _ _ h))
  · exact .inl (.inr ⟨o, e _ _ h⟩)
  · exact .inr h
mutual
theorem Dq.same {K : PySem.W.Frag} {H H' : Hp} (e : Same H H') : ∀ {v : V} {d : PyData}, Dq K H v d → Dq K H' v d
  | _, _, .non => .non
  | _, _, .bl b => .bl b
  | _, _, .int i => .int i
  | _, _, .str x => .str x
  | _, _, .lst h a => .lst (e.seq h) (DqAll.same e a)
  | _, _, .tup h a => .tup (same_sqT e h) (DqAll.same e a)
  | _, _, .dct h a => .dct (e _ _ h) (DqKv.same e a)
theorem DqAll.same {K : PySem.W.Frag} {H H' : Hp} (e : Same H H') : ∀ {vs : List V} {ds : List PyData}, DqAll K H vs ds → DqAll K H' vs ds
  | _, _, .nil => .nil
  | _, _, .cons a b => .cons (Dq.same e a) (DqAll.same e b)
theorem DqKv.same {K : PySem.W.Frag} {H H' : Hp} (e : Same H H') : ∀ {kvs : List (Key × V)} {ps : List (PyData × PyData)}, DqKv K H kvs ps → DqKv K H' kvs ps
  | _, _, .nil => .nil
  | _, _, .consI a b => .consI (Dq.same e a) (DqKv.same e b)
  | _, _, .consS a b => .consS (Dq.same e a) (DqKv.same e b)
end
theorem paired_rev {α β : Type} {R : α → β → Prop} : ∀ {xs : List α} {ys : List β}, Paired R xs ys → Paired R xs.reverse ys.reverse := by
  have app : ∀ {xs us : List α} {ys ws : List β}, Paired R xs ys → Paired R us ws → Paired R (xs ++ us) (ys ++ ws) := by
    intro xs us ys ws h k
    induction h with
    | nil => exact k
    | cons r _ ih => exact .cons r ih
  intro xs ys h
  induction h with
  | nil => exact .nil
  | cons r _ ih =>
    rw [List.reverse_cons, List.reverse_cons]
    exact app ih (.cons r .nil)
theorem same_new {H : Hp} {p : Addr} {o : HO} (h : H p = none) : Same H (upd H p o) := fun b u e => by
  rw [upd_ne (ne_of_none e h)]
  exact e
theorem del_le {H : Hp} {p : Addr} : Same (del H p) H := fun b o e => by
  by_cases h : b = p
  · rw [h, del_same] at e
    cases e
  · rwa [del_ne h] at e
theorem del_but {H H' : Hp} {p : Addr} (k : ∀ b o, H b = some o → b ≠ p → H' b = some o) : Same (del H p) (del H' p) := fun b o e => by
  by_cases h : b = p
  · rw [h, del_same] at e
    cases e
  · rw [del_ne h] at e ⊢
    exact k b o e h
/-! ### a list comprehension whose element leaves what was tracked as it was -/
theorem take_ext {α : Type} : ∀ {l : List α} {i : Nat} {x : α}, l[i]? = some x → l.take (i + 1) = l.take i ++ [x]
  | a :: l, 0, x, h => by
    cases Option.some.inj h
    rfl
  | a :: l, i + 1, x, h => by
    have ih := take_ext (l := l) (i := i) (x := x) (by simpa using h)
    rw [List.take_succ_cons, ih, List.take_succ_cons]
    rfl
section
variable {K : PySem.W.Frag} {te : TE} {σ : L2.St} {j : Nat} {H1 : Hp} {D a : Addr} {xs : List V} {val : V → V} {Qd : Hp → Prop}
theorem lc_same (hS : SqL K H1 a xs) (hD : H1 D = none) (hl : xs.length < 1000000) (hw : ∀ x, wipe ((wipe σ [j]).set j (some x)) [j] = wipe σ [j])
    (hs : ∀ (i : Nat) (x : V) (H' : Hp) (Q : VK), xs[i]? = some x → Same H1 H' → (∀ H2, Same H' H2 → Q (val x) H2) → te ((wipe σ [j]).set j (some x)) H' Q) (hd : ∀ H', Same H1 H' → H' D = some (.lst (xs.map val)) → Qd H') :
    ∃ W : Nat → Nat → Hp → Prop, (∃ m, W 0 m (upd H1 D (.lst []))) ∧ ∀ i m H, W i m H →
      ((Itl K a).stop i H ∧ Qd H) ∨ ((Itl K a).go i H ∧ ∃ Nx : Hp → Prop, (∀ H', Nx H' → ∃ m', m' < m ∧ W (i + 1) m' H') ∧ ∀ x H', (Itl K a).yld i H x H' → gName j x (wipe σ [j]) H' fun σ2 H2 => wipe σ2 [j] = wipe σ [j] ∧ tYes σ2 H2 fun b H3 =>
        if b = true then te σ2 H3 fun y H4 => ∃ acc, H4 D = some (.lst acc) ∧ acc.length < sizeLine ∧ Nx (upd H4 D (.lst (acc ++ [y]))) else Nx H3) := by
  refine lc_list (K := K) (a := a) (xs := xs) (fun i H => H D = some (.lst ((xs.take i).map val)) ∧ Same H1 H) ⟨upd_same, same_new hD⟩ (fun i H _ ⟨_, s⟩ => s.seq hS) ?_ ?_
  · rintro i x H hi ⟨hd', s⟩
    refine ⟨hw x, ?_⟩
    show te (List.set (wipe σ [j]) j (some x)) H (fun y H4 => ∃ acc, H4 D = some (.lst acc) ∧ acc.length < sizeLine ∧ (upd H4 D (.lst (acc ++ [y])) D = some (.lst ((xs.take (i + 1)).map val)) ∧ Same H1 (upd H4 D (.lst (acc ++ [y])))))
    refine hs i x H _ hi s fun H2 s2 => ⟨_, s2 _ _ hd', ?_, ?_, fun b o e => ?_⟩
    · rw [List.length_map, List.length_take, sizeLine_eq]
      omega
    · rw [take_ext hi, List.map_append, upd_same]
      rfl
    · rw [upd_ne (ne_of_none e hD)]
      exact s2 _ _ (s _ _ e)
  · rintro H ⟨hd', s⟩
    rw [List.take_length] at hd'
    exact hd H s hd'
theorem lc_sameR {lo : Int} {n : Nat} {val : Int → V} (hD : H1 D = none) (hl : n < 1000000) (hw : ∀ x, wipe ((wipe σ [j]).set j (some x)) [j] = wipe σ [j])
    (hs : ∀ (i : Nat) (H' : Hp) (Q : VK), i < n → Same H1 H' → (∀ H2, Same H' H2 → Q (val (lo + i)) H2) → te ((wipe σ [j]).set j (some (.int (lo + i)))) H' Q) (hd : ∀ H', Same H1 H' → H' D = some (.lst ((List.range n).map fun i => val (lo + (i : Nat)))) → Qd H') :
    ∃ W : Nat → Nat → Hp → Prop, (∃ m, W 0 m (upd H1 D (.lst []))) ∧ ∀ i m H, W i m H →
      ((Itr lo n).stop i H ∧ Qd H) ∨ ((Itr lo n).go i H ∧ ∃ Nx : Hp → Prop, (∀ H', Nx H' → ∃ m', m' < m ∧ W (i + 1) m' H') ∧ ∀ x H', (Itr lo n).yld i H x H' → gName j x (wipe σ [j]) H' fun σ2 H2 => wipe σ2 [j] = wipe σ [j] ∧ tYes σ2 H2 fun b H3 =>
        if b = true then te σ2 H3 fun y H4 => ∃ acc, H4 D = some (.lst acc) ∧ acc.length < sizeLine ∧ Nx (upd H4 D (.lst (acc ++ [y]))) else Nx H3) := by
  refine lc_range (lo := lo) (n := n) (fun i H => H D = some (.lst ((List.range i).map fun i => val (lo + (i : Nat)))) ∧ Same H1 H) ⟨upd_same, same_new hD⟩ ?_ ?_
  · rintro i H hi ⟨hd', s⟩
    refine ⟨hw _, ?_⟩
    show te (List.set (wipe σ [j]) j (some (V.int (lo + i)))) H (fun y H4 => ∃ acc, H4 D = some (.lst acc) ∧ acc.length < sizeLine ∧ (upd H4 D (.lst (acc ++ [y])) D = some (.lst ((List.range (i + 1)).map fun i => val (lo + (i : Nat)))) ∧ Same H1 (upd H4 D (.lst (acc ++ [y])))))
    refine hs i H _ hi s fun H2 s2 => ⟨_, s2 _ _ hd', ?_, ?_, fun b o e => ?_⟩
    · rw [List.length_map, List.length_range, sizeLine_eq]
      omega
    · rw [List.range_succ, List.map_append, upd_same]
      rfl
    · rw [upd_ne (ne_of_none e hD)]
      exact s2 _ _ (s _ _ e)
  · rintro H ⟨hd', s⟩
    exact hd H s hd'
end
end GL
set_option maxHeartbeats 4000000
/-! Own operators of own instances. -/
namespace PySem
namespace GO
open PySem.W PySem.Calls PyProof.Rows PySem.HandSPX Builtin
section
variable {prog : Program} {w : World} {A : Around} {E : Value → Shared → Prop} {hp : Heap} {g : Array GenState} {d : Drawn} {t : Nat} {os : OsState} {K : W.Frag} {x y C f : Addr} {ox oy : Obj} {od oe : Option Obj} {b : Value} {op : Operator} {Q : Value → Shared → Prop} {cd : ClassData} {rest : List Value}
def Held (p : Prop) : Prop := p
/-- a method of an own class, tried -/
theorem try_own {nm : Str} {Q : Option Value → Shared → Prop} (X : K.In hp) (I : InstAt hp x ox C od) (hf : findIn K (.ref C) nm = some (some (.ref f))) (tf : typeIn K (.ref f) = some (.type "function"))
    (h : Held (wpAny (model prog w) A (call (.ref f) [.ref x, b]) (W.CmpBack fun v => Q (some v)) E ⟨hp, g, d, t, os⟩)) : wpAny (model prog w) A (tryMethod (.ref x) nm b) Q E ⟨hp, g, d, t, os⟩ := by
  unfold tryMethod
  apply wpAny_bind
  refine special_fn (s := ⟨hp, g, d, t, os⟩) X I hf tf (wpAny_mono h (fun v s' z => ?_) fun _ _ z => z)
  cases v <;> first | exact wpAny_pure z | exact z.elim
/-- a + b, both of one class -/
theorem bin_same (X : K.In hp) (I : InstAt hp x ox C od) (J : InstAt hp y oy C oe) (hcd : clsIn K C = some cd) (hm : cd.mro = .ref C :: rest) (hf : findIn K (.ref C) (dunder op.info.2) = some (some (.ref f))) (tf : typeIn K (.ref f) = some (.type "function"))
    (h : wpAny (model prog w) A (call (.ref f) [.ref x, .ref y]) (W.CmpBack Q) E ⟨hp, g, d, t, os⟩) : wpAny (model prog w) A (binaryOp op (.ref x) (.ref y)) Q E ⟨hp, g, d, t, os⟩ := by
  have left := fills_K (M := model prog w) (nm := op.info.2) X hcd hm hf
  unfold binaryOp
  generalize op.info = z at *
  obtain ⟨sym, nm⟩ := z
  apply wpAny_holding
  unfold binaryOp1
  apply wpAny_bind
  apply wpAny_bind
  apply I.type.at
  apply wpAny_bind
  apply J.type.at
  apply wpAny_bind
  apply left.at
  dsimp only
  rw [if_pos (beq_self_eq_true _)]
  repeat (first | with_reducible refine try_own X I hf tf ?_ | wp_step)
  refine wpAny_mono h (fun v s' z => ?_) fun _ _ z => z
  cases v <;> first | exact wpAny_pure (wpAny_pure z) | exact z.elim
/-- a + n, n a whole number -/
theorem bin_int {n : Int} {k : Tok} {ia ir : String} (X : K.In hp) (I : InstAt hp x ox C od) (hcd : clsIn K C = some cd) (hm : cd.mro = .ref C :: rest) (hf : findIn K (.ref C) (dunder op.info.2) = some (some (.ref f))) (hr : findIn K (.ref C) (dunderR op.info.2) = some none) (tf : typeIn K (.ref f) = some (.type "function"))
    (fa : findIn K (.type "int") (dunder op.info.2) = some (some (.builtin ia))) (fr : findIn K (.type "int") (dunderR op.info.2) = some (some (.builtin ir))) (sq : isSeqSlot (some (.builtin ia)) = false) (sub : subIn K (.type "int") (.ref C) = some false)
    (h : wpAny (model prog w) A (call (.ref f) [.ref x, .int n k]) (W.CmpBack Q) E ⟨hp, g, d, t, os⟩) : wpAny (model prog w) A (binaryOp op (.ref x) (.int n k)) Q E ⟨hp, g, d, t, os⟩ := by
  have left := fills_K (M := model prog w) (nm := op.info.2) X hcd hm hf
  have l1 := looks_findIn (M := model prog w) X hf
  have l2 := looks_findIn (M := model prog w) X hr
  have l3 := looks_findIn (M := model prog w) X fa
  have l4 := looks_findIn (M := model prog w) X fr
  have l5 := looks_subIn (M := model prog w) X sub
  unfold binaryOp
  generalize op.info = z at *
  obtain ⟨sym, nm⟩ := z
  apply wpAny_holding
  unfold binaryOp1 numberSlotInPython fillsNumberSlot
  apply wpAny_bind
  apply wpAny_bind
  apply I.type.at
  apply wpAny_bind
  apply wpAny_pure
  apply wpAny_bind
  apply left.at
  repeat (first | with_reducible refine try_own X I hf tf ?_ | with_reducible refine l1.at ?_ | with_reducible refine l2.at ?_ | with_reducible refine l3.at ?_ | with_reducible refine l4.at ?_ | with_reducible refine l5.at ?_ | wp_step)
  refine wpAny_mono h (fun v s' z => ?_) fun _ _ z => z
  cases v <;> first | exact wpAny_pure (wpAny_pure z) | exact z.elim
/-- -a -/
theorem neg_own (X : K.In hp) (I : InstAt hp x ox C od) (hf : findIn K (.ref C) "__neg__" = some (some (.ref f))) (tf : typeIn K (.ref f) = some (.type "function"))
    (h : wpAny (model prog w) A (call (.ref f) [.ref x]) Q E ⟨hp, g, d, t, os⟩) : wpAny (model prog w) A (unaryOp .USub (.ref x)) Q E ⟨hp, g, d, t, os⟩ := by
  unfold unaryOp
  apply wpAny_holding
  dsimp only
  rw [if_neg (by decide)]
  apply wpAny_bind
  exact special_fn (s := ⟨hp, g, d, t, os⟩) X I hf tf (wpAny_mono h (fun v s' z => wpAny_pure z) fun _ _ z => z)
end
end GO
end PySem
set_option maxHeartbeats 4000000
namespace PySem
namespace GO
open PySem.W PySem.Calls PyProof.Rows PySem.HandSPX Builtin
section
variable {prog : Program} {w : World} {A : Around} {E : Value → Shared → Prop} {hp : Heap} {g : Array GenState} {d : Drawn} {t : Nat} {os : OsState} {K : W.Frag} {x y C f : Addr} {ox oy : Obj} {od oe : Option Obj} {b tb : Value} {Q : Value → Shared → Prop}
theorem ifb {fv : Value} {nm : Str} {Q : Option Value → Shared → Prop} (X : K.In hp) (I : InstAt hp x ox C od) (hf : findIn K (.ref C) nm = some (some fv)) (hb : Looks (model prog w) hp (bindSpecial fv (.ref x)) (fv, [.ref x]))
    (h : wpAny (model prog w) A (call fv [.ref x, b]) (fun v => Q (some v)) E ⟨hp, g, d, t, os⟩) : wpAny (model prog w) A (callSpecialIfBound? (.ref x) nm [b]) Q E ⟨hp, g, d, t, os⟩ := by
  have l1 := looks_findIn (M := model prog w) X hf
  unfold callSpecialIfBound? bindSpecialIfBound? specialOf
  apply wpAny_holding
  apply wpAny_bind
  apply wpAny_bind
  apply wpAny_bind
  apply I.type.at
  apply l1.at
  dsimp only
  apply wpAny_bind
  refine wpAny_askSetting ?_
  have go : ∀ {E' : Value → Shared → Prop}, wpAny (model prog w) A (do let z ← bindSpecial fv (.ref x); pure (some z)) (fun a s' => wpAny (model prog w) A (match a with
        | some (g, first) => do
          let z ← call g (first ++ [b])
          pure (some z)
        | x => pure none) Q E s') E' ⟨hp, g, d, t, os⟩ := by
    intro E'
    apply wpAny_bind
    apply hb.at
    apply wpAny_pure
    dsimp only [List.cons_append, List.nil_append]
    apply wpAny_bind
    exact wpAny_mono h (fun v s' z => wpAny_pure z) fun _ _ z => z
  split
  · exact go
  · exact wpAny_tryCatch go
theorem try_c {fv : Value} {nm : Str} {Q : Option Value → Shared → Prop} (X : K.In hp) (I : InstAt hp x ox C od) (hf : findIn K (.ref C) nm = some (some fv)) (hb : Looks (model prog w) hp (bindSpecial fv (.ref x)) (fv, [.ref x]))
    (h : wpAny (model prog w) A (call fv [.ref x, b]) (W.CmpBack fun v => Q (some v)) E ⟨hp, g, d, t, os⟩) : wpAny (model prog w) A (tryCompare (.ref x) nm b) Q E ⟨hp, g, d, t, os⟩ := by
  unfold tryCompare
  apply wpAny_bind
  refine ifb X I hf hb (wpAny_mono h (fun v s' z => ?_) fun _ _ z => z)
  cases v <;> first | exact wpAny_pure z | exact z.elim
/-- a == b, a != b, by the class's method of this name -/
theorem cmp_any {op : CmpOp} {fv : Value} (hop : op = .Eq ∨ op = .NotEq) (hu : A.units < cLine) (X : K.In hp) (I : InstAt hp x ox C od) (hb : Looks (model prog w) hp (typeOf b) tb) (nf : notFirst K C tb = true) (he : findIn K (.ref C) (cmpInfo op).2.1 = some (some fv))
    (hbi : Looks (model prog w) hp (bindSpecial fv (.ref x)) (fv, [.ref x]))
    (h : wpAny (model prog w) A (call fv [.ref x, b]) (W.CmpBack Q) E ⟨hp, g, d, t, os⟩) : wpAny (model prog w) A (richCompare op (.ref x) b) Q E ⟨hp, g, d, t, os⟩ := by
  have no : oneThing? op (.ref x) b = none := by rcases hop with rfl | rfl <;> rfl
  unfold richCompare
  apply wpAny_holding
  apply wpAny_bind
  refine wpAny_cRoomFor hu ?_
  rw [no]
  dsimp only
  generalize hi : cmpInfo op = z at *
  obtain ⟨sym, nf', nr⟩ := z
  apply wpAny_bind
  apply I.type.at
  apply wpAny_bind
  apply hb.at
  unfold notFirst at nf
  have go : wpAny (model prog w) A (tryCompare (.ref x) nf' b) (fun o s' => o.isSome = true ∧ ∀ v, o = some v → Q v s') E ⟨hp, g, d, t, os⟩ := by
    refine try_c X I he hbi (wpAny_mono h (fun v s' z => ?_) fun _ _ z => z)
    cases v <;> first | exact ⟨rfl, fun _ q => by cases q; exact z⟩ | exact z.elim
  have fin : ∀ {k : Option Value → Sem Value}, (∀ v, k (some v) = pure v) → wpAny (model prog w) A (tryCompare (.ref x) nf' b >>= k) Q E ⟨hp, g, d, t, os⟩ := by
    intro k hk
    apply wpAny_bind
    refine wpAny_mono go (fun o s' z => ?_) fun _ _ z => z
    obtain ⟨q, z⟩ := z
    cases o with
    | none => cases q
    | some v =>
      rw [hk]
      exact wpAny_pure (z v rfl)
  split
  · rename_i ne
    simp only [Bool.or_eq_true, beq_iff_eq] at nf
    rcases nf with rfl | q
    · exact absurd ne (by simp)
    · apply wpAny_bind
      apply (looks_subIn X q).at
      dsimp only [Bool.false_eq_true, if_false]
      exact fin fun v => rfl
  · apply wpAny_bind
    apply wpAny_pure
    exact fin fun v => rfl
/-- the entry of object.__ne__ -/
theorem ne_entry (hu : A.units < cLine) (X : K.In hp) (I : InstAt hp x ox C od) (he : findIn K (.ref C) "__eq__" = some (some (.ref f))) (tf : typeIn K (.ref f) = some (.type "function")) {Q : PySem.Fin → Shared → Prop}
    (h : wpAny (model prog w) A (call (.ref f) [.ref x, b]) (fun v s' => ∃ k, v = .bool k ∧ Q (.done (.ret (.bool !k))) s') E ⟨hp, g, d, t, os⟩) :
    wpAny (model prog w) A (Builtin.«object.__ne__» { pos := [.ref x, b] }) Q E ⟨hp, g, d, t, os⟩ := by
  unfold Builtin.«object.__ne__»
  apply wpAny_bind
  have e : slotArgs "__ne__" 1 { pos := [.ref x, b] } = pure (.ref x, [b]) := rfl
  rw [e]
  apply wpAny_pure
  dsimp only
  apply wpAny_bind
  refine wpAny_cRoomFor hu ?_
  apply wpAny_bind
  refine ifb X I he (bind_fn X _ tf) (wpAny_mono h (fun v s' z => ?_) fun _ _ z => z)
  obtain ⟨k, rfl, q⟩ := z
  dsimp only
  apply wpAny_bind
  refine wpAny_truthy_bool ?_
  exact wpAny_pure q
/-- a != b, by an own __eq__ -/
theorem ne_own (hu : A.units + 1 < cLine) (X : K.In hp) (I : InstAt hp x ox C od) (hb : Looks (model prog w) hp (typeOf b) tb) (nf : notFirst K C tb = true) (hn : findIn K (.ref C) "__ne__" = some (some (.builtin "object.__ne__"))) (he : findIn K (.ref C) "__eq__" = some (some (.ref f)))
    (tf : typeIn K (.ref f) = some (.type "function")) (ob : mroIn K C (.type "object") = some true)
    (h : wpAny (model prog w) A.in1 (call (.ref f) [.ref x, b]) (fun v s' => ∃ k, v = .bool k ∧ Q (.bool !k) s') E ⟨hp, g, d, t, os⟩) : wpAny (model prog w) A (richCompare .NotEq (.ref x) b) Q E ⟨hp, g, d, t, os⟩ := by
  refine cmp_any (.inr rfl) (by omega) X I hb nf hn ?_ ?_
  · rw [PySem.F.slot_object_ne.bind]
    exact .now
  apply wpAny_call
  refine codeAny_call_builtin (by decide +kernel) (by rfl) ?_
  refine check_slot (s := ⟨hp, g, d, t, os⟩) (owner := "object") (n := "__ne__") (by decide +kernel) (by decide +kernel) ?_ (by rfl) ?_
  · exact I.type.andThen (W.looks_mroIn X ob)
  · exact ne_entry hu X I he tf h
/-- x in a, by an own __contains__ -/
theorem in_own (X : K.In hp) (I : InstAt hp x ox C od) (hf : findIn K (.ref C) "__contains__" = some (some (.ref f))) (tf : typeIn K (.ref f) = some (.type "function")) {Q : Bool → Shared → Prop}
    (h : wpAny (model prog w) A (call (.ref f) [.ref x, b]) (fun v s' => ∃ k, v = .bool k ∧ Q k s') E ⟨hp, g, d, t, os⟩) : wpAny (model prog w) A (contains (.ref x) b) Q E ⟨hp, g, d, t, os⟩ := by
  have l1 := looks_findIn (M := model prog w) X hf
  have l2 := bind_fn (M := model prog w) X (.ref x) tf
  unfold contains
  apply wpAny_holding
  have e : stdlibNamesSay? (.ref x) b = none := rfl
  rw [e]
  dsimp only
  unfold callSpecialUnlessNone? specialOf
  apply wpAny_bind
  apply wpAny_bind
  apply I.type.at
  apply l1.at
  dsimp only
  rw [if_neg (by simp)]
  apply wpAny_bind
  apply wpAny_bind
  apply wpAny_bind
  apply I.type.at
  apply l1.at
  dsimp only
  apply wpAny_holding
  apply wpAny_bind
  apply l2.at
  dsimp only [List.cons_append, List.nil_append]
  rw [if_neg (by simp)]
  apply wpAny_bind
  refine wpAny_mono h (fun v s' z => ?_) fun _ _ z => z
  obtain ⟨k, rfl, q⟩ := z
  apply wpAny_pure
  exact wpAny_truthy_bool q
end
end GO
end PySem
set_option maxHeartbeats 4000000
/-! Own operators of own instances, as rules. -/
namespace GL
open PySem PySem.Spec PyProof.Rows L2
theorem isFn_ty {K : PySem.W.Frag} {f : Addr} (h : PySem.W.isFn K (.ref f) = true) : PySem.W.typeIn K (.ref f) = some (.type "function") := by
  unfold PySem.W.isFn at h
  exact beq_iff_eq.mp h
section
variable {X : Cx} {pins : List (Addr × Obj)} {σ : L2.St} {H : Hp} {s : Shared} {a C dx f : Addr} {fs : List (Str × V)} {x y : V} {u t v : Value} {Q : VK} {CX : CXT} {E : XK} {k : Nat} {sp : Sp}
theorem inst_of (I : Inv X pins σ H s) (e : H a = some (.ins C dx fs)) : ∃ ox od, PySem.W.InstAt s.heap a ox C od := by
  obtain ⟨mA, hO, _, hw, _, _⟩ := ins_get I.hok e
  obtain ⟨oD, _, _, hoD, _, _⟩ := hO.ns.count hw
  exact ⟨_, some oD, hO.obj, rfl, rfl, hoD⟩
theorem ty_look (I : Inv X pins σ H s) (rx : L2.RelV x u) (ty : TyX X.K H x t) : PySem.W.Looks (model X.prog X.w) s.heap (typeOf u) t := by
  obtain ⟨P, kx, p, _⟩ := kit_of I rx ty
  exact kx.ty _ _ I.kIn p
theorem notImpl (z : EP X pins σ Q v s) : PySem.W.CmpBack (EP X pins σ Q) v s := by
  have ne : v ≠ .notImplemented := by
    rintro rfl
    obtain ⟨r, H', _, rr, _⟩ := z
    cases r <;> first | exact nomatch rr | (obtain ⟨_, e⟩ := rr; exact nomatch e)
  cases v <;> first | exact z | exact absurd rfl ne
theorem Room.in1 {k : Nat} {A : Around} (r : Room (k + 1) A) : Room k A.in1 := by
  refine ⟨r.hd, ?_, ?_⟩
  · have := r.dp
    show A.depth + 3 * k + 5 < recursionLimit
    omega
  · have := r.un
    show A.units + 1 + 16 * k + 200 < cLine
    omega
theorem run_in1 {us : List Value} {vs : List V} (F : FnR X.prog X.w X.K X.mg X.base CX k f sp) (hr : Room (k + 1) X.A) (hx : Passes CX X E) (I : Inv X pins σ H s) (r : Vals vs us) (q : sp vs H Q E) :
    wpAny (model X.prog X.w) X.A.in1 (PySem.call (.ref f) us) (EP X pins σ Q) X.xe s := by
  apply wpAny_call
  refine codeAny_mono (F X.A.in1 X.stack s H us vs Q E (Room.in1 hr) { I.env0 with frames := I.env0.frames } r q) fun r' s' z => ?_
  match r', z with
  | .error er, z => exact hx pins σ H s er s' I z
  | .ok .next, z => exact False.elim z
  | .ok .brk, z => exact False.elim z
  | .ok .cont, z => exact False.elim z
  | .ok (.ret u), z => exact I.after z
end

/-! ### a + b -/
structure OwnBin (K : PySem.W.Frag) (C : Addr) (op : Operator) (f : Addr) : Prop where
  m : Meth K C (dunder op.info.2) f
  r : PySem.W.findIn K (.ref C) (dunderR op.info.2) = some none
  c : ∃ cd rest, PySem.W.clsIn K C = some cd ∧ cd.mro = .ref C :: rest
  s : PySem.W.subIn K (.type "int") (.ref C) = some false
def rOwn (C : Addr) (sp : Sp) (E : XK) : R2 := fun x y H Q => ∃ a dx fs, x = .ref a ∧ H a = some (.ins C dx fs) ∧ ((∃ b dy gs, y = .ref b ∧ H b = some (.ins C dy gs)) ∨ ∃ n, y = .int n) ∧ sp [x, y] H Q E
theorem op_own {X : Cx} {CX : CXT} {E : XK} {k : Nat} {sp : Sp} {C f : Addr} {op : Operator} (hop : op = .Add ∨ op = .Sub ∨ op = .Mult) (B : OwnBin X.K C op f) (F : FnR X.prog X.w X.K X.mg X.base CX k f sp) (hr : Room k X.A) (hx : Passes CX X E) : OpR X (binaryOp op) (rOwn C sp E) := by
  intro pins s σ H x y v u Q I rx ry h
  obtain ⟨a, dx, fs, rfl, ea, hy, q⟩ := h
  cases (show v = Value.ref a from rx)
  obtain ⟨ox, od, J⟩ := inst_of I ea
  obtain ⟨cd, rest, hcd, hm⟩ := B.c
  have z : wpAny (model X.prog X.w) X.A (PySem.call (.ref f) [.ref a, u]) (PySem.W.CmpBack (EP X pins σ Q)) X.xe s := thn (wpAny_call (run_fnR F hr hx I (Paired.cons (a := V.ref a) (b := Value.ref a) rfl (.cons ry .nil)) q)) fun _ _ => notImpl
  rcases s with ⟨hp, g, d, tk, os⟩
  rcases hy with ⟨b, dy, gs, rfl, eb⟩ | ⟨n, rfl⟩
  · cases (show u = Value.ref b from ry)
    obtain ⟨oy, oe, J'⟩ := inst_of I eb
    exact PySem.GO.bin_same I.kIn J J' hcd hm B.m.at_ (isFn_ty B.m.fn) z
  · obtain ⟨tn, rfl⟩ := (show ∃ t, u = Value.int n t from ry)
    rcases hop with rfl | rfl | rfl
    · exact PySem.GO.bin_int (ia := "int.__add__") (ir := "int.__radd__") I.kIn J hcd hm B.m.at_ B.r (isFn_ty B.m.fn) (by show fastLookup "int" _ = _; decide +kernel) (by show fastLookup "int" _ = _; decide +kernel) (by decide +kernel) B.s z
    · exact PySem.GO.bin_int (ia := "int.__sub__") (ir := "int.__rsub__") I.kIn J hcd hm B.m.at_ B.r (isFn_ty B.m.fn) (by show fastLookup "int" _ = _; decide +kernel) (by show fastLookup "int" _ = _; decide +kernel) (by decide +kernel) B.s z
    · exact PySem.GO.bin_int (ia := "int.__mul__") (ir := "int.__rmul__") I.kIn J hcd hm B.m.at_ B.r (isFn_ty B.m.fn) (by show fastLookup "int" _ = _; decide +kernel) (by show fastLookup "int" _ = _; decide +kernel) (by decide +kernel) B.s z

/-! ### -a -/
theorem un_own {X : Cx} {CX : CXT} {E : XK} {k : Nat} {sp : Sp} {C f : Addr} (B : Meth X.K C "__neg__" f) (F : FnR X.prog X.w X.K X.mg X.base CX k f sp) (hr : Room k X.A) (hx : Passes CX X E) :
    UnR X (unaryOp .USub) (fun x H Q => ∃ a dx fs, x = .ref a ∧ H a = some (.ins C dx fs) ∧ sp [x] H Q E) := by
  intro pins s σ H x v Q I rx h
  obtain ⟨a, dx, fs, rfl, ea, q⟩ := h
  cases (show v = Value.ref a from rx)
  obtain ⟨ox, od, J⟩ := inst_of I ea
  have z := wpAny_call (run_fnR F hr hx I (Paired.cons (a := V.ref a) (b := Value.ref a) rfl .nil) q)
  rcases s with ⟨hp, g, d, tk, os⟩
  exact PySem.GO.neg_own I.kIn J B.at_ (isFn_ty B.fn) z

/-! ### a == b, a != b -/
structure OwnEq (K : PySem.W.Frag) (C f : Addr) : Prop where
  m : Meth K C "__eq__" f
  n : PySem.W.findIn K (.ref C) "__ne__" = some (some (.builtin "object.__ne__"))
  o : PySem.W.mroIn K C (.type "object") = some true
def rOwnE (K : PySem.W.Frag) (C : Addr) (sp : Sp) (E : XK) : R2 := fun x y H Q => ∃ a dx fs t, x = .ref a ∧ H a = some (.ins C dx fs) ∧ TyX K H y t ∧ PySem.W.notFirst K C t = true ∧ sp [x, y] H Q E
def rOwnN (K : PySem.W.Frag) (C : Addr) (sp : Sp) (E : XK) : R2 := fun x y H Q => ∃ a dx fs t, x = .ref a ∧ H a = some (.ins C dx fs) ∧ TyX K H y t ∧ PySem.W.notFirst K C t = true ∧ sp [x, y] H (fun v H' => ∃ k, v = .bl k ∧ Q (.bl !k) H') E
theorem op_eqO {X : Cx} {CX : CXT} {E : XK} {k : Nat} {sp : Sp} {C f : Addr} (B : OwnEq X.K C f) (F : FnR X.prog X.w X.K X.mg X.base CX k f sp) (hr : Room k X.A) (hx : Passes CX X E) : OpR X (compareOp .Eq) (rOwnE X.K C sp E) := by
  intro pins s σ H x y v u Q I rx ry h
  obtain ⟨a, dx, fs, t, rfl, ea, ty, nf, q⟩ := h
  cases (show v = Value.ref a from rx)
  obtain ⟨ox, od, J⟩ := inst_of I ea
  have z : wpAny (model X.prog X.w) X.A (PySem.call (.ref f) [.ref a, u]) (PySem.W.CmpBack (EP X pins σ Q)) X.xe s := thn (wpAny_call (run_fnR F hr hx I (Paired.cons (a := V.ref a) (b := Value.ref a) rfl (.cons ry .nil)) q)) fun _ _ => notImpl
  have hu : X.A.units < cLine := by have := hr.un; omega
  have lk := ty_look I ry ty
  rcases s with ⟨hp, g, d, tk, os⟩
  show wpAny _ _ (richCompare .Eq (.ref a) u) _ _ _
  have e : PySem.W.findIn X.K (.ref C) (cmpInfo .Eq).2.1 = some (some (.ref f)) := B.m.at_
  exact PySem.GO.cmp_any (op := .Eq) (.inl rfl) hu I.kIn J lk nf e (PySem.W.bind_fn I.kIn _ (isFn_ty B.m.fn)) z
theorem op_neO {X : Cx} {CX : CXT} {E : XK} {k : Nat} {sp : Sp} {C f : Addr} (B : OwnEq X.K C f) (F : FnR X.prog X.w X.K X.mg X.base CX k f sp) (hr : Room (k + 1) X.A) (hx : Passes CX X E) : OpR X (compareOp .NotEq) (rOwnN X.K C sp E) := by
  intro pins s σ H x y v u Q I rx ry h
  obtain ⟨a, dx, fs, t, rfl, ea, ty, nf, q⟩ := h
  cases (show v = Value.ref a from rx)
  obtain ⟨ox, od, J⟩ := inst_of I ea
  have hu : X.A.units + 1 < cLine := by have := hr.un; omega
  have lk := ty_look I ry ty
  have z := run_in1 F hr hx I (Paired.cons (a := V.ref a) (b := Value.ref a) rfl (.cons ry .nil)) q
  rcases s with ⟨hp, g, d, tk, os⟩
  refine PySem.GO.ne_own hu I.kIn J lk nf B.n B.m.at_ (isFn_ty B.m.fn) B.o (thn z ?_)
  rintro v s' ⟨r, H', I', rr, k, rfl, q'⟩
  exact ⟨k, rr, V.bl !k, H', I', rfl, q'⟩

/-! ### x in a -/
theorem op_inO {X : Cx} {CX : CXT} {E : XK} {k : Nat} {sp : Sp} {C f : Addr} (B : Meth X.K C "__contains__" f) (F : FnR X.prog X.w X.K X.mg X.base CX k f sp) (hr : Room k X.A) (hx : Passes CX X E) :
    OpR X (compareOp .In) (fun x y H Q => ∃ a dx fs, y = .ref a ∧ H a = some (.ins C dx fs) ∧ sp [y, x] H (fun v H' => ∃ k, v = .bl k ∧ Q v H') E) := by
  intro pins s σ H x y v u Q I rx ry h
  obtain ⟨a, dx, fs, rfl, ea, q⟩ := h
  cases (show u = Value.ref a from ry)
  obtain ⟨ox, od, J⟩ := inst_of I ea
  have z := wpAny_call (run_fnR F hr hx I (Paired.cons (a := V.ref a) (b := Value.ref a) rfl (.cons rx .nil)) q)
  rcases s with ⟨hp, g, d, tk, os⟩
  show wpAny _ _ (do let b ← contains (.ref a) v; return Value.bool b) _ _ _
  apply wpAny_bind
  refine PySem.GO.in_own I.kIn J B.at_ (isFn_ty B.fn) (thn z ?_)
  rintro w s' ⟨r, H', I', rr, k, rfl, q'⟩
  exact ⟨k, rr, wpAny_pure ⟨V.bl k, H', I', rfl, q'⟩⟩
end GL
set_option maxHeartbeats 1000000
/-! Calls with keywords alone: of defs, methods, classmethods. -/
namespace GL
open PySem PySem.Spec PyProof.Rows L2
theorem callWith_MK0 {A : Around} {E : Value → Shared → Prop} {s : Shared} {K : PySem.W.Frag} {M : Model} {env : Env} {pos : Pos} {first : List Value} {Q : Value → Shared → Prop} {q g : Addr} {self : Value} {kws : List Keyword} (hf : PySem.W.fnIn K g = true)
    (hall : ((backToKw pos (keywordEach kws env)).all fun x => x.fst.isSome) = true)
    (h : wpAny M A (evalAll (List.map (fun x => x.snd) (backToKw pos (keywordEach kws env))))
            (fun ks s₂ => PySem.W.MethP K q g self s₂.heap ∧ wpAny M A (call (.ref q) (first ++ []) ((List.filterMap (fun x => x.fst) (backToKw pos (keywordEach kws env))).zip ks)) Q E s₂) E s)
    (hplain : (((backTo pos (starEach [] env)).any fun x => x.fst) || (backToKw pos (keywordEach kws env)).any fun x => x.fst.isNone) = false) :
    wpAny M A (callWith pos (.ref q) first (backTo pos (starEach [] env)) (backToKw pos (keywordEach kws env))) Q E s :=
  PySem.W.callWith_of hplain (PySem.W.keeps_M hf) (evalArgs_kw2_nil hall h)
section
variable {X : Cx} {CX : CXT} {E : XK} {k n : Nat} {sp : Sp} {C f g : Addr} {fd : FuncData} {ps ks : List Str} {gU : List Value → List Value → List Value} {gV : List V → List V → List V} {kws : List Keyword} {tk : TA} {ta : TE} {o : Expr} {m x : Str} {p pos apos : Pos} {pl : Sem Bool}
theorem code_kw {pins : List (Addr × Obj)} {σ : L2.St} {H : Hp} {s : Shared} {Q : VK} {us ws : List Value} {vs zs : List V} (F : FnOk X.prog X.w X.K X.mg X.base CX k f fd ps sp) (hr : Room k X.A) (hb : KBn X.K fd ps n ks gU gV) (hx : Passes CX X E) (I : Inv X pins σ H s)
    (r : Vals vs us) (rz : Vals zs ws) (l1 : vs.length = n) (l2 : zs.length = ks.length) (q : sp (gV vs zs) H Q E) :
    codeAny (model X.prog X.w) X.A (.call (.ref f) ⟨us, ks.zip ws⟩) (fun r s' => match r with | .ok (.ret v) => EP X pins σ Q v s' | .ok _ => False | .error e => X.xe e s') s := by
  refine codeAny_mono (F.run X.A X.stack s H ⟨us, ks.zip ws⟩ (gU us ws) (gV vs zs) Q E hr I.env0 (hb.to s us ws I.kIn (by rw [← Paired.length r]; exact l1) (by rw [← Paired.length rz]; exact l2)) (hb.rel r rz) q) fun r' s' z => ?_
  match r', z with
  | .error er, z => exact hx pins σ H s er s' I z
  | .ok .next, z => exact False.elim z
  | .ok .brk, z => exact False.elim z
  | .ok .cont, z => exact False.elim z
  | .ok (.ret u), z => exact I.after z
/-- f(k = v, ..) -/
theorem pe_callN0 (F : FnOk X.prog X.w X.K X.mg X.base CX k f fd ps sp) (hr : Room k X.A) (hg : Gl X x) (hm : X.mg x = some (.ref f)) (hk : PySem.W.keepIn X.K (.ref f) = true) (hb : KBn X.K fd ps 0 ks gU gV) (hx : Passes CX X E) (hkw : PK X kws tk)
    (hall : (backToKw pos (keywordEach kws X.env)).all (·.1.isSome) = true := by rfl) (hks : (backToKw pos (keywordEach kws X.env)).filterMap (·.1) = ks := by rfl) (hdb : (x == ("__debug__" : Str)) = false := by decide)
    (hpl : ((backTo pos (starEach [] X.env)).any (·.1) || (backToKw pos (keywordEach kws X.env)).any (·.1.isNone)) = false := by rfl) :
    PE X (.Call (.Name x p) [] kws pos) (fun σ H Q => tk σ H fun zs H1 => zs.length = ks.length ∧ sp (gV [] zs) H1 Q E) := by
  constructor
  intro pins s σ H Q I h
  apply wpAny_Call_Name_kw
  refine ld_glob I hg hm ?_ hdb
  refine PySem.W.callWith_KW0 (h₀ := X.base) I.ok.mod.kin hk hall ?_ hpl
  refine thn (hkw.run pos pins s σ H _ I h) ?_
  rintro ws s2 ⟨zs, H2, I2, rz, l2, q⟩
  refine ⟨I2.kIn, ?_⟩
  rw [hks]
  exact wpAny_call (code_kw F hr hb hx I2 .nil rz rfl l2 q)
/-- o.m(k = v, ..) -/
theorem pe_methN0 (he : PE X o ta) (c : Cls X.K C) (hm : Meth X.K C m f) (F : FnOk X.prog X.w X.K X.mg X.base CX k f fd ps sp) (hr : Room k X.A) (hb : KBn X.K fd ps 1 ks gU gV) (hx : Passes CX X E) (hkw : PK X kws tk)
    (hall : (backToKw pos (keywordEach kws X.env)).all (·.1.isSome) = true := by rfl) (hks : (backToKw pos (keywordEach kws X.env)).filterMap (·.1) = ks := by rfl)
    (hpl : ((backTo pos (starEach [] X.env)).any (·.1) || (backToKw pos (keywordEach kws X.env)).any (·.1.isNone)) = false := by rfl)
    (ht : eval (.Call (.Attribute o m apos) [] kws pos) X.env = (do let ov ← eval o X.env; standAt apos.atName; let (f, first) ← holding [ov] (getMethod ov m pl); callWith pos f first (backTo pos (starEach [] X.env)) (backToKw pos (keywordEach kws X.env))) := by rfl) :
    PE X (.Call (.Attribute o m apos) [] kws pos) (fun σ H Q => ta σ H fun x H1 => ∃ a dx fs, x = .ref a ∧ H1 a = some (.ins C dx fs) ∧ fs.lookup m = none ∧ tk σ H1 fun zs H2 => zs.length = ks.length ∧ sp (gV [x] zs) H2 Q E) := by
  constructor
  intro pins s σ H Q I h
  refine PySem.W.methodCall_KW (thn (he.run pins s σ H _ I h) ?_) ht
  rintro u s1 ⟨x, H1, I1, rx, a, dx, fs, rfl, ea, l, q⟩
  cases (show u = Value.ref a from rx)
  refine getmeth_ok I1 ea c hm l ?_
  refine PySem.W.callWith_KW0 (h₀ := X.base) I.ok.mod.kin hm.kp hall ?_ hpl
  refine thn (hkw.run pos pins s1 σ H1 _ I1 q) ?_
  rintro ws s2 ⟨zs, H2, I2, rz, l2, q⟩
  refine ⟨I2.kIn, ?_⟩
  rw [hks]
  exact wpAny_call (code_kw F hr hb hx I2 (Paired.cons (a := V.ref a) (b := Value.ref a) rfl .nil) rz rfl l2 q)
/-- C.m(k = v, ..), m a classmethod -/
theorem pe_cmethN0 {mc : Value} {pp : Addr} (he : PE X o ta) (r : ClX.CRead X.K C mc) (c : ClX.CMet X.K C mc m pp f) (F : FnOk X.prog X.w X.K X.mg X.base CX k f fd ps sp) (hr : Room k X.A) (hb : KBn X.K fd ps 1 ks gU gV) (hx : Passes CX X E) (hkw : PK X kws tk)
    (hall : (backToKw pos (keywordEach kws X.env)).all (·.1.isSome) = true := by rfl) (hks : (backToKw pos (keywordEach kws X.env)).filterMap (·.1) = ks := by rfl)
    (hpl : ((backTo pos (starEach [] X.env)).any (·.1) || (backToKw pos (keywordEach kws X.env)).any (·.1.isNone)) = false := by rfl)
    (ht : eval (.Call (.Attribute o m apos) [] kws pos) X.env = (do let ov ← eval o X.env; standAt apos.atName; let (f, first) ← holding [ov] (getMethod ov m pl); callWith pos f first (backTo pos (starEach [] X.env)) (backToKw pos (keywordEach kws X.env))) := by rfl) :
    PE X (.Call (.Attribute o m apos) [] kws pos) (fun σ H Q => ta σ H fun x H1 => x = .ref C ∧ tk σ H1 fun zs H2 => zs.length = ks.length ∧ sp (gV [x] zs) H2 Q E) := by
  constructor
  intro pins s σ H Q I h
  refine PySem.W.methodCall_KW (thn (he.run pins s σ H _ I h) ?_) ht
  rintro u s1 ⟨x, H1, I1, rx, rfl, q⟩
  cases (show u = Value.ref C from rx)
  refine ClX.getmethcm_ok I1 r c fun s2 I2 => ?_
  refine callWith_MK0 (K := X.K) (g := f) (self := .ref C) c.fi hall ?_ hpl
  refine thn (hkw.run pos _ s2 σ H1 _ I2 q) ?_
  rintro ws s3 ⟨zs, H3, I3, rz, l2, q⟩
  refine ⟨⟨ClX.pin_at I3, I3.kIn⟩, ?_⟩
  rw [hks]
  have z := wpAny_call (PySem.W.method_call (pos := []) (ClX.pin_at I3) (code_kw F hr hb hx I3 (Paired.cons (a := V.ref C) (b := Value.ref C) rfl .nil) rz rfl l2 q))
  exact thn z fun _ _ y => ClX.unpinE y
end
end GL
set_option maxHeartbeats 4000000
/-! The hook with defs at any place: classmethods, properties. -/
namespace GL
open PySem PySem.Spec PyProof.Rows L2
structure DefX where
  ad : PySem.W.Frag → Addr
  d : He.DefD
def fnX (K : PySem.W.Frag) (x : DefX) : He.FnW := match K.lookup (x.ad K) with
  | some ⟨_, _, .func fd, _⟩ => some (fd.name, fd.qualname, fd.params, fd.body, fd.scope, fd.globals, fd.closure, fd.builtins)
  | _ => none
def okX (K : PySem.W.Frag) (x : DefX) : Bool := PySem.W.keepIn K (.ref (x.ad K)) && match K.lookup (x.ad K) with
  | some ⟨_, _, .func fd, _⟩ => PySem.W.codeIn K fd.code x.d.qual && (He.dflB K fd.defaults (He.DefD.dvs K x.d) && He.kwdB K fd.kwdefaults (He.DefD.kws K x.d))
  | _ => false
theorem funX {K : PySem.W.Frag} {x : DefX} (e : fnX K x = x.d.val) (o : okX K x = true) : ∃ fd, FunD K x.d.name x.d.qual x.d.params x.d.body x.d.scope (He.DefD.dvs K x.d) (He.DefD.kws K x.d) (x.ad K) fd := by
  obtain ⟨kp, o⟩ := He.ba o
  unfold fnX at e
  cases q : K.lookup (x.ad K) with
  | none =>
    rw [q] at o
    cases o
  | some ob =>
    obtain ⟨oc, od, dt, osl⟩ := ob
    rw [q] at e o
    cases dt with
    | func fd =>
      obtain ⟨n1, n2, n3, n4, n5, n6, n7, n8, n9, n10, n11, n12, n13, n14, n15⟩ := fd
      have e2 : some (n1, n2, n3, n4, n5, n6, n7, n15) = some (x.d.name, x.d.qual, x.d.params, FuncBody.stmts x.d.body, x.d.scope, mainGlobals, [], builtinsNs) := e
      simp only [Option.some.injEq, Prod.mk.injEq] at e2
      obtain ⟨rfl, rfl, rfl, rfl, rfl, rfl, rfl, rfl⟩ := e2
      obtain ⟨c1, c2⟩ := He.ba o
      obtain ⟨c2, c3⟩ := He.ba c2
      exact ⟨_, ⟨oc, od, n8, n9, n10, n11, n12, n13, n14, osl, rfl, q, c1, He.dflB_ok c2, He.kwdB_ok c3⟩, kp⟩
    | _ => cases o
def SaysX (fx : List DefX) (K : PySem.W.Frag) : Prop := fx.map (fnX K) = fx.map (fun x => x.d.val) ∧ fx.all (okX K) = true
theorem SaysX.def_ {fx : List DefX} {K : PySem.W.Frag} (c : SaysX fx K) (i : Nat) {x : DefX} (h : fx[i]? = some x := by rfl) :
    ∃ fd, FunD K x.d.name x.d.qual x.d.params x.d.body x.d.scope (He.DefD.dvs K x.d) (He.DefD.kws K x.d) (x.ad K) fd := by
  refine funX ?_ (List.all_eq_true.mp c.2 x (List.mem_of_getElem? h))
  have e : (fx.map (fnX K))[i]? = (fx.map (fun x => x.d.val))[i]? := by rw [c.1]
  rw [List.getElem?_map, List.getElem?_map, h] at e
  exact Option.some.inj e
abbrev AlZ : Type := He.AlD × (List He.FnW × Bool)
def obsZ (n : Nat) (fa : List He.Fa) (fn : List He.DefD) (fx : List DefX) (ex : PySem.W.Frag → Bool) (g : Addr → Option Obj) : AlZ := (He.obsD fa fn (kOf n g), (fx.map (fnX (kOf n g)), fx.all (okX (kOf n g)) && ex (kOf n g)))
def hookZ (n : Nat) (fa : List He.Fa) (fn : List He.DefD) (fx : List DefX) (ex : PySem.W.Frag → Bool) : PySem.W.Hook where
  α := AlZ
  obs := fun s => obsZ n fa fn fx ex s.heap.get?
  val := fun _ => (He.valD fn, (fx.map (fun x : DefX => x.d.val), true))
  says := fun _ h => ∃ K : PySem.W.Frag, K.In h ∧ He.SaysD fa fn K ∧ SaysX fx K ∧ ex K = true
  of := fun _ s e => ⟨kOf n s.heap.get?, He.frG_in, congrArg (fun z : AlZ => z.1) e, ⟨congrArg (fun z : AlZ => z.2.1) e, (He.ba (show (fx.all (okX (kOf n s.heap.get?)) && ex (kOf n s.heap.get?)) = true from congrArg (fun z : AlZ => z.2.2) e)).1⟩, (He.ba (show (fx.all (okX (kOf n s.heap.get?)) && ex (kOf n s.heap.get?)) = true from congrArg (fun z : AlZ => z.2.2) e)).2⟩
  keeps := fun _ _ _ ⟨K, hK, c⟩ k => ⟨K, PySem.W.Frag.In.keeps hK k, c⟩
theorem obsZ_eq {n : Nat} {fa : List He.Fa} {fn : List He.DefD} {fx : List DefX} {ex : PySem.W.Frag → Bool} {g : Addr → Option Obj} {s : Shared} (h : ∀ a, g a = s.heap.get? a) : obsZ n fa fn fx ex g = (hookZ n fa fn fx ex).obs s := by
  have e : g = s.heap.get? := funext h
  rw [e]
  rfl
/-! ### where a classmethod's, a property's def stands -/
def wrapAt (K : PySem.W.Frag) (C : Addr) (m : Str) (T : String) : Addr := match PySem.W.recIn K (He.ma K C m) T with
  | some (.ref g :: _) => g
  | _ => 0
def propB (K : PySem.W.Frag) (C : Addr) (f : Str) : Bool := He.eqO (PySem.W.findIn K (.ref C) f) (some (some (.ref (He.ma K C f)))) && (He.eqO (PySem.W.specialIn K (.ref (He.ma K C f)) "__get__") (some (some (.builtin "property.__get__"))) &&
  (decide (PySem.W.takesIn K (.ref (He.ma K C f)) = some true) && (match PySem.W.recIn K (He.ma K C f) "property" with | some (.ref _ :: _) => true | _ => false)))
theorem propB_ok {K : PySem.W.Frag} {C : Addr} {f : Str} (h : propB K C f = true) : PropOf K C f (He.ma K C f) (wrapAt K C f "property") := by
  obtain ⟨h1, h⟩ := He.ba h
  obtain ⟨h2, h⟩ := He.ba h
  obtain ⟨h3, h4⟩ := He.ba h
  refine ⟨He.eqO_ok h1, He.eqO_ok h2, of_decide_eq_true h3, ?_⟩
  unfold wrapAt
  split at h4
  · rename_i g rest e
    exact ⟨rest, by rw [e]⟩
  · cases h4
def cmetB (K : PySem.W.Frag) (C : Addr) (mc : Value) (m : Str) : Bool := (match PySem.W.findCls K (.ref C) mc m with | some (.get (.builtin i) (.ref p) .none (.ref C')) => i == "classmethod.__get__" && (p == He.ma K C m && C' == C) | _ => false) &&
  ((match PySem.W.recIn K (He.ma K C m) "classmethod" with | some (.ref _ :: _) => true | _ => false) && PySem.W.fnIn K (wrapAt K C m "classmethod"))
theorem cmetB_ok {K : PySem.W.Frag} {C : Addr} {mc : Value} {m : Str} (h : cmetB K C mc m = true) : ClX.CMet K C mc m (He.ma K C m) (wrapAt K C m "classmethod") := by
  obtain ⟨h1, h⟩ := He.ba h
  obtain ⟨h2, h3⟩ := He.ba h
  refine ⟨?_, ?_, h3⟩
  · split at h1
    · rename_i i p C' e
      simp only [Bool.and_eq_true, beq_iff_eq] at h1
      obtain ⟨rfl, rfl, rfl⟩ := h1
      exact e
    · cases h1
  · unfold wrapAt
    split at h2
    · rename_i g rest e
      exact ⟨rest, by rw [e]⟩
    · cases h2
end GL
set_option maxHeartbeats 4000000
namespace K18
open PySem PySem.Spec PyProof.Rows L2 GL
def tp (i : Nat) : Stmt := PySem.Challenge.pw_fademodes_k18_stage_one_by_names.main.body.getD i (.Pass ⟨0, 0, 0, 0⟩)
abbrev sIsInt : Stmt := tp 14
abbrev sIsNum : Stmt := tp 16
abbrev sRatio (j : Nat) : Stmt := inClass (tp 17) j
abbrev sRatiosOf : Stmt := tp 18
end K18
set_option maxHeartbeats 4000000
/-! The hook of GH with the interpreter's own statics among what K holds; keywords of defs without defaults. -/
namespace GL
open PySem PySem.Spec PyProof.Rows L2
/-- what an object names that a law's facts ask: a namespace's values, a def's code and defaults, a class's namespace, a record's fields -/
def refsT (o : Obj) : List Addr := match o.data with
  | .dict es _ => es.toList.flatMap fun e => He.refV e.val
  | .func fd => He.refV fd.code ++ He.refV fd.defaults
  | .cls cd => [cd.ns]
  | .fields vs => vs.toList.flatMap He.refV
  | _ => []
def nextT (g : Addr → Option Obj) (as : List Addr) : List Addr := as.flatMap fun a => match g a with
  | some o => refsT o
  | none => []
def lvls (g : Addr → Option Obj) : Nat → List Addr → List Addr
  | 0, as => as
  | n + 1, as => as ++ lvls g n (nextT g as)
def kOfT (n : Nat) (g : Addr → Option Obj) : PySem.W.Frag := He.frG g (cStatics :: sysModules :: lvls g n [mainGlobals])
def obsT (n : Nat) (fa : List He.Fa) (fn : List He.DefD) (fx : List DefX) (ex : PySem.W.Frag → Bool) (g : Addr → Option Obj) : AlZ := (He.obsD fa fn (kOfT n g), (fx.map (fnX (kOfT n g)), fx.all (okX (kOfT n g)) && ex (kOfT n g)))
def hookT (n : Nat) (fa : List He.Fa) (fn : List He.DefD) (fx : List DefX) (ex : PySem.W.Frag → Bool) : PySem.W.Hook where
  α := AlZ
  obs := fun s => obsT n fa fn fx ex s.heap.get?
  val := fun _ => (He.valD fn, (fx.map (fun x : DefX => x.d.val), true))
  says := fun _ h => ∃ K : PySem.W.Frag, K.In h ∧ He.SaysD fa fn K ∧ SaysX fx K ∧ ex K = true
  of := fun _ s e => ⟨kOfT n s.heap.get?, He.frG_in, congrArg (fun z : AlZ => z.1) e, ⟨congrArg (fun z : AlZ => z.2.1) e, (He.ba (show (fx.all (okX (kOfT n s.heap.get?)) && ex (kOfT n s.heap.get?)) = true from congrArg (fun z : AlZ => z.2.2) e)).1⟩, (He.ba (show (fx.all (okX (kOfT n s.heap.get?)) && ex (kOfT n s.heap.get?)) = true from congrArg (fun z : AlZ => z.2.2) e)).2⟩
  keeps := fun _ _ _ ⟨K, hK, c⟩ k => ⟨K, PySem.W.Frag.In.keeps hK k, c⟩
theorem obsT_eq {n : Nat} {fa : List He.Fa} {fn : List He.DefD} {fx : List DefX} {ex : PySem.W.Frag → Bool} {g : Addr → Option Obj} {s : Shared} (h : ∀ a, g a = s.heap.get? a) : obsT n fa fn fx ex g = (hookT n fa fn fx ex).obs s := by
  have e : g = s.heap.get? := funext h
  rw [e]
  rfl
/-- every parameter but the first n is named -/
theorem kbn {K : PySem.W.Frag} {x qual : Str} {params : Arguments} {body : List Stmt} {scope : Scope} {kws : List (Str × V)} {f : Addr} {fd : FuncData} {ps : List Str} (F : FunD K x qual params body scope [] kws f fd) (n : Nat) (ks : List Str) (gU : List Value → List Value → List Value) (gV : List V → List V → List V)
    (hrel : ∀ {vs zs : List V} {us ws : List Value}, Vals vs us → Vals zs ws → Vals (gV vs zs) (gU us ws))
    (h : ∀ (kV doc pm : Value) (an : Option Addr) (cdv ct : Value) (us ws : List Value), us.length = n → ws.length = ks.length → bindArgs (PySem.W.fnOf x qual params body scope .none kV doc pm an cdv ct) ⟨us, ks.zip ws⟩ = pure (ps.zip (gU us ws))) : KBn K fd ps n ks gU gV := by
  obtain ⟨oc, od, dV, kV, doc, pm, an, cdv, ct, osl, rfl, lk, hcd, hD, hK⟩ := F.ex
  rcases hD with ⟨_, rfl⟩ | ⟨e, _⟩
  · exact ⟨fun s us ws _ l1 l2 => .of_eq (h kV doc pm an cdv ct us ws l1 l2), fun r z => hrel r z⟩
  · exact absurd rfl e
theorem Vals.rev : ∀ {vs : List V} {us : List Value}, Vals vs us → Vals vs.reverse us.reverse
  | _, _, .nil => .nil
  | _, _, .cons a b => by
    rw [List.reverse_cons, List.reverse_cons]
    exact (Vals.rev b).append (.cons a .nil)
end GL
namespace GL
open PySem PySem.Spec PyProof.Rows L2
section
open HandSHeadRun
/-- the head's run, put together from what it shows of its parts: each is computed by itself -/
theorem run_parts {r : PySem.W.OpenRow} {q : Program} {n : Nat} {fa : List He.Fa} {fn : List He.DefD} {fx : List DefX} {ex : PySem.W.Frag → Bool} {M : Nat} {loose : List PySem.Str} {w : World}
    (h1 : (wholeF (fun p => stepQ (denQ tabQ) p w) fenceQ M r.prog).map (fun x => (looksF r.prog x.1.heap x.2.abs, seenQ q loose (importedModules r.prog.main.body) (fun s => PySem.W.xlAt q [] s && PySem.W.recOk r.toRowW.records s) x.2.abs)) = some (true, PySem.W.openGood q loose))
    (h2 : (wholeF (fun p => stepQ (denQ tabQ) p w) fenceQ M r.prog).map (fun x => He.obsD fa fn (kOfT n (getT x.2))) = some (He.valD fn))
    (h3 : (wholeF (fun p => stepQ (denQ tabQ) p w) fenceQ M r.prog).map (fun x => (fx.map (fnX (kOfT n (getT x.2))), fx.all (okX (kOfT n (getT x.2))) && ex (kOfT n (getT x.2)))) = some (fx.map (fun x : DefX => x.d.val), true)) :
    RunEqI r q (hookT n fa fn fx ex) (fun s => obsT n fa fn fx ex (getT s)) M loose w := by
  unfold RunEqI
  cases e : wholeF (fun p => stepQ (denQ tabQ) p w) fenceQ M r.prog with
  | none =>
    rw [e] at h1
    cases h1
  | some x =>
    rw [e] at h1 h2 h3
    have a1 := Option.some.inj h1
    have a2 := Option.some.inj h2
    have a3 := Option.some.inj h3
    obtain ⟨b1, b2⟩ := Prod.mk.inj a1
    refine congrArg some (Prod.ext b1 (Prod.ext b2 ?_))
    exact Prod.ext a2 a3
end
end GL
set_option maxHeartbeats 0
namespace K18
open PySem PySem.Spec PyProof.Rows L2 GL
def plain (x : Str) (i : Nat) : He.DefD := ⟨(x, none), x, x, defArgs (tp i), defBody (tp i), defScope (tp i), [], []⟩
def fns : List He.DefD := [plain "is_integer" 14,
  plain "is_number" 16,
  ⟨("Ratio", some "__init__"), "__init__", "Ratio.__init__", defArgs (inClass (tp 17) 0), defBody (inClass (tp 17) 0), defScope (inClass (tp 17) 0), [.int 1], []⟩,
  ⟨("Ratio", some "is_below"), "is_below", "Ratio.is_below", defArgs (inClass (tp 17) 7), defBody (inClass (tp 17) 7), defScope (inClass (tp 17) 7), [], []⟩,
  ⟨("Ratio", some "over"), "over", "Ratio.over", defArgs (inClass (tp 17) 8), defBody (inClass (tp 17) 8), defScope (inClass (tp 17) 8), [], []⟩,
  ⟨("Ratio", some "__add__"), "__add__", "Ratio.__add__", defArgs (inClass (tp 17) 9), defBody (inClass (tp 17) 9), defScope (inClass (tp 17) 9), [], []⟩,
  ⟨("Ratio", some "__sub__"), "__sub__", "Ratio.__sub__", defArgs (inClass (tp 17) 10), defBody (inClass (tp 17) 10), defScope (inClass (tp 17) 10), [], []⟩,
  ⟨("Ratio", some "__mul__"), "__mul__", "Ratio.__mul__", defArgs (inClass (tp 17) 11), defBody (inClass (tp 17) 11), defScope (inClass (tp 17) 11), [], []⟩,
  ⟨("Ratio", some "__neg__"), "__neg__", "Ratio.__neg__", defArgs (inClass (tp 17) 12), defBody (inClass (tp 17) 12), defScope (inClass (tp 17) 12), [], []⟩,
  ⟨("Ratio", some "__eq__"), "__eq__", "Ratio.__eq__", defArgs (inClass (tp 17) 13), defBody (inClass (tp 17) 13), defScope (inClass (tp 17) 13), [], []⟩,
  ⟨("Ratio", some "__str__"), "__str__", "Ratio.__str__", defArgs (inClass (tp 17) 14), defBody (inClass (tp 17) 14), defScope (inClass (tp 17) 14), [], []⟩,
  ⟨("Ratio", some "__repr__"), "__repr__", "Ratio.__repr__", defArgs (inClass (tp 17) 15), defBody (inClass (tp 17) 15), defScope (inClass (tp 17) 15), [], []⟩,
  plain "_ratios_of" 18,
  plain "is_cut" 20,
  plain "is_stretch" 21,
  plain "ratio_cut" 22,
  plain "is_above" 23,
  plain "is_ahead" 24,
  plain "precedes" 25,
  plain "is_within" 26,
  plain "mark_of" 27,
  ⟨("Range", some "__init__"), "__init__", "Range.__init__", defArgs (inClass (tp 28) 0), defBody (inClass (tp 28) 0), defScope (inClass (tp 28) 0), [], []⟩,
  ⟨("Range", some "outer"), "outer", "Range.outer", defArgs (inClass (tp 28) 3), defBody (inClass (tp 28) 3), defScope (inClass (tp 28) 3), [], []⟩,
  ⟨("Range", some "is_inner"), "is_inner", "Range.is_inner", defArgs (inClass (tp 28) 4), defBody (inClass (tp 28) 4), defScope (inClass (tp 28) 4), [], []⟩,
  ⟨("Range", some "fit"), "fit", "Range.fit", defArgs (inClass (tp 28) 5), defBody (inClass (tp 28) 5), defScope (inClass (tp 28) 5), [], []⟩,
  ⟨("Range", some "has_stretch"), "has_stretch", "Range.has_stretch", defArgs (inClass (tp 28) 6), defBody (inClass (tp 28) 6), defScope (inClass (tp 28) 6), [], []⟩,
  ⟨("Range", some "__contains__"), "__contains__", "Range.__contains__", defArgs (inClass (tp 28) 7), defBody (inClass (tp 28) 7), defScope (inClass (tp 28) 7), [], []⟩,
  ⟨("Range", some "__eq__"), "__eq__", "Range.__eq__", defArgs (inClass (tp 28) 8), defBody (inClass (tp 28) 8), defScope (inClass (tp 28) 8), [], []⟩,
  ⟨("Range", some "__repr__"), "__repr__", "Range.__repr__", defArgs (inClass (tp 28) 9), defBody (inClass (tp 28) 9), defScope (inClass (tp 28) 9), [], []⟩,
  ⟨("Move", some "__init__"), "__init__", "Move.__init__", defArgs (inClass (tp 31) 0), defBody (inClass (tp 31) 0), defScope (inClass (tp 31) 0), [], []⟩,
  ⟨("Move", some "at"), "at", "Move.at", defArgs (inClass (tp 31) 9), defBody (inClass (tp 31) 9), defScope (inClass (tp 31) 9), [], []⟩,
  ⟨("Move", some "_free"), "_free", "Move._free", defArgs (inClass (tp 31) 10), defBody (inClass (tp 31) 10), defScope (inClass (tp 31) 10), [], []⟩,
  ⟨("Move", some "then"), "then", "Move.then", defArgs (inClass (tp 31) 11), defBody (inClass (tp 31) 11), defScope (inClass (tp 31) 11), [], []⟩,
  ⟨("Move", some "back"), "back", "Move.back", defArgs (inClass (tp 31) 12), defBody (inClass (tp 31) 12), defScope (inClass (tp 31) 12), [], []⟩,
  ⟨("Move", some "upper_image"), "upper_image", "Move.upper_image", defArgs (inClass (tp 31) 13), defBody (inClass (tp 31) 13), defScope (inClass (tp 31) 13), [], []⟩,
  ⟨("Move", some "lower_image"), "lower_image", "Move.lower_image", defArgs (inClass (tp 31) 14), defBody (inClass (tp 31) 14), defScope (inClass (tp 31) 14), [], []⟩,
  ⟨("Move", some "form"), "form", "Move.form", defArgs (inClass (tp 31) 15), defBody (inClass (tp 31) 15), defScope (inClass (tp 31) 15), [], []⟩,
  ⟨("Move", some "is_alike"), "is_alike", "Move.is_alike", defArgs (inClass (tp 31) 16), defBody (inClass (tp 31) 16), defScope (inClass (tp 31) 16), [], []⟩,
  ⟨("Move", some "done"), "done", "Move.done", defArgs (inClass (tp 31) 17), defBody (inClass (tp 31) 17), defScope (inClass (tp 31) 17), [], []⟩,
  ⟨("Move", some "_raised"), "_raised", "Move._raised", defArgs (inClass (tp 31) 18), defBody (inClass (tp 31) 18), defScope (inClass (tp 31) 18), [], []⟩,
  ⟨("Move", some "_held"), "_held", "Move._held", defArgs (inClass (tp 31) 19), defBody (inClass (tp 31) 19), defScope (inClass (tp 31) 19), [], []⟩,
  ⟨("Move", some "tends"), "tends", "Move.tends", defArgs (inClass (tp 31) 20), defBody (inClass (tp 31) 20), defScope (inClass (tp 31) 20), [], []⟩,
  ⟨("Move", some "_limit_of"), "_limit_of", "Move._limit_of", defArgs (inClass (tp 31) 21), defBody (inClass (tp 31) 21), defScope (inClass (tp 31) 21), [], []⟩,
  ⟨("Move", some "_fixed"), "_fixed", "Move._fixed", defArgs (inClass (tp 31) 22), defBody (inClass (tp 31) 22), defScope (inClass (tp 31) 22), [], []⟩,
  ⟨("Move", some "_turns_from"), "_turns_from", "Move._turns_from", defArgs (inClass (tp 31) 23), defBody (inClass (tp 31) 23), defScope (inClass (tp 31) 23), [], []⟩,
  ⟨("Move", some "upper_limit"), "upper_limit", "Move.upper_limit", defArgs (inClass (tp 31) 24), defBody (inClass (tp 31) 24), defScope (inClass (tp 31) 24), [], []⟩,
  ⟨("Move", some "lower_limit"), "lower_limit", "Move.lower_limit", defArgs (inClass (tp 31) 25), defBody (inClass (tp 31) 25), defScope (inClass (tp 31) 25), [], []⟩,
  ⟨("Move", some "__eq__"), "__eq__", "Move.__eq__", defArgs (inClass (tp 31) 26), defBody (inClass (tp 31) 26), defScope (inClass (tp 31) 26), [], []⟩,
  ⟨("WayBack", some "__init__"), "__init__", "WayBack.__init__", defArgs (inClass (tp 32) 0), defBody (inClass (tp 32) 0), defScope (inClass (tp 32) 0), [], []⟩,
  ⟨("WayBack", some "led"), "led", "WayBack.led", defArgs (inClass (tp 32) 1), defBody (inClass (tp 32) 1), defScope (inClass (tp 32) 1), [], []⟩,
  ⟨("WayBack", some "led_inside"), "led_inside", "WayBack.led_inside", defArgs (inClass (tp 32) 2), defBody (inClass (tp 32) 2), defScope (inClass (tp 32) 2), [], []⟩,
  plain "_whole_turns" 33,
  plain "_check_divisor" 34,
  plain "_check_part" 35,
  plain "_check_range" 36,
  plain "_check_other" 37,
  plain "_law_rng" 39,
  plain "_law_draw" 40,
  plain "_law_choice" 41,
  plain "_law_plain" 42,
  plain "_law_fraction" 43,
  plain "_law_thing" 44,
  plain "_law_ratios_right" 45,
  plain "_law_cuts_right" 46,
  plain "_law_ranges_right" 47,
  plain "_law_moves_right" 48,
  plain "_law_class_methods_right" 49,
  plain "_law_right" 50,
  plain "law" 51]
def fxs : List DefX := [⟨fun K => wrapAt K (He.ga K "Ratio") "of" "classmethod", ⟨("Ratio", some "of"), "of", "Ratio.of", defArgs (inClass (tp 17) 1), defBody (inClass (tp 17) 1), defScope (inClass (tp 17) 1), [], []⟩⟩,
  ⟨fun K => wrapAt K (He.ga K "Ratio") "least" "classmethod", ⟨("Ratio", some "least"), "least", "Ratio.least", defArgs (inClass (tp 17) 2), defBody (inClass (tp 17) 2), defScope (inClass (tp 17) 2), [], []⟩⟩,
  ⟨fun K => wrapAt K (He.ga K "Ratio") "greatest" "classmethod", ⟨("Ratio", some "greatest"), "greatest", "Ratio.greatest", defArgs (inClass (tp 17) 3), defBody (inClass (tp 17) 3), defScope (inClass (tp 17) 3), [], []⟩⟩,
  ⟨fun K => wrapAt K (He.ga K "Ratio") "top" "property", ⟨("Ratio", some "top"), "top", "Ratio.top", defArgs (inClass (tp 17) 4), defBody (inClass (tp 17) 4), defScope (inClass (tp 17) 4), [], []⟩⟩,
  ⟨fun K => wrapAt K (He.ga K "Ratio") "bottom" "property", ⟨("Ratio", some "bottom"), "bottom", "Ratio.bottom", defArgs (inClass (tp 17) 5), defBody (inClass (tp 17) 5), defScope (inClass (tp 17) 5), [], []⟩⟩,
  ⟨fun K => wrapAt K (He.ga K "Ratio") "sign" "property", ⟨("Ratio", some "sign"), "sign", "Ratio.sign", defArgs (inClass (tp 17) 6), defBody (inClass (tp 17) 6), defScope (inClass (tp 17) 6), [], []⟩⟩,
  ⟨fun K => wrapAt K (He.ga K "Range") "low" "property", ⟨("Range", some "low"), "low", "Range.low", defArgs (inClass (tp 28) 1), defBody (inClass (tp 28) 1), defScope (inClass (tp 28) 1), [], []⟩⟩,
  ⟨fun K => wrapAt K (He.ga K "Range") "high" "property", ⟨("Range", some "high"), "high", "Range.high", defArgs (inClass (tp 28) 2), defBody (inClass (tp 28) 2), defScope (inClass (tp 28) 2), [], []⟩⟩,
  ⟨fun K => wrapAt K (He.ga K "Move") "setting" "classmethod", ⟨("Move", some "setting"), "setting", "Move.setting", defArgs (inClass (tp 31) 1), defBody (inClass (tp 31) 1), defScope (inClass (tp 31) 1), [], []⟩⟩,
  ⟨fun K => wrapAt K (He.ga K "Move") "staying" "classmethod", ⟨("Move", some "staying"), "staying", "Move.staying", defArgs (inClass (tp 31) 2), defBody (inClass (tp 31) 2), defScope (inClass (tp 31) 2), [], []⟩⟩,
  ⟨fun K => wrapAt K (He.ga K "Move") "adding" "classmethod", ⟨("Move", some "adding"), "adding", "Move.adding", defArgs (inClass (tp 31) 3), defBody (inClass (tp 31) 3), defScope (inClass (tp 31) 3), [], []⟩⟩,
  ⟨fun K => wrapAt K (He.ga K "Move") "dividing" "classmethod", ⟨("Move", some "dividing"), "dividing", "Move.dividing", defArgs (inClass (tp 31) 4), defBody (inClass (tp 31) 4), defScope (inClass (tp 31) 4), [], []⟩⟩,
  ⟨fun K => wrapAt K (He.ga K "Move") "divisor" "property", ⟨("Move", some "divisor"), "divisor", "Move.divisor", defArgs (inClass (tp 31) 5), defBody (inClass (tp 31) 5), defScope (inClass (tp 31) 5), [], []⟩⟩,
  ⟨fun K => wrapAt K (He.ga K "Move") "plus" "property", ⟨("Move", some "plus"), "plus", "Move.plus", defArgs (inClass (tp 31) 6), defBody (inClass (tp 31) 6), defScope (inClass (tp 31) 6), [], []⟩⟩,
  ⟨fun K => wrapAt K (He.ga K "Move") "low" "property", ⟨("Move", some "low"), "low", "Move.low", defArgs (inClass (tp 31) 7), defBody (inClass (tp 31) 7), defScope (inClass (tp 31) 7), [], []⟩⟩,
  ⟨fun K => wrapAt K (He.ga K "Move") "high" "property", ⟨("Move", some "high"), "high", "Move.high", defArgs (inClass (tp 31) 8), defBody (inClass (tp 31) 8), defScope (inClass (tp 31) 8), [], []⟩⟩]
def fas : List He.Fa := [.glo "is_integer",
  .glo "is_number",
  .glo "Ratio",
  .glo "_ratios_of",
  .glo "is_cut",
  .glo "is_stretch",
  .glo "ratio_cut",
  .glo "is_above",
  .glo "is_ahead",
  .glo "precedes",
  .glo "is_within",
  .glo "mark_of",
  .glo "Range",
  .glo "Move",
  .glo "WayBack",
  .glo "_whole_turns",
  .glo "_check_divisor",
  .glo "_check_part",
  .glo "_check_range",
  .glo "_check_other",
  .glo "_law_rng",
  .glo "_law_draw",
  .glo "_law_choice",
  .glo "_law_plain",
  .glo "_law_fraction",
  .glo "_law_thing",
  .glo "_law_ratios_right",
  .glo "_law_cuts_right",
  .glo "_law_ranges_right",
  .glo "_law_moves_right",
  .glo "_law_class_methods_right",
  .glo "_law_right",
  .glo "law",
  .free "isinstance",
  .free "int",
  .free "bool",
  .free "len",
  .free "abs",
  .free "max",
  .free "min",
  .free "divmod",
  .free "str",
  .free "list",
  .free "all",
  .free "range",
  .free "tuple",
  .cls "Ratio",
  .noat "Ratio" "_top",
  .noat "Ratio" "_bottom",
  .mkr "Ratio",
  .cls "Range",
  .noat "Range" "_low",
  .noat "Range" "_high",
  .mkr "Range",
  .cls "Move",
  .noat "Move" "_divisor",
  .noat "Move" "_plus",
  .noat "Move" "_low",
  .noat "Move" "_high",
  .mkr "Move",
  .cls "WayBack",
  .noat "WayBack" "_move",
  .noat "WayBack" "_first",
  .noat "WayBack" "_second",
  .noat "WayBack" "_lowest",
  .noat "WayBack" "_highest",
  .mkr "WayBack",
  .meth "Ratio" "is_below",
  .meth "Ratio" "over",
  .meth "Ratio" "__add__",
  .meth "Ratio" "__sub__",
  .meth "Ratio" "__mul__",
  .meth "Ratio" "__neg__",
  .meth "Ratio" "__eq__",
  .meth "Ratio" "__str__",
  .meth "Range" "outer",
  .meth "Range" "is_inner",
  .meth "Range" "fit",
  .meth "Range" "has_stretch",
  .meth "Range" "__contains__",
  .meth "Range" "__eq__",
  .meth "Move" "at",
  .meth "Move" "_free",
  .meth "Move" "then",
  .meth "Move" "back",
  .meth "Move" "upper_image",
  .meth "Move" "lower_image",
  .meth "Move" "form",
  .meth "Move" "is_alike",
  .meth "Move" "done",
  .meth "Move" "_raised",
  .meth "Move" "_held",
  .meth "Move" "tends",
  .meth "Move" "_limit_of",
  .meth "Move" "_fixed",
  .meth "Move" "_turns_from",
  .meth "Move" "upper_limit",
  .meth "Move" "lower_limit",
  .meth "Move" "__eq__",
  .meth "WayBack" "led",
  .meth "WayBack" "led_inside",
  .int "MOST_TIMES" 100]
def mroB (K : PySem.W.Frag) (C : Addr) : Bool := match PySem.W.clsIn K C with
  | some cd => (match cd.mro with | .ref a :: _ => a == C | _ => false)
  | none => false
def chks (K : PySem.W.Frag) : List Bool := [decide (PySem.W.specialIn K (.builtin "object.__class__") "__get__" = some (some (.builtin "getset_descriptor.__get__"))),
  decide (PySem.W.takesIn K (.builtin "object.__class__") = some true),
  He.eqO (PySem.W.findIn K (.ref (He.ga K "Ratio")) "__class__") (some (some (.builtin "object.__class__"))),
  decide (PySem.W.mroIn K (He.ga K "Ratio") (.type "object") = some true),
  He.eqO (PySem.W.findIn K (.ref (He.ga K "Ratio")) "__ne__") (some (some (.builtin "object.__ne__"))),
  He.eqO (PySem.W.findIn K (.ref (He.ga K "Range")) "__class__") (some (some (.builtin "object.__class__"))),
  decide (PySem.W.mroIn K (He.ga K "Range") (.type "object") = some true),
  He.eqO (PySem.W.findIn K (.ref (He.ga K "Range")) "__ne__") (some (some (.builtin "object.__ne__"))),
  He.eqO (PySem.W.findIn K (.ref (He.ga K "Move")) "__class__") (some (some (.builtin "object.__class__"))),
  decide (PySem.W.mroIn K (He.ga K "Move") (.type "object") = some true),
  He.eqO (PySem.W.findIn K (.ref (He.ga K "Move")) "__ne__") (some (some (.builtin "object.__ne__"))),
  decide (PySem.W.kitOne K (.ref (He.ga K "Ratio")) (.type "int") = some false),
  decide (PySem.W.kitOne K (.type "int") (.ref (He.ga K "Ratio")) = some false),
  He.eqO (PySem.W.findIn K (.ref (He.ga K "Ratio")) "__radd__") (some none),
  He.eqO (PySem.W.findIn K (.ref (He.ga K "Ratio")) "__rsub__") (some none),
  He.eqO (PySem.W.findIn K (.ref (He.ga K "Ratio")) "__rmul__") (some none),
  mroB K (He.ga K "Ratio"),
  decide (PySem.W.subIn K (.type "int") (.ref (He.ga K "Ratio")) = some false),
  propB K (He.ga K "Ratio") "top",
  propB K (He.ga K "Ratio") "bottom",
  propB K (He.ga K "Ratio") "sign",
  propB K (He.ga K "Range") "low",
  propB K (He.ga K "Range") "high",
  propB K (He.ga K "Move") "divisor",
  propB K (He.ga K "Move") "plus",
  propB K (He.ga K "Move") "low",
  propB K (He.ga K "Move") "high",
  cmetB K (He.ga K "Ratio") (.type "type") "of",
  cmetB K (He.ga K "Ratio") (.type "type") "least",
  cmetB K (He.ga K "Ratio") (.type "type") "greatest",
  cmetB K (He.ga K "Move") (.type "type") "setting",
  cmetB K (He.ga K "Move") (.type "type") "staying",
  cmetB K (He.ga K "Move") (.type "type") "adding",
  cmetB K (He.ga K "Move") (.type "type") "dividing",
  PySem.W.readsIn K (He.ga K "Ratio") (.type "type"),
  He.eqO (PySem.W.specialIn K (.ref (He.ga K "Ratio")) "__getattribute__") (some (some (.builtin "type.__getattribute__"))),
  PySem.W.readsIn K (He.ga K "Move") (.type "type"),
  He.eqO (PySem.W.specialIn K (.ref (He.ga K "Move")) "__getattribute__") (some (some (.builtin "type.__getattribute__"))),
  PySem.W.notFirst K (He.ga K "Ratio") (.type "list"),
  decide (PySem.W.kitOne K (.type "list") (.ref (He.ga K "Ratio")) = some false),
  PySem.W.notFirst K (He.ga K "Ratio") (.type "str"),
  decide (PySem.W.kitOne K (.type "str") (.ref (He.ga K "Ratio")) = some false),
  PySem.W.notFirst K (He.ga K "Range") (.type "tuple"),
  decide (PySem.W.kitOne K (.type "tuple") (.ref (He.ga K "Range")) = some false),
  PySem.W.notFirst K (He.ga K "Move") (.type "tuple"),
  decide (PySem.W.kitOne K (.type "tuple") (.ref (He.ga K "Move")) = some false),
  He.eqO (PySem.W.nsIn K mainGlobals "gcd") (some (some (.builtin "math.gcd")))]
def exB (K : PySem.W.Frag) : Bool := sysB K && (chks K).all id
end K18
set_option maxHeartbeats 0
namespace K18
open PySem PySem.Spec PyProof.Rows L2 GL
abbrev R : PySem.W.OpenRow := PySem.W.OpenLaw.row PySem.Challenge.rw_fademodes_k18_stage_one_by_names
abbrev hk : PySem.W.Hook := hookT 5 fas fns fxs exB
def ob (s : PySem.W.SharedT) : AlZ := obsT 5 fas fns fxs exB (HandSHeadRun.getT s)
theorem ob_eq (s : PySem.W.SharedT) : ob s = hk.obs s.abs := obsT_eq (HandSHeadRun.getT_eq s)
def loose : List PySem.Str := (["_wall", "__name__", "FadeError", "InvalidNumber", "InvalidCut", "InvalidStretch", "InvalidRange", "InvalidMove", "InvalidCount", "TooMany", "StateError", "DividedByZero", "is_integer", "is_number", "Ratio", "_ratios_of", "is_cut", "is_stretch", "ratio_cut", "is_above"] : List PySem.Str) ++ (["is_ahead", "precedes", "is_within", "mark_of", "Range", "MOST_TIMES", "Move", "WayBack", "_whole_turns", "_check_divisor", "_check_part", "_check_range", "_check_other", "_law_rng", "_law_draw", "_law_choice", "_law_plain", "_law_fraction", "_law_thing", "_law_ratios_right"] : List PySem.Str) ++ (["_law_cuts_right", "_law_ranges_right", "_law_moves_right", "_law_class_methods_right", "_law_right"] : List PySem.Str)
theorem run1 (w : World) : (HandSHeadRun.wholeF (fun p => HandSHeadRun.stepQ (HandSHeadRun.denQ HandSHeadRun.tabQ) p w) HandSHeadRun.fenceQ 20000 R.prog).map (fun x => (HandSHeadRun.looksF R.prog x.1.heap x.2.abs, HandSHeadRun.seenQ (PySem.W.view R.prog [0, 51]) loose (importedModules R.prog.main.body) (fun s => PySem.W.xlAt (PySem.W.view R.prog [0, 51]) [] s && PySem.W.recOk R.toRowW.records s) x.2.abs)) = some (true, PySem.W.openGood (PySem.W.view R.prog [0, 51]) loose) := by
  kernel_rfl
theorem run2 (w : World) : (HandSHeadRun.wholeF (fun p => HandSHeadRun.stepQ (HandSHeadRun.denQ HandSHeadRun.tabQ) p w) HandSHeadRun.fenceQ 20000 R.prog).map (fun x => He.obsD fas fns (kOfT 5 (HandSHeadRun.getT x.2))) = some (He.valD fns) := by
  kernel_rfl
theorem run3 (w : World) : (HandSHeadRun.wholeF (fun p => HandSHeadRun.stepQ (HandSHeadRun.denQ HandSHeadRun.tabQ) p w) HandSHeadRun.fenceQ 20000 R.prog).map (fun x => (fxs.map (fnX (kOfT 5 (HandSHeadRun.getT x.2))), fxs.all (okX (kOfT 5 (HandSHeadRun.getT x.2))) && exB (kOfT 5 (HandSHeadRun.getT x.2)))) = some (fxs.map (fun x : DefX => x.d.val), true) := by
  kernel_rfl
theorem run (w : World) : HandSHeadRun.RunEqI R (PySem.W.view R.prog [0, 51]) hk ob 20000 loose w := run_parts (run1 w) (run2 w) (run3 w)
end K18
set_option maxHeartbeats 4000000
namespace K18
open PySem PySem.Spec PyProof.Rows L2 GL
/-! ### numbers in lowest terms -/
theorem norm {t b : Int} (hb : b ≠ 0) : t.fdiv (if 0 < b then (t.natAbs.gcd b.natAbs : Int) else -(t.natAbs.gcd b.natAbs : Int)) = (Rat.divInt t b).num ∧
    b.fdiv (if 0 < b then (t.natAbs.gcd b.natAbs : Int) else -(t.natAbs.gcd b.natAbs : Int)) = ((Rat.divInt t b).den : Int) := by
  have hg : b.gcd t = t.natAbs.gcd b.natAbs := Nat.gcd_comm _ _
  have g0 : 0 < t.natAbs.gcd b.natAbs := Nat.gcd_pos_of_pos_right _ (Int.natAbs_pos.mpr hb)
  rw [Rat.num_divInt, Rat.den_divInt, if_neg hb, hg]
  generalize hG : t.natAbs.gcd b.natAbs = G at *
  have dT : (G : Int) ∣ t := by
    rw [← hG]
    exact Int.ofNat_dvd_left.mpr (Nat.gcd_dvd_left _ _)
  have dB : (G : Int) ∣ b := by
    rw [← hG]
    exact Int.ofNat_dvd_left.mpr (Nat.gcd_dvd_right _ _)
  obtain ⟨x, rfl⟩ := dT
  obtain ⟨y, rfl⟩ := dB
  have gi : (0 : Int) < (G : Int) := by omega
  have gn : (G : Int) ≠ 0 := by omega
  have y0 : y ≠ 0 := by
    rintro rfl
    exact hb (Int.mul_zero _)
  have e3 : ((((G : Int) * y).natAbs / G : Nat) : Int) = (y.natAbs : Int) := by
    rw [Int.natAbs_mul, Int.natAbs_natCast, Nat.mul_div_cancel_left _ g0]
  rw [e3]
  by_cases hp : 0 < (G : Int) * y
  · have yp : 0 < y := by
      rcases Int.lt_or_gt_of_ne y0 with q | q
      · exact absurd (Int.mul_neg_of_pos_of_neg gi q) (by omega)
      · exact q
    rw [if_pos hp, Int.fdiv_eq_ediv_of_nonneg _ (by omega), Int.fdiv_eq_ediv_of_nonneg _ (by omega), Int.mul_ediv_cancel_left _ gn, Int.mul_ediv_cancel_left _ gn, Int.sign_eq_one_of_pos hp, Int.one_mul, Int.mul_ediv_cancel_left _ gn]
    exact ⟨rfl, by omega⟩
  · have hn : (G : Int) * y < 0 := by
      have : (G : Int) * y ≠ 0 := hb
      omega
    have yn : y < 0 := by
      rcases Int.lt_or_gt_of_ne y0 with q | q
      · exact q
      · exact absurd (Int.mul_pos gi q) hp
    have e1 : ((G : Int) * x).fdiv (-(G : Int)) = -x := by
      rw [← Int.neg_fdiv_neg, Int.neg_neg, Int.fdiv_eq_ediv_of_nonneg _ (by omega), ← Int.mul_neg, Int.mul_ediv_cancel_left _ gn]
    have e2 : ((G : Int) * y).fdiv (-(G : Int)) = -y := by
      rw [← Int.neg_fdiv_neg, Int.neg_neg, Int.fdiv_eq_ediv_of_nonneg _ (by omega), ← Int.mul_neg, Int.mul_ediv_cancel_left _ gn]
    rw [if_neg hp, e1, e2, Int.sign_eq_neg_one_of_neg hn, Int.neg_one_mul, ← Int.mul_neg, Int.mul_ediv_cancel_left _ gn]
    exact ⟨rfl, by omega⟩
/-! ### the class Ratio -/
abbrev aR (K : PySem.W.Frag) : Addr := He.ga K "Ratio"
structure RF (K : PySem.W.Frag) (mg : Str → Option Value) : Prop where
  cl : Cls K (aR K)
  nT : NoAttr K (aR K) "_top"
  nB : NoAttr K (aR K) "_bottom"
  kc : PySem.W.findIn K (.ref (aR K)) "__class__" = some (some (.builtin "object.__class__"))
  sp : PySem.W.specialIn K (.builtin "object.__class__") "__get__" = some (some (.builtin "getset_descriptor.__get__"))
  tk : PySem.W.takesIn K (.builtin "object.__class__") = some true
  ob : PySem.W.mroIn K (aR K) (.type "object") = some true
  ki : PySem.W.kitOne K (.ref (aR K)) (.type "int") = some false
  gR : mg "Ratio" = some (.ref (aR K))
  isi : mg "isinstance" = none
  int : mg "int" = none
  bool : mg "bool" = none
/-- a Ratio at an address -/
def RatAt (K : PySem.W.Frag) (H : Hp) (p : Addr) (q : Rat) : Prop := ∃ dx, H p = some (.ins (aR K) dx [("_top", .int q.num), ("_bottom", .int q.den)])
theorem RatAt.same {K : PySem.W.Frag} {H H' : Hp} {p : Addr} {q : Rat} (h : RatAt K H p q) (k : Same H H') : RatAt K H' p q := by
  obtain ⟨dx, e⟩ := h
  exact ⟨dx, k _ _ e⟩
theorem RatAt.ty {K : PySem.W.Frag} {mg : Str → Option Value} {H : Hp} {p : Addr} {q : Rat} (T : RF K mg) (h : RatAt K H p q) : TyX K H (.ref p) (.ref (aR K)) := by
  obtain ⟨dx, e⟩ := h
  exact .base (.ins e T.cl T.kc T.sp T.tk T.ob)
/-- a NUMBER: a whole number, or a Ratio -/
def NumAt (K : PySem.W.Frag) (H : Hp) (x : V) (q : Rat) : Prop := (∃ i : Int, x = .int i ∧ q = (i : Rat)) ∨ ∃ p, x = .ref p ∧ RatAt K H p q
theorem NumAt.same {K : PySem.W.Frag} {H H' : Hp} {x : V} {q : Rat} (h : NumAt K H x q) (k : Same H H') : NumAt K H' x q := by
  rcases h with h | ⟨p, e, h⟩
  · exact .inl h
  · exact .inr ⟨p, e, h.same k⟩
section
variable {P : Program} {w : World} {K : PySem.W.Frag} {mg : Str → Option Value} {base : Heap}
/-! ### is_integer -/
def spIsInt (K : PySem.W.Frag) : Sp := fun vs H Q _ => ∃ (x : V) (t : Value) (b1 b2 : Bool), vs = [x] ∧ TyX K H x t ∧ PySem.W.kitOne K t (.type "int") = some b1 ∧ (b1 = true → PySem.W.kitOne K t (.type "bool") = some b2) ∧ Q (.bl (b1 && !b2)) H
theorem scIsInt : FnScope ["value"] ["value"] (defScope sIsInt) := ⟨rfl, rfl, rfl, by decide +kernel, rfl, by decide +kernel, by decide +kernel⟩
theorem ok_isInt {f : Addr} {fd : FuncData} (F : Fun K "is_integer" "is_integer" sIsInt f fd) (T : RF K mg) : FnOk P w K mg base CX0 1 f fd ["value"] (spIsInt K) := by
  refine F.ok scIsInt (fun vs H Q E h => ?_) (fun cdv A outer s H vs Q E hr h => ?_)
  · obtain ⟨x, t, b1, b2, rfl, _⟩ := h
    rfl
  · obtain ⟨x, t, b1, b2, rfl, ty, k1, k2, q⟩ := h
    refine ⟨_, pss_one (ps_ret (pe_and (pe_callB call_isi (by rfl) T.isi (by decide +kernel) (pa_cons (pv 0) (pa_cons (pe_bltn (v := .ty "int") (by rfl) T.int (by decide +kernel) rfl) pa_nil)))
      (pe_one (pe_not (pe_callB call_isi (by rfl) T.isi (by decide +kernel) (pa_cons (pv 0) (pa_cons (pe_bltn (v := .ty "bool") (by rfl) T.bool (by decide +kernel) rfl) pa_nil))))))), ?_⟩
    refine ⟨_, rfl, x, .ty "int", t, _, b1, rfl, .ty _, ty, k1, b1, rfl, ?_⟩
    cases b1 with
    | true => exact iteT ⟨_, rfl, x, .ty "bool", t, _, b2, rfl, .ty _, ty, k2 rfl, b2, rfl, q⟩
    | false => exact q
/-! ### is_number -/
def spIsNum (K : PySem.W.Frag) : Sp := fun vs H Q _ => ∃ (x : V) (q : Rat), vs = [x] ∧ NumAt K H x q ∧ Q (.bl true) H
theorem scIsNum : FnScope ["value"] ["value"] (defScope sIsNum) := ⟨rfl, rfl, rfl, by decide +kernel, rfl, by decide +kernel, by decide +kernel⟩
theorem ok_isNum {f fI : Addr} {fd fdI : FuncData} (F : Fun K "is_number" "is_number" sIsNum f fd) (T : RF K mg) (FI : Fun K "is_integer" "is_integer" sIsInt fI fdI) (gI : mg "is_integer" = some (.ref fI)) (bI : Binds K fdI ["value"] []) (kr : PySem.W.kitOne K (.type "int") (.ref (aR K)) = some false) :
    FnOk P w K mg base CX0 2 f fd ["value"] (spIsNum K) := by
  have GI : FnOk P w K mg base CX0 1 fI fdI ["value"] (spIsInt K) := ok_isInt FI T
  refine F.ok scIsNum (fun vs H Q E h => ?_) (fun cdv A outer s H vs Q E hr h => ?_)
  · obtain ⟨x, q, rfl, _⟩ := h
    rfl
  · obtain ⟨x, q, rfl, hx, k⟩ := h
    refine ⟨_, pss_one (ps_ret (pe_or (pe_callB call_isi (by rfl) T.isi (by decide +kernel) (pa_cons (pv 0) (pa_cons (pe_glob (v := .ref (aR K)) rfl T.gR rfl) pa_nil)))
      (pe_one (pe_call GI hr rfl gI FI.kp bI .nil pass0 (pa_cons (pv 0) pa_nil))))), ?_⟩
    rcases hx with ⟨i, rfl, rfl⟩ | ⟨p, rfl, hp⟩
    · refine ⟨_, rfl, .int i, .ref (aR K), .type "int", _, false, rfl, .own _, .base (.int i), kr, false, rfl, ?_⟩
      refine iteF ⟨_, rfl, .int i, .type "int", true, false, rfl, .base (.int i), kit_ty (by decide +kernel), fun _ => kit_ty (by decide +kernel), k⟩
    · exact ⟨_, rfl, .ref p, .ref (aR K), .ref (aR K), _, true, rfl, .own _, hp.ty T, (by unfold PySem.W.kitOne; rw [if_pos (beq_self_eq_true _)]), true, rfl, iteT k⟩
end
end K18
set_option maxHeartbeats 4000000
namespace K18
open PySem PySem.Spec PyProof.Rows L2 GL
theorem ps_never {X : Cx} {st : Stmt} : PS X st (fun _ _ _ => False) := ⟨fun pins s σ H D I h => h.elim⟩
theorem op_fdivZ {X : Cx} : OpR X (binaryOp .FloorDiv) (rI (fun _ j => j ≠ 0 ∧ j.natAbs.log2 < 9000) fun i j => .int (i.fdiv j)) :=
  opI fun i j t u s Q E hc q => floordiv_int hc.1 q (Or.inl (PyProof.noPylong_of_log2 hc.2))
theorem log2_lt {n k : Nat} (h : n < 2 ^ k) (hk : 0 < k) : n.log2 < k := by
  by_cases z : n = 0
  · subst z
    simpa using hk
  · exact (Nat.log2_lt z).mpr h
section
variable {P : Program} {w : World} {K : PySem.W.Frag} {mg : Str → Option Value} {base : Heap}
/-! ### Ratio.__init__ -/
def spRInit (K : PySem.W.Frag) : Sp := fun vs H Q _ => ∃ (a dx : Addr) (t b : Int), vs = [.ref a, .int t, .int b] ∧ b ≠ 0 ∧ b.natAbs < 2 ^ 9000 ∧ H a = some (.ins (aR K) dx []) ∧
  ∀ H', H' a = some (.ins (aR K) dx [("_top", .int (Rat.divInt t b).num), ("_bottom", .int (Rat.divInt t b).den)]) → (∀ c o, c ≠ a → H c = some o → H' c = some o) → Q .non H'
theorem scRInit : FnScope ["self", "top", "bottom", "common"] ["self", "top", "bottom"] (defScope (sRatio 0)) := ⟨rfl, rfl, rfl, by decide +kernel, rfl, by decide +kernel, by decide +kernel⟩
theorem ok_rInit {f fI : Addr} {fd fdI : FuncData} {dv : List V} (F : FunD K "__init__" "Ratio.__init__" (defArgs (sRatio 0)) (defBody (sRatio 0)) (defScope (sRatio 0)) dv [] f fd) (T : RF K mg) (FI : Fun K "is_integer" "is_integer" sIsInt fI fdI) (gI : mg "is_integer" = some (.ref fI)) (bI : Binds K fdI ["value"] []) (gG : mg "gcd" = some (.builtin "math.gcd")) :
    FnOk P w K mg base CX0 2 f fd ["self", "top", "bottom"] (spRInit K) := by
  have GI : FnOk P w K mg base CX0 1 fI fdI ["value"] (spIsInt K) := ok_isInt FI T
  refine F.ok scRInit (fun vs H Q E h => ?_) (fun cdv A outer s H vs Q E hr h => ?_)
  · obtain ⟨a, dx, t, b, rfl, _⟩ := h
    rfl
  · obtain ⟨a, dx, t, b, rfl, hb, hz, ea, k⟩ := h
    refine ⟨_, pss_cons (ps_if (pt_not (pt_val (pe_call GI hr rfl gI FI.kp bI .nil pass0 (pa_cons (pv 1) pa_nil)))) (pss_one ps_never) pss_nil)
      (pss_cons (ps_if (PW.pt (pw_or (pt_not (pt_val (pe_call GI hr rfl gI FI.kp bI .nil pass0 (pa_cons (pv 2) pa_nil)))) (pw_or1 (pt_cmpR op_eq (pv 2) pe_int (nomark _))))) (pss_one ps_never) pss_nil)
      (pss_cons (ps_set (i := 3) scRInit.nd rfl (Or.inl rfl) (pe_ifExp (pt_cmpR op_gt (pv 2) pe_int (nomark _)) (pe_callBfun cr_gcd rfl gG (pa_cons (pv 1) (pa_cons (pv 2) pa_nil))) (pe_un un_neg (pe_callBfun cr_gcd rfl gG (pa_cons (pv 1) (pa_cons (pv 2) pa_nil))))))
      (pss_cons (ps_fld (pv 0) (pe_op op_fdivZ (pv 1) (pv 3)) rfl) (pss_one (ps_fld (pv 0) (pe_op op_fdivZ (pv 2) (pv 3)) rfl))))), ?_⟩
    refine ⟨_, rfl, .int t, .type "int", true, false, rfl, .base (.int t), kit_ty (by decide +kernel), fun _ => kit_ty (by decide +kernel), true, rfl, ?_⟩
    refine iteF ?_
    refine ⟨_, rfl, .int b, .type "int", true, false, rfl, .base (.int b), kit_ty (by decide +kernel), fun _ => kit_ty (by decide +kernel), true, rfl, ?_⟩
    refine iteF ⟨_, rfl, rfl, _, rfl, ?_⟩
    have e0 : decide (V.int b = V.int 0) = false := decide_eq_false fun z => hb (by injection z)
    dsimp only
    rw [e0]
    refine iteF ?_
    have go : ∀ c : Int, c ≠ 0 → c.natAbs.log2 < 9000 → t.fdiv c = (Rat.divInt t b).num → b.fdiv c = ((Rat.divInt t b).den : Int) →
        tSeq (sFld K (tVar 0) (tOp (rI (fun _ j => j ≠ 0 ∧ j.natAbs.log2 < 9000) fun i j => .int (i.fdiv j)) (tVar 1) (tVar 3)) "_top") (sFld K (tVar 0) (tOp (rI (fun _ j => j ≠ 0 ∧ j.natAbs.log2 < 9000) fun i j => .int (i.fdiv j)) (tVar 2) (tVar 3)) "_bottom")
          { nx := fun _ H' => Q .non H', rt := Q } [some (.ref a), some (.int t), some (.int b), some (.int c)] H := by
      intro c c0 cl e1 e2
      refine ⟨_, rfl, _, rfl, _, _, rfl, rfl, ⟨c0, cl⟩, _, rfl, a, _, dx, _, rfl, ea, T.cl, T.nT, (by decide), ?_⟩
      refine ⟨_, rfl, _, rfl, _, _, rfl, rfl, ⟨c0, cl⟩, _, rfl, a, _, dx, _, rfl, upd_same, T.cl, T.nB, (by show 1 < 1000; decide), ?_⟩
      dsimp only
      rw [e1, e2]
      exact k _ upd_same fun c o ne e => by rw [upd_ne ne, upd_ne ne]; exact e
    have N := norm (t := t) hb
    have g0 : 0 < t.natAbs.gcd b.natAbs := Nat.gcd_pos_of_pos_right _ (Int.natAbs_pos.mpr hb)
    have gl : (t.natAbs.gcd b.natAbs).log2 < 9000 := log2_lt (Nat.lt_of_le_of_lt (Nat.gcd_le_right _ (Int.natAbs_pos.mpr hb)) hz) (by decide)
    refine ⟨_, rfl, _, _, rfl, rfl, _, rfl, ?_⟩
    refine ite2 (fun c => ?_) (fun c => ?_)
    · rw [if_pos (of_decide_eq_true c)] at N
      exact ⟨_, rfl, _, rfl, t, b, rfl, go _ (by omega) gl N.1 N.2⟩
    · rw [if_neg fun z => c (decide_eq_true z)] at N
      exact ⟨_, rfl, _, rfl, t, b, rfl, _, rfl, go _ (by omega) (by rw [Int.natAbs_neg]; exact gl) N.1 N.2⟩
end
end K18
set_option maxHeartbeats 4000000
namespace K18
open PySem PySem.Spec PyProof.Rows L2 GL
section
variable {P : Program} {w : World} {K : PySem.W.Frag} {mg : Str → Option Value} {base : Heap}
/-- Ratio.__init__ without a bottom -/
theorem rInit_binds {f : Addr} {fd : FuncData} {i : Int} (F : FunD K "__init__" "Ratio.__init__" (defArgs (sRatio 0)) (defBody (sRatio 0)) (defScope (sRatio 0)) [.int i] [] f fd) :
    ∃ d : Value, Vals [V.int i] [d] ∧ Binds K fd ["self", "top", "bottom"] [d] ∧ Binds K fd ["self", "top", "bottom"] [] := by
  obtain ⟨oc, od, dV, kV, doc, pm, an, cdv, ct, osl, rfl, lk, hcd, hD, hK⟩ := F.ex
  rcases hD with ⟨z, _⟩ | ⟨_, T, o, its, n, rfl, lT, hdata, hv⟩
  · cases z
  cases hv with
  | cons r0 rest =>
    cases rest
    rename_i d
    refine ⟨d, .cons r0 .nil, fun s us kin hl => ?_, fun s us kin hl => ?_⟩
    · have l2 : us.length = 2 := by
        rw [List.length_append] at hl
        exact Nat.succ.inj hl
      match us, l2 with
      | [a, b], _ => exact BindsTo.of_looks fun M => looks_items (its := #[d]) kin lT hdata (.of_pure rfl)
    · have l2 : us.length = 3 := by
        rw [List.append_nil] at hl
        exact hl
      match us, l2 with
      | [a, b, c], _ => exact BindsTo.of_looks fun M => looks_items (its := #[d]) kin lT hdata (.of_pure rfl)
end
end K18
set_option maxHeartbeats 4000000
namespace K18
open PySem PySem.Spec PyProof.Rows L2 GL
/-- Ratio(a, b), its parts at the end of the call -/
theorem made_rat {K : PySem.W.Frag} {H : Hp} {Q : VK} {E : XK} {x dx : Addr} {t b : Int} (hx : H x = none) (hd : H dx = none) (ne : dx ≠ x) (hb : b ≠ 0) (hz : b.natAbs < 2 ^ 9000) (k : ∀ p H', Same H H' → H p = none → RatAt K H' p (Rat.divInt t b) → Q (.ref p) H') :
    spRInit K [.ref x, .int t, .int b] (upd (upd H dx (.own x)) x (.ins (aR K) dx [])) (fun v H2 => v = .non ∧ Q (.ref x) H2) E :=
  ⟨x, dx, t, b, rfl, hb, hz, upd_same, fun H' e kp => ⟨rfl, k x H' (fun c o ec => kp c o (ne_of_none ec hx) (by rw [upd_ne (ne_of_none ec hx), upd_ne (ne_of_none ec hd)]; exact ec)) hx ⟨dx, e⟩⟩⟩
/-- the parts of Ratio that others call -/
structure RG (P : Program) (w : World) (K : PySem.W.Frag) (mg : Str → Option Value) (base : Heap) : Prop where
  T : RF K mg
  kr : PySem.W.kitOne K (.type "int") (.ref (aR K)) = some false
  isInt : ∃ f fd, FnOk P w K mg base CX0 1 f fd ["value"] (spIsInt K) ∧ mg "is_integer" = some (.ref f) ∧ Binds K fd ["value"] [] ∧ PySem.W.keepIn K (.ref f) = true
  mR : ∃ f fd d, Mk K (aR K) f ∧ FnOk P w K mg base CX0 2 f fd ["self", "top", "bottom"] (spRInit K) ∧ Vals [V.int 1] [d] ∧ Binds K fd ["self", "top", "bottom"] [d] ∧ Binds K fd ["self", "top", "bottom"] []
section
variable {P : Program} {w : World} {K : PySem.W.Frag} {mg : Str → Option Value} {base : Heap}
/-! ### Ratio.of -/
def spOf (K : PySem.W.Frag) : Sp := fun vs H Q _ => ∃ (x : V) (q : Rat), vs = [.ref (aR K), x] ∧ NumAt K H x q ∧ ∀ p H', Same H H' → RatAt K H' p q → Q (.ref p) H'
theorem scOf : FnScope ["cls", "number"] ["cls", "number"] (defScope (sRatio 1)) := ⟨rfl, rfl, rfl, by decide +kernel, rfl, by decide +kernel, by decide +kernel⟩
theorem ok_of {f : Addr} {fd : FuncData} (F : FunD K "of" "Ratio.of" (defArgs (sRatio 1)) (defBody (sRatio 1)) (defScope (sRatio 1)) [] [] f fd) (G : RG P w K mg base) : FnOk P w K mg base CX0 4 f fd ["cls", "number"] (spOf K) := by
  obtain ⟨fR, fdR, d, MR, GR, vd, bR, _⟩ := G.mR
  have T := G.T
  refine F.ok scOf (fun vs H Q E h => ?_) (fun cdv A outer s H vs Q E hr h => ?_)
  · obtain ⟨x, q, rfl, _⟩ := h
    rfl
  · obtain ⟨x, q, rfl, hx, k⟩ := h
    refine ⟨_, pss_cons (ps_if (pt_val (pe_callB call_isi (by rfl) T.isi (by decide +kernel) (pa_cons (pv 1) (pa_cons (pe_glob (v := .ref (aR K)) rfl T.gR rfl) pa_nil)))) (pss_one (ps_ret (pv 1))) pss_nil)
      (pss_one (ps_ret (pe_make MR GR hr rfl T.gR bR vd pass0 (pa_cons (pv 1) pa_nil)))), ?_⟩
    rcases hx with ⟨i, rfl, rfl⟩ | ⟨p, rfl, hp⟩
    · refine ⟨_, rfl, .int i, .ref (aR K), .type "int", _, false, rfl, .own _, .base (.int i), G.kr, false, rfl, ?_⟩
      refine iteF ⟨_, rfl, fun x dx hx hd ne => ?_⟩
      refine made_rat hx hd ne (by decide) (by show 1 < 2 ^ 9000; exact Nat.one_lt_two_pow (by decide)) fun p H' kp _ r => k p H' kp ?_
      have e : Rat.divInt i 1 = (i : Rat) := by
        have := Rat.num_divInt_den (i : Rat)
        rw [Rat.num_intCast, Rat.den_intCast] at this
        exact this
      rw [← e]
      exact r
    · exact ⟨_, rfl, .ref p, .ref (aR K), .ref (aR K), _, true, rfl, .own _, hp.ty T, (by unfold PySem.W.kitOne; rw [if_pos (beq_self_eq_true _)]), true, rfl, iteT ⟨_, rfl, k p _ (fun _ _ e => e) hp⟩⟩
end
end K18
set_option maxHeartbeats 4000000
namespace K18
open PySem PySem.Spec PyProof.Rows L2 GL
theorem fnR_of {P : Program} {w : World} {K : PySem.W.Frag} {mg : Str → Option Value} {base : Heap} {CX : CXT} {k : Nat} {f : Addr} {fd : FuncData} {ps : List Str} {sp : Sp} (F : FnOk P w K mg base CX k f fd ps sp) (hb : Binds K fd ps []) : FnR P w K mg base CX k f sp := by
  intro A outer s H us vs Q E hr e0 rv hsp
  have inS : K.In s.heap := e0.mod.kin.keeps fun b o e => (e0.bs b o e).1
  have hl : us.length = ps.length := rv.length.symm.trans (F.len _ _ _ _ hsp)
  have b := hb s us inS (by rw [List.append_nil]; exact hl)
  rw [List.append_nil] at b
  exact F.run A outer s H ⟨us, []⟩ us vs Q E hr e0 b rv hsp
/-- how long the parts are -/
def Sz (n : Nat) (q : Rat) : Prop := q.num.natAbs < 2 ^ n ∧ q.den < 2 ^ n
theorem Sz.mono {n m : Nat} {q : Rat} (h : Sz n q) (k : n ≤ m) : Sz m q := ⟨Nat.lt_of_lt_of_le h.1 (Nat.pow_le_pow_right (by decide) k), Nat.lt_of_lt_of_le h.2 (Nat.pow_le_pow_right (by decide) k)⟩
theorem Sz.den {n : Nat} {q : Rat} (h : Sz n q) : (q.den : Int).natAbs < 2 ^ n := by rw [Int.natAbs_natCast]; exact h.2
def rBelow (q r : Rat) : Bool := decide (q.num * (r.den : Int) < r.num * (q.den : Int))
def rOver (q r : Rat) : Rat := Rat.divInt (q.num * (r.den : Int)) ((q.den : Int) * r.num)
def rAdd (q r : Rat) : Rat := Rat.divInt (q.num * (r.den : Int) + r.num * (q.den : Int)) ((q.den : Int) * (r.den : Int))
def rSub (q r : Rat) : Rat := Rat.divInt (q.num * (r.den : Int) - r.num * (q.den : Int)) ((q.den : Int) * (r.den : Int))
def rMul (q r : Rat) : Rat := Rat.divInt (q.num * r.num) ((q.den : Int) * (r.den : Int))
def rNeg (q : Rat) : Rat := Rat.divInt (-q.num) (q.den : Int)
theorem mul_lt {i j : Int} {n m : Nat} (h : i.natAbs < 2 ^ n) (k : j.natAbs < 2 ^ m) : (i * j).natAbs < 2 ^ (n + m) := by
  rw [Int.natAbs_mul, Nat.pow_add]
  exact Nat.mul_lt_mul'' h k
structure RH (P : Program) (w : World) (K : PySem.W.Frag) (mg : Str → Option Value) (base : Heap) : Prop where
  G : RG P w K mg base
  of : ∃ mc p f, ClX.CRead K (aR K) mc ∧ ClX.CMet K (aR K) mc "of" p f ∧ FnR P w K mg base CX0 4 f (spOf K)
section
variable {P : Program} {w : World} {K : PySem.W.Frag} {mg : Str → Option Value} {base : Heap}
/-! ### is_below -/
def spBelow (K : PySem.W.Frag) : Sp := fun vs H Q _ => ∃ (a : Addr) (y : V) (q r : Rat), vs = [.ref a, y] ∧ RatAt K H a q ∧ NumAt K H y r ∧ Sz 100000 q ∧ Sz 100000 r ∧ ∀ H', Same H H' → Q (.bl (rBelow q r)) H'
theorem scBelow : FnScope ["self", "other", "right"] ["self", "other"] (defScope (sRatio 7)) := ⟨rfl, rfl, rfl, by decide +kernel, rfl, by decide +kernel, by decide +kernel⟩
theorem ok_below {f : Addr} {fd : FuncData} (F : FunD K "is_below" "Ratio.is_below" (defArgs (sRatio 7)) (defBody (sRatio 7)) (defScope (sRatio 7)) [] [] f fd) (R : RH P w K mg base) : FnOk P w K mg base CX0 5 f fd ["self", "other"] (spBelow K) := by
  obtain ⟨mc, pp, fo, cr, cm, GO⟩ := R.of
  have T := R.G.T
  refine F.ok scBelow (fun vs H Q E h => ?_) (fun cdv A outer s H vs Q E hr h => ?_)
  · obtain ⟨a, y, q, r, rfl, _⟩ := h
    rfl
  · obtain ⟨a, y, q, r, rfl, ha, hy, sq, sr, k⟩ := h
    refine ⟨_, pss_cons (ps_set (i := 2) scBelow.nd rfl (Or.inl rfl) (ClX.pe_cmeth (pe_glob (v := .ref (aR K)) rfl T.gR rfl) cr cm GO hr pass0 (pa_cons (pv 1) pa_nil)))
      (pss_one (ps_ret (pe_cmpR op_lt (pe_op op_mulW (pe_fld (pv 0) rfl) (pe_fld (pv 2) rfl)) (pe_op op_mulW (pe_fld (pv 2) rfl) (pe_fld (pv 0) rfl)) (nomark _)))), ?_⟩
    refine ⟨rfl, _, rfl, y, r, rfl, hy, fun p H' kp hp => ?_⟩
    obtain ⟨dx, ea⟩ := ha.same kp
    obtain ⟨dy, ep⟩ := hp
    refine ⟨_, rfl, a, _, dx, _, _, rfl, ea, T.cl, T.nT, rfl, _, rfl, p, _, dy, _, _, rfl, ep, T.cl, T.nB, rfl, _, _, rfl, rfl, wide_mul sq.1 sr.den (by decide) (by decide) (by decide), ?_⟩
    refine ⟨_, rfl, p, _, dy, _, _, rfl, ep, T.cl, T.nT, rfl, _, rfl, a, _, dx, _, _, rfl, ea, T.cl, T.nB, rfl, _, _, rfl, rfl, wide_mul sr.1 sq.den (by decide) (by decide) (by decide), ?_⟩
    exact ⟨_, _, rfl, rfl, k H' kp⟩
end
end K18
set_option maxHeartbeats 4000000
namespace K18
open PySem PySem.Spec PyProof.Rows L2 GL
theorem divInt_sz {t b : Int} {n : Nat} (hb : b ≠ 0) (ht : t.natAbs < 2 ^ n) (hz : b.natAbs < 2 ^ n) : Sz n (Rat.divInt t b) := by
  constructor
  · rw [Rat.num_divInt]
    refine Nat.lt_of_le_of_lt ?_ ht
    rw [Int.natAbs_ediv_of_dvd]
    · refine Nat.le_trans (Nat.div_le_self _ _) ?_
      rw [Int.natAbs_mul, Int.natAbs_sign_of_ne_zero hb, Nat.one_mul]
      exact Nat.le_refl _
    · exact Int.dvd_mul_of_dvd_right (Int.gcd_dvd_right _ _)
  · rw [Rat.den_divInt, if_neg hb]
    exact Nat.lt_of_le_of_lt (Nat.div_le_self _ _) hz
theorem den_ne (q : Rat) : (q.den : Int) ≠ 0 := by
  have := q.den_nz
  omega
section
variable {P : Program} {w : World} {K : PySem.W.Frag} {mg : Str → Option Value} {base : Heap}
/-! ### over -/
def spBin (K : PySem.W.Frag) (g : Rat → Rat → Rat) (C : Rat → Rat → Prop) : Sp := fun vs H Q _ => ∃ (a : Addr) (y : V) (q r : Rat), vs = [.ref a, y] ∧ RatAt K H a q ∧ NumAt K H y r ∧ Sz 4000 q ∧ Sz 4000 r ∧ C q r ∧ ∀ p H', Same H H' → RatAt K H' p (g q r) → Q (.ref p) H'
theorem scOver : FnScope ["self", "other", "right"] ["self", "other"] (defScope (sRatio 8)) := ⟨rfl, rfl, rfl, by decide +kernel, rfl, by decide +kernel, by decide +kernel⟩
theorem ok_over {f : Addr} {fd : FuncData} (F : FunD K "over" "Ratio.over" (defArgs (sRatio 8)) (defBody (sRatio 8)) (defScope (sRatio 8)) [] [] f fd) (R : RH P w K mg base) : FnOk P w K mg base CX0 5 f fd ["self", "other"] (spBin K rOver fun _ r => r.num ≠ 0) := by
  obtain ⟨mc, pp, fo, cr, cm, GO⟩ := R.of
  obtain ⟨fR, fdR, d, MR, GR, vd, _, bR⟩ := R.G.mR
  have T := R.G.T
  refine F.ok scOver (fun vs H Q E h => ?_) (fun cdv A outer s H vs Q E hr h => ?_)
  · obtain ⟨a, y, q, r, rfl, _⟩ := h
    rfl
  · obtain ⟨a, y, q, r, rfl, ha, hy, sq, sr, r0, k⟩ := h
    refine ⟨_, pss_cons (ps_set (i := 2) scOver.nd rfl (Or.inl rfl) (ClX.pe_cmeth (pe_glob (v := .ref (aR K)) rfl T.gR rfl) cr cm GO hr pass0 (pa_cons (pv 1) pa_nil)))
      (pss_cons (ps_if (pt_cmpR op_eq (pe_fld (pv 2) rfl) pe_int (nomark _)) (pss_one ps_never) pss_nil)
      (pss_one (ps_ret (pe_make MR GR (hr.mono (by decide)) rfl T.gR bR .nil pass0 (pa_cons (pe_op op_mulW (pe_fld (pv 0) rfl) (pe_fld (pv 2) rfl)) (pa_cons (pe_op op_mulW (pe_fld (pv 0) rfl) (pe_fld (pv 2) rfl)) pa_nil)))))), ?_⟩
    refine ⟨rfl, _, rfl, y, r, rfl, hy, fun p H' kp hp => ?_⟩
    obtain ⟨dx, ea⟩ := ha.same kp
    obtain ⟨dy, ep⟩ := hp
    refine ⟨_, rfl, p, _, dy, _, _, rfl, ep, T.cl, T.nT, rfl, rfl, _, rfl, ?_⟩
    have e0 : decide (V.int r.num = V.int 0) = false := decide_eq_false fun z => r0 (by injection z)
    dsimp only
    rw [e0]
    refine iteF ?_
    refine ⟨_, rfl, a, _, dx, _, _, rfl, ea, T.cl, T.nT, rfl, _, rfl, p, _, dy, _, _, rfl, ep, T.cl, T.nB, rfl, _, _, rfl, rfl, wide_mul sq.1 sr.den (by decide) (by decide) (by decide), ?_⟩
    refine ⟨_, rfl, a, _, dx, _, _, rfl, ea, T.cl, T.nB, rfl, _, rfl, p, _, dy, _, _, rfl, ep, T.cl, T.nT, rfl, _, _, rfl, rfl, wide_mul sq.den sr.1 (by decide) (by decide) (by decide), ?_⟩
    intro x dz hx hd ne
    have b0 : (q.den : Int) * r.num ≠ 0 := Int.mul_ne_zero (den_ne q) r0
    exact made_rat hx hd ne b0 (Nat.lt_of_lt_of_le (mul_lt sq.den sr.1) (Nat.pow_le_pow_right (by decide) (by decide))) fun p2 H2 kp2 _ hr2 => k p2 H2 (kp.trans kp2) hr2
/-! ### __add__ -/
theorem scAdd : FnScope ["self", "other", "right"] ["self", "other"] (defScope (sRatio 9)) := ⟨rfl, rfl, rfl, by decide +kernel, rfl, by decide +kernel, by decide +kernel⟩
theorem ok_rAdd {f : Addr} {fd : FuncData} (F : FunD K "__add__" "Ratio.__add__" (defArgs (sRatio 9)) (defBody (sRatio 9)) (defScope (sRatio 9)) [] [] f fd) (R : RH P w K mg base) : FnOk P w K mg base CX0 5 f fd ["self", "other"] (spBin K rAdd fun _ _ => True) := by
  obtain ⟨mc, pp, fo, cr, cm, GO⟩ := R.of
  obtain ⟨fR, fdR, d, MR, GR, vd, _, bR⟩ := R.G.mR
  have T := R.G.T
  refine F.ok scAdd (fun vs H Q E h => ?_) (fun cdv A outer s H vs Q E hr h => ?_)
  · obtain ⟨a, y, q, r, rfl, _⟩ := h
    rfl
  · obtain ⟨a, y, q, r, rfl, ha, hy, sq, sr, _, k⟩ := h
    refine ⟨_, pss_cons (ps_set (i := 2) scAdd.nd rfl (Or.inl rfl) (ClX.pe_cmeth (pe_glob (v := .ref (aR K)) rfl T.gR rfl) cr cm GO hr pass0 (pa_cons (pv 1) pa_nil)))
      (pss_one (ps_ret (pe_make MR GR (hr.mono (by decide)) rfl T.gR bR .nil pass0 (pa_cons (pe_op op_add (pe_op op_mulW (pe_fld (pv 0) rfl) (pe_fld (pv 2) rfl)) (pe_op op_mulW (pe_fld (pv 2) rfl) (pe_fld (pv 0) rfl))) (pa_cons (pe_op op_mulW (pe_fld (pv 0) rfl) (pe_fld (pv 2) rfl)) pa_nil))))), ?_⟩
    refine ⟨rfl, _, rfl, y, r, rfl, hy, fun p H' kp hp => ?_⟩
    obtain ⟨dx, ea⟩ := ha.same kp
    obtain ⟨dy, ep⟩ := hp
    refine ⟨_, rfl, a, _, dx, _, _, rfl, ea, T.cl, T.nT, rfl, _, rfl, p, _, dy, _, _, rfl, ep, T.cl, T.nB, rfl, _, _, rfl, rfl, wide_mul sq.1 sr.den (by decide) (by decide) (by decide), ?_⟩
    refine ⟨_, rfl, p, _, dy, _, _, rfl, ep, T.cl, T.nT, rfl, _, rfl, a, _, dx, _, _, rfl, ea, T.cl, T.nB, rfl, _, _, rfl, rfl, wide_mul sr.1 sq.den (by decide) (by decide) (by decide), ?_⟩
    refine ⟨_, _, rfl, rfl, ?_⟩
    refine ⟨_, rfl, a, _, dx, _, _, rfl, ea, T.cl, T.nB, rfl, _, rfl, p, _, dy, _, _, rfl, ep, T.cl, T.nB, rfl, _, _, rfl, rfl, wide_mul sq.den sr.den (by decide) (by decide) (by decide), ?_⟩
    intro x dz hx hd ne
    have b0 : (q.den : Int) * (r.den : Int) ≠ 0 := Int.mul_ne_zero (den_ne q) (den_ne r)
    exact made_rat hx hd ne b0 (Nat.lt_of_lt_of_le (mul_lt sq.den sr.den) (Nat.pow_le_pow_right (by decide) (by decide))) fun p2 H2 kp2 _ hr2 => k p2 H2 (kp.trans kp2) hr2
/-! ### __sub__ -/
theorem scSub : FnScope ["self", "other", "right"] ["self", "other"] (defScope (sRatio 10)) := ⟨rfl, rfl, rfl, by decide +kernel, rfl, by decide +kernel, by decide +kernel⟩
theorem ok_rSub {f : Addr} {fd : FuncData} (F : FunD K "__sub__" "Ratio.__sub__" (defArgs (sRatio 10)) (defBody (sRatio 10)) (defScope (sRatio 10)) [] [] f fd) (R : RH P w K mg base) : FnOk P w K mg base CX0 5 f fd ["self", "other"] (spBin K rSub fun _ _ => True) := by
  obtain ⟨mc, pp, fo, cr, cm, GO⟩ := R.of
  obtain ⟨fR, fdR, d, MR, GR, vd, _, bR⟩ := R.G.mR
  have T := R.G.T
  refine F.ok scSub (fun vs H Q E h => ?_) (fun cdv A outer s H vs Q E hr h => ?_)
  · obtain ⟨a, y, q, r, rfl, _⟩ := h
    rfl
  · obtain ⟨a, y, q, r, rfl, ha, hy, sq, sr, _, k⟩ := h
    refine ⟨_, pss_cons (ps_set (i := 2) scSub.nd rfl (Or.inl rfl) (ClX.pe_cmeth (pe_glob (v := .ref (aR K)) rfl T.gR rfl) cr cm GO hr pass0 (pa_cons (pv 1) pa_nil)))
      (pss_one (ps_ret (pe_make MR GR (hr.mono (by decide)) rfl T.gR bR .nil pass0 (pa_cons (pe_op op_sub (pe_op op_mulW (pe_fld (pv 0) rfl) (pe_fld (pv 2) rfl)) (pe_op op_mulW (pe_fld (pv 2) rfl) (pe_fld (pv 0) rfl))) (pa_cons (pe_op op_mulW (pe_fld (pv 0) rfl) (pe_fld (pv 2) rfl)) pa_nil))))), ?_⟩
    refine ⟨rfl, _, rfl, y, r, rfl, hy, fun p H' kp hp => ?_⟩
    obtain ⟨dx, ea⟩ := ha.same kp
    obtain ⟨dy, ep⟩ := hp
    refine ⟨_, rfl, a, _, dx, _, _, rfl, ea, T.cl, T.nT, rfl, _, rfl, p, _, dy, _, _, rfl, ep, T.cl, T.nB, rfl, _, _, rfl, rfl, wide_mul sq.1 sr.den (by decide) (by decide) (by decide), ?_⟩
    refine ⟨_, rfl, p, _, dy, _, _, rfl, ep, T.cl, T.nT, rfl, _, rfl, a, _, dx, _, _, rfl, ea, T.cl, T.nB, rfl, _, _, rfl, rfl, wide_mul sr.1 sq.den (by decide) (by decide) (by decide), ?_⟩
    refine ⟨_, _, rfl, rfl, ?_⟩
    refine ⟨_, rfl, a, _, dx, _, _, rfl, ea, T.cl, T.nB, rfl, _, rfl, p, _, dy, _, _, rfl, ep, T.cl, T.nB, rfl, _, _, rfl, rfl, wide_mul sq.den sr.den (by decide) (by decide) (by decide), ?_⟩
    intro x dz hx hd ne
    have b0 : (q.den : Int) * (r.den : Int) ≠ 0 := Int.mul_ne_zero (den_ne q) (den_ne r)
    exact made_rat hx hd ne b0 (Nat.lt_of_lt_of_le (mul_lt sq.den sr.den) (Nat.pow_le_pow_right (by decide) (by decide))) fun p2 H2 kp2 _ hr2 => k p2 H2 (kp.trans kp2) hr2
/-! ### __mul__ -/
theorem scMul : FnScope ["self", "other", "right"] ["self", "other"] (defScope (sRatio 11)) := ⟨rfl, rfl, rfl, by decide +kernel, rfl, by decide +kernel, by decide +kernel⟩
theorem ok_rMul {f : Addr} {fd : FuncData} (F : FunD K "__mul__" "Ratio.__mul__" (defArgs (sRatio 11)) (defBody (sRatio 11)) (defScope (sRatio 11)) [] [] f fd) (R : RH P w K mg base) : FnOk P w K mg base CX0 5 f fd ["self", "other"] (spBin K rMul fun _ _ => True) := by
  obtain ⟨mc, pp, fo, cr, cm, GO⟩ := R.of
  obtain ⟨fR, fdR, d, MR, GR, vd, _, bR⟩ := R.G.mR
  have T := R.G.T
  refine F.ok scMul (fun vs H Q E h => ?_) (fun cdv A outer s H vs Q E hr h => ?_)
  · obtain ⟨a, y, q, r, rfl, _⟩ := h
    rfl
  · obtain ⟨a, y, q, r, rfl, ha, hy, sq, sr, _, k⟩ := h
    refine ⟨_, pss_cons (ps_set (i := 2) scMul.nd rfl (Or.inl rfl) (ClX.pe_cmeth (pe_glob (v := .ref (aR K)) rfl T.gR rfl) cr cm GO hr pass0 (pa_cons (pv 1) pa_nil)))
      (pss_one (ps_ret (pe_make MR GR (hr.mono (by decide)) rfl T.gR bR .nil pass0 (pa_cons (pe_op op_mulW (pe_fld (pv 0) rfl) (pe_fld (pv 2) rfl)) (pa_cons (pe_op op_mulW (pe_fld (pv 0) rfl) (pe_fld (pv 2) rfl)) pa_nil))))), ?_⟩
    refine ⟨rfl, _, rfl, y, r, rfl, hy, fun p H' kp hp => ?_⟩
    obtain ⟨dx, ea⟩ := ha.same kp
    obtain ⟨dy, ep⟩ := hp
    refine ⟨_, rfl, a, _, dx, _, _, rfl, ea, T.cl, T.nT, rfl, _, rfl, p, _, dy, _, _, rfl, ep, T.cl, T.nT, rfl, _, _, rfl, rfl, wide_mul sq.1 sr.1 (by decide) (by decide) (by decide), ?_⟩
    refine ⟨_, rfl, a, _, dx, _, _, rfl, ea, T.cl, T.nB, rfl, _, rfl, p, _, dy, _, _, rfl, ep, T.cl, T.nB, rfl, _, _, rfl, rfl, wide_mul sq.den sr.den (by decide) (by decide) (by decide), ?_⟩
    intro x dz hx hd ne
    have b0 : (q.den : Int) * (r.den : Int) ≠ 0 := Int.mul_ne_zero (den_ne q) (den_ne r)
    exact made_rat hx hd ne b0 (Nat.lt_of_lt_of_le (mul_lt sq.den sr.den) (Nat.pow_le_pow_right (by decide) (by decide))) fun p2 H2 kp2 _ hr2 => k p2 H2 (kp.trans kp2) hr2
end
end K18
set_option maxHeartbeats 4000000
namespace K18
open PySem PySem.Spec PyProof.Rows L2 GL
section
variable {P : Program} {w : World} {K : PySem.W.Frag} {mg : Str → Option Value} {base : Heap}
/-! ### __neg__ -/
def spNeg (K : PySem.W.Frag) : Sp := fun vs H Q _ => ∃ (a : Addr) (q : Rat), vs = [.ref a] ∧ RatAt K H a q ∧ Sz 4000 q ∧ ∀ p H', Same H H' → RatAt K H' p (rNeg q) → Q (.ref p) H'
theorem scNeg : FnScope ["self"] ["self"] (defScope (sRatio 12)) := ⟨rfl, rfl, rfl, by decide +kernel, rfl, by decide +kernel, by decide +kernel⟩
theorem ok_rNeg {f : Addr} {fd : FuncData} (F : FunD K "__neg__" "Ratio.__neg__" (defArgs (sRatio 12)) (defBody (sRatio 12)) (defScope (sRatio 12)) [] [] f fd) (G : RG P w K mg base) : FnOk P w K mg base CX0 4 f fd ["self"] (spNeg K) := by
  obtain ⟨fR, fdR, d, MR, GR, vd, _, bR⟩ := G.mR
  have T := G.T
  refine F.ok scNeg (fun vs H Q E h => ?_) (fun cdv A outer s H vs Q E hr h => ?_)
  · obtain ⟨a, q, rfl, _⟩ := h
    rfl
  · obtain ⟨a, q, rfl, ⟨dx, ea⟩, sq, k⟩ := h
    refine ⟨_, pss_one (ps_ret (pe_make MR GR hr rfl T.gR bR .nil pass0 (pa_cons (pe_un un_neg (pe_fld (pv 0) rfl)) (pa_cons (pe_fld (pv 0) rfl) pa_nil)))), ?_⟩
    refine ⟨_, rfl, a, _, dx, _, _, rfl, ea, T.cl, T.nT, rfl, _, rfl, _, rfl, a, _, dx, _, _, rfl, ea, T.cl, T.nB, rfl, ?_⟩
    intro x dz hx hd ne
    exact made_rat hx hd ne (den_ne q) (Nat.lt_of_lt_of_le sq.den (Nat.pow_le_pow_right (by decide) (by decide))) fun p2 H2 kp2 _ hr2 => k p2 H2 kp2 hr2
/-! ### __eq__ -/
def spREq (K : PySem.W.Frag) : Sp := fun vs H Q _ => ∃ (a : Addr) (y : V) (q : Rat), vs = [.ref a, y] ∧ RatAt K H a q ∧
  ((∃ b r, y = .ref b ∧ RatAt K H b r ∧ Q (.bl (decide (q = r))) H) ∨ ∃ t, TyX K H y t ∧ PySem.W.kitOne K t (.ref (aR K)) = some false ∧ Q (.bl false) H)
theorem scREq : FnScope ["self", "other"] ["self", "other"] (defScope (sRatio 13)) := ⟨rfl, rfl, rfl, by decide +kernel, rfl, by decide +kernel, by decide +kernel⟩
theorem ok_rEq {f : Addr} {fd : FuncData} (F : FunD K "__eq__" "Ratio.__eq__" (defArgs (sRatio 13)) (defBody (sRatio 13)) (defScope (sRatio 13)) [] [] f fd) (T : RF K mg) : FnOk P w K mg base CX0 1 f fd ["self", "other"] (spREq K) := by
  refine F.ok scREq (fun vs H Q E h => ?_) (fun cdv A outer s H vs Q E hr h => ?_)
  · obtain ⟨a, y, q, rfl, _⟩ := h
    rfl
  · obtain ⟨a, y, q, rfl, ha, h⟩ := h
    refine ⟨_, pss_one (ps_ret (pe_and (pe_callB call_isi (by rfl) T.isi (by decide +kernel) (pa_cons (pv 1) (pa_cons (pe_glob (v := .ref (aR K)) rfl T.gR rfl) pa_nil)))
      (pe_and (pe_cmpR op_eq (pe_fld (pv 0) rfl) (pe_fld (pv 1) rfl) (nomark _)) (pe_one (pe_cmpR op_eq (pe_fld (pv 0) rfl) (pe_fld (pv 1) rfl) (nomark _)))))), ?_⟩
    rcases h with ⟨b, r, rfl, hb, k⟩ | ⟨t, ty, kt, k⟩
    · refine ⟨_, rfl, .ref b, .ref (aR K), .ref (aR K), _, true, rfl, .own _, hb.ty T, (by unfold PySem.W.kitOne; rw [if_pos (beq_self_eq_true _)]), true, rfl, iteT ?_⟩
      obtain ⟨dx, ea⟩ := ha
      obtain ⟨dy, eb⟩ := hb
      refine ⟨_, rfl, a, _, dx, _, _, rfl, ea, T.cl, T.nT, rfl, _, rfl, b, _, dy, _, _, rfl, eb, T.cl, T.nT, rfl, rfl, _, rfl, ?_⟩
      refine ite2 (fun c => ?_) (fun c => ?_)
      · have c1 : q.num = r.num := by
          have := of_decide_eq_true c
          injection this
        refine ⟨_, rfl, a, _, dx, _, _, rfl, ea, T.cl, T.nB, rfl, _, rfl, b, _, dy, _, _, rfl, eb, T.cl, T.nB, rfl, rfl, ?_⟩
        have e : decide (V.int (q.den : Int) = V.int (r.den : Int)) = decide (q = r) := by
          rw [decide_eq_decide]
          constructor
          · intro z
            injection z with z
            exact Rat.ext c1 (by omega)
          · rintro rfl
            rfl
        rw [e]
        exact k
      · have e : decide (q = r) = false := by
          refine decide_eq_false ?_
          rintro rfl
          exact c (decide_eq_true rfl)
        rw [e] at k
        exact k
    · exact ⟨_, rfl, y, .ref (aR K), t, _, false, rfl, .own _, ty, kt, false, rfl, iteF k⟩
/-! ### sign -/
def spSign (K : PySem.W.Frag) : Sp := fun vs H Q _ => ∃ (a : Addr) (q : Rat), vs = [.ref a] ∧ RatAt K H a q ∧ Q (.int q.num.sign) H
theorem scSign : FnScope ["self"] ["self"] (defScope (sRatio 6)) := ⟨rfl, rfl, rfl, by decide +kernel, rfl, by decide +kernel, by decide +kernel⟩
theorem ok_sign {f : Addr} {fd : FuncData} (F : FunD K "sign" "Ratio.sign" (defArgs (sRatio 6)) (defBody (sRatio 6)) (defScope (sRatio 6)) [] [] f fd) (T : RF K mg) : FnOk P w K mg base CX0 1 f fd ["self"] (spSign K) := by
  refine F.ok scSign (fun vs H Q E h => ?_) (fun cdv A outer s H vs Q E hr h => ?_)
  · obtain ⟨a, q, rfl, _⟩ := h
    rfl
  · obtain ⟨a, q, rfl, ⟨dx, ea⟩, k⟩ := h
    refine ⟨_, pss_cons (ps_if (pt_cmpR op_eq (pe_fld (pv 0) rfl) pe_int (nomark _)) (pss_one (ps_ret pe_int)) pss_nil)
      (pss_one (ps_ret (pe_ifExp (pt_cmpR op_gt (pe_fld (pv 0) rfl) pe_int (nomark _)) pe_int (pe_un un_neg pe_int)))), ?_⟩
    refine ⟨_, rfl, a, _, dx, _, _, rfl, ea, T.cl, T.nT, rfl, rfl, _, rfl, ?_⟩
    refine ite2 (fun c => ?_) (fun c => ?_)
    · have c1 : q.num = 0 := by
        have := of_decide_eq_true c
        injection this
      rw [c1] at k
      exact k
    · have c1 : q.num ≠ 0 := fun z => c (decide_eq_true (by rw [z]))
      refine ⟨_, rfl, a, _, dx, _, _, rfl, ea, T.cl, T.nT, rfl, _, _, rfl, rfl, _, rfl, ?_⟩
      refine ite2 (fun c2 => ?_) (fun c2 => ?_)
      · have c3 : 0 < q.num := of_decide_eq_true c2
        rw [Int.sign_eq_one_of_pos c3] at k
        exact k
      · have c3 : q.num < 0 := by
          have : ¬ 0 < q.num := fun z => c2 (decide_eq_true z)
          omega
        rw [Int.sign_eq_neg_one_of_neg c3] at k
        exact ⟨_, rfl, k⟩
end
end K18
set_option maxHeartbeats 4000000
namespace K18
open PySem PySem.Spec PyProof.Rows L2 GL
abbrev sIsCut : Stmt := tp 20
abbrev sIsStretch : Stmt := tp 21
abbrev sRatioCut : Stmt := tp 22
abbrev sIsAbove : Stmt := tp 23
abbrev sIsAhead : Stmt := tp 24
abbrev sPrecedes : Stmt := tp 25
/-- more parts of Ratio -/
structure RI (P : Program) (w : World) (K : PySem.W.Frag) (mg : Str → Option Value) (base : Heap) : Prop where
  R : RH P w K mg base
  isNum : ∃ f fd, FnOk P w K mg base CX0 2 f fd ["value"] (spIsNum K) ∧ mg "is_number" = some (.ref f) ∧ Binds K fd ["value"] [] ∧ PySem.W.keepIn K (.ref f) = true
  below : ∃ f fd, Meth K (aR K) "is_below" f ∧ FnOk P w K mg base CX0 5 f fd ["self", "other"] (spBelow K) ∧ Binds K fd ["self", "other"] []
  eq : ∃ f, OwnEq K (aR K) f ∧ FnR P w K mg base CX0 1 f (spREq K)
  len : mg "len" = none
  tuple : mg "tuple" = none
/-- a cut: a NUMBER, and whether it is just above -/
def CutAt (K : PySem.W.Frag) (H : Hp) (x : V) (q : Rat) (b : Bool) : Prop := ∃ c v, x = .ref c ∧ H c = some (.tup [v, .bl b]) ∧ NumAt K H v q
theorem CutAt.same {K : PySem.W.Frag} {H H' : Hp} {x : V} {q : Rat} {b : Bool} (h : CutAt K H x q b) (k : Same H H') : CutAt K H' x q b := by
  obtain ⟨c, v, e, hc, hv⟩ := h
  exact ⟨c, v, e, k _ _ hc, hv.same k⟩
section
variable {P : Program} {w : World} {K : PySem.W.Frag} {mg : Str → Option Value} {base : Heap}
/-! ### is_cut -/
def spIsCut (K : PySem.W.Frag) : Sp := fun vs H Q _ => ∃ (x : V) (q : Rat) (b : Bool), vs = [x] ∧ CutAt K H x q b ∧ Q (.bl true) H
theorem scIsCut : FnScope ["value"] ["value"] (defScope sIsCut) := ⟨rfl, rfl, rfl, by decide +kernel, rfl, by decide +kernel, by decide +kernel⟩
theorem ok_isCut {f : Addr} {fd : FuncData} (F : Fun K "is_cut" "is_cut" sIsCut f fd) (I : RI P w K mg base) : FnOk P w K mg base CX0 3 f fd ["value"] (spIsCut K) := by
  obtain ⟨fN, fdN, GN, gN, bN, kN⟩ := I.isNum
  have T := I.R.G.T
  refine F.ok scIsCut (fun vs H Q E h => ?_) (fun cdv A outer s H vs Q E hr h => ?_)
  · obtain ⟨x, q, b, rfl, _⟩ := h
    rfl
  · obtain ⟨x, q, b, rfl, ⟨c, v, rfl, hc, hv⟩, k⟩ := h
    refine ⟨_, pss_one (ps_ret (pe_and (pe_callB call_isi (by rfl) T.isi (by decide +kernel) (pa_cons (pv 0) (pa_cons (pe_bltn (v := .ty "tuple") (by rfl) I.tuple (by decide +kernel) rfl) pa_nil)))
      (pe_and (pe_cmpR op_eq (pe_callB call_len_seq (by rfl) I.len PySem.boot_len (pa_cons (pv 0) pa_nil)) pe_int (nomark _))
      (pe_and (pe_call GN hr rfl gN kN bN .nil pass0 (pa_cons (pe_ix ix_tup (pv 0) pe_int (fun _ _ => rfl)) pa_nil))
      (pe_one (pe_callB call_isi (by rfl) T.isi (by decide +kernel) (pa_cons (pe_ix ix_tup (pv 0) pe_int (fun _ _ => rfl)) (pa_cons (pe_bltn (v := .ty "bool") (by rfl) T.bool (by decide +kernel) rfl) pa_nil)))))))), ?_⟩
    refine ⟨_, rfl, .ref c, .ty "tuple", .type "tuple", _, true, rfl, .ty _, .base (.tup hc), kit_ty (by decide +kernel), true, rfl, iteT ?_⟩
    refine ⟨_, rfl, c, _, rfl, .inr (SqT.of hc), rfl, _, rfl, iteT ?_⟩
    refine ⟨_, rfl, c, _, _, v, rfl, rfl, SqT.of hc, rfl, v, q, rfl, hv, true, rfl, iteT ?_⟩
    exact ⟨_, rfl, c, _, _, .bl b, rfl, rfl, SqT.of hc, rfl, .bl b, .ty "bool", .type "bool", _, true, rfl, .ty _, .base (.bl b), kit_ty (by decide +kernel), k⟩
/-! ### ratio_cut -/
def spRatioCut (K : PySem.W.Frag) : Sp := fun vs H Q _ => ∃ (x : V) (q : Rat) (b : Bool), vs = [x] ∧ CutAt K H x q b ∧ ∀ c p H', Same H H' → H' c = some (.tup [.ref p, .bl b]) → RatAt K H' p q → Q (.ref c) H'
theorem scRatioCut : FnScope ["cut"] ["cut"] (defScope sRatioCut) := ⟨rfl, rfl, rfl, by decide +kernel, rfl, by decide +kernel, by decide +kernel⟩
theorem ok_ratioCut {f fC : Addr} {fd fdC : FuncData} (F : Fun K "ratio_cut" "ratio_cut" sRatioCut f fd) (I : RI P w K mg base) (FC : Fun K "is_cut" "is_cut" sIsCut fC fdC) (gC : mg "is_cut" = some (.ref fC)) (bC : Binds K fdC ["value"] []) : FnOk P w K mg base CX0 5 f fd ["cut"] (spRatioCut K) := by
  have GC : FnOk P w K mg base CX0 3 fC fdC ["value"] (spIsCut K) := ok_isCut FC I
  obtain ⟨mc, pp, fo, cr, cm, GO⟩ := I.R.of
  have T := I.R.G.T
  refine F.ok scRatioCut (fun vs H Q E h => ?_) (fun cdv A outer s H vs Q E hr h => ?_)
  · obtain ⟨x, q, b, rfl, _⟩ := h
    rfl
  · obtain ⟨x, q, b, rfl, hx, k⟩ := h
    refine ⟨_, pss_cons (ps_if (pt_not (pt_val (pe_call GC (hr.mono (by decide)) rfl gC FC.kp bC .nil pass0 (pa_cons (pv 0) pa_nil)))) (pss_one ps_never) pss_nil)
      (pss_one (ps_ret (pe_tup (pa_cons (ClX.pe_cmeth (pe_glob (v := .ref (aR K)) rfl T.gR rfl) cr cm GO hr pass0 (pa_cons (pe_ix ix_tup (pv 0) pe_int (fun _ _ => rfl)) pa_nil)) (pa_cons (pe_ix ix_tup (pv 0) pe_int (fun _ _ => rfl)) pa_nil))))), ?_⟩
    refine ⟨_, rfl, x, q, b, rfl, hx, true, rfl, iteF ?_⟩
    obtain ⟨c, v, rfl, hc, hv⟩ := hx
    refine ⟨rfl, _, rfl, c, _, _, v, rfl, rfl, SqT.of hc, rfl, v, q, rfl, hv, fun p H' kp hp => ?_⟩
    refine ⟨_, rfl, c, _, _, .bl b, rfl, rfl, SqT.of (kp _ _ hc), rfl, (by show 2 ≤ sizeLine; decide), fun t ht => ?_⟩
    have up : Same H' (upd H' t (.tup [.ref p, .bl b])) := fun b o e => by rw [upd_ne (ne_of_none e ht)]; exact e
    exact k t p _ (kp.trans up) upd_same (hp.same up)
end
end K18
set_option maxHeartbeats 4000000
namespace K18
open PySem PySem.Spec PyProof.Rows L2 GL
def cAbove (x q : Rat) (b : Bool) : Bool := if b = true then rBelow q x else !rBelow x q
def cAhead (q : Rat) (b : Bool) (r : Rat) (c : Bool) : Bool := if (c && !b) = true then !rBelow r q else rBelow q r
/-- a cut whose number is a Ratio -/
def CutR (K : PySem.W.Frag) (H : Hp) (c : Addr) (q : Rat) (b : Bool) : Prop := ∃ p, H c = some (.tup [.ref p, .bl b]) ∧ RatAt K H p q
theorem CutR.same {K : PySem.W.Frag} {H H' : Hp} {c : Addr} {q : Rat} {b : Bool} (h : CutR K H c q b) (k : Same H H') : CutR K H' c q b := by
  obtain ⟨p, e, hp⟩ := h
  exact ⟨p, k _ _ e, hp.same k⟩
theorem CutR.cut {K : PySem.W.Frag} {H : Hp} {c : Addr} {q : Rat} {b : Bool} (h : CutR K H c q b) : CutAt K H (.ref c) q b := by
  obtain ⟨p, e, hp⟩ := h
  exact ⟨c, _, rfl, e, .inr ⟨p, rfl, hp⟩⟩
/-- what the functions on cuts call -/
structure RJ (P : Program) (w : World) (K : PySem.W.Frag) (mg : Str → Option Value) (base : Heap) : Prop where
  I : RI P w K mg base
  rc : ∃ f fd, FnOk P w K mg base CX0 5 f fd ["cut"] (spRatioCut K) ∧ mg "ratio_cut" = some (.ref f) ∧ Binds K fd ["cut"] [] ∧ PySem.W.keepIn K (.ref f) = true
section
variable {P : Program} {w : World} {K : PySem.W.Frag} {mg : Str → Option Value} {base : Heap}
/-! ### is_above -/
def spIsAbove (K : PySem.W.Frag) : Sp := fun vs H Q _ => ∃ (y x : V) (r q : Rat) (b : Bool), vs = [y, x] ∧ NumAt K H y r ∧ CutAt K H x q b ∧ Sz 100000 q ∧ Sz 100000 r ∧ ∀ H', Same H H' → Q (.bl (cAbove r q b)) H'
theorem scIsAbove : FnScope ["number", "cut", "ratio", "place", "just_above"] ["number", "cut"] (defScope sIsAbove) := ⟨rfl, rfl, rfl, by decide +kernel, rfl, by decide +kernel, by decide +kernel⟩
theorem ok_isAbove {f : Addr} {fd : FuncData} (F : Fun K "is_above" "is_above" sIsAbove f fd) (J : RJ P w K mg base) : FnOk P w K mg base CX0 6 f fd ["number", "cut"] (spIsAbove K) := by
  obtain ⟨fC, fdC, GC, gC, bC, kC⟩ := J.rc
  obtain ⟨mc, pp, fo, cr, cm, GO⟩ := J.I.R.of
  obtain ⟨fB, fdB, mB, GB, bB⟩ := J.I.below
  have T := J.I.R.G.T
  refine F.ok scIsAbove (fun vs H Q E h => ?_) (fun cdv A outer s H vs Q E hr h => ?_)
  · obtain ⟨y, x, r, q, b, rfl, _⟩ := h
    rfl
  · obtain ⟨y, x, r, q, b, rfl, hy, hx, sq, sr, k⟩ := h
    refine ⟨_, pss_cons (ps_set (i := 2) scIsAbove.nd rfl (Or.inl rfl) (ClX.pe_cmeth (pe_glob (v := .ref (aR K)) rfl T.gR rfl) cr cm GO (hr.mono (by decide)) pass0 (pa_cons (pv 0) pa_nil)))
      (pss_cons (ps_asg (pe_call GC hr rfl gC kC bC .nil pass0 (pa_cons (pv 1) pa_nil)) (pg_tup (by rfl) (pgs_cons (pg_name (i := 3) scIsAbove.nd rfl (.inl rfl)) (pgs_cons (pg_name (i := 4) scIsAbove.nd rfl (.inl rfl)) pgs_nil))))
      (pss_cons (ps_if (pt_val (pv 4)) (pss_one (ps_ret (pe_meth (pv 3) T.cl mB GB hr bB .nil pass0 (pa_cons (pv 2) pa_nil)))) pss_nil)
      (pss_one (ps_ret (pe_not (pe_meth (pv 2) T.cl mB GB hr bB .nil pass0 (pa_cons (pv 3) pa_nil))))))), ?_⟩
    refine ⟨rfl, _, rfl, y, r, rfl, hy, fun p H1 k1 hp => ?_⟩
    refine ⟨_, rfl, x, q, b, rfl, hx.same k1, fun c z H2 k2 hc hz => ?_⟩
    have hp2 := hp.same k2
    have k12 := k1.trans k2
    refine ⟨c, _, rfl, SqT.of hc, rfl, _, _, rfl, _, _, rfl, rfl, ?_⟩
    refine ⟨_, rfl, _, rfl, ?_⟩
    obtain ⟨dz, ez⟩ := hz
    obtain ⟨dp, ep⟩ := hp2
    unfold cAbove at k
    refine ite2 (fun e => ?_) (fun e => ?_)
    · rw [if_pos e] at k
      exact ⟨_, rfl, z, dz, _, rfl, ez, rfl, _, rfl, z, .ref p, q, r, rfl, ⟨dz, ez⟩, .inr ⟨p, rfl, dp, ep⟩, sq, sr, fun H3 k3 => k H3 (k12.trans k3)⟩
    · rw [if_neg e] at k
      exact ⟨_, rfl, p, dp, _, rfl, ep, rfl, _, rfl, p, .ref z, r, q, rfl, ⟨dp, ep⟩, .inr ⟨z, rfl, dz, ez⟩, sr, sq, fun H3 k3 => ⟨_, rfl, k H3 (k12.trans k3)⟩⟩
/-! ### precedes -/
def spPrec (K : PySem.W.Frag) : Sp := fun vs H Q _ => ∃ (x y : Addr) (q r : Rat) (b c : Bool), vs = [.ref x, .ref y] ∧ CutR K H x q b ∧ CutR K H y r c ∧ Sz 100000 q ∧ Sz 100000 r ∧ ∀ H', Same H H' → Q (.bl (cAhead q b r c)) H'
theorem scPrec : FnScope ["one", "other"] ["one", "other"] (defScope sPrecedes) := ⟨rfl, rfl, rfl, by decide +kernel, rfl, by decide +kernel, by decide +kernel⟩
theorem ok_prec {f : Addr} {fd : FuncData} (F : Fun K "precedes" "precedes" sPrecedes f fd) (J : RJ P w K mg base) : FnOk P w K mg base CX0 6 f fd ["one", "other"] (spPrec K) := by
  obtain ⟨fB, fdB, mB, GB, bB⟩ := J.I.below
  have T := J.I.R.G.T
  refine F.ok scPrec (fun vs H Q E h => ?_) (fun cdv A outer s H vs Q E hr h => ?_)
  · obtain ⟨x, y, q, r, b, c, rfl, _⟩ := h
    rfl
  · obtain ⟨x, y, q, r, b, c, rfl, ⟨p1, hx, d1, e1⟩, ⟨p2, hy, d2, e2⟩, sq, sr, k⟩ := h
    refine ⟨_, pss_cons (ps_if (PW.pt (pw_and (pt_val (pe_ix ix_tup (pv 1) pe_int (fun _ _ => rfl))) (pw_and1 (pt_not (pt_val (pe_ix ix_tup (pv 0) pe_int (fun _ _ => rfl)))))))
        (pss_one (ps_ret (pe_not (pe_meth (pe_ix ix_tup (pv 1) pe_int (fun _ _ => rfl)) T.cl mB GB hr bB .nil pass0 (pa_cons (pe_ix ix_tup (pv 0) pe_int (fun _ _ => rfl)) pa_nil))))) pss_nil)
      (pss_one (ps_ret (pe_meth (pe_ix ix_tup (pv 0) pe_int (fun _ _ => rfl)) T.cl mB GB hr bB .nil pass0 (pa_cons (pe_ix ix_tup (pv 1) pe_int (fun _ _ => rfl)) pa_nil)))), ?_⟩
    unfold cAhead at k
    have fin : ∀ H', Same H H' → c = true → b = false → Q (.bl !(rBelow r q)) H' := by
      rintro H' k' rfl rfl
      exact k H' k'
    refine ⟨_, rfl, y, _, _, .bl c, rfl, rfl, SqT.of hy, rfl, c, rfl, ?_⟩
    have fwd : (c && !b) = false → tMeth (aR K) "is_below" (spBelow K) [] E (tOp (rIxT K) (tVar 0) (tC (.int 0))) (tCons (tOp (rIxT K) (tVar 1) (tC (.int 0))) tNil) [some (.ref x), some (.ref y)] H Q := by
      intro z
      rw [z] at k
      refine ⟨_, rfl, x, _, _, .ref p1, rfl, rfl, SqT.of hx, rfl, p1, d1, _, rfl, e1, rfl, _, rfl, y, _, _, .ref p2, rfl, rfl, SqT.of hy, rfl, p1, .ref p2, q, r, rfl, ⟨d1, e1⟩, .inr ⟨p2, rfl, d2, e2⟩, sq, sr, fun H3 k3 => k H3 k3⟩
    cases c with
    | false => exact iteF (fwd rfl)
    | true =>
      refine iteT ⟨_, rfl, x, _, _, .bl b, rfl, rfl, SqT.of hx, rfl, b, rfl, ?_⟩
      cases b with
      | true => exact iteF (fwd rfl)
      | false => exact iteT ⟨_, rfl, y, _, _, .ref p2, rfl, rfl, SqT.of hy, rfl, p2, d2, _, rfl, e2, rfl, _, rfl, x, _, _, .ref p1, rfl, rfl, SqT.of hx, rfl, p2, .ref p1, r, q, rfl, ⟨d2, e2⟩, .inr ⟨p1, rfl, d1, e1⟩, sr, sq, fun H3 k3 => ⟨_, rfl, fin H3 k3 rfl rfl⟩⟩
/-! ### is_ahead -/
def spIsAhead (K : PySem.W.Frag) : Sp := fun vs H Q _ => ∃ (x y : V) (q r : Rat) (b c : Bool), vs = [x, y] ∧ CutAt K H x q b ∧ CutAt K H y r c ∧ Sz 100000 q ∧ Sz 100000 r ∧ ∀ H', Same H H' → Q (.bl (cAhead q b r c)) H'
theorem scIsAhead : FnScope ["one", "other"] ["one", "other"] (defScope sIsAhead) := ⟨rfl, rfl, rfl, by decide +kernel, rfl, by decide +kernel, by decide +kernel⟩
theorem ok_isAhead {f fP : Addr} {fd fdP : FuncData} (F : Fun K "is_ahead" "is_ahead" sIsAhead f fd) (J : RJ P w K mg base) (FP : Fun K "precedes" "precedes" sPrecedes fP fdP) (gP : mg "precedes" = some (.ref fP)) (bP : Binds K fdP ["one", "other"] []) : FnOk P w K mg base CX0 7 f fd ["one", "other"] (spIsAhead K) := by
  have GP : FnOk P w K mg base CX0 6 fP fdP ["one", "other"] (spPrec K) := ok_prec FP J
  obtain ⟨fC, fdC, GC, gC, bC, kC⟩ := J.rc
  refine F.ok scIsAhead (fun vs H Q E h => ?_) (fun cdv A outer s H vs Q E hr h => ?_)
  · obtain ⟨x, y, q, r, b, c, rfl, _⟩ := h
    rfl
  · obtain ⟨x, y, q, r, b, c, rfl, hx, hy, sq, sr, k⟩ := h
    refine ⟨_, pss_one (ps_ret (pe_call GP hr rfl gP FP.kp bP .nil pass0 (pa_cons (pe_call GC (hr.mono (by decide)) rfl gC kC bC .nil pass0 (pa_cons (pv 0) pa_nil)) (pa_cons (pe_call GC (hr.mono (by decide)) rfl gC kC bC .nil pass0 (pa_cons (pv 1) pa_nil)) pa_nil)))), ?_⟩
    refine ⟨_, rfl, x, q, b, rfl, hx, fun c1 z1 H1 k1 hc1 hz1 => ?_⟩
    refine ⟨_, rfl, y, r, c, rfl, hy.same k1, fun c2 z2 H2 k2 hc2 hz2 => ?_⟩
    exact ⟨c1, c2, q, r, b, c, rfl, ⟨z1, k2 _ _ hc1, hz1.same k2⟩, ⟨z2, hc2, hz2⟩, sq, sr, fun H3 k3 => k H3 ((k1.trans k2).trans k3)⟩
end
end K18
set_option maxHeartbeats 4000000
namespace K18
open PySem PySem.Spec PyProof.Rows L2 GL
abbrev sIsWithin : Stmt := tp 26
abbrev sMarkOf : Stmt := tp 27
theorem rAdd_sz {q r : Rat} {n : Nat} (h : Sz n q) (k : Sz n r) : Sz (n + n + 1) (rAdd q r) := by
  refine divInt_sz (Int.mul_ne_zero (den_ne q) (den_ne r)) ?_ (Nat.lt_of_lt_of_le (mul_lt h.den k.den) (Nat.pow_le_pow_right (by decide) (by omega)))
  have a := mul_lt h.1 k.den
  have b := mul_lt k.1 h.den
  have c := Int.natAbs_add_le (q.num * (r.den : Int)) (r.num * (q.den : Int))
  rw [Nat.pow_succ]
  omega
/-- the parts of the program that deal with cuts -/
structure RK (P : Program) (w : World) (K : PySem.W.Frag) (mg : Str → Option Value) (base : Heap) : Prop where
  J : RJ P w K mg base
  isCut : ∃ f fd, FnOk P w K mg base CX0 3 f fd ["value"] (spIsCut K) ∧ mg "is_cut" = some (.ref f) ∧ Binds K fd ["value"] [] ∧ PySem.W.keepIn K (.ref f) = true
  above : ∃ f fd, FnOk P w K mg base CX0 6 f fd ["number", "cut"] (spIsAbove K) ∧ mg "is_above" = some (.ref f) ∧ Binds K fd ["number", "cut"] [] ∧ PySem.W.keepIn K (.ref f) = true
  ahead : ∃ f fd, FnOk P w K mg base CX0 7 f fd ["one", "other"] (spIsAhead K) ∧ mg "is_ahead" = some (.ref f) ∧ Binds K fd ["one", "other"] [] ∧ PySem.W.keepIn K (.ref f) = true
  add : ∃ f, OwnBin K (aR K) .Add f ∧ FnR P w K mg base CX0 5 f (spBin K rAdd fun _ _ => True)
  over : ∃ f fd, Meth K (aR K) "over" f ∧ FnOk P w K mg base CX0 5 f fd ["self", "other"] (spBin K rOver fun _ r => r.num ≠ 0) ∧ Binds K fd ["self", "other"] []
/-- two cuts -/
def PairAt (K : PySem.W.Frag) (H : Hp) (x : V) (q : Rat) (b : Bool) (r : Rat) (c : Bool) : Prop := ∃ t u v, x = .ref t ∧ H t = some (.tup [u, v]) ∧ CutAt K H u q b ∧ CutAt K H v r c
theorem PairAt.same {K : PySem.W.Frag} {H H' : Hp} {x : V} {q r : Rat} {b c : Bool} (h : PairAt K H x q b r c) (k : Same H H') : PairAt K H' x q b r c := by
  obtain ⟨t, u, v, e, ht, hu, hv⟩ := h
  exact ⟨t, u, v, e, k _ _ ht, hu.same k, hv.same k⟩
section
variable {P : Program} {w : World} {K : PySem.W.Frag} {mg : Str → Option Value} {base : Heap}
/-! ### is_stretch -/
def spIsStretch (K : PySem.W.Frag) : Sp := fun vs H Q _ => ∃ x : V, vs = [x] ∧ ((∃ q b r c, PairAt K H x q b r c ∧ Sz 100000 q ∧ Sz 100000 r ∧ ∀ H', Same H H' → Q (.bl (cAhead q b r c)) H') ∨ (TyX K H x (.type "list") ∧ Q (.bl false) H))
theorem scIsStretch : FnScope ["value"] ["value"] (defScope sIsStretch) := ⟨rfl, rfl, rfl, by decide +kernel, rfl, by decide +kernel, by decide +kernel⟩
theorem ok_isStretch {f : Addr} {fd : FuncData} (F : Fun K "is_stretch" "is_stretch" sIsStretch f fd) (C : RK P w K mg base) : FnOk P w K mg base CX0 8 f fd ["value"] (spIsStretch K) := by
  obtain ⟨fC, fdC, GC, gC, bC, kC⟩ := C.isCut
  obtain ⟨fA, fdA, GA, gA, bA, kA⟩ := C.ahead
  have T := C.J.I.R.G.T
  have I := C.J.I
  refine F.ok scIsStretch (fun vs H Q E h => ?_) (fun cdv A outer s H vs Q E hr h => ?_)
  · obtain ⟨x, rfl, _⟩ := h
    rfl
  · obtain ⟨x, rfl, h⟩ := h
    refine ⟨_, pss_cons (ps_if (PW.pt (pw_or (pt_not (pt_val (pe_callB call_isi (by rfl) T.isi (by decide +kernel) (pa_cons (pv 0) (pa_cons (pe_bltn (v := .ty "tuple") (by rfl) I.tuple (by decide +kernel) rfl) pa_nil)))))
        (pw_or1 (pt_cmpR op_ne (pe_callB call_len_seq (by rfl) I.len PySem.boot_len (pa_cons (pv 0) pa_nil)) pe_int (nomark _))))) (pss_one (ps_ret pe_bl)) pss_nil)
      (pss_one (ps_ret (pe_and (pe_call GC (hr.mono (by decide)) rfl gC kC bC .nil pass0 (pa_cons (pe_ix ix_tup (pv 0) pe_int (fun _ _ => rfl)) pa_nil))
        (pe_and (pe_call GC (hr.mono (by decide)) rfl gC kC bC .nil pass0 (pa_cons (pe_ix ix_tup (pv 0) pe_int (fun _ _ => rfl)) pa_nil))
        (pe_one (pe_call GA hr rfl gA kA bA .nil pass0 (pa_cons (pe_ix ix_tup (pv 0) pe_int (fun _ _ => rfl)) (pa_cons (pe_ix ix_tup (pv 0) pe_int (fun _ _ => rfl)) pa_nil)))))))), ?_⟩
    rcases h with ⟨q, b, r, c, ⟨t, u, v, rfl, ht, hu, hv⟩, sq, sr, k⟩ | ⟨ty, k⟩
    · refine ⟨_, rfl, .ref t, .ty "tuple", .type "tuple", _, true, rfl, .ty _, .base (.tup ht), kit_ty (by decide +kernel), true, rfl, iteF ?_⟩
      refine ⟨_, rfl, t, _, rfl, .inr (SqT.of ht), rfl, _, rfl, iteF ?_⟩
      refine ⟨_, rfl, t, _, _, u, rfl, rfl, SqT.of ht, rfl, u, q, b, rfl, hu, true, rfl, iteT ?_⟩
      refine ⟨_, rfl, t, _, _, v, rfl, rfl, SqT.of ht, rfl, v, r, c, rfl, hv, true, rfl, iteT ?_⟩
      exact ⟨_, rfl, t, _, _, u, rfl, rfl, SqT.of ht, rfl, _, rfl, t, _, _, v, rfl, rfl, SqT.of ht, rfl, u, v, q, r, b, c, rfl, hu, hv, sq, sr, k⟩
    · exact ⟨_, rfl, x, .ty "tuple", .type "list", _, false, rfl, .ty _, ty, kit_ty (by decide +kernel), false, rfl, iteT k⟩
/-! ### is_within -/
def spIsWithin (K : PySem.W.Frag) : Sp := fun vs H Q _ => ∃ (y x : V) (z q r : Rat) (b c : Bool), vs = [y, x] ∧ NumAt K H y z ∧ PairAt K H x q b r c ∧ cAhead q b r c = true ∧ Sz 100000 z ∧ Sz 100000 q ∧ Sz 100000 r ∧ ∀ H', Same H H' → Q (.bl (cAbove z q b && !cAbove z r c)) H'
theorem scIsWithin : FnScope ["number", "stretch", "ratio"] ["number", "stretch"] (defScope sIsWithin) := ⟨rfl, rfl, rfl, by decide +kernel, rfl, by decide +kernel, by decide +kernel⟩
theorem ok_isWithin {f fS : Addr} {fd fdS : FuncData} (F : Fun K "is_within" "is_within" sIsWithin f fd) (C : RK P w K mg base) (FS : Fun K "is_stretch" "is_stretch" sIsStretch fS fdS) (gS : mg "is_stretch" = some (.ref fS)) (bS : Binds K fdS ["value"] []) : FnOk P w K mg base CX0 9 f fd ["number", "stretch"] (spIsWithin K) := by
  have GS : FnOk P w K mg base CX0 8 fS fdS ["value"] (spIsStretch K) := ok_isStretch FS C
  obtain ⟨fA, fdA, GA, gA, bA, kA⟩ := C.above
  obtain ⟨mc, pp, fo, cr, cm, GO⟩ := C.J.I.R.of
  have T := C.J.I.R.G.T
  refine F.ok scIsWithin (fun vs H Q E h => ?_) (fun cdv A outer s H vs Q E hr h => ?_)
  · obtain ⟨y, x, z, q, r, b, c, rfl, _⟩ := h
    rfl
  · obtain ⟨y, x, z, q, r, b, c, rfl, hy, hx, ah, sz, sq, sr, k⟩ := h
    refine ⟨_, pss_cons (ps_set (i := 2) scIsWithin.nd rfl (Or.inl rfl) (ClX.pe_cmeth (pe_glob (v := .ref (aR K)) rfl T.gR rfl) cr cm GO (hr.mono (by decide)) pass0 (pa_cons (pv 0) pa_nil)))
      (pss_cons (ps_if (pt_not (pt_val (pe_call GS hr rfl gS FS.kp bS .nil pass0 (pa_cons (pv 1) pa_nil)))) (pss_one ps_never) pss_nil)
      (pss_one (ps_ret (pe_and (pe_call GA (hr.mono (by decide)) rfl gA kA bA .nil pass0 (pa_cons (pv 2) (pa_cons (pe_ix ix_tup (pv 1) pe_int (fun _ _ => rfl)) pa_nil)))
        (pe_one (pe_not (pe_call GA (hr.mono (by decide)) rfl gA kA bA .nil pass0 (pa_cons (pv 2) (pa_cons (pe_ix ix_tup (pv 1) pe_int (fun _ _ => rfl)) pa_nil))))))))), ?_⟩
    refine ⟨rfl, _, rfl, y, z, rfl, hy, fun p H1 k1 hp => ?_⟩
    refine ⟨_, rfl, x, rfl, .inl ⟨q, b, r, c, hx.same k1, sq, sr, fun H2 k2 => ⟨_, rfl, ?_⟩⟩⟩
    rw [ah]
    refine iteF ?_
    have k12 := k1.trans k2
    obtain ⟨t, u, v, rfl, ht, hu, hv⟩ := hx.same k12
    refine ⟨_, rfl, _, rfl, t, _, _, u, rfl, rfl, SqT.of ht, rfl, .ref p, u, z, q, b, rfl, .inr ⟨p, rfl, hp.same k2⟩, hu, sq, sz, fun H3 k3 => ⟨_, rfl, ?_⟩⟩
    cases hA : cAbove z q b with
    | false =>
      rw [hA] at k
      exact iteF (k H3 (k12.trans k3))
    | true =>
      rw [hA] at k
      refine iteT ⟨_, rfl, _, rfl, t, _, _, v, rfl, rfl, SqT.of (k3 _ _ ht), rfl, .ref p, v, z, r, c, rfl, .inr ⟨p, rfl, (hp.same k2).same k3⟩, hv.same k3, sr, sz, fun H4 k4 => ⟨_, rfl, k H4 ((k12.trans k3).trans k4)⟩⟩
end
end K18
set_option maxHeartbeats 4000000
namespace K18
open PySem PySem.Spec PyProof.Rows L2 GL
def cMark (q : Rat) (b : Bool) (r : Rat) (c : Bool) : Rat := if b = false then q else if c = true then r else rOver (rAdd q r) 2
section
variable {P : Program} {w : World} {K : PySem.W.Frag} {mg : Str → Option Value} {base : Heap}
/-! ### mark_of -/
def spMarkOf (K : PySem.W.Frag) : Sp := fun vs H Q _ => ∃ (x : V) (q r : Rat) (b c : Bool), vs = [x] ∧ PairAt K H x q b r c ∧ cAhead q b r c = true ∧ Sz 1000 q ∧ Sz 1000 r ∧ ∀ p H', Same H H' → RatAt K H' p (cMark q b r c) → Q (.ref p) H'
theorem scMarkOf : FnScope ["stretch", "low", "low_is_out", "high", "high_is_in"] ["stretch"] (defScope sMarkOf) := ⟨rfl, rfl, rfl, by decide +kernel, rfl, by decide +kernel, by decide +kernel⟩
theorem ok_markOf {f fS : Addr} {fd fdS : FuncData} (F : Fun K "mark_of" "mark_of" sMarkOf f fd) (C : RK P w K mg base) (FS : Fun K "is_stretch" "is_stretch" sIsStretch fS fdS) (gS : mg "is_stretch" = some (.ref fS)) (bS : Binds K fdS ["value"] []) : FnOk P w K mg base CX0 9 f fd ["stretch"] (spMarkOf K) := by
  have GS : FnOk P w K mg base CX0 8 fS fdS ["value"] (spIsStretch K) := ok_isStretch FS C
  obtain ⟨fC, fdC, GC, gC, bC, kC⟩ := C.J.rc
  obtain ⟨fD, oD, GD⟩ := C.add
  obtain ⟨fO, fdO, mO, GO, bO⟩ := C.over
  have T := C.J.I.R.G.T
  refine F.ok scMarkOf (fun vs H Q E h => ?_) (fun cdv A outer s H vs Q E hr h => ?_)
  · obtain ⟨x, q, r, b, c, rfl, _⟩ := h
    rfl
  · obtain ⟨x, q, r, b, c, rfl, hx, ah, sq, sr, k⟩ := h
    refine ⟨_, pss_cons (ps_if (pt_not (pt_val (pe_call GS hr rfl gS FS.kp bS .nil pass0 (pa_cons (pv 0) pa_nil)))) (pss_one ps_never) pss_nil)
      (pss_cons (ps_asg (pe_call GC (hr.mono (by decide)) rfl gC kC bC .nil pass0 (pa_cons (pe_ix ix_tup (pv 0) pe_int (fun _ _ => rfl)) pa_nil)) (pg_tup (by rfl) (pgs_cons (pg_name (i := 1) scMarkOf.nd rfl (.inl rfl)) (pgs_cons (pg_name (i := 2) scMarkOf.nd rfl (.inl rfl)) pgs_nil))))
      (pss_cons (ps_asg (pe_call GC (hr.mono (by decide)) rfl gC kC bC .nil pass0 (pa_cons (pe_ix ix_tup (pv 0) pe_int (fun _ _ => rfl)) pa_nil)) (pg_tup (by rfl) (pgs_cons (pg_name (i := 3) scMarkOf.nd rfl (.inl rfl)) (pgs_cons (pg_name (i := 4) scMarkOf.nd rfl (.inl rfl)) pgs_nil))))
      (pss_cons (ps_if (pt_not (pt_val (pv 2))) (pss_one (ps_ret (pv 1))) pss_nil)
      (pss_cons (ps_if (pt_val (pv 4)) (pss_one (ps_ret (pv 3))) pss_nil)
      (pss_one (ps_ret (pe_meth (pe_op (op_own (.inl rfl) oD GD (hr.mono (by decide)) pass0) (pv 1) (pv 3)) T.cl mO GO (hr.mono (by decide)) bO .nil pass0 (pa_cons pe_int pa_nil)))))))), ?_⟩
    refine ⟨_, rfl, x, rfl, .inl ⟨q, b, r, c, hx, sq.mono (by decide), sr.mono (by decide), fun H1 k1 => ⟨_, rfl, ?_⟩⟩⟩
    rw [ah]
    refine iteF ?_
    obtain ⟨t, u, v, rfl, ht, hu, hv⟩ := hx.same k1
    refine ⟨_, rfl, t, _, _, u, rfl, rfl, SqT.of ht, rfl, u, q, b, rfl, hu, fun c1 z1 H2 k2 hc1 hz1 => ?_⟩
    refine ⟨c1, _, rfl, SqT.of hc1, rfl, _, _, rfl, _, _, rfl, rfl, ?_⟩
    refine ⟨_, rfl, t, _, _, v, rfl, rfl, SqT.of (k2 _ _ ht), rfl, v, r, c, rfl, hv.same k2, fun c2 z2 H3 k3 hc2 hz2 => ?_⟩
    refine ⟨c2, _, rfl, SqT.of hc2, rfl, _, _, rfl, _, _, rfl, rfl, ?_⟩
    have k13 := (k1.trans k2).trans k3
    have hz1' := hz1.same k3
    unfold cMark at k
    refine ⟨_, rfl, b, rfl, ?_⟩
    cases b with
    | false => exact iteT ⟨_, rfl, k z1 H3 k13 hz1'⟩
    | true =>
      refine iteF ⟨_, rfl, c, rfl, ?_⟩
      cases c with
      | true => exact iteT ⟨_, rfl, k z2 H3 k13 hz2⟩
      | false =>
        obtain ⟨d1, e1⟩ := hz1'
        obtain ⟨d2, e2⟩ := hz2
        refine iteF ⟨_, rfl, _, rfl, z1, d1, _, rfl, e1, .inl ⟨z2, d2, _, rfl, e2⟩, ?_⟩
        refine ⟨z1, .ref z2, q, r, rfl, ⟨d1, e1⟩, .inr ⟨z2, rfl, d2, e2⟩, sq.mono (by decide), sr.mono (by decide), trivial, fun p4 H4 k4 hp4 => ?_⟩
        obtain ⟨d4, e4⟩ := hp4
        refine ⟨p4, d4, _, rfl, e4, rfl, p4, .int 2, rAdd q r, 2, rfl, ⟨d4, e4⟩, .inl ⟨2, rfl, rfl⟩, (rAdd_sz sq sr).mono (by decide), ⟨by show (2 : Int).natAbs < 2 ^ 4000; exact Nat.lt_of_lt_of_le (by decide : 2 < 2 ^ 2) (Nat.pow_le_pow_right (by decide) (by decide)), by show 1 < 2 ^ 4000; exact Nat.one_lt_two_pow (by decide)⟩, (by show (2 : Int) ≠ 0; decide), fun p5 H5 k5 hp5 => k p5 H5 ((k13.trans k4).trans k5) hp5⟩
end
end K18
set_option maxHeartbeats 4000000
namespace K18
open PySem PySem.Spec PyProof.Rows L2 GL
abbrev sRange (j : Nat) : Stmt := inClass (tp 28) j
abbrev aG (K : PySem.W.Frag) : Addr := He.ga K "Range"
structure GF (K : PySem.W.Frag) (mg : Str → Option Value) : Prop where
  cl : Cls K (aG K)
  nL : NoAttr K (aG K) "_low"
  nH : NoAttr K (aG K) "_high"
  kc : PySem.W.findIn K (.ref (aG K)) "__class__" = some (some (.builtin "object.__class__"))
  sp : PySem.W.specialIn K (.builtin "object.__class__") "__get__" = some (some (.builtin "getset_descriptor.__get__"))
  tk : PySem.W.takesIn K (.builtin "object.__class__") = some true
  ob : PySem.W.mroIn K (aG K) (.type "object") = some true
  gG : mg "Range" = some (.ref (aG K))
theorem ins_fs {C D d e : Addr} {fs gs : List (Str × V)} (h : some (HO.ins C d fs) = some (HO.ins D e gs)) : fs = gs := by
  injection h with h
  injection h
/-- a Range at an address -/
def RngAt (K : PySem.W.Frag) (H : Hp) (p : Addr) (q r : Rat) : Prop := rBelow r q = false ∧ ∃ dx a b, H p = some (.ins (aG K) dx [("_low", .ref a), ("_high", .ref b)]) ∧ RatAt K H a q ∧ RatAt K H b r
theorem RngAt.same {K : PySem.W.Frag} {H H' : Hp} {p : Addr} {q r : Rat} (h : RngAt K H p q r) (k : Same H H') : RngAt K H' p q r := by
  obtain ⟨l, dx, a, b, e, ha, hb⟩ := h
  exact ⟨l, dx, a, b, k _ _ e, ha.same k, hb.same k⟩
theorem RngAt.ty {K : PySem.W.Frag} {mg : Str → Option Value} {H : Hp} {p : Addr} {q r : Rat} (T : GF K mg) (h : RngAt K H p q r) : TyX K H (.ref p) (.ref (aG K)) := by
  obtain ⟨_, dx, a, b, e, _⟩ := h
  exact .base (.ins e T.cl T.kc T.sp T.tk T.ob)
section
variable {P : Program} {w : World} {K : PySem.W.Frag} {mg : Str → Option Value} {base : Heap}
/-! ### Range.__init__ -/
def spGInit (K : PySem.W.Frag) : Sp := fun vs H Q _ => ∃ (s dx : Addr) (x y : V) (q r : Rat), vs = [.ref s, x, y] ∧ H s = some (.ins (aG K) dx []) ∧ NumAt K H x q ∧ NumAt K H y r ∧ Sz 100000 q ∧ Sz 100000 r ∧ rBelow r q = false ∧
  ∀ H', (∀ c o, c ≠ s → H c = some o → H' c = some o) → RngAt K H' s q r → Q .non H'
theorem scGInit : FnScope ["self", "low", "high"] ["self", "low", "high"] (defScope (sRange 0)) := ⟨rfl, rfl, rfl, by decide +kernel, rfl, by decide +kernel, by decide +kernel⟩
theorem ok_gInit {f : Addr} {fd : FuncData} (F : FunD K "__init__" "Range.__init__" (defArgs (sRange 0)) (defBody (sRange 0)) (defScope (sRange 0)) [] [] f fd) (C : RK P w K mg base) (T : GF K mg) : FnOk P w K mg base CX0 6 f fd ["self", "low", "high"] (spGInit K) := by
  obtain ⟨mc, pp, fo, cr, cm, GO⟩ := C.J.I.R.of
  obtain ⟨fB, fdB, mB, GB, bB⟩ := C.J.I.below
  have TR := C.J.I.R.G.T
  refine F.ok scGInit (fun vs H Q E h => ?_) (fun cdv A outer s H vs Q E hr h => ?_)
  · obtain ⟨s, dx, x, y, q, r, rfl, _⟩ := h
    rfl
  · obtain ⟨s, dx, x, y, q, r, rfl, es, hx, hy, sq, sr, le, k⟩ := h
    refine ⟨_, pss_cons (ps_fld (pv 0) (ClX.pe_cmeth (pe_glob (v := .ref (aR K)) rfl TR.gR rfl) cr cm GO (hr.mono (by decide)) pass0 (pa_cons (pv 1) pa_nil)) rfl)
      (pss_cons (ps_fld (pv 0) (ClX.pe_cmeth (pe_glob (v := .ref (aR K)) rfl TR.gR rfl) cr cm GO (hr.mono (by decide)) pass0 (pa_cons (pv 2) pa_nil)) rfl)
      (pss_one (ps_if (pt_val (pe_meth (pe_fld (pv 0) rfl) TR.cl mB GB hr bB .nil pass0 (pa_cons (pe_fld (pv 0) rfl) pa_nil))) (pss_one ps_never) pss_nil))), ?_⟩
    refine ⟨rfl, _, rfl, x, q, rfl, hx, fun a H1 k1 ha => ?_⟩
    have es1 := k1 _ _ es
    refine ⟨_, rfl, s, _, dx, _, rfl, es1, T.cl, T.nL, (by decide), ?_⟩
    have sa : s ≠ a := by
      obtain ⟨da, ea⟩ := ha
      rintro rfl
      rw [es1] at ea
      exact nomatch ins_fs ea
    have notS : ∀ {c : Addr} {z : Rat} {H0 : Hp}, H0 s = some (.ins (aG K) dx []) → RatAt K H0 c z → ∀ {o : HO}, RatAt K (upd H0 s o) c z := by
      intro c z H0 e0 hc o
      obtain ⟨dc, ec⟩ := hc
      refine ⟨dc, ?_⟩
      rw [upd_ne]
      · exact ec
      · rintro rfl
        rw [e0] at ec
        exact nomatch ins_fs ec
    have hy1 : NumAt K (upd H1 s (.ins (aG K) dx [("_low", .ref a)])) y r := by
      rcases hy.same k1 with h | ⟨p, e, hp⟩
      · exact .inl h
      · exact .inr ⟨p, e, notS es1 hp⟩
    refine ⟨rfl, _, rfl, y, r, rfl, hy1, fun b H2 k2 hb => ?_⟩
    have es2 := k2 _ _ upd_same
    refine ⟨_, rfl, s, _, dx, _, rfl, es2, T.cl, T.nH, (by show 1 < 1000; decide), ?_⟩
    have ha2 : RatAt K (upd H2 s (.ins (aG K) dx [("_low", .ref a), ("_high", .ref b)])) a q := by
      obtain ⟨da, ea⟩ := (notS es1 ha (o := .ins (aG K) dx [("_low", .ref a)])).same k2
      exact ⟨da, by rw [upd_ne (Ne.symm sa)]; exact ea⟩
    have sb : s ≠ b := by
      obtain ⟨db, eb⟩ := hb
      rintro rfl
      rw [es2] at eb
      have z := ins_fs eb
      injection z with z1 z2
      cases z2
    have hb2 : RatAt K (upd H2 s (.ins (aG K) dx [("_low", .ref a), ("_high", .ref b)])) b r := by
      obtain ⟨db, eb⟩ := hb
      exact ⟨db, by rw [upd_ne (Ne.symm sb)]; exact eb⟩
    obtain ⟨da, ea⟩ := ha2
    obtain ⟨db, eb⟩ := hb2
    refine ⟨_, rfl, s, _, dx, _, _, rfl, upd_same, T.cl, T.nH, rfl, b, db, _, rfl, eb, rfl, _, rfl, s, _, dx, _, _, rfl, upd_same, T.cl, T.nL, rfl, b, .ref a, r, q, rfl, ⟨db, eb⟩, .inr ⟨a, rfl, da, ea⟩, sr, sq, fun H3 k3 => ⟨_, rfl, ?_⟩⟩
    rw [le]
    refine iteF (k H3 (fun c o hc e => k3 _ _ (by rw [upd_ne hc]; exact k2 _ _ (by rw [upd_ne hc]; exact k1 _ _ e))) ⟨le, dx, a, b, k3 _ _ upd_same, RatAt.same ⟨da, ea⟩ k3, RatAt.same ⟨db, eb⟩ k3⟩)
end
end K18
set_option maxHeartbeats 4000000
namespace K18
open PySem PySem.Spec PyProof.Rows L2 GL
section
variable {P : Program} {w : World} {K : PySem.W.Frag} {mg : Str → Option Value} {base : Heap}
def spGetR (K : PySem.W.Frag) (g : Rat → Rat → Rat) : Sp := fun vs H Q _ => ∃ (s : Addr) (q r : Rat), vs = [.ref s] ∧ RngAt K H s q r ∧ ∀ a, RatAt K H a (g q r) → Q (.ref a) H
theorem scG_low : FnScope ["self"] ["self"] (defScope (sRange 1)) := ⟨rfl, rfl, rfl, by decide +kernel, rfl, by decide +kernel, by decide +kernel⟩
theorem ok_g_low {f : Addr} {fd : FuncData} (F : FunD K "low" "Range.low" (defArgs (sRange 1)) (defBody (sRange 1)) (defScope (sRange 1)) [] [] f fd) (T : GF K mg) : FnOk P w K mg base CX0 1 f fd ["self"] (spGetR K (fun q _ => q)) := by
  refine F.ok scG_low (fun vs H Q E h => ?_) (fun cdv A outer s H vs Q E hr h => ?_)
  · obtain ⟨s, q, r, rfl, _⟩ := h
    rfl
  · obtain ⟨s, q, r, rfl, ⟨le, dx, a, b, es, ha, hb⟩, k⟩ := h
    exact ⟨_, pss_one (ps_ret (pe_fld (pv 0) rfl)), _, rfl, s, _, dx, _, _, rfl, es, T.cl, T.nL, rfl, k _ ha⟩
theorem scG_high : FnScope ["self"] ["self"] (defScope (sRange 2)) := ⟨rfl, rfl, rfl, by decide +kernel, rfl, by decide +kernel, by decide +kernel⟩
theorem ok_g_high {f : Addr} {fd : FuncData} (F : FunD K "high" "Range.high" (defArgs (sRange 2)) (defBody (sRange 2)) (defScope (sRange 2)) [] [] f fd) (T : GF K mg) : FnOk P w K mg base CX0 1 f fd ["self"] (spGetR K (fun _ r => r)) := by
  refine F.ok scG_high (fun vs H Q E h => ?_) (fun cdv A outer s H vs Q E hr h => ?_)
  · obtain ⟨s, q, r, rfl, _⟩ := h
    rfl
  · obtain ⟨s, q, r, rfl, ⟨le, dx, a, b, es, ha, hb⟩, k⟩ := h
    exact ⟨_, pss_one (ps_ret (pe_fld (pv 0) rfl)), _, rfl, s, _, dx, _, _, rfl, es, T.cl, T.nH, rfl, k _ hb⟩
/-! ### outer -/
def spOuter (K : PySem.W.Frag) : Sp := fun vs H Q _ => ∃ (s : Addr) (q r : Rat), vs = [.ref s] ∧ RngAt K H s q r ∧ ∀ x H', Same H H' → (∃ t u v, x = .ref t ∧ H' t = some (.tup [u, v]) ∧ CutAt K H' u q false ∧ CutAt K H' v r true) → Q x H'
theorem scOuter : FnScope ["self"] ["self"] (defScope (sRange 3)) := ⟨rfl, rfl, rfl, by decide +kernel, rfl, by decide +kernel, by decide +kernel⟩
theorem ok_outer {f : Addr} {fd : FuncData} (F : FunD K "outer" "Range.outer" (defArgs (sRange 3)) (defBody (sRange 3)) (defScope (sRange 3)) [] [] f fd) (T : GF K mg) : FnOk P w K mg base CX0 1 f fd ["self"] (spOuter K) := by
  refine F.ok scOuter (fun vs H Q E h => ?_) (fun cdv A outer s H vs Q E hr h => ?_)
  · obtain ⟨s, q, r, rfl, _⟩ := h
    rfl
  · obtain ⟨s, q, r, rfl, ⟨le, dx, a, b, es, ha, hb⟩, k⟩ := h
    refine ⟨_, pss_one (ps_ret (pe_tup (pa_cons (pe_tup (pa_cons (pe_fld (pv 0) rfl) (pa_cons pe_bl pa_nil))) (pa_cons (pe_tup (pa_cons (pe_fld (pv 0) rfl) (pa_cons pe_bl pa_nil))) pa_nil)))), ?_⟩
    refine ⟨_, rfl, s, _, dx, _, _, rfl, es, T.cl, T.nL, rfl, (by show 2 ≤ sizeLine; decide), fun t1 h1 => ?_⟩
    have s1 : Same H (upd H t1 (.tup [.ref a, .bl false])) := fun b o e => by rw [upd_ne (ne_of_none e h1)]; exact e
    refine ⟨_, rfl, s, _, dx, _, _, rfl, s1 _ _ es, T.cl, T.nH, rfl, (by show 2 ≤ sizeLine; decide), fun t2 h2 => ?_⟩
    generalize hH1 : upd H t1 (.tup [.ref a, .bl false]) = H1 at *
    have e1 : H1 t1 = some (.tup [.ref a, .bl false]) := by rw [← hH1]; exact upd_same
    have s2 : Same H1 (upd H1 t2 (.tup [.ref b, .bl true])) := fun b o e => by rw [upd_ne (ne_of_none e h2)]; exact e
    refine ⟨(by show 2 ≤ sizeLine; decide), fun t3 h3 => ?_⟩
    generalize hH2 : upd H1 t2 (.tup [.ref b, .bl true]) = H2 at *
    have e2 : H2 t2 = some (.tup [.ref b, .bl true]) := by rw [← hH2]; exact upd_same
    have s3 : Same H2 (upd H2 t3 (.tup [.ref t1, .ref t2])) := fun b o e => by rw [upd_ne (ne_of_none e h3)]; exact e
    exact k _ _ ((s1.trans s2).trans s3) ⟨t3, _, _, rfl, upd_same, ⟨t1, _, rfl, s3 _ _ (s2 _ _ e1), .inr ⟨a, rfl, ((ha.same s1).same s2).same s3⟩⟩, ⟨t2, _, rfl, s3 _ _ e2, .inr ⟨b, rfl, ((hb.same s1).same s2).same s3⟩⟩⟩
end
end K18
set_option maxHeartbeats 4000000
namespace K18
open PySem PySem.Spec PyProof.Rows L2 GL
def cInner (q r z : Rat) (b : Bool) : Bool := cAhead q false z b && cAhead z b r true
def cFitQ (q r z : Rat) (b : Bool) : Rat := if cInner q r z b = true then z else if cAhead q false z b = true then r else q
def cFitB (q r z : Rat) (b : Bool) : Bool := if cInner q r z b = true then b else if cAhead q false z b = true then true else false
/-- the parts of Range that others call -/
structure RL (P : Program) (w : World) (K : PySem.W.Frag) (mg : Str → Option Value) (base : Heap) : Prop where
  C : RK P w K mg base
  T : GF K mg
  outer : ∃ f fd, Meth K (aG K) "outer" f ∧ FnOk P w K mg base CX0 1 f fd ["self"] (spOuter K) ∧ Binds K fd ["self"] []
section
variable {P : Program} {w : World} {K : PySem.W.Frag} {mg : Str → Option Value} {base : Heap}
/-! ### is_inner -/
def spInner (K : PySem.W.Frag) : Sp := fun vs H Q _ => ∃ (s : Addr) (x : V) (q r z : Rat) (b : Bool), vs = [.ref s, x] ∧ RngAt K H s q r ∧ CutAt K H x z b ∧ Sz 100000 q ∧ Sz 100000 r ∧ Sz 100000 z ∧ ∀ H', Same H H' → Q (.bl (cInner q r z b)) H'
theorem scInner : FnScope ["self", "cut", "first", "second"] ["self", "cut"] (defScope (sRange 4)) := ⟨rfl, rfl, rfl, by decide +kernel, rfl, by decide +kernel, by decide +kernel⟩
theorem ok_inner {f : Addr} {fd : FuncData} (F : FunD K "is_inner" "Range.is_inner" (defArgs (sRange 4)) (defBody (sRange 4)) (defScope (sRange 4)) [] [] f fd) (L : RL P w K mg base) : FnOk P w K mg base CX0 8 f fd ["self", "cut"] (spInner K) := by
  obtain ⟨fO, fdO, mO, GO, bO⟩ := L.outer
  obtain ⟨fA, fdA, GA, gA, bA, kA⟩ := L.C.ahead
  have T := L.T
  refine F.ok scInner (fun vs H Q E h => ?_) (fun cdv A outer s H vs Q E hr h => ?_)
  · obtain ⟨s, x, q, r, z, b, rfl, _⟩ := h
    rfl
  · obtain ⟨s, x, q, r, z, b, rfl, hs, hx, sq, sr, sz, k⟩ := h
    refine ⟨_, pss_cons (ps_asg (pe_meth0 (pv 0) T.cl mO GO (hr.mono (by decide)) bO .nil pass0) (pg_tup (by rfl) (pgs_cons (pg_name (i := 2) scInner.nd rfl (.inl rfl)) (pgs_cons (pg_name (i := 3) scInner.nd rfl (.inl rfl)) pgs_nil))))
      (pss_one (ps_ret (pe_and (pe_call GA hr rfl gA kA bA .nil pass0 (pa_cons (pv 2) (pa_cons (pv 1) pa_nil))) (pe_one (pe_call GA hr rfl gA kA bA .nil pass0 (pa_cons (pv 1) (pa_cons (pv 3) pa_nil))))))), ?_⟩
    have hs' := hs
    obtain ⟨le, dx, a, b', es, ha, hb⟩ := hs'
    refine ⟨_, rfl, s, dx, _, rfl, es, rfl, s, q, r, rfl, hs, fun x1 H1 k1 hx1 => ?_⟩
    obtain ⟨t, u, v, rfl, ht, hu, hv⟩ := hx1
    refine ⟨t, _, rfl, SqT.of ht, rfl, _, _, rfl, _, _, rfl, rfl, ?_⟩
    refine ⟨_, rfl, _, rfl, u, x, q, z, false, b, rfl, hu, hx.same k1, sq, sz, fun H2 k2 => ⟨_, rfl, ?_⟩⟩
    unfold cInner at k
    cases hA : cAhead q false z b with
    | false =>
      rw [hA] at k
      exact iteF (k H2 (k1.trans k2))
    | true =>
      rw [hA] at k
      exact iteT ⟨_, rfl, _, rfl, x, v, z, r, b, true, rfl, (hx.same k1).same k2, hv.same k2, sz, sr, fun H3 k3 => k H3 ((k1.trans k2).trans k3)⟩
/-! ### fit -/
def spFit (K : PySem.W.Frag) : Sp := fun vs H Q _ => ∃ (s : Addr) (x : V) (q r z : Rat) (b : Bool), vs = [.ref s, x] ∧ RngAt K H s q r ∧ CutAt K H x z b ∧ Sz 100000 q ∧ Sz 100000 r ∧ Sz 100000 z ∧ ∀ y H', Same H H' → CutAt K H' y (cFitQ q r z b) (cFitB q r z b) → Q y H'
theorem scFit : FnScope ["self", "cut", "first", "second"] ["self", "cut"] (defScope (sRange 5)) := ⟨rfl, rfl, rfl, by decide +kernel, rfl, by decide +kernel, by decide +kernel⟩
theorem ok_fit {f fI : Addr} {fd fdI : FuncData} (F : FunD K "fit" "Range.fit" (defArgs (sRange 5)) (defBody (sRange 5)) (defScope (sRange 5)) [] [] f fd) (L : RL P w K mg base) (FI : FunD K "is_inner" "Range.is_inner" (defArgs (sRange 4)) (defBody (sRange 4)) (defScope (sRange 4)) [] [] fI fdI) (mI : Meth K (aG K) "is_inner" fI) (bI : Binds K fdI ["self", "cut"] []) : FnOk P w K mg base CX0 9 f fd ["self", "cut"] (spFit K) := by
  have GI : FnOk P w K mg base CX0 8 fI fdI ["self", "cut"] (spInner K) := ok_inner FI L
  obtain ⟨fO, fdO, mO, GO, bO⟩ := L.outer
  obtain ⟨fA, fdA, GA, gA, bA, kA⟩ := L.C.ahead
  obtain ⟨fC, fdC, GC, gC, bC, kC⟩ := L.C.J.rc
  have T := L.T
  refine F.ok scFit (fun vs H Q E h => ?_) (fun cdv A outer s H vs Q E hr h => ?_)
  · obtain ⟨s, x, q, r, z, b, rfl, _⟩ := h
    rfl
  · obtain ⟨s, x, q, r, z, b, rfl, hs, hx, sq, sr, sz, k⟩ := h
    refine ⟨_, pss_cons (ps_asg (pe_meth0 (pv 0) T.cl mO GO (hr.mono (by decide)) bO .nil pass0) (pg_tup (by rfl) (pgs_cons (pg_name (i := 2) scFit.nd rfl (.inl rfl)) (pgs_cons (pg_name (i := 3) scFit.nd rfl (.inl rfl)) pgs_nil))))
      (pss_cons (ps_if (pt_val (pe_meth (pv 0) T.cl mI GI hr bI .nil pass0 (pa_cons (pv 1) pa_nil))) (pss_one (ps_ret (pe_call GC (hr.mono (by decide)) rfl gC kC bC .nil pass0 (pa_cons (pv 1) pa_nil)))) pss_nil)
      (pss_one (ps_ret (pe_ifExp (pt_val (pe_call GA (hr.mono (by decide)) rfl gA kA bA .nil pass0 (pa_cons (pv 2) (pa_cons (pv 1) pa_nil)))) (pv 3) (pv 2))))), ?_⟩
    have hs' := hs
    obtain ⟨le, dx, a, b', es, ha, hb⟩ := hs'
    refine ⟨_, rfl, s, dx, _, rfl, es, rfl, s, q, r, rfl, hs, fun x1 H1 k1 hx1 => ?_⟩
    obtain ⟨t, u, v, rfl, ht, hu, hv⟩ := hx1
    refine ⟨t, _, rfl, SqT.of ht, rfl, _, _, rfl, _, _, rfl, rfl, ?_⟩
    refine ⟨_, rfl, s, dx, _, rfl, k1 _ _ es, rfl, _, rfl, s, x, q, r, z, b, rfl, hs.same k1, hx.same k1, sq, sr, sz, fun H2 k2 => ⟨_, rfl, ?_⟩⟩
    unfold cFitQ cFitB at k
    cases hI : cInner q r z b with
    | true =>
      rw [hI] at k
      refine iteT ⟨_, rfl, x, z, b, rfl, (hx.same k1).same k2, fun c p H3 k3 hc hp => ?_⟩
      exact k _ H3 ((k1.trans k2).trans k3) ⟨c, _, rfl, hc, .inr ⟨p, rfl, hp⟩⟩
    | false =>
      rw [hI] at k
      refine iteF ⟨_, rfl, _, rfl, u, x, q, z, false, b, rfl, hu.same k2, (hx.same k1).same k2, sq, sz, fun H3 k3 => ⟨_, rfl, ?_⟩⟩
      cases hA : cAhead q false z b with
      | true =>
        rw [hA] at k
        exact iteT ⟨_, rfl, k _ H3 ((k1.trans k2).trans k3) ((hv.same k2).same k3)⟩
      | false =>
        rw [hA] at k
        exact iteF ⟨_, rfl, k _ H3 ((k1.trans k2).trans k3) ((hu.same k2).same k3)⟩
end
end K18
set_option maxHeartbeats 4000000
namespace K18
open PySem PySem.Spec PyProof.Rows L2 GL
section
variable {P : Program} {w : World} {K : PySem.W.Frag} {mg : Str → Option Value} {base : Heap}
/-! ### has_stretch -/
def cHas (q r y : Rat) (b : Bool) (z : Rat) (c : Bool) : Bool := cAhead y b z c && (!cAhead y b q false && !cAhead r true z c)
def spHas (K : PySem.W.Frag) : Sp := fun vs H Q _ => ∃ (s : Addr) (x : V), vs = [.ref s, x] ∧
  ((∃ q r y z b c, RngAt K H s q r ∧ PairAt K H x y b z c ∧ Sz 100000 q ∧ Sz 100000 r ∧ Sz 100000 y ∧ Sz 100000 z ∧ ∀ H', Same H H' → Q (.bl (cHas q r y b z c)) H') ∨ (TyX K H x (.type "list") ∧ Q (.bl false) H))
theorem scHas : FnScope ["self", "value", "first", "second"] ["self", "value"] (defScope (sRange 6)) := ⟨rfl, rfl, rfl, by decide +kernel, rfl, by decide +kernel, by decide +kernel⟩
theorem ok_has {f fS : Addr} {fd fdS : FuncData} (F : FunD K "has_stretch" "Range.has_stretch" (defArgs (sRange 6)) (defBody (sRange 6)) (defScope (sRange 6)) [] [] f fd) (L : RL P w K mg base) (FS : Fun K "is_stretch" "is_stretch" sIsStretch fS fdS) (gS : mg "is_stretch" = some (.ref fS)) (bS : Binds K fdS ["value"] []) : FnOk P w K mg base CX0 9 f fd ["self", "value"] (spHas K) := by
  have GS : FnOk P w K mg base CX0 8 fS fdS ["value"] (spIsStretch K) := ok_isStretch FS L.C
  obtain ⟨fO, fdO, mO, GO, bO⟩ := L.outer
  obtain ⟨fA, fdA, GA, gA, bA, kA⟩ := L.C.ahead
  have T := L.T
  refine F.ok scHas (fun vs H Q E h => ?_) (fun cdv A outer s H vs Q E hr h => ?_)
  · obtain ⟨s, x, rfl, _⟩ := h
    rfl
  · obtain ⟨s, x, rfl, h⟩ := h
    refine ⟨_, pss_cons (ps_if (pt_not (pt_val (pe_call GS hr rfl gS FS.kp bS .nil pass0 (pa_cons (pv 1) pa_nil)))) (pss_one (ps_ret pe_bl)) pss_nil)
      (pss_cons (ps_asg (pe_meth0 (pv 0) T.cl mO GO (hr.mono (by decide)) bO .nil pass0) (pg_tup (by rfl) (pgs_cons (pg_name (i := 2) scHas.nd rfl (.inl rfl)) (pgs_cons (pg_name (i := 3) scHas.nd rfl (.inl rfl)) pgs_nil))))
      (pss_one (ps_ret (pe_and (pe_not (pe_call GA (hr.mono (by decide)) rfl gA kA bA .nil pass0 (pa_cons (pe_ix ix_tup (pv 1) pe_int (fun _ _ => rfl)) (pa_cons (pv 2) pa_nil))))
        (pe_one (pe_not (pe_call GA (hr.mono (by decide)) rfl gA kA bA .nil pass0 (pa_cons (pv 3) (pa_cons (pe_ix ix_tup (pv 1) pe_int (fun _ _ => rfl)) pa_nil))))))))), ?_⟩
    rcases h with ⟨q, r, y, z, b, c, hs, hx, sq, sr, sy, sz, k⟩ | ⟨ty, k⟩
    · refine ⟨_, rfl, x, rfl, .inl ⟨y, b, z, c, hx, sy, sz, fun H1 k1 => ⟨_, rfl, ?_⟩⟩⟩
      unfold cHas at k
      cases hA : cAhead y b z c with
      | false =>
        rw [hA] at k
        exact iteT (k H1 k1)
      | true =>
        rw [hA] at k
        refine iteF ?_
        have hs' := hs.same k1
        obtain ⟨le, dx, a, b', es, ha, hb⟩ := hs'
        refine ⟨_, rfl, s, dx, _, rfl, es, rfl, s, q, r, rfl, hs.same k1, fun x1 H2 k2 hx1 => ?_⟩
        obtain ⟨t, u, v, rfl, ht, hu, hv⟩ := hx1
        refine ⟨t, _, rfl, SqT.of ht, rfl, _, _, rfl, _, _, rfl, rfl, ?_⟩
        obtain ⟨t', u', v', rfl, ht', hu', hv'⟩ := (hx.same k1).same k2
        have k12 := k1.trans k2
        refine ⟨_, rfl, t', _, _, u', rfl, rfl, SqT.of ht', rfl, _, rfl, u', u, y, q, b, false, rfl, hu', hu, sy, sq, fun H3 k3 => ⟨_, rfl, ?_⟩⟩
        cases hB : cAhead y b q false with
        | true =>
          rw [hB] at k
          exact ⟨_, rfl, iteF (k H3 (k12.trans k3))⟩
        | false =>
          rw [hB] at k
          exact ⟨_, rfl, iteT ⟨_, rfl, _, rfl, t', _, _, v', rfl, rfl, SqT.of (k3 _ _ ht'), rfl, v, v', r, z, true, c, rfl, hv.same k3, hv'.same k3, sr, sz, fun H4 k4 => ⟨_, rfl, k H4 ((k12.trans k3).trans k4)⟩⟩⟩
    · exact ⟨_, rfl, x, rfl, .inr ⟨ty, _, rfl, iteT k⟩⟩
/-! ### __contains__ -/
def spHolds (K : PySem.W.Frag) : Sp := fun vs H Q _ => ∃ (s : Addr) (x : V) (q r z : Rat), vs = [.ref s, x] ∧ RngAt K H s q r ∧ NumAt K H x z ∧ Sz 100000 q ∧ Sz 100000 r ∧ Sz 100000 z ∧ ∀ H', Same H H' → Q (.bl (!rBelow r z && !rBelow z q)) H'
theorem scHolds : FnScope ["self", "value"] ["self", "value"] (defScope (sRange 7)) := ⟨rfl, rfl, rfl, by decide +kernel, rfl, by decide +kernel, by decide +kernel⟩
theorem ok_holds {f : Addr} {fd : FuncData} (F : FunD K "__contains__" "Range.__contains__" (defArgs (sRange 7)) (defBody (sRange 7)) (defScope (sRange 7)) [] [] f fd) (L : RL P w K mg base) : FnOk P w K mg base CX0 6 f fd ["self", "value"] (spHolds K) := by
  obtain ⟨mc, pp, fo, cr, cm, GO⟩ := L.C.J.I.R.of
  obtain ⟨fB, fdB, mB, GB, bB⟩ := L.C.J.I.below
  obtain ⟨fN, fdN, GN, gN, bN, kN⟩ := L.C.J.I.isNum
  have TR := L.C.J.I.R.G.T
  have T := L.T
  refine F.ok scHolds (fun vs H Q E h => ?_) (fun cdv A outer s H vs Q E hr h => ?_)
  · obtain ⟨s, x, q, r, z, rfl, _⟩ := h
    rfl
  · obtain ⟨s, x, q, r, z, rfl, hs, hx, sq, sr, sz, k⟩ := h
    refine ⟨_, pss_one (ps_ret (pe_and (pe_call GN (hr.mono (by decide)) rfl gN kN bN .nil pass0 (pa_cons (pv 1) pa_nil))
      (pe_and (pe_not (pe_meth (pe_fld (pv 0) rfl) TR.cl mB GB hr bB .nil pass0 (pa_cons (pv 1) pa_nil)))
      (pe_one (pe_not (pe_meth (ClX.pe_cmeth (pe_glob (v := .ref (aR K)) rfl TR.gR rfl) cr cm GO (hr.mono (by decide)) pass0 (pa_cons (pv 1) pa_nil)) TR.cl mB GB hr bB .nil pass0 (pa_cons (pe_fld (pv 0) rfl) pa_nil))))))), ?_⟩
    have hs' := hs
    obtain ⟨le, dx, a, b, es, ⟨da, ea⟩, ⟨db, eb⟩⟩ := hs'
    refine ⟨_, rfl, x, z, rfl, hx, true, rfl, iteT ?_⟩
    refine ⟨_, rfl, s, _, dx, _, _, rfl, es, T.cl, T.nH, rfl, b, db, _, rfl, eb, rfl, _, rfl, b, x, r, z, rfl, ⟨db, eb⟩, hx, sr, sz, fun H1 k1 => ⟨_, rfl, ?_⟩⟩
    cases hA : rBelow r z with
    | true =>
      rw [hA] at k
      exact ⟨_, rfl, iteF (k H1 k1)⟩
    | false =>
      rw [hA] at k
      refine ⟨_, rfl, iteT ⟨rfl, _, rfl, x, z, rfl, hx.same k1, fun p H2 k2 hp => ?_⟩⟩
      have k12 := k1.trans k2
      obtain ⟨dp, ep⟩ := hp
      exact ⟨p, dp, _, rfl, ep, rfl, _, rfl, s, _, dx, _, _, rfl, k12 _ _ es, T.cl, T.nL, rfl, p, .ref a, z, q, rfl, ⟨dp, ep⟩, .inr ⟨a, rfl, da, k12 _ _ ea⟩, sz, sq, fun H3 k3 => ⟨_, rfl, k H3 (k12.trans k3)⟩⟩
end
end K18
set_option maxHeartbeats 4000000
namespace K18
open PySem PySem.Spec PyProof.Rows L2 GL
section
variable {P : Program} {w : World} {K : PySem.W.Frag} {mg : Str → Option Value} {base : Heap}
/-- two Ratios compared as a value, a == b -/
theorem eqR {H : Hp} {x y : Addr} {q r : Rat} {Q : VK} {E : XK} (T : RF K mg) (hx : RatAt K H x q) (hy : RatAt K H y r) (k : Q (.bl (decide (q = r))) H) : rOwnE K (aR K) (spREq K) E (.ref x) (.ref y) H Q := by
  obtain ⟨dx, ex⟩ := hx
  exact ⟨x, dx, _, .ref (aR K), rfl, ex, hy.ty T, (by unfold PySem.W.notFirst; rw [beq_self_eq_true, Bool.true_or]), x, .ref y, q, rfl, ⟨dx, ex⟩, .inl ⟨y, r, rfl, hy, k⟩⟩
/-! ### Range.__eq__ -/
def spGEq (K : PySem.W.Frag) : Sp := fun vs H Q _ => ∃ (s : Addr) (y : V) (q r : Rat), vs = [.ref s, y] ∧ RngAt K H s q r ∧
  ((∃ t q2 r2, y = .ref t ∧ RngAt K H t q2 r2 ∧ Q (.bl (decide (q = q2) && decide (r = r2))) H) ∨ ∃ t, TyX K H y t ∧ PySem.W.kitOne K t (.ref (aG K)) = some false ∧ Q (.bl false) H)
theorem scGEq : FnScope ["self", "other"] ["self", "other"] (defScope (sRange 8)) := ⟨rfl, rfl, rfl, by decide +kernel, rfl, by decide +kernel, by decide +kernel⟩
theorem ok_gEq {f : Addr} {fd : FuncData} (F : FunD K "__eq__" "Range.__eq__" (defArgs (sRange 8)) (defBody (sRange 8)) (defScope (sRange 8)) [] [] f fd) (I : RI P w K mg base) (T : GF K mg) : FnOk P w K mg base CX0 2 f fd ["self", "other"] (spGEq K) := by
  obtain ⟨fE, oE, GE⟩ := I.eq
  have TR := I.R.G.T
  refine F.ok scGEq (fun vs H Q E h => ?_) (fun cdv A outer s H vs Q E hr h => ?_)
  · obtain ⟨s, y, q, r, rfl, _⟩ := h
    rfl
  · obtain ⟨s, y, q, r, rfl, hs, h⟩ := h
    refine ⟨_, pss_one (ps_ret (pe_and (pe_callB call_isi (by rfl) TR.isi (by decide +kernel) (pa_cons (pv 1) (pa_cons (pe_glob (v := .ref (aG K)) rfl T.gG rfl) pa_nil)))
      (pe_and (pe_cmpR (op_eqO oE GE hr pass0) (pe_fld (pv 0) rfl) (pe_fld (pv 1) rfl) (nomark _)) (pe_one (pe_cmpR (op_eqO oE GE hr pass0) (pe_fld (pv 0) rfl) (pe_fld (pv 1) rfl) (nomark _)))))), ?_⟩
    rcases h with ⟨t, q2, r2, rfl, ht, k⟩ | ⟨t, ty, kt, k⟩
    · refine ⟨_, rfl, .ref t, .ref (aG K), .ref (aG K), _, true, rfl, .own _, ht.ty T, (by unfold PySem.W.kitOne; rw [if_pos (beq_self_eq_true _)]), true, rfl, iteT ?_⟩
      obtain ⟨_, dx, a, b, es, ha, hb⟩ := hs
      obtain ⟨_, dy, a2, b2, et, ha2, hb2⟩ := ht
      refine ⟨_, rfl, s, _, dx, _, _, rfl, es, T.cl, T.nL, rfl, _, rfl, t, _, dy, _, _, rfl, et, T.cl, T.nL, rfl, eqR TR ha ha2 ⟨_, rfl, ?_⟩⟩
      cases hA : decide (q = q2) with
      | false =>
        rw [hA] at k
        exact iteF k
      | true =>
        rw [hA] at k
        exact iteT ⟨_, rfl, s, _, dx, _, _, rfl, es, T.cl, T.nH, rfl, _, rfl, t, _, dy, _, _, rfl, et, T.cl, T.nH, rfl, eqR TR hb hb2 k⟩
    · exact ⟨_, rfl, y, .ref (aG K), t, _, false, rfl, .own _, ty, kt, false, rfl, iteF k⟩
end
end K18
set_option maxHeartbeats 4000000
namespace K18
open PySem PySem.Spec PyProof.Rows L2 GL
abbrev sMove (j : Nat) : Stmt := inClass (tp 31) j
abbrev aM (K : PySem.W.Frag) : Addr := He.ga K "Move"
abbrev sChkDiv : Stmt := tp 34
abbrev sChkPart : Stmt := tp 35
structure MF (K : PySem.W.Frag) (mg : Str → Option Value) : Prop where
  cl : Cls K (aM K)
  nD : NoAttr K (aM K) "_divisor"
  nP : NoAttr K (aM K) "_plus"
  nL : NoAttr K (aM K) "_low"
  nH : NoAttr K (aM K) "_high"
  kc : PySem.W.findIn K (.ref (aM K)) "__class__" = some (some (.builtin "object.__class__"))
  sp : PySem.W.specialIn K (.builtin "object.__class__") "__get__" = some (some (.builtin "getset_descriptor.__get__"))
  tk : PySem.W.takesIn K (.builtin "object.__class__") = some true
  ob : PySem.W.mroIn K (aM K) (.type "object") = some true
  gM : mg "Move" = some (.ref (aM K))
/-- all but one thing stand -/
def Kp (s : Addr) (H H' : Hp) : Prop := ∀ c o, c ≠ s → H c = some o → H' c = some o
theorem Kp.put {s : Addr} {H H' : Hp} {o : HO} (k : Kp s H H') : Kp s H (upd H' s o) := fun c o' hc e => by rw [upd_ne hc]; exact k c o' hc e
theorem Kp.same {s : Addr} {H H' H'' : Hp} (k : Kp s H H') (j : Same H' H'') : Kp s H H'' := fun c o' hc e => j _ _ (k c o' hc e)
theorem notRat {K : PySem.W.Frag} {H : Hp} {s C dx a : Addr} {fs : List (Str × V)} {q : Rat} (e : H s = some (.ins C dx fs)) (hf : fs.lookup ("_top" : Str) = none) (h : RatAt K H a q) : a ≠ s := by
  obtain ⟨da, ea⟩ := h
  rintro rfl
  rw [e] at ea
  have z := ins_fs ea
  rw [z] at hf
  cases hf
theorem RatAt.kp {K : PySem.W.Frag} {H H' : Hp} {s a : Addr} {q : Rat} (h : RatAt K H a q) (ne : a ≠ s) (k : Kp s H H') : RatAt K H' a q := by
  obtain ⟨da, ea⟩ := h
  exact ⟨da, k _ _ ne ea⟩
theorem NumAt.kp {K : PySem.W.Frag} {H H' : Hp} {s C dx : Addr} {fs : List (Str × V)} {x : V} {q : Rat} (h : NumAt K H x q) (e : H s = some (.ins C dx fs)) (hf : fs.lookup ("_top" : Str) = none) (k : Kp s H H') : NumAt K H' x q := by
  rcases h with h | ⟨p, ex, hp⟩
  · exact .inl h
  · exact .inr ⟨p, ex, hp.kp (notRat e hf hp) k⟩
/-- a Move at an address -/
def MovAt (K : PySem.W.Frag) (H : Hp) (p : Addr) (d : Int) (u lo hi : Rat) : Prop := 1 ≤ d ∧ rBelow hi lo = false ∧ ∃ dx a b c, H p = some (.ins (aM K) dx [("_divisor", .int d), ("_plus", .ref a), ("_low", .ref b), ("_high", .ref c)]) ∧ RatAt K H a u ∧ RatAt K H b lo ∧ RatAt K H c hi
theorem MovAt.same {K : PySem.W.Frag} {H H' : Hp} {p : Addr} {d : Int} {u lo hi : Rat} (h : MovAt K H p d u lo hi) (k : Same H H') : MovAt K H' p d u lo hi := by
  obtain ⟨d1, l, dx, a, b, c, e, ha, hb, hc⟩ := h
  exact ⟨d1, l, dx, a, b, c, k _ _ e, ha.same k, hb.same k, hc.same k⟩
theorem MovAt.ty {K : PySem.W.Frag} {mg : Str → Option Value} {H : Hp} {p : Addr} {d : Int} {u lo hi : Rat} (T : MF K mg) (h : MovAt K H p d u lo hi) : TyX K H (.ref p) (.ref (aM K)) := by
  obtain ⟨_, _, dx, a, b, c, e, _⟩ := h
  exact .base (.ins e T.cl T.kc T.sp T.tk T.ob)
section
variable {P : Program} {w : World} {K : PySem.W.Frag} {mg : Str → Option Value} {base : Heap}
/-! ### the checks -/
def spChkDiv : Sp := fun vs H Q _ => ∃ d : Int, vs = [.int d] ∧ 1 ≤ d ∧ Q .non H
theorem scChkDiv : FnScope ["value"] ["value"] (defScope sChkDiv) := ⟨rfl, rfl, rfl, by decide +kernel, rfl, by decide +kernel, by decide +kernel⟩
theorem ok_chkDiv {f : Addr} {fd : FuncData} (F : Fun K "_check_divisor" "_check_divisor" sChkDiv f fd) (G : RG P w K mg base) : FnOk P w K mg base CX0 2 f fd ["value"] spChkDiv := by
  obtain ⟨fI, fdI, GI, gI, bI, kI⟩ := G.isInt
  refine F.ok scChkDiv (fun vs H Q E h => ?_) (fun cdv A outer s H vs Q E hr h => ?_)
  · obtain ⟨d, rfl, _⟩ := h
    rfl
  · obtain ⟨d, rfl, d1, k⟩ := h
    refine ⟨_, pss_one (ps_if (PW.pt (pw_or (pt_not (pt_val (pe_call GI hr rfl gI kI bI .nil pass0 (pa_cons (pv 0) pa_nil)))) (pw_or1 (pt_cmpR op_lt (pv 0) pe_int (nomark _))))) (pss_one ps_never) pss_nil), ?_⟩
    refine ⟨_, rfl, .int d, .type "int", true, false, rfl, .base (.int d), kit_ty (by decide +kernel), fun _ => kit_ty (by decide +kernel), true, rfl, ?_⟩
    refine iteF ⟨_, rfl, _, _, rfl, rfl, _, rfl, ?_⟩
    have e0 : decide (d < 1) = false := decide_eq_false (by omega)
    dsimp only
    rw [e0]
    exact iteF k
def spChkPart (K : PySem.W.Frag) : Sp := fun vs H Q _ => ∃ (n x : V) (q : Rat), vs = [n, x] ∧ NumAt K H x q ∧ Q .non H
theorem scChkPart : FnScope ["name", "value"] ["name", "value"] (defScope sChkPart) := ⟨rfl, rfl, rfl, by decide +kernel, rfl, by decide +kernel, by decide +kernel⟩
theorem ok_chkPart {f : Addr} {fd : FuncData} (F : Fun K "_check_part" "_check_part" sChkPart f fd) (I : RI P w K mg base) : FnOk P w K mg base CX0 3 f fd ["name", "value"] (spChkPart K) := by
  obtain ⟨fN, fdN, GN, gN, bN, kN⟩ := I.isNum
  refine F.ok scChkPart (fun vs H Q E h => ?_) (fun cdv A outer s H vs Q E hr h => ?_)
  · obtain ⟨n, x, q, rfl, _⟩ := h
    rfl
  · obtain ⟨n, x, q, rfl, hx, k⟩ := h
    refine ⟨_, pss_one (ps_if (pt_not (pt_val (pe_call GN hr rfl gN kN bN .nil pass0 (pa_cons (pv 1) pa_nil)))) (pss_one ps_never) pss_nil), ?_⟩
    exact ⟨_, rfl, x, q, rfl, hx, true, rfl, iteF k⟩
end
end K18
set_option maxHeartbeats 4000000
namespace K18
open PySem PySem.Spec PyProof.Rows L2 GL
/-- what Move calls -/
structure RM (P : Program) (w : World) (K : PySem.W.Frag) (mg : Str → Option Value) (base : Heap) : Prop where
  L : RL P w K mg base
  T : MF K mg
  chkD : ∃ f fd, FnOk P w K mg base CX0 2 f fd ["value"] spChkDiv ∧ mg "_check_divisor" = some (.ref f) ∧ Binds K fd ["value"] [] ∧ PySem.W.keepIn K (.ref f) = true
  chkP : ∃ f fd, FnOk P w K mg base CX0 3 f fd ["name", "value"] (spChkPart K) ∧ mg "_check_part" = some (.ref f) ∧ Binds K fd ["name", "value"] [] ∧ PySem.W.keepIn K (.ref f) = true
section
variable {P : Program} {w : World} {K : PySem.W.Frag} {mg : Str → Option Value} {base : Heap}
/-! ### Move.__init__ -/
def spMInit (K : PySem.W.Frag) : Sp := fun vs H Q _ => ∃ (s dx : Addr) (d : Int) (x y z : V) (u q r : Rat), vs = [.ref s, .int d, x, y, z] ∧ H s = some (.ins (aM K) dx []) ∧ 1 ≤ d ∧ NumAt K H x u ∧ NumAt K H y q ∧ NumAt K H z r ∧ Sz 100000 q ∧ Sz 100000 r ∧ rBelow r q = false ∧
  ∀ H', Kp s H H' → MovAt K H' s d u q r → Q .non H'
theorem scMInit : FnScope ["self", "divisor", "plus", "low", "high"] ["self", "divisor", "plus", "low", "high"] (defScope (sMove 0)) := ⟨rfl, rfl, rfl, by decide +kernel, rfl, by decide +kernel, by decide +kernel⟩
theorem ok_mInit {f : Addr} {fd : FuncData} (F : FunD K "__init__" "Move.__init__" (defArgs (sMove 0)) (defBody (sMove 0)) (defScope (sMove 0)) [] [] f fd) (M : RM P w K mg base) : FnOk P w K mg base CX0 6 f fd ["self", "divisor", "plus", "low", "high"] (spMInit K) := by
  obtain ⟨mc, pp, fo, cr, cm, GO⟩ := M.L.C.J.I.R.of
  obtain ⟨fB, fdB, mB, GB, bB⟩ := M.L.C.J.I.below
  obtain ⟨fD, fdD, GD, gD, bD, kD⟩ := M.chkD
  obtain ⟨fC, fdC, GC, gC, bC, kC⟩ := M.chkP
  have TR := M.L.C.J.I.R.G.T
  have T := M.T
  refine F.ok scMInit (fun vs H Q E h => ?_) (fun cdv A outer s H vs Q E hr h => ?_)
  · obtain ⟨s, dx, d, x, y, z, u, q, r, rfl, _⟩ := h
    rfl
  · obtain ⟨s, dx, d, x, y, z, u, q, r, rfl, es, d1, hx, hy, hz, sq, sr, le, k⟩ := h
    refine ⟨_, pss_cons (ps_expr (pe_call GD (hr.mono (by decide)) rfl gD kD bD .nil pass0 (pa_cons (pv 1) pa_nil)))
      (pss_cons (ps_expr (pe_call GC (hr.mono (by decide)) rfl gC kC bC .nil pass0 (pa_cons pe_str (pa_cons (pv 2) pa_nil))))
      (pss_cons (ps_expr (pe_call GC (hr.mono (by decide)) rfl gC kC bC .nil pass0 (pa_cons pe_str (pa_cons (pv 3) pa_nil))))
      (pss_cons (ps_expr (pe_call GC (hr.mono (by decide)) rfl gC kC bC .nil pass0 (pa_cons pe_str (pa_cons (pv 4) pa_nil))))
      (pss_cons (ps_fld (pv 0) (pv 1) rfl)
      (pss_cons (ps_fld (pv 0) (ClX.pe_cmeth (pe_glob (v := .ref (aR K)) rfl TR.gR rfl) cr cm GO (hr.mono (by decide)) pass0 (pa_cons (pv 2) pa_nil)) rfl)
      (pss_cons (ps_fld (pv 0) (ClX.pe_cmeth (pe_glob (v := .ref (aR K)) rfl TR.gR rfl) cr cm GO (hr.mono (by decide)) pass0 (pa_cons (pv 3) pa_nil)) rfl)
      (pss_cons (ps_fld (pv 0) (ClX.pe_cmeth (pe_glob (v := .ref (aR K)) rfl TR.gR rfl) cr cm GO (hr.mono (by decide)) pass0 (pa_cons (pv 4) pa_nil)) rfl)
      (pss_one (ps_if (pt_val (pe_meth (pe_fld (pv 0) rfl) TR.cl mB GB hr bB .nil pass0 (pa_cons (pe_fld (pv 0) rfl) pa_nil))) (pss_one ps_never) pss_nil))))))))), ?_⟩
    refine ⟨_, rfl, d, rfl, d1, ?_⟩
    refine ⟨_, rfl, _, x, u, rfl, hx, ?_⟩
    refine ⟨_, rfl, _, y, q, rfl, hy, ?_⟩
    refine ⟨_, rfl, _, z, r, rfl, hz, ?_⟩
    refine ⟨_, rfl, _, rfl, s, _, dx, _, rfl, es, T.cl, T.nD, (by decide), ?_⟩
    have k0 : Kp s H (upd H s (.ins (aM K) dx [("_divisor", .int d)])) := Kp.put fun c o _ e => e
    refine ⟨rfl, _, rfl, x, u, rfl, hx.kp es rfl k0, fun a H1 k1 ha => ?_⟩
    have e1 := k1 _ _ upd_same
    refine ⟨_, rfl, s, _, dx, _, rfl, e1, T.cl, T.nP, (by show 1 < 1000; decide), ?_⟩
    have na := notRat e1 rfl ha
    have kA : Kp s H1 (upd H1 s (.ins (aM K) dx [("_divisor", .int d), ("_plus", .ref a)])) := Kp.put fun c o _ e => e
    have k01 := (k0.same k1).put (o := .ins (aM K) dx [("_divisor", .int d), ("_plus", .ref a)])
    have ha1 := ha.kp na kA
    refine ⟨rfl, _, rfl, y, q, rfl, hy.kp es rfl k01, fun b H2 k2 hb => ?_⟩
    have e2 := k2 _ _ upd_same
    refine ⟨_, rfl, s, _, dx, _, rfl, e2, T.cl, T.nL, (by show 2 < 1000; decide), ?_⟩
    have nb := notRat e2 rfl hb
    have kB : Kp s H2 (upd H2 s (.ins (aM K) dx [("_divisor", .int d), ("_plus", .ref a), ("_low", .ref b)])) := Kp.put fun c o _ e => e
    have k02 := (k01.same k2).put (o := .ins (aM K) dx [("_divisor", .int d), ("_plus", .ref a), ("_low", .ref b)])
    have ha2 := (ha1.same k2).kp na kB
    have hb2 := hb.kp nb kB
    refine ⟨rfl, _, rfl, z, r, rfl, hz.kp es rfl k02, fun c H3 k3 hc => ?_⟩
    have e3 := k3 _ _ upd_same
    refine ⟨_, rfl, s, _, dx, _, rfl, e3, T.cl, T.nH, (by show 3 < 1000; decide), ?_⟩
    have nc := notRat e3 rfl hc
    have kC3 : Kp s H3 (upd H3 s (.ins (aM K) dx [("_divisor", .int d), ("_plus", .ref a), ("_low", .ref b), ("_high", .ref c)])) := Kp.put fun c o _ e => e
    have k03 := (k02.same k3).put (o := .ins (aM K) dx [("_divisor", .int d), ("_plus", .ref a), ("_low", .ref b), ("_high", .ref c)])
    have ha3 := (ha2.same k3).kp na kC3
    have hb3 := (hb2.same k3).kp nb kC3
    have hc3 := hc.kp nc kC3
    obtain ⟨db, eb⟩ := hb3
    obtain ⟨dc, ec⟩ := hc3
    refine ⟨_, rfl, s, _, dx, _, _, rfl, upd_same, T.cl, T.nH, rfl, c, dc, _, rfl, ec, rfl, _, rfl, s, _, dx, _, _, rfl, upd_same, T.cl, T.nL, rfl, c, .ref b, r, q, rfl, ⟨dc, ec⟩, .inr ⟨b, rfl, db, eb⟩, sr, sq, fun H4 k4 => ⟨_, rfl, ?_⟩⟩
    rw [le]
    exact iteF (k H4 (k03.same k4) ⟨d1, le, dx, a, b, c, k4 _ _ upd_same, ha3.same k4, RatAt.same ⟨db, eb⟩ k4, RatAt.same ⟨dc, ec⟩ k4⟩)
end
end K18
set_option maxHeartbeats 4000000
namespace K18
open PySem PySem.Spec PyProof.Rows L2 GL
theorem rOver_sz {q r : Rat} {n m : Nat} (h : Sz n q) (k : Sz m r) (r0 : r.num ≠ 0) : Sz (n + m) (rOver q r) := divInt_sz (Int.mul_ne_zero (den_ne q) r0) (mul_lt h.1 k.den) (mul_lt h.den k.1)
def cHeld (lo hi z : Rat) : Rat := if rBelow z lo = true then lo else if rBelow hi z = true then hi else z
def mFree (d : Int) (u z : Rat) : Rat := rOver (rAdd z u) (d : Rat)
def mAt (d : Int) (u lo hi z : Rat) : Rat := if rBelow (mFree d u z) lo = true then lo else if rBelow hi (mFree d u z) = true then hi else mFree d u z
theorem mFree_sz {d : Int} {u z : Rat} (d1 : 1 ≤ d) (su : Sz 1000 u) (sz : Sz 1000 z) (sd : Sz 1000 (d : Rat)) : Sz 3001 (mFree d u z) := (rOver_sz (rAdd_sz sz su) sd (by rw [Rat.num_intCast]; omega)).mono (by decide)
section
variable {P : Program} {w : World} {K : PySem.W.Frag} {mg : Str → Option Value} {base : Heap}
/-! ### _free -/
def spFree (K : PySem.W.Frag) : Sp := fun vs H Q _ => ∃ (s : Addr) (x : V) (d : Int) (u lo hi z : Rat), vs = [.ref s, x] ∧ MovAt K H s d u lo hi ∧ NumAt K H x z ∧ Sz 1000 u ∧ Sz 1000 z ∧ Sz 1000 (d : Rat) ∧ ∀ p H', Same H H' → RatAt K H' p (mFree d u z) → Q (.ref p) H'
theorem scFree : FnScope ["self", "number"] ["self", "number"] (defScope (sMove 10)) := ⟨rfl, rfl, rfl, by decide +kernel, rfl, by decide +kernel, by decide +kernel⟩
theorem ok_free {f : Addr} {fd : FuncData} (F : FunD K "_free" "Move._free" (defArgs (sMove 10)) (defBody (sMove 10)) (defScope (sMove 10)) [] [] f fd) (M : RM P w K mg base) : FnOk P w K mg base CX0 6 f fd ["self", "number"] (spFree K) := by
  obtain ⟨mc, pp, fo, cr, cm, GO⟩ := M.L.C.J.I.R.of
  obtain ⟨fA, oA, GA⟩ := M.L.C.add
  obtain ⟨fV, fdV, mV, GV, bV⟩ := M.L.C.over
  have TR := M.L.C.J.I.R.G.T
  have T := M.T
  refine F.ok scFree (fun vs H Q E h => ?_) (fun cdv A outer s H vs Q E hr h => ?_)
  · obtain ⟨s, x, d, u, lo, hi, z, rfl, _⟩ := h
    rfl
  · obtain ⟨s, x, d, u, lo, hi, z, rfl, ⟨d1, le, dx, a, b, c, es, ha, hb, hc⟩, hx, su, sz, sd, k⟩ := h
    refine ⟨_, pss_one (ps_ret (pe_meth (pe_op (op_own (.inl rfl) oA GA hr pass0) (ClX.pe_cmeth (pe_glob (v := .ref (aR K)) rfl TR.gR rfl) cr cm GO (hr.mono (by decide)) pass0 (pa_cons (pv 1) pa_nil)) (pe_fld (pv 0) rfl)) TR.cl mV GV hr bV .nil pass0 (pa_cons (pe_fld (pv 0) rfl) pa_nil))), ?_⟩
    refine ⟨rfl, _, rfl, x, z, rfl, hx, fun p H1 k1 hp => ?_⟩
    obtain ⟨dp, ep⟩ := hp
    obtain ⟨da, ea⟩ := ha.same k1
    refine ⟨_, rfl, s, _, dx, _, _, rfl, k1 _ _ es, T.cl, T.nP, rfl, p, dp, _, rfl, ep, .inl ⟨a, da, _, rfl, ea⟩, ?_⟩
    refine ⟨p, .ref a, z, u, rfl, ⟨dp, ep⟩, .inr ⟨a, rfl, da, ea⟩, sz.mono (by decide), su.mono (by decide), trivial, fun p2 H2 k2 hp2 => ?_⟩
    obtain ⟨d2, e2⟩ := hp2
    have k12 := k1.trans k2
    refine ⟨p2, d2, _, rfl, e2, rfl, _, rfl, s, _, dx, _, _, rfl, k12 _ _ es, T.cl, T.nD, rfl, p2, .int d, rAdd z u, (d : Rat), rfl, ⟨d2, e2⟩, .inl ⟨d, rfl, rfl⟩, (rAdd_sz sz su).mono (by decide), sd.mono (by decide), (by show (d : Rat).num ≠ 0; rw [Rat.num_intCast]; omega), fun p3 H3 k3 hp3 => k p3 H3 (k12.trans k3) hp3⟩
/-! ### _held -/
def spHeld (K : PySem.W.Frag) : Sp := fun vs H Q _ => ∃ (s x : Addr) (d : Int) (u lo hi z : Rat), vs = [.ref s, .ref x] ∧ MovAt K H s d u lo hi ∧ RatAt K H x z ∧ Sz 100000 z ∧ Sz 100000 lo ∧ Sz 100000 hi ∧ ∀ p H', Same H H' → RatAt K H' p (cHeld lo hi z) → Q (.ref p) H'
theorem scHeld : FnScope ["self", "ratio"] ["self", "ratio"] (defScope (sMove 19)) := ⟨rfl, rfl, rfl, by decide +kernel, rfl, by decide +kernel, by decide +kernel⟩
theorem ok_held {f : Addr} {fd : FuncData} (F : FunD K "_held" "Move._held" (defArgs (sMove 19)) (defBody (sMove 19)) (defScope (sMove 19)) [] [] f fd) (M : RM P w K mg base) : FnOk P w K mg base CX0 6 f fd ["self", "ratio"] (spHeld K) := by
  obtain ⟨fB, fdB, mB, GB, bB⟩ := M.L.C.J.I.below
  have TR := M.L.C.J.I.R.G.T
  have T := M.T
  refine F.ok scHeld (fun vs H Q E h => ?_) (fun cdv A outer s H vs Q E hr h => ?_)
  · obtain ⟨s, x, d, u, lo, hi, z, rfl, _⟩ := h
    rfl
  · obtain ⟨s, x, d, u, lo, hi, z, rfl, hs, hx, sz, sl, sh, k⟩ := h
    refine ⟨_, pss_cons (ps_if (pt_val (pe_meth (pv 1) TR.cl mB GB (hr.mono (by decide)) bB .nil pass0 (pa_cons (pe_fld (pv 0) rfl) pa_nil))) (pss_one (ps_ret (pe_fld (pv 0) rfl))) pss_nil)
      (pss_one (ps_ret (pe_ifExp (pt_val (pe_meth (pe_fld (pv 0) rfl) TR.cl mB GB (hr.mono (by decide)) bB .nil pass0 (pa_cons (pv 1) pa_nil))) (pe_fld (pv 0) rfl) (pv 1)))), ?_⟩
    obtain ⟨d1, le, dx, a, b, c, es, ha, hb, hc⟩ := id hs
    obtain ⟨dp, ep⟩ := id hx
    obtain ⟨db, eb⟩ := id hb
    obtain ⟨dc, ec⟩ := id hc
    unfold cHeld at k
    refine ⟨_, rfl, x, dp, _, rfl, ep, rfl, _, rfl, s, _, dx, _, _, rfl, es, T.cl, T.nL, rfl, x, .ref b, z, lo, rfl, ⟨dp, ep⟩, .inr ⟨b, rfl, db, eb⟩, sz, sl, fun H2 k2 => ⟨_, rfl, ?_⟩⟩
    cases hA : rBelow z lo with
    | true =>
      rw [hA, if_pos rfl] at k
      exact iteT ⟨_, rfl, s, _, dx, _, _, rfl, k2 _ _ es, T.cl, T.nL, rfl, k b H2 k2 (RatAt.same ⟨db, eb⟩ k2)⟩
    | false =>
      rw [hA, if_neg (by decide)] at k
      refine iteF ⟨_, rfl, s, _, dx, _, _, rfl, k2 _ _ es, T.cl, T.nH, rfl, c, dc, _, rfl, k2 _ _ ec, rfl, _, rfl, c, .ref x, hi, z, rfl, ⟨dc, k2 _ _ ec⟩, .inr ⟨x, rfl, dp, k2 _ _ ep⟩, sh, sz, fun H3 k3 => ⟨_, rfl, ?_⟩⟩
      have k13 := k2.trans k3
      cases hB : rBelow hi z with
      | true =>
        rw [hB, if_pos rfl] at k
        exact iteT ⟨_, rfl, s, _, dx, _, _, rfl, k13 _ _ es, T.cl, T.nH, rfl, k c H3 k13 ⟨dc, k13 _ _ ec⟩⟩
      | false =>
        rw [hB, if_neg (by decide)] at k
        exact iteF ⟨_, rfl, k x H3 k13 ⟨dp, k13 _ _ ep⟩⟩
/-! ### at -/
def spAt (K : PySem.W.Frag) : Sp := fun vs H Q _ => ∃ (s : Addr) (x : V) (d : Int) (u lo hi z : Rat), vs = [.ref s, x] ∧ MovAt K H s d u lo hi ∧ NumAt K H x z ∧ Sz 1000 u ∧ Sz 1000 z ∧ Sz 1000 (d : Rat) ∧ Sz 100000 lo ∧ Sz 100000 hi ∧ ∀ p H', Same H H' → RatAt K H' p (mAt d u lo hi z) → Q (.ref p) H'
theorem scAt : FnScope ["self", "number"] ["self", "number"] (defScope (sMove 9)) := ⟨rfl, rfl, rfl, by decide +kernel, rfl, by decide +kernel, by decide +kernel⟩
theorem ok_at {f fF fH : Addr} {fd fdF fdH : FuncData} (F : FunD K "at" "Move.at" (defArgs (sMove 9)) (defBody (sMove 9)) (defScope (sMove 9)) [] [] f fd) (M : RM P w K mg base) (FF : FunD K "_free" "Move._free" (defArgs (sMove 10)) (defBody (sMove 10)) (defScope (sMove 10)) [] [] fF fdF) (mF : Meth K (aM K) "_free" fF) (bF : Binds K fdF ["self", "number"] []) (FH : FunD K "_held" "Move._held" (defArgs (sMove 19)) (defBody (sMove 19)) (defScope (sMove 19)) [] [] fH fdH) (mH : Meth K (aM K) "_held" fH) (bH : Binds K fdH ["self", "ratio"] []) : FnOk P w K mg base CX0 7 f fd ["self", "number"] (spAt K) := by
  have GF : FnOk P w K mg base CX0 6 fF fdF ["self", "number"] (spFree K) := ok_free FF M
  have GH : FnOk P w K mg base CX0 6 fH fdH ["self", "ratio"] (spHeld K) := ok_held FH M
  have T := M.T
  refine F.ok scAt (fun vs H Q E h => ?_) (fun cdv A outer s H vs Q E hr h => ?_)
  · obtain ⟨s, x, d, u, lo, hi, z, rfl, _⟩ := h
    rfl
  · obtain ⟨s, x, d, u, lo, hi, z, rfl, hs, hx, su, sz, sd, sl, sh, k⟩ := h
    refine ⟨_, pss_one (ps_ret (pe_meth (pv 0) T.cl mH GH hr bH .nil pass0 (pa_cons (pe_meth (pv 0) T.cl mF GF hr bF .nil pass0 (pa_cons (pv 1) pa_nil)) pa_nil))), ?_⟩
    obtain ⟨d1, le, dx, a, b, c, es, ha, hb, hc⟩ := id hs
    have sf := (mFree_sz d1 su sz sd).mono (show 3001 ≤ 100000 by decide)
    refine ⟨_, rfl, s, dx, _, rfl, es, rfl, _, rfl, s, dx, _, rfl, es, rfl, _, rfl, s, x, d, u, lo, hi, z, rfl, hs, hx, su, sz, sd, fun p H1 k1 hp => ?_⟩
    exact ⟨s, p, d, u, lo, hi, _, rfl, hs.same k1, hp, sf, sl, sh, fun p2 H2 k2 hp2 => k p2 H2 (k1.trans k2) hp2⟩
end
end K18
set_option maxHeartbeats 1000000
namespace K18
open PySem PySem.Spec PyProof.Rows L2 GL
/-! ### what the program's arithmetic is -/
theorem rBelow_iff {q r : Rat} : rBelow q r = true ↔ q < r := by
  unfold rBelow
  rw [decide_eq_true_iff, Rat.lt_iff]
theorem rBelow_not {q r : Rat} : rBelow q r = false ↔ r ≤ q := by
  rw [← Rat.not_lt, ← rBelow_iff, Bool.not_eq_true]
theorem rAdd_eq (q r : Rat) : rAdd q r = q + r := by
  have h := Rat.divInt_add_divInt q.num r.num (den_ne q) (den_ne r)
  rw [Rat.num_divInt_den, Rat.num_divInt_den] at h
  exact h.symm
theorem rMul_eq (q r : Rat) : rMul q r = q * r := by
  have h := Rat.divInt_mul_divInt q.num r.num (d₁ := (q.den : Int)) (d₂ := (r.den : Int))
  rw [Rat.num_divInt_den, Rat.num_divInt_den] at h
  exact h.symm
theorem rNeg_eq (q : Rat) : rNeg q = -q := by
  have h := Rat.neg_divInt q.num (q.den : Int)
  rw [Rat.num_divInt_den] at h
  exact h.symm
theorem rSub_eq (q r : Rat) : rSub q r = q - r := by
  have h := rAdd_eq q (-r)
  rw [← Rat.sub_eq_add_neg] at h
  rw [← h]
  unfold rSub rAdd
  rw [Rat.neg_num, Rat.neg_den, Int.neg_mul, ← Int.sub_eq_add_neg]
theorem rOver_eq (q r : Rat) : rOver q r = q / r := by
  have h := Rat.divInt_mul_divInt q.num (r.den : Int) (d₁ := (q.den : Int)) (d₂ := r.num)
  have e := Rat.inv_divInt r.num (r.den : Int)
  rw [Rat.num_divInt_den] at h e
  rw [Rat.div_def, e]
  exact h.symm
theorem mFree_eq (d : Int) (u z : Rat) : mFree d u z = (z + u) / (d : Rat) := by
  unfold mFree
  rw [rOver_eq, rAdd_eq]
theorem mFree_mono {d : Int} {u z y : Rat} (d1 : 1 ≤ d) (h : z ≤ y) : mFree d u z ≤ mFree d u y := by
  rw [mFree_eq, mFree_eq, Rat.div_def, Rat.div_def]
  refine Rat.mul_le_mul_of_nonneg_right (Rat.add_le_add_right.mpr h) ?_
  have p : (0 : Rat) < (d : Rat) := by
    have : (0 : Int) < d := by omega
    exact_mod_cast this
  exact Rat.le_of_lt (Rat.inv_pos.mpr p)
/-- moves never turn the order round -/
theorem mAt_mono {d : Int} {u lo hi z y : Rat} (d1 : 1 ≤ d) (l : lo ≤ hi) (h : z ≤ y) : mAt d u lo hi z ≤ mAt d u lo hi y := by
  have f := mFree_mono (u := u) d1 h
  unfold mAt
  simp only [rBelow_iff]
  split
  · split
    · exact Rat.le_refl
    · split
      · exact l
      · exact Rat.not_lt.mp (by assumption)
  · split
    · rename_i a b
      split
      · rename_i c
        exact absurd (Std.lt_of_le_of_lt f c) a
      · split
        · exact Rat.le_refl
        · rename_i c e
          exact absurd (Std.lt_of_lt_of_le b f) e
    · rename_i a b
      split
      · rename_i c
        exact absurd (Std.lt_of_le_of_lt f c) a
      · split
        · exact Rat.not_lt.mp b
        · exact f
end K18
set_option maxHeartbeats 4000000
namespace K18
open PySem PySem.Spec PyProof.Rows L2 GL
abbrev sChkRange : Stmt := tp 36
abbrev sChkOther : Stmt := tp 37
theorem rAdd_sz2 {q r : Rat} {n m : Nat} (h : Sz n q) (k : Sz m r) : Sz (n + m + 1) (rAdd q r) := by
  refine divInt_sz (Int.mul_ne_zero (den_ne q) (den_ne r)) ?_ (Nat.lt_of_lt_of_le (mul_lt h.den k.den) (Nat.pow_le_pow_right (by decide) (by omega)))
  have a := mul_lt h.1 k.den
  have b := mul_lt k.1 h.den
  have c := Int.natAbs_add_le (q.num * (r.den : Int)) (r.num * (q.den : Int))
  rw [Nat.pow_succ]
  rw [Nat.add_comm m n] at b
  omega
theorem rSub_sz2 {q r : Rat} {n m : Nat} (h : Sz n q) (k : Sz m r) : Sz (n + m + 1) (rSub q r) := by
  refine divInt_sz (Int.mul_ne_zero (den_ne q) (den_ne r)) ?_ (Nat.lt_of_lt_of_le (mul_lt h.den k.den) (Nat.pow_le_pow_right (by decide) (by omega)))
  have a := mul_lt h.1 k.den
  have b := mul_lt k.1 h.den
  have c := Int.natAbs_add_le (q.num * (r.den : Int)) (-(r.num * (q.den : Int)))
  rw [Int.natAbs_neg, ← Int.sub_eq_add_neg] at c
  rw [Nat.pow_succ]
  rw [Nat.add_comm m n] at b
  omega
theorem rMul_sz2 {q r : Rat} {n m : Nat} (h : Sz n q) (k : Sz m r) : Sz (n + m) (rMul q r) := divInt_sz (Int.mul_ne_zero (den_ne q) (den_ne r)) (mul_lt h.1 k.1) (mul_lt h.den k.den)
theorem int_sz {i : Int} {n : Nat} (hn : n ≠ 0) (h : i.natAbs < 2 ^ n) : Sz n (i : Rat) := ⟨h, Nat.one_lt_two_pow hn⟩
theorem mFree_sz2 {d : Int} {u z : Rat} {n m k : Nat} (d1 : 1 ≤ d) (su : Sz m u) (sz : Sz n z) (sd : Sz k (d : Rat)) : Sz (n + m + 1 + k) (mFree d u z) := rOver_sz (rAdd_sz2 sz su) sd (by rw [Rat.num_intCast]; omega)
theorem mAt_sz2 {d : Int} {u lo hi z : Rat} {n m k l : Nat} (d1 : 1 ≤ d) (su : Sz m u) (sz : Sz n z) (sd : Sz k (d : Rat)) (sl : Sz l lo) (sh : Sz l hi) (hl : l ≤ n + m + 1 + k) : Sz (n + m + 1 + k) (mAt d u lo hi z) := by
  unfold mAt
  split
  · exact sl.mono hl
  · split
    · exact sh.mono hl
    · exact mFree_sz2 d1 su sz sd
/-- what the methods of Move call -/
structure RN (P : Program) (w : World) (K : PySem.W.Frag) (mg : Str → Option Value) (base : Heap) : Prop where
  M : RM P w K mg base
  make : ∃ f fd, Mk K (aM K) f ∧ FnOk P w K mg base CX0 6 f fd ["self", "divisor", "plus", "low", "high"] (spMInit K) ∧ Binds K fd ["self", "divisor", "plus", "low", "high"] []
  free : ∃ f fd, Meth K (aM K) "_free" f ∧ FnOk P w K mg base CX0 6 f fd ["self", "number"] (spFree K) ∧ Binds K fd ["self", "number"] []
  held : ∃ f fd, Meth K (aM K) "_held" f ∧ FnOk P w K mg base CX0 6 f fd ["self", "ratio"] (spHeld K) ∧ Binds K fd ["self", "ratio"] []
  at_ : ∃ f fd, Meth K (aM K) "at" f ∧ FnOk P w K mg base CX0 7 f fd ["self", "number"] (spAt K) ∧ Binds K fd ["self", "number"] []
  mul : ∃ f, OwnBin K (aR K) .Mult f ∧ FnR P w K mg base CX0 5 f (spBin K rMul fun _ _ => True)
  sub : ∃ f, OwnBin K (aR K) .Sub f ∧ FnR P w K mg base CX0 5 f (spBin K rSub fun _ _ => True)
/-- C(..) of a Move, its parts at the end of the call -/
theorem made_mov {K : PySem.W.Frag} {H : Hp} {Q : VK} {E : XK} {x dx : Addr} {d : Int} {y z v : V} {u q r : Rat} (hx : H x = none) (hd : H dx = none) (ne : dx ≠ x) (d1 : 1 ≤ d) (hu : NumAt K H y u) (hq : NumAt K H z q) (hr : NumAt K H v r) (sq : Sz 100000 q) (sr : Sz 100000 r) (le : rBelow r q = false)
    (k : ∀ p H', Same H H' → H p = none → MovAt K H' p d u q r → Q (.ref p) H') :
    spMInit K [.ref x, .int d, y, z, v] (upd (upd H dx (.own x)) x (.ins (aM K) dx [])) (fun v H2 => v = .non ∧ Q (.ref x) H2) E := by
  have up : Same H (upd (upd H dx (.own x)) x (.ins (aM K) dx [])) := fun b o e => by rw [upd_ne (ne_of_none e hx), upd_ne (ne_of_none e hd)]; exact e
  exact ⟨x, dx, d, y, z, v, u, q, r, rfl, upd_same, d1, hu.same up, hq.same up, hr.same up, sq, sr, le, fun H' kp e => ⟨rfl, k x H' (fun c o ec => kp c o (ne_of_none ec hx) (up _ _ ec)) hx e⟩⟩
section
variable {P : Program} {w : World} {K : PySem.W.Frag} {mg : Str → Option Value} {base : Heap}
theorem isi_self {A : Addr} : PySem.W.kitOne K (.ref A) (.ref A) = some true := by unfold PySem.W.kitOne; rw [if_pos (beq_self_eq_true _)]
def spChkRange (K : PySem.W.Frag) : Sp := fun vs H Q _ => ∃ (a : Addr) (q r : Rat), vs = [.ref a] ∧ RngAt K H a q r ∧ Q .non H
theorem scChkRange : FnScope ["value"] ["value"] (defScope sChkRange) := ⟨rfl, rfl, rfl, by decide +kernel, rfl, by decide +kernel, by decide +kernel⟩
theorem ok_chkRange {f : Addr} {fd : FuncData} (F : Fun K "_check_range" "_check_range" sChkRange f fd) (L : RL P w K mg base) : FnOk P w K mg base CX0 1 f fd ["value"] (spChkRange K) := by
  refine F.ok scChkRange (fun vs H Q E h => ?_) (fun cdv A outer s H vs Q E hr h => ?_)
  · obtain ⟨a, q, r, rfl, _⟩ := h
    rfl
  · obtain ⟨a, q, r, rfl, ha, k⟩ := h
    refine ⟨_, pss_one (ps_if (pt_not (pt_val (pe_callB call_isi (by rfl) L.C.J.I.R.G.T.isi (by decide +kernel) (pa_cons (pv 0) (pa_cons (pe_glob (v := .ref (aG K)) rfl L.T.gG rfl) pa_nil))))) (pss_one ps_never) pss_nil), ?_⟩
    exact ⟨_, rfl, .ref a, .ref (aG K), .ref (aG K), _, true, rfl, .own _, ha.ty L.T, isi_self, true, rfl, iteF k⟩
def spChkOther (K : PySem.W.Frag) : Sp := fun vs H Q _ => ∃ (a : Addr) (d : Int) (u q r : Rat), vs = [.ref a] ∧ MovAt K H a d u q r ∧ Q .non H
theorem scChkOther : FnScope ["value"] ["value"] (defScope sChkOther) := ⟨rfl, rfl, rfl, by decide +kernel, rfl, by decide +kernel, by decide +kernel⟩
theorem ok_chkOther {f : Addr} {fd : FuncData} (F : Fun K "_check_other" "_check_other" sChkOther f fd) (M : RM P w K mg base) : FnOk P w K mg base CX0 1 f fd ["value"] (spChkOther K) := by
  refine F.ok scChkOther (fun vs H Q E h => ?_) (fun cdv A outer s H vs Q E hr h => ?_)
  · obtain ⟨a, d, u, q, r, rfl, _⟩ := h
    rfl
  · obtain ⟨a, d, u, q, r, rfl, ha, k⟩ := h
    refine ⟨_, pss_one (ps_if (pt_not (pt_val (pe_callB call_isi (by rfl) M.L.C.J.I.R.G.T.isi (by decide +kernel) (pa_cons (pv 0) (pa_cons (pe_glob (v := .ref (aM K)) rfl M.T.gM rfl) pa_nil))))) (pss_one ps_never) pss_nil), ?_⟩
    exact ⟨_, rfl, .ref a, .ref (aM K), .ref (aM K), _, true, rfl, .own _, ha.ty M.T, isi_self, true, rfl, iteF k⟩
/-! ### then -/
def spThen (K : PySem.W.Frag) : Sp := fun vs H Q _ => ∃ (s o : Addr) (d e : Int) (u lo hi v l2 h2 : Rat), vs = [.ref s, .ref o] ∧ MovAt K H s d u lo hi ∧ MovAt K H o e v l2 h2 ∧ Sz 1000 u ∧ Sz 1000 v ∧ Sz 1000 lo ∧ Sz 1000 hi ∧ Sz 1000 l2 ∧ Sz 1000 h2 ∧ Sz 1000 (d : Rat) ∧ Sz 1000 (e : Rat) ∧
  ∀ p H', Same H H' → MovAt K H' p (d * e) (rAdd u (rMul v (d : Rat))) (mAt e v l2 h2 lo) (mAt e v l2 h2 hi) → Q (.ref p) H'
theorem scThen : FnScope ["self", "other", "plus"] ["self", "other"] (defScope (sMove 11)) := ⟨rfl, rfl, rfl, by decide +kernel, rfl, by decide +kernel, by decide +kernel⟩
theorem ok_then {f fO : Addr} {fd fdO : FuncData} (F : FunD K "then" "Move.then" (defArgs (sMove 11)) (defBody (sMove 11)) (defScope (sMove 11)) [] [] f fd) (N : RN P w K mg base) (FO : Fun K "_check_other" "_check_other" sChkOther fO fdO) (gO : mg "_check_other" = some (.ref fO)) (bO : Binds K fdO ["value"] []) : FnOk P w K mg base CX0 8 f fd ["self", "other"] (spThen K) := by
  have GO : FnOk P w K mg base CX0 1 fO fdO ["value"] (spChkOther K) := ok_chkOther FO N.M
  obtain ⟨fA, oA, GA⟩ := N.M.L.C.add
  obtain ⟨fM, oM, GM⟩ := N.mul
  obtain ⟨fT, fdT, mT, GT, bT⟩ := N.at_
  obtain ⟨fI, fdI, MI, GI, bI⟩ := N.make
  have TR := N.M.L.C.J.I.R.G.T
  have T := N.M.T
  refine F.ok scThen (fun vs H Q E h => ?_) (fun cdv A outer s H vs Q E hr h => ?_)
  · obtain ⟨s, o, d, e, u, lo, hi, v, l2, h2, rfl, _⟩ := h
    rfl
  · obtain ⟨s, o, d, e, u, lo, hi, v, l2, h2, rfl, hs, ho, su, sv, sl, sh, sl2, sh2, sd, se, k⟩ := h
    refine ⟨_, pss_cons (ps_expr (pe_call GO (hr.mono (by decide)) rfl gO FO.kp bO .nil pass0 (pa_cons (pv 1) pa_nil)))
      (pss_cons (ps_set (i := 2) scThen.nd rfl (Or.inl rfl) (pe_op (op_own (.inl rfl) oA GA (hr.mono (by decide)) pass0) (pe_fld (pv 0) rfl) (pe_op (op_own (.inr (.inr rfl)) oM GM (hr.mono (by decide)) pass0) (pe_fld (pv 1) rfl) (pe_fld (pv 0) rfl))))
      (pss_one (ps_ret (pe_make MI GI hr rfl T.gM bI .nil pass0 (pa_cons (pe_op op_mulW (pe_fld (pv 0) rfl) (pe_fld (pv 1) rfl)) (pa_cons (pv 2)
        (pa_cons (pe_meth (pv 1) T.cl mT GT hr bT .nil pass0 (pa_cons (pe_fld (pv 0) rfl) pa_nil)) (pa_cons (pe_meth (pv 1) T.cl mT GT hr bT .nil pass0 (pa_cons (pe_fld (pv 0) rfl) pa_nil)) pa_nil)))))))), ?_⟩
    refine ⟨_, rfl, o, e, v, l2, h2, rfl, ho, ?_⟩
    have hs' := hs
    have ho' := ho
    obtain ⟨d1, le, dx, a, b, c, es, ha, hb, hc⟩ := hs'
    obtain ⟨e1, le2, dy, a2, b2, c2, eo, ha2, hb2, hc2⟩ := ho'
    obtain ⟨da, ea⟩ := ha
    obtain ⟨db, eb⟩ := ha2
    refine ⟨_, rfl, s, _, dx, _, _, rfl, es, T.cl, T.nP, rfl, ?_⟩
    refine ⟨_, rfl, o, _, dy, _, _, rfl, eo, T.cl, T.nP, rfl, _, rfl, s, _, dx, _, _, rfl, es, T.cl, T.nD, rfl, a2, db, _, rfl, eb, .inr ⟨d, rfl⟩, ?_⟩
    refine ⟨a2, .int d, v, (d : Rat), rfl, ⟨db, eb⟩, .inl ⟨d, rfl, rfl⟩, sv.mono (by decide), sd.mono (by decide), trivial, fun p1 H1 k1 hp1 => ?_⟩
    obtain ⟨d3, e3⟩ := hp1
    refine ⟨a, da, _, rfl, k1 _ _ ea, .inl ⟨p1, d3, _, rfl, e3⟩, ?_⟩
    refine ⟨a, .ref p1, u, rMul v (d : Rat), rfl, ⟨da, k1 _ _ ea⟩, .inr ⟨p1, rfl, d3, e3⟩, su.mono (by decide), (rMul_sz2 sv sd).mono (by decide), trivial, fun p2 H2 k2 hp2 => ?_⟩
    have k12 := k1.trans k2
    refine ⟨_, rfl, s, _, dx, _, _, rfl, k12 _ _ es, T.cl, T.nD, rfl, _, rfl, o, _, dy, _, _, rfl, k12 _ _ eo, T.cl, T.nD, rfl, _, _, rfl, rfl, wide_mul sd.1 se.1 (by decide) (by decide) (by decide), ?_⟩
    refine ⟨_, rfl, ?_⟩
    refine ⟨_, rfl, o, dy, _, rfl, k12 _ _ eo, rfl, _, rfl, s, _, dx, _, _, rfl, k12 _ _ es, T.cl, T.nL, rfl, ?_⟩
    refine ⟨o, .ref b, e, v, l2, h2, lo, rfl, ho.same k12, .inr ⟨b, rfl, hb.same k12⟩, sv, sl, se, sl2.mono (by decide), sh2.mono (by decide), fun p3 H3 k3 hp3 => ?_⟩
    have k13 := k12.trans k3
    refine ⟨_, rfl, o, dy, _, rfl, k13 _ _ eo, rfl, _, rfl, s, _, dx, _, _, rfl, k13 _ _ es, T.cl, T.nH, rfl, ?_⟩
    refine ⟨o, .ref c, e, v, l2, h2, hi, rfl, ho.same k13, .inr ⟨c, rfl, hc.same k13⟩, sv, sh, se, sl2.mono (by decide), sh2.mono (by decide), fun p4 H4 k4 hp4 => ?_⟩
    intro x dz hx hd ne
    have at_sz : ∀ {z : Rat}, Sz 1000 z → Sz 100000 (mAt e v l2 h2 z) := fun {z} sz => (mAt_sz2 e1 sv sz se sl2 sh2 (by decide)).mono (by decide)
    have mono : rBelow (mAt e v l2 h2 hi) (mAt e v l2 h2 lo) = false := rBelow_not.mpr (mAt_mono e1 (rBelow_not.mp le2) (rBelow_not.mp le))
    have de : 1 ≤ d * e := by
      have := Int.mul_le_mul d1 e1 (by decide) (by omega)
      omega
    exact made_mov hx hd ne de (.inr ⟨p2, rfl, (hp2.same k3).same k4⟩) (.inr ⟨p3, rfl, hp3.same k4⟩) (.inr ⟨p4, rfl, hp4⟩) (at_sz sl) (at_sz sh) mono fun p5 H5 k5 _ hp5 => k p5 H5 ((k13.trans k4).trans k5) hp5
end
end K18
set_option maxHeartbeats 4000000
namespace K18
open PySem PySem.Spec PyProof.Rows L2 GL
def cUpB (d : Int) (u lo hi z : Rat) (b : Bool) : Bool := b || (rBelow hi (mFree d u z) || !rBelow lo (mFree d u z))
def cLoB (d : Int) (u lo hi z : Rat) (b : Bool) : Bool := b && !(rBelow (mFree d u z) lo || !rBelow (mFree d u z) hi)
section
variable {P : Program} {w : World} {K : PySem.W.Frag} {mg : Str → Option Value} {base : Heap}
/-! ### upper_image, lower_image -/
def spImg (K : PySem.W.Frag) (g : Int → Rat → Rat → Rat → Rat → Bool → Bool) : Sp := fun vs H Q _ => ∃ (s : Addr) (x : V) (d : Int) (u lo hi z : Rat) (b : Bool), vs = [.ref s, x] ∧ MovAt K H s d u lo hi ∧ CutAt K H x z b ∧ Sz 1000 u ∧ Sz 1000 z ∧ Sz 1000 lo ∧ Sz 1000 hi ∧ Sz 1000 (d : Rat) ∧
  ∀ c H', Same H H' → CutR K H' c (mAt d u lo hi z) (g d u lo hi z b) → Q (.ref c) H'
theorem scUp : FnScope ["self", "cut", "place", "is_met", "free", "is_flat_below"] ["self", "cut"] (defScope (sMove 13)) := ⟨rfl, rfl, rfl, by decide +kernel, rfl, by decide +kernel, by decide +kernel⟩
theorem ok_up {f : Addr} {fd : FuncData} (F : FunD K "upper_image" "Move.upper_image" (defArgs (sMove 13)) (defBody (sMove 13)) (defScope (sMove 13)) [] [] f fd) (N : RN P w K mg base) : FnOk P w K mg base CX0 8 f fd ["self", "cut"] (spImg K cUpB) := by
  obtain ⟨fC, fdC, GC, gC, bC, kC⟩ := N.M.L.C.J.rc
  obtain ⟨fB, fdB, mB, GB, bB⟩ := N.M.L.C.J.I.below
  obtain ⟨fF, fdF, mF, GF, bF⟩ := N.free
  obtain ⟨fT, fdT, mT, GT, bT⟩ := N.held
  have TR := N.M.L.C.J.I.R.G.T
  have T := N.M.T
  refine F.ok scUp (fun vs H Q E h => ?_) (fun cdv A outer s H vs Q E hr h => ?_)
  · obtain ⟨s, x, d, u, lo, hi, z, b, rfl, _⟩ := h
    rfl
  · obtain ⟨s, x, d, u, lo, hi, z, b, rfl, hs, hx, su, sz, sl, sh, sd, k⟩ := h
    refine ⟨_, pss_cons (ps_asg (pe_call GC (hr.mono (by decide)) rfl gC kC bC .nil pass0 (pa_cons (pv 1) pa_nil)) (pg_tup (by rfl) (pgs_cons (pg_name (i := 2) scUp.nd rfl (.inl rfl)) (pgs_cons (pg_name (i := 3) scUp.nd rfl (.inl rfl)) pgs_nil))))
      (pss_cons (ps_set (i := 4) scUp.nd rfl (Or.inl rfl) (pe_meth (pv 0) T.cl mF GF (hr.mono (by decide)) bF .nil pass0 (pa_cons (pv 2) pa_nil)))
      (pss_cons (ps_set (i := 5) scUp.nd rfl (Or.inl rfl) (pe_or (pe_meth (pe_fld (pv 0) rfl) TR.cl mB GB (hr.mono (by decide)) bB .nil pass0 (pa_cons (pv 4) pa_nil)) (pe_one (pe_not (pe_meth (pe_fld (pv 0) rfl) TR.cl mB GB (hr.mono (by decide)) bB .nil pass0 (pa_cons (pv 4) pa_nil))))))
      (pss_one (ps_ret (pe_tup (pa_cons (pe_meth (pv 0) T.cl mT GT (hr.mono (by decide)) bT .nil pass0 (pa_cons (pv 4) pa_nil)) (pa_cons (pe_or (pv 3) (pe_one (pv 5))) pa_nil))))))), ?_⟩
    refine ⟨_, rfl, x, z, b, rfl, hx, fun c1 z1 H1 k1 hc1 hz1 => ?_⟩
    refine ⟨c1, _, rfl, SqT.of hc1, rfl, _, _, rfl, _, _, rfl, rfl, ?_⟩
    have hs' := hs
    obtain ⟨d1, le, dx, pa, pb, pc, es, ha, hb, hc⟩ := hs'
    refine ⟨_, rfl, s, dx, _, rfl, k1 _ _ es, rfl, _, rfl, ?_⟩
    refine ⟨s, .ref z1, d, u, lo, hi, z, rfl, hs.same k1, .inr ⟨z1, rfl, hz1⟩, su, sz, sd, fun p2 H2 k2 hp2 => ?_⟩
    have k12 := k1.trans k2
    have sf : Sz 100000 (mFree d u z) := (mFree_sz2 d1 su sz sd).mono (by decide)
    obtain ⟨dc, ec⟩ := hc.same k12
    obtain ⟨d2, e2⟩ := hp2
    refine ⟨_, rfl, s, _, dx, _, _, rfl, k12 _ _ es, T.cl, T.nH, rfl, pc, dc, _, rfl, ec, rfl, _, rfl, ?_⟩
    refine ⟨pc, .ref p2, hi, mFree d u z, rfl, ⟨dc, ec⟩, .inr ⟨p2, rfl, d2, e2⟩, sh.mono (by decide), sf, fun H3 k3 => ⟨_, rfl, ?_⟩⟩
    have k13 := k12.trans k3
    have fin : ∀ (fl : Bool) (H4 : Hp), Same H3 H4 → fl = (rBelow hi (mFree d u z) || !rBelow lo (mFree d u z)) →
        tTup (tCons (tMeth (aM K) "_held" (spHeld K) [] E (tVar 0) (tCons (tVar 4) tNil)) (tCons (tOrV (tVar 3) (tVar 5)) tNil)) [some (.ref s), some x, some (.ref z1), some (.bl b), some (.ref p2), some (.bl fl)] H4 Q := by
      intro fl H4 k4 hf
      have k14 := k13.trans k4
      refine ⟨_, rfl, s, dx, _, rfl, k14 _ _ es, rfl, _, rfl, ?_⟩
      refine ⟨s, p2, d, u, lo, hi, _, rfl, hs.same k14, ⟨d2, k4 _ _ (k3 _ _ e2)⟩, sf, sl.mono (by decide), sh.mono (by decide), fun p5 H5 k5 hp5 => ?_⟩
      have last : ∀ r : Bool, r = cUpB d u lo hi z b → 2 ≤ sizeLine ∧ ∀ t, H5 t = none → Q (.ref t) (upd H5 t (.tup [.ref p5, .bl r])) := by
        rintro r rfl
        refine ⟨by show 2 ≤ sizeLine; decide, fun t ht => ?_⟩
        have up : Same H5 (upd H5 t (.tup [.ref p5, .bl (cUpB d u lo hi z b)])) := fun b o e => by rw [upd_ne (ne_of_none e ht)]; exact e
        exact k t _ ((k14.trans k5).trans up) ⟨p5, upd_same, hp5.same up⟩
      refine ⟨_, rfl, b, rfl, ?_⟩
      cases b with
      | true => exact iteT (last true rfl)
      | false => exact iteF ⟨_, rfl, last fl (by rw [hf]; rfl)⟩
    cases hB : rBelow hi (mFree d u z) with
    | true =>
      refine iteT ?_
      exact fin true H3 (fun _ _ e => e) (by rw [hB]; rfl)
    | false =>
      refine iteF ?_
      obtain ⟨db, eb⟩ := hb.same k13
      refine ⟨_, rfl, s, _, dx, _, _, rfl, k13 _ _ es, T.cl, T.nL, rfl, pb, db, _, rfl, eb, rfl, _, rfl, ?_⟩
      refine ⟨pb, .ref p2, lo, mFree d u z, rfl, ⟨db, eb⟩, .inr ⟨p2, rfl, d2, k3 _ _ e2⟩, sl.mono (by decide), sf, fun H4 k4 => ⟨_, rfl, ?_⟩⟩
      exact fin _ H4 k4 (by rw [hB, Bool.false_or])
theorem scLo : FnScope ["self", "cut", "place", "is_open", "free", "is_flat_above"] ["self", "cut"] (defScope (sMove 14)) := ⟨rfl, rfl, rfl, by decide +kernel, rfl, by decide +kernel, by decide +kernel⟩
theorem ok_lo {f : Addr} {fd : FuncData} (F : FunD K "lower_image" "Move.lower_image" (defArgs (sMove 14)) (defBody (sMove 14)) (defScope (sMove 14)) [] [] f fd) (N : RN P w K mg base) : FnOk P w K mg base CX0 8 f fd ["self", "cut"] (spImg K cLoB) := by
  obtain ⟨fC, fdC, GC, gC, bC, kC⟩ := N.M.L.C.J.rc
  obtain ⟨fB, fdB, mB, GB, bB⟩ := N.M.L.C.J.I.below
  obtain ⟨fF, fdF, mF, GF, bF⟩ := N.free
  obtain ⟨fT, fdT, mT, GT, bT⟩ := N.held
  have TR := N.M.L.C.J.I.R.G.T
  have T := N.M.T
  refine F.ok scLo (fun vs H Q E h => ?_) (fun cdv A outer s H vs Q E hr h => ?_)
  · obtain ⟨s, x, d, u, lo, hi, z, b, rfl, _⟩ := h
    rfl
  · obtain ⟨s, x, d, u, lo, hi, z, b, rfl, hs, hx, su, sz, sl, sh, sd, k⟩ := h
    refine ⟨_, pss_cons (ps_asg (pe_call GC (hr.mono (by decide)) rfl gC kC bC .nil pass0 (pa_cons (pv 1) pa_nil)) (pg_tup (by rfl) (pgs_cons (pg_name (i := 2) scLo.nd rfl (.inl rfl)) (pgs_cons (pg_name (i := 3) scLo.nd rfl (.inl rfl)) pgs_nil))))
      (pss_cons (ps_set (i := 4) scLo.nd rfl (Or.inl rfl) (pe_meth (pv 0) T.cl mF GF (hr.mono (by decide)) bF .nil pass0 (pa_cons (pv 2) pa_nil)))
      (pss_cons (ps_set (i := 5) scLo.nd rfl (Or.inl rfl) (pe_or (pe_meth (pv 4) TR.cl mB GB (hr.mono (by decide)) bB .nil pass0 (pa_cons (pe_fld (pv 0) rfl) pa_nil)) (pe_one (pe_not (pe_meth (pv 4) TR.cl mB GB (hr.mono (by decide)) bB .nil pass0 (pa_cons (pe_fld (pv 0) rfl) pa_nil))))))
      (pss_one (ps_ret (pe_tup (pa_cons (pe_meth (pv 0) T.cl mT GT (hr.mono (by decide)) bT .nil pass0 (pa_cons (pv 4) pa_nil)) (pa_cons (pe_and (pv 3) (pe_one (pe_not (pv 5)))) pa_nil))))))), ?_⟩
    refine ⟨_, rfl, x, z, b, rfl, hx, fun c1 z1 H1 k1 hc1 hz1 => ?_⟩
    refine ⟨c1, _, rfl, SqT.of hc1, rfl, _, _, rfl, _, _, rfl, rfl, ?_⟩
    have hs' := hs
    obtain ⟨d1, le, dx, pa, pb, pc, es, ha, hb, hc⟩ := hs'
    refine ⟨_, rfl, s, dx, _, rfl, k1 _ _ es, rfl, _, rfl, ?_⟩
    refine ⟨s, .ref z1, d, u, lo, hi, z, rfl, hs.same k1, .inr ⟨z1, rfl, hz1⟩, su, sz, sd, fun p2 H2 k2 hp2 => ?_⟩
    have k12 := k1.trans k2
    have sf : Sz 100000 (mFree d u z) := (mFree_sz2 d1 su sz sd).mono (by decide)
    obtain ⟨db, eb⟩ := hb.same k12
    obtain ⟨d2, e2⟩ := hp2
    refine ⟨_, rfl, p2, d2, _, rfl, e2, rfl, _, rfl, s, _, dx, _, _, rfl, k12 _ _ es, T.cl, T.nL, rfl, ?_⟩
    refine ⟨p2, .ref pb, mFree d u z, lo, rfl, ⟨d2, e2⟩, .inr ⟨pb, rfl, db, eb⟩, sf, sl.mono (by decide), fun H3 k3 => ⟨_, rfl, ?_⟩⟩
    have k13 := k12.trans k3
    have fin : ∀ (fl : Bool) (H4 : Hp), Same H3 H4 → fl = (rBelow (mFree d u z) lo || !rBelow (mFree d u z) hi) →
        tTup (tCons (tMeth (aM K) "_held" (spHeld K) [] E (tVar 0) (tCons (tVar 4) tNil)) (tCons (tAndV (tVar 3) (tNotV (tVar 5))) tNil)) [some (.ref s), some x, some (.ref z1), some (.bl b), some (.ref p2), some (.bl fl)] H4 Q := by
      intro fl H4 k4 hf
      have k14 := k13.trans k4
      refine ⟨_, rfl, s, dx, _, rfl, k14 _ _ es, rfl, _, rfl, ?_⟩
      refine ⟨s, p2, d, u, lo, hi, _, rfl, hs.same k14, ⟨d2, k4 _ _ (k3 _ _ e2)⟩, sf, sl.mono (by decide), sh.mono (by decide), fun p5 H5 k5 hp5 => ?_⟩
      have last : ∀ r : Bool, r = cLoB d u lo hi z b → 2 ≤ sizeLine ∧ ∀ t, H5 t = none → Q (.ref t) (upd H5 t (.tup [.ref p5, .bl r])) := by
        rintro r rfl
        refine ⟨by show 2 ≤ sizeLine; decide, fun t ht => ?_⟩
        have up : Same H5 (upd H5 t (.tup [.ref p5, .bl (cLoB d u lo hi z b)])) := fun b o e => by rw [upd_ne (ne_of_none e ht)]; exact e
        exact k t _ ((k14.trans k5).trans up) ⟨p5, upd_same, hp5.same up⟩
      refine ⟨_, rfl, b, rfl, ?_⟩
      cases b with
      | false => exact iteF (last false rfl)
      | true => exact iteT ⟨_, rfl, fl, rfl, last _ (by rw [hf]; rfl)⟩
    cases hB : rBelow (mFree d u z) lo with
    | true =>
      refine iteT ?_
      exact fin true H3 (fun _ _ e => e) (by rw [hB]; rfl)
    | false =>
      refine iteF ?_
      obtain ⟨dc, ec⟩ := hc.same k13
      refine ⟨_, rfl, p2, d2, _, rfl, k3 _ _ e2, rfl, _, rfl, s, _, dx, _, _, rfl, k13 _ _ es, T.cl, T.nH, rfl, ?_⟩
      refine ⟨p2, .ref pc, mFree d u z, hi, rfl, ⟨d2, k3 _ _ e2⟩, .inr ⟨pc, rfl, dc, ec⟩, sf, sh.mono (by decide), fun H4 k4 => ⟨_, rfl, ?_⟩⟩
      exact fin _ H4 k4 (by rw [hB, Bool.false_or])
end
end K18
set_option maxHeartbeats 1000000
/-! == and != of tuples and lists whose items are compared by own methods: which of the two answers is given. -/
namespace PySem
namespace GE
open PySem.SeqAt
open AutoSeq1 (wpAny_loadPart')
open MeetsSeq MeetsSeq2 MeetsSeq3 SeqRoads2
section
variable {prog : Program} {w : World} {A : Around} {R : Result → Shared → Prop}
/-- one pair after the other: es i is what the i-th one gives; F holds at the end -/
def Turns (prog : Program) (w : World) (A : Around) (E : Value → Shared → Prop) (xs ys : Array Value) (es : Nat → Bool) (J : Nat → Shared → Prop) (F : Shared → Prop) : Prop :=
  ∀ i (p : i < xs.size) (q : i < ys.size) (s : Shared), J i s → wpAny (model prog w) A.in1 (eqBool xs[i] ys[i]) (fun r s' => r = es i ∧ F s' ∧ (es i = true → J (i + 1) s')) E s
def allB (m n : Nat) (es : Nat → Bool) (i : Nat) : Bool := ((List.range (min m n)).drop i).all es && m == n
theorem allB_step {m n i : Nat} {es : Nat → Bool} (h : i < min m n) : allB m n es i = (es i && allB m n es (i + 1)) := by
  have e : (List.range (min m n)).drop i = i :: (List.range (min m n)).drop (i + 1) := by simp [List.drop_eq_getElem_cons, h]
  unfold allB
  rw [e, List.all_cons, Bool.and_assoc]
theorem allB_end {m n i : Nat} {es : Nat → Bool} (h : min m n ≤ i) : allB m n es i = (m == n) := by
  unfold allB
  rw [List.drop_of_length_le (by simpa using h), List.all_nil, Bool.true_and]
theorem tup_eqB {l b : Addr} {xs ys : Array Value} {n m : Nat} {dd ee : Option Addr} {sl tl : Array (Option Value)} {J : Nat → Shared → Prop} {F : Shared → Prop} {es : Nat → Bool} (turn : Turns prog w A (fun e s' => R (.error e) s') xs ys es J F) (hJ : ∀ i s, J i s → F s)
    (fin : ∀ s, F s → R (.ok (.ret (.bool (allB xs.size ys.size es 0)))) s) {s : Shared} (hl : s.heap.get? l = some { cls := .type "tuple", dict := dd, data := .seq xs n, slots := sl }) (hb : s.heap.get? b = some { cls := .type "tuple", dict := ee, data := .seq ys m, slots := tl }) (h : J 0 s) :
    wpAny (model prog w) A.in1 (Builtin.«tuple.__eq__» ⟨[.ref l, .ref b], []⟩) (GQ.FinOf prog w A R) (fun e s' => R (.error e) s') s := by
  have f2 := AutoSeq1.sub_tuple_tuple
  have zl : (xs.toList.zip ys.toList).length = min xs.size ys.size := by simp
  have h0 := h
  generalize hk : allB xs.size ys.size es 0 = k at fin
  obtain ⟨hp, g, d, tk, os⟩ := s
  wp_walk using wpAny_loadPart' hl, wpAny_loadPart' hb, wpAny_forIn_list _ (fun rest c s' => c.1 = none ∧ ∃ i, rest = (xs.toList.zip ys.toList).drop i ∧ allB xs.size ys.size es i = k ∧ J i s') _
  case turn =>
    rintro ⟨y, x⟩ rest c s' ⟨hc, i, hz, hi, hJi⟩
    have lt : i < (xs.toList.zip ys.toList).length := by
      apply Nat.lt_of_not_le
      intro z
      rw [List.drop_of_length_le z] at hz
      cases hz
    have lm : i < min xs.size ys.size := zl ▸ lt
    have p : i < xs.size := Nat.lt_of_lt_of_le lm (Nat.min_le_left _ _)
    have q : i < ys.size := Nat.lt_of_lt_of_le lm (Nat.min_le_right _ _)
    rw [List.drop_eq_getElem_cons lt] at hz
    injection hz with e1 e2
    have ey : y = xs[i] := by simpa using congrArg Prod.fst e1
    have ex : x = ys[i] := by simpa using congrArg Prod.snd e1
    subst ey ex
    rw [allB_step lm] at hi
    refine wpAny_bind (wpAny_mono (turn i p q s' hJi) (fun r s2 z => ?_) fun _ _ z => z)
    obtain ⟨rfl, hF, hJ2⟩ := z
    cases he : es i with
    | true =>
      rw [he, Bool.true_and] at hi
      wp_walk
      exact ⟨rfl, i + 1, e2, hi, hJ2 he⟩
    | false =>
      rw [he, Bool.false_and] at hi
      subst hi
      wp_walk
      exact fin _ hF
  case fin =>
    rintro ⟨c1, c2⟩ s' ⟨hc, i, hz, hi, hJi⟩
    simp only at hc
    subst hc
    have ge : min xs.size ys.size ≤ i := by
      rw [← zl]
      apply Nat.le_of_not_lt
      intro z
      rw [List.drop_eq_getElem_cons z] at hz
      cases hz
    rw [allB_end ge] at hi
    subst hi
    wp_walk
    simpa [Builtin.Tuple.tupleCompareSizes] using fin _ (hJ _ _ hJi)
  case h =>
    exact ⟨rfl, 0, rfl, hk, h0⟩
theorem tup_neB {l b : Addr} {xs ys : Array Value} {n m : Nat} {dd ee : Option Addr} {sl tl : Array (Option Value)} {J : Nat → Shared → Prop} {F : Shared → Prop} {es : Nat → Bool} (turn : Turns prog w A (fun e s' => R (.error e) s') xs ys es J F) (hJ : ∀ i s, J i s → F s)
    (fin : ∀ s, F s → R (.ok (.ret (.bool !(allB xs.size ys.size es 0)))) s) {s : Shared} (hl : s.heap.get? l = some { cls := .type "tuple", dict := dd, data := .seq xs n, slots := sl }) (hb : s.heap.get? b = some { cls := .type "tuple", dict := ee, data := .seq ys m, slots := tl }) (h : J 0 s) :
    wpAny (model prog w) A.in1 (Builtin.«tuple.__ne__» ⟨[.ref l, .ref b], []⟩) (GQ.FinOf prog w A R) (fun e s' => R (.error e) s') s := by
  have f2 := AutoSeq1.sub_tuple_tuple
  have zl : (xs.toList.zip ys.toList).length = min xs.size ys.size := by simp
  have h0 := h
  generalize hk : allB xs.size ys.size es 0 = k at fin
  obtain ⟨hp, g, d, tk, os⟩ := s
  wp_walk using wpAny_loadPart' hl, wpAny_loadPart' hb, wpAny_forIn_list _ (fun rest c s' => c.1 = none ∧ ∃ i, rest = (xs.toList.zip ys.toList).drop i ∧ allB xs.size ys.size es i = k ∧ J i s') _
  case turn =>
    rintro ⟨y, x⟩ rest c s' ⟨hc, i, hz, hi, hJi⟩
    have lt : i < (xs.toList.zip ys.toList).length := by
      apply Nat.lt_of_not_le
      intro z
      rw [List.drop_of_length_le z] at hz
      cases hz
    have lm : i < min xs.size ys.size := zl ▸ lt
    have p : i < xs.size := Nat.lt_of_lt_of_le lm (Nat.min_le_left _ _)
    have q : i < ys.size := Nat.lt_of_lt_of_le lm (Nat.min_le_right _ _)
    rw [List.drop_eq_getElem_cons lt] at hz
    injection hz with e1 e2
    have ey : y = xs[i] := by simpa using congrArg Prod.fst e1
    have ex : x = ys[i] := by simpa using congrArg Prod.snd e1
    subst ey ex
    rw [allB_step lm] at hi
    refine wpAny_bind (wpAny_mono (turn i p q s' hJi) (fun r s2 z => ?_) fun _ _ z => z)
    obtain ⟨rfl, hF, hJ2⟩ := z
    cases he : es i with
    | true =>
      rw [he, Bool.true_and] at hi
      wp_walk
      exact ⟨rfl, i + 1, e2, hi, hJ2 he⟩
    | false =>
      rw [he, Bool.false_and] at hi
      subst hi
      wp_walk
      exact fin _ hF
  case fin =>
    rintro ⟨c1, c2⟩ s' ⟨hc, i, hz, hi, hJi⟩
    simp only at hc
    subst hc
    have ge : min xs.size ys.size ≤ i := by
      rw [← zl]
      apply Nat.le_of_not_lt
      intro z
      rw [List.drop_eq_getElem_cons z] at hz
      cases hz
    rw [allB_end ge] at hi
    subst hi
    wp_walk
    simpa [Builtin.Tuple.tupleCompareSizes, bne] using fin _ (hJ _ _ hJi)
  case h =>
    exact ⟨rfl, 0, rfl, hk, h0⟩
/-- the two lists are read anew at each turn -/
def LTurns (prog : Program) (w : World) (A : Around) (E : Value → Shared → Prop) (l b : Addr) (N : Nat) (es : Nat → Bool) (J : Nat → Shared → Prop) (F : Shared → Prop) : Prop :=
  ∀ i (s : Shared), J i s → ∃ (xs ys : Array Value) (n m : Nat), s.heap.get? l = some { cls := .type "list", data := .seq xs n } ∧ s.heap.get? b = some { cls := .type "list", data := .seq ys m } ∧ xs.size = N ∧ ys.size = N ∧
    ∀ (p : i < xs.size) (q : i < ys.size), wpAny (model prog w) A.in1 (eqBool xs[i] ys[i]) (fun r s' => r = es i ∧ F s' ∧ (es i = true → J (i + 1) s')) E s
/-- both can be read -/
def LRead (l b : Addr) (N : Nat) (F : Shared → Prop) : Prop := ∀ s : Shared, F s → ∃ (xs ys : Array Value) (n m : Nat), s.heap.get? l = some { cls := .type "list", data := .seq xs n } ∧ s.heap.get? b = some { cls := .type "list", data := .seq ys m } ∧ xs.size = N ∧ ys.size = N
theorem lst_loopeqB {l b : Addr} {N : Nat} {J : Nat → Shared → Prop} {F : Shared → Prop} {es : Nat → Bool} {k : Bool} (turn : LTurns prog w A (fun e s' => R (.error e) s') l b N es J F) (rd : LRead l b N F) (hJF : ∀ i s, J i s → F s) (fin : ∀ s, F s → R (.ok (.ret (.bool k))) s) (c : Nat) :
    ∀ i : Nat, N - i = c → i ≤ N → allB N N es i = k → ∀ s, J i s → wpAny (model prog w) A.in1 (Builtin.«list.__eq__.loop» ⟨[.ref l, .ref b, rawInt i, rawInt 2], []⟩) (GQ.FinOf prog w A R) (fun e s' => R (.error e) s') s := by
  induction c with
  | zero =>
    intro i hc hi hk s hJ
    obtain ⟨xs, ys, n, m, hl, hb, s1, s2, _⟩ := turn i s hJ
    have last : i = N := by omega
    have hq := fin s (hJF _ _ hJ)
    rw [allB_end (by omega)] at hk
    subst hk
    obtain ⟨hp, g, d, tk, os⟩ := s
    wp_walk using wpAny_loadPart' hl, wpAny_loadPart' hb
    have o1 : xs[((i : Nat) : Int).toNat]? = none := by simp; omega
    have o2 : ys[((i : Nat) : Int).toNat]? = none := by simp; omega
    rw [o1, o2]
    wp_walk using wpAny_loadPart' hl, wpAny_loadPart' hb
    show R (.ok (.ret (.bool (xs.size == ys.size)))) _
    rw [s1, s2]
    simpa using hq
  | succ c ih =>
    intro i hc hi hk s hJ
    obtain ⟨xs, ys, n, m, hl, hb, s1, s2, one⟩ := turn i s hJ
    have p : i < xs.size := by omega
    have q : i < ys.size := by omega
    have ht := one p q
    rw [allB_step (by omega)] at hk
    obtain ⟨hp, g, d, tk, os⟩ := s
    wp_walk using wpAny_loadPart' hl, wpAny_loadPart' hb
    have o1 : xs[((i : Nat) : Int).toNat]? = some xs[i] := by simp [p]
    have o2 : ys[((i : Nat) : Int).toNat]? = some ys[i] := by simp [q]
    have nx : ((i : Int) + 1) = ((i + 1 : Nat) : Int) := by omega
    rw [o1, o2]
    refine wpAny_bind (wpAny_mono ht (fun r s2 z => ?_) fun _ _ z => z)
    obtain ⟨rfl, hF, hJ2⟩ := z
    cases he : es i with
    | true =>
      rw [he, Bool.true_and] at hk
      have more := ih (i + 1) (by omega) (by omega) hk s2 (hJ2 he)
      obtain ⟨hp2, g2, d2, tk2, os2⟩ := s2
      wp_walk
      rw [nx]
      refine ⟨plainId_quiet plain_eq_loop _, codeAny_builtin entry_eq_loop ?_⟩
      rw [Around.under_plainId plain_eq_loop _]
      exact more
    | false =>
      rw [he, Bool.false_and] at hk
      subst hk
      obtain ⟨xs2, ys2, n2, m2, hl2, hb2, t1, t2⟩ := rd s2 hF
      have hq := fin s2 hF
      obtain ⟨hp2, g2, d2, tk2, os2⟩ := s2
      wp_walk using wpAny_loadPart' hl2, wpAny_loadPart' hb2
      have u1 : xs2[((i : Nat) : Int).toNat]? = some (xs2[i]'(by omega)) := by simp
      have u2 : ys2[((i : Nat) : Int).toNat]? = some (ys2[i]'(by omega)) := by simp
      rw [u1, u2]
      wp_walk
      exact hq
theorem lst_eqB {l b : Addr} {N : Nat} {J : Nat → Shared → Prop} {F : Shared → Prop} {es : Nat → Bool} {k : Bool} (turn : LTurns prog w A (fun e s' => R (.error e) s') l b N es J F) (rd : LRead l b N F) (hJF : ∀ i s, J i s → F s) (fin : ∀ s, F s → R (.ok (.ret (.bool k))) s) (hk : allB N N es 0 = k) {s : Shared} (h : J 0 s) :
    wpAny (model prog w) A.in1 (Builtin.«list.__eq__» ⟨[.ref l, .ref b], []⟩) (GQ.FinOf prog w A R) (fun e s' => R (.error e) s') s := by
  obtain ⟨xs, ys, n, m, hl, hb, s1, s2, _⟩ := turn 0 s h
  have more := lst_loopeqB (A := A) turn rd hJF fin _ 0 rfl (Nat.zero_le _) hk s h
  obtain ⟨hp, g, d, tk, os⟩ := s
  have f3 := AutoSeq1.sub_list_list
  have same : ¬ (xs.size != ys.size) = true := by simp [s1, s2]
  wp_walk using wpAny_loadPart' hl, wpAny_loadPart' hb
  refine ⟨plainId_quiet plain_eq_loop _, codeAny_builtin entry_eq_loop ?_⟩
  rw [Around.under_plainId plain_eq_loop _]
  exact more
theorem lst_loopneB {l b : Addr} {N : Nat} {J : Nat → Shared → Prop} {F : Shared → Prop} {es : Nat → Bool} {k : Bool} (turn : LTurns prog w A (fun e s' => R (.error e) s') l b N es J F) (rd : LRead l b N F) (hJF : ∀ i s, J i s → F s) (fin : ∀ s, F s → R (.ok (.ret (.bool !k))) s) (c : Nat) :
    ∀ i : Nat, N - i = c → i ≤ N → allB N N es i = k → ∀ s, J i s → wpAny (model prog w) A.in1 (Builtin.«list.__eq__.loop» ⟨[.ref l, .ref b, rawInt i, rawInt 3], []⟩) (GQ.FinOf prog w A R) (fun e s' => R (.error e) s') s := by
  induction c with
  | zero =>
    intro i hc hi hk s hJ
    obtain ⟨xs, ys, n, m, hl, hb, s1, s2, _⟩ := turn i s hJ
    have last : i = N := by omega
    have hq := fin s (hJF _ _ hJ)
    rw [allB_end (by omega)] at hk
    subst hk
    obtain ⟨hp, g, d, tk, os⟩ := s
    wp_walk using wpAny_loadPart' hl, wpAny_loadPart' hb
    have o1 : xs[((i : Nat) : Int).toNat]? = none := by simp; omega
    have o2 : ys[((i : Nat) : Int).toNat]? = none := by simp; omega
    rw [o1, o2]
    wp_walk using wpAny_loadPart' hl, wpAny_loadPart' hb
    show R (.ok (.ret (.bool (xs.size != ys.size)))) _
    rw [s1, s2]
    simpa using hq
  | succ c ih =>
    intro i hc hi hk s hJ
    obtain ⟨xs, ys, n, m, hl, hb, s1, s2, one⟩ := turn i s hJ
    have p : i < xs.size := by omega
    have q : i < ys.size := by omega
    have ht := one p q
    rw [allB_step (by omega)] at hk
    obtain ⟨hp, g, d, tk, os⟩ := s
    wp_walk using wpAny_loadPart' hl, wpAny_loadPart' hb
    have o1 : xs[((i : Nat) : Int).toNat]? = some xs[i] := by simp [p]
    have o2 : ys[((i : Nat) : Int).toNat]? = some ys[i] := by simp [q]
    have nx : ((i : Int) + 1) = ((i + 1 : Nat) : Int) := by omega
    rw [o1, o2]
    refine wpAny_bind (wpAny_mono ht (fun r s2 z => ?_) fun _ _ z => z)
    obtain ⟨rfl, hF, hJ2⟩ := z
    cases he : es i with
    | true =>
      rw [he, Bool.true_and] at hk
      have more := ih (i + 1) (by omega) (by omega) hk s2 (hJ2 he)
      obtain ⟨hp2, g2, d2, tk2, os2⟩ := s2
      wp_walk
      rw [nx]
      refine ⟨plainId_quiet plain_eq_loop _, codeAny_builtin entry_eq_loop ?_⟩
      rw [Around.under_plainId plain_eq_loop _]
      exact more
    | false =>
      rw [he, Bool.false_and] at hk
      subst hk
      obtain ⟨xs2, ys2, n2, m2, hl2, hb2, t1, t2⟩ := rd s2 hF
      have hq := fin s2 hF
      obtain ⟨hp2, g2, d2, tk2, os2⟩ := s2
      wp_walk using wpAny_loadPart' hl2, wpAny_loadPart' hb2
      have u1 : xs2[((i : Nat) : Int).toNat]? = some (xs2[i]'(by omega)) := by simp
      have u2 : ys2[((i : Nat) : Int).toNat]? = some (ys2[i]'(by omega)) := by simp
      rw [u1, u2]
      wp_walk
      exact hq
theorem lst_neB {l b : Addr} {N : Nat} {J : Nat → Shared → Prop} {F : Shared → Prop} {es : Nat → Bool} {k : Bool} (turn : LTurns prog w A (fun e s' => R (.error e) s') l b N es J F) (rd : LRead l b N F) (hJF : ∀ i s, J i s → F s) (fin : ∀ s, F s → R (.ok (.ret (.bool !k))) s) (hk : allB N N es 0 = k) {s : Shared} (h : J 0 s) :
    wpAny (model prog w) A.in1 (Builtin.«list.__ne__» ⟨[.ref l, .ref b], []⟩) (GQ.FinOf prog w A R) (fun e s' => R (.error e) s') s := by
  obtain ⟨xs, ys, n, m, hl, hb, s1, s2, _⟩ := turn 0 s h
  have more := lst_loopneB (A := A) turn rd hJF fin _ 0 rfl (Nat.zero_le _) hk s h
  obtain ⟨hp, g, d, tk, os⟩ := s
  have f3 := AutoSeq1.sub_list_list
  have same : ¬ (xs.size != ys.size) = true := by simp [s1, s2]
  wp_walk using wpAny_loadPart' hl, wpAny_loadPart' hb
  refine ⟨plainId_quiet plain_eq_loop _, codeAny_builtin entry_eq_loop ?_⟩
  rw [Around.under_plainId plain_eq_loop _]
  exact more
end
end GE
end PySem
set_option maxHeartbeats 1000000
/-! == and != of tuples and lists of own instances, as rules: which answer is given. -/
namespace GL
open PySem PySem.Spec PyProof.Rows L2
abbrev DB : Type := V → V → Bool → Hp → Prop
def MonB (D : DB) : Prop := ∀ x y b H H', Same H H' → D x y b H → D x y b H'
/-- == inside a builtin gives what D says -/
def EqB (X : Cx) (n : Nat) (D : DB) : Prop :=
  ∀ (A : Around) (pins : List (Addr × Obj)) (s : Shared) (σ : L2.St) (H : Hp) (x y : V) (u v : Value) (b : Bool), Sub X n A → Inv X pins σ H s → L2.RelV x u → L2.RelV y v → D x y b H →
    wpAny (model X.prog X.w) A (eqBool u v) (fun r s' => r = b ∧ ∃ H', Inv X pins σ H' s' ∧ Same H H') X.xe s
/-- == (op = .Eq), != (op = .NotEq) as comparisons; g: what is made of D's word -/
def RcB (X : Cx) (n : Nat) (op : CmpOp) (g : Bool → Bool) (D : DB) : Prop :=
  ∀ (A : Around) (pins : List (Addr × Obj)) (s : Shared) (σ : L2.St) (H : Hp) (x y : V) (u v : Value) (b : Bool), Sub X n A → Inv X pins σ H s → L2.RelV x u → L2.RelV y v → D x y b H →
    wpAny (model X.prog X.w) A (richCompare op u v) (fun r s' => r = .bool (g b) ∧ ∃ H', Inv X pins σ H' s' ∧ Same H H') X.xe s
section
variable {X : Cx} {n m : Nat} {D D' : DB}
theorem EqB.mono (h : EqB X n D) (l : n ≤ m) : EqB X m D := fun A pins s σ H x y u v b sb => h A pins s σ H x y u v b (sb.mono l)
theorem EqB.or (h : EqB X n D) (h' : EqB X n D') : EqB X n (fun x y b H => D x y b H ∨ D' x y b H) := by
  intro A pins s σ H x y u v b sb I rx ry d
  rcases d with d | d
  · exact h A pins s σ H x y u v b sb I rx ry d
  · exact h' A pins s σ H x y u v b sb I rx ry d
theorem MonB.or (h : MonB D) (h' : MonB D') : MonB (fun x y b H => D x y b H ∨ D' x y b H) := fun x y b H H' k d => d.imp (h x y b H H' k) (h' x y b H H' k)
/-- flat things -/
def FlatB : DB := fun x y b _ => flatV x = true ∧ flatV y = true ∧ b = eqV x y
theorem monB_flat : MonB FlatB := fun _ _ _ _ _ _ d => d
theorem eqB_flat : EqB X 0 FlatB := by
  intro A pins s σ H x y u v b sb I rx ry d
  obtain ⟨fx, fy, rfl⟩ := d
  exact eqAt_V (A := A) (s := s) rx ry fx fy X.prog X.w X.xe _ ⟨rfl, H, I, fun _ _ e => e⟩
/-- the same thing is equal to itself -/
theorem RcB.eqB (h : RcB X n .Eq id D) (hr : ∀ x y b H, D x y b H → ∃ a c, x = .ref a ∧ y = .ref c ∧ (a = c → b = true)) : EqB X n D := by
  intro A pins s σ H x y u v b sb I rx ry d
  obtain ⟨a, c, rfl, rfl, same⟩ := hr _ _ _ _ d
  cases (show u = Value.ref a from rx)
  cases (show v = Value.ref c from ry)
  by_cases e : a = c
  · cases e
    rw [same rfl]
    exact SeqAt.EqAt.same (A := A) (s := s) (.ref a) X.prog X.w X.xe _ ⟨rfl, H, I, fun _ _ e => e⟩
  · refine GQ.eqBool_refG e (wpAny_mono (h A pins s σ H (V.ref a) (V.ref c) _ _ b sb I rfl rfl d) (fun r s' z => ?_) fun _ _ z => z)
    obtain ⟨rfl, z⟩ := z
    exact ⟨b, rfl, rfl, z⟩
/-- two instances of one class, by its own __eq__ -/
def InsB (C : Addr) (sp : Sp) (E : XK) : DB := fun x y b H => ∃ a c dx dy fs gs, x = .ref a ∧ y = .ref c ∧ H a = some (.ins C dx fs) ∧ H c = some (.ins C dy gs) ∧ (a = c → b = true) ∧ sp [x, y] H (fun v H' => v = .bl b ∧ Same H H') E
theorem rcB_ins {CX : CXT} {C f : Addr} {sp : Sp} {E : XK} (B : GL.OwnEq X.K C f) (F : FnR X.prog X.w X.K X.mg X.base CX n f sp) (hx : Passes CX X E) : RcB X n .Eq id (InsB C sp E) := by
  intro A pins s σ H x y u v b sb I rx ry d
  obtain ⟨a, c, dx, dy, fs, gs, rfl, rfl, ha, hc, _, q⟩ := d
  cases (show u = Value.ref a from rx)
  cases (show v = Value.ref c from ry)
  obtain ⟨ox, od, J⟩ := inst_of I ha
  obtain ⟨oy, oe, J'⟩ := inst_of I hc
  have e0 : Env0 X.prog X.w X.K X.mg X.base A X.stack s H := by
    have e := I.env0
    exact { e with frames := sb.fr.trans e.frames }
  have run := F A X.stack s H [.ref a, .ref c] [.ref a, .ref c] _ E sb.room e0 (Paired.cons (a := V.ref a) (b := Value.ref a) rfl (Paired.cons (a := V.ref c) (b := Value.ref c) rfl .nil)) q
  have z : wpAny (model X.prog X.w) A (PySem.call (.ref f) [.ref a, .ref c]) (PySem.W.CmpBack fun r s' => r = .bool b ∧ ∃ H', Inv X pins σ H' s' ∧ Same H H') X.xe s := by
    refine wpAny_call (codeAny_mono run fun r s' z => ?_)
    match r, z with
    | .error er, z => exact hx pins σ H s er s' I z
    | .ok .next, z => exact False.elim z
    | .ok .brk, z => exact False.elim z
    | .ok .cont, z => exact False.elim z
    | .ok (.ret w), z =>
      obtain ⟨z1, H', I', rz, rfl, k⟩ := I.after z
      cases (show w = Value.bool b from rz)
      exact ⟨rfl, H', I', k⟩
  rcases s with ⟨hp, g, dd, tk, os⟩
  have e : PySem.W.findIn X.K (.ref C) (cmpInfo .Eq).2.1 = some (some (.ref f)) := B.m.at_
  exact PySem.GO.cmp_any (op := .Eq) (.inl rfl) sb.room.units0 I.kIn J J'.type (by simp [PySem.W.notFirst]) e (PySem.W.bind_fn I.kIn _ (isFn_ty B.m.fn)) z
theorem eqB_ins {CX : CXT} {C f : Addr} {sp : Sp} {E : XK} (B : GL.OwnEq X.K C f) (F : FnR X.prog X.w X.K X.mg X.base CX n f sp) (hx : Passes CX X E) : EqB X n (InsB C sp E) :=
  (rcB_ins B F hx).eqB fun x y b H d => by
    obtain ⟨a, c, dx, dy, fs, gs, e1, e2, _, _, same, _⟩ := d
    exact ⟨a, c, e1, e2, same⟩

/-! ### item by item -/
def ItemsB (D : DB) (xs ys : List V) (es : Nat → Bool) (H : Hp) : Prop := ∀ (i : Nat) x y, (∀ j, j < i → es j = true) → xs[i]? = some x → ys[i]? = some y → D x y (es i) H
/-- as far as the items ahead were equal -/
def LoopB (X : Cx) (pins : List (Addr × Obj)) (σ : L2.St) (H : Hp) (es : Nat → Bool) (i : Nat) (s' : Shared) : Prop := LoopI X pins σ H s' ∧ ∀ j, j < i → es j = true
theorem ItemsB.same (hD : MonB D) {xs ys : List V} {es : Nat → Bool} {H H' : Hp} (k : Same H H') (p : ItemsB D xs ys es H) : ItemsB D xs ys es H' := fun i x y h0 h1 h2 => hD _ _ _ _ _ k (p i x y h0 h1 h2)
theorem one_turn (hD : MonB D) (h : EqB X n D) {A : Around} (sb : Sub X (n + 1) A) {pins : List (Addr × Obj)} {σ : L2.St} {H : Hp} {xs ys : List V} {es : Nat → Bool} {us vs : List Value} (p : ItemsB D xs ys es H) (r : Vals xs us) (r2 : Vals ys vs)
    (i : Nat) (h1 : i < us.toArray.size) (h2 : i < vs.toArray.size) (s' : Shared) (l : LoopB X pins σ H es i s') :
    wpAny (model X.prog X.w) A.in1 (eqBool us.toArray[i] vs.toArray[i]) (fun r s2 => r = es i ∧ LoopI X pins σ H s2 ∧ (es i = true → LoopB X pins σ H es (i + 1) s2)) X.xe s' := by
  obtain ⟨⟨H1, I1, k1⟩, ahead⟩ := l
  have l1 : i < us.length := by simpa using h1
  have l2 : i < vs.length := by simpa using h2
  have m1 : i < xs.length := by rw [r.length]; exact l1
  have m2 : i < ys.length := by rw [r2.length]; exact l2
  obtain ⟨u, hu, ru⟩ := r.get (List.getElem?_eq_getElem m1)
  obtain ⟨v, hv, rv⟩ := r2.get (List.getElem?_eq_getElem m2)
  have eu : us.toArray[i] = u := by
    rw [List.getElem?_eq_getElem l1] at hu
    simpa using Option.some.inj hu
  have ev : vs.toArray[i] = v := by
    rw [List.getElem?_eq_getElem l2] at hv
    simpa using Option.some.inj hv
  rw [eu, ev]
  refine wpAny_mono (h A.in1 pins s' σ H1 _ _ u v _ sb.in1 I1 ru rv (hD _ _ _ _ _ k1 (p i _ _ ahead (List.getElem?_eq_getElem m1) (List.getElem?_eq_getElem m2)))) (fun r s2 z => ?_) fun _ _ z => z
  obtain ⟨rfl, H2, I2, k2⟩ := z
  refine ⟨rfl, ⟨H2, I2, k1.trans k2⟩, fun e => ⟨⟨H2, I2, k1.trans k2⟩, fun j hj => ?_⟩⟩
  by_cases q : j = i
  · rw [q]
    exact e
  · exact ahead j (by omega)
def TupB (K : PySem.W.Frag) (D : DB) : DB := fun x y b H => ∃ a c xs ys es, x = .ref a ∧ y = .ref c ∧ SqT K H a xs ∧ SqT K H c ys ∧ ItemsB D xs ys es H ∧ b = PySem.GE.allB xs.length ys.length es 0
theorem rcB_tup (hD : MonB D) (h : EqB X n D) : RcB X (n + 1) .Eq id (TupB X.K D) := by
  intro A pins s σ H x y u v b sb I rx ry d
  obtain ⟨a, c, xs, ys, es, rfl, rfl, ha, hc, p, rfl⟩ := d
  cases (show u = Value.ref a from rx)
  cases (show v = Value.ref c from ry)
  obtain ⟨us, r, e, z⟩ := I.tuple ha
  obtain ⟨vs, r2, e2, z2⟩ := I.tuple hc
  have s1 : us.toArray.size = xs.length := by rw [List.size_toArray, ← r.length]
  have s2 : vs.toArray.size = ys.length := by rw [List.size_toArray, ← r2.length]
  obtain ⟨⟨cls, dd, data, sl⟩, ho, hc1, k1, hd1⟩ := id e
  obtain ⟨⟨cls2, dd2, data2, sl2⟩, ho2, hc2, k2, hd2⟩ := id e2
  dsimp only at hc1 hd1 hc2 hd2
  subst hc1 hd1 hc2 hd2
  refine wpAny_richCompare_same_room (op := .Eq) ⟨_, ho, rfl⟩ ⟨_, ho2, rfl⟩ F.slot_tuple_eq (GQ.call_here F.slot_tuple_eq ⟨_, ho, rfl⟩ F.entry_tuple_eq (F.args_tuple_eq_2 _ _) ?_) sb.room.units0
  refine PySem.GE.tup_eqB (es := es) (J := LoopB X pins σ H es) (F := LoopI X pins σ H) (fun i h1 h2 s' q => one_turn hD h sb p r r2 i h1 h2 s' q) (fun _ _ q => q.1) (fun s' q => ⟨(fun z => nomatch z), ?_⟩) ho ho2 ⟨⟨H, I, fun _ _ e => e⟩, fun j hj => absurd hj (Nat.not_lt_zero _)⟩
  rw [s1, s2]
  exact ⟨rfl, q⟩
theorem rcN_tup (hD : MonB D) (h : EqB X n D) : RcB X (n + 1) .NotEq not (TupB X.K D) := by
  intro A pins s σ H x y u v b sb I rx ry d
  obtain ⟨a, c, xs, ys, es, rfl, rfl, ha, hc, p, rfl⟩ := d
  cases (show u = Value.ref a from rx)
  cases (show v = Value.ref c from ry)
  obtain ⟨us, r, e, z⟩ := I.tuple ha
  obtain ⟨vs, r2, e2, z2⟩ := I.tuple hc
  have s1 : us.toArray.size = xs.length := by rw [List.size_toArray, ← r.length]
  have s2 : vs.toArray.size = ys.length := by rw [List.size_toArray, ← r2.length]
  obtain ⟨⟨cls, dd, data, sl⟩, ho, hc1, k1, hd1⟩ := id e
  obtain ⟨⟨cls2, dd2, data2, sl2⟩, ho2, hc2, k2, hd2⟩ := id e2
  dsimp only at hc1 hd1 hc2 hd2
  subst hc1 hd1 hc2 hd2
  refine wpAny_richCompare_same_room (op := .NotEq) ⟨_, ho, rfl⟩ ⟨_, ho2, rfl⟩ F.slot_tuple_ne (GQ.call_here F.slot_tuple_ne ⟨_, ho, rfl⟩ F.entry_tuple_ne (F.args_tuple_ne_2 _ _) ?_) sb.room.units0
  refine PySem.GE.tup_neB (es := es) (J := LoopB X pins σ H es) (F := LoopI X pins σ H) (fun i h1 h2 s' q => one_turn hD h sb p r r2 i h1 h2 s' q) (fun _ _ q => q.1) (fun s' q => ⟨(fun z => nomatch z), ?_⟩) ho ho2 ⟨⟨H, I, fun _ _ e => e⟩, fun j hj => absurd hj (Nat.not_lt_zero _)⟩
  rw [s1, s2]
  exact ⟨rfl, q⟩
/-- tuples in tuples -/
def TupS (K : PySem.W.Frag) (D : DB) : DB := fun x y b H => TupB K D x y b H ∧ (x = y → b = true)
theorem eqB_tup (hD : MonB D) (h : EqB X n D) : EqB X (n + 1) (TupS X.K D) := by
  have r : RcB X (n + 1) .Eq id (TupS X.K D) := fun A pins s σ H x y u v b sb I rx ry d => rcB_tup hD h A pins s σ H x y u v b sb I rx ry d.1
  refine r.eqB fun x y b H d => ?_
  obtain ⟨⟨a, c, xs, ys, es, rfl, rfl, _⟩, same⟩ := d
  exact ⟨a, c, rfl, rfl, fun e => same (by rw [e])⟩
theorem monB_tup {K : PySem.W.Frag} (hD : MonB D) : MonB (TupB K D) := by
  intro x y b H H' k d
  obtain ⟨a, c, xs, ys, es, e1, e2, ha, hc, p, e⟩ := d
  exact ⟨a, c, xs, ys, es, e1, e2, ha.ext k, hc.ext k, p.same hD k, e⟩
theorem monB_tupS {K : PySem.W.Frag} (hD : MonB D) : MonB (TupS K D) := fun x y b H H' k d => ⟨monB_tup hD x y b H H' k d.1, d.2⟩
/-- lists of one length, tracked -/
def LstB (D : DB) : DB := fun x y b H => ∃ a c xs ys es, x = .ref a ∧ y = .ref c ∧ H a = some (.lst xs) ∧ H c = some (.lst ys) ∧ xs.length = ys.length ∧ ItemsB D xs ys es H ∧ b = PySem.GE.allB xs.length xs.length es 0
theorem lst_turns (hD : MonB D) (h : EqB X n D) {A : Around} (sb : Sub X (n + 1) A) {pins : List (Addr × Obj)} {σ : L2.St} {H : Hp} {a c : Addr} {xs ys : List V} {es : Nat → Bool} (ha : H a = some (.lst xs)) (hc : H c = some (.lst ys)) (hl : xs.length = ys.length) (p : ItemsB D xs ys es H) :
    PySem.GE.LTurns X.prog X.w A X.xe a c xs.length es (LoopB X pins σ H es) (LoopI X pins σ H) := by
  intro i s' q
  obtain ⟨⟨H1, I1, k1⟩, _⟩ := id q
  obtain ⟨z, us, k, r, e⟩ := I1.hok a _ (k1 _ _ ha)
  obtain ⟨z2, vs, k2, r2, e2⟩ := I1.hok c _ (k1 _ _ hc)
  refine ⟨us.toArray, vs.toArray, k, k2, e, e2, ?_, ?_, fun h1 h2 => one_turn hD h sb p r r2 i h1 h2 s' q⟩
  · rw [List.size_toArray, ← r.length]
  · rw [List.size_toArray, ← r2.length, hl]
theorem lst_read {pins : List (Addr × Obj)} {σ : L2.St} {H : Hp} {a c : Addr} {xs ys : List V} (ha : H a = some (.lst xs)) (hc : H c = some (.lst ys)) (hl : xs.length = ys.length) : PySem.GE.LRead a c xs.length (LoopI X pins σ H) := by
  intro s' q
  obtain ⟨H1, I1, k1⟩ := q
  obtain ⟨z, us, k, r, e⟩ := I1.hok a _ (k1 _ _ ha)
  obtain ⟨z2, vs, k2, r2, e2⟩ := I1.hok c _ (k1 _ _ hc)
  refine ⟨us.toArray, vs.toArray, k, k2, e, e2, ?_, ?_⟩
  · rw [List.size_toArray, ← r.length]
  · rw [List.size_toArray, ← r2.length, hl]
theorem rcB_lst (hD : MonB D) (h : EqB X n D) : RcB X (n + 1) .Eq id (LstB D) := by
  intro A pins s σ H x y u v b sb I rx ry d
  obtain ⟨a, c, xs, ys, es, rfl, rfl, ha, hc, hl, p, rfl⟩ := d
  cases (show u = Value.ref a from rx)
  cases (show v = Value.ref c from ry)
  obtain ⟨z, us, k, r, e⟩ := I.hok a _ ha
  obtain ⟨z2, vs, k2, r2, e2⟩ := I.hok c _ hc
  refine wpAny_richCompare_same_room (op := .Eq) ⟨_, e, rfl⟩ ⟨_, e2, rfl⟩ F.slot_list_eq (GQ.call_here F.slot_list_eq ⟨_, e, rfl⟩ F.entry_list_eq (F.args_list_eq_2 _ _) ?_) sb.room.units0
  exact PySem.GE.lst_eqB (lst_turns hD h sb ha hc hl p) (lst_read ha hc hl) (fun _ _ q => q.1) (fun s' q => ⟨(fun z => nomatch z), rfl, q⟩) rfl ⟨⟨H, I, fun _ _ e => e⟩, fun j hj => absurd hj (Nat.not_lt_zero _)⟩
theorem rcN_lst (hD : MonB D) (h : EqB X n D) : RcB X (n + 1) .NotEq not (LstB D) := by
  intro A pins s σ H x y u v b sb I rx ry d
  obtain ⟨a, c, xs, ys, es, rfl, rfl, ha, hc, hl, p, rfl⟩ := d
  cases (show u = Value.ref a from rx)
  cases (show v = Value.ref c from ry)
  obtain ⟨z, us, k, r, e⟩ := I.hok a _ ha
  obtain ⟨z2, vs, k2, r2, e2⟩ := I.hok c _ hc
  refine wpAny_richCompare_same_room (op := .NotEq) ⟨_, e, rfl⟩ ⟨_, e2, rfl⟩ F.slot_list_ne (GQ.call_here F.slot_list_ne ⟨_, e, rfl⟩ F.entry_list_ne (F.args_list_ne_2 _ _) ?_) sb.room.units0
  exact PySem.GE.lst_neB (lst_turns hD h sb ha hc hl p) (lst_read ha hc hl) (fun _ _ q => q.1) (fun s' q => ⟨(fun z => nomatch z), rfl, q⟩) rfl ⟨⟨H, I, fun _ _ e => e⟩, fun j hj => absurd hj (Nat.not_lt_zero _)⟩
/-! ### as operators -/
def rCmpB (g : Bool → Bool) (D : DB) : R2 := fun x y H Q => ∃ b, D x y b H ∧ ∀ H', Same H H' → Q (.bl (g b)) H'
theorem op_rc {op : CmpOp} {g : Bool → Bool} (hc : ∀ u v : Value, compareOp op u v = richCompare op u v) (h : RcB X n op g D) (hr : Room n X.A) : OpR X (compareOp op) (rCmpB g D) := by
  intro pins s σ H x y v u Q I rx ry hq
  obtain ⟨b, d, q⟩ := hq
  rw [hc]
  refine wpAny_mono (h X.A pins s σ H x y v u b ⟨hr, rfl⟩ I rx ry d) (fun r s' z => ?_) fun _ _ z => z
  obtain ⟨rfl, H', I', k⟩ := z
  exact ⟨.bl (g b), H', I', rfl, q H' k⟩
theorem op_eqT (hD : MonB D) (h : EqB X n D) (hr : Room (n + 1) X.A) : OpR X (compareOp .Eq) (rCmpB id (TupB X.K D)) := op_rc (fun _ _ => rfl) (rcB_tup hD h) hr
theorem op_neT (hD : MonB D) (h : EqB X n D) (hr : Room (n + 1) X.A) : OpR X (compareOp .NotEq) (rCmpB not (TupB X.K D)) := op_rc (fun _ _ => rfl) (rcN_tup hD h) hr
theorem op_eqL (hD : MonB D) (h : EqB X n D) (hr : Room (n + 1) X.A) : OpR X (compareOp .Eq) (rCmpB id (LstB D)) := op_rc (fun _ _ => rfl) (rcB_lst hD h) hr
theorem op_neL (hD : MonB D) (h : EqB X n D) (hr : Room (n + 1) X.A) : OpR X (compareOp .NotEq) (rCmpB not (LstB D)) := op_rc (fun _ _ => rfl) (rcN_lst hD h) hr
end
end GL
set_option maxHeartbeats 4000000
namespace K18
open PySem PySem.Spec PyProof.Rows L2 GL
/-- a property of a class: its record, its def's promise -/
def PropX (P : Program) (w : World) (K : PySem.W.Frag) (mg : Str → Option Value) (base : Heap) (C : Addr) (f : Str) (sp : Sp) : Prop := ∃ p g fd, PropOf K C f p g ∧ FnOk P w K mg base CX0 1 g fd ["self"] sp ∧ Binds K fd ["self"] []
/-- a method -/
def MetX (P : Program) (w : World) (K : PySem.W.Frag) (mg : Str → Option Value) (base : Heap) (C : Addr) (m : Str) (k : Nat) (ps : List Str) (sp : Sp) : Prop := ∃ f fd, Meth K C m f ∧ FnOk P w K mg base CX0 k f fd ps sp ∧ Binds K fd ps []
/-- a def of the module -/
def DefF (P : Program) (w : World) (K : PySem.W.Frag) (mg : Str → Option Value) (base : Heap) (x : Str) (k : Nat) (ps : List Str) (sp : Sp) : Prop := ∃ f fd, FnOk P w K mg base CX0 k f fd ps sp ∧ mg x = some (.ref f) ∧ Binds K fd ps [] ∧ PySem.W.keepIn K (.ref f) = true
structure RO (P : Program) (w : World) (K : PySem.W.Frag) (mg : Str → Option Value) (base : Heap) : Prop where
  N : RN P w K mg base
  gLow : PropX P w K mg base (aG K) "low" (spGetR K fun q _ => q)
  gHigh : PropX P w K mg base (aG K) "high" (spGetR K fun _ r => r)
  chkR : DefF P w K mg base "_check_range" 1 ["value"] (spChkRange K)
  chkO : DefF P w K mg base "_check_other" 1 ["value"] (spChkOther K)
/-- what form gives: l, h are the results at the ends -/
def FormAt (K : PySem.W.Frag) (H : Hp) (t : Addr) (d : Int) (u l h : Rat) : Prop := (l = h ∧ ∃ a, H t = some (.tup [.non, .non, .ref a, .ref a]) ∧ RatAt K H a l) ∨ (l ≠ h ∧ ∃ pu a b, H t = some (.tup [.int d, .ref pu, .ref a, .ref b]) ∧ RatAt K H pu u ∧ RatAt K H a l ∧ RatAt K H b h)
theorem FormAt.same {K : PySem.W.Frag} {H H' : Hp} {t : Addr} {d : Int} {u l h : Rat} (f : FormAt K H t d u l h) (k : Same H H') : FormAt K H' t d u l h := by
  rcases f with ⟨e, a, ht, ha⟩ | ⟨e, pu, a, b, ht, hu, ha, hb⟩
  · exact .inl ⟨e, a, k _ _ ht, ha.same k⟩
  · exact .inr ⟨e, pu, a, b, k _ _ ht, hu.same k, ha.same k, hb.same k⟩
/-- two Ratios by Ratio.__eq__ -/
def RatB (K : PySem.W.Frag) : DB := fun x y b H => ∃ a c q r, x = .ref a ∧ y = .ref c ∧ RatAt K H a q ∧ RatAt K H c r ∧ b = decide (q = r)
theorem ratAt_inj {K : PySem.W.Frag} {H : Hp} {a : Addr} {q r : Rat} (h : RatAt K H a q) (k : RatAt K H a r) : q = r := by
  obtain ⟨d, e⟩ := h
  obtain ⟨d2, e2⟩ := k
  rw [e] at e2
  have z := ins_fs e2
  injection z with z1 z2
  injection z1 with _ z1
  injection z1 with z1
  injection z2 with z2 _
  injection z2 with _ z2
  injection z2 with z2
  exact Rat.ext z1 (by omega)
/-- flat things and Ratios -/
def ThB (K : PySem.W.Frag) : DB := fun x y b H => FlatB x y b H ∨ RatB K x y b H
theorem monB_rat {K : PySem.W.Frag} : MonB (RatB K) := by
  intro x y b H H' k d
  obtain ⟨a, c, q, r, e1, e2, ha, hc, e⟩ := d
  exact ⟨a, c, q, r, e1, e2, ha.same k, hc.same k, e⟩
theorem monB_th {K : PySem.W.Frag} : MonB (ThB K) := monB_flat.or monB_rat
theorem eqB_rat {X : Cx} {f : Addr} (B : GL.OwnEq X.K (aR X.K) f) (F : FnR X.prog X.w X.K X.mg X.base CX0 1 f (spREq X.K)) : EqB X 1 (RatB X.K) := by
  have z := eqB_ins (E := fun _ _ _ => False) B F (X := X) (pass0 (X := X))
  intro A pins s σ H x y u v b sb I rx ry d
  refine z A pins s σ H x y u v b sb I rx ry ?_
  obtain ⟨a, c, q, r, rfl, rfl, ha, hc, rfl⟩ := d
  obtain ⟨da, ea⟩ := id ha
  obtain ⟨dc, ec⟩ := id hc
  refine ⟨a, c, da, dc, _, _, rfl, rfl, ea, ec, ?_, a, .ref c, q, rfl, ha, .inl ⟨c, r, rfl, hc, rfl, fun _ _ e => e⟩⟩
  rintro rfl
  exact decide_eq_true (ratAt_inj ha hc)
theorem eqB_th {X : Cx} {f : Addr} (B : GL.OwnEq X.K (aR X.K) f) (F : FnR X.prog X.w X.K X.mg X.base CX0 1 f (spREq X.K)) : EqB X 1 (ThB X.K) := (eqB_flat.mono (by decide)).or (eqB_rat B F)
section
variable {P : Program} {w : World} {K : PySem.W.Frag} {mg : Str → Option Value} {base : Heap}
/-! ### form -/
def spForm (K : PySem.W.Frag) : Sp := fun vs H Q _ => ∃ (s g : Addr) (d : Int) (u lo hi q r : Rat), vs = [.ref s, .ref g] ∧ MovAt K H s d u lo hi ∧ RngAt K H g q r ∧ Sz 1000 u ∧ Sz 1000 lo ∧ Sz 1000 hi ∧ Sz 1000 q ∧ Sz 1000 r ∧ Sz 1000 (d : Rat) ∧
  ∀ t H', Same H H' → FormAt K H' t d u (mAt d u lo hi q) (mAt d u lo hi r) → Q (.ref t) H'
theorem scForm : FnScope ["self", "within", "low", "high"] ["self", "within"] (defScope (sMove 15)) := ⟨rfl, rfl, rfl, by decide +kernel, rfl, by decide +kernel, by decide +kernel⟩
theorem ok_form {f : Addr} {fd : FuncData} (F : FunD K "form" "Move.form" (defArgs (sMove 15)) (defBody (sMove 15)) (defScope (sMove 15)) [] [] f fd) (O : RO P w K mg base) : FnOk P w K mg base CX0 8 f fd ["self", "within"] (spForm K) := by
  obtain ⟨fR, fdR, GR, gR, bR, kR⟩ := O.chkR
  obtain ⟨fT, fdT, mT, GT, bT⟩ := O.N.at_
  obtain ⟨p1, g1, fd1, P1, G1, b1⟩ := O.gLow
  obtain ⟨p2, g2, fd2, P2, G2, b2⟩ := O.gHigh
  obtain ⟨fE, oE, GE⟩ := O.N.M.L.C.J.I.eq
  have TR := O.N.M.L.C.J.I.R.G.T
  have TG := O.N.M.L.T
  have T := O.N.M.T
  refine F.ok scForm (fun vs H Q E h => ?_) (fun cdv A outer s H vs Q E hr h => ?_)
  · obtain ⟨s, g, d, u, lo, hi, q, r, rfl, _⟩ := h
    rfl
  · obtain ⟨s, g, d, u, lo, hi, q, r, rfl, hs, hg, su, sl, sh, sq, sr, sd, k⟩ := h
    refine ⟨_, pss_cons (ps_expr (pe_call GR (hr.mono (by decide)) rfl gR kR bR .nil pass0 (pa_cons (pv 1) pa_nil)))
      (pss_cons (ps_par (i := 2) (j := 3) (by rfl) scForm.nd rfl rfl (by decide) rfl rfl
        (pa_cons (pe_meth (pv 0) T.cl mT GT hr bT .nil pass0 (pa_cons (pe_prop (pv 1) TG.cl P1 G1 (hr.mono (by decide)) b1 .nil pass0 rfl) pa_nil)) (pa_cons (pe_meth (pv 0) T.cl mT GT hr bT .nil pass0 (pa_cons (pe_prop (pv 1) TG.cl P2 G2 (hr.mono (by decide)) b2 .nil pass0 rfl) pa_nil)) pa_nil)) (by rfl))
      (pss_cons (ps_if (pt_cmpR (op_eqO oE GE (hr.mono (by decide)) pass0) (pv 2) (pv 3) (nomark _)) (pss_one (ps_ret (pe_tup (pa_cons pe_non (pa_cons pe_non (pa_cons (pv 2) (pa_cons (pv 2) pa_nil))))))) pss_nil)
      (pss_one (ps_ret (pe_tup (pa_cons (pe_fld (pv 0) rfl) (pa_cons (pe_fld (pv 0) rfl) (pa_cons (pv 2) (pa_cons (pv 3) pa_nil))))))))), ?_⟩
    refine ⟨_, rfl, g, q, r, rfl, hg, ?_⟩
    have hs' := hs
    obtain ⟨d1, le, dx, pa, pb, pc, es, ha, hb, hc⟩ := hs'
    have hg' := hg
    obtain ⟨lg, dg, ga, gb, eg, hga, hgb⟩ := hg'
    refine ⟨_, rfl, s, dx, _, rfl, es, rfl, _, rfl, g, dg, _, rfl, eg, g, q, r, rfl, hg, fun a1 ha1 => ?_⟩
    refine ⟨s, .ref a1, d, u, lo, hi, q, rfl, hs, .inr ⟨a1, rfl, ha1⟩, su, sq, sd, sl.mono (by decide), sh.mono (by decide), fun l1 H1 k1 hl1 => ?_⟩
    refine ⟨_, rfl, s, dx, _, rfl, k1 _ _ es, rfl, _, rfl, g, dg, _, rfl, k1 _ _ eg, g, q, r, rfl, hg.same k1, fun a2 ha2 => ?_⟩
    refine ⟨s, .ref a2, d, u, lo, hi, r, rfl, hs.same k1, .inr ⟨a2, rfl, ha2⟩, su, sr, sd, sl.mono (by decide), sh.mono (by decide), fun l2 H2 k2 hl2 => ?_⟩
    refine ⟨_, _, rfl, ?_⟩
    have k12 := k1.trans k2
    have hl1' := hl1.same k2
    obtain ⟨e1, q1⟩ := id hl1'
    refine ⟨_, rfl, _, rfl, l1, e1, _, .ref (aR K), rfl, q1, hl2.ty TR, (by unfold PySem.W.notFirst; rw [beq_self_eq_true, Bool.true_or]), ?_⟩
    refine ⟨l1, .ref l2, _, rfl, hl1', .inl ⟨l2, _, rfl, hl2, _, rfl, ?_⟩⟩
    refine ite2 (fun e => ?_) (fun e => ?_)
    · have same := of_decide_eq_true e
      refine ⟨_, rfl, _, rfl, (by show 4 ≤ sizeLine; decide), fun t ht => ?_⟩
      have up : Same H2 (upd H2 t (.tup [.non, .non, .ref l1, .ref l1])) := fun b o e => by rw [upd_ne (ne_of_none e ht)]; exact e
      exact k t _ (k12.trans up) (.inl ⟨same, l1, upd_same, hl1'.same up⟩)
    · have other : ¬ _ = _ := fun z => e (decide_eq_true z)
      refine ⟨_, rfl, s, _, dx, _, _, rfl, k12 _ _ es, T.cl, T.nD, rfl, _, rfl, s, _, dx, _, _, rfl, k12 _ _ es, T.cl, T.nP, rfl, _, rfl, _, rfl, (by show 4 ≤ sizeLine; decide), fun t ht => ?_⟩
      have up : Same H2 (upd H2 t (.tup [.int d, .ref pa, .ref l1, .ref l2])) := fun b o e => by rw [upd_ne (ne_of_none e ht)]; exact e
      exact k t _ (k12.trans up) (.inr ⟨other, pa, l1, l2, upd_same, (ha.same k12).same up, hl1'.same up, hl2.same up⟩)
end
end K18
set_option maxHeartbeats 4000000
namespace K18
open PySem PySem.Spec PyProof.Rows L2 GL
theorem items_cons {D : DB} {x y : V} {xs ys : List V} {es : Nat → Bool} {H : Hp} (h : D x y (es 0) H) (r : es 0 = true → ItemsB D xs ys (fun i => es (i + 1)) H) : ItemsB D (x :: xs) (y :: ys) es H := by
  intro i a b ahead h1 h2
  cases i with
  | zero =>
    simp at h1 h2
    rw [← h1, ← h2]
    exact h
  | succ i =>
    simp at h1 h2
    exact r (ahead 0 (Nat.zero_lt_succ _)) i a b (fun j hj => ahead (j + 1) (Nat.succ_lt_succ hj)) h1 h2
theorem items_nil {D : DB} {xs : List V} {es : Nat → Bool} {H : Hp} : ItemsB D [] xs es H := by
  intro i a b _ h1 _
  simp at h1
theorem thI {K : PySem.W.Frag} {H : Hp} {x y : V} (fx : flatV x = true) (fy : flatV y = true) : ThB K x y (eqV x y) H := .inl ⟨fx, fy, rfl⟩
theorem thR {K : PySem.W.Frag} {H : Hp} {a c : Addr} {q r : Rat} (h : RatAt K H a q) (k : RatAt K H c r) : ThB K (.ref a) (.ref c) (decide (q = r)) H := .inr ⟨a, c, q, r, rfl, rfl, h, k, rfl⟩
def fEs (d : Int) (u l h : Rat) (e : Int) (v l2 h2 : Rat) : Nat → Bool :=
  if l = h then (if l2 = h2 then fun i => match i with | 0 => true | 1 => true | _ => decide (l = l2) else fun _ => false) else (if l2 = h2 then fun _ => false else fun i => match i with | 0 => eqV (.int d) (.int e) | 1 => decide (u = v) | 2 => decide (l = l2) | _ => decide (h = h2))
def cSame (d : Int) (u l h : Rat) (e : Int) (v l2 h2 : Rat) : Bool := PySem.GE.allB 4 4 (fEs d u l h e v l2 h2) 0
theorem forms_eq {K : PySem.W.Frag} {H : Hp} {t t2 : Addr} {d e : Int} {u l h v l2 h2 : Rat} (f : FormAt K H t d u l h) (g : FormAt K H t2 e v l2 h2) : TupB K (ThB K) (.ref t) (.ref t2) (cSame d u l h e v l2 h2) H := by
  rcases f with ⟨c, a, ht, ha⟩ | ⟨c, pu, a, b, ht, hu, ha, hb⟩ <;> rcases g with ⟨c2, a2, ht2, ha2⟩ | ⟨c2, pu2, a2, b2, ht2, hu2, ha2, hb2⟩
  · refine ⟨t, t2, _, _, fEs d u l h e v l2 h2, rfl, rfl, SqT.of ht, SqT.of ht2, ?_, rfl⟩
    unfold fEs
    rw [if_pos c, if_pos c2]
    exact items_cons (thI rfl rfl) fun _ => items_cons (thI rfl rfl) fun _ => items_cons (thR ha ha2) fun _ => items_cons (thR ha ha2) fun _ => items_nil
  · refine ⟨t, t2, _, _, fEs d u l h e v l2 h2, rfl, rfl, SqT.of ht, SqT.of ht2, ?_, rfl⟩
    unfold fEs
    rw [if_pos c, if_neg c2]
    exact items_cons (thI rfl rfl) fun z => absurd z (by decide)
  · refine ⟨t, t2, _, _, fEs d u l h e v l2 h2, rfl, rfl, SqT.of ht, SqT.of ht2, ?_, rfl⟩
    unfold fEs
    rw [if_neg c, if_pos c2]
    exact items_cons (thI rfl rfl) fun z => absurd z (by decide)
  · refine ⟨t, t2, _, _, fEs d u l h e v l2 h2, rfl, rfl, SqT.of ht, SqT.of ht2, ?_, rfl⟩
    unfold fEs
    rw [if_neg c, if_neg c2]
    exact items_cons (thI rfl rfl) fun _ => items_cons (thR hu hu2) fun _ => items_cons (thR ha ha2) fun _ => items_cons (thR hb hb2) fun _ => items_nil
theorem cSame_self (d : Int) (u l h : Rat) : cSame d u l h d u l h = true := by
  unfold cSame fEs
  by_cases c : l = h
  · rw [if_pos c, if_pos c]
    simp [PySem.GE.allB, List.range, List.range.loop]
  · rw [if_neg c, if_neg c]
    simp [PySem.GE.allB, List.range, List.range.loop, eqV]
section
variable {P : Program} {w : World} {K : PySem.W.Frag} {mg : Str → Option Value} {base : Heap}
/-! ### is_alike -/
def spAlike (K : PySem.W.Frag) : Sp := fun vs H Q _ => ∃ (s o g : Addr) (d e : Int) (u lo hi v l2 h2 q r : Rat), vs = [.ref s, .ref o, .ref g] ∧ MovAt K H s d u lo hi ∧ MovAt K H o e v l2 h2 ∧ RngAt K H g q r ∧ Sz 1000 u ∧ Sz 1000 lo ∧ Sz 1000 hi ∧ Sz 1000 v ∧ Sz 1000 l2 ∧ Sz 1000 h2 ∧ Sz 1000 q ∧ Sz 1000 r ∧ Sz 1000 (d : Rat) ∧ Sz 1000 (e : Rat) ∧
  ∀ H', Same H H' → Q (.bl (cSame d u (mAt d u lo hi q) (mAt d u lo hi r) e v (mAt e v l2 h2 q) (mAt e v l2 h2 r))) H'
theorem scAlike : FnScope ["self", "other", "within"] ["self", "other", "within"] (defScope (sMove 16)) := ⟨rfl, rfl, rfl, by decide +kernel, rfl, by decide +kernel, by decide +kernel⟩
theorem ok_alike {f fF : Addr} {fd fdF : FuncData} (F : FunD K "is_alike" "Move.is_alike" (defArgs (sMove 16)) (defBody (sMove 16)) (defScope (sMove 16)) [] [] f fd) (O : RO P w K mg base) (FF : FunD K "form" "Move.form" (defArgs (sMove 15)) (defBody (sMove 15)) (defScope (sMove 15)) [] [] fF fdF) (mF : Meth K (aM K) "form" fF) (bF : Binds K fdF ["self", "within"] []) : FnOk P w K mg base CX0 9 f fd ["self", "other", "within"] (spAlike K) := by
  have GF : FnOk P w K mg base CX0 8 fF fdF ["self", "within"] (spForm K) := ok_form FF O
  obtain ⟨fO, fdO, GO, gO, bO, kO⟩ := O.chkO
  obtain ⟨fE, oE, GE⟩ := O.N.M.L.C.J.I.eq
  have T := O.N.M.T
  refine F.ok scAlike (fun vs H Q E h => ?_) (fun cdv A outer s H vs Q E hr h => ?_)
  · obtain ⟨s, o, g, d, e, u, lo, hi, v, l2, h2, q, r, rfl, _⟩ := h
    rfl
  · obtain ⟨s, o, g, d, e, u, lo, hi, v, l2, h2, q, r, rfl, hs, ho, hg, su, sl, sh, sv, sl2, sh2, sq, sr, sd, se, k⟩ := h
    refine ⟨_, pss_cons (ps_expr (pe_call GO (hr.mono (by decide)) rfl gO kO bO .nil pass0 (pa_cons (pv 1) pa_nil)))
      (pss_one (ps_ret (pe_cmpR (op_eqT monB_th (eqB_th oE GE) (hr.mono (by decide))) (pe_meth (pv 0) T.cl mF GF hr bF .nil pass0 (pa_cons (pv 2) pa_nil)) (pe_meth (pv 1) T.cl mF GF hr bF .nil pass0 (pa_cons (pv 2) pa_nil)) (nomark _)))), ?_⟩
    refine ⟨_, rfl, o, e, v, l2, h2, rfl, ho, ?_⟩
    obtain ⟨d1, le, dx, pa, pb, pc, es, ha, hb, hc⟩ := id hs
    obtain ⟨e1, le2, dy, pa2, pb2, pc2, eo, ha2, hb2, hc2⟩ := id ho
    refine ⟨_, rfl, s, dx, _, rfl, es, rfl, _, rfl, s, g, d, u, lo, hi, q, r, rfl, hs, hg, su, sl, sh, sq, sr, sd, fun t1 H1 k1 ht1 => ?_⟩
    refine ⟨_, rfl, o, dy, _, rfl, k1 _ _ eo, rfl, _, rfl, o, g, e, v, l2, h2, q, r, rfl, ho.same k1, hg.same k1, sv, sl2, sh2, sq, sr, se, fun t2 H2 k2 ht2 => ?_⟩
    exact ⟨_, forms_eq (ht1.same k2) ht2, fun H3 k3 => k H3 ((k1.trans k2).trans k3)⟩
end
end K18
set_option maxHeartbeats 1000000
/-! o.f as a target among others; the heap without one thing. -/
namespace GL
open PySem PySem.Spec PyProof.Rows L2
def gFld (K : PySem.W.Frag) (to : TE) (f : Str) : TG := fun y σ H Q => to σ H fun x H2 => ∃ a C dx fs, x = .ref a ∧ H2 a = some (.ins C dx fs) ∧ Cls K C ∧ NoAttr K C f ∧ fs.length < 1000 ∧ Q σ (upd H2 a (.ins C dx (putF f y fs)))
theorem pg_fld {X : Cx} {o : Expr} {to : TE} {f : Str} {pos : Pos} (ho : PE X o to) : PG X (.Attribute o f pos) (gFld X.K to f) := by
  constructor
  intro pins s σ H y u Q I ry h
  refine PySem.W.kas_attr (thn (ho.run pins s σ H _ I h) ?_)
  rintro ov s2 ⟨x, H2, I2, rx, a, C, dx, fs, rfl, ea, c, n, l, q⟩
  cases (show ov = Value.ref a from rx)
  exact setattr_ok I2 ea c n l ry fun s3 I3 => ⟨σ, _, I3, q⟩
/-- all but the thing at w -/
def off (H : Hp) (w : Addr) : Hp := fun a => if a = w then none else H a
theorem off_ne {H : Hp} {w a : Addr} (h : a ≠ w) : off H w a = H a := if_neg h
theorem off_at {H : Hp} {w : Addr} : off H w w = none := if_pos rfl
theorem off_some {H : Hp} {w a : Addr} {o : HO} (h : off H w a = some o) : a ≠ w ∧ H a = some o := by
  by_cases e : a = w
  · rw [e, off_at] at h
    cases h
  · rw [off_ne e] at h
    exact ⟨e, h⟩
theorem off_same {H H' : Hp} {w : Addr} (k : Same (off H w) H') : Same (off H w) (off H' w) := fun a o e => by
  rw [off_ne (off_some e).1]
  exact k a o e
theorem off_upd {H H' : Hp} {w : Addr} {o : HO} (k : Same (off H w) H') : Same (off H w) (upd H' w o) := fun a u e => by
  rw [upd_ne (off_some e).1]
  exact k a u e
theorem off_of {H : Hp} {w a : Addr} {o u : HO} (e : H w = some o) (h : H a = some u) (ne : u ≠ o) : off H w a = some u := by
  rw [off_ne]
  · exact h
  · rintro rfl
    rw [e] at h
    exact ne (Option.some.inj h).symm
theorem off_le {H : Hp} {w : Addr} : Same (off H w) H := fun a o e => (off_some e).2
/-- x(e, ..), x a local that holds a class of the program -/
def tMakeL (i : Nat) (C : Addr) (sp : Sp) (dvs : List V) (E : XK) (t : TA) : TE := fun σ H Q => σ[i]? = some (some (.ref C)) ∧ tMake C sp dvs E t σ H Q
theorem pe_makeL {X : Cx} {CX : CXT} {k i : Nat} {f C : Addr} {fd : FuncData} {ps : List Str} {sp : Sp} {dvs : List V} {ds : List Value} {E : XK} {x : Str} {p pos : Pos} {e : Expr} {es : List Expr} {t : TA} (M : Mk X.K C f) (F : FnOk X.prog X.w X.K X.mg X.base CX k f fd ps sp) (hr : Room (k + 1) X.A)
    (hN : X.N[i]? = some x) (hv : Vis X.env.scope x) (hb : Binds X.K fd ps ds) (hd : Vals dvs ds) (hx : Passes CX X E) (ha : PA X (e :: es) t) (h1 : (x == ("__debug__" : Str)) = false := by decide) (h2 : (x == ("__classdict__" : Str)) = false := by decide)
    (h3 : starEach (e :: es) X.env = (false, eval e X.env) :: starEach es X.env := by rfl) (h4 : (backTo pos (starEach es X.env)).any (·.1) = false := by rfl) : PE X (.Call (.Name x p) (e :: es) [] pos) (tMakeL i C sp dvs E t) := by
  constructor
  intro pins s σ H Q I h
  obtain ⟨at_, h⟩ := h
  apply wpAny_Call_Name_kw
  have name := (pe_var (X := X) (pos := p) hN hv h1 h2).run pins s σ H (fun v H1 => v = .ref C ∧ H1 = H) I ⟨.ref C, at_, rfl, rfl⟩
  refine thn name ?_
  rintro u s1 ⟨v, H1, I1, r1, rfl, rfl⟩
  cases (show u = Value.ref C from r1)
  refine PySem.W.callWith_K (h₀ := X.base) I.ok.mod.kin M.kp (thn (ha.run pos pins s1 σ _ _ I1 h) ?_) h3 h4
  rintro us s2 ⟨vs, H2, I2, r, q⟩
  exact ⟨I2.kIn, run_make M F hr hb hd hx I2 r q⟩
end GL
set_option maxHeartbeats 4000000
namespace K18
open PySem PySem.Spec PyProof.Rows L2 GL
abbrev sWay (j : Nat) : Stmt := inClass (tp 32) j
abbrev aW (K : PySem.W.Frag) : Addr := He.ga K "WayBack"
structure WF (K : PySem.W.Frag) (mg : Str → Option Value) : Prop where
  cl : Cls K (aW K)
  nM : NoAttr K (aW K) "_move"
  nF : NoAttr K (aW K) "_first"
  nS : NoAttr K (aW K) "_second"
  nL : NoAttr K (aW K) "_lowest"
  nH : NoAttr K (aW K) "_highest"
  gW : mg "WayBack" = some (.ref (aW K))
theorem ins_ne {C D d e : Addr} {fs gs : List (Str × V)} {f : Str} (h : fs.lookup f ≠ gs.lookup f) : HO.ins C d fs ≠ HO.ins D e gs := by
  intro z
  injection z with z1 z2 z3
  exact h (by rw [z3])
section
variable {K : PySem.W.Frag} {H : Hp} {w C dx : Addr} {fs : List (Str × V)}
theorem RatAt.off {a : Addr} {q : Rat} (h : RatAt K H a q) (e : H w = some (.ins C dx fs)) (hf : fs.lookup ("_top" : Str) = none) : RatAt K (off H w) a q := by
  obtain ⟨d, ea⟩ := h
  exact ⟨d, off_of e ea (ins_ne (f := "_top") (by rw [hf]; exact fun z => nomatch z))⟩
theorem CutR.off {c : Addr} {q : Rat} {b : Bool} (h : CutR K H c q b) (e : H w = some (.ins C dx fs)) (hf : fs.lookup ("_top" : Str) = none) : CutR K (off H w) c q b := by
  obtain ⟨p, ec, hp⟩ := h
  exact ⟨p, off_of e ec (fun z => nomatch z), hp.off e hf⟩
theorem MovAt.off {s : Addr} {d : Int} {u lo hi : Rat} (h : MovAt K H s d u lo hi) (e : H w = some (.ins C dx fs)) (hf : fs.lookup ("_top" : Str) = none) (hf2 : fs.lookup ("_divisor" : Str) = none) : MovAt K (off H w) s d u lo hi := by
  obtain ⟨d1, l, ds, a, b, c, es, ha, hb, hc⟩ := h
  exact ⟨d1, l, ds, a, b, c, off_of e es (ins_ne (f := "_divisor") (by rw [hf2]; exact fun z => nomatch z)), ha.off e hf, hb.off e hf, hc.off e hf⟩
theorem RngAt.off {g : Addr} {q r : Rat} (h : RngAt K H g q r) (e : H w = some (.ins C dx fs)) (hf : fs.lookup ("_top" : Str) = none) (hf2 : fs.lookup ("_low" : Str) = none) : RngAt K (off H w) g q r := by
  obtain ⟨l, dg, a, b, eg, ha, hb⟩ := h
  exact ⟨l, dg, a, b, off_of e eg (ins_ne (f := "_low") (by rw [hf2]; exact fun z => nomatch z)), ha.off e hf, hb.off e hf⟩
end
/-- outer, its numbers Ratios -/
def spOuterR (K : PySem.W.Frag) : Sp := fun vs H Q _ => ∃ (s : Addr) (q r : Rat), vs = [.ref s] ∧ RngAt K H s q r ∧ ∀ t c1 c2 H', Same H H' → H' t = some (.tup [.ref c1, .ref c2]) → CutR K H' c1 q false → CutR K H' c2 r true → Q (.ref t) H'
theorem outer_imp {K : PySem.W.Frag} : ∀ vs H Q E, spOuter K vs H Q E → spOuterR K vs H Q E := by
  intro vs H Q E h
  obtain ⟨s, q, r, e, hs, k⟩ := h
  exact ⟨s, q, r, e, hs, fun t c1 c2 H' k' ht h1 h2 => k _ H' k' ⟨t, _, _, rfl, ht, h1.cut, h2.cut⟩⟩
section
variable {P : Program} {w : World} {K : PySem.W.Frag} {mg : Str → Option Value} {base : Heap}
theorem ok_outerR {f : Addr} {fd : FuncData} (F : FunD K "outer" "Range.outer" (defArgs (sRange 3)) (defBody (sRange 3)) (defScope (sRange 3)) [] [] f fd) (T : GF K mg) : FnOk P w K mg base CX0 1 f fd ["self"] (spOuterR K) := by
  refine F.ok scOuter (fun vs H Q E h => ?_) (fun cdv A outer s H vs Q E hr h => ?_)
  · obtain ⟨s, q, r, rfl, _⟩ := h
    rfl
  · obtain ⟨s, q, r, rfl, ⟨le, dx, a, b, es, ha, hb⟩, k⟩ := h
    refine ⟨_, pss_one (ps_ret (pe_tup (pa_cons (pe_tup (pa_cons (pe_fld (pv 0) rfl) (pa_cons pe_bl pa_nil))) (pa_cons (pe_tup (pa_cons (pe_fld (pv 0) rfl) (pa_cons pe_bl pa_nil))) pa_nil)))), ?_⟩
    refine ⟨_, rfl, s, _, dx, _, _, rfl, es, T.cl, T.nL, rfl, (by show 2 ≤ sizeLine; decide), fun t1 h1 => ?_⟩
    have s1 : Same H (upd H t1 (.tup [.ref a, .bl false])) := fun b o e => by rw [upd_ne (ne_of_none e h1)]; exact e
    refine ⟨_, rfl, s, _, dx, _, _, rfl, s1 _ _ es, T.cl, T.nH, rfl, (by show 2 ≤ sizeLine; decide), fun t2 h2 => ?_⟩
    generalize hH1 : upd H t1 (.tup [.ref a, .bl false]) = H1 at *
    have e1 : H1 t1 = some (.tup [.ref a, .bl false]) := by rw [← hH1]; exact upd_same
    have s2 : Same H1 (upd H1 t2 (.tup [.ref b, .bl true])) := fun b o e => by rw [upd_ne (ne_of_none e h2)]; exact e
    refine ⟨(by show 2 ≤ sizeLine; decide), fun t3 h3 => ?_⟩
    generalize hH2 : upd H1 t2 (.tup [.ref b, .bl true]) = H2 at *
    have e2 : H2 t2 = some (.tup [.ref b, .bl true]) := by rw [← hH2]; exact upd_same
    have s3 : Same H2 (upd H2 t3 (.tup [.ref t1, .ref t2])) := fun b o e => by rw [upd_ne (ne_of_none e h3)]; exact e
    exact k _ _ _ _ ((s1.trans s2).trans s3) upd_same ⟨a, s3 _ _ (s2 _ _ e1), ((ha.same s1).same s2).same s3⟩ ⟨b, s3 _ _ e2, ((hb.same s1).same s2).same s3⟩
/-- what WayBack calls -/
structure RQ (P : Program) (w : World) (K : PySem.W.Frag) (mg : Str → Option Value) (base : Heap) : Prop where
  O : RO P w K mg base
  T : WF K mg
  outer : MetX P w K mg base (aG K) "outer" 1 ["self"] (spOuterR K)
  prec : DefF P w K mg base "precedes" 6 ["one", "other"] (spPrec K)
/-- a WayBack at an address -/
def WayAt (K : PySem.W.Frag) (H : Hp) (p : Addr) (d : Int) (u lo hi q r : Rat) : Prop := ∃ dx s c1 c2 c3 c4, H p = some (.ins (aW K) dx [("_move", .ref s), ("_first", .ref c1), ("_second", .ref c2), ("_lowest", .ref c3), ("_highest", .ref c4)]) ∧
  MovAt K H s d u lo hi ∧ CutR K H c1 q false ∧ CutR K H c2 r true ∧ CutR K H c3 (mAt d u lo hi q) false ∧ CutR K H c4 (mAt d u lo hi r) false
/-! ### WayBack.__init__ -/
def spWInit (K : PySem.W.Frag) : Sp := fun vs H Q _ => ∃ (p dx s g : Addr) (d : Int) (u lo hi q r : Rat), vs = [.ref p, .ref s, .ref g] ∧ H p = some (.ins (aW K) dx []) ∧ MovAt K H s d u lo hi ∧ RngAt K H g q r ∧ Sz 1000 u ∧ Sz 1000 lo ∧ Sz 1000 hi ∧ Sz 1000 q ∧ Sz 1000 r ∧ Sz 1000 (d : Rat) ∧
  ∀ H', Same (off H p) H' → WayAt K H' p d u lo hi q r → Q .non H'
theorem scWInit : FnScope ["self", "move", "within"] ["self", "move", "within"] (defScope (sWay 0)) := ⟨rfl, rfl, rfl, by decide +kernel, rfl, by decide +kernel, by decide +kernel⟩
theorem ok_wInit {f : Addr} {fd : FuncData} (F : FunD K "__init__" "WayBack.__init__" (defArgs (sWay 0)) (defBody (sWay 0)) (defScope (sWay 0)) [] [] f fd) (R : RQ P w K mg base) : FnOk P w K mg base CX0 8 f fd ["self", "move", "within"] (spWInit K) := by
  obtain ⟨fT, fdT, mT, GT, bT⟩ := R.O.N.at_
  obtain ⟨p1, g1, fd1, P1, G1, b1⟩ := R.O.gLow
  obtain ⟨p2, g2, fd2, P2, G2, b2⟩ := R.O.gHigh
  obtain ⟨fO, fdO, mO, GO, bO⟩ := R.outer
  have TG := R.O.N.M.L.T
  have TM := R.O.N.M.T
  have T := R.T
  refine F.ok scWInit (fun vs H Q E h => ?_) (fun cdv A outer s H vs Q E hr h => ?_)
  · obtain ⟨p, dx, s, g, d, u, lo, hi, q, r, rfl, _⟩ := h
    rfl
  · obtain ⟨p, dx, s, g, d, u, lo, hi, q, r, rfl, ep, hs, hg, su, sl, sh, sq, sr, sd, k⟩ := h
    refine ⟨_, pss_cons (ps_fld (pv 0) (pv 1) rfl)
      (pss_cons (ps_asg (pe_meth0 (pv 2) TG.cl mO GO (hr.mono (by decide)) bO .nil pass0) (pg_tup (by rfl) (pgs_cons (pg_fld (pv 0)) (pgs_cons (pg_fld (pv 0)) pgs_nil))))
      (pss_cons (ps_fld (pv 0) (pe_tup (pa_cons (pe_meth (pv 1) TM.cl mT GT hr bT .nil pass0 (pa_cons (pe_prop (pv 2) TG.cl P1 G1 (hr.mono (by decide)) b1 .nil pass0 rfl) pa_nil)) (pa_cons pe_bl pa_nil))) rfl)
      (pss_one (ps_fld (pv 0) (pe_tup (pa_cons (pe_meth (pv 1) TM.cl mT GT hr bT .nil pass0 (pa_cons (pe_prop (pv 2) TG.cl P2 G2 (hr.mono (by decide)) b2 .nil pass0 rfl) pa_nil)) (pa_cons pe_bl pa_nil))) rfl)))), ?_⟩
    refine ⟨_, rfl, _, rfl, p, _, dx, _, rfl, ep, T.cl, T.nM, (by decide), ?_⟩
    have hs0 := hs.off ep rfl rfl
    have hg0 := hg.off ep rfl rfl
    generalize hB : off H p = B at *
    have k0 : Same B (upd H p (.ins (aW K) dx [("_move", .ref s)])) := by
      rw [← hB]
      exact off_upd off_le
    have e0 : upd H p (.ins (aW K) dx [("_move", .ref s)]) p = some (.ins (aW K) dx [("_move", .ref s)]) := upd_same
    dsimp only
    show tSeq _ _ _ _ (upd H p (.ins (aW K) dx [("_move", .ref s)]))
    generalize hH0 : upd H p (.ins (aW K) dx [("_move", .ref s)]) = H0 at *
    obtain ⟨lg, dg, ga, gb, eg, hga, hgb⟩ := id hg0
    refine ⟨_, rfl, g, dg, _, rfl, k0 _ _ eg, rfl, g, q, r, rfl, hg0.same k0, fun t c1 c2 H1 k1 ht h1 h2 => ?_⟩
    have z0 := h1.off (k1 _ _ e0) rfl
    have z1 := h2.off (k1 _ _ e0) rfl
    have k01 : Same B (off H1 p) := by
      rw [← hB]
      refine off_same ?_
      rw [hB]
      exact k0.trans k1
    refine ⟨t, _, rfl, SqT.of ht, rfl, _, _, rfl, _, rfl, p, _, dx, _, rfl, k1 _ _ e0, T.cl, T.nF, (by show 1 < 1000; decide), _, _, rfl, _, rfl, p, _, dx, _, rfl, upd_same, T.cl, T.nS, (by show 2 < 1000; decide), rfl, ?_⟩
    generalize hA : off H1 p = A1 at *
    have k2 : Same A1 (upd (upd H1 p (.ins (aW K) dx [("_move", .ref s), ("_first", .ref c1)])) p (.ins (aW K) dx [("_move", .ref s), ("_first", .ref c1), ("_second", .ref c2)])) := by
      rw [← hA]
      refine off_upd ?_
      exact off_upd off_le
    have e2 : upd (upd H1 p (.ins (aW K) dx [("_move", .ref s), ("_first", .ref c1)])) p (.ins (aW K) dx [("_move", .ref s), ("_first", .ref c1), ("_second", .ref c2)]) p = some (.ins (aW K) dx [("_move", .ref s), ("_first", .ref c1), ("_second", .ref c2)]) := upd_same
    show tSeq _ _ _ _ (upd (upd H1 p (.ins (aW K) dx [("_move", .ref s), ("_first", .ref c1)])) p (.ins (aW K) dx [("_move", .ref s), ("_first", .ref c1), ("_second", .ref c2)]))
    generalize hH2 : upd (upd H1 p (.ins (aW K) dx [("_move", .ref s), ("_first", .ref c1)])) p (.ins (aW K) dx [("_move", .ref s), ("_first", .ref c1), ("_second", .ref c2)]) = H2 at *
    have hs1 := hs0.same k01
    have hg1 := hg0.same k01
    obtain ⟨d1, le, ds, pa, pb, pc, es, _⟩ := id hs1
    have eg1 := k01 _ _ eg
    refine ⟨_, rfl, s, ds, _, rfl, k2 _ _ es, rfl, _, rfl, g, dg, _, rfl, k2 _ _ eg1, g, q, r, rfl, hg1.same k2, fun a1 ha1 => ?_⟩
    refine ⟨s, .ref a1, d, u, lo, hi, q, rfl, hs1.same k2, .inr ⟨a1, rfl, ha1⟩, su, sq, sd, sl.mono (by decide), sh.mono (by decide), fun l1 H3 k3 hl1 => ?_⟩
    refine ⟨(by show 2 ≤ sizeLine; decide), fun t3 n3 => ?_⟩
    have up3 : Same H3 (upd H3 t3 (.tup [.ref l1, .bl false])) := fun b o e => by rw [upd_ne (ne_of_none e n3)]; exact e
    have e3 := up3 _ _ (k3 _ _ e2)
    have c3 : CutR K (upd H3 t3 (.tup [.ref l1, .bl false])) t3 (mAt d u lo hi q) false := ⟨l1, upd_same, hl1.same up3⟩
    have k4 : Same A1 (upd H3 t3 (.tup [.ref l1, .bl false])) := (k2.trans k3).trans up3
    generalize hH4 : upd H3 t3 (.tup [.ref l1, .bl false]) = H4 at *
    refine ⟨_, rfl, p, _, dx, _, rfl, e3, T.cl, T.nL, (by show 3 < 1000; decide), ?_⟩
    have c3' := c3.off e3 rfl
    have k45 : Same A1 (off H4 p) := by
      rw [← hA]
      refine off_same ?_
      rw [hA]
      exact k4
    generalize hH5 : upd H4 p (HO.ins (aW K) dx (putF "_lowest" (V.ref t3) [("_move", .ref s), ("_first", .ref c1), ("_second", .ref c2)])) = H5 at *
    have k5 : Same (off H4 p) H5 := by
      rw [← hH5]
      exact off_upd off_le
    have e5 : H5 p = some (.ins (aW K) dx [("_move", .ref s), ("_first", .ref c1), ("_second", .ref c2), ("_lowest", .ref t3)]) := by
      rw [← hH5]
      exact upd_same
    have k15 := k45.trans k5
    refine ⟨_, rfl, s, ds, _, rfl, k15 _ _ es, rfl, _, rfl, g, dg, _, rfl, k15 _ _ eg1, g, q, r, rfl, hg1.same k15, fun a2 ha2 => ?_⟩
    refine ⟨s, .ref a2, d, u, lo, hi, r, rfl, hs1.same k15, .inr ⟨a2, rfl, ha2⟩, su, sr, sd, sl.mono (by decide), sh.mono (by decide), fun l2 H6 k6 hl2 => ?_⟩
    refine ⟨(by show 2 ≤ sizeLine; decide), fun t4 n4 => ?_⟩
    have up6 : Same H6 (upd H6 t4 (.tup [.ref l2, .bl false])) := fun b o e => by rw [upd_ne (ne_of_none e n4)]; exact e
    have e6 := up6 _ _ (k6 _ _ e5)
    have c4 : CutR K (upd H6 t4 (.tup [.ref l2, .bl false])) t4 (mAt d u lo hi r) false := ⟨l2, upd_same, hl2.same up6⟩
    have k7 : Same (off H4 p) (upd H6 t4 (.tup [.ref l2, .bl false])) := (k5.trans k6).trans up6
    generalize hH7 : upd H6 t4 (.tup [.ref l2, .bl false]) = H7 at *
    refine ⟨_, rfl, p, _, dx, _, rfl, e6, T.cl, T.nH, (by show 4 < 1000; decide), ?_⟩
    have c4' := c4.off e6 rfl
    have k78 : Same (off H4 p) (off H7 p) := off_same k7
    have k8 : Same (off H7 p) (upd H7 p (.ins (aW K) dx [("_move", .ref s), ("_first", .ref c1), ("_second", .ref c2), ("_lowest", .ref t3), ("_highest", .ref t4)])) := off_upd off_le
    have k48 := k78.trans k8
    have k18 := k45.trans k48
    refine k _ (k01.trans k18) ⟨dx, s, c1, c2, t3, t4, upd_same, hs1.same k18, z0.same k18, z1.same k18, c3'.same k48, c4'.same k8⟩
end
end K18
set_option maxHeartbeats 4000000
namespace K18
open PySem PySem.Spec PyProof.Rows L2 GL
def cLed (d : Int) (u lo hi q r z : Rat) (b : Bool) : Rat × Bool :=
  if cAhead (mAt d u lo hi q) false z b = false then (q, false) else if cAhead (mAt d u lo hi r) false z b = true then (r, true) else
  if cAhead q false (rSub (rMul z (d : Rat)) u) b = false then (q, false) else if cAhead (rSub (rMul z (d : Rat)) u) b r true = true then (rSub (rMul z (d : Rat)) u, b) else (r, true)
/-- more for WayBack -/
structure RS (P : Program) (w : World) (K : PySem.W.Frag) (mg : Str → Option Value) (base : Heap) : Prop where
  R : RQ P w K mg base
  gDiv : PropX P w K mg base (aM K) "divisor" (fun vs H Q _ => ∃ (s : Addr) (d : Int) (u lo hi : Rat), vs = [.ref s] ∧ MovAt K H s d u lo hi ∧ Q (.int d) H)
  gPlus : PropX P w K mg base (aM K) "plus" (fun vs H Q _ => ∃ (s : Addr) (d : Int) (u lo hi : Rat), vs = [.ref s] ∧ MovAt K H s d u lo hi ∧ ∀ a, RatAt K H a u → Q (.ref a) H)
section
variable {P : Program} {w : World} {K : PySem.W.Frag} {mg : Str → Option Value} {base : Heap}
def spLed (K : PySem.W.Frag) : Sp := fun vs H Q _ => ∃ (p c : Addr) (d : Int) (u lo hi q r z : Rat) (b : Bool), vs = [.ref p, .ref c] ∧ WayAt K H p d u lo hi q r ∧ CutR K H c z b ∧ Sz 1000 u ∧ Sz 1000 lo ∧ Sz 1000 hi ∧ Sz 1000 q ∧ Sz 1000 r ∧ Sz 1000 z ∧ Sz 1000 (d : Rat) ∧
  ∀ c' H', Same H H' → CutR K H' c' (cLed d u lo hi q r z b).1 (cLed d u lo hi q r z b).2 → Q (.ref c') H'
theorem scLed : FnScope ["self", "cut", "led"] ["self", "cut"] (defScope (sWay 1)) := ⟨rfl, rfl, rfl, by decide +kernel, rfl, by decide +kernel, by decide +kernel⟩
theorem ok_led {f : Addr} {fd : FuncData} (F : FunD K "led" "WayBack.led" (defArgs (sWay 1)) (defBody (sWay 1)) (defScope (sWay 1)) [] [] f fd) (S : RS P w K mg base) : FnOk P w K mg base CX0 7 f fd ["self", "cut"] (spLed K) := by
  obtain ⟨fP, fdP, GP, gP, bP, kP⟩ := S.R.prec
  obtain ⟨p1, g1, fd1, P1, G1, b1⟩ := S.gDiv
  obtain ⟨p2, g2, fd2, P2, G2, b2⟩ := S.gPlus
  obtain ⟨fM, oM, GM⟩ := S.R.O.N.mul
  obtain ⟨fS, oS, GS⟩ := S.R.O.N.sub
  have TM := S.R.O.N.M.T
  have T := S.R.T
  refine F.ok scLed (fun vs H Q E h => ?_) (fun cdv A outer s H vs Q E hr h => ?_)
  · obtain ⟨p, c, d, u, lo, hi, q, r, z, b, rfl, _⟩ := h
    rfl
  · obtain ⟨p, c, d, u, lo, hi, q, r, z, b, rfl, ⟨dx, s, c1, c2, c3, c4, ep, hs, h1, h2, h3, h4⟩, hc, su, sl, sh, sq, sr, sz, sd, k⟩ := h
    refine ⟨_, pss_cons (ps_if (pt_not (pt_val (pe_call GP hr rfl gP kP bP .nil pass0 (pa_cons (pe_fld (pv 0) rfl) (pa_cons (pv 1) pa_nil))))) (pss_one (ps_ret (pe_fld (pv 0) rfl))) pss_nil)
      (pss_cons (ps_if (pt_val (pe_call GP hr rfl gP kP bP .nil pass0 (pa_cons (pe_fld (pv 0) rfl) (pa_cons (pv 1) pa_nil)))) (pss_one (ps_ret (pe_fld (pv 0) rfl))) pss_nil)
      (pss_cons (ps_set (i := 2) scLed.nd rfl (Or.inl rfl) (pe_tup (pa_cons (pe_op (op_own (.inr (.inl rfl)) oS GS (hr.mono (by decide)) pass0) (pe_op (op_own (.inr (.inr rfl)) oM GM (hr.mono (by decide)) pass0) (pe_ix ix_tup (pv 1) pe_int (fun _ _ => rfl)) (pe_prop (pe_fld (pv 0) rfl) TM.cl P1 G1 (hr.mono (by decide)) b1 .nil pass0 rfl)) (pe_prop (pe_fld (pv 0) rfl) TM.cl P2 G2 (hr.mono (by decide)) b2 .nil pass0 rfl))
        (pa_cons (pe_ix ix_tup (pv 1) pe_int (fun _ _ => rfl)) pa_nil))))
      (pss_cons (ps_if (pt_not (pt_val (pe_call GP hr rfl gP kP bP .nil pass0 (pa_cons (pe_fld (pv 0) rfl) (pa_cons (pv 2) pa_nil))))) (pss_one (ps_ret (pe_fld (pv 0) rfl))) pss_nil)
      (pss_one (ps_ret (pe_ifExp (pt_val (pe_call GP hr rfl gP kP bP .nil pass0 (pa_cons (pv 2) (pa_cons (pe_fld (pv 0) rfl) pa_nil)))) (pv 2) (pe_fld (pv 0) rfl))))))), ?_⟩
    obtain ⟨d1, le, ds, pa, pb, pc, es, ha, hb, hcc⟩ := id hs
    have aSz : ∀ {y : Rat}, Sz 1000 y → Sz 100000 (mAt d u lo hi y) := fun {y} sy => (mAt_sz2 d1 su sy sd sl sh (by decide)).mono (by decide)
    have nSz : Sz 100000 (rSub (rMul z (d : Rat)) u) := (rSub_sz2 (rMul_sz2 sz sd) su).mono (by decide)
    unfold cLed at k
    refine ⟨_, rfl, p, _, dx, _, _, rfl, ep, T.cl, T.nL, rfl, _, rfl, c3, c, mAt d u lo hi q, z, false, b, rfl, h3, hc, aSz sq, sz.mono (by decide), fun H1 k1 => ⟨_, rfl, ?_⟩⟩
    cases hA : cAhead (mAt d u lo hi q) false z b with
    | false =>
      rw [if_pos hA] at k
      exact iteT ⟨_, rfl, p, _, dx, _, _, rfl, k1 _ _ ep, T.cl, T.nF, rfl, k c1 H1 k1 (h1.same k1)⟩
    | true =>
      rw [if_neg (by rw [hA]; decide)] at k
      refine iteF ⟨_, rfl, p, _, dx, _, _, rfl, k1 _ _ ep, T.cl, T.nH, rfl, _, rfl, c4, c, mAt d u lo hi r, z, false, b, rfl, h4.same k1, hc.same k1, aSz sr, sz.mono (by decide), fun H2 k2 => ⟨_, rfl, ?_⟩⟩
      have k12 := k1.trans k2
      cases hB : cAhead (mAt d u lo hi r) false z b with
      | true =>
        rw [if_pos hB] at k
        exact iteT ⟨_, rfl, p, _, dx, _, _, rfl, k12 _ _ ep, T.cl, T.nS, rfl, k c2 H2 k12 (h2.same k12)⟩
      | false =>
        rw [if_neg (by rw [hB]; decide)] at k
        refine iteF ?_
        obtain ⟨pz, ec, dz, ez⟩ := hc.same k12
        have hs2 := hs.same k12
        refine ⟨_, rfl, c, _, _, .ref pz, rfl, rfl, SqT.of ec, rfl, ?_⟩
        refine ⟨_, rfl, p, _, dx, _, _, rfl, k12 _ _ ep, T.cl, T.nM, rfl, s, ds, _, rfl, k12 _ _ es, s, d, u, lo, hi, rfl, hs2, pz, dz, _, rfl, ez, .inr ⟨d, rfl⟩, ?_⟩
        refine ⟨pz, .int d, z, (d : Rat), rfl, ⟨dz, ez⟩, .inl ⟨d, rfl, rfl⟩, sz.mono (by decide), sd.mono (by decide), trivial, fun m3 H3 k3 hm3 => ?_⟩
        have k13 := k12.trans k3
        refine ⟨_, rfl, p, _, dx, _, _, rfl, k13 _ _ ep, T.cl, T.nM, rfl, s, ds, _, rfl, k13 _ _ es, s, d, u, lo, hi, rfl, hs.same k13, fun a4 ha4 => ?_⟩
        obtain ⟨d3, e3⟩ := hm3
        obtain ⟨d4, e4⟩ := id ha4
        refine ⟨m3, d3, _, rfl, e3, .inl ⟨a4, d4, _, rfl, e4⟩, m3, .ref a4, rMul z (d : Rat), u, rfl, ⟨d3, e3⟩, .inr ⟨a4, rfl, d4, e4⟩, (rMul_sz2 sz sd).mono (by decide), su.mono (by decide), trivial, fun n5 H5 k5 hn5 => ?_⟩
        have k15 := k13.trans k5
        refine ⟨_, rfl, c, _, _, .bl b, rfl, rfl, SqT.of ((k3.trans k5) _ _ ec), rfl, (by show 2 ≤ sizeLine; decide), fun t ht => ?_⟩
        have up : Same H5 (upd H5 t (.tup [.ref n5, .bl b])) := fun b o e => by rw [upd_ne (ne_of_none e ht)]; exact e
        have ct : CutR K (upd H5 t (.tup [.ref n5, .bl b])) t (rSub (rMul z (d : Rat)) u) b := ⟨n5, upd_same, hn5.same up⟩
        have k16 := k15.trans up
        generalize upd H5 t (.tup [.ref n5, .bl b]) = H6 at *
        refine ⟨_, rfl, p, _, dx, _, _, rfl, k16 _ _ ep, T.cl, T.nF, rfl, _, rfl, c1, t, q, rSub (rMul z (d : Rat)) u, false, b, rfl, h1.same k16, ct, sq.mono (by decide), nSz, fun H7 k7 => ⟨_, rfl, ?_⟩⟩
        have k17 := k16.trans k7
        cases hC : cAhead q false (rSub (rMul z (d : Rat)) u) b with
        | false =>
          rw [if_pos hC] at k
          exact iteT ⟨_, rfl, p, _, dx, _, _, rfl, k17 _ _ ep, T.cl, T.nF, rfl, k c1 H7 k17 (h1.same k17)⟩
        | true =>
          rw [if_neg (by rw [hC]; decide)] at k
          refine iteF ⟨_, rfl, _, rfl, p, _, dx, _, _, rfl, k17 _ _ ep, T.cl, T.nS, rfl, t, c2, rSub (rMul z (d : Rat)) u, r, b, true, rfl, ct.same k7, h2.same k17, nSz, sr.mono (by decide), fun H8 k8 => ⟨_, rfl, ?_⟩⟩
          have k18 := k17.trans k8
          cases hD : cAhead (rSub (rMul z (d : Rat)) u) b r true with
          | true =>
            rw [if_pos hD] at k
            exact iteT ⟨_, rfl, k t H8 k18 (ct.same (k7.trans k8))⟩
          | false =>
            rw [if_neg (by rw [hD]; decide)] at k
            exact iteF ⟨_, rfl, p, _, dx, _, _, rfl, k18 _ _ ep, T.cl, T.nS, rfl, k c2 H8 k18 (h2.same k18)⟩
/-! ### back -/
def spBack (K : PySem.W.Frag) : Sp := fun vs H Q _ => ∃ (s g : Addr) (x : V) (d : Int) (u lo hi q r z : Rat) (b : Bool), vs = [.ref s, x, .ref g] ∧ MovAt K H s d u lo hi ∧ CutAt K H x z b ∧ RngAt K H g q r ∧ Sz 1000 u ∧ Sz 1000 lo ∧ Sz 1000 hi ∧ Sz 1000 q ∧ Sz 1000 r ∧ Sz 1000 z ∧ Sz 1000 (d : Rat) ∧
  ∀ c' H', Same H H' → CutR K H' c' (cLed d u lo hi q r z b).1 (cLed d u lo hi q r z b).2 → Q (.ref c') H'
theorem scBack : FnScope ["self", "cut", "within", "ratio"] ["self", "cut", "within"] (defScope (sMove 12)) := ⟨rfl, rfl, rfl, by decide +kernel, rfl, by decide +kernel, by decide +kernel⟩
theorem ok_back {f fI fL : Addr} {fd fdI fdL : FuncData} (F : FunD K "back" "Move.back" (defArgs (sMove 12)) (defBody (sMove 12)) (defScope (sMove 12)) [] [] f fd) (S : RS P w K mg base)
    (FI : FunD K "__init__" "WayBack.__init__" (defArgs (sWay 0)) (defBody (sWay 0)) (defScope (sWay 0)) [] [] fI fdI) (MI : Mk K (aW K) fI) (bI : Binds K fdI ["self", "move", "within"] [])
    (FL : FunD K "led" "WayBack.led" (defArgs (sWay 1)) (defBody (sWay 1)) (defScope (sWay 1)) [] [] fL fdL) (mL : Meth K (aW K) "led" fL) (bL : Binds K fdL ["self", "cut"] []) : FnOk P w K mg base CX0 10 f fd ["self", "cut", "within"] (spBack K) := by
  have GI : FnOk P w K mg base CX0 8 fI fdI ["self", "move", "within"] (spWInit K) := ok_wInit FI S.R
  have GLd : FnOk P w K mg base CX0 7 fL fdL ["self", "cut"] (spLed K) := ok_led FL S
  obtain ⟨fR, fdR, GR, gR, bR, kR⟩ := S.R.O.chkR
  obtain ⟨fC, fdC, GC, gC, bC, kC⟩ := S.R.O.N.M.L.C.J.rc
  have T := S.R.T
  refine F.ok scBack (fun vs H Q E h => ?_) (fun cdv A outer s H vs Q E hr h => ?_)
  · obtain ⟨s, g, x, d, u, lo, hi, q, r, z, b, rfl, _⟩ := h
    rfl
  · obtain ⟨s, g, x, d, u, lo, hi, q, r, z, b, rfl, hs, hx, hg, su, sl, sh, sq, sr, sz, sd, k⟩ := h
    refine ⟨_, pss_cons (ps_set (i := 3) scBack.nd rfl (Or.inl rfl) (pe_call GC (hr.mono (by decide)) rfl gC kC bC .nil pass0 (pa_cons (pv 1) pa_nil)))
      (pss_cons (ps_expr (pe_call GR (hr.mono (by decide)) rfl gR kR bR .nil pass0 (pa_cons (pv 2) pa_nil)))
      (pss_one (ps_ret (pe_meth (pe_make MI GI (hr.mono (by decide)) rfl T.gW bI .nil pass0 (pa_cons (pv 0) (pa_cons (pv 2) pa_nil))) T.cl mL GLd (hr.mono (by decide)) bL .nil pass0 (pa_cons (pv 3) pa_nil))))), ?_⟩
    refine ⟨_, rfl, x, z, b, rfl, hx, fun c1 z1 H1 k1 hc1 hz1 => ?_⟩
    refine ⟨_, rfl, g, q, r, rfl, hg.same k1, ?_⟩
    refine ⟨_, rfl, _, rfl, fun p dx hp hd ne => ?_⟩
    have up : Same H1 (upd (upd H1 dx (.own p)) p (.ins (aW K) dx [])) := fun b o e => by rw [upd_ne (ne_of_none e hp), upd_ne (ne_of_none e hd)]; exact e
    have k1u := k1.trans up
    refine ⟨p, dx, s, g, d, u, lo, hi, q, r, rfl, upd_same, hs.same k1u, hg.same k1u, su, sl, sh, sq, sr, sd, fun H2 k2 hw => ⟨rfl, ?_⟩⟩
    have k12 : Same H1 H2 := fun b o e => k2 b o (by
      rw [off_ne (ne_of_none e hp)]
      exact up b o e)
    obtain ⟨dy, s', c1', c2', c3', c4', ep, rest⟩ := id hw
    exact ⟨p, dy, _, rfl, ep, rfl, _, rfl, p, c1, d, u, lo, hi, q, r, z, b, rfl, hw, CutR.same ⟨z1, hc1, hz1⟩ k12, su, sl, sh, sq, sr, sz, sd, fun c' H3 k3 hc' => k c' H3 ((k1.trans k12).trans k3) hc'⟩
end
end K18
set_option maxHeartbeats 4000000
namespace K18
open PySem PySem.Spec PyProof.Rows L2 GL
theorem cHeld_le {lo hi z : Rat} (l : lo ≤ hi) : lo ≤ cHeld lo hi z ∧ cHeld lo hi z ≤ hi := by
  unfold cHeld
  simp only [rBelow_iff]
  by_cases a : z < lo
  · rw [if_pos a]
    exact ⟨Rat.le_refl, l⟩
  · rw [if_neg a]
    by_cases b : hi < z
    · rw [if_pos b]
      exact ⟨l, Rat.le_refl⟩
    · rw [if_neg b]
      exact ⟨Rat.not_lt.mp a, Rat.not_lt.mp b⟩
theorem cHeld_mono {lo hi z y : Rat} (l : lo ≤ hi) (h : z ≤ y) : cHeld lo hi z ≤ cHeld lo hi y := by
  have b1 := cHeld_le (z := z) l
  have b2 := cHeld_le (z := y) l
  by_cases a : z < lo
  · have e1 : cHeld lo hi z = lo := by
      unfold cHeld
      simp only [rBelow_iff]
      rw [if_pos a]
    rw [e1]
    exact b2.1
  · by_cases b : hi < y
    · have a2 : ¬ y < lo := fun c => Rat.not_lt.mpr l (Std.lt_trans b c)
      have e2 : cHeld lo hi y = hi := by
        unfold cHeld
        simp only [rBelow_iff]
        rw [if_neg a2, if_pos b]
      rw [e2]
      exact b1.2
    · have a2 : ¬ y < lo := fun c => a (Std.lt_of_le_of_lt h c)
      have b3 : ¬ hi < z := fun c => b (Std.lt_of_lt_of_le c h)
      unfold cHeld
      simp only [rBelow_iff]
      rw [if_neg a, if_neg b3, if_neg a2, if_neg b]
      exact h
theorem cHeld_sz {lo hi z : Rat} {n : Nat} (a : Sz n lo) (b : Sz n hi) (c : Sz n z) : Sz n (cHeld lo hi z) := by
  unfold cHeld
  split
  · exact a
  · split
    · exact b
    · exact c
structure RT (P : Program) (w : World) (K : PySem.W.Frag) (mg : Str → Option Value) (base : Heap) : Prop where
  S : RS P w K mg base
  sign : PropX P w K mg base (aR K) "sign" (spSign K)
section
variable {P : Program} {w : World} {K : PySem.W.Frag} {mg : Str → Option Value} {base : Heap}
/-! ### _fixed -/
def spFixed (K : PySem.W.Frag) : Sp := fun vs H Q _ => ∃ (s : Addr) (d : Int) (u lo hi : Rat), vs = [.ref s] ∧ MovAt K H s d u lo hi ∧ d ≠ 1 ∧ Sz 1000 u ∧ Sz 1000 ((d - 1 : Int) : Rat) ∧ ∀ p H', Same H H' → RatAt K H' p (rOver u ((d - 1 : Int) : Rat)) → Q (.ref p) H'
theorem scFixed : FnScope ["self"] ["self"] (defScope (sMove 22)) := ⟨rfl, rfl, rfl, by decide +kernel, rfl, by decide +kernel, by decide +kernel⟩
theorem ok_fixed {f : Addr} {fd : FuncData} (F : FunD K "_fixed" "Move._fixed" (defArgs (sMove 22)) (defBody (sMove 22)) (defScope (sMove 22)) [] [] f fd) (T : RT P w K mg base) : FnOk P w K mg base CX0 6 f fd ["self"] (spFixed K) := by
  obtain ⟨fV, fdV, mV, GV, bV⟩ := T.S.R.O.N.M.L.C.over
  have TR := T.S.R.O.N.M.L.C.J.I.R.G.T
  have TM := T.S.R.O.N.M.T
  refine F.ok scFixed (fun vs H Q E h => ?_) (fun cdv A outer s H vs Q E hr h => ?_)
  · obtain ⟨s, d, u, lo, hi, rfl, _⟩ := h
    rfl
  · obtain ⟨s, d, u, lo, hi, rfl, ⟨d1, le, dx, pa, pb, pc, es, ha, hb, hc⟩, ne, su, sd, k⟩ := h
    obtain ⟨da, ea⟩ := ha
    refine ⟨_, pss_one (ps_ret (pe_meth (pe_fld (pv 0) rfl) TR.cl mV GV hr bV .nil pass0 (pa_cons (pe_op op_sub (pe_fld (pv 0) rfl) pe_int) pa_nil))), ?_⟩
    refine ⟨_, rfl, s, _, dx, _, _, rfl, es, TM.cl, TM.nP, rfl, pa, da, _, rfl, ea, rfl, _, rfl, s, _, dx, _, _, rfl, es, TM.cl, TM.nD, rfl, _, _, rfl, rfl, ?_⟩
    exact ⟨pa, .int (d - 1), u, ((d - 1 : Int) : Rat), rfl, ⟨da, ea⟩, .inl ⟨d - 1, rfl, rfl⟩, su.mono (by decide), sd.mono (by decide), (by show ((d - 1 : Int) : Rat).num ≠ 0; rw [Rat.num_intCast]; omega), fun p H' k' hp => k p H' k' hp⟩
end
end K18
set_option maxHeartbeats 4000000
namespace K18
open PySem PySem.Spec PyProof.Rows L2 GL
def cLim (d : Int) (u lo hi z : Rat) : Rat := if 1 < d then cHeld lo hi (rOver u ((d - 1 : Int) : Rat)) else if u.num.sign = 0 then cHeld lo hi z else if 0 < u.num.sign then hi else lo
structure RU (P : Program) (w : World) (K : PySem.W.Frag) (mg : Str → Option Value) (base : Heap) : Prop where
  T : RT P w K mg base
  held : MetX P w K mg base (aM K) "_held" 6 ["self", "ratio"] (spHeld K)
  fixed : MetX P w K mg base (aM K) "_fixed" 6 ["self"] (spFixed K)
  then_ : MetX P w K mg base (aM K) "then" 8 ["self", "other"] (spThen K)
  isInt : DefF P w K mg base "is_integer" 1 ["value"] (spIsInt K)
  range : mg "range" = none
section
variable {P : Program} {w : World} {K : PySem.W.Frag} {mg : Str → Option Value} {base : Heap}
/-! ### _limit_of -/
def spLimOf (K : PySem.W.Frag) : Sp := fun vs H Q _ => ∃ (s r : Addr) (d : Int) (u lo hi z : Rat), vs = [.ref s, .ref r] ∧ MovAt K H s d u lo hi ∧ RatAt K H r z ∧ Sz 1000 u ∧ Sz 1000 z ∧ Sz 1000 lo ∧ Sz 1000 hi ∧ Sz 1000 (d : Rat) ∧ Sz 1000 ((d - 1 : Int) : Rat) ∧ ∀ p H', Same H H' → RatAt K H' p (cLim d u lo hi z) → Q (.ref p) H'
theorem scLimOf : FnScope ["self", "ratio"] ["self", "ratio"] (defScope (sMove 21)) := ⟨rfl, rfl, rfl, by decide +kernel, rfl, by decide +kernel, by decide +kernel⟩
theorem ok_limOf {f : Addr} {fd : FuncData} (F : FunD K "_limit_of" "Move._limit_of" (defArgs (sMove 21)) (defBody (sMove 21)) (defScope (sMove 21)) [] [] f fd) (U : RU P w K mg base) : FnOk P w K mg base CX0 9 f fd ["self", "ratio"] (spLimOf K) := by
  obtain ⟨fH, fdH, mH, GH, bH⟩ := U.held
  obtain ⟨fX, fdX, mX, GX, bX⟩ := U.fixed
  obtain ⟨p1, g1, fd1, P1, G1, b1⟩ := U.T.sign
  have TR := U.T.S.R.O.N.M.L.C.J.I.R.G.T
  have TM := U.T.S.R.O.N.M.T
  refine F.ok scLimOf (fun vs H Q E h => ?_) (fun cdv A outer s H vs Q E hr h => ?_)
  · obtain ⟨s, r, d, u, lo, hi, z, rfl, _⟩ := h
    rfl
  · obtain ⟨s, r, d, u, lo, hi, z, rfl, hs, hz, su, sz, sl, sh, sd, sd1, k⟩ := h
    obtain ⟨d1, le, dx, pa, pb, pc, es, ha, hb, hc⟩ := id hs
    obtain ⟨da, ea⟩ := id ha
    refine ⟨_, pss_cons (ps_if (pt_cmpR op_gt (pe_fld (pv 0) rfl) pe_int (nomark _)) (pss_one (ps_ret (pe_meth (pv 0) TM.cl mH GH (hr.mono (by decide)) bH .nil pass0 (pa_cons (pe_meth0 (pv 0) TM.cl mX GX (hr.mono (by decide)) bX .nil pass0) pa_nil)))) pss_nil)
      (pss_cons (ps_if (pt_cmpR op_eq (pe_prop (pe_fld (pv 0) rfl) TR.cl P1 G1 (hr.mono (by decide)) b1 .nil pass0 rfl) pe_int (nomark _)) (pss_one (ps_ret (pe_meth (pv 0) TM.cl mH GH (hr.mono (by decide)) bH .nil pass0 (pa_cons (pv 1) pa_nil)))) pss_nil)
      (pss_one (ps_ret (pe_ifExp (pt_cmpR op_gt (pe_prop (pe_fld (pv 0) rfl) TR.cl P1 G1 (hr.mono (by decide)) b1 .nil pass0 rfl) pe_int (nomark _)) (pe_fld (pv 0) rfl) (pe_fld (pv 0) rfl))))), ?_⟩
    unfold cLim at k
    refine ⟨_, rfl, s, _, dx, _, _, rfl, es, TM.cl, TM.nD, rfl, _, _, rfl, rfl, _, rfl, ?_⟩
    refine ite2 (fun e => ?_) (fun e => ?_)
    · have e1 : 1 < d := of_decide_eq_true e
      rw [if_pos e1] at k
      refine ⟨_, rfl, s, dx, _, rfl, es, rfl, _, rfl, s, dx, _, rfl, es, rfl, s, d, u, lo, hi, rfl, hs, by omega, su, sd1, fun p H1 k1 hp => ?_⟩
      have so : Sz 100000 (rOver u ((d - 1 : Int) : Rat)) := (rOver_sz su sd1 (by rw [Rat.num_intCast]; omega)).mono (by decide)
      exact ⟨s, p, d, u, lo, hi, _, rfl, hs.same k1, hp, so, sl.mono (by decide), sh.mono (by decide), fun p2 H2 k2 hp2 => k p2 H2 (k1.trans k2) hp2⟩
    · have e1 : ¬ 1 < d := fun z => e (decide_eq_true z)
      rw [if_neg e1] at k
      refine ⟨_, rfl, s, _, dx, _, _, rfl, es, TM.cl, TM.nP, rfl, pa, da, _, rfl, ea, pa, u, rfl, ha, rfl, _, rfl, ?_⟩
      refine ite2 (fun c => ?_) (fun c => ?_)
      · have c1 : u.num.sign = 0 := by
          have := of_decide_eq_true c
          injection this
        rw [if_pos c1] at k
        exact ⟨_, rfl, s, dx, _, rfl, es, rfl, _, rfl, s, r, d, u, lo, hi, z, rfl, hs, hz, sz.mono (by decide), sl.mono (by decide), sh.mono (by decide), fun p2 H2 k2 hp2 => k p2 H2 k2 hp2⟩
      · have c1 : ¬ u.num.sign = 0 := fun z => c (decide_eq_true (by rw [z]))
        rw [if_neg c1] at k
        refine ⟨_, rfl, s, _, dx, _, _, rfl, es, TM.cl, TM.nP, rfl, pa, da, _, rfl, ea, pa, u, rfl, ha, _, _, rfl, rfl, _, rfl, ?_⟩
        refine ite2 (fun c2 => ?_) (fun c2 => ?_)
        · have c3 : 0 < u.num.sign := of_decide_eq_true c2
          rw [if_pos c3] at k
          exact ⟨_, rfl, s, _, dx, _, _, rfl, es, TM.cl, TM.nH, rfl, k pc H (fun _ _ e => e) hc⟩
        · have c3 : ¬ 0 < u.num.sign := fun z => c2 (decide_eq_true z)
          rw [if_neg c3] at k
          exact ⟨_, rfl, s, _, dx, _, _, rfl, es, TM.cl, TM.nL, rfl, k pb H (fun _ _ e => e) hb⟩
/-! ### _raised -/
def spRaised (K : PySem.W.Frag) : Sp := fun vs H Q _ => ∃ (s : Addr) (d n : Int) (u lo hi : Rat), vs = [.ref s, .int n] ∧ MovAt K H s d u lo hi ∧ 1 ≤ n ∧ Sz 1000 (n : Rat) ∧ Sz 1000 ((n - 1 : Int) : Rat) ∧ Sz 1000 u ∧ Sz 1000 lo ∧ Sz 1000 hi ∧
  ∀ p H', Same H H' → MovAt K H' p 1 (rMul u (n : Rat)) (cHeld lo hi (rAdd lo (rMul u ((n - 1 : Int) : Rat)))) (cHeld lo hi (rAdd hi (rMul u ((n - 1 : Int) : Rat)))) → Q (.ref p) H'
theorem scRaised : FnScope ["self", "times", "rest"] ["self", "times"] (defScope (sMove 18)) := ⟨rfl, rfl, rfl, by decide +kernel, rfl, by decide +kernel, by decide +kernel⟩
theorem ok_raised {f : Addr} {fd : FuncData} (F : FunD K "_raised" "Move._raised" (defArgs (sMove 18)) (defBody (sMove 18)) (defScope (sMove 18)) [] [] f fd) (U : RU P w K mg base) : FnOk P w K mg base CX0 9 f fd ["self", "times"] (spRaised K) := by
  obtain ⟨fH, fdH, mH, GH, bH⟩ := U.held
  obtain ⟨fM, oM, GM⟩ := U.T.S.R.O.N.mul
  obtain ⟨fA, oA, GA⟩ := U.T.S.R.O.N.M.L.C.add
  obtain ⟨fI, fdI, MI, GI, bI⟩ := U.T.S.R.O.N.make
  have TM := U.T.S.R.O.N.M.T
  refine F.ok scRaised (fun vs H Q E h => ?_) (fun cdv A outer s H vs Q E hr h => ?_)
  · obtain ⟨s, d, n, u, lo, hi, rfl, _⟩ := h
    rfl
  · obtain ⟨s, d, n, u, lo, hi, rfl, hs, n1, sn, sn1, su, sl, sh, k⟩ := h
    obtain ⟨d1, le, dx, pa, pb, pc, es, ha, hb, hc⟩ := id hs
    obtain ⟨da, ea⟩ := id ha
    refine ⟨_, pss_cons (ps_set (i := 2) scRaised.nd rfl (Or.inl rfl) (pe_op (op_own (.inr (.inr rfl)) oM GM (hr.mono (by decide)) pass0) (pe_fld (pv 0) rfl) (pe_op op_sub (pv 1) pe_int)))
      (pss_one (ps_ret (pe_make MI GI (hr.mono (by decide)) rfl TM.gM bI .nil pass0 (pa_cons pe_int (pa_cons (pe_op (op_own (.inr (.inr rfl)) oM GM (hr.mono (by decide)) pass0) (pe_fld (pv 0) rfl) (pv 1))
        (pa_cons (pe_meth (pv 0) TM.cl mH GH (hr.mono (by decide)) bH .nil pass0 (pa_cons (pe_op (op_own (.inl rfl) oA GA (hr.mono (by decide)) pass0) (pe_fld (pv 0) rfl) (pv 2)) pa_nil))
        (pa_cons (pe_meth (pv 0) TM.cl mH GH (hr.mono (by decide)) bH .nil pass0 (pa_cons (pe_op (op_own (.inl rfl) oA GA (hr.mono (by decide)) pass0) (pe_fld (pv 0) rfl) (pv 2)) pa_nil)) pa_nil))))))), ?_⟩
    have sr := rMul_sz2 su sn1
    have lh := rBelow_not.mp le
    refine ⟨_, rfl, s, _, dx, _, _, rfl, es, TM.cl, TM.nP, rfl, _, rfl, _, _, rfl, rfl, pa, da, _, rfl, ea, .inr ⟨_, rfl⟩, ?_⟩
    refine ⟨pa, .int (n - 1), u, ((n - 1 : Int) : Rat), rfl, ha, .inl ⟨_, rfl, rfl⟩, su.mono (by decide), sn1.mono (by decide), trivial, fun r H1 k1 hr1 => ?_⟩
    obtain ⟨dr, er⟩ := id hr1
    refine ⟨_, rfl, s, _, dx, _, _, rfl, k1 _ _ es, TM.cl, TM.nP, rfl, _, rfl, pa, da, _, rfl, k1 _ _ ea, .inr ⟨_, rfl⟩, ?_⟩
    refine ⟨pa, .int n, u, (n : Rat), rfl, ha.same k1, .inl ⟨_, rfl, rfl⟩, su.mono (by decide), sn.mono (by decide), trivial, fun m H2 k2 hm => ?_⟩
    have k12 := k1.trans k2
    obtain ⟨db, eb⟩ := id (hb.same k12)
    refine ⟨_, rfl, s, dx, _, rfl, k12 _ _ es, rfl, _, rfl, s, _, dx, _, _, rfl, k12 _ _ es, TM.cl, TM.nL, rfl, _, rfl, pb, db, _, rfl, eb, .inl ⟨r, dr, _, rfl, k2 _ _ er⟩, ?_⟩
    refine ⟨pb, .ref r, lo, _, rfl, ⟨db, eb⟩, .inr ⟨r, rfl, hr1.same k2⟩, sl.mono (by decide), sr.mono (by decide), trivial, fun x H3 k3 hx => ?_⟩
    have k13 := k12.trans k3
    have s1 : Sz 100000 (rAdd lo (rMul u ((n - 1 : Int) : Rat))) := (rAdd_sz2 sl sr).mono (by decide)
    have s2 : Sz 100000 (rAdd hi (rMul u ((n - 1 : Int) : Rat))) := (rAdd_sz2 sh sr).mono (by decide)
    refine ⟨s, x, d, u, lo, hi, _, rfl, hs.same k13, hx, s1, sl.mono (by decide), sh.mono (by decide), fun x2 H4 k4 hx2 => ?_⟩
    have k14 := k13.trans k4
    obtain ⟨dc, ec⟩ := id (hc.same k14)
    refine ⟨_, rfl, s, dx, _, rfl, k14 _ _ es, rfl, _, rfl, s, _, dx, _, _, rfl, k14 _ _ es, TM.cl, TM.nH, rfl, _, rfl, pc, dc, _, rfl, ec, .inl ⟨r, dr, _, rfl, (k2.trans (k3.trans k4)) _ _ er⟩, ?_⟩
    refine ⟨pc, .ref r, hi, _, rfl, ⟨dc, ec⟩, .inr ⟨r, rfl, hr1.same (k2.trans (k3.trans k4))⟩, sh.mono (by decide), sr.mono (by decide), trivial, fun y H5 k5 hy => ?_⟩
    have k15 := k14.trans k5
    refine ⟨s, y, d, u, lo, hi, _, rfl, hs.same k15, hy, s2, sl.mono (by decide), sh.mono (by decide), fun y2 H6 k6 hy2 => ?_⟩
    intro x0 dz hx0 hd ne
    have mono : rBelow (cHeld lo hi (rAdd hi (rMul u ((n - 1 : Int) : Rat)))) (cHeld lo hi (rAdd lo (rMul u ((n - 1 : Int) : Rat)))) = false := by
      refine rBelow_not.mpr (cHeld_mono lh ?_)
      rw [rAdd_eq, rAdd_eq]
      exact Rat.add_le_add_right.mpr lh
    exact made_mov hx0 hd ne (by decide) (.inr ⟨m, rfl, hm.same (k3.trans (k4.trans (k5.trans k6)))⟩) (.inr ⟨x2, rfl, hx2.same (k5.trans k6)⟩) (.inr ⟨y2, rfl, hy2⟩) (cHeld_sz (sl.mono (by decide)) (sh.mono (by decide)) s1) (cHeld_sz (sl.mono (by decide)) (sh.mono (by decide)) s2) mono fun p H7 k7 _ hp => k p H7 ((k15.trans k6).trans k7) hp
end
end K18
set_option maxHeartbeats 4000000
namespace K18
open PySem PySem.Spec PyProof.Rows L2 GL
structure MvQ where
  d : Int
  u : Rat
  lo : Rat
  hi : Rat
def thenQ (m s : MvQ) : MvQ := ⟨m.d * s.d, rAdd m.u (rMul s.u (m.d : Rat)), mAt s.d s.u s.lo s.hi m.lo, mAt s.d s.u s.lo s.hi m.hi⟩
def iterQ (s : MvQ) : Nat → MvQ
  | 0 => s
  | n + 1 => thenQ (iterQ s n) s
def raisedQ (s : MvQ) (n : Int) : MvQ := ⟨1, rMul s.u (n : Rat), cHeld s.lo s.hi (rAdd s.lo (rMul s.u ((n - 1 : Int) : Rat))), cHeld s.lo s.hi (rAdd s.hi (rMul s.u ((n - 1 : Int) : Rat)))⟩
def doneQ (s : MvQ) (n : Int) : MvQ := if s.d = 1 then raisedQ s n else iterQ s (n - 1).toNat
def MvAt (K : PySem.W.Frag) (H : Hp) (p : Addr) (m : MvQ) : Prop := MovAt K H p m.d m.u m.lo m.hi
structure MvSz (n : Nat) (m : MvQ) : Prop where
  d : Sz n (m.d : Rat)
  u : Sz n m.u
  lo : Sz n m.lo
  hi : Sz n m.hi
theorem iter_sz {s : MvQ} (d1 : 1 ≤ s.d) (hd : Sz 8 (s.d : Rat)) (hu : Sz 100 s.u) (hl : Sz 100 s.lo) (hh : Sz 100 s.hi) : ∀ i : Nat, i ≤ 5 → Sz (8 * (i + 1)) ((iterQ s i).d : Rat) ∧ Sz (100 + 220 * i) (iterQ s i).u ∧ Sz (100 + 220 * i) (iterQ s i).lo ∧ Sz (100 + 220 * i) (iterQ s i).hi
  | 0, _ => ⟨hd, hu, hl, hh⟩
  | i + 1, h => by
    obtain ⟨a, b, c, e⟩ := iter_sz d1 hd hu hl hh i (by omega)
    refine ⟨?_, ?_, ?_, ?_⟩
    · refine int_sz (by omega) ?_
      have x := mul_lt (n := 8 * (i + 1)) (m := 8) a.1 hd.1
      rw [Rat.num_intCast, Rat.num_intCast] at x
      exact x
    · exact (rAdd_sz2 b (rMul_sz2 hu a)).mono (by omega)
    · exact (mAt_sz2 d1 hu c hd hl hh (by omega)).mono (by omega)
    · exact (mAt_sz2 d1 hu e hd hl hh (by omega)).mono (by omega)
structure RV (P : Program) (w : World) (K : PySem.W.Frag) (mg : Str → Option Value) (base : Heap) : Prop where
  U : RU P w K mg base
  raised : MetX P w K mg base (aM K) "_raised" 9 ["self", "times"] (spRaised K)
  most : ∃ t, mg "MOST_TIMES" = some (.int 100 t)
section
variable {P : Program} {w : World} {K : PySem.W.Frag} {mg : Str → Option Value} {base : Heap}
/-! ### done -/
def spDone (K : PySem.W.Frag) : Sp := fun vs H Q _ => ∃ (s : Addr) (n : Int) (m : MvQ), vs = [.ref s, .int n] ∧ MvAt K H s m ∧ 1 ≤ n ∧ n ≤ 4 ∧ Sz 8 (m.d : Rat) ∧ Sz 100 m.u ∧ Sz 100 m.lo ∧ Sz 100 m.hi ∧ ∀ p H', Same H H' → MvAt K H' p (doneQ m n) → Q (.ref p) H'
theorem scDone : FnScope ["self", "times", "move", "_"] ["self", "times"] (defScope (sMove 17)) := ⟨rfl, rfl, rfl, by decide +kernel, rfl, by decide +kernel, by decide +kernel⟩
theorem ok_done {f : Addr} {fd : FuncData} (F : FunD K "done" "Move.done" (defArgs (sMove 17)) (defBody (sMove 17)) (defScope (sMove 17)) [] [] f fd) (V : RV P w K mg base) : FnOk P w K mg base CX0 10 f fd ["self", "times"] (spDone K) := by
  obtain ⟨fI, fdI, GI, gI, bI, kI⟩ := V.U.isInt
  obtain ⟨fR, fdR, mR, GR, bR⟩ := V.raised
  obtain ⟨fT, fdT, mT, GT, bT⟩ := V.U.then_
  obtain ⟨tk, gM⟩ := V.most
  have TM := V.U.T.S.R.O.N.M.T
  refine F.ok scDone (fun vs H Q E h => ?_) (fun cdv A outer s H vs Q E hr h => ?_)
  · obtain ⟨s, n, m, rfl, _⟩ := h
    rfl
  · obtain ⟨s, n, m, rfl, hs, n1, n4, sd, su, sl, sh, k⟩ := h
    obtain ⟨d1, le, dx, pa, pb, pc, es, ha, hb, hc⟩ := id hs
    refine ⟨_, PSs.nox (pss_cons (ps_if (PW.pt (pw_or (pt_not (pt_val (pe_call GI (hr.mono (by decide)) rfl gI kI bI .nil pass0 (pa_cons (pv 1) pa_nil)))) (pw_or1 (pt_cmpR op_lt (pv 1) pe_int (nomark _))))) (pss_one ps_never) pss_nil)
      (pss_cons (ps_if (pt_cmpR op_eq (pe_fld (pv 0) rfl) pe_int (nomark _)) (pss_one (ps_ret (pe_meth (pv 0) TM.cl mR GR hr bR .nil pass0 (pa_cons (pv 1) pa_nil)))) pss_nil)
      (pss_cons (ps_if (pt_cmpR op_gt (pv 1) (pe_glob (v := .int 100) rfl gM ⟨_, rfl⟩) (nomark _)) (pss_one ps_never) pss_nil)
      (pss_cons (ps_set (i := 2) scDone.nd rfl (Or.inl rfl) (pv 0))
      (pss_cons (ps_for PassesOwn.never rfl (pi_range1 rfl V.U.range (pa_cons (pe_op op_sub (pv 1) pe_int) pa_nil)) (pg_name (i := 3) scDone.nd rfl (Or.inl rfl)) (pss_one (ps_set (i := 2) scDone.nd rfl (Or.inl rfl) (pe_meth (pv 2) TM.cl mT GT (hr.mono (by decide)) bT .nil pass0 (pa_cons (pv 0) pa_nil)))))
      (pss_one (ps_ret (pv 2)))))))), ?_⟩
    refine ⟨_, rfl, .int n, .type "int", true, false, rfl, .base (.int n), kit_ty (by decide +kernel), fun _ => kit_ty (by decide +kernel), true, rfl, ?_⟩
    refine iteF ⟨_, rfl, _, _, rfl, rfl, _, rfl, ?_⟩
    have e0 : decide (n < 1) = false := decide_eq_false (by omega)
    rw [e0]
    refine iteF ⟨_, rfl, s, _, dx, _, _, rfl, es, TM.cl, TM.nD, rfl, rfl, _, rfl, ?_⟩
    unfold doneQ at k
    refine ite2 (fun e => ?_) (fun e => ?_)
    · have e1 : m.d = 1 := by
        have := of_decide_eq_true e
        injection this
      rw [if_pos e1] at k
      have ns : Sz 1000 (n : Rat) := int_sz (by decide) (Nat.lt_of_lt_of_le (by omega : n.natAbs < 2 ^ 3) (Nat.pow_le_pow_right (by decide) (by decide)))
      have ns1 : Sz 1000 ((n - 1 : Int) : Rat) := int_sz (by decide) (Nat.lt_of_lt_of_le (by omega : (n - 1).natAbs < 2 ^ 3) (Nat.pow_le_pow_right (by decide) (by decide)))
      exact ⟨_, rfl, s, dx, _, rfl, es, rfl, _, rfl, s, m.d, n, m.u, m.lo, m.hi, rfl, hs, n1, ns, ns1, su.mono (by decide), sl.mono (by decide), sh.mono (by decide), fun p H' k' hp => k p H' k' hp⟩
    · have e1 : ¬ m.d = 1 := fun z => e (decide_eq_true (by rw [z]))
      rw [if_neg e1] at k
      refine ⟨_, rfl, _, _, rfl, rfl, _, rfl, ?_⟩
      have e2 : decide (n > 100) = false := decide_eq_false (by omega)
      rw [e2]
      refine iteF ⟨_, rfl, ?_⟩
      refine ⟨_, rfl, _, _, rfl, rfl, n - 1, rfl, by omega, by omega, ?_⟩
      have at_sz : ∀ i : Nat, i ≤ 5 → MvSz 2000 (iterQ m i) := fun i hi => by
        obtain ⟨a, b, c, e⟩ := iter_sz d1 sd su sl sh i hi
        exact ⟨a.mono (by omega), b.mono (by omega), c.mono (by omega), e.mono (by omega)⟩
      refine for_range (n := (n - 1).toNat) (fun i σ H' => Same H H' ∧ ∃ p rv, σ = [some (.ref s), some (.int n), some (.ref p), rv] ∧ MvAt K H' p (iterQ m i)) ?_ ?_ ?_
      · exact ⟨fun _ _ e => e, s, _, rfl, hs⟩
      · rintro i σ H1 hi ⟨k1, p, rv, rfl, hp⟩
        obtain ⟨a, b, c, e⟩ := iter_sz d1 sd su sl sh i (by omega)
        obtain ⟨p1, pl, py, qa, qb, qc, ep, _⟩ := id hp
        refine ⟨_, rfl, p, py, _, rfl, ep, rfl, _, rfl, p, s, (iterQ m i).d, m.d, (iterQ m i).u, (iterQ m i).lo, (iterQ m i).hi, m.u, m.lo, m.hi, rfl, hp, hs.same k1, b.mono (by omega), su.mono (by decide), c.mono (by omega), e.mono (by omega), sl.mono (by decide), sh.mono (by decide), a.mono (by omega), sd.mono (by decide), fun p2 H2 k2 hp2 => ?_⟩
        exact ⟨k1.trans k2, p2, _, rfl, hp2⟩
      · rintro σ H1 ⟨k1, p, rv, rfl, hp⟩
        exact ⟨_, rfl, k p H1 k1 hp⟩
end
end K18
set_option maxHeartbeats 4000000
namespace K18
open PySem PySem.Spec PyProof.Rows L2 GL
abbrev sWhole : Stmt := tp 33
/-! ### going on dividing -/
def shr (d : Int) (s : Rat) : Nat → Rat
  | 0 => s
  | n + 1 => rOver (shr d s n) (d : Rat)
theorem floor_less {d : Int} {s : Rat} (d2 : 2 ≤ d) (h : rBelow 1 s = true) : (rOver s (d : Rat)).floor.toNat < s.floor.toNat := by
  have h1 := rBelow_iff.mp h
  rw [rOver_eq]
  have f1 : 1 ≤ s.floor := Rat.le_floor_iff.mpr (Rat.le_of_lt h1)
  have p : (0 : Rat) < (d : Rat) := by
    have : (0 : Int) < d := by omega
    exact_mod_cast this
  have up : s < ((s.floor + 1 : Int) : Rat) := Rat.lt_floor_add_one s
  have le : s.floor + 1 ≤ s.floor * d := by
    have := Int.mul_le_mul_of_nonneg_left d2 (show (0 : Int) ≤ s.floor by omega)
    omega
  have le2 : ((s.floor + 1 : Int) : Rat) ≤ ((s.floor * d : Int) : Rat) := by exact_mod_cast le
  have lt : s / (d : Rat) < ((s.floor : Int) : Rat) := by
    rw [Rat.div_lt_iff p]
    have := Std.lt_of_lt_of_le up le2
    rw [Rat.intCast_mul] at this
    exact this
  have := Rat.floor_lt_iff.mpr lt
  omega
/-- the least number of divisions behind which it is no longer above 1 -/
def Least (d : Int) (s : Rat) (n : Nat) : Prop := (∀ j, j < n → rBelow 1 (shr d s j) = true) ∧ rBelow 1 (shr d s n) = false
theorem Least.one {d : Int} {s : Rat} {n m : Nat} (h : Least d s n) (k : Least d s m) : n = m := by
  rcases Nat.lt_trichotomy n m with z | z | z
  · have := k.1 n z
    rw [h.2] at this
    cases this
  · exact z
  · have := h.1 m z
    rw [k.2] at this
    cases this
theorem over_sz {d : Int} {s : Rat} {k : Nat} (d1 : 1 ≤ d) (hd : Sz 8 (d : Rat)) (hn : s.num.natAbs < 2 ^ k) (h : rBelow 1 s = true) : (rOver s (d : Rat)).num.natAbs < 2 ^ k ∧ Sz (k + 8) (rOver s (d : Rat)) := by
  have dp : (d : Rat).num = d := Rat.num_intCast _
  have dn : (d : Rat).den = 1 := Rat.den_intCast _
  have lt : (s.den : Int) < s.num := by
    unfold rBelow at h
    have := of_decide_eq_true h
    have e1 : (1 : Rat).num = 1 := rfl
    have e2 : (1 : Rat).den = 1 := rfl
    rw [e1, e2] at this
    omega
  have dl : s.den < 2 ^ k := by omega
  have b0 : (s.den : Int) * (d : Rat).num ≠ 0 := Int.mul_ne_zero (den_ne s) (by rw [dp]; omega)
  have num : (rOver s (d : Rat)).num.natAbs < 2 ^ k := by
    unfold rOver
    rw [Rat.num_divInt]
    refine Nat.lt_of_le_of_lt ?_ hn
    rw [Int.natAbs_ediv_of_dvd]
    · refine Nat.le_trans (Nat.div_le_self _ _) ?_
      rw [Int.natAbs_mul, Int.natAbs_sign_of_ne_zero b0, Nat.one_mul, dn]
      simp
    · exact Int.dvd_mul_of_dvd_right (Int.gcd_dvd_right _ _)
  refine ⟨num, Nat.lt_of_lt_of_le num (Nat.pow_le_pow_right (by decide) (by omega)), ?_⟩
  unfold rOver
  rw [Rat.den_divInt, if_neg b0]
  refine Nat.lt_of_le_of_lt (Nat.div_le_self _ _) ?_
  have x := mul_lt (i := (s.den : Int)) (j := (d : Rat).num) (n := k) (m := 8) (by rw [Int.natAbs_natCast]; exact dl) hd.1
  exact x
def cWhole (q : Rat) : Int := -((-q.num).fdiv (q.den : Int))
structure RW' (P : Program) (w : World) (K : PySem.W.Frag) (mg : Str → Option Value) (base : Heap) : Prop where
  V : RV P w K mg base
  limOf : MetX P w K mg base (aM K) "_limit_of" 9 ["self", "ratio"] (spLimOf K)
  top : PropX P w K mg base (aR K) "top" (fun vs H Q _ => ∃ (a : Addr) (q : Rat), vs = [.ref a] ∧ RatAt K H a q ∧ Q (.int q.num) H)
  bottom : PropX P w K mg base (aR K) "bottom" (fun vs H Q _ => ∃ (a : Addr) (q : Rat), vs = [.ref a] ∧ RatAt K H a q ∧ Q (.int (q.den : Int)) H)
section
variable {P : Program} {w : World} {K : PySem.W.Frag} {mg : Str → Option Value} {base : Heap}
/-! ### _whole_turns -/
def spWhole (K : PySem.W.Frag) : Sp := fun vs H Q _ => ∃ (a : Addr) (q : Rat), vs = [.ref a] ∧ RatAt K H a q ∧ Sz 8000 q ∧ Q (.int (cWhole q)) H
theorem scWhole : FnScope ["ratio"] ["ratio"] (defScope sWhole) := ⟨rfl, rfl, rfl, by decide +kernel, rfl, by decide +kernel, by decide +kernel⟩
theorem ok_whole {f : Addr} {fd : FuncData} (F : Fun K "_whole_turns" "_whole_turns" sWhole f fd) (W : RW' P w K mg base) : FnOk P w K mg base CX0 3 f fd ["ratio"] (spWhole K) := by
  obtain ⟨p1, g1, fd1, P1, G1, b1⟩ := W.top
  obtain ⟨p2, g2, fd2, P2, G2, b2⟩ := W.bottom
  have TR := W.V.U.T.S.R.O.N.M.L.C.J.I.R.G.T
  refine F.ok scWhole (fun vs H Q E h => ?_) (fun cdv A outer s H vs Q E hr h => ?_)
  · obtain ⟨a, q, rfl, _⟩ := h
    rfl
  · obtain ⟨a, q, rfl, ha, sq, k⟩ := h
    obtain ⟨da, ea⟩ := id ha
    refine ⟨_, pss_one (ps_ret (pe_un un_neg (pe_op op_fdivZ (pe_un un_neg (pe_prop (pv 0) TR.cl P1 G1 hr b1 .nil pass0 rfl)) (pe_prop (pv 0) TR.cl P2 G2 hr b2 .nil pass0 rfl)))), ?_⟩
    refine ⟨_, rfl, a, da, _, rfl, ea, a, q, rfl, ha, _, rfl, _, rfl, a, da, _, rfl, ea, a, q, rfl, ha, _, _, rfl, rfl, ⟨den_ne q, log2_lt (Nat.lt_of_lt_of_le sq.den (Nat.pow_le_pow_right (by decide) (by decide))) (by decide)⟩, _, rfl, k⟩
/-! ### _turns_from -/
def spTurns (K : PySem.W.Frag) : Sp := fun vs H Q _ => ∃ (s r l : Addr) (d : Int) (u lo hi R L : Rat), vs = [.ref s, .ref r, .ref l] ∧ MovAt K H s d u lo hi ∧ RatAt K H r R ∧ RatAt K H l L ∧ 2 ≤ d ∧ Sz 8 (d : Rat) ∧ Sz 100 u ∧ Sz 200 R ∧ Sz 200 L ∧
  ((rOver u ((d - 1 : Int) : Rat) = L → ∀ H', Same H H' → Q .non H') ∧ (rOver u ((d - 1 : Int) : Rat) ≠ L → ∀ n H', Same H H' → Least d (rOver (rSub R (rOver u ((d - 1 : Int) : Rat))) (rSub L (rOver u ((d - 1 : Int) : Rat)))) n → Q (.int (1 + (n : Int))) H'))
theorem scTurns : FnScope ["self", "result", "limit", "fixed", "turns", "share"] ["self", "result", "limit"] (defScope (sMove 23)) := ⟨rfl, rfl, rfl, by decide +kernel, rfl, by decide +kernel, by decide +kernel⟩
theorem sub_ne {q r : Rat} (h : q ≠ r) : (rSub r q).num ≠ 0 := by
  intro z
  have e : rSub r q = 0 := Rat.num_eq_zero.mp z
  rw [rSub_eq] at e
  have c : r - q + q = r := Rat.sub_add_cancel
  rw [e, Rat.zero_add] at c
  exact h c
theorem ok_turns {f : Addr} {fd : FuncData} (F : FunD K "_turns_from" "Move._turns_from" (defArgs (sMove 23)) (defBody (sMove 23)) (defScope (sMove 23)) [] [] f fd) (W : RW' P w K mg base) : FnOk P w K mg base CX0 8 f fd ["self", "result", "limit"] (spTurns K) := by
  obtain ⟨fX, fdX, mX, GX, bX⟩ := W.V.U.fixed
  obtain ⟨fE, oE, GE⟩ := W.V.U.T.S.R.O.N.M.L.C.J.I.eq
  obtain ⟨fB, fdB, mB, GB, bB⟩ := W.V.U.T.S.R.O.N.M.L.C.J.I.below
  obtain ⟨mc, pp, fo, cr, cm, GO⟩ := W.V.U.T.S.R.O.N.M.L.C.J.I.R.of
  obtain ⟨fV, fdV, mV, GV, bV⟩ := W.V.U.T.S.R.O.N.M.L.C.over
  obtain ⟨fS, oS, GS⟩ := W.V.U.T.S.R.O.N.sub
  have TR := W.V.U.T.S.R.O.N.M.L.C.J.I.R.G.T
  have TM := W.V.U.T.S.R.O.N.M.T
  refine F.ok scTurns (fun vs H Q E h => ?_) (fun cdv A outer s H vs Q E hr h => ?_)
  · obtain ⟨s, r, l, d, u, lo, hi, R, L, rfl, _⟩ := h
    rfl
  · obtain ⟨s, r, l, d, u, lo, hi, R, L, rfl, hs, hR, hL, d2, sd, su, sR, sL, kN, kT⟩ := h
    obtain ⟨d1, le, dx, pa, pb, pc, es, ha, hb, hc⟩ := id hs
    refine ⟨_, PSs.nox (pss_cons (ps_set (i := 3) scTurns.nd rfl (Or.inl rfl) (pe_meth0 (pv 0) TM.cl mX GX (hr.mono (by decide)) bX .nil pass0))
      (pss_cons (ps_if (pt_cmpR (op_eqO oE GE (hr.mono (by decide)) pass0) (pv 3) (pv 2) (nomark _)) (pss_one (ps_ret pe_non)) pss_nil)
      (pss_cons (ps_set (i := 4) scTurns.nd rfl (Or.inl rfl) pe_int)
      (pss_cons (ps_set (i := 5) scTurns.nd rfl (Or.inl rfl) (pe_meth (pe_op (op_own (.inr (.inl rfl)) oS GS (hr.mono (by decide)) pass0) (pv 1) (pv 3)) TR.cl mV GV (hr.mono (by decide)) bV .nil pass0 (pa_cons (pe_op (op_own (.inr (.inl rfl)) oS GS (hr.mono (by decide)) pass0) (pv 2) (pv 3)) pa_nil)))
      (pss_cons (ps_while PassesOwn.never (pt_val (pe_meth (ClX.pe_cmeth (pe_glob (v := .ref (aR K)) rfl TR.gR rfl) cr cm GO (hr.mono (by decide)) pass0 (pa_cons pe_int pa_nil)) TR.cl mB GB (hr.mono (by decide)) bB .nil pass0 (pa_cons (pv 5) pa_nil)))
        (pss_cons (ps_set (i := 5) scTurns.nd rfl (Or.inl rfl) (pe_meth (pv 5) TR.cl mV GV (hr.mono (by decide)) bV .nil pass0 (pa_cons (pe_fld (pv 0) rfl) pa_nil))) (pss_one (ps_aug (i := 4) scTurns.nd rfl (.inl rfl) pe_int ip_add))))
      (pss_one (ps_ret (pv 4)))))))), ?_⟩
    have s1 : Sz 8 ((d - 1 : Int) : Rat) := int_sz (by decide) (by
      have := sd.1
      rw [Rat.num_intCast] at this
      omega)
    have nz1 : (((d - 1 : Int) : Rat)).num ≠ 0 := by rw [Rat.num_intCast]; omega
    have sf : Sz 108 (rOver u ((d - 1 : Int) : Rat)) := rOver_sz su s1 nz1
    refine ⟨_, rfl, s, dx, _, rfl, es, rfl, s, d, u, lo, hi, rfl, hs, by omega, su.mono (by decide), s1.mono (by decide), fun x H1 k1 hx => ?_⟩
    generalize rOver u ((d - 1 : Int) : Rat) = X at *
    obtain ⟨dxx, ex⟩ := id hx
    have hL1 := hL.same k1
    refine ⟨_, rfl, _, rfl, x, dxx, _, .ref (aR K), rfl, ex, hL1.ty TR, (by unfold PySem.W.notFirst; rw [beq_self_eq_true, Bool.true_or]), ?_⟩
    refine ⟨x, .ref l, _, rfl, hx, .inl ⟨l, _, rfl, hL1, _, rfl, ?_⟩⟩
    refine ite2 (fun e => ?_) (fun e => ?_)
    · exact kN (of_decide_eq_true e) H1 k1
    · have ne : X ≠ L := fun z => e (decide_eq_true z)
      replace kT := kT ne
      obtain ⟨dr, er⟩ := id (hR.same k1)
      refine ⟨_, rfl, _, rfl, r, dr, _, rfl, er, .inl ⟨x, dxx, _, rfl, ex⟩, ?_⟩
      refine ⟨r, .ref x, R, X, rfl, ⟨dr, er⟩, .inr ⟨x, rfl, hx⟩, sR.mono (by decide), sf.mono (by decide), trivial, fun y H2 k2 hy => ?_⟩
      obtain ⟨dy, ey⟩ := id hy
      obtain ⟨dl, el⟩ := id (hL1.same k2)
      refine ⟨y, dy, _, rfl, ey, rfl, _, rfl, _, rfl, l, dl, _, rfl, el, .inl ⟨x, dxx, _, rfl, k2 _ _ ex⟩, ?_⟩
      refine ⟨l, .ref x, L, X, rfl, ⟨dl, el⟩, .inr ⟨x, rfl, hx.same k2⟩, sL.mono (by decide), sf.mono (by decide), trivial, fun z H3 k3 hz => ?_⟩
      have k13 := (k1.trans k2).trans k3
      have sy : Sz 309 (rSub R X) := rSub_sz2 sR sf
      have szz : Sz 309 (rSub L X) := rSub_sz2 sL sf
      have zn : (rSub L X).num ≠ 0 := sub_ne ne
      refine ⟨y, .ref z, rSub R X, rSub L X, rfl, hy.same k3, .inr ⟨z, rfl, hz⟩, sy.mono (by decide), szz.mono (by decide), zn, fun t H4 k4 ht => ?_⟩
      have k14 := k13.trans k4
      have s0 : Sz 618 (rOver (rSub R X) (rSub L X)) := rOver_sz sy szz zn
      generalize rOver (rSub R X) (rSub L X) = S at *
      refine ⟨fun m σ H' => ∃ (n : Nat) (t : Addr), m = (shr d S n).floor.toNat ∧ Same H H' ∧ σ = [some (.ref s), some (.ref r), some (.ref l), some (.ref x), some (.int (1 + (n : Int))), some (.ref t)] ∧ RatAt K H' t (shr d S n) ∧ (shr d S n).num.natAbs < 2 ^ 618 ∧ Sz 626 (shr d S n) ∧ ∀ j, j < n → rBelow 1 (shr d S j) = true, ⟨_, 0, t, rfl, k14, rfl, ht, s0.1, s0.mono (by decide), fun j hj => absurd hj (Nat.not_lt_zero _)⟩, ?_⟩
      rintro m σ H5 ⟨n, t, rfl, k5, rfl, ht, num, sz5, all⟩
      refine ⟨rfl, .int 1, 1, rfl, .inl ⟨1, rfl, rfl⟩, fun o H6 k6 ho => ?_⟩
      obtain ⟨dO, eO⟩ := id ho
      have one_sz : Sz 100000 (1 : Rat) := ⟨by show (1 : Int).natAbs < 2 ^ 100000; exact Nat.one_lt_two_pow (by decide), by show 1 < 2 ^ 100000; exact Nat.one_lt_two_pow (by decide)⟩
      refine ⟨o, dO, _, rfl, eO, rfl, _, rfl, o, .ref t, 1, shr d S n, rfl, ho, .inr ⟨t, rfl, ht.same k6⟩, one_sz, sz5.mono (by decide), fun H7 k7 => ⟨_, rfl, ?_⟩⟩
      have k67 := k6.trans k7
      have k57 := k5.trans k67
      cases hb : rBelow 1 (shr d S n) with
      | false => exact iteF ⟨_, rfl, kT n H7 k57 ⟨all, hb⟩⟩
      | true =>
        refine iteT ⟨fun σ' H' => ∃ (t : Addr), Same H H' ∧ σ' = [some (.ref s), some (.ref r), some (.ref l), some (.ref x), some (.int (1 + ((n + 1 : Nat) : Int))), some (.ref t)] ∧ RatAt K H' t (shr d S (n + 1)), ?_, ?_⟩
        · rintro σ' H' ⟨t', k', rfl, ht'⟩
          have z := over_sz d1 sd num hb
          exact ⟨_, floor_less d2 hb, n + 1, t', rfl, k', rfl, ht', z.1, z.2, fun j hj => by
            by_cases q : j = n
            · rw [q]
              exact hb
            · exact all j (by omega)⟩
        · obtain ⟨dt, et⟩ := id (ht.same k67)
          refine ⟨_, rfl, t, dt, _, rfl, et, rfl, _, rfl, s, _, dx, _, _, rfl, k57 _ _ es, TM.cl, TM.nD, rfl, ?_⟩
          refine ⟨t, .int d, shr d S n, (d : Rat), rfl, ht.same k67, .inl ⟨d, rfl, rfl⟩, sz5.mono (by decide), sd.mono (by decide), (by show (d : Rat).num ≠ 0; rw [Rat.num_intCast]; omega), fun t2 H8 k8 ht2 => ?_⟩
          refine ⟨_, rfl, _, _, rfl, rfl, t2, k57.trans k8, ?_, ht2⟩
          show [some (V.ref s), some (.ref r), some (.ref l), some (.ref x), some (.int (1 + (n : Int) + 1)), some (.ref t2)] = _
          have e : 1 + (n : Int) + 1 = 1 + ((n + 1 : Nat) : Int) := by omega
          rw [e]
end
end K18
set_option maxHeartbeats 4000000
namespace K18
open PySem PySem.Spec PyProof.Rows L2 GL
/-- the turns that tends tells -/
def TendsTo (d : Int) (u lo hi z : Rat) (v : V) : Prop :=
  if z = cLim d u lo hi z then v = .int 0 else if mAt d u lo hi z = cLim d u lo hi z then v = .int 1 else
  if d = 1 then v = .int (1 + cWhole (rOver (rSub (cLim d u lo hi z) (mAt d u lo hi z)) u)) else
  if rOver u ((d - 1 : Int) : Rat) = cLim d u lo hi z then v = .non else ∃ n : Nat, v = .int (1 + (n : Int)) ∧ Least d (rOver (rSub (mAt d u lo hi z) (rOver u ((d - 1 : Int) : Rat))) (rSub (cLim d u lo hi z) (rOver u ((d - 1 : Int) : Rat)))) n
theorem TendsTo.one {d : Int} {u lo hi z : Rat} {v w : V} (h : TendsTo d u lo hi z v) (k : TendsTo d u lo hi z w) : v = w := by
  unfold TendsTo at h k
  split at h
  · rename_i a
    rw [if_pos a] at k
    rw [h, k]
  · rename_i a
    rw [if_neg a] at k
    split at h
    · rename_i b
      rw [if_pos b] at k
      rw [h, k]
    · rename_i b
      rw [if_neg b] at k
      split at h
      · rename_i c
        rw [if_pos c] at k
        rw [h, k]
      · rename_i c
        rw [if_neg c] at k
        split at h
        · rename_i e
          rw [if_pos e] at k
          rw [h, k]
        · rename_i e
          rw [if_neg e] at k
          obtain ⟨n, rfl, hn⟩ := h
          obtain ⟨m, rfl, hm⟩ := k
          rw [hn.one hm]
theorem TendsTo.flat {d : Int} {u lo hi z : Rat} {v : V} (h : TendsTo d u lo hi z v) : flatV v = true := by
  unfold TendsTo at h
  split at h
  · rw [h]; rfl
  · split at h
    · rw [h]; rfl
    · split at h
      · rw [h]; rfl
      · split at h
        · rw [h]; rfl
        · obtain ⟨n, rfl, _⟩ := h
          rfl
/-- without anything added, nothing is moved but into the range -/
theorem at_held {u lo hi z : Rat} (l : lo ≤ hi) (h : u.num.sign = 0) : mAt 1 u lo hi z = cHeld lo hi z := by
  have u0 : u = 0 := Rat.num_eq_zero.mp (Int.sign_eq_zero_iff_zero.mp h)
  have f : mFree 1 u z = z := by
    rw [mFree_eq, u0, Rat.add_zero]
    show z / ((1 : Int) : Rat) = z
    rw [Rat.intCast_one, Rat.div_def]
    have : (1 : Rat)⁻¹ = 1 := by decide +kernel
    rw [this, Rat.mul_one]
  show cHeld lo hi (mFree 1 u z) = _
  rw [f]
structure RX (P : Program) (w : World) (K : PySem.W.Frag) (mg : Str → Option Value) (base : Heap) : Prop where
  W : RW' P w K mg base
  whole : DefF P w K mg base "_whole_turns" 3 ["ratio"] (spWhole K)
  turns : MetX P w K mg base (aM K) "_turns_from" 8 ["self", "result", "limit"] (spTurns K)
section
variable {P : Program} {w : World} {K : PySem.W.Frag} {mg : Str → Option Value} {base : Heap}
/-! ### tends -/
def spTends (K : PySem.W.Frag) : Sp := fun vs H Q _ => ∃ (s : Addr) (x : V) (d : Int) (u lo hi z : Rat), vs = [.ref s, x] ∧ MovAt K H s d u lo hi ∧ NumAt K H x z ∧ Sz 8 (d : Rat) ∧ Sz 80 u ∧ Sz 80 lo ∧ Sz 80 hi ∧ Sz 80 z ∧
  ∀ t l v H', Same H H' → H' t = some (.tup [.ref l, v]) → RatAt K H' l (cLim d u lo hi z) → TendsTo d u lo hi z v → Q (.ref t) H'
theorem scTends : FnScope ["self", "number", "ratio", "limit", "result"] ["self", "number"] (defScope (sMove 20)) := ⟨rfl, rfl, rfl, by decide +kernel, rfl, by decide +kernel, by decide +kernel⟩
theorem ok_tends {f : Addr} {fd : FuncData} (F : FunD K "tends" "Move.tends" (defArgs (sMove 20)) (defBody (sMove 20)) (defScope (sMove 20)) [] [] f fd) (X : RX P w K mg base) : FnOk P w K mg base CX0 10 f fd ["self", "number"] (spTends K) := by
  obtain ⟨fL, fdL, mL, GL', bL⟩ := X.W.limOf
  obtain ⟨fT, fdT, mT, GT, bT⟩ := X.W.V.U.T.S.R.O.N.at_
  obtain ⟨fU, fdU, mU, GU, bU⟩ := X.turns
  obtain ⟨fW, fdW, GW, gW, bW, kW⟩ := X.whole
  obtain ⟨fE, oE, GE⟩ := X.W.V.U.T.S.R.O.N.M.L.C.J.I.eq
  obtain ⟨mc, pp, fo, cr, cm, GO⟩ := X.W.V.U.T.S.R.O.N.M.L.C.J.I.R.of
  obtain ⟨fV, fdV, mV, GV, bV⟩ := X.W.V.U.T.S.R.O.N.M.L.C.over
  obtain ⟨fS, oS, GS⟩ := X.W.V.U.T.S.R.O.N.sub
  have TR := X.W.V.U.T.S.R.O.N.M.L.C.J.I.R.G.T
  have TM := X.W.V.U.T.S.R.O.N.M.T
  refine F.ok scTends (fun vs H Q E h => ?_) (fun cdv A outer s H vs Q E hr h => ?_)
  · obtain ⟨s, x, d, u, lo, hi, z, rfl, _⟩ := h
    rfl
  · obtain ⟨s, x, d, u, lo, hi, z, rfl, hs, hx, sd, su, sl, sh, sz, k⟩ := h
    obtain ⟨d1, le, dx, pa, pb, pc, es, ha, hb, hc⟩ := id hs
    refine ⟨_, pss_cons (ps_set (i := 2) scTends.nd rfl (Or.inl rfl) (ClX.pe_cmeth (pe_glob (v := .ref (aR K)) rfl TR.gR rfl) cr cm GO (hr.mono (by decide)) pass0 (pa_cons (pv 1) pa_nil)))
      (pss_cons (ps_set (i := 3) scTends.nd rfl (Or.inl rfl) (pe_meth (pv 0) TM.cl mL GL' hr bL .nil pass0 (pa_cons (pv 2) pa_nil)))
      (pss_cons (ps_if (pt_cmpR (op_eqO oE GE (hr.mono (by decide)) pass0) (pv 2) (pv 3) (nomark _)) (pss_one (ps_ret (pe_tup (pa_cons (pv 3) (pa_cons pe_int pa_nil))))) pss_nil)
      (pss_cons (ps_set (i := 4) scTends.nd rfl (Or.inl rfl) (pe_meth (pv 0) TM.cl mT GT (hr.mono (by decide)) bT .nil pass0 (pa_cons (pv 2) pa_nil)))
      (pss_cons (ps_if (pt_cmpR (op_eqO oE GE (hr.mono (by decide)) pass0) (pv 4) (pv 3) (nomark _)) (pss_one (ps_ret (pe_tup (pa_cons (pv 3) (pa_cons pe_int pa_nil))))) pss_nil)
      (pss_cons (ps_if (pt_cmpR op_eq (pe_fld (pv 0) rfl) pe_int (nomark _)) (pss_one (ps_ret (pe_tup (pa_cons (pv 3) (pa_cons (pe_op op_add pe_int (pe_call GW (hr.mono (by decide)) rfl gW kW bW .nil pass0 (pa_cons
          (pe_meth (pe_op (op_own (.inr (.inl rfl)) oS GS (hr.mono (by decide)) pass0) (pv 3) (pv 4)) TR.cl mV GV (hr.mono (by decide)) bV .nil pass0 (pa_cons (pe_fld (pv 0) rfl) pa_nil)) pa_nil))) pa_nil))))) pss_nil)
      (pss_one (ps_ret (pe_tup (pa_cons (pv 3) (pa_cons (pe_meth (pv 0) TM.cl mU GU (hr.mono (by decide)) bU .nil pass0 (pa_cons (pv 4) (pa_cons (pv 3) pa_nil))) pa_nil)))))))))), ?_⟩
    have sd1 : Sz 8 ((d - 1 : Int) : Rat) := int_sz (by decide) (by
      have := sd.1
      rw [Rat.num_intCast] at this
      omega)
    have sLim : Sz 88 (cLim d u lo hi z) := by
      unfold cLim
      split
      · rename_i c
        exact cHeld_sz (sl.mono (by decide)) (sh.mono (by decide)) (rOver_sz su sd1 (by rw [Rat.num_intCast]; omega))
      · split
        · exact (cHeld_sz sl sh sz).mono (by decide)
        · split
          · exact sh.mono (by decide)
          · exact sl.mono (by decide)
    have sAt : Sz 169 (mAt d u lo hi z) := mAt_sz2 d1 su sz sd sl sh (by decide)
    have fin : ∀ {l : Addr} {v : V} {H0 : Hp}, Same H H0 → RatAt K H0 l (cLim d u lo hi z) → TendsTo d u lo hi z v → 2 ≤ sizeLine ∧ ∀ p, H0 p = none → Q (.ref p) (upd H0 p (.tup [.ref l, v])) := by
      intro l v H0 k0 hl ht
      refine ⟨by show 2 ≤ sizeLine; decide, fun t nt => ?_⟩
      have up : Same H0 (upd H0 t (.tup [.ref l, v])) := fun b o e => by rw [upd_ne (ne_of_none e nt)]; exact e
      exact k t l v _ (k0.trans up) upd_same (hl.same up) ht
    refine ⟨rfl, _, rfl, x, z, rfl, hx, fun r H1 k1 hr1 => ?_⟩
    refine ⟨_, rfl, s, dx, _, rfl, k1 _ _ es, rfl, _, rfl, s, r, d, u, lo, hi, z, rfl, hs.same k1, hr1, su.mono (by decide), sz.mono (by decide), sl.mono (by decide), sh.mono (by decide), sd.mono (by decide), sd1.mono (by decide), fun l H2 k2 hl => ?_⟩
    have k12 := k1.trans k2
    obtain ⟨dr, er⟩ := id (hr1.same k2)
    refine ⟨_, rfl, _, rfl, r, dr, _, .ref (aR K), rfl, er, hl.ty TR, (by unfold PySem.W.notFirst; rw [beq_self_eq_true, Bool.true_or]), ?_⟩
    refine ⟨r, .ref l, _, rfl, ⟨dr, er⟩, .inl ⟨l, _, rfl, hl, _, rfl, ?_⟩⟩
    unfold TendsTo at fin
    refine ite2 (fun e => ?_) (fun e => ?_)
    · have e1 := of_decide_eq_true e
      exact ⟨_, rfl, fin k12 hl (by rw [if_pos e1])⟩
    · have e1 : ¬ z = cLim d u lo hi z := fun y => e (decide_eq_true y)
      refine ⟨_, rfl, s, dx, _, rfl, k12 _ _ es, rfl, _, rfl, s, .ref r, d, u, lo, hi, z, rfl, hs.same k12, .inr ⟨r, rfl, dr, er⟩, su.mono (by decide), sz.mono (by decide), sd.mono (by decide), sl.mono (by decide), sh.mono (by decide), fun o H3 k3 ho => ?_⟩
      have k13 := k12.trans k3
      have hl3 := hl.same k3
      obtain ⟨dO, eO⟩ := id ho
      refine ⟨_, rfl, _, rfl, o, dO, _, .ref (aR K), rfl, eO, hl3.ty TR, (by unfold PySem.W.notFirst; rw [beq_self_eq_true, Bool.true_or]), ?_⟩
      refine ⟨o, .ref l, _, rfl, ⟨dO, eO⟩, .inl ⟨l, _, rfl, hl3, _, rfl, ?_⟩⟩
      refine ite2 (fun c => ?_) (fun c => ?_)
      · have c1 := of_decide_eq_true c
        exact ⟨_, rfl, fin k13 hl3 (by rw [if_neg e1, if_pos c1])⟩
      · have c1 : ¬ mAt d u lo hi z = cLim d u lo hi z := fun y => c (decide_eq_true y)
        refine ⟨_, rfl, s, _, dx, _, _, rfl, k13 _ _ es, TM.cl, TM.nD, rfl, rfl, _, rfl, ?_⟩
        refine ite2 (fun g => ?_) (fun g => ?_)
        · have g1 : d = 1 := by
            have := of_decide_eq_true g
            injection this
          have un : u.num ≠ 0 := by
            intro y
            have ys : u.num.sign = 0 := by rw [y]; rfl
            refine c1 ?_
            subst g1
            rw [at_held (rBelow_not.mp le) ys]
            unfold cLim
            rw [if_neg (by decide), if_pos ys]
          obtain ⟨dl, el⟩ := id hl3
          refine ⟨_, rfl, _, rfl, _, rfl, l, dl, _, rfl, el, .inl ⟨o, dO, _, rfl, eO⟩, ?_⟩
          refine ⟨l, .ref o, cLim d u lo hi z, mAt d u lo hi z, rfl, hl3, .inr ⟨o, rfl, ho⟩, sLim.mono (by decide), sAt.mono (by decide), trivial, fun y H4 k4 hy => ?_⟩
          obtain ⟨dy, ey⟩ := id hy
          have k14 := k13.trans k4
          have sS := rSub_sz2 sLim sAt
          refine ⟨y, dy, _, rfl, ey, rfl, _, rfl, s, _, dx, _, _, rfl, k14 _ _ es, TM.cl, TM.nP, rfl, ?_⟩
          refine ⟨y, .ref pa, _, u, rfl, hy, .inr ⟨pa, rfl, ha.same k14⟩, sS.mono (by decide), su.mono (by decide), un, fun q H5 k5 hq => ?_⟩
          refine ⟨q, _, rfl, hq, (rOver_sz sS su un).mono (by decide), _, _, rfl, rfl, ?_⟩
          exact fin (k14.trans k5) (hl3.same (k4.trans k5)) (by rw [if_neg e1, if_neg c1, if_pos g1])
        · have g1 : ¬ d = 1 := fun y => g (decide_eq_true (by rw [y]))
          refine ⟨_, rfl, _, rfl, s, dx, _, rfl, k13 _ _ es, rfl, _, rfl, _, rfl, ?_⟩
          refine ⟨s, o, l, d, u, lo, hi, _, _, rfl, hs.same k13, ho, hl3, by omega, sd, su.mono (by decide), sAt.mono (by decide), sLim.mono (by decide), fun eq H4 k4 => ?_, fun ne n H4 k4 hn => ?_⟩
          · exact fin (k13.trans k4) (hl3.same k4) (by rw [if_neg e1, if_neg c1, if_neg g1, if_pos eq])
          · exact fin (k13.trans k4) (hl3.same k4) (by rw [if_neg e1, if_neg c1, if_neg g1, if_neg ne]; exact ⟨n, rfl, hn⟩)
end
end K18
set_option maxHeartbeats 4000000
namespace K18
open PySem PySem.Spec PyProof.Rows L2 GL
def cUpLim (d : Int) (u lo hi z : Rat) (b : Bool) : Rat × Bool :=
  if cAhead z b (mAt d u lo hi z) (cUpB d u lo hi z b) = false then (z, b) else if d = 1 then (if 0 < u.num.sign then hi else lo, true) else
  if rBelow lo (rOver u ((d - 1 : Int) : Rat)) = false then (lo, true) else if rBelow hi (rOver u ((d - 1 : Int) : Rat)) = true then (hi, true) else (rOver u ((d - 1 : Int) : Rat), false)
def cLoLim (d : Int) (u lo hi z : Rat) (b : Bool) : Rat × Bool :=
  if cAhead (mAt d u lo hi z) (cLoB d u lo hi z b) z b = false then (z, b) else if d = 1 then (if u.num.sign < 0 then lo else hi, false) else
  if rBelow (rOver u ((d - 1 : Int) : Rat)) hi = false then (hi, false) else if rBelow (rOver u ((d - 1 : Int) : Rat)) lo = true then (lo, false) else (rOver u ((d - 1 : Int) : Rat), true)
structure RY (P : Program) (w : World) (K : PySem.W.Frag) (mg : Str → Option Value) (base : Heap) : Prop where
  X : RX P w K mg base
  up : MetX P w K mg base (aM K) "upper_image" 8 ["self", "cut"] (spImg K cUpB)
  lo : MetX P w K mg base (aM K) "lower_image" 8 ["self", "cut"] (spImg K cLoB)
def spLimit (K : PySem.W.Frag) (g : Int → Rat → Rat → Rat → Rat → Bool → Rat × Bool) : Sp := fun vs H Q _ => ∃ (s : Addr) (x : V) (d : Int) (u lo hi z : Rat) (b : Bool), vs = [.ref s, x] ∧ MovAt K H s d u lo hi ∧ CutAt K H x z b ∧ Sz 1000 u ∧ Sz 1000 z ∧ Sz 1000 lo ∧ Sz 1000 hi ∧ Sz 1000 (d : Rat) ∧ Sz 1000 ((d - 1 : Int) : Rat) ∧
  ∀ c H', Same H H' → CutR K H' c (g d u lo hi z b).1 (g d u lo hi z b).2 → Q (.ref c) H'
section
variable {P : Program} {w : World} {K : PySem.W.Frag} {mg : Str → Option Value} {base : Heap}
theorem scUL : FnScope ["self", "cut", "end", "fixed"] ["self", "cut"] (defScope (sMove 24)) := ⟨rfl, rfl, rfl, by decide +kernel, rfl, by decide +kernel, by decide +kernel⟩
theorem ok_upLim {f : Addr} {fd : FuncData} (F : FunD K "upper_limit" "Move.upper_limit" (defArgs (sMove 24)) (defBody (sMove 24)) (defScope (sMove 24)) [] [] f fd) (Y : RY P w K mg base) : FnOk P w K mg base CX0 9 f fd ["self", "cut"] (spLimit K cUpLim) := by
  obtain ⟨fC, fdC, GC, gC, bC, kC⟩ := Y.X.W.V.U.T.S.R.O.N.M.L.C.J.rc
  obtain ⟨fA, fdA, GA, gA, bA, kA⟩ := Y.X.W.V.U.T.S.R.O.N.M.L.C.ahead
  obtain ⟨fU, fdU, mU, GU, bU⟩ := Y.up
  obtain ⟨fX, fdX, mX, GX, bX⟩ := Y.X.W.V.U.fixed
  obtain ⟨fB, fdB, mB, GB, bB⟩ := Y.X.W.V.U.T.S.R.O.N.M.L.C.J.I.below
  obtain ⟨p1, g1, fd1, P1, G1, b1⟩ := Y.X.W.V.U.T.sign
  have TR := Y.X.W.V.U.T.S.R.O.N.M.L.C.J.I.R.G.T
  have TM := Y.X.W.V.U.T.S.R.O.N.M.T
  refine F.ok scUL (fun vs H Q E h => ?_) (fun cdv A outer s H vs Q E hr h => ?_)
  · obtain ⟨s, x, d, u, lo, hi, z, b, rfl, _⟩ := h
    rfl
  · obtain ⟨s, x, d, u, lo, hi, z, b, rfl, hs, hx, su, sz, sl, sh, sd, sd1, k⟩ := h
    obtain ⟨d1, le, dx, pa, pb, pc, es, ha, hb, hc⟩ := id hs
    refine ⟨_, pss_cons (ps_set (i := 2) scUL.nd rfl (Or.inl rfl) (pe_call GC (hr.mono (by decide)) rfl gC kC bC .nil pass0 (pa_cons (pv 1) pa_nil)))
      (pss_cons (ps_if (pt_not (pt_val (pe_call GA (hr.mono (by decide)) rfl gA kA bA .nil pass0 (pa_cons (pv 2) (pa_cons (pe_meth (pv 0) TM.cl mU GU hr bU .nil pass0 (pa_cons (pv 2) pa_nil)) pa_nil))))) (pss_one (ps_ret (pv 2))) pss_nil)
      (pss_cons (ps_if (pt_cmpR op_eq (pe_fld (pv 0) rfl) pe_int (nomark _)) (pss_one (ps_ret (pe_tup (pa_cons (pe_ifExp (pt_cmpR op_gt (pe_prop (pe_fld (pv 0) rfl) TR.cl P1 G1 (hr.mono (by decide)) b1 .nil pass0 rfl) pe_int (nomark _)) (pe_fld (pv 0) rfl) (pe_fld (pv 0) rfl)) (pa_cons pe_bl pa_nil))))) pss_nil)
      (pss_cons (ps_set (i := 3) scUL.nd rfl (Or.inl rfl) (pe_meth0 (pv 0) TM.cl mX GX (hr.mono (by decide)) bX .nil pass0))
      (pss_cons (ps_if (pt_not (pt_val (pe_meth (pe_fld (pv 0) rfl) TR.cl mB GB (hr.mono (by decide)) bB .nil pass0 (pa_cons (pv 3) pa_nil)))) (pss_one (ps_ret (pe_tup (pa_cons (pe_fld (pv 0) rfl) (pa_cons pe_bl pa_nil))))) pss_nil)
      (pss_cons (ps_if (pt_val (pe_meth (pe_fld (pv 0) rfl) TR.cl mB GB (hr.mono (by decide)) bB .nil pass0 (pa_cons (pv 3) pa_nil))) (pss_one (ps_ret (pe_tup (pa_cons (pe_fld (pv 0) rfl) (pa_cons pe_bl pa_nil))))) pss_nil)
      (pss_one (ps_ret (pe_tup (pa_cons (pv 3) (pa_cons pe_bl pa_nil)))))))))), ?_⟩
    have fin : ∀ {l : Addr} {q : Rat} {c : Bool} {H0 : Hp}, Same H H0 → RatAt K H0 l q → cUpLim d u lo hi z b = (q, c) → 2 ≤ sizeLine ∧ ∀ p, H0 p = none → Q (.ref p) (upd H0 p (.tup [.ref l, .bl c])) := by
      intro l q c H0 k0 hl e
      refine ⟨by show 2 ≤ sizeLine; decide, fun t nt => ?_⟩
      have up : Same H0 (upd H0 t (.tup [.ref l, .bl c])) := fun b o e => by rw [upd_ne (ne_of_none e nt)]; exact e
      refine k t _ (k0.trans up) ?_
      rw [e]
      exact ⟨l, upd_same, hl.same up⟩
    have keep : ∀ {c : Addr} {H0 : Hp}, Same H H0 → CutR K H0 c z b → cUpLim d u lo hi z b = (z, b) → Q (.ref c) H0 := by
      intro c H0 k0 hc e
      refine k c H0 k0 ?_
      rw [e]
      exact hc
    unfold cUpLim at fin keep
    have sAt : Sz 100000 (mAt d u lo hi z) := (mAt_sz2 d1 su sz sd sl sh (by decide)).mono (by decide)
    refine ⟨_, rfl, x, z, b, rfl, hx, fun c z1 H1 k1 hc1 hz1 => ?_⟩
    have hc1' : CutR K H1 c z b := ⟨z1, hc1, hz1⟩
    refine ⟨_, rfl, _, rfl, s, dx, _, rfl, k1 _ _ es, rfl, _, rfl, s, .ref c, d, u, lo, hi, z, b, rfl, hs.same k1, hc1'.cut, su, sz, sl, sh, sd, fun m H2 k2 hm => ?_⟩
    refine ⟨.ref c, .ref m, z, mAt d u lo hi z, b, cUpB d u lo hi z b, rfl, (hc1'.same k2).cut, hm.cut, sz.mono (by decide), sAt, fun H3 k3 => ⟨_, rfl, ?_⟩⟩
    have k13 := (k1.trans k2).trans k3
    cases hA : cAhead z b (mAt d u lo hi z) (cUpB d u lo hi z b) with
    | false =>
      exact iteT ⟨_, rfl, keep k13 (hc1'.same (k2.trans k3)) (by rw [if_pos hA])⟩
    | true =>
      have nA : ¬ _ = false := fun y => Bool.noConfusion (hA.symm.trans y)
      refine iteF ⟨_, rfl, s, _, dx, _, _, rfl, k13 _ _ es, TM.cl, TM.nD, rfl, rfl, _, rfl, ?_⟩
      refine ite2 (fun e => ?_) (fun e => ?_)
      · have e1 : d = 1 := by
          have := of_decide_eq_true e
          injection this
        obtain ⟨da, ea⟩ := id (ha.same k13)
        refine ⟨_, rfl, s, _, dx, _, _, rfl, k13 _ _ es, TM.cl, TM.nP, rfl, pa, da, _, rfl, ea, pa, u, rfl, ha.same k13, _, _, rfl, rfl, _, rfl, ?_⟩
        refine ite2 (fun c2 => ?_) (fun c2 => ?_)
        · have c3 : 0 < u.num.sign := of_decide_eq_true c2
          exact ⟨_, rfl, s, _, dx, _, _, rfl, k13 _ _ es, TM.cl, TM.nH, rfl, fin k13 (hc.same k13) (by rw [if_neg nA, if_pos e1, if_pos c3])⟩
        · have c3 : ¬ 0 < u.num.sign := fun y => c2 (decide_eq_true y)
          exact ⟨_, rfl, s, _, dx, _, _, rfl, k13 _ _ es, TM.cl, TM.nL, rfl, fin k13 (hb.same k13) (by rw [if_neg nA, if_pos e1, if_neg c3])⟩
      · have e1 : ¬ d = 1 := fun y => e (decide_eq_true (by rw [y]))
        have sf : Sz 100000 (rOver u ((d - 1 : Int) : Rat)) := (rOver_sz su sd1 (by rw [Rat.num_intCast]; omega)).mono (by decide)
        refine ⟨_, rfl, s, dx, _, rfl, k13 _ _ es, rfl, s, d, u, lo, hi, rfl, hs.same k13, e1, su, sd1, fun y H4 k4 hy => ?_⟩
        have k14 := k13.trans k4
        obtain ⟨dy, ey⟩ := id hy
        obtain ⟨db, eb⟩ := id (hb.same k14)
        refine ⟨_, rfl, s, _, dx, _, _, rfl, k14 _ _ es, TM.cl, TM.nL, rfl, pb, db, _, rfl, eb, rfl, _, rfl, pb, .ref y, lo, _, rfl, ⟨db, eb⟩, .inr ⟨y, rfl, hy⟩, sl.mono (by decide), sf, fun H5 k5 => ⟨_, rfl, ?_⟩⟩
        have k15 := k14.trans k5
        cases hB : rBelow lo (rOver u ((d - 1 : Int) : Rat)) with
        | false => exact iteT ⟨_, rfl, s, _, dx, _, _, rfl, k15 _ _ es, TM.cl, TM.nL, rfl, fin k15 (hb.same k15) (by rw [if_neg nA, if_neg e1, if_pos hB])⟩
        | true =>
          have nB : ¬ _ = false := fun y => Bool.noConfusion (hB.symm.trans y)
          obtain ⟨dc, ec⟩ := id (hc.same k15)
          refine iteF ⟨_, rfl, s, _, dx, _, _, rfl, k15 _ _ es, TM.cl, TM.nH, rfl, pc, dc, _, rfl, ec, rfl, _, rfl, pc, .ref y, hi, _, rfl, ⟨dc, ec⟩, .inr ⟨y, rfl, hy.same k5⟩, sh.mono (by decide), sf, fun H6 k6 => ⟨_, rfl, ?_⟩⟩
          have k16 := k15.trans k6
          cases hD : rBelow hi (rOver u ((d - 1 : Int) : Rat)) with
          | true => exact iteT ⟨_, rfl, s, _, dx, _, _, rfl, k16 _ _ es, TM.cl, TM.nH, rfl, fin k16 (hc.same k16) (by rw [if_neg nA, if_neg e1, if_neg nB, if_pos hD])⟩
          | false => exact iteF ⟨_, rfl, fin k16 (hy.same (k5.trans k6)) (by rw [if_neg nA, if_neg e1, if_neg nB, if_neg (by rw [hD]; decide)])⟩
theorem scLL : FnScope ["self", "cut", "end", "fixed"] ["self", "cut"] (defScope (sMove 25)) := ⟨rfl, rfl, rfl, by decide +kernel, rfl, by decide +kernel, by decide +kernel⟩
theorem ok_loLim {f : Addr} {fd : FuncData} (F : FunD K "lower_limit" "Move.lower_limit" (defArgs (sMove 25)) (defBody (sMove 25)) (defScope (sMove 25)) [] [] f fd) (Y : RY P w K mg base) : FnOk P w K mg base CX0 9 f fd ["self", "cut"] (spLimit K cLoLim) := by
  obtain ⟨fC, fdC, GC, gC, bC, kC⟩ := Y.X.W.V.U.T.S.R.O.N.M.L.C.J.rc
  obtain ⟨fA, fdA, GA, gA, bA, kA⟩ := Y.X.W.V.U.T.S.R.O.N.M.L.C.ahead
  obtain ⟨fU, fdU, mU, GU, bU⟩ := Y.lo
  obtain ⟨fX, fdX, mX, GX, bX⟩ := Y.X.W.V.U.fixed
  obtain ⟨fB, fdB, mB, GB, bB⟩ := Y.X.W.V.U.T.S.R.O.N.M.L.C.J.I.below
  obtain ⟨p1, g1, fd1, P1, G1, b1⟩ := Y.X.W.V.U.T.sign
  have TR := Y.X.W.V.U.T.S.R.O.N.M.L.C.J.I.R.G.T
  have TM := Y.X.W.V.U.T.S.R.O.N.M.T
  refine F.ok scLL (fun vs H Q E h => ?_) (fun cdv A outer s H vs Q E hr h => ?_)
  · obtain ⟨s, x, d, u, lo, hi, z, b, rfl, _⟩ := h
    rfl
  · obtain ⟨s, x, d, u, lo, hi, z, b, rfl, hs, hx, su, sz, sl, sh, sd, sd1, k⟩ := h
    obtain ⟨d1, le, dx, pa, pb, pc, es, ha, hb, hc⟩ := id hs
    refine ⟨_, pss_cons (ps_set (i := 2) scLL.nd rfl (Or.inl rfl) (pe_call GC (hr.mono (by decide)) rfl gC kC bC .nil pass0 (pa_cons (pv 1) pa_nil)))
      (pss_cons (ps_if (pt_not (pt_val (pe_call GA (hr.mono (by decide)) rfl gA kA bA .nil pass0 (pa_cons (pe_meth (pv 0) TM.cl mU GU hr bU .nil pass0 (pa_cons (pv 2) pa_nil)) (pa_cons (pv 2) pa_nil))))) (pss_one (ps_ret (pv 2))) pss_nil)
      (pss_cons (ps_if (pt_cmpR op_eq (pe_fld (pv 0) rfl) pe_int (nomark _)) (pss_one (ps_ret (pe_tup (pa_cons (pe_ifExp (pt_cmpR op_lt (pe_prop (pe_fld (pv 0) rfl) TR.cl P1 G1 (hr.mono (by decide)) b1 .nil pass0 rfl) pe_int (nomark _)) (pe_fld (pv 0) rfl) (pe_fld (pv 0) rfl)) (pa_cons pe_bl pa_nil))))) pss_nil)
      (pss_cons (ps_set (i := 3) scLL.nd rfl (Or.inl rfl) (pe_meth0 (pv 0) TM.cl mX GX (hr.mono (by decide)) bX .nil pass0))
      (pss_cons (ps_if (pt_not (pt_val (pe_meth (pv 3) TR.cl mB GB (hr.mono (by decide)) bB .nil pass0 (pa_cons (pe_fld (pv 0) rfl) pa_nil)))) (pss_one (ps_ret (pe_tup (pa_cons (pe_fld (pv 0) rfl) (pa_cons pe_bl pa_nil))))) pss_nil)
      (pss_cons (ps_if (pt_val (pe_meth (pv 3) TR.cl mB GB (hr.mono (by decide)) bB .nil pass0 (pa_cons (pe_fld (pv 0) rfl) pa_nil))) (pss_one (ps_ret (pe_tup (pa_cons (pe_fld (pv 0) rfl) (pa_cons pe_bl pa_nil))))) pss_nil)
      (pss_one (ps_ret (pe_tup (pa_cons (pv 3) (pa_cons pe_bl pa_nil)))))))))), ?_⟩
    have fin : ∀ {l : Addr} {q : Rat} {c : Bool} {H0 : Hp}, Same H H0 → RatAt K H0 l q → cLoLim d u lo hi z b = (q, c) → 2 ≤ sizeLine ∧ ∀ p, H0 p = none → Q (.ref p) (upd H0 p (.tup [.ref l, .bl c])) := by
      intro l q c H0 k0 hl e
      refine ⟨by show 2 ≤ sizeLine; decide, fun t nt => ?_⟩
      have up : Same H0 (upd H0 t (.tup [.ref l, .bl c])) := fun b o e => by rw [upd_ne (ne_of_none e nt)]; exact e
      refine k t _ (k0.trans up) ?_
      rw [e]
      exact ⟨l, upd_same, hl.same up⟩
    have keep : ∀ {c : Addr} {H0 : Hp}, Same H H0 → CutR K H0 c z b → cLoLim d u lo hi z b = (z, b) → Q (.ref c) H0 := by
      intro c H0 k0 hc e
      refine k c H0 k0 ?_
      rw [e]
      exact hc
    unfold cLoLim at fin keep
    have sAt : Sz 100000 (mAt d u lo hi z) := (mAt_sz2 d1 su sz sd sl sh (by decide)).mono (by decide)
    refine ⟨_, rfl, x, z, b, rfl, hx, fun c z1 H1 k1 hc1 hz1 => ?_⟩
    have hc1' : CutR K H1 c z b := ⟨z1, hc1, hz1⟩
    refine ⟨_, rfl, s, dx, _, rfl, k1 _ _ es, rfl, _, rfl, s, .ref c, d, u, lo, hi, z, b, rfl, hs.same k1, hc1'.cut, su, sz, sl, sh, sd, fun m H2 k2 hm => ⟨_, rfl, ?_⟩⟩
    refine ⟨.ref m, .ref c, mAt d u lo hi z, z, cLoB d u lo hi z b, b, rfl, hm.cut, (hc1'.same k2).cut, sAt, sz.mono (by decide), fun H3 k3 => ⟨_, rfl, ?_⟩⟩
    have k13 := (k1.trans k2).trans k3
    cases hA : cAhead (mAt d u lo hi z) (cLoB d u lo hi z b) z b with
    | false =>
      exact iteT ⟨_, rfl, keep k13 (hc1'.same (k2.trans k3)) (by rw [if_pos hA])⟩
    | true =>
      have nA : ¬ _ = false := fun y => Bool.noConfusion (hA.symm.trans y)
      refine iteF ⟨_, rfl, s, _, dx, _, _, rfl, k13 _ _ es, TM.cl, TM.nD, rfl, rfl, _, rfl, ?_⟩
      refine ite2 (fun e => ?_) (fun e => ?_)
      · have e1 : d = 1 := by
          have := of_decide_eq_true e
          injection this
        obtain ⟨da, ea⟩ := id (ha.same k13)
        refine ⟨_, rfl, s, _, dx, _, _, rfl, k13 _ _ es, TM.cl, TM.nP, rfl, pa, da, _, rfl, ea, pa, u, rfl, ha.same k13, _, _, rfl, rfl, _, rfl, ?_⟩
        refine ite2 (fun c2 => ?_) (fun c2 => ?_)
        · have c3 : u.num.sign < 0 := of_decide_eq_true c2
          exact ⟨_, rfl, s, _, dx, _, _, rfl, k13 _ _ es, TM.cl, TM.nL, rfl, fin k13 (hb.same k13) (by rw [if_neg nA, if_pos e1, if_pos c3])⟩
        · have c3 : ¬ u.num.sign < 0 := fun y => c2 (decide_eq_true y)
          exact ⟨_, rfl, s, _, dx, _, _, rfl, k13 _ _ es, TM.cl, TM.nH, rfl, fin k13 (hc.same k13) (by rw [if_neg nA, if_pos e1, if_neg c3])⟩
      · have e1 : ¬ d = 1 := fun y => e (decide_eq_true (by rw [y]))
        have sf : Sz 100000 (rOver u ((d - 1 : Int) : Rat)) := (rOver_sz su sd1 (by rw [Rat.num_intCast]; omega)).mono (by decide)
        refine ⟨_, rfl, s, dx, _, rfl, k13 _ _ es, rfl, s, d, u, lo, hi, rfl, hs.same k13, e1, su, sd1, fun y H4 k4 hy => ?_⟩
        have k14 := k13.trans k4
        obtain ⟨dy, ey⟩ := id hy
        refine ⟨_, rfl, y, dy, _, rfl, ey, rfl, _, rfl, s, _, dx, _, _, rfl, k14 _ _ es, TM.cl, TM.nH, rfl, y, .ref pc, _, hi, rfl, hy, .inr ⟨pc, rfl, hc.same k14⟩, sf, sh.mono (by decide), fun H5 k5 => ⟨_, rfl, ?_⟩⟩
        have k15 := k14.trans k5
        cases hB : rBelow (rOver u ((d - 1 : Int) : Rat)) hi with
        | false => exact iteT ⟨_, rfl, s, _, dx, _, _, rfl, k15 _ _ es, TM.cl, TM.nH, rfl, fin k15 (hc.same k15) (by rw [if_neg nA, if_neg e1, if_pos hB])⟩
        | true =>
          have nB : ¬ _ = false := fun y => Bool.noConfusion (hB.symm.trans y)
          refine iteF ⟨_, rfl, y, dy, _, rfl, k5 _ _ ey, rfl, _, rfl, s, _, dx, _, _, rfl, k15 _ _ es, TM.cl, TM.nL, rfl, y, .ref pb, _, lo, rfl, hy.same k5, .inr ⟨pb, rfl, hb.same k15⟩, sf, sl.mono (by decide), fun H6 k6 => ⟨_, rfl, ?_⟩⟩
          have k16 := k15.trans k6
          cases hD : rBelow (rOver u ((d - 1 : Int) : Rat)) lo with
          | true => exact iteT ⟨_, rfl, s, _, dx, _, _, rfl, k16 _ _ es, TM.cl, TM.nL, rfl, fin k16 (hb.same k16) (by rw [if_neg nA, if_neg e1, if_neg nB, if_pos hD])⟩
          | false => exact iteF ⟨_, rfl, fin k16 (hy.same (k5.trans k6)) (by rw [if_neg nA, if_neg e1, if_neg nB, if_neg (by rw [hD]; decide)])⟩
end
end K18
set_option maxHeartbeats 4000000
namespace K18
open PySem PySem.Spec PyProof.Rows L2 GL
def cMEq (d : Int) (u lo hi : Rat) (e : Int) (v l2 h2 : Rat) : Bool := decide (d = e) && (decide (u = v) && (decide (lo = l2) && decide (hi = h2)))
theorem cMEq_self (d : Int) (u lo hi : Rat) : cMEq d u lo hi d u lo hi = true := by
  unfold cMEq
  simp
section
variable {P : Program} {w : World} {K : PySem.W.Frag} {mg : Str → Option Value} {base : Heap}
/-! ### Move.__eq__ -/
def spMEq (K : PySem.W.Frag) : Sp := fun vs H Q _ => ∃ (s : Addr) (y : V) (d : Int) (u lo hi : Rat), vs = [.ref s, y] ∧ MovAt K H s d u lo hi ∧
  ((∃ o e v l2 h2, y = .ref o ∧ MovAt K H o e v l2 h2 ∧ Q (.bl (cMEq d u lo hi e v l2 h2)) H) ∨ ∃ t, TyX K H y t ∧ PySem.W.kitOne K t (.ref (aM K)) = some false ∧ Q (.bl false) H)
theorem scMEq : FnScope ["self", "other"] ["self", "other"] (defScope (sMove 26)) := ⟨rfl, rfl, rfl, by decide +kernel, rfl, by decide +kernel, by decide +kernel⟩
theorem ok_mEq {f : Addr} {fd : FuncData} (F : FunD K "__eq__" "Move.__eq__" (defArgs (sMove 26)) (defBody (sMove 26)) (defScope (sMove 26)) [] [] f fd) (M : RM P w K mg base) : FnOk P w K mg base CX0 3 f fd ["self", "other"] (spMEq K) := by
  obtain ⟨fE, oE, GE⟩ := M.L.C.J.I.eq
  have TR := M.L.C.J.I.R.G.T
  have TM := M.T
  refine F.ok scMEq (fun vs H Q E h => ?_) (fun cdv A outer s H vs Q E hr h => ?_)
  · obtain ⟨s, y, d, u, lo, hi, rfl, _⟩ := h
    rfl
  · obtain ⟨s, y, d, u, lo, hi, rfl, ⟨d1, le, dx, pa, pb, pc, es, ha, hb, hc⟩, h⟩ := h
    refine ⟨_, pss_cons (ps_if (pt_not (pt_val (pe_callB call_isi (by rfl) TR.isi (by decide +kernel) (pa_cons (pv 1) (pa_cons (pe_glob (v := .ref (aM K)) rfl TM.gM rfl) pa_nil))))) (pss_one (ps_ret pe_bl)) pss_nil)
      (pss_cons (ps_if (PW.pt (pw_or (pt_cmpR op_ne (pe_fld (pv 0) rfl) (pe_fld (pv 1) rfl) (nomark _)) (pw_or1 (pt_cmpR (op_neO oE GE hr pass0) (pe_fld (pv 0) rfl) (pe_fld (pv 1) rfl) (nomark _))))) (pss_one (ps_ret pe_bl)) pss_nil)
      (pss_one (ps_ret (pe_and (pe_cmpR (op_eqO oE GE (hr.mono (by decide)) pass0) (pe_fld (pv 0) rfl) (pe_fld (pv 1) rfl) (nomark _)) (pe_one (pe_cmpR (op_eqO oE GE (hr.mono (by decide)) pass0) (pe_fld (pv 0) rfl) (pe_fld (pv 1) rfl) (nomark _))))))), ?_⟩
    rcases h with ⟨o, e, v, l2, h2, rfl, ho, k⟩ | ⟨t, ty, kt, k⟩
    · obtain ⟨e1, le2, dy, qa, qb, qc, eo, ha2, hb2, hc2⟩ := id ho
      have nf : PySem.W.notFirst K (aR K) (.ref (aR K)) = true := by unfold PySem.W.notFirst; rw [beq_self_eq_true, Bool.true_or]
      unfold cMEq at k
      refine ⟨_, rfl, .ref o, .ref (aM K), .ref (aM K), _, true, rfl, .own _, ho.ty TM, isi_self, true, rfl, iteF ?_⟩
      refine ⟨_, rfl, s, _, dx, _, _, rfl, es, TM.cl, TM.nD, rfl, _, rfl, o, _, dy, _, _, rfl, eo, TM.cl, TM.nD, rfl, rfl, _, rfl, ?_⟩
      by_cases cd : d = e
      · have z : decide (V.int d = V.int e) = true := decide_eq_true (by rw [cd])
        rw [decide_eq_true cd, Bool.true_and] at k
        dsimp only
        rw [z]
        refine iteF ?_
        obtain ⟨da, ea⟩ := id ha
        refine ⟨_, rfl, s, _, dx, _, _, rfl, es, TM.cl, TM.nP, rfl, _, rfl, o, _, dy, _, _, rfl, eo, TM.cl, TM.nP, rfl, pa, da, _, .ref (aR K), rfl, ea, ha2.ty TR, nf, pa, .ref qa, u, rfl, ha, .inl ⟨qa, v, rfl, ha2, _, rfl, _, rfl, ?_⟩⟩
        cases cu : decide (u = v) with
        | false =>
          rw [cu, Bool.false_and] at k
          exact iteT k
        | true =>
          rw [cu, Bool.true_and] at k
          refine iteF ?_
          obtain ⟨db, eb⟩ := id hb
          refine ⟨_, rfl, s, _, dx, _, _, rfl, es, TM.cl, TM.nL, rfl, _, rfl, o, _, dy, _, _, rfl, eo, TM.cl, TM.nL, rfl, pb, db, _, .ref (aR K), rfl, eb, hb2.ty TR, nf, pb, .ref qb, lo, rfl, hb, .inl ⟨qb, l2, rfl, hb2, _, rfl, ?_⟩⟩
          cases cl : decide (lo = l2) with
          | false =>
            rw [cl, Bool.false_and] at k
            exact iteF k
          | true =>
            rw [cl, Bool.true_and] at k
            obtain ⟨dc, ec⟩ := id hc
            exact iteT ⟨_, rfl, s, _, dx, _, _, rfl, es, TM.cl, TM.nH, rfl, _, rfl, o, _, dy, _, _, rfl, eo, TM.cl, TM.nH, rfl, pc, dc, _, .ref (aR K), rfl, ec, hc2.ty TR, nf, pc, .ref qc, hi, rfl, hc, .inl ⟨qc, h2, rfl, hc2, k⟩⟩
      · have z : decide (V.int d = V.int e) = false := decide_eq_false fun y => cd (by injection y)
        rw [decide_eq_false cd, Bool.false_and] at k
        dsimp only
        rw [z]
        exact iteT k
    · exact ⟨_, rfl, y, .ref (aM K), t, _, false, rfl, .own _, ty, kt, false, rfl, iteT k⟩
/-! ### the parts told -/
theorem scM5 : FnScope ["self"] ["self"] (defScope (sMove 5)) := ⟨rfl, rfl, rfl, by decide +kernel, rfl, by decide +kernel, by decide +kernel⟩
theorem ok_mDiv {f : Addr} {fd : FuncData} (F : FunD K "divisor" "Move.divisor" (defArgs (sMove 5)) (defBody (sMove 5)) (defScope (sMove 5)) [] [] f fd) (T : MF K mg) : FnOk P w K mg base CX0 1 f fd ["self"] (fun vs H Q _ => ∃ (s : Addr) (d : Int) (u lo hi : Rat), vs = [.ref s] ∧ MovAt K H s d u lo hi ∧ Q (.int d) H) := by
  refine F.ok scM5 (fun vs H Q E h => ?_) (fun cdv A outer s H vs Q E hr h => ?_)
  · obtain ⟨s, d, u, lo, hi, rfl, _⟩ := h
    rfl
  · obtain ⟨s, d, u, lo, hi, rfl, ⟨d1, le, dx, pa, pb, pc, es, ha, hb, hc⟩, k⟩ := h
    exact ⟨_, pss_one (ps_ret (pe_fld (pv 0) rfl)), _, rfl, s, _, dx, _, _, rfl, es, T.cl, T.nD, rfl, k⟩
def spMGet (K : PySem.W.Frag) (g : Rat → Rat → Rat → Rat) : Sp := fun vs H Q _ => ∃ (s : Addr) (d : Int) (u lo hi : Rat), vs = [.ref s] ∧ MovAt K H s d u lo hi ∧ ∀ a, RatAt K H a (g u lo hi) → Q (.ref a) H
theorem scM6 : FnScope ["self"] ["self"] (defScope (sMove 6)) := ⟨rfl, rfl, rfl, by decide +kernel, rfl, by decide +kernel, by decide +kernel⟩
theorem ok_mPlus {f : Addr} {fd : FuncData} (F : FunD K "plus" "Move.plus" (defArgs (sMove 6)) (defBody (sMove 6)) (defScope (sMove 6)) [] [] f fd) (T : MF K mg) : FnOk P w K mg base CX0 1 f fd ["self"] (spMGet K fun u _ _ => u) := by
  refine F.ok scM6 (fun vs H Q E h => ?_) (fun cdv A outer s H vs Q E hr h => ?_)
  · obtain ⟨s, d, u, lo, hi, rfl, _⟩ := h
    rfl
  · obtain ⟨s, d, u, lo, hi, rfl, ⟨d1, le, dx, pa, pb, pc, es, ha, hb, hc⟩, k⟩ := h
    exact ⟨_, pss_one (ps_ret (pe_fld (pv 0) rfl)), _, rfl, s, _, dx, _, _, rfl, es, T.cl, T.nP, rfl, k _ ha⟩
theorem scM7 : FnScope ["self"] ["self"] (defScope (sMove 7)) := ⟨rfl, rfl, rfl, by decide +kernel, rfl, by decide +kernel, by decide +kernel⟩
theorem ok_mLow {f : Addr} {fd : FuncData} (F : FunD K "low" "Move.low" (defArgs (sMove 7)) (defBody (sMove 7)) (defScope (sMove 7)) [] [] f fd) (T : MF K mg) : FnOk P w K mg base CX0 1 f fd ["self"] (spMGet K fun _ l _ => l) := by
  refine F.ok scM7 (fun vs H Q E h => ?_) (fun cdv A outer s H vs Q E hr h => ?_)
  · obtain ⟨s, d, u, lo, hi, rfl, _⟩ := h
    rfl
  · obtain ⟨s, d, u, lo, hi, rfl, ⟨d1, le, dx, pa, pb, pc, es, ha, hb, hc⟩, k⟩ := h
    exact ⟨_, pss_one (ps_ret (pe_fld (pv 0) rfl)), _, rfl, s, _, dx, _, _, rfl, es, T.cl, T.nL, rfl, k _ hb⟩
theorem scM8 : FnScope ["self"] ["self"] (defScope (sMove 8)) := ⟨rfl, rfl, rfl, by decide +kernel, rfl, by decide +kernel, by decide +kernel⟩
theorem ok_mHigh {f : Addr} {fd : FuncData} (F : FunD K "high" "Move.high" (defArgs (sMove 8)) (defBody (sMove 8)) (defScope (sMove 8)) [] [] f fd) (T : MF K mg) : FnOk P w K mg base CX0 1 f fd ["self"] (spMGet K fun _ _ h => h) := by
  refine F.ok scM8 (fun vs H Q E h => ?_) (fun cdv A outer s H vs Q E hr h => ?_)
  · obtain ⟨s, d, u, lo, hi, rfl, _⟩ := h
    rfl
  · obtain ⟨s, d, u, lo, hi, rfl, ⟨d1, le, dx, pa, pb, pc, es, ha, hb, hc⟩, k⟩ := h
    exact ⟨_, pss_one (ps_ret (pe_fld (pv 0) rfl)), _, rfl, s, _, dx, _, _, rfl, es, T.cl, T.nH, rfl, k _ hc⟩
theorem scR4 : FnScope ["self"] ["self"] (defScope (sRatio 4)) := ⟨rfl, rfl, rfl, by decide +kernel, rfl, by decide +kernel, by decide +kernel⟩
theorem ok_top {f : Addr} {fd : FuncData} (F : FunD K "top" "Ratio.top" (defArgs (sRatio 4)) (defBody (sRatio 4)) (defScope (sRatio 4)) [] [] f fd) (T : RF K mg) : FnOk P w K mg base CX0 1 f fd ["self"] (fun vs H Q _ => ∃ (a : Addr) (q : Rat), vs = [.ref a] ∧ RatAt K H a q ∧ Q (.int q.num) H) := by
  refine F.ok scR4 (fun vs H Q E h => ?_) (fun cdv A outer s H vs Q E hr h => ?_)
  · obtain ⟨a, q, rfl, _⟩ := h
    rfl
  · obtain ⟨a, q, rfl, ⟨d, e⟩, k⟩ := h
    exact ⟨_, pss_one (ps_ret (pe_fld (pv 0) rfl)), _, rfl, a, _, d, _, _, rfl, e, T.cl, T.nT, rfl, k⟩
theorem scR5 : FnScope ["self"] ["self"] (defScope (sRatio 5)) := ⟨rfl, rfl, rfl, by decide +kernel, rfl, by decide +kernel, by decide +kernel⟩
theorem ok_bottom {f : Addr} {fd : FuncData} (F : FunD K "bottom" "Ratio.bottom" (defArgs (sRatio 5)) (defBody (sRatio 5)) (defScope (sRatio 5)) [] [] f fd) (T : RF K mg) : FnOk P w K mg base CX0 1 f fd ["self"] (fun vs H Q _ => ∃ (a : Addr) (q : Rat), vs = [.ref a] ∧ RatAt K H a q ∧ Q (.int (q.den : Int)) H) := by
  refine F.ok scR5 (fun vs H Q E h => ?_) (fun cdv A outer s H vs Q E hr h => ?_)
  · obtain ⟨a, q, rfl, _⟩ := h
    rfl
  · obtain ⟨a, q, rfl, ⟨d, e⟩, k⟩ := h
    exact ⟨_, pss_one (ps_ret (pe_fld (pv 0) rfl)), _, rfl, a, _, d, _, _, rfl, e, T.cl, T.nB, rfl, k⟩
end
end K18
set_option maxHeartbeats 4000000
namespace K18
open PySem PySem.Spec PyProof.Rows L2 GL
structure RZ (P : Program) (w : World) (K : PySem.W.Frag) (mg : Str → Option Value) (base : Heap) : Prop where
  N : RN P w K mg base
  gLow : PropX P w K mg base (aG K) "low" (spGetR K fun q _ => q)
  gHigh : PropX P w K mg base (aG K) "high" (spGetR K fun _ r => r)
  chkR : DefF P w K mg base "_check_range" 1 ["value"] (spChkRange K)
theorem int_num {K : PySem.W.Frag} {H : Hp} {i : Int} : NumAt K H (.int i) (i : Rat) := .inl ⟨i, rfl, rfl⟩
section
variable {P : Program} {w : World} {K : PySem.W.Frag} {mg : Str → Option Value} {base : Heap}
/-! ### the class methods -/
def spSetting (K : PySem.W.Frag) : Sp := fun vs H Q _ => ∃ (x : V) (z : Rat), vs = [.ref (aM K), x] ∧ NumAt K H x z ∧ Sz 1000 z ∧ ∀ p H', Same H H' → MovAt K H' p 1 ((0 : Int) : Rat) z z → Q (.ref p) H'
theorem scSetting : FnScope ["cls", "number", "ratio"] ["cls", "number"] (defScope (sMove 1)) := ⟨rfl, rfl, rfl, by decide +kernel, rfl, by decide +kernel, by decide +kernel⟩
theorem ok_setting {f : Addr} {fd : FuncData} (F : FunD K "setting" "Move.setting" (defArgs (sMove 1)) (defBody (sMove 1)) (defScope (sMove 1)) [] [] f fd) (Z : RZ P w K mg base) : FnOk P w K mg base CX0 8 f fd ["cls", "number"] (spSetting K) := by
  obtain ⟨mc, pp, fo, cr, cm, GO⟩ := Z.N.M.L.C.J.I.R.of
  obtain ⟨fI, fdI, MI, GI, bI⟩ := Z.N.make
  have TR := Z.N.M.L.C.J.I.R.G.T
  refine F.ok scSetting (fun vs H Q E h => ?_) (fun cdv A outer s H vs Q E hr h => ?_)
  · obtain ⟨x, z, rfl, _⟩ := h
    rfl
  · obtain ⟨x, z, rfl, hx, sz, k⟩ := h
    refine ⟨_, pss_cons (ps_set (i := 2) scSetting.nd rfl (Or.inl rfl) (ClX.pe_cmeth (pe_glob (v := .ref (aR K)) rfl TR.gR rfl) cr cm GO (hr.mono (by decide)) pass0 (pa_cons (pv 1) pa_nil)))
      (pss_one (ps_ret (pe_makeL (i := 0) MI GI hr rfl (.inl rfl) bI .nil pass0 (pa_cons pe_int (pa_cons pe_int (pa_cons (pv 2) (pa_cons (pv 2) pa_nil))))))), ?_⟩
    refine ⟨rfl, _, rfl, x, z, rfl, hx, fun r H1 k1 hr1 => ?_⟩
    refine ⟨rfl, _, rfl, _, rfl, ?_⟩
    intro x0 dz hx0 hd ne
    have le : rBelow z z = false := rBelow_not.mpr Rat.le_refl
    exact made_mov hx0 hd ne (by decide) (int_num (i := 0)) (.inr ⟨r, rfl, hr1⟩) (.inr ⟨r, rfl, hr1⟩) (sz.mono (by decide)) (sz.mono (by decide)) le fun p H2 k2 _ hp => k p H2 (k1.trans k2) hp
def spStaying (K : PySem.W.Frag) : Sp := fun vs H Q _ => ∃ (g : Addr) (q r : Rat), vs = [.ref (aM K), .ref g] ∧ RngAt K H g q r ∧ Sz 1000 q ∧ Sz 1000 r ∧ ∀ p H', Same H H' → MovAt K H' p 1 ((0 : Int) : Rat) q r → Q (.ref p) H'
theorem scStaying : FnScope ["cls", "within"] ["cls", "within"] (defScope (sMove 2)) := ⟨rfl, rfl, rfl, by decide +kernel, rfl, by decide +kernel, by decide +kernel⟩
theorem ok_staying {f : Addr} {fd : FuncData} (F : FunD K "staying" "Move.staying" (defArgs (sMove 2)) (defBody (sMove 2)) (defScope (sMove 2)) [] [] f fd) (Z : RZ P w K mg base) : FnOk P w K mg base CX0 8 f fd ["cls", "within"] (spStaying K) := by
  obtain ⟨fR, fdR, GR, gR, bR, kR⟩ := Z.chkR
  obtain ⟨p1, g1, fd1, P1, G1, b1⟩ := Z.gLow
  obtain ⟨p2, g2, fd2, P2, G2, b2⟩ := Z.gHigh
  obtain ⟨fI, fdI, MI, GI, bI⟩ := Z.N.make
  have TG := Z.N.M.L.T
  refine F.ok scStaying (fun vs H Q E h => ?_) (fun cdv A outer s H vs Q E hr h => ?_)
  · obtain ⟨g, q, r, rfl, _⟩ := h
    rfl
  · obtain ⟨g, q, r, rfl, hg, sq, sr, k⟩ := h
    refine ⟨_, pss_cons (ps_expr (pe_call GR (hr.mono (by decide)) rfl gR kR bR .nil pass0 (pa_cons (pv 1) pa_nil)))
      (pss_one (ps_ret (pe_makeL (i := 0) MI GI hr rfl (.inl rfl) bI .nil pass0 (pa_cons pe_int (pa_cons pe_int (pa_cons (pe_prop (pv 1) TG.cl P1 G1 (hr.mono (by decide)) b1 .nil pass0 rfl) (pa_cons (pe_prop (pv 1) TG.cl P2 G2 (hr.mono (by decide)) b2 .nil pass0 rfl) pa_nil))))))), ?_⟩
    obtain ⟨lg, dg, ga, gb, eg, hga, hgb⟩ := id hg
    refine ⟨_, rfl, g, q, r, rfl, hg, ?_⟩
    refine ⟨rfl, _, rfl, g, dg, _, rfl, eg, g, q, r, rfl, hg, fun a1 ha1 => ?_⟩
    refine ⟨_, rfl, g, dg, _, rfl, eg, g, q, r, rfl, hg, fun a2 ha2 => ?_⟩
    intro x0 dz hx0 hd ne
    exact made_mov hx0 hd ne (by decide) (int_num (i := 0)) (.inr ⟨a1, rfl, ha1⟩) (.inr ⟨a2, rfl, ha2⟩) (sq.mono (by decide)) (sr.mono (by decide)) lg fun p H2 k2 _ hp => k p H2 k2 hp
def spAdding (K : PySem.W.Frag) : Sp := fun vs H Q _ => ∃ (x : V) (g : Addr) (z q r : Rat), vs = [.ref (aM K), x, .ref g] ∧ NumAt K H x z ∧ RngAt K H g q r ∧ Sz 1000 q ∧ Sz 1000 r ∧ ∀ p H', Same H H' → MovAt K H' p 1 z q r → Q (.ref p) H'
theorem scAdding : FnScope ["cls", "number", "within"] ["cls", "number", "within"] (defScope (sMove 3)) := ⟨rfl, rfl, rfl, by decide +kernel, rfl, by decide +kernel, by decide +kernel⟩
theorem ok_adding {f : Addr} {fd : FuncData} (F : FunD K "adding" "Move.adding" (defArgs (sMove 3)) (defBody (sMove 3)) (defScope (sMove 3)) [] [] f fd) (Z : RZ P w K mg base) : FnOk P w K mg base CX0 8 f fd ["cls", "number", "within"] (spAdding K) := by
  obtain ⟨fN, fdN, GN, gN, bN, kN⟩ := Z.N.M.L.C.J.I.isNum
  obtain ⟨fR, fdR, GR, gR, bR, kR⟩ := Z.chkR
  obtain ⟨p1, g1, fd1, P1, G1, b1⟩ := Z.gLow
  obtain ⟨p2, g2, fd2, P2, G2, b2⟩ := Z.gHigh
  obtain ⟨fI, fdI, MI, GI, bI⟩ := Z.N.make
  have TG := Z.N.M.L.T
  refine F.ok scAdding (fun vs H Q E h => ?_) (fun cdv A outer s H vs Q E hr h => ?_)
  · obtain ⟨x, g, z, q, r, rfl, _⟩ := h
    rfl
  · obtain ⟨x, g, z, q, r, rfl, hx, hg, sq, sr, k⟩ := h
    refine ⟨_, pss_cons (ps_if (pt_not (pt_val (pe_call GN (hr.mono (by decide)) rfl gN kN bN .nil pass0 (pa_cons (pv 1) pa_nil)))) (pss_one ps_never) pss_nil)
      (pss_cons (ps_expr (pe_call GR (hr.mono (by decide)) rfl gR kR bR .nil pass0 (pa_cons (pv 2) pa_nil)))
      (pss_one (ps_ret (pe_makeL (i := 0) MI GI hr rfl (.inl rfl) bI .nil pass0 (pa_cons pe_int (pa_cons (pv 1) (pa_cons (pe_prop (pv 2) TG.cl P1 G1 (hr.mono (by decide)) b1 .nil pass0 rfl) (pa_cons (pe_prop (pv 2) TG.cl P2 G2 (hr.mono (by decide)) b2 .nil pass0 rfl) pa_nil)))))))), ?_⟩
    obtain ⟨lg, dg, ga, gb, eg, hga, hgb⟩ := id hg
    refine ⟨_, rfl, x, z, rfl, hx, true, rfl, iteF ⟨_, rfl, g, q, r, rfl, hg, ?_⟩⟩
    refine ⟨rfl, _, rfl, _, rfl, g, dg, _, rfl, eg, g, q, r, rfl, hg, fun a1 ha1 => ?_⟩
    refine ⟨_, rfl, g, dg, _, rfl, eg, g, q, r, rfl, hg, fun a2 ha2 => ?_⟩
    intro x0 dz hx0 hd ne
    exact made_mov hx0 hd ne (by decide) hx (.inr ⟨a1, rfl, ha1⟩) (.inr ⟨a2, rfl, ha2⟩) (sq.mono (by decide)) (sr.mono (by decide)) lg fun p H2 k2 _ hp => k p H2 k2 hp
def spDividing (K : PySem.W.Frag) : Sp := fun vs H Q _ => ∃ (d : Int) (g : Addr) (q r : Rat), vs = [.ref (aM K), .int d, .ref g] ∧ 1 ≤ d ∧ RngAt K H g q r ∧ Sz 1000 q ∧ Sz 1000 r ∧ ∀ p H', Same H H' → MovAt K H' p d ((0 : Int) : Rat) q r → Q (.ref p) H'
theorem scDividing : FnScope ["cls", "divisor", "within"] ["cls", "divisor", "within"] (defScope (sMove 4)) := ⟨rfl, rfl, rfl, by decide +kernel, rfl, by decide +kernel, by decide +kernel⟩
theorem ok_dividing {f : Addr} {fd : FuncData} (F : FunD K "dividing" "Move.dividing" (defArgs (sMove 4)) (defBody (sMove 4)) (defScope (sMove 4)) [] [] f fd) (Z : RZ P w K mg base) : FnOk P w K mg base CX0 8 f fd ["cls", "divisor", "within"] (spDividing K) := by
  obtain ⟨fD, fdD, GD, gD, bD, kD⟩ := Z.N.M.chkD
  obtain ⟨fR, fdR, GR, gR, bR, kR⟩ := Z.chkR
  obtain ⟨p1, g1, fd1, P1, G1, b1⟩ := Z.gLow
  obtain ⟨p2, g2, fd2, P2, G2, b2⟩ := Z.gHigh
  obtain ⟨fI, fdI, MI, GI, bI⟩ := Z.N.make
  have TG := Z.N.M.L.T
  refine F.ok scDividing (fun vs H Q E h => ?_) (fun cdv A outer s H vs Q E hr h => ?_)
  · obtain ⟨d, g, q, r, rfl, _⟩ := h
    rfl
  · obtain ⟨d, g, q, r, rfl, d1, hg, sq, sr, k⟩ := h
    refine ⟨_, pss_cons (ps_expr (pe_call GD (hr.mono (by decide)) rfl gD kD bD .nil pass0 (pa_cons (pv 1) pa_nil)))
      (pss_cons (ps_expr (pe_call GR (hr.mono (by decide)) rfl gR kR bR .nil pass0 (pa_cons (pv 2) pa_nil)))
      (pss_one (ps_ret (pe_makeL (i := 0) MI GI hr rfl (.inl rfl) bI .nil pass0 (pa_cons (pv 1) (pa_cons pe_int (pa_cons (pe_prop (pv 2) TG.cl P1 G1 (hr.mono (by decide)) b1 .nil pass0 rfl) (pa_cons (pe_prop (pv 2) TG.cl P2 G2 (hr.mono (by decide)) b2 .nil pass0 rfl) pa_nil)))))))), ?_⟩
    obtain ⟨lg, dg, ga, gb, eg, hga, hgb⟩ := id hg
    refine ⟨_, rfl, d, rfl, d1, _, rfl, g, q, r, rfl, hg, ?_⟩
    refine ⟨rfl, _, rfl, _, rfl, g, dg, _, rfl, eg, g, q, r, rfl, hg, fun a1 ha1 => ?_⟩
    refine ⟨_, rfl, g, dg, _, rfl, eg, g, q, r, rfl, hg, fun a2 ha2 => ?_⟩
    intro x0 dz hx0 hd ne
    exact made_mov hx0 hd ne d1 (int_num (i := 0)) (.inr ⟨a1, rfl, ha1⟩) (.inr ⟨a2, rfl, ha2⟩) (sq.mono (by decide)) (sr.mono (by decide)) lg fun p H2 k2 _ hp => k p H2 k2 hp
end
end K18
set_option maxHeartbeats 1000000
/-! str(a), a an own instance. -/
namespace GL
open PySem PySem.Spec PyProof.Rows L2
theorem call_strO {X : Cx} {CX : CXT} {E : XK} {k : Nat} {sp : Sp} {C f : Addr} (B : Meth X.K C "__str__" f) (F : FnR X.prog X.w X.K X.mg X.base CX k f sp) (hr : Room (k + 2) X.A) (hx : Passes CX X E) :
    CallR X (.type "str") (fun xs H Q => ∃ a dx fs, xs = [.ref a] ∧ H a = some (.ins C dx fs) ∧ sp [.ref a] H (fun v H' => ∃ z, v = .str z ∧ Q v H') E) := by
  intro pins s σ H xs us Q I r h
  obtain ⟨a, dx, fs, rfl, ea, q⟩ := h
  cases r with
  | cons r1 r2 =>
    cases r2
    rename_i u
    cases (show u = Value.ref a from r1)
    obtain ⟨ox, od, J⟩ := inst_of I ea
    have e0 : Env0 X.prog X.w X.K X.mg X.base X.A.in1.in1 X.stack s H := { I.env0 with frames := I.env0.frames }
    have run := F X.A.in1.in1 X.stack s H [.ref a] [.ref a] _ E (Room.in1 (Room.in1 hr)) e0 (Paired.cons (a := V.ref a) (b := Value.ref a) rfl .nil) q
    have hu : X.A.in1.in1.units < cLine := by
      have := (Room.in1 (Room.in1 hr)).un
      omega
    refine PySem.W.kso_call hu I.kIn J B.at_ B.fn (wpAny_call (codeAny_mono run fun r' s' z => ?_))
    match r', z with
    | .error er, z => exact hx pins σ H s er s' I z
    | .ok .next, z => exact False.elim z
    | .ok .brk, z => exact False.elim z
    | .ok .cont, z => exact False.elim z
    | .ok (.ret w), z =>
      obtain ⟨v, H', I', rv, y, rfl, q'⟩ := I.after z
      obtain ⟨t, rfl⟩ := (show ∃ t, w = Value.str y t from rv)
      exact ⟨V.str y, H', I', rv, q'⟩
end GL
set_option maxHeartbeats 4000000
namespace K18
open PySem PySem.Spec PyProof.Rows L2 GL
abbrev sRng : Stmt := tp 39
abbrev sDraw : Stmt := tp 40
abbrev sChoice : Stmt := tp 41
/-- names of Python's own that the module leaves alone -/
structure Free (mg : Str → Option Value) : Prop where
  len : mg "len" = none
  abs : mg "abs" = none
  max : mg "max" = none
  min : mg "min" = none
  int : mg "int" = none
  divmod : mg "divmod" = none
  range : mg "range" = none
  all : mg "all" = none
  str : mg "str" = none
  list : mg "list" = none
/-- the state of a drawing: a list of two numbers -/
def Rng (H : Hp) (p : Addr) : Prop := ∃ x y : Int, H p = some (.lst [.int x, .int y]) ∧ 0 ≤ y ∧ y < 2 ^ 40
def spRng (K : PySem.W.Frag) : Sp := fun vs H Q _ => ∃ (a : Addr) (ns : List Int) (i : Int), vs = [.ref a, .int i] ∧ SqL K H a (ns.map V.int) ∧ 0 ≤ i ∧ i < 100 ∧
  ∀ p H', H p = none → Same H H' → Rng H' p → Q (.ref p) H'
section
variable {P : Program} {w : World} {K : PySem.W.Frag} {mg : Str → Option Value} {base : Heap}
theorem scRng : FnScope ["_law_script", "_law_spot", "_law_cell"] ["_law_script", "_law_spot"] (defScope sRng) := ⟨rfl, rfl, rfl, by decide +kernel, rfl, by decide +kernel, by decide +kernel⟩
theorem fm_bd (a : Int) {b : Int} (hb : 0 < b) : 0 ≤ a.fmod b ∧ a.fmod b < b := by
  rw [Int.fmod_eq_emod_of_nonneg _ (by omega)]
  exact ⟨Int.emod_nonneg _ (by omega), Int.emod_lt_of_pos _ hb⟩
theorem ok_rng {f : Addr} {fd : FuncData} (F : Fun K "_law_rng" "_law_rng" sRng f fd) (T : Free mg) : FnOk P w K mg base CX0 1 f fd ["_law_script", "_law_spot"] (spRng K) := by
  refine F.ok scRng (fun vs H Q E h => ?_) (fun cdv A outer s H vs Q E hr h => ?_)
  · obtain ⟨a, ns, i, rfl, _⟩ := h
    rfl
  · obtain ⟨a, ns, i, rfl, hS, i0, i1, k⟩ := h
    refine ⟨_, pss_cons (ps_set (i := 2) scRng.nd rfl (Or.inl rfl)
        (pe_ifExp (pt_cmpR op_lt (pv 1) (pe_callB call_len_seq (by rfl) T.len PySem.boot_len (pa_cons (pv 0) pa_nil)) (nomark _))
          (pe_callB call_abs (by rfl) T.abs (by decide +kernel) (pa_cons (pe_ix ix_list (pv 0) (pv 1) (fun _ _ => rfl)) pa_nil))
          (pe_op op_add (pe_op op_mul pe_int (pv 1)) pe_int)))
      (pss_one (ps_ret (pe_lst (pa_cons (pe_callB (call_max2 rfl) (by rfl) T.max (by decide +kernel) (pa_cons pe_int (pa_cons (pe_op op_sub (pv 2) (pe_op op_pow pe_int pe_int)) pa_nil)))
        (pa_cons (pe_op op_add (pe_op op_modN (pe_callTy call_int1 (by rfl) T.int (by decide +kernel) (pa_cons
          (pe_op op_add (pe_op op_add (pe_op op_mul (pe_op op_modN (pe_callTy call_int1 (by rfl) T.int (by decide +kernel) (pa_cons (pv 2) pa_nil)) pe_int) pe_int) (pe_op op_mul pe_int (pv 1))) pe_int) pa_nil)) pe_int) pe_int) pa_nil))))), ?_⟩
    refine ⟨_, rfl, _, rfl, _, _, rfl, .inl hS, _, _, rfl, rfl, _, rfl, ?_⟩
    refine ite2 (fun c => ?_) (fun c => ?_)
    · have c' : i < ((ns.map V.int).length : Int) := of_decide_eq_true c
      obtain ⟨j, rfl⟩ : ∃ j : Nat, i = (j : Int) := ⟨i.toNat, by omega⟩
      have hj : j < ns.length := by rw [List.length_map] at c'; omega
      refine ⟨_, rfl, _, rfl, a, _, _, V.int ns[j], rfl, rfl, hS, atI_nat (by rw [List.getElem?_map, List.getElem?_eq_getElem hj]; rfl), _, rfl, ?_⟩
      generalize (if ns[j] < 0 then -ns[j] else ns[j]) = c
      (refine ⟨_, rfl, _, _, rfl, rfl, ⟨by decide, by decide, by decide⟩, _, _, rfl, rfl, _, _, rfl, _, rfl, .inl ⟨_, rfl, _, _, rfl, rfl, (by show (2147483543 : Int) ≠ 0; decide), _, _, rfl, rfl, .inr ⟨by decide, by decide⟩,
        _, rfl, _, _, rfl, rfl, .inl ⟨by decide, by decide⟩, _, _, rfl, rfl, _, _, rfl, rfl, .inl ⟨_, rfl, _, _, rfl, rfl, (by show (2147483629 : Int) ≠ 0; decide), _, _, rfl, rfl, by show 2 ≤ sizeLine; decide, fun p hp => ?_⟩⟩⟩
       refine k p _ hp (fun b o e => by rw [upd_ne (ne_of_none e hp)]; exact e) ⟨_, _, upd_same, ?_⟩
       have q := fm_bd (c.fmod 2147483543 * 39373 + 52361 * (j : Int) + 29) (b := 2147483629) (by decide)
       exact ⟨by omega, by omega⟩)
    · refine ⟨_, rfl, _, _, rfl, rfl, .inl ⟨by decide, by decide⟩, _, _, rfl, rfl, ?_⟩
      (refine ⟨_, rfl, _, _, rfl, rfl, ⟨by decide, by decide, by decide⟩, _, _, rfl, rfl, _, _, rfl, _, rfl, .inl ⟨_, rfl, _, _, rfl, rfl, (by show (2147483543 : Int) ≠ 0; decide), _, _, rfl, rfl, .inr ⟨by decide, by decide⟩,
        _, rfl, _, _, rfl, rfl, .inl ⟨by decide, by decide⟩, _, _, rfl, rfl, _, _, rfl, rfl, .inl ⟨_, rfl, _, _, rfl, rfl, (by show (2147483629 : Int) ≠ 0; decide), _, _, rfl, rfl, by show 2 ≤ sizeLine; decide, fun p hp => ?_⟩⟩⟩
       refine k p _ hp (fun b o e => by rw [upd_ne (ne_of_none e hp)]; exact e) ⟨_, _, upd_same, ?_⟩
       have q := fm_bd ((11 * i + 4).fmod 2147483543 * 39373 + 52361 * i + 29) (b := 2147483629) (by decide)
       exact ⟨by omega, by omega⟩)
/-! ### a number drawn -/
def spDraw : Sp := fun vs H Q _ => ∃ (p : Addr) (m : Int), vs = [.ref p, .int m] ∧ Rng H p ∧ 0 < m ∧ m < 1000000000 ∧
  ∀ d H', 0 ≤ d → d < m → (∀ b o, H b = some o → b ≠ p → H' b = some o) → Rng H' p → Q (.int d) H'
theorem scDraw : FnScope ["_law_rng_here", "_law_many", "_law_digit"] ["_law_rng_here", "_law_many"] (defScope sDraw) := ⟨rfl, rfl, rfl, by decide +kernel, rfl, by decide +kernel, by decide +kernel⟩
theorem ok_draw {f : Addr} {fd : FuncData} (F : Fun K "_law_draw" "_law_draw" sDraw f fd) (T : Free mg) : FnOk P w K mg base CX0 1 f fd ["_law_rng_here", "_law_many"] spDraw := by
  refine F.ok scDraw (fun vs H Q E h => ?_) (fun cdv A outer s H vs Q E hr h => ?_)
  · obtain ⟨p, m, rfl, _⟩ := h
    rfl
  · obtain ⟨p, m, rfl, ⟨x, y, hp, y0, y1⟩, m0, m1, k⟩ := h
    refine ⟨_, pss_cons (ps_if (pt_cmpR op_gt (pe_ix ix_list (pv 0) pe_int (fun _ _ => rfl)) pe_int (nomark _))
        (pss_cons (ps_asg (pe_callB call_divmod (by rfl) T.divmod (by decide +kernel) (pa_cons (pe_ix ix_list (pv 0) pe_int (fun _ _ => rfl)) (pa_cons (pv 1) pa_nil)))
            (pg_tup (by rfl) (pgs_cons (pg_sub (pv 0) pe_int set_list) (pgs_cons (pg_name (i := 2) scDraw.nd rfl (.inl rfl)) pgs_nil))))
          (pss_one (ps_ret (pv 2)))) pss_nil)
      (pss_cons (ps_asg (pe_op op_modN (pe_callTy call_int1 (by rfl) T.int (by decide +kernel) (pa_cons (pe_op op_add (pe_op op_mul (pe_ix ix_list (pv 0) pe_int (fun _ _ => rfl)) pe_int) pe_int) pa_nil)) pe_int) (pg_sub (pv 0) pe_int set_list))
        (pss_one (ps_ret (pe_op op_modN (pe_callTy call_int1 (by rfl) T.int (by decide +kernel) (pa_cons (pe_op op_fdiv (pe_op op_modN (pe_callTy call_int1 (by rfl) T.int (by decide +kernel)
          (pa_cons (pe_op op_mul (pe_ix ix_list (pv 0) pe_int (fun _ _ => rfl)) (pe_ix ix_list (pv 0) pe_int (fun _ _ => rfl))) pa_nil)) pe_int) pe_int) pa_nil)) (pv 1))))), ?_⟩
    refine ⟨_, rfl, p, _, _, _, rfl, rfl, SqL.of hp, rfl, _, _, rfl, rfl, _, rfl, ?_⟩
    refine ite2 (fun c => ?_) (fun c => ?_)
    · refine ⟨_, rfl, p, _, _, _, rfl, rfl, SqL.of hp, rfl, _, rfl, ?_⟩
      refine ⟨_, _, rfl, ⟨m0, by omega⟩, fun t ht => ?_⟩
      have hpt : p ≠ t := ne_of_none hp ht
      refine ⟨t, _, rfl, SqT.of upd_same, rfl, _, _, rfl, _, rfl, p, _, _, 0, rfl, rfl, by rw [upd_ne hpt]; exact hp, rfl, _, _, rfl, rfl, _, rfl, ?_⟩
      refine k _ _ (Int.emod_nonneg _ (by omega)) (Int.emod_lt_of_pos _ m0) (fun b o e hb => by rw [upd_ne hb, upd_ne (ne_of_none e ht)]; exact e) ⟨_, _, upd_same, y0, y1⟩
    · refine ⟨_, rfl, p, _, _, _, rfl, rfl, SqL.of hp, rfl, _, _, rfl, rfl, .inr ⟨by decide, by decide⟩, _, _, rfl, rfl, .inl ⟨_, rfl, _, _, rfl, rfl, (by show (2147483587 : Int) ≠ 0; decide), _, rfl, p, _, _, 1, rfl, rfl, hp, rfl, ?_⟩⟩
      have q := fm_bd (y * 48271 + 12227) (b := 2147483587) (by decide)
      refine ⟨_, rfl, p, _, _, _, rfl, rfl, SqL.of upd_same, rfl, _, rfl, p, _, _, _, rfl, rfl, SqL.of upd_same, rfl, _, _, rfl, rfl, .inl ⟨by omega, by omega⟩, .inl ⟨_, rfl, _, _, rfl, rfl, (by show (2147483549 : Int) ≠ 0; decide), _, _, rfl, rfl, ⟨by decide, by decide⟩,
        .inl ⟨_, rfl, _, rfl, _, _, rfl, rfl, (by show m ≠ 0; omega), ?_⟩⟩⟩
      have r := fm_bd (((y * 48271 + 12227).fmod 2147483587 * (y * 48271 + 12227).fmod 2147483587).fmod 2147483549 / 13) m0
      exact k _ _ r.1 r.2 (fun b o e hb => by rw [upd_ne hb]; exact e) ⟨_, _, upd_same, by omega, by omega⟩

/-! ### one of several -/
def spChoice (K : PySem.W.Frag) : Sp := fun vs H Q _ => ∃ (p l : Addr) (xs : List V), vs = [.ref p, .ref l] ∧ Rng H p ∧ H l = some (.lst xs) ∧ l ≠ p ∧ 0 < xs.length ∧ xs.length < 1000 ∧
  ∀ v H', v ∈ xs → (∀ b o, H b = some o → b ≠ p → H' b = some o) → Rng H' p → Q v H'
theorem scChoice : FnScope ["_law_rng_here", "_law_some"] ["_law_rng_here", "_law_some"] (defScope sChoice) := ⟨rfl, rfl, rfl, by decide +kernel, rfl, by decide +kernel, by decide +kernel⟩
theorem ok_choice {f fD : Addr} {fd fdD : FuncData} (F : Fun K "_law_choice" "_law_choice" sChoice f fd) (T : Free mg) (FD : Fun K "_law_draw" "_law_draw" sDraw fD fdD) (gD : mg "_law_draw" = some (.ref fD)) (bD : Binds K fdD ["_law_rng_here", "_law_many"] []) :
    FnOk P w K mg base CX0 2 f fd ["_law_rng_here", "_law_some"] (spChoice K) := by
  have GD : FnOk P w K mg base CX0 1 fD fdD ["_law_rng_here", "_law_many"] spDraw := ok_draw FD T
  refine F.ok scChoice (fun vs H Q E h => ?_) (fun cdv A outer s H vs Q E hr h => ?_)
  · obtain ⟨p, l, xs, rfl, _⟩ := h
    rfl
  · obtain ⟨p, l, xs, rfl, R, hl, hlp, x0, x1, k⟩ := h
    refine ⟨_, pss_one (ps_ret (pe_ix ix_list (pv 1) (pe_call GD hr rfl gD FD.kp bD .nil pass0 (pa_cons (pv 0) (pa_cons (pe_callB call_len_seq (by rfl) T.len PySem.boot_len (pa_cons (pv 1) pa_nil)) pa_nil))) (fun _ _ => rfl))), ?_⟩
    refine ⟨_, rfl, _, rfl, _, rfl, _, _, rfl, .inl (SqL.of hl), ?_⟩
    refine ⟨p, _, rfl, R, by omega, by omega, fun d H' d0 d1 kp R' => ?_⟩
    obtain ⟨j, rfl⟩ : ∃ j : Nat, d = (j : Int) := ⟨d.toNat, by omega⟩
    have hj : j < xs.length := by omega
    exact ⟨l, _, _, _, rfl, rfl, SqL.of (kp l _ hl hlp), atI_nat (List.getElem?_eq_getElem hj), k _ _ (List.getElem_mem hj) kp R'⟩
end
end K18
set_option maxHeartbeats 4000000
namespace K18
open PySem PySem.Spec PyProof.Rows L2 GL
/-- the text of a number -/
def strQ (q : Rat) : Str := if q.den = 1 then toString q.num else ((Str.empty ++ toString q.num) ++ "/") ++ toString (q.den : Int)
section
variable {P : Program} {w : World} {K : PySem.W.Frag} {mg : Str → Option Value} {base : Heap}
def spStr (K : PySem.W.Frag) : Sp := fun vs H Q _ => ∃ (a : Addr) (q : Rat), vs = [.ref a] ∧ RatAt K H a q ∧ Sz 900 q ∧ ∀ z, Q (.str z) H
theorem scStr : FnScope ["self"] ["self"] (defScope (sRatio 14)) := ⟨rfl, rfl, rfl, by decide +kernel, rfl, by decide +kernel, by decide +kernel⟩
theorem ok_str {f : Addr} {fd : FuncData} (F : FunD K "__str__" "Ratio.__str__" (defArgs (sRatio 14)) (defBody (sRatio 14)) (defScope (sRatio 14)) [] [] f fd) (T : RF K mg) (sT : mg "str" = none) : FnOk P w K mg base CX0 1 f fd ["self"] (spStr K) := by
  refine F.ok scStr (fun vs H Q E h => ?_) (fun cdv A outer s H vs Q E hr h => ?_)
  · obtain ⟨a, q, rfl, _⟩ := h
    rfl
  · obtain ⟨a, q, rfl, ⟨d, e⟩, sz, k⟩ := h
    refine ⟨_, pss_cons (ps_if (pt_cmpR op_eq (pe_fld (pv 0) rfl) pe_int (nomark _)) (pss_one (ps_ret (pe_callTy call_str_int (by rfl) sT (by decide +kernel) (pa_cons (pe_fld (pv 0) rfl) pa_nil)))) pss_nil)
      (pss_one (ps_ret (pe_joined (.cons (pe_fmt (pe_fld (pv 0) rfl)) (.cons pe_str (.cons (pe_fmt (pe_fld (pv 0) rfl)) .nil)))))), ?_⟩
    have l1 : q.num.natAbs.log2 < 1920 := Nat.lt_trans (log2_lt sz.1 (by decide)) (by decide)
    have l2 : (q.den : Int).natAbs.log2 < 1920 := Nat.lt_trans (log2_lt sz.den (by decide)) (by decide)
    refine ⟨_, rfl, a, _, d, _, _, rfl, e, T.cl, T.nB, rfl, rfl, _, rfl, ?_⟩
    refine ite2 (fun c => ?_) (fun c => ?_)
    · exact ⟨_, rfl, a, _, d, _, _, rfl, e, T.cl, T.nT, rfl, _, rfl, l1, k _⟩
    · refine ⟨_, rfl, a, _, d, _, _, rfl, e, T.cl, T.nT, rfl, .inr ⟨_, rfl, l1, ?_⟩⟩
      have n1 : (Str.ofString (toString q.num)).length ≤ 1921 := by
        rw [PySem.ofString_length]
        exact int_text_length_le (by decide) l1
      have n2 : (Str.ofString (toString (q.den : Int))).length ≤ 1921 := by
        rw [PySem.ofString_length]
        exact int_text_length_le (by decide) l2
      have n0 : (Str.ofString "/").length = 1 := by decide +kernel
      have e0 : Str.empty.length = 0 := rfl
      have line := sizeLine_eq
      refine ⟨_, rfl, by rw [strLen_append]; omega, ?_⟩
      refine ⟨_, rfl, by rw [strLen_append, strLen_append]; omega, ?_⟩
      refine ⟨_, rfl, a, _, d, _, _, rfl, e, T.cl, T.nB, rfl, .inr ⟨_, rfl, l2, ?_⟩⟩
      refine ⟨_, rfl, by rw [strLen_append, strLen_append, strLen_append]; omega, ?_⟩
      exact k _
end
end K18
set_option maxHeartbeats 4000000
namespace K18
open PySem PySem.Spec PyProof.Rows L2 GL
abbrev sPlain : Stmt := tp 42
theorem plain_norm {t b : Int} (hb : b ≠ 0) : ((if b < 0 then -1 else 1) * t).fdiv (t.natAbs.gcd b.natAbs : Int) = (Rat.divInt t b).num ∧ (b.natAbs : Int).fdiv (t.natAbs.gcd b.natAbs : Int) = ((Rat.divInt t b).den : Int) := by
  have N := norm (t := t) hb
  by_cases p : 0 < b
  · rw [if_pos p] at N
    have e : (b.natAbs : Int) = b := by omega
    rw [if_neg (by omega), Int.one_mul, e]
    exact N
  · have n : b < 0 := by omega
    rw [if_neg p] at N
    have e : (b.natAbs : Int) = -b := by omega
    rw [if_pos n, Int.neg_one_mul, e]
    have f1 : (-t).fdiv (t.natAbs.gcd b.natAbs : Int) = t.fdiv (-(t.natAbs.gcd b.natAbs : Int)) := by
      rw [← Int.neg_fdiv_neg, Int.neg_neg]
    have f2 : (-b).fdiv (t.natAbs.gcd b.natAbs : Int) = b.fdiv (-(t.natAbs.gcd b.natAbs : Int)) := by
      rw [← Int.neg_fdiv_neg, Int.neg_neg]
    rw [f1, f2]
    exact N
theorem abs_is (i : Int) : (if i < 0 then -i else i) = (i.natAbs : Int) := by
  split <;> omega
section
variable {P : Program} {w : World} {K : PySem.W.Frag} {mg : Str → Option Value} {base : Heap}
def spPlain (K : PySem.W.Frag) : Sp := fun vs H Q _ => ∃ (t b : Int), vs = [.int t, .int b] ∧ b ≠ 0 ∧ t.natAbs < 2 ^ 4000 ∧ b.natAbs < 2 ^ 4000 ∧ ∀ p H', Same H H' → H p = none → H' p = some (.tup [.int (Rat.divInt t b).num, .int ((Rat.divInt t b).den : Int)]) → Q (.ref p) H'
theorem scPlain : FnScope ["_law_over", "_law_under", "_law_first", "_law_second", "_law_sign"] ["_law_over", "_law_under"] (defScope sPlain) := ⟨rfl, rfl, rfl, by decide +kernel, rfl, by decide +kernel, by decide +kernel⟩
theorem ok_plain {f : Addr} {fd : FuncData} (F : Fun K "_law_plain" "_law_plain" sPlain f fd) (T : Free mg) : FnOk P w K mg base CX0 1 f fd ["_law_over", "_law_under"] (spPlain K) := by
  refine F.ok scPlain (fun vs H Q E h => ?_) (fun cdv A outer s H vs Q E hr h => ?_)
  · obtain ⟨t, b, rfl, _⟩ := h
    rfl
  · obtain ⟨t, b, rfl, hb, ht, hz, k⟩ := h
    refine ⟨_, pss_cons (ps_par (i := 2) (j := 3) (by rfl) scPlain.nd rfl rfl (by decide) rfl rfl (pa_cons (pe_callB call_abs (by rfl) T.abs (by decide +kernel) (pa_cons (pv 0) pa_nil)) (pa_cons (pe_callB call_abs (by rfl) T.abs (by decide +kernel) (pa_cons (pv 1) pa_nil)) pa_nil)) (by rfl))
      (pss_cons (ps_while PassesOwn.never (pt_cmpR op_ne (pv 3) pe_int (nomark _)) (pss_one (ps_par (i := 2) (j := 3) (by rfl) scPlain.nd rfl rfl (by decide) rfl rfl (pa_cons (pv 3) (pa_cons (pe_op op_modN (pe_callTy call_int1 (by rfl) T.int (by decide +kernel) (pa_cons (pv 2) pa_nil)) (pv 3)) pa_nil)) (by rfl))))
      (pss_cons (ps_set (i := 4) scPlain.nd rfl (Or.inl rfl) (pe_ifExp (pt_cmpR op_lt (pv 1) pe_int (nomark _)) (pe_un un_neg pe_int) pe_int))
      (pss_one (ps_ret (pe_tup (pa_cons (pe_op op_fdivZ (pe_op op_mul (pv 4) (pv 0)) (pv 2)) (pa_cons (pe_op op_fdivZ (pe_callB call_abs (by rfl) T.abs (by decide +kernel) (pa_cons (pv 1) pa_nil)) (pv 2)) pa_nil))))))), ?_⟩
    refine ⟨_, rfl, _, rfl, _, rfl, _, rfl, _, _, rfl, ?_⟩
    rw [abs_is, abs_is]
    have gp : 0 < t.natAbs.gcd b.natAbs := Nat.gcd_pos_of_pos_right _ (Int.natAbs_pos.mpr hb)
    have gl : (t.natAbs.gcd b.natAbs).log2 < 9000 := log2_lt (Nat.lt_of_lt_of_le (Nat.lt_of_le_of_lt (Nat.gcd_le_right _ (Int.natAbs_pos.mpr hb)) hz) (Nat.pow_le_pow_right (by decide) (by decide))) (by decide)
    have N := plain_norm (t := t) hb
    generalize hG : t.natAbs.gcd b.natAbs = G at *
    refine ⟨fun m σ H' => ∃ f s : Nat, m = s ∧ H' = H ∧ σ = [some (.int t), some (.int b), some (.int (f : Int)), some (.int (s : Int)), none] ∧ f.gcd s = G, ⟨_, t.natAbs, b.natAbs, rfl, rfl, rfl, hG⟩, ?_⟩
    rintro s σ H1 ⟨f, s2, rfl, rfl, rfl, hg⟩
    refine ⟨_, rfl, rfl, _, rfl, ?_⟩
    by_cases z : s = 0
    · have e : (!decide (V.int (s : Int) = V.int 0)) = false := by rw [z]; rfl
      dsimp only
      rw [e]
      subst z
      rw [Nat.gcd_zero_right] at hg
      subst hg
      have fin : ∀ sg : Int, sg = (if b < 0 then -1 else 1) → tRet (tTup (tCons (tOp (rI (fun _ j => j ≠ 0 ∧ j.natAbs.log2 < 9000) fun i j => .int (i.fdiv j)) (tOp (rI (fun i j => (-(2 ^ 64) < i ∧ i < 2 ^ 64) ∨ (-(2 ^ 64) < j ∧ j < 2 ^ 64)) fun i j => .int (i * j)) (tVar 4) (tVar 0)) (tVar 2)) (tCons (tOp (rI (fun _ j => j ≠ 0 ∧ j.natAbs.log2 < 9000) fun i j => .int (i.fdiv j)) (tCB (fun xs H Q => ∃ n, xs = [V.int n] ∧ Q (.int (if n < 0 then -n else n)) H) (tCons (tVar 1) tNil)) (tVar 2)) tNil))) { nx := fun _ H' => Q .non H', rt := Q } [some (.int t), some (.int b), some (.int (f : Int)), some (.int ((0 : Nat) : Int)), some (.int sg)] H1 := by
        rintro sg rfl
        refine ⟨_, rfl, _, rfl, _, _, rfl, rfl, .inl (by split <;> decide), _, rfl, _, _, rfl, rfl, ⟨by omega, by rw [Int.natAbs_natCast]; exact gl⟩, _, rfl, _, rfl, _, rfl, _, _, rfl, rfl, ⟨by omega, by rw [Int.natAbs_natCast]; exact gl⟩, (by show 2 ≤ sizeLine; decide), fun p np => ?_⟩
        rw [abs_is]
        dsimp only
        rw [N.1, N.2]
        exact k p _ (fun b o e => by rw [upd_ne (ne_of_none e np)]; exact e) np upd_same
      refine iteF ⟨_, rfl, _, _, rfl, rfl, _, rfl, ?_⟩
      refine ite2 (fun c => ?_) (fun c => ?_)
      · exact ⟨_, rfl, fin _ (by rw [if_pos (of_decide_eq_true c)])⟩
      · exact fin _ (by rw [if_neg fun y => c (decide_eq_true y)])
    · have e : (!decide (V.int (s : Int) = V.int 0)) = true := by
        have : decide (V.int (s : Int) = V.int 0) = false := decide_eq_false fun y => by
          injection y with y
          omega
        rw [this]
        rfl
      dsimp only
      rw [e]
      refine iteT ⟨fun σ' H' => H' = H1 ∧ σ' = [some (.int t), some (.int b), some (.int (s : Int)), some (.int ((f % s : Nat) : Int)), none], ?_, ?_⟩
      · rintro σ' H' ⟨rfl, rfl⟩
        refine ⟨f % s, Nat.mod_lt _ (by omega), s, f % s, rfl, rfl, rfl, ?_⟩
        rw [← hg, Nat.gcd_comm s, ← Nat.gcd_rec, Nat.gcd_comm]
      · refine ⟨_, rfl, _, rfl, .inl ⟨_, rfl, _, rfl, _, _, rfl, rfl, (by show (s : Int) ≠ 0; omega), _, _, rfl, rfl, ?_⟩⟩
        show [some (V.int t), some (.int b), some (.int (s : Int)), some (.int ((f : Int).fmod (s : Int))), none] = _
        rw [Int.fmod_eq_emod_of_nonneg _ (by omega)]
        rfl
end
end K18
set_option maxHeartbeats 4000000
namespace K18
open PySem PySem.Spec PyProof.Rows L2 GL
abbrev sFrac : Stmt := tp 43
abbrev sThing : Stmt := tp 44
theorem off_kp {H H' : Hp} {p : Addr} (k : ∀ b o, H b = some o → b ≠ p → H' b = some o) : Same (off H p) H' := fun b o e => k b o (off_some e).2 (off_some e).1
theorem off_off {H H1 H2 : Hp} {p : Addr} (k : Same (off H p) H1) (j : Same (off H1 p) H2) : Same (off H p) H2 := fun b o e => j b o (off_same k b o e)
theorem Rng.ne {H : Hp} {p t : Addr} {xs : List V} (R : Rng H p) (h : H t = some (.tup xs)) : t ≠ p := by
  obtain ⟨x, y, e, _⟩ := R
  rintro rfl
  rw [e] at h
  cases h
theorem Rng.same {H H' : Hp} {p : Addr} (R : Rng H p) (k : Same H H') : Rng H' p := by
  obtain ⟨x, y, e, z⟩ := R
  exact ⟨x, y, k _ _ e, z⟩
section
variable {P : Program} {w : World} {K : PySem.W.Frag} {mg : Str → Option Value} {base : Heap}
def spFrac (K : PySem.W.Frag) : Sp := fun vs H Q _ => ∃ p : Addr, vs = [.ref p] ∧ Rng H p ∧ ∀ t q H', Same (off H p) H' → Rng H' p → H' t = some (.tup [.int q.num, .int (q.den : Int)]) → Sz 80 q → Q (.ref t) H'
theorem scFrac : FnScope ["_law_rng_here"] ["_law_rng_here"] (defScope sFrac) := ⟨rfl, rfl, rfl, by decide +kernel, rfl, by decide +kernel, by decide +kernel⟩
structure DA (P : Program) (w : World) (K : PySem.W.Frag) (mg : Str → Option Value) (base : Heap) : Prop where
  F : Free mg
  draw : DefF P w K mg base "_law_draw" 1 ["_law_rng_here", "_law_many"] spDraw
  choice : DefF P w K mg base "_law_choice" 2 ["_law_rng_here", "_law_some"] (spChoice K)
  plain : DefF P w K mg base "_law_plain" 1 ["_law_over", "_law_under"] (spPlain K)
theorem ok_frac {f : Addr} {fd : FuncData} (F : Fun K "_law_fraction" "_law_fraction" sFrac f fd) (D : DA P w K mg base) : FnOk P w K mg base CX0 3 f fd ["_law_rng_here"] (spFrac K) := by
  obtain ⟨fD, fdD, GD, gD, bD, kD⟩ := D.draw
  obtain ⟨fC, fdC, GC, gC, bC, kC⟩ := D.choice
  obtain ⟨fP, fdP, GP, gP, bP, kP⟩ := D.plain
  refine F.ok scFrac (fun vs H Q E h => ?_) (fun cdv A outer s H vs Q E hr h => ?_)
  · obtain ⟨p, rfl, _⟩ := h
    rfl
  · obtain ⟨p, rfl, R, k⟩ := h
    refine ⟨_, pss_cons (ps_if (pt_cmpR op_eq (pe_call GD (hr.mono (by decide)) rfl gD kD bD .nil pass0 (pa_cons (pv 0) (pa_cons pe_int pa_nil))) pe_int (nomark _))
        (pss_one (ps_ret (pe_call GP (hr.mono (by decide)) rfl gP kP bP .nil pass0 (pa_cons (pe_call GC hr rfl gC kC bC .nil pass0 (pa_cons (pv 0) (pa_cons (pe_lst (pa_cons (pe_op op_add (pe_op op_pow pe_int pe_int) pe_int) (pa_cons (pe_un un_neg (pe_op op_pow pe_int pe_int)) (pa_cons (pe_op op_mul pe_int (pe_op op_pow pe_int pe_int)) pa_nil)))) pa_nil)))
          (pa_cons (pe_op op_add pe_int (pe_call GD (hr.mono (by decide)) rfl gD kD bD .nil pass0 (pa_cons (pv 0) (pa_cons (pe_op op_pow pe_int pe_int) pa_nil)))) pa_nil))))) pss_nil)
      (pss_one (ps_ret (pe_call GP (hr.mono (by decide)) rfl gP kP bP .nil pass0 (pa_cons (pe_op op_sub (pe_call GD (hr.mono (by decide)) rfl gD kD bD .nil pass0 (pa_cons (pv 0) (pa_cons pe_int pa_nil))) pe_int)
        (pa_cons (pe_call GC hr rfl gC kC bC .nil pass0 (pa_cons (pv 0) (pa_cons (pe_lst (pa_cons pe_int (pa_cons pe_int (pa_cons pe_int (pa_cons pe_int (pa_cons pe_int (pa_cons pe_int pa_nil))))))) pa_nil))) pa_nil))))), ?_⟩
    -- the ends of both ways
    have fin : ∀ {t b : Int} {H1 : Hp}, Same (off H p) H1 → Rng H1 p → b ≠ 0 → t.natAbs < 2 ^ 80 → b.natAbs < 2 ^ 80 → spPlain K [.int t, .int b] H1 Q (fun _ _ _ => False) := by
      intro t b H1 k1 R1 hb ht hz
      refine ⟨t, b, rfl, hb, Nat.lt_of_lt_of_le ht (Nat.pow_le_pow_right (by decide) (by decide)), Nat.lt_of_lt_of_le hz (Nat.pow_le_pow_right (by decide) (by decide)), fun q H2 k2 nq e2 => ?_⟩
      exact k q _ H2 (fun b o e => k2 b o (k1 b o e)) (R1.same k2) e2 (divInt_sz hb ht hz)
    have new : ∀ {H1 : Hp} {l : Addr} {xs : List V}, H1 l = none → Rng H1 p → Same H1 (upd H1 l (.lst xs)) ∧ Rng (upd H1 l (.lst xs)) p ∧ l ≠ p := by
      intro H1 l xs nl R1
      have up : Same H1 (upd H1 l (.lst xs)) := fun b o e => by rw [upd_ne (ne_of_none e nl)]; exact e
      obtain ⟨x, y, e, z⟩ := id R1
      exact ⟨up, R1.same up, (ne_of_none e nl).symm⟩
    refine ⟨_, rfl, p, 16, rfl, R, by decide, by decide, fun d H1 d0 d1 k1 R1 => ⟨rfl, _, rfl, ?_⟩⟩
    have o1 := off_kp k1
    refine ite2 (fun c => ?_) (fun c => ?_)
    · refine ⟨_, rfl, _, _, rfl, rfl, ⟨by decide, by decide, by decide⟩, _, _, rfl, rfl, _, _, rfl, rfl, ⟨by decide, by decide, by decide⟩, _, rfl, _, _, rfl, rfl, ⟨by decide, by decide, by decide⟩, _, _, rfl, rfl, .inl ⟨by decide, by decide⟩, (by show 3 ≤ sizeLine; decide), fun l nl => ?_⟩
      obtain ⟨up, R2, nlp⟩ := new nl R1
      refine ⟨p, l, _, rfl, R2, upd_same, nlp, (by show 0 < 3; decide), (by show 3 < 1000; decide), fun v H3 hv k3 R3 => ?_⟩
      have o3 : Same (off H p) H3 := off_off o1 (fun b o e => k3 b o (up b o (off_some e).2) (off_some e).1)
      simp only [List.mem_cons, List.not_mem_nil, or_false] at hv
      obtain ⟨i, rfl, hi⟩ : ∃ i : Int, v = .int i ∧ i.natAbs < 2 ^ 80 := by
        rcases hv with rfl | rfl | rfl
        · exact ⟨_, rfl, by decide⟩
        · exact ⟨_, rfl, by decide⟩
        · exact ⟨_, rfl, by decide⟩
      refine ⟨_, rfl, _, _, rfl, rfl, ⟨by decide, by decide, by decide⟩, p, _, rfl, R3, by decide, by decide, fun e H4 e0 e1 k4 R4 => ⟨_, _, rfl, rfl, ?_⟩⟩
      have e1' : e < 1000000 := e1
      exact fin (off_off o3 (off_kp k4)) R4 (by omega) hi (Nat.lt_of_lt_of_le (by omega : (1 + e).natAbs < 2 ^ 20) (Nat.pow_le_pow_right (by decide) (by decide)))
    · refine ⟨_, rfl, p, 41, rfl, R1, by decide, by decide, fun e H2 e0 e1 k2 R2 => ⟨_, _, rfl, rfl, ?_⟩⟩
      have o2 := off_off o1 (off_kp k2)
      refine ⟨_, rfl, (by show 6 ≤ sizeLine; decide), fun l nl => ?_⟩
      obtain ⟨up, R3, nlp⟩ := new nl R2
      refine ⟨p, l, _, rfl, R3, upd_same, nlp, (by show 0 < 6; decide), (by show 6 < 1000; decide), fun v H4 hv k4 R4 => ?_⟩
      have o4 : Same (off H p) H4 := off_off o2 (fun b o e => k4 b o (up b o (off_some e).2) (off_some e).1)
      simp only [List.mem_cons, List.not_mem_nil, or_false] at hv
      obtain ⟨i, rfl, i0, i1⟩ : ∃ i : Int, v = .int i ∧ 1 ≤ i ∧ i ≤ 12 := by
        rcases hv with rfl | rfl | rfl | rfl | rfl | rfl
        · exact ⟨_, rfl, by decide, by decide⟩
        · exact ⟨_, rfl, by decide, by decide⟩
        · exact ⟨_, rfl, by decide, by decide⟩
        · exact ⟨_, rfl, by decide, by decide⟩
        · exact ⟨_, rfl, by decide, by decide⟩
        · exact ⟨_, rfl, by decide, by decide⟩
      exact fin o4 R4 (by omega) (Nat.lt_of_lt_of_le (by omega : (e - 20).natAbs < 2 ^ 5) (Nat.pow_le_pow_right (by decide) (by decide))) (Nat.lt_of_lt_of_le (by omega : i.natAbs < 2 ^ 4) (Nat.pow_le_pow_right (by decide) (by decide)))
def spThing (K : PySem.W.Frag) : Sp := fun vs H Q _ => ∃ p : Addr, vs = [.ref p] ∧ Rng H p ∧ ∀ a q H', Same (off H p) H' → Rng H' p → RatAt K H' a q → Sz 80 q → Q (.ref a) H'
theorem scThing : FnScope ["_law_rng_here", "_law_found"] ["_law_rng_here"] (defScope sThing) := ⟨rfl, rfl, rfl, by decide +kernel, rfl, by decide +kernel, by decide +kernel⟩
theorem ok_thing {f fF : Addr} {fd fdF : FuncData} (F : Fun K "_law_thing" "_law_thing" sThing f fd) (D : DA P w K mg base) (G : RG P w K mg base) (FF : Fun K "_law_fraction" "_law_fraction" sFrac fF fdF) (gF : mg "_law_fraction" = some (.ref fF)) (bF : Binds K fdF ["_law_rng_here"] []) : FnOk P w K mg base CX0 4 f fd ["_law_rng_here"] (spThing K) := by
  have GF : FnOk P w K mg base CX0 3 fF fdF ["_law_rng_here"] (spFrac K) := ok_frac FF D
  obtain ⟨fR, fdR, dd, MR, GR, vd, bR, bR0⟩ := G.mR
  have T := G.T
  refine F.ok scThing (fun vs H Q E h => ?_) (fun cdv A outer s H vs Q E hr h => ?_)
  · obtain ⟨p, rfl, _⟩ := h
    rfl
  · obtain ⟨p, rfl, R, k⟩ := h
    refine ⟨_, pss_cons (ps_set (i := 1) scThing.nd rfl (Or.inl rfl) (pe_call GF hr rfl gF FF.kp bF .nil pass0 (pa_cons (pv 0) pa_nil)))
      (pss_one (ps_ret (pe_make MR GR hr rfl T.gR bR0 .nil pass0 (pa_cons (pe_ix ix_tup (pv 1) pe_int (fun _ _ => rfl)) (pa_cons (pe_ix ix_tup (pv 1) pe_int (fun _ _ => rfl)) pa_nil))))), ?_⟩
    refine ⟨_, rfl, p, rfl, R, fun t q H1 k1 R1 ht sq => ?_⟩
    refine ⟨_, rfl, t, _, _, .int q.num, rfl, rfl, SqT.of ht, rfl, _, rfl, t, _, _, .int (q.den : Int), rfl, rfl, SqT.of ht, rfl, ?_⟩
    intro x dx hx hd ne
    refine made_rat hx hd ne (den_ne q) (Nat.lt_of_lt_of_le sq.den (Nat.pow_le_pow_right (by decide) (by decide))) fun a H2 k2 _ ha => ?_
    rw [Rat.num_divInt_den] at ha
    exact k a q H2 (fun b o e => k2 b o (k1 b o e)) (R1.same k2) ha sq
end
end K18
set_option maxHeartbeats 4000000
namespace K18
open PySem PySem.Spec PyProof.Rows L2 GL
abbrev idV : List V → List V → List V := fun vs zs => vs ++ zs
abbrev revV : List V → List V → List V := fun vs zs => vs ++ zs.reverse
section
variable (P : Program) (w : World) (K : PySem.W.Frag) (mg : Str → Option Value) (base : Heap)
/-- calls with keywords alone: C(..), o.m(..), C.m(..), f(..) -/
def MkK (C : Addr) (k : Nat) (ps ks : List Str) (gV : List V → List V → List V) (sp : Sp) : Prop := ∃ f fd gU, Mk K C f ∧ FnOk P w K mg base CX0 k f fd ps sp ∧ KBn K fd ps 1 ks gU gV
def MetK (C : Addr) (m : Str) (k : Nat) (ps ks : List Str) (gV : List V → List V → List V) (sp : Sp) : Prop := ∃ f fd gU, Meth K C m f ∧ FnOk P w K mg base CX0 k f fd ps sp ∧ KBn K fd ps 1 ks gU gV
def CmK (C : Addr) (m : Str) (k : Nat) (ps ks : List Str) (gV : List V → List V → List V) (sp : Sp) : Prop := ∃ mc p f fd gU, ClX.CRead K C mc ∧ ClX.CMet K C mc m p f ∧ FnOk P w K mg base CX0 k f fd ps sp ∧ KBn K fd ps 1 ks gU gV
def DefK (x : Str) (k : Nat) (ps ks : List Str) (gV : List V → List V → List V) (sp : Sp) : Prop := ∃ f fd gU, FnOk P w K mg base CX0 k f fd ps sp ∧ mg x = some (.ref f) ∧ PySem.W.keepIn K (.ref f) = true ∧ KBn K fd ps 0 ks gU gV
/-- C.m(..) by places -/
def CmX (C : Addr) (m : Str) (k : Nat) (sp : Sp) : Prop := ∃ mc p f, ClX.CRead K C mc ∧ ClX.CMet K C mc m p f ∧ FnR P w K mg base CX0 k f sp
/-- a class and a built-in one that have nothing to do with one another -/
structure Far (C : Addr) (T : String) : Prop where
  nf : PySem.W.notFirst K C (.type T) = true
  kt : PySem.W.kitOne K (.type T) (.ref C) = some false
end
structure LR (P : Program) (w : World) (K : PySem.W.Frag) (mg : Str → Option Value) (base : Heap) : Prop where
  I : RI P w K mg base
  F : Free mg
  mR : ∃ f fd, Mk K (aR K) f ∧ FnOk P w K mg base CX0 2 f fd ["self", "top", "bottom"] (spRInit K) ∧ Binds K fd ["self", "top", "bottom"] []
  k1 : MkK P w K mg base (aR K) 2 ["self", "top", "bottom"] ["top", "bottom"] idV (spRInit K)
  k2 : MkK P w K mg base (aR K) 2 ["self", "top", "bottom"] ["bottom", "top"] revV (spRInit K)
  k3 : MkK P w K mg base (aR K) 2 ["self", "top", "bottom"] ["top"] (fun vs zs => vs ++ (zs ++ [.int 1])) (spRInit K)
  of : CmK P w K mg base (aR K) "of" 4 ["cls", "number"] ["number"] idV (spOf K)
  isN : DefK P w K mg base "is_number" 2 ["value"] ["value"] idV (spIsNum K)
  blK : MetK P w K mg base (aR K) "is_below" 5 ["self", "other"] ["other"] idV (spBelow K)
  blX : MetX P w K mg base (aR K) "is_below" 5 ["self", "other"] (spBelow K)
  ovK : MetK P w K mg base (aR K) "over" 5 ["self", "other"] ["other"] idV (spBin K rOver fun _ r => r.num ≠ 0)
  ovX : MetX P w K mg base (aR K) "over" 5 ["self", "other"] (spBin K rOver fun _ r => r.num ≠ 0)
  sign : PropX P w K mg base (aR K) "sign" (spSign K)
  str : ∃ f, Meth K (aR K) "__str__" f ∧ FnR P w K mg base CX0 1 f (spStr K)
  farL : Far K (aR K) "list"
  farS : Far K (aR K) "str"
abbrev sRR : Stmt := tp 45
section
variable {P : Program} {w : World} {K : PySem.W.Frag} {mg : Str → Option Value} {base : Heap}
/-- a != b, two Ratios -/
theorem ne_rat {H : Hp} {x y : V} {q r : Rat} {mg' : Str → Option Value} {Q : VK} (T : RF K mg') (hx : ∃ a, x = .ref a ∧ RatAt K H a q) (hy : ∃ b, y = .ref b ∧ RatAt K H b r) (k : Q (.bl !(decide (q = r))) H) : rOwnN K (aR K) (spREq K) (fun _ _ _ => False) x y H Q := by
  obtain ⟨a, rfl, d, e⟩ := hx
  obtain ⟨b, rfl, hb⟩ := hy
  exact ⟨a, d, _, .ref (aR K), rfl, e, hb.ty T, (by unfold PySem.W.notFirst; rw [beq_self_eq_true, Bool.true_or]), a, .ref b, q, rfl, ⟨d, e⟩, .inl ⟨b, r, rfl, hb, _, rfl, k⟩⟩
theorem eq_rat {H : Hp} {x y : V} {q r : Rat} {mg' : Str → Option Value} {Q : VK} (T : RF K mg') (hx : ∃ a, x = .ref a ∧ RatAt K H a q) (hy : ∃ b, y = .ref b ∧ RatAt K H b r) (k : Q (.bl (decide (q = r))) H) : rOwnE K (aR K) (spREq K) (fun _ _ _ => False) x y H Q := by
  obtain ⟨a, rfl, d, e⟩ := hx
  obtain ⟨b, rfl, hb⟩ := hy
  exact ⟨a, d, _, .ref (aR K), rfl, e, hb.ty T, (by unfold PySem.W.notFirst; rw [beq_self_eq_true, Bool.true_or]), a, .ref b, q, rfl, ⟨d, e⟩, .inl ⟨b, r, rfl, hb, k⟩⟩
theorem ne_ratS {H : Hp} {x y : V} {q : Rat} {mg' : Str → Option Value} {Q : VK} (T : RF K mg') (hx : ∃ a, x = .ref a ∧ RatAt K H a q) (hy : ∃ b, y = .ref b ∧ RatAt K H b q) (k : Q (.bl false) H) : rOwnN K (aR K) (spREq K) (fun _ _ _ => False) x y H Q :=
  ne_rat T hx hy (by rw [decide_eq_true (rfl : q = q)]; exact k)
theorem eq_ratS {H : Hp} {x y : V} {q r : Rat} {mg' : Str → Option Value} {Q : VK} (T : RF K mg') (e : q = r) (hx : ∃ a, x = .ref a ∧ RatAt K H a q) (hy : ∃ b, y = .ref b ∧ RatAt K H b r) (k : Q (.bl true) H) : rOwnE K (aR K) (spREq K) (fun _ _ _ => False) x y H Q :=
  eq_rat T hx hy (by rw [decide_eq_true e]; exact k)
theorem RatAt.num {H : Hp} {a : Addr} {q : Rat} (h : RatAt K H a q) : NumAt K H (.ref a) q := .inr ⟨a, rfl, h⟩
theorem rne_refl {x : V} {H : Hp} {Q : VK} (h : scal x x = true) (k : Q (.bl false) H) : rNe x x H Q := ⟨h, by rw [decide_eq_true (rfl : x = x)]; exact k⟩
theorem sz_one {n : Nat} : Sz (n + 1) 1 := ⟨Nat.lt_of_lt_of_le (by decide : 1 < 2 ^ 1) (Nat.pow_le_pow_right (by decide) (by omega)), Nat.lt_of_lt_of_le (by decide : 1 < 2 ^ 1) (Nat.pow_le_pow_right (by decide) (by omega))⟩
theorem rOver_one (q : Rat) : rOver q 1 = q := by
  show Rat.divInt (q.num * 1) ((q.den : Int) * 1) = q
  rw [Int.mul_one, Int.mul_one, Rat.num_divInt_den]
/-- .. the new Ratio, any end -/
theorem made_ratR {H : Hp} {R : VK} {E : XK} {x dx : Addr} {t b : Int} (hx : H x = none) (hd : H dx = none) (ne : dx ≠ x) (hb : b ≠ 0) (hz : b.natAbs < 2 ^ 9000) (k : ∀ H', Same H H' → RatAt K H' x (Rat.divInt t b) → R .non H') :
    spRInit K [.ref x, .int t, .int b] (upd (upd H dx (.own x)) x (.ins (aR K) dx [])) R E :=
  ⟨x, dx, t, b, rfl, hb, hz, upd_same, fun H' e kp => k H' (fun c o ec => kp c o (ne_of_none ec hx) (by rw [upd_ne (ne_of_none ec hx), upd_ne (ne_of_none ec hd)]; exact ec)) ⟨dx, e⟩⟩
def spRR (K : PySem.W.Frag) : Sp := fun vs H Q _ => ∃ (a b : Addr) (t m : Int) (q r : Rat), vs = [.ref a, .ref b, .int t, .int m] ∧ RatAt K H a q ∧ RatAt K H b r ∧ Sz 80 q ∧ Sz 80 r ∧ m ≠ 0 ∧ m.natAbs < 2 ^ 80 ∧ ∀ H', Same H H' → Q (.bl true) H'
theorem scRR : FnScope ["_law_first", "_law_second", "_law_top_part", "_law_bottom_part", "_law_made"] ["_law_first", "_law_second", "_law_top_part", "_law_bottom_part"] (defScope sRR) := ⟨rfl, rfl, rfl, by decide +kernel, rfl, by decide +kernel, by decide +kernel⟩
theorem ok_rr {f : Addr} {fd : FuncData} (F : Fun K "_law_ratios_right" "_law_ratios_right" sRR f fd) (L : LR P w K mg base) : FnOk P w K mg base CX0 6 f fd ["_law_first", "_law_second", "_law_top_part", "_law_bottom_part"] (spRR K) := by
  obtain ⟨fE, oE, GE⟩ := L.I.eq
  obtain ⟨fR, fdR, MR, GR, bR⟩ := L.mR
  obtain ⟨f1, d1, u1, M1, G1, B1⟩ := L.k1
  obtain ⟨f2, d2, u2, M2, G2, B2⟩ := L.k2
  obtain ⟨f3, d3, u3, M3, G3, B3⟩ := L.k3
  obtain ⟨mc, pp, fo, fdo, uo, cr, cm, GO, BO⟩ := L.of
  obtain ⟨fn, dn, un, GN, gN, kN, BN⟩ := L.isN
  obtain ⟨fb, db, ub, mb, Gb, Bb⟩ := L.blK
  obtain ⟨fc, dc, mc2, Gc, Bc⟩ := L.blX
  obtain ⟨fv, dv, uv, mv, Gv, Bv⟩ := L.ovK
  obtain ⟨fx, dx', mx, Gx, Bx⟩ := L.ovX
  obtain ⟨p1, g1, fd1, P1, Gs, b1⟩ := L.sign
  obtain ⟨fs, ms, Gst⟩ := L.str
  have T := L.I.R.G.T
  refine F.ok scRR (fun vs H Q E h => ?_) (fun cdv A outer s H vs Q E hr h => ?_)
  · obtain ⟨a, b, t, m, q, r, rfl, _⟩ := h
    rfl
  · obtain ⟨a, b, t, m, q, r, rfl, ha, hb, sq, sr, m0, mz, k⟩ := h
    refine ⟨_, pss_cons (ps_set (i := 4) scRR.nd rfl (Or.inl rfl) (pe_makeK0 M1 G1 (hr.mono (by decide)) rfl T.gR B1 pass0 (pk_cons (pv 2) (pk_cons (pv 3) pk_nil))))
      (pss_cons (ps_if (PW.pt (pw_or (pt_cmpR (op_neO oE GE (hr.mono (by decide)) pass0) (pv 4) (pe_makeK0 M2 G2 (hr.mono (by decide)) rfl T.gR B2 pass0 (pk_cons (pv 3) (pk_cons (pv 2) pk_nil))) (nomark _))
          (pw_or1 (pt_cmpR (op_neO oE GE (hr.mono (by decide)) pass0) (pv 4) (pe_make MR GR (hr.mono (by decide)) rfl T.gR bR .nil pass0 (pa_cons (pv 2) (pa_cons (pv 3) pa_nil))) (nomark _))))) (pss_one (ps_ret pe_bl)) pss_nil)
      (pss_cons (ps_if (PW.pt (pw_or (pt_cmpR (op_neO oE GE (hr.mono (by decide)) pass0) (pe_makeK0 M3 G3 (hr.mono (by decide)) rfl T.gR B3 pass0 (pk_cons (pv 2) pk_nil)) (pe_make MR GR (hr.mono (by decide)) rfl T.gR bR .nil pass0 (pa_cons (pv 2) (pa_cons pe_int pa_nil))) (nomark _))
          (pw_or1 (pt_cmpR (op_neO oE GE (hr.mono (by decide)) pass0) (pe_cmethN0 (pe_glob (v := .ref (aR K)) rfl T.gR rfl) cr cm GO (hr.mono (by decide)) BO pass0 (pk_cons (pv 0) pk_nil)) (pv 0) (nomark _))))) (pss_one (ps_ret pe_bl)) pss_nil)
      (pss_cons (ps_if (PW.pt (pw_or (pt_cmpR op_isnot_bl (pe_callN0 GN (hr.mono (by decide)) rfl gN kN BN pass0 (pk_cons (pv 0) pk_nil)) pe_bl (nomark _))
          (pw_or1 (pt_cmpR op_ne (pe_methN0 (pv 0) T.cl mb Gb (hr.mono (by decide)) Bb pass0 (pk_cons (pv 1) pk_nil)) (pe_meth (pv 0) T.cl mc2 Gc (hr.mono (by decide)) Bc .nil pass0 (pa_cons (pv 1) pa_nil)) (nomark _))))) (pss_one (ps_ret pe_bl)) pss_nil)
      (pss_cons (ps_if (PW.pt (pw_and (pt_cmpR op_ne (pe_prop (pv 1) T.cl P1 Gs (hr.mono (by decide)) b1 .nil pass0 rfl) pe_int (nomark _))
          (pw_and1 (pt_cmpR (op_neO oE GE (hr.mono (by decide)) pass0) (pe_methN0 (pv 0) T.cl mv Gv (hr.mono (by decide)) Bv pass0 (pk_cons (pv 1) pk_nil)) (pe_meth (pv 0) T.cl mx Gx (hr.mono (by decide)) Bx .nil pass0 (pa_cons (pv 1) pa_nil)) (nomark _))))) (pss_one (ps_ret pe_bl)) pss_nil)
      (pss_one (ps_ret (pe_and (pe_cmpR (op_neO oE GE (hr.mono (by decide)) pass0) (pv 0) (pe_lst (pa_cons (pv 0) pa_nil)) (nomark _))
        (pe_and (pe_not (pe_cmpR (op_eqO oE GE (hr.mono (by decide)) pass0) (pv 0) (pe_callTy (call_strO ms Gst (hr.mono (by decide)) pass0) (by rfl) L.F.str (by decide +kernel) (pa_cons (pv 0) pa_nil)) (nomark _)))
        (pe_one (pe_cmpR (op_eqO oE GE (hr.mono (by decide)) pass0) (pv 0) (pe_meth (pv 0) T.cl mx Gx (hr.mono (by decide)) Bx .nil pass0 (pa_cons pe_int pa_nil)) (nomark _))))))))))), ?_⟩
    -- READ
    have z9 : m.natAbs < 2 ^ 9000 := Nat.lt_of_lt_of_le mz (Nat.pow_le_pow_right (by decide) (by decide))
    refine ⟨_, rfl, _, rfl, rfl, rfl, ?_⟩
    intro x dx nx nd ne
    refine made_ratR nx nd ne m0 z9 fun H1 k1 hc => ⟨rfl, ?_⟩
    refine ⟨_, rfl, _, rfl, _, rfl, rfl, rfl, ?_⟩
    intro x2 dx2 nx2 nd2 ne2
    refine made_ratR nx2 nd2 ne2 m0 z9 fun H2 k2 hc2 => ⟨rfl, ?_⟩
    refine ne_ratS T ⟨_, rfl, hc.same k2⟩ ⟨_, rfl, hc2⟩ ⟨_, rfl, iteF ?_⟩
    refine ⟨_, rfl, _, rfl, _, rfl, ?_⟩
    intro x3 dx3 nx3 nd3 ne3
    refine made_ratR nx3 nd3 ne3 m0 z9 fun H3 k3 hc3 => ⟨rfl, ?_⟩
    refine ne_ratS T ⟨_, rfl, hc.same (k2.trans k3)⟩ ⟨_, rfl, hc3⟩ ⟨_, rfl, iteF ?_⟩
    refine ⟨_, rfl, rfl, rfl, ?_⟩
    intro x4 dx4 nx4 nd4 ne4
    have o0 : (1 : Int) ≠ 0 := by decide
    have o9 : (1 : Int).natAbs < 2 ^ 9000 := Nat.lt_of_lt_of_le (by decide : (1 : Int).natAbs < 2 ^ 1) (Nat.pow_le_pow_right (by decide) (by decide))
    refine made_ratR nx4 nd4 ne4 o0 o9 fun H4 k4 hc4 => ⟨rfl, ?_⟩
    refine ⟨_, rfl, ?_⟩
    intro x5 dx5 nx5 nd5 ne5
    refine made_ratR nx5 nd5 ne5 o0 o9 fun H5 k5 hc5 => ⟨rfl, ?_⟩
    refine ne_ratS T ⟨_, rfl, hc4.same k5⟩ ⟨_, rfl, hc5⟩ ⟨_, rfl, iteF ?_⟩
    have k05 : Same H H5 := (((k1.trans k2).trans k3).trans k4).trans k5
    refine ⟨rfl, _, rfl, rfl, .ref a, q, rfl, (ha.same k05).num, fun p6 H6 k6 h6 => ⟨_, rfl, ?_⟩⟩
    have k06 := k05.trans k6
    refine ne_ratS T ⟨_, rfl, h6⟩ ⟨_, rfl, ha.same k06⟩ ⟨_, rfl, iteF ?_⟩
    refine ⟨_, rfl, rfl, .ref a, q, rfl, (ha.same k06).num, ?_⟩
    refine ⟨_, _, rfl, rfl, _, rfl, iteF ?_⟩
    obtain ⟨da, ea⟩ := id (ha.same k06)
    have sq' : Sz 100000 q := sq.mono (by decide)
    have sr' : Sz 100000 r := sr.mono (by decide)
    refine ⟨_, rfl, a, da, _, rfl, ea, rfl, _, rfl, rfl, a, .ref b, q, r, rfl, ha.same k06, (hb.same k06).num, sq', sr', fun H7 k7 => ?_⟩
    refine ⟨_, rfl, a, da, _, rfl, k7 _ _ ea, rfl, _, rfl, a, .ref b, q, r, rfl, ha.same (k06.trans k7), (hb.same (k06.trans k7)).num, sq', sr', fun H8 k8 => ?_⟩
    refine rne_refl rfl ⟨_, rfl, iteF ?_⟩
    have k08 := (k06.trans k7).trans k8
    obtain ⟨db, eb⟩ := id (hb.same k08)
    refine ⟨_, rfl, b, db, _, rfl, eb, b, r, rfl, ⟨db, eb⟩, rfl, _, rfl, ite2 (fun c => ?_) (fun c => ?_)⟩
    · have r0 : r.num ≠ 0 := fun y => by rw [y] at c; exact absurd c (by decide)
      obtain ⟨da8, ea8⟩ := id (ha.same k08)
      refine ⟨_, rfl, a, da8, _, rfl, ea8, rfl, _, rfl, rfl, a, .ref b, q, r, rfl, ⟨da8, ea8⟩, (hb.same k08).num, sq.mono (by decide), sr.mono (by decide), r0, fun p9 H9 k9 h9 => ?_⟩
      refine ⟨_, rfl, a, da8, _, rfl, k9 _ _ ea8, rfl, _, rfl, a, .ref b, q, r, rfl, ha.same (k08.trans k9), (hb.same (k08.trans k9)).num, sq.mono (by decide), sr.mono (by decide), r0, fun p10 H10 k10 h10 => ?_⟩
      refine ne_ratS T ⟨_, rfl, h9.same k10⟩ ⟨_, rfl, h10⟩ ⟨_, rfl, iteF ?_⟩
      have kz := (k08.trans k9).trans k10
      refine ⟨_, rfl, ?_⟩
      refine ⟨_, rfl, (by show 1 ≤ sizeLine; decide), fun l nl => ?_⟩
      have ku : Same _ (upd _ l (.lst [.ref a])) := fun b o e => by rw [upd_ne (ne_of_none e nl)]; exact e
      have ky := kz.trans ku
      obtain ⟨dz, ez⟩ := id (ha.same ky)
      refine ⟨a, dz, _, .type "list", rfl, ez, .base (.lst upd_same), L.farL.nf, a, .ref l, q, rfl, ⟨dz, ez⟩, .inr ⟨.type "list", .base (.lst upd_same), L.farL.kt, _, rfl, _, rfl, iteT ?_⟩⟩
      refine ⟨_, rfl, _, rfl, a, dz, _, rfl, ez, a, q, rfl, ⟨dz, ez⟩, sq.mono (by decide), fun z => ⟨z, rfl, ?_⟩⟩
      refine ⟨a, dz, _, .type "str", rfl, ez, .base (.str z), L.farS.nf, a, .str z, q, rfl, ⟨dz, ez⟩, .inr ⟨.type "str", .base (.str z), L.farS.kt, _, rfl, _, rfl, iteT ?_⟩⟩
      refine ⟨_, rfl, _, rfl, a, dz, _, rfl, ez, rfl, a, .int 1, q, 1, rfl, ⟨dz, ez⟩, .inl ⟨1, rfl, rfl⟩, sq.mono (by decide), sz_one, (by show (1 : Int) ≠ 0; decide), fun p H' k' hp => ?_⟩
      refine eq_ratS T ?_ ⟨_, rfl, ha.same (ky.trans k')⟩ ⟨_, rfl, hp⟩ ?_
      · exact (rOver_one q).symm
      · exact k _ (ky.trans k')
    · refine iteF ?_
      have kz := k08
      refine ⟨_, rfl, ?_⟩
      refine ⟨_, rfl, (by show 1 ≤ sizeLine; decide), fun l nl => ?_⟩
      have ku : Same _ (upd _ l (.lst [.ref a])) := fun b o e => by rw [upd_ne (ne_of_none e nl)]; exact e
      have ky := kz.trans ku
      obtain ⟨dz, ez⟩ := id (ha.same ky)
      refine ⟨a, dz, _, .type "list", rfl, ez, .base (.lst upd_same), L.farL.nf, a, .ref l, q, rfl, ⟨dz, ez⟩, .inr ⟨.type "list", .base (.lst upd_same), L.farL.kt, _, rfl, _, rfl, iteT ?_⟩⟩
      refine ⟨_, rfl, _, rfl, a, dz, _, rfl, ez, a, q, rfl, ⟨dz, ez⟩, sq.mono (by decide), fun z => ⟨z, rfl, ?_⟩⟩
      refine ⟨a, dz, _, .type "str", rfl, ez, .base (.str z), L.farS.nf, a, .str z, q, rfl, ⟨dz, ez⟩, .inr ⟨.type "str", .base (.str z), L.farS.kt, _, rfl, _, rfl, iteT ?_⟩⟩
      refine ⟨_, rfl, _, rfl, a, dz, _, rfl, ez, rfl, a, .int 1, q, 1, rfl, ⟨dz, ez⟩, .inl ⟨1, rfl, rfl⟩, sq.mono (by decide), sz_one, (by show (1 : Int) ≠ 0; decide), fun p H' k' hp => ?_⟩
      refine eq_ratS T ?_ ⟨_, rfl, ha.same (ky.trans k')⟩ ⟨_, rfl, hp⟩ ?_
      · exact (rOver_one q).symm
      · exact k _ (ky.trans k')
end
end K18
set_option maxHeartbeats 4000000
namespace K18
open PySem PySem.Spec PyProof.Rows L2 GL
abbrev sCR : Stmt := tp 46
structure LC (P : Program) (w : World) (K : PySem.W.Frag) (mg : Str → Option Value) (base : Heap) : Prop where
  L : LR P w K mg base
  isCut : DefK P w K mg base "is_cut" 3 ["value"] ["value"] idV (spIsCut K)
  abK : DefK P w K mg base "is_above" 6 ["number", "cut"] ["cut", "number"] revV (spIsAbove K)
  ab : DefF P w K mg base "is_above" 6 ["number", "cut"] (spIsAbove K)
  ahK : DefK P w K mg base "is_ahead" 7 ["one", "other"] ["other", "one"] revV (spIsAhead K)
  ah : DefF P w K mg base "is_ahead" 7 ["one", "other"] (spIsAhead K)
  stK : DefK P w K mg base "is_stretch" 8 ["value"] ["value"] idV (spIsStretch K)
  mkK : DefK P w K mg base "mark_of" 9 ["stretch"] ["stretch"] idV (spMarkOf K)
  mkX : DefF P w K mg base "mark_of" 9 ["stretch"] (spMarkOf K)
  wiK : DefK P w K mg base "is_within" 9 ["number", "stretch"] ["stretch", "number"] revV (spIsWithin K)
  wi : DefF P w K mg base "is_within" 9 ["number", "stretch"] (spIsWithin K)
section
variable {P : Program} {w : World} {K : PySem.W.Frag} {mg : Str → Option Value} {base : Heap}
theorem allB_true {n : Nat} {i : Nat} : PySem.GE.allB n n (fun _ => true) i = true := by
  unfold PySem.GE.allB
  rw [beq_self_eq_true, Bool.and_true, List.all_eq_true]
  intro _ _
  rfl
theorem req_refl {x : V} {H : Hp} {Q : VK} (h : scal x x = true) (k : Q (.bl true) H) : rEq x x H Q := ⟨h, by rw [decide_eq_true (rfl : x = x)]; exact k⟩
/-- two lists of flat things that are the same -/
theorem lst_same {H : Hp} {a c : Addr} {xs : List V} (ha : H a = some (.lst xs)) (hc : H c = some (.lst xs)) (hf : ∀ x ∈ xs, flatV x = true ∧ eqV x x = true) : LstB FlatB (.ref a) (.ref c) true H := by
  refine ⟨a, c, xs, xs, fun _ => true, rfl, rfl, ha, hc, rfl, ?_, allB_true.symm⟩
  intro i x y _ e1 e2
  rw [e1] at e2
  cases e2
  have m := hf x (List.mem_of_getElem? e1)
  exact ⟨m.1, m.1, m.2.symm⟩
theorem lt_of_le_ne {q r : Rat} (h : r ≤ q) (n : ¬ q = r) : r < q := by
  rw [← Rat.not_le]
  intro k
  exact n (Rat.le_antisymm k h)
theorem ahead_flip {q r : Rat} {b c : Bool} (h : cAhead q b r c = false) (n : ¬ (q = r ∧ b = c)) : cAhead r c q b = true := by
  cases b <;> cases c
  · have h1 : rBelow q r = false := h
    show rBelow r q = true
    exact rBelow_iff.mpr (lt_of_le_ne (rBelow_not.mp h1) fun e => n ⟨e, rfl⟩)
  · have h1 : (!rBelow r q) = false := h
    show rBelow r q = true
    cases e : rBelow r q
    · rw [e] at h1
      cases h1
    · rfl
  · have h1 : rBelow q r = false := h
    show (!rBelow q r) = true
    rw [h1]
    rfl
  · have h1 : rBelow q r = false := h
    show rBelow r q = true
    exact rBelow_iff.mpr (lt_of_le_ne (rBelow_not.mp h1) fun e => n ⟨e, rfl⟩)
theorem ahead_self {q : Rat} {b : Bool} : cAhead q b q b = false := by
  have z : rBelow q q = false := rBelow_not.mpr Rat.le_refl
  cases b
  · exact z
  · exact z
theorem cuts_eq {H : Hp} {c d : Addr} {q r : Rat} {b g : Bool} (hc : CutR K H c q b) (hd : CutR K H d r g) : TupB K (ThB K) (.ref c) (.ref d) (decide (q = r) && (b == g)) H := by
  obtain ⟨p, ec, hp⟩ := hc
  obtain ⟨p2, ed, hp2⟩ := hd
  refine ⟨c, d, _, _, fun i => if i = 0 then decide (q = r) else (b == g), rfl, rfl, SqT.of ec, SqT.of ed, ?_, ?_⟩
  · intro i x y _ e1 e2
    match i with
    | 0 => cases e1; cases e2; exact .inr ⟨p, p2, q, r, rfl, rfl, hp, hp2, rfl⟩
    | 1 => cases e1; cases e2; exact .inl ⟨rfl, rfl, by cases b <;> cases g <;> rfl⟩
  · show _ = PySem.GE.allB 2 2 _ 0
    rw [PySem.GE.allB_step (by decide), PySem.GE.allB_step (by decide), PySem.GE.allB_end (by decide)]
    show _ = (decide (q = r) && ((b == g) && true))
    rw [Bool.and_true]
def spCR (K : PySem.W.Frag) : Sp := fun vs H Q _ => ∃ (a b l : Addr) (q r : Rat) (f g : Bool), vs = [.ref a, .ref b, .ref l] ∧ RatAt K H a q ∧ RatAt K H b r ∧ Sz 80 q ∧ Sz 80 r ∧ H l = some (.lst [.bl f, .bl g]) ∧ ∀ H', Same H H' → Q (.bl true) H'
theorem scCR : FnScope ["_law_first", "_law_second", "_law_flags", "_law_mark", "_law_rival", "_law_ordered"] ["_law_first", "_law_second", "_law_flags"] (defScope sCR) := ⟨rfl, rfl, rfl, by decide +kernel, rfl, by decide +kernel, by decide +kernel⟩
theorem ok_cr {f : Addr} {fd : FuncData} (F : Fun K "_law_cuts_right" "_law_cuts_right" sCR f fd) (L : LC P w K mg base) : FnOk P w K mg base CX0 10 f fd ["_law_first", "_law_second", "_law_flags"] (spCR K) := by
  obtain ⟨fE, oE, GE⟩ := L.L.I.eq
  obtain ⟨fc, dc, uc, GC, gC, kC, BC⟩ := L.isCut
  obtain ⟨fa, da, ua, GA, gA, kA, BA⟩ := L.abK
  obtain ⟨fa2, da2, GA2, gA2, bA2, kA2⟩ := L.ab
  obtain ⟨fh, dh, uh, GH, gH, kH, BH⟩ := L.ahK
  obtain ⟨fh2, dh2, GH2, gH2, bH2, kH2⟩ := L.ah
  obtain ⟨fs, ds, us, GS, gS, kS, BS⟩ := L.stK
  obtain ⟨fm, dm, um, GM, gM, kM, BM⟩ := L.mkK
  obtain ⟨fm2, dm2, GM2, gM2, bM2, kM2⟩ := L.mkX
  obtain ⟨fw, dw, uw, GW, gW, kW, BW⟩ := L.wiK
  obtain ⟨fw2, dw2, GW2, gW2, bW2, kW2⟩ := L.wi
  have T := L.L.I.R.G.T
  refine F.ok scCR (fun vs H Q E h => ?_) (fun cdv A outer s H vs Q E hr h => ?_)
  · obtain ⟨a, b, l, q, r, f, g, rfl, _⟩ := h
    rfl
  · obtain ⟨a, b, l, q, r, f, g, rfl, ha, hb, sq, sr, hl, k⟩ := h
    refine ⟨_, pss_cons (ps_par (i := 3) (j := 4) (by rfl) scCR.nd rfl rfl (by decide) rfl rfl (pa_cons (pe_tup (pa_cons (pv 0) (pa_cons (pe_ix ix_list (pv 2) pe_int (fun _ _ => rfl)) pa_nil))) (pa_cons (pe_tup (pa_cons (pv 1) (pa_cons (pe_ix ix_list (pv 2) pe_int (fun _ _ => rfl)) pa_nil))) pa_nil)) (by rfl))
      (pss_cons (ps_if (pt_cmpR (op_neL monB_flat eqB_flat (hr.mono (by decide))) (pe_lst (pa_cons (pe_callN0 GC (hr.mono (by decide)) rfl gC kC BC pass0 (pk_cons (pv 3) pk_nil)) (pa_cons (pe_callN0 GA (hr.mono (by decide)) rfl gA kA BA pass0 (pk_cons (pv 3) (pk_cons (pv 1) pk_nil))) pa_nil))) (pe_lst (pa_cons pe_bl (pa_cons (pe_call GA2 (hr.mono (by decide)) rfl gA2 kA2 bA2 .nil pass0 (pa_cons (pv 1) (pa_cons (pv 3) pa_nil))) pa_nil))) (nomark _)) (pss_one (ps_ret pe_bl)) pss_nil)
      (pss_cons (ps_if (pt_cmpR op_ne (pe_callN0 GH (hr.mono (by decide)) rfl gH kH BH pass0 (pk_cons (pv 4) (pk_cons (pv 3) pk_nil))) (pe_call GH2 (hr.mono (by decide)) rfl gH2 kH2 bH2 .nil pass0 (pa_cons (pv 3) (pa_cons (pv 4) pa_nil))) (nomark _)) (pss_one (ps_ret pe_bl)) pss_nil)
      (pss_cons (ps_set (i := 5) scCR.nd rfl (Or.inl rfl) (pe_ifExp (pt_val (pe_call GH2 (hr.mono (by decide)) rfl gH2 kH2 bH2 .nil pass0 (pa_cons (pv 3) (pa_cons (pv 4) pa_nil)))) (pe_tup (pa_cons (pv 3) (pa_cons (pv 4) pa_nil))) (pe_tup (pa_cons (pv 4) (pa_cons (pv 3) pa_nil)))))
      (pss_cons (ps_if (pt_cmpR (op_eqT monB_th (eqB_th oE GE) (hr.mono (by decide))) (pv 3) (pv 4) (nomark _)) (pss_one (ps_ret (pe_cmpR op_is_bl (pe_callN0 GS (hr.mono (by decide)) rfl gS kS BS pass0 (pk_cons (pv 5) pk_nil)) pe_bl (nomark _)))) pss_nil)
      (pss_cons (ps_if (PW.pt (pw_or (pt_cmpR op_isnot_bl (pe_callN0 GS (hr.mono (by decide)) rfl gS kS BS pass0 (pk_cons (pv 5) pk_nil)) pe_bl (nomark _))
          (pw_or1 (pt_cmpR (op_neO oE GE (hr.mono (by decide)) pass0) (pe_callN0 GM (hr.mono (by decide)) rfl gM kM BM pass0 (pk_cons (pv 5) pk_nil)) (pe_call GM2 (hr.mono (by decide)) rfl gM2 kM2 bM2 .nil pass0 (pa_cons (pv 5) pa_nil)) (nomark _))))) (pss_one (ps_ret pe_bl)) pss_nil)
      (pss_one (ps_ret (pe_cmpR op_eq (pe_callN0 GW (hr.mono (by decide)) rfl gW kW BW pass0 (pk_cons (pv 5) (pk_cons (pv 0) pk_nil))) (pe_call GW2 (hr.mono (by decide)) rfl gW2 kW2 bW2 .nil pass0 (pa_cons (pv 0) (pa_cons (pv 5) pa_nil))) (nomark _))))))))), ?_⟩
    -- READ
    refine ⟨_, rfl, _, rfl, l, _, _, _, rfl, rfl, SqL.of hl, rfl, (by show 2 ≤ sizeLine; decide), fun c nc => ?_⟩
    have k1 : Same H (upd H c (.tup [.ref a, .bl f])) := fun b o e => by rw [upd_ne (ne_of_none e nc)]; exact e
    generalize hG1 : upd H c (.tup [.ref a, .bl f]) = H1 at k1 ⊢
    have hc : H1 c = some (.tup [.ref a, .bl f]) := hG1 ▸ upd_same
    refine ⟨_, rfl, _, rfl, l, _, _, _, rfl, rfl, SqL.of (k1 _ _ hl), rfl, (by show 2 ≤ sizeLine; decide), fun d nd => ?_⟩
    have k2 : Same H1 (upd H1 d (.tup [.ref b, .bl g])) := fun b o e => by rw [upd_ne (ne_of_none e nd)]; exact e
    have hd : (upd H1 d (.tup [.ref b, .bl g])) d = some (.tup [.ref b, .bl g]) := upd_same
    generalize upd H1 d (.tup [.ref b, .bl g]) = H2 at k2 hd ⊢
    have k02 := k1.trans k2
    have cm : CutR K H2 c q f := ⟨a, k2 _ _ hc, ha.same k02⟩
    have cr : CutR K H2 d r g := ⟨b, hd, hb.same k02⟩
    have s1 : ∀ {n : Nat} {x : Rat}, Sz 80 x → 80 ≤ n → Sz n x := fun h j => h.mono j
    refine ⟨_, _, rfl, ?_⟩
    -- [is_cut(..), is_above(..)]
    refine ⟨_, rfl, rfl, .ref c, q, f, rfl, cm.cut, ?_⟩
    refine ⟨_, rfl, _, rfl, rfl, .ref b, .ref c, r, q, f, rfl, (hb.same k02).num, cm.cut, s1 sq (by decide), s1 sr (by decide), fun H3 k3 => ?_⟩
    refine ⟨by show 2 ≤ sizeLine; decide, fun l1 n1 => ?_⟩
    have k4 : Same H3 (upd H3 l1 (.lst [.bl true, .bl (cAbove r q f)])) := fun b o e => by rw [upd_ne (ne_of_none e n1)]; exact e
    have h4 : (upd H3 l1 (.lst [.bl true, .bl (cAbove r q f)])) l1 = some (.lst [.bl true, .bl (cAbove r q f)]) := upd_same
    generalize upd H3 l1 (.lst [.bl true, .bl (cAbove r q f)]) = H4 at k4 h4 ⊢
    have k24 := k3.trans k4
    refine ⟨_, rfl, _, rfl, .ref b, .ref c, r, q, f, rfl, (hb.same (k02.trans k24)).num, (cm.same k24).cut, s1 sq (by decide), s1 sr (by decide), fun H5 k5 => ?_⟩
    refine ⟨by show 2 ≤ sizeLine; decide, fun l2 n2 => ?_⟩
    have k6 : Same H5 (upd H5 l2 (.lst [.bl true, .bl (cAbove r q f)])) := fun b o e => by rw [upd_ne (ne_of_none e n2)]; exact e
    have h6 : (upd H5 l2 (.lst [.bl true, .bl (cAbove r q f)])) l2 = some (.lst [.bl true, .bl (cAbove r q f)]) := upd_same
    generalize upd H5 l2 (.lst [.bl true, .bl (cAbove r q f)]) = H6 at k6 h6 ⊢
    have k46 := k5.trans k6
    refine ⟨true, lst_same (k46 _ _ h4) h6 (fun x m => ?_), fun H7 k7 => ⟨_, rfl, iteF ?_⟩⟩
    · rcases List.mem_cons.mp m with rfl | m
      · exact ⟨rfl, rfl⟩
      · cases List.mem_singleton.mp m
        exact ⟨rfl, by cases cAbove r q f <;> rfl⟩
    have k27 := (k24.trans k46).trans k7
    refine ⟨_, rfl, _, rfl, rfl, .ref c, .ref d, q, r, f, g, rfl, (cm.same k27).cut, (cr.same k27).cut, s1 sq (by decide), s1 sr (by decide), fun H8 k8 => ?_⟩
    refine ⟨_, rfl, _, rfl, .ref c, .ref d, q, r, f, g, rfl, (cm.same (k27.trans k8)).cut, (cr.same (k27.trans k8)).cut, s1 sq (by decide), s1 sr (by decide), fun H9 k9 => ?_⟩
    refine rne_refl rfl ⟨_, rfl, iteF ?_⟩
    have k29 := (k27.trans k8).trans k9
    refine ⟨_, rfl, _, rfl, .ref c, .ref d, q, r, f, g, rfl, (cm.same k29).cut, (cr.same k29).cut, s1 sq (by decide), s1 sr (by decide), fun H10 k10 => ⟨_, rfl, ?_⟩⟩
    have k210 := k29.trans k10
    have up : ∀ {t : Addr} {xs : List V}, H10 t = none → Same H10 (upd H10 t (.tup xs)) := fun n b o e => by rw [upd_ne (ne_of_none e n)]; exact e
    cases hA : cAhead q f r g
    · refine iteF ⟨_, rfl, _, rfl, (by show 2 ≤ sizeLine; decide), fun t nt => ?_⟩
      have ku := up (xs := [.ref d, .ref c]) nt
      have ht : (upd H10 t (.tup [.ref d, .ref c])) t = some (.tup [.ref d, .ref c]) := upd_same
      generalize upd H10 t (.tup [.ref d, .ref c]) = H11 at ku ht ⊢
      have k211 := k210.trans ku
      obtain ⟨q1, b1, r1, g1, hp, hs, z1, z2⟩ : ∃ q1 b1 r1 g1, PairAt K H11 (.ref t) q1 b1 r1 g1 ∧ cAhead q1 b1 r1 g1 = (!(decide (q = r) && (f == g))) ∧ Sz 80 q1 ∧ Sz 80 r1 := by
        refine ⟨r, g, q, f, ⟨t, _, _, rfl, ht, (cr.same k211).cut, (cm.same k211).cut⟩, ?_, sr, sq⟩
        by_cases e : q = r ∧ f = g
        · obtain ⟨rfl, rfl⟩ := e
          rw [ahead_self, decide_eq_true rfl, beq_self_eq_true]
          rfl
        · rw [ahead_flip hA e]
          by_cases e1 : q = r
          · have e2 : (f == g) = false := beq_eq_false_iff_ne.mpr fun y => e ⟨e1, y⟩
            rw [e2, Bool.and_false]
            rfl
          · rw [decide_eq_false e1]
            rfl
      refine ⟨_, rfl, _, rfl, _, cuts_eq (cm.same k211) (cr.same k211), fun H12 k12 => ⟨_, rfl, ?_⟩⟩
      have k12' := k02.trans (k211.trans k12)
      refine ite2 (fun e => ?_) (fun e => ?_)
      · refine ⟨_, rfl, rfl, .ref t, rfl, .inl ⟨q1, b1, r1, g1, hp.same k12, s1 z1 (by decide), s1 z2 (by decide), fun H13 k13 => ⟨_, _, rfl, rfl, ?_⟩⟩⟩
        rw [show (decide (q = r) && (f == g)) = true from e] at hs
        rw [hs]
        exact k _ (k12'.trans k13)
      · have e' : (decide (q = r) && (f == g)) = false := Bool.eq_false_iff.mpr e
        rw [e'] at hs
        refine ⟨_, rfl, rfl, .ref t, rfl, .inl ⟨q1, b1, r1, g1, hp.same k12, s1 z1 (by decide), s1 z2 (by decide), fun H13 k13 => ⟨_, _, rfl, rfl, _, rfl, ?_⟩⟩⟩
        rw [hs]
        have k13' := k12.trans k13
        refine iteF ⟨_, rfl, rfl, .ref t, q1, r1, b1, g1, rfl, hp.same k13', hs, s1 z1 (by decide), s1 z2 (by decide), fun p1 H14 k14 hp1 => ?_⟩
        have k14' := k13'.trans k14
        refine ⟨_, rfl, .ref t, q1, r1, b1, g1, rfl, hp.same k14', hs, s1 z1 (by decide), s1 z2 (by decide), fun p2 H15 k15 hp2 => ?_⟩
        refine ne_ratS T ⟨_, rfl, hp1.same k15⟩ ⟨_, rfl, hp2⟩ ⟨_, rfl, iteF ?_⟩
        have k15' := k14'.trans k15
        have k05 := k02.trans (k211.trans k15')
        refine ⟨_, rfl, _, rfl, rfl, .ref a, .ref t, q, q1, r1, b1, g1, rfl, (ha.same k05).num, hp.same k15', hs, s1 sq (by decide), s1 z1 (by decide), s1 z2 (by decide), fun H16 k16 => ?_⟩
        refine ⟨_, rfl, _, rfl, .ref a, .ref t, q, q1, r1, b1, g1, rfl, (ha.same (k05.trans k16)).num, hp.same (k15'.trans k16), hs, s1 sq (by decide), s1 z1 (by decide), s1 z2 (by decide), fun H17 k17 => ?_⟩
        exact req_refl rfl (k _ ((k05.trans k16).trans k17))
    · refine iteT ⟨_, rfl, _, rfl, (by show 2 ≤ sizeLine; decide), fun t nt => ?_⟩
      have ku := up (xs := [.ref c, .ref d]) nt
      have ht : (upd H10 t (.tup [.ref c, .ref d])) t = some (.tup [.ref c, .ref d]) := upd_same
      generalize upd H10 t (.tup [.ref c, .ref d]) = H11 at ku ht ⊢
      have k211 := k210.trans ku
      obtain ⟨q1, b1, r1, g1, hp, hs, z1, z2⟩ : ∃ q1 b1 r1 g1, PairAt K H11 (.ref t) q1 b1 r1 g1 ∧ cAhead q1 b1 r1 g1 = (!(decide (q = r) && (f == g))) ∧ Sz 80 q1 ∧ Sz 80 r1 := by
        refine ⟨q, f, r, g, ⟨t, _, _, rfl, ht, (cm.same k211).cut, (cr.same k211).cut⟩, ?_, sq, sr⟩
        have e : (decide (q = r) && (f == g)) = false := by
          cases e : (decide (q = r) && (f == g)) with
          | false => rfl
          | true =>
            rw [Bool.and_eq_true, decide_eq_true_eq, beq_iff_eq] at e
            obtain ⟨rfl, rfl⟩ := e
            rw [ahead_self] at hA
            cases hA
        rw [hA, e]
        rfl
      refine ⟨_, rfl, _, rfl, _, cuts_eq (cm.same k211) (cr.same k211), fun H12 k12 => ⟨_, rfl, ?_⟩⟩
      have k12' := k02.trans (k211.trans k12)
      refine ite2 (fun e => ?_) (fun e => ?_)
      · refine ⟨_, rfl, rfl, .ref t, rfl, .inl ⟨q1, b1, r1, g1, hp.same k12, s1 z1 (by decide), s1 z2 (by decide), fun H13 k13 => ⟨_, _, rfl, rfl, ?_⟩⟩⟩
        rw [show (decide (q = r) && (f == g)) = true from e] at hs
        rw [hs]
        exact k _ (k12'.trans k13)
      · have e' : (decide (q = r) && (f == g)) = false := Bool.eq_false_iff.mpr e
        rw [e'] at hs
        refine ⟨_, rfl, rfl, .ref t, rfl, .inl ⟨q1, b1, r1, g1, hp.same k12, s1 z1 (by decide), s1 z2 (by decide), fun H13 k13 => ⟨_, _, rfl, rfl, _, rfl, ?_⟩⟩⟩
        rw [hs]
        have k13' := k12.trans k13
        refine iteF ⟨_, rfl, rfl, .ref t, q1, r1, b1, g1, rfl, hp.same k13', hs, s1 z1 (by decide), s1 z2 (by decide), fun p1 H14 k14 hp1 => ?_⟩
        have k14' := k13'.trans k14
        refine ⟨_, rfl, .ref t, q1, r1, b1, g1, rfl, hp.same k14', hs, s1 z1 (by decide), s1 z2 (by decide), fun p2 H15 k15 hp2 => ?_⟩
        refine ne_ratS T ⟨_, rfl, hp1.same k15⟩ ⟨_, rfl, hp2⟩ ⟨_, rfl, iteF ?_⟩
        have k15' := k14'.trans k15
        have k05 := k02.trans (k211.trans k15')
        refine ⟨_, rfl, _, rfl, rfl, .ref a, .ref t, q, q1, r1, b1, g1, rfl, (ha.same k05).num, hp.same k15', hs, s1 sq (by decide), s1 z1 (by decide), s1 z2 (by decide), fun H16 k16 => ?_⟩
        refine ⟨_, rfl, _, rfl, .ref a, .ref t, q, q1, r1, b1, g1, rfl, (ha.same (k05.trans k16)).num, hp.same (k15'.trans k16), hs, s1 sq (by decide), s1 z1 (by decide), s1 z2 (by decide), fun H17 k17 => ?_⟩
        exact req_refl rfl (k _ ((k05.trans k16).trans k17))
end
end K18
set_option maxHeartbeats 4000000
namespace K18
open PySem PySem.Spec PyProof.Rows L2 GL
abbrev sGR : Stmt := tp 47
def spFitR (K : PySem.W.Frag) : Sp := fun vs H Q _ => ∃ (s : Addr) (x : V) (q r z : Rat) (b : Bool), vs = [.ref s, x] ∧ RngAt K H s q r ∧ CutAt K H x z b ∧ Sz 100000 q ∧ Sz 100000 r ∧ Sz 100000 z ∧ ∀ y H', Same H H' → CutR K H' y (cFitQ q r z b) (cFitB q r z b) → Q (.ref y) H'
section
variable {P : Program} {w : World} {K : PySem.W.Frag} {mg : Str → Option Value} {base : Heap}
theorem ok_fitR {f : Addr} {fd : FuncData} (F : FunD K "fit" "Range.fit" (defArgs (sRange 5)) (defBody (sRange 5)) (defScope (sRange 5)) [] [] f fd) (L : RL P w K mg base) (oR : MetX P w K mg base (aG K) "outer" 1 ["self"] (spOuterR K)) (iR : MetX P w K mg base (aG K) "is_inner" 8 ["self", "cut"] (spInner K)) : FnOk P w K mg base CX0 9 f fd ["self", "cut"] (spFitR K) := by
  obtain ⟨fI, fdI, mI, GI, bI⟩ := iR
  obtain ⟨fO, fdO, mO, GO, bO⟩ := oR
  obtain ⟨fA, fdA, GA, gA, bA, kA⟩ := L.C.ahead
  obtain ⟨fC, fdC, GC, gC, bC, kC⟩ := L.C.J.rc
  have T := L.T
  refine F.ok scFit (fun vs H Q E h => ?_) (fun cdv A outer s H vs Q E hr h => ?_)
  · obtain ⟨s, x, q, r, z, b, rfl, _⟩ := h
    rfl
  · obtain ⟨s, x, q, r, z, b, rfl, hs, hx, sq, sr, sz, k⟩ := h
    refine ⟨_, pss_cons (ps_asg (pe_meth0 (pv 0) T.cl mO GO (hr.mono (by decide)) bO .nil pass0) (pg_tup (by rfl) (pgs_cons (pg_name (i := 2) scFit.nd rfl (.inl rfl)) (pgs_cons (pg_name (i := 3) scFit.nd rfl (.inl rfl)) pgs_nil))))
      (pss_cons (ps_if (pt_val (pe_meth (pv 0) T.cl mI GI hr bI .nil pass0 (pa_cons (pv 1) pa_nil))) (pss_one (ps_ret (pe_call GC (hr.mono (by decide)) rfl gC kC bC .nil pass0 (pa_cons (pv 1) pa_nil)))) pss_nil)
      (pss_one (ps_ret (pe_ifExp (pt_val (pe_call GA (hr.mono (by decide)) rfl gA kA bA .nil pass0 (pa_cons (pv 2) (pa_cons (pv 1) pa_nil)))) (pv 3) (pv 2))))), ?_⟩
    have hs' := hs
    obtain ⟨le, dx, a, b', es, ha, hb⟩ := hs'
    refine ⟨_, rfl, s, dx, _, rfl, es, rfl, s, q, r, rfl, hs, fun t u v H1 k1 ht hu hv => ?_⟩
    refine ⟨t, _, rfl, SqT.of ht, rfl, _, _, rfl, _, _, rfl, rfl, ?_⟩
    refine ⟨_, rfl, s, dx, _, rfl, k1 _ _ es, rfl, _, rfl, s, x, q, r, z, b, rfl, hs.same k1, hx.same k1, sq, sr, sz, fun H2 k2 => ⟨_, rfl, ?_⟩⟩
    unfold cFitQ cFitB at k
    cases hI : cInner q r z b with
    | true =>
      rw [hI] at k
      refine iteT ⟨_, rfl, x, z, b, rfl, (hx.same k1).same k2, fun c p H3 k3 hc hp => ?_⟩
      exact k _ H3 ((k1.trans k2).trans k3) ⟨p, hc, hp⟩
    | false =>
      rw [hI] at k
      refine iteF ⟨_, rfl, _, rfl, .ref u, x, q, z, false, b, rfl, (hu.same k2).cut, (hx.same k1).same k2, sq, sz, fun H3 k3 => ⟨_, rfl, ?_⟩⟩
      cases hA : cAhead q false z b with
      | true =>
        rw [hA] at k
        exact iteT ⟨_, rfl, k _ H3 ((k1.trans k2).trans k3) ((hv.same k2).same k3)⟩
      | false =>
        rw [hA] at k
        exact iteF ⟨_, rfl, k _ H3 ((k1.trans k2).trans k3) ((hu.same k2).same k3)⟩
structure LG (P : Program) (w : World) (K : PySem.W.Frag) (mg : Str → Option Value) (base : Heap) : Prop where
  L : LR P w K mg base
  T : GF K mg
  mG : ∃ f fd, Mk K (aG K) f ∧ FnOk P w K mg base CX0 6 f fd ["self", "low", "high"] (spGInit K) ∧ Binds K fd ["self", "low", "high"] []
  kG : MkK P w K mg base (aG K) 6 ["self", "low", "high"] ["high", "low"] revV (spGInit K)
  eqG : ∃ f, OwnEq K (aG K) f ∧ FnR P w K mg base CX0 2 f (spGEq K)
  outer : MetX P w K mg base (aG K) "outer" 1 ["self"] (spOuterR K)
  innK : MetK P w K mg base (aG K) "is_inner" 8 ["self", "cut"] ["cut"] idV (spInner K)
  inn : MetX P w K mg base (aG K) "is_inner" 8 ["self", "cut"] (spInner K)
  fitK : MetK P w K mg base (aG K) "fit" 9 ["self", "cut"] ["cut"] idV (spFitR K)
  fit : MetX P w K mg base (aG K) "fit" 9 ["self", "cut"] (spFitR K)
  hasK : MetK P w K mg base (aG K) "has_stretch" 9 ["self", "value"] ["value"] idV (spHas K)
  gLow : PropX P w K mg base (aG K) "low" (spGetR K fun q _ => q)
  gHigh : PropX P w K mg base (aG K) "high" (spGetR K fun _ r => r)
  holds : ∃ f, Meth K (aG K) "__contains__" f ∧ FnR P w K mg base CX0 6 f (spHolds K)
  farT : Far K (aG K) "tuple"
  list : mg "list" = none
theorem made_rngR {H : Hp} {R : VK} {E : XK} {x dx : Addr} {y z : V} {q r : Rat} (hx : H x = none) (hd : H dx = none) (ne : dx ≠ x) (hy : NumAt K H y q) (hz : NumAt K H z r) (sq : Sz 100000 q) (sr : Sz 100000 r) (le : rBelow r q = false) (k : ∀ H', Same H H' → RngAt K H' x q r → R .non H') :
    spGInit K [.ref x, y, z] (upd (upd H dx (.own x)) x (.ins (aG K) dx [])) R E := by
  have up : Same H (upd (upd H dx (.own x)) x (.ins (aG K) dx [])) := fun b o e => by rw [upd_ne (ne_of_none e hx), upd_ne (ne_of_none e hd)]; exact e
  exact ⟨x, dx, y, z, q, r, rfl, upd_same, hy.same up, hz.same up, sq, sr, le, fun H' kp hr => k H' (fun c o ec => kp c o (ne_of_none ec hx) (up _ _ ec)) hr⟩
theorem ne_rngS {mg' : Str → Option Value} {H : Hp} {g g2 : Addr} {q r : Rat} {Q : VK} (T : GF K mg') (hx : RngAt K H g q r) (hy : RngAt K H g2 q r) (k : Q (.bl false) H) : rOwnN K (aG K) (spGEq K) (fun _ _ _ => False) (.ref g) (.ref g2) H Q := by
  obtain ⟨le, dx, a, b, e, _⟩ := id hx
  refine ⟨g, dx, _, .ref (aG K), rfl, e, hy.ty T, (by unfold PySem.W.notFirst; rw [beq_self_eq_true, Bool.true_or]), g, .ref g2, q, r, rfl, hx, .inl ⟨g2, q, r, rfl, hy, _, rfl, ?_⟩⟩
  rw [decide_eq_true (rfl : q = q), decide_eq_true (rfl : r = r)]
  exact k
theorem eq_rngT {H : Hp} {g t : Addr} {q r : Rat} {xs : List V} {Q : VK} (F : Far K (aG K) "tuple") (hx : RngAt K H g q r) (ht : H t = some (.tup xs)) (k : Q (.bl false) H) : rOwnE K (aG K) (spGEq K) (fun _ _ _ => False) (.ref g) (.ref t) H Q := by
  obtain ⟨le, dx, a, b, e, _⟩ := id hx
  exact ⟨g, dx, _, .type "tuple", rfl, e, .base (.tup ht), F.nf, g, .ref t, q, r, rfl, hx, .inr ⟨.type "tuple", .base (.tup ht), F.kt, k⟩⟩
theorem cuts_same {H : Hp} {c d : Addr} {q : Rat} {b : Bool} (hc : CutR K H c q b) (hd : CutR K H d q b) : TupB K (ThB K) (.ref c) (.ref d) true H := by
  have z := cuts_eq hc hd
  rw [decide_eq_true (rfl : q = q), beq_self_eq_true] at z
  exact z
theorem outers_same {H : Hp} {o1 o2 c1 c2 c3 c4 : Addr} {q r : Rat} {b g : Bool} (h1 : H o1 = some (.tup [.ref c1, .ref c2])) (h2 : H o2 = some (.tup [.ref c3, .ref c4])) (a1 : CutR K H c1 q b) (a2 : CutR K H c2 r g) (a3 : CutR K H c3 q b) (a4 : CutR K H c4 r g) :
    TupB K (TupS K (ThB K)) (.ref o1) (.ref o2) true H := by
  refine ⟨o1, o2, _, _, fun _ => true, rfl, rfl, SqT.of h1, SqT.of h2, ?_, allB_true.symm⟩
  intro i x y _ e1 e2
  match i with
  | 0 => cases e1; cases e2; exact ⟨cuts_same a1 a3, fun _ => rfl⟩
  | 1 => cases e1; cases e2; exact ⟨cuts_same a2 a4, fun _ => rfl⟩
theorem rats_same {H : Hp} {o1 o2 c1 c2 c3 c4 : Addr} {q r : Rat} (h1 : H o1 = some (.lst [.ref c1, .ref c2])) (h2 : H o2 = some (.lst [.ref c3, .ref c4])) (a1 : RatAt K H c1 q) (a2 : RatAt K H c2 r) (a3 : RatAt K H c3 q) (a4 : RatAt K H c4 r) :
    LstB (RatB K) (.ref o1) (.ref o2) true H := by
  refine ⟨o1, o2, _, _, fun _ => true, rfl, rfl, h1, h2, rfl, ?_, allB_true.symm⟩
  intro i x y _ e1 e2
  match i with
  | 0 => cases e1; cases e2; exact ⟨_, _, _, _, rfl, rfl, a1, a3, (decide_eq_true rfl).symm⟩
  | 1 => cases e1; cases e2; exact ⟨_, _, _, _, rfl, rfl, a2, a4, (decide_eq_true rfl).symm⟩
theorem has_self {q r : Rat} (le : rBelow r q = false) : cHas q r q false r true = true := by
  unfold cHas
  rw [ahead_self, ahead_self]
  show ((!rBelow r q) && _) = true
  rw [le]
  rfl
theorem rBelow_self {q : Rat} : rBelow q q = false := rBelow_not.mpr Rat.le_refl
def spGR (K : PySem.W.Frag) : Sp := fun vs H Q _ => ∃ (a b l : Addr) (q r : Rat) (f g : Bool), vs = [.ref a, .ref b, .ref l] ∧ RatAt K H a q ∧ RatAt K H b r ∧ Sz 80 q ∧ Sz 80 r ∧ H l = some (.lst [.bl f, .bl g]) ∧ ∀ H', Same H H' → Q (.bl true) H'
theorem scGR : FnScope ["_law_first", "_law_second", "_law_flags", "_law_least", "_law_most", "_law_held", "_law_spot"] ["_law_first", "_law_second", "_law_flags"] (defScope sGR) := ⟨rfl, rfl, rfl, by decide +kernel, rfl, by decide +kernel, by decide +kernel⟩
theorem ok_gr {f : Addr} {fd : FuncData} (F : Fun K "_law_ranges_right" "_law_ranges_right" sGR f fd) (L : LG P w K mg base) : FnOk P w K mg base CX0 10 f fd ["_law_first", "_law_second", "_law_flags"] (spGR K) := by
  obtain ⟨fE, oE, GE⟩ := L.L.I.eq
  obtain ⟨fQ, oQ, GQ⟩ := L.eqG
  obtain ⟨fB, dB, mB, GB, BB⟩ := L.L.blX
  obtain ⟨fM, dM, MM, GM, BM⟩ := L.mG
  obtain ⟨fK, dK, uK, MK, GK, BK⟩ := L.kG
  obtain ⟨fO, dO, mO, GO, BO⟩ := L.outer
  obtain ⟨fi, di, ui, mi, Gi, Bi⟩ := L.innK
  obtain ⟨fj, dj, mj, Gj, Bj⟩ := L.inn
  obtain ⟨ft, dt, ut, mt, Gt, Bt⟩ := L.fitK
  obtain ⟨fu, du, mu, Gu, Bu⟩ := L.fit
  obtain ⟨fh, dh, uh, mh, Gh, Bh⟩ := L.hasK
  obtain ⟨p1, g1, fd1, P1, G1, b1⟩ := L.gLow
  obtain ⟨p2, g2, fd2, P2, G2, b2⟩ := L.gHigh
  obtain ⟨fc, mc, Gc⟩ := L.holds
  have TR := L.L.I.R.G.T
  have TG := L.T
  refine F.ok scGR (fun vs H Q E h => ?_) (fun cdv A outer s H vs Q E hr h => ?_)
  · obtain ⟨a, b, l, q, r, f, g, rfl, _⟩ := h
    rfl
  · obtain ⟨a, b, l, q, r, f, g, rfl, ha, hb, sq, sr, hl, k⟩ := h
    refine ⟨_, pss_cons (ps_asg (pe_ifExp (pt_val (pe_meth (pv 1) TR.cl mB GB (hr.mono (by decide)) BB .nil pass0 (pa_cons (pv 0) pa_nil))) (pe_tup (pa_cons (pv 1) (pa_cons (pv 0) pa_nil))) (pe_tup (pa_cons (pv 0) (pa_cons (pv 1) pa_nil)))) (pg_tup (by rfl) (pgs_cons (pg_name (i := 3) scGR.nd rfl (.inl rfl)) (pgs_cons (pg_name (i := 4) scGR.nd rfl (.inl rfl)) pgs_nil))))
      (pss_cons (ps_set (i := 5) scGR.nd rfl (Or.inl rfl) (pe_makeK0 MK GK (hr.mono (by decide)) rfl TG.gG BK pass0 (pk_cons (pv 4) (pk_cons (pv 3) pk_nil))))
      (pss_cons (ps_if (PW.pt (pw_or (pt_cmpR (op_neO oQ GQ (hr.mono (by decide)) pass0) (pv 5) (pe_make MM GM (hr.mono (by decide)) rfl TG.gG BM .nil pass0 (pa_cons (pv 3) (pa_cons (pv 4) pa_nil))) (nomark _))
          (pw_or (pt_cmpR (op_eqO oQ GQ (hr.mono (by decide)) pass0) (pv 5) (pe_tup (pa_cons (pv 3) (pa_cons (pv 4) pa_nil))) (nomark _))
          (pw_or1 (pt_cmpR (op_neT (monB_tupS monB_th) (eqB_tup monB_th (eqB_th oE GE)) (hr.mono (by decide))) (pe_meth0 (pv 5) TG.cl mO GO (hr.mono (by decide)) BO .nil pass0) (pe_meth0 (pe_make MM GM (hr.mono (by decide)) rfl TG.gG BM .nil pass0 (pa_cons (pv 3) (pa_cons (pv 4) pa_nil))) TG.cl mO GO (hr.mono (by decide)) BO .nil pass0) (nomark _)))))) (pss_one (ps_ret pe_bl)) pss_nil)
      (pss_cons (ps_set (i := 6) scGR.nd rfl (Or.inl rfl) (pe_tup (pa_cons (pv 1) (pa_cons (pe_ix ix_list (pv 2) pe_int (fun _ _ => rfl)) pa_nil))))
      (pss_cons (ps_if (PW.pt (pw_or (pt_cmpR op_ne (pe_methN0 (pv 5) TG.cl mi Gi (hr.mono (by decide)) Bi pass0 (pk_cons (pv 6) pk_nil)) (pe_meth (pv 5) TG.cl mj Gj (hr.mono (by decide)) Bj .nil pass0 (pa_cons (pv 6) pa_nil)) (nomark _))
          (pw_or1 (pt_cmpR (op_neT monB_th (eqB_th oE GE) (hr.mono (by decide))) (pe_methN0 (pv 5) TG.cl mt Gt (hr.mono (by decide)) Bt pass0 (pk_cons (pv 6) pk_nil)) (pe_meth (pv 5) TG.cl mu Gu (hr.mono (by decide)) Bu .nil pass0 (pa_cons (pv 6) pa_nil)) (nomark _))))) (pss_one (ps_ret pe_bl)) pss_nil)
      (pss_cons (ps_if (PW.pt (pw_or (pt_cmpR op_isnot_bl (pe_methN0 (pv 5) TG.cl mh Gh (hr.mono (by decide)) Bh pass0 (pk_cons (pe_meth0 (pv 5) TG.cl mO GO (hr.mono (by decide)) BO .nil pass0) pk_nil)) pe_bl (nomark _))
          (pw_or1 (pt_cmpR op_isnot_bl (pe_methN0 (pv 5) TG.cl mh Gh (hr.mono (by decide)) Bh pass0 (pk_cons (pe_callTy call_list_of (by rfl) L.list (by decide +kernel) (pa_cons (pe_meth0 (pv 5) TG.cl mO GO (hr.mono (by decide)) BO .nil pass0) pa_nil)) pk_nil)) pe_bl (nomark _))))) (pss_one (ps_ret pe_bl)) pss_nil)
      (pss_one (ps_ret (pe_and (pe_cmpR (op_eqL monB_rat (eqB_rat oE GE) (hr.mono (by decide))) (pe_lst (pa_cons (pe_prop (pv 5) TG.cl P1 G1 (hr.mono (by decide)) b1 .nil pass0 rfl) (pa_cons (pe_prop (pv 5) TG.cl P2 G2 (hr.mono (by decide)) b2 .nil pass0 rfl) pa_nil))) (pe_lst (pa_cons (pv 3) (pa_cons (pv 4) pa_nil))) (nomark _))
        (pe_and (pe_cmpR (op_inO mc Gc (hr.mono (by decide)) pass0) (pv 3) (pv 5) (by with_unfolding_all rfl))
        (pe_and (pe_cmpR (op_inO mc Gc (hr.mono (by decide)) pass0) (pv 4) (pv 5) (by with_unfolding_all rfl))
        (pe_one (pe_not (pe_cmpR (op_eqO oQ GQ (hr.mono (by decide)) pass0) (pv 5) (pe_meth0 (pv 5) TG.cl mO GO (hr.mono (by decide)) BO .nil pass0) (nomark _)))))))))))))), ?_⟩
    -- READ
    have s1 : ∀ {n : Nat} {x : Rat}, Sz 80 x → 80 ≤ n → Sz n x := fun h j => h.mono j
    refine ⟨_, rfl, b, ?_⟩
    obtain ⟨db, eb⟩ := id hb
    refine ⟨db, _, rfl, eb, rfl, _, rfl, b, .ref a, r, q, rfl, hb, ha.num, s1 sr (by decide), s1 sq (by decide), fun H1 k1 => ⟨_, rfl, ?_⟩⟩
    cases hA : rBelow r q
    · have le : rBelow r q = false := hA
      have z1 := sq
      have z2 := sr
      refine iteF ⟨_, rfl, _, rfl, ?_⟩
      refine ⟨by show 2 ≤ sizeLine; decide, fun t0 n0 => ?_⟩
      have k2 : Same H1 (upd H1 t0 (.tup [.ref a, .ref b])) := fun b o e => by rw [upd_ne (ne_of_none e n0)]; exact e
      have h0 : (upd H1 t0 (.tup [.ref a, .ref b])) t0 = some (.tup [.ref a, .ref b]) := upd_same
      refine ⟨t0, _, rfl, SqT.of upd_same, rfl, _, _, rfl, _, _, rfl, rfl, ?_⟩
      generalize upd H1 t0 (.tup [.ref a, .ref b]) = H2 at k2 h0 ⊢
      have k02 := k1.trans k2
      have h1 := ha.same k02
      have h2 := hb.same k02
      refine ⟨_, rfl, _, rfl, rfl, rfl, ?_⟩
      intro g' dg' ng nd ne
      refine made_rngR ng nd ne h1.num h2.num (s1 z1 (by decide)) (s1 z2 (by decide)) le fun H3 k3 hg => ⟨rfl, ?_⟩
      refine ⟨_, rfl, _, rfl, _, rfl, ?_⟩
      intro g2 dg2 ng2 nd2 ne2
      refine made_rngR ng2 nd2 ne2 (h1.same k3).num (h2.same k3).num (s1 z1 (by decide)) (s1 z2 (by decide)) le fun H4 k4 hg2 => ⟨rfl, ?_⟩
      refine ne_rngS TG (hg.same k4) hg2 ⟨_, rfl, iteF ?_⟩
      refine ⟨_, rfl, _, rfl, _, rfl, (by show 2 ≤ sizeLine; decide), fun t1 n1 => ?_⟩
      have k5 : Same H4 (upd H4 t1 (.tup [.ref a, .ref b])) := fun b o e => by rw [upd_ne (ne_of_none e n1)]; exact e
      have h5 : (upd H4 t1 (.tup [.ref a, .ref b])) t1 = some (.tup [.ref a, .ref b]) := upd_same
      generalize upd H4 t1 (.tup [.ref a, .ref b]) = H5 at k5 h5 ⊢
      have hg5 := (hg.same k4).same k5
      refine eq_rngT L.farT hg5 h5 ⟨_, rfl, iteF ?_⟩
      obtain ⟨dg, fg, eg, lf⟩ : ∃ dg fg, H5 g' = some (.ins (aG K) dg fg) ∧ ∀ m : Str, m ≠ "_low" → m ≠ "_high" → fg.lookup m = none := by
        obtain ⟨_, dx, a', b', e, _⟩ := id hg5
        refine ⟨dx, _, e, fun m n1 n2 => ?_⟩
        rw [List.lookup_cons, beq_false_of_ne n1, List.lookup_cons, beq_false_of_ne n2]
        rfl
      refine ⟨_, rfl, g', dg, fg, rfl, eg, lf _ (by decide) (by decide), g', _, _, rfl, hg5, fun o1 c1 c2 H6 k6 ho1 hc1 hc2 => ?_⟩
      have k26 := ((k3.trans k4).trans k5).trans k6
      refine ⟨_, rfl, _, rfl, ?_⟩
      intro g3 dg3 ng3 nd3 ne3
      refine made_rngR ng3 nd3 ne3 (h1.same k26).num (h2.same k26).num (s1 z1 (by decide)) (s1 z2 (by decide)) le fun H7 k7 hg3 => ⟨rfl, ?_⟩
      obtain ⟨le3, dx3, a3, b3, e3, _⟩ := id hg3
      refine ⟨g3, dx3, _, rfl, e3, rfl, g3, _, _, rfl, hg3, fun o2 c3 c4 H8 k8 ho2 hc3 hc4 => ?_⟩
      refine ⟨true, outers_same ((k7.trans k8) _ _ ho1) ho2 (hc1.same (k7.trans k8)) (hc2.same (k7.trans k8)) hc3 hc4, fun H9 k9 => ⟨_, rfl, iteF ?_⟩⟩
      have k29 := ((k26.trans k7).trans k8).trans k9
      refine ⟨_, rfl, _, rfl, l, _, _, _, rfl, rfl, SqL.of ((k02.trans k29) _ _ hl), rfl, (by show 2 ≤ sizeLine; decide), fun sp ns => ?_⟩
      have k10 : Same H9 (upd H9 sp (.tup [.ref b, .bl f])) := fun b o e => by rw [upd_ne (ne_of_none e ns)]; exact e
      have h10 : (upd H9 sp (.tup [.ref b, .bl f])) sp = some (.tup [.ref b, .bl f]) := upd_same
      generalize upd H9 sp (.tup [.ref b, .bl f]) = H10 at k10 h10 ⊢
      have k210 := k29.trans k10
      have k510 := ((((k6.trans k7).trans k8).trans k9).trans k10)
      have cs : CutAt K H10 (.ref sp) r f := ⟨sp, _, rfl, h10, (hb.same (k02.trans k210)).num⟩
      have hg10 := hg5.same k510
      have eg10 := k510 _ _ eg
      refine ⟨_, rfl, g', dg, fg, rfl, eg10, lf _ (by decide) (by decide), _, rfl, rfl, g', .ref sp, _, _, r, f, rfl, hg10, cs, s1 z1 (by decide), s1 z2 (by decide), s1 sr (by decide), fun H11 k11 => ?_⟩
      refine ⟨_, rfl, g', dg, fg, rfl, k11 _ _ eg10, lf _ (by decide) (by decide), _, rfl, g', .ref sp, _, _, r, f, rfl, hg10.same k11, cs.same k11, s1 z1 (by decide), s1 z2 (by decide), s1 sr (by decide), fun H12 k12 => ?_⟩
      refine rne_refl rfl ⟨_, rfl, iteF ?_⟩
      have j12 := k11.trans k12
      refine ⟨_, rfl, g', dg, fg, rfl, j12 _ _ eg10, lf _ (by decide) (by decide), _, rfl, rfl, g', .ref sp, _, _, r, f, rfl, hg10.same j12, cs.same j12, s1 z1 (by decide), s1 z2 (by decide), s1 sr (by decide), fun y1 H13 k13 hy1 => ?_⟩
      have j13 := j12.trans k13
      refine ⟨_, rfl, g', dg, fg, rfl, j13 _ _ eg10, lf _ (by decide) (by decide), _, rfl, g', .ref sp, _, _, r, f, rfl, hg10.same j13, cs.same j13, s1 z1 (by decide), s1 z2 (by decide), s1 sr (by decide), fun y2 H14 k14 hy2 => ?_⟩
      refine ⟨true, cuts_same (hy1.same k14) hy2, fun H15 k15 => ⟨_, rfl, iteF ?_⟩⟩
      have j15 := (j13.trans k14).trans k15
      refine ⟨_, rfl, g', dg, fg, rfl, j15 _ _ eg10, lf _ (by decide) (by decide), _, rfl, g', dg, fg, rfl, j15 _ _ eg10, lf _ (by decide) (by decide), g', _, _, rfl, hg10.same j15, fun o3 c5 c6 H16 k16 ho3 hc5 hc6 => ⟨rfl, ?_⟩⟩
      have j16 := j15.trans k16
      refine ⟨g', .ref o3, rfl, .inl ⟨_, _, _, _, false, true, hg10.same j16, ⟨o3, _, _, rfl, ho3, hc5.cut, hc6.cut⟩, s1 z1 (by decide), s1 z2 (by decide), s1 z1 (by decide), s1 z2 (by decide), fun H17 k17 => ⟨_, _, rfl, rfl, _, rfl, ?_⟩⟩⟩
      rw [has_self le]
      have j17 := j16.trans k17
      refine iteF ⟨_, rfl, g', dg, fg, rfl, j17 _ _ eg10, lf _ (by decide) (by decide), _, rfl, g', dg, fg, rfl, j17 _ _ eg10, lf _ (by decide) (by decide), g', _, _, rfl, hg10.same j17, fun o4 c7 c8 H18 k18 ho4 hc7 hc8 => ?_⟩
      refine ⟨o4, _, rfl, .inr (SqT.of ho4), fun l1 nl1 => ?_⟩
      have k19 : Same H18 (upd H18 l1 (.lst [.ref c7, .ref c8])) := fun b o e => by rw [upd_ne (ne_of_none e nl1)]; exact e
      have h19 : (upd H18 l1 (.lst [.ref c7, .ref c8])) l1 = some (.lst [.ref c7, .ref c8]) := upd_same
      generalize upd H18 l1 (.lst [.ref c7, .ref c8]) = H19 at k19 h19 ⊢
      refine ⟨rfl, g', .ref l1, rfl, .inr ⟨.base (.lst h19), _, _, rfl, rfl, _, rfl, iteF ?_⟩⟩
      have j19 := (j17.trans k18).trans k19
      refine ⟨_, rfl, g', dg, fg, rfl, j19 _ _ eg10, g', _, _, rfl, hg10.same j19, fun a1 ha1 => ?_⟩
      refine ⟨_, rfl, g', dg, fg, rfl, j19 _ _ eg10, g', _, _, rfl, hg10.same j19, fun a2 ha2 => ?_⟩
      refine ⟨by show 2 ≤ sizeLine; decide, fun l2 n2 => ?_⟩
      have k20 : Same H19 (upd H19 l2 (.lst [.ref a1, .ref a2])) := fun b o e => by rw [upd_ne (ne_of_none e n2)]; exact e
      have h20 : (upd H19 l2 (.lst [.ref a1, .ref a2])) l2 = some (.lst [.ref a1, .ref a2]) := upd_same
      generalize upd H19 l2 (.lst [.ref a1, .ref a2]) = H20 at k20 h20 ⊢
      refine ⟨_, rfl, _, rfl, (by show 2 ≤ sizeLine; decide), fun l3 n3 => ?_⟩
      have k21 : Same H20 (upd H20 l3 (.lst [.ref a, .ref b])) := fun b o e => by rw [upd_ne (ne_of_none e n3)]; exact e
      have h21 : (upd H20 l3 (.lst [.ref a, .ref b])) l3 = some (.lst [.ref a, .ref b]) := upd_same
      generalize upd H20 l3 (.lst [.ref a, .ref b]) = H21 at k21 h21 ⊢
      have j21 := (j19.trans k20).trans k21
      have k221 := k210.trans j21
      refine ⟨true, rats_same (k21 _ _ h20) h21 (ha1.same (k20.trans k21)) (ha2.same (k20.trans k21)) (h1.same k221) (h2.same k221), fun H22 k22 => ⟨_, rfl, iteT ?_⟩⟩
      have j22 := j21.trans k22
      have k222 := k221.trans k22
      refine ⟨_, rfl, _, rfl, g', dg, fg, rfl, j22 _ _ eg10, g', _, _, _, _, rfl, hg10.same j22, (h1.same k222).num, s1 z1 (by decide), s1 z2 (by decide), s1 z1 (by decide), fun H23 k23 => ⟨_, rfl, _, rfl, ?_⟩⟩
      rw [le, rBelow_self]
      have j23 := j22.trans k23
      have k223 := k222.trans k23
      refine iteT ⟨_, rfl, _, rfl, g', dg, fg, rfl, j23 _ _ eg10, g', _, _, _, _, rfl, hg10.same j23, (h2.same k223).num, s1 z1 (by decide), s1 z2 (by decide), s1 z2 (by decide), fun H24 k24 => ⟨_, rfl, _, rfl, ?_⟩⟩
      rw [le, rBelow_self]
      have j24 := j23.trans k24
      refine iteT ⟨_, rfl, _, rfl, g', dg, fg, rfl, j24 _ _ eg10, lf _ (by decide) (by decide), g', _, _, rfl, hg10.same j24, fun o5 c9 c10 H25 k25 ho5 _ _ => ?_⟩
      refine eq_rngT L.farT (hg10.same (j24.trans k25)) ho5 ⟨_, rfl, ?_⟩
      exact k _ ((k02.trans k210).trans (j24.trans k25))
    · have le : rBelow q r = false := rBelow_not.mpr (Rat.le_of_lt (rBelow_iff.mp hA))
      have z1 := sr
      have z2 := sq
      refine iteT ⟨_, rfl, _, rfl, ?_⟩
      refine ⟨by show 2 ≤ sizeLine; decide, fun t0 n0 => ?_⟩
      have k2 : Same H1 (upd H1 t0 (.tup [.ref b, .ref a])) := fun b o e => by rw [upd_ne (ne_of_none e n0)]; exact e
      have h0 : (upd H1 t0 (.tup [.ref b, .ref a])) t0 = some (.tup [.ref b, .ref a]) := upd_same
      refine ⟨t0, _, rfl, SqT.of upd_same, rfl, _, _, rfl, _, _, rfl, rfl, ?_⟩
      generalize upd H1 t0 (.tup [.ref b, .ref a]) = H2 at k2 h0 ⊢
      have k02 := k1.trans k2
      have h1 := hb.same k02
      have h2 := ha.same k02
      refine ⟨_, rfl, _, rfl, rfl, rfl, ?_⟩
      intro g' dg' ng nd ne
      refine made_rngR ng nd ne h1.num h2.num (s1 z1 (by decide)) (s1 z2 (by decide)) le fun H3 k3 hg => ⟨rfl, ?_⟩
      refine ⟨_, rfl, _, rfl, _, rfl, ?_⟩
      intro g2 dg2 ng2 nd2 ne2
      refine made_rngR ng2 nd2 ne2 (h1.same k3).num (h2.same k3).num (s1 z1 (by decide)) (s1 z2 (by decide)) le fun H4 k4 hg2 => ⟨rfl, ?_⟩
      refine ne_rngS TG (hg.same k4) hg2 ⟨_, rfl, iteF ?_⟩
      refine ⟨_, rfl, _, rfl, _, rfl, (by show 2 ≤ sizeLine; decide), fun t1 n1 => ?_⟩
      have k5 : Same H4 (upd H4 t1 (.tup [.ref b, .ref a])) := fun b o e => by rw [upd_ne (ne_of_none e n1)]; exact e
      have h5 : (upd H4 t1 (.tup [.ref b, .ref a])) t1 = some (.tup [.ref b, .ref a]) := upd_same
      generalize upd H4 t1 (.tup [.ref b, .ref a]) = H5 at k5 h5 ⊢
      have hg5 := (hg.same k4).same k5
      refine eq_rngT L.farT hg5 h5 ⟨_, rfl, iteF ?_⟩
      obtain ⟨dg, fg, eg, lf⟩ : ∃ dg fg, H5 g' = some (.ins (aG K) dg fg) ∧ ∀ m : Str, m ≠ "_low" → m ≠ "_high" → fg.lookup m = none := by
        obtain ⟨_, dx, a', b', e, _⟩ := id hg5
        refine ⟨dx, _, e, fun m n1 n2 => ?_⟩
        rw [List.lookup_cons, beq_false_of_ne n1, List.lookup_cons, beq_false_of_ne n2]
        rfl
      refine ⟨_, rfl, g', dg, fg, rfl, eg, lf _ (by decide) (by decide), g', _, _, rfl, hg5, fun o1 c1 c2 H6 k6 ho1 hc1 hc2 => ?_⟩
      have k26 := ((k3.trans k4).trans k5).trans k6
      refine ⟨_, rfl, _, rfl, ?_⟩
      intro g3 dg3 ng3 nd3 ne3
      refine made_rngR ng3 nd3 ne3 (h1.same k26).num (h2.same k26).num (s1 z1 (by decide)) (s1 z2 (by decide)) le fun H7 k7 hg3 => ⟨rfl, ?_⟩
      obtain ⟨le3, dx3, a3, b3, e3, _⟩ := id hg3
      refine ⟨g3, dx3, _, rfl, e3, rfl, g3, _, _, rfl, hg3, fun o2 c3 c4 H8 k8 ho2 hc3 hc4 => ?_⟩
      refine ⟨true, outers_same ((k7.trans k8) _ _ ho1) ho2 (hc1.same (k7.trans k8)) (hc2.same (k7.trans k8)) hc3 hc4, fun H9 k9 => ⟨_, rfl, iteF ?_⟩⟩
      have k29 := ((k26.trans k7).trans k8).trans k9
      refine ⟨_, rfl, _, rfl, l, _, _, _, rfl, rfl, SqL.of ((k02.trans k29) _ _ hl), rfl, (by show 2 ≤ sizeLine; decide), fun sp ns => ?_⟩
      have k10 : Same H9 (upd H9 sp (.tup [.ref b, .bl f])) := fun b o e => by rw [upd_ne (ne_of_none e ns)]; exact e
      have h10 : (upd H9 sp (.tup [.ref b, .bl f])) sp = some (.tup [.ref b, .bl f]) := upd_same
      generalize upd H9 sp (.tup [.ref b, .bl f]) = H10 at k10 h10 ⊢
      have k210 := k29.trans k10
      have k510 := ((((k6.trans k7).trans k8).trans k9).trans k10)
      have cs : CutAt K H10 (.ref sp) r f := ⟨sp, _, rfl, h10, (hb.same (k02.trans k210)).num⟩
      have hg10 := hg5.same k510
      have eg10 := k510 _ _ eg
      refine ⟨_, rfl, g', dg, fg, rfl, eg10, lf _ (by decide) (by decide), _, rfl, rfl, g', .ref sp, _, _, r, f, rfl, hg10, cs, s1 z1 (by decide), s1 z2 (by decide), s1 sr (by decide), fun H11 k11 => ?_⟩
      refine ⟨_, rfl, g', dg, fg, rfl, k11 _ _ eg10, lf _ (by decide) (by decide), _, rfl, g', .ref sp, _, _, r, f, rfl, hg10.same k11, cs.same k11, s1 z1 (by decide), s1 z2 (by decide), s1 sr (by decide), fun H12 k12 => ?_⟩
      refine rne_refl rfl ⟨_, rfl, iteF ?_⟩
      have j12 := k11.trans k12
      refine ⟨_, rfl, g', dg, fg, rfl, j12 _ _ eg10, lf _ (by decide) (by decide), _, rfl, rfl, g', .ref sp, _, _, r, f, rfl, hg10.same j12, cs.same j12, s1 z1 (by decide), s1 z2 (by decide), s1 sr (by decide), fun y1 H13 k13 hy1 => ?_⟩
      have j13 := j12.trans k13
      refine ⟨_, rfl, g', dg, fg, rfl, j13 _ _ eg10, lf _ (by decide) (by decide), _, rfl, g', .ref sp, _, _, r, f, rfl, hg10.same j13, cs.same j13, s1 z1 (by decide), s1 z2 (by decide), s1 sr (by decide), fun y2 H14 k14 hy2 => ?_⟩
      refine ⟨true, cuts_same (hy1.same k14) hy2, fun H15 k15 => ⟨_, rfl, iteF ?_⟩⟩
      have j15 := (j13.trans k14).trans k15
      refine ⟨_, rfl, g', dg, fg, rfl, j15 _ _ eg10, lf _ (by decide) (by decide), _, rfl, g', dg, fg, rfl, j15 _ _ eg10, lf _ (by decide) (by decide), g', _, _, rfl, hg10.same j15, fun o3 c5 c6 H16 k16 ho3 hc5 hc6 => ⟨rfl, ?_⟩⟩
      have j16 := j15.trans k16
      refine ⟨g', .ref o3, rfl, .inl ⟨_, _, _, _, false, true, hg10.same j16, ⟨o3, _, _, rfl, ho3, hc5.cut, hc6.cut⟩, s1 z1 (by decide), s1 z2 (by decide), s1 z1 (by decide), s1 z2 (by decide), fun H17 k17 => ⟨_, _, rfl, rfl, _, rfl, ?_⟩⟩⟩
      rw [has_self le]
      have j17 := j16.trans k17
      refine iteF ⟨_, rfl, g', dg, fg, rfl, j17 _ _ eg10, lf _ (by decide) (by decide), _, rfl, g', dg, fg, rfl, j17 _ _ eg10, lf _ (by decide) (by decide), g', _, _, rfl, hg10.same j17, fun o4 c7 c8 H18 k18 ho4 hc7 hc8 => ?_⟩
      refine ⟨o4, _, rfl, .inr (SqT.of ho4), fun l1 nl1 => ?_⟩
      have k19 : Same H18 (upd H18 l1 (.lst [.ref c7, .ref c8])) := fun b o e => by rw [upd_ne (ne_of_none e nl1)]; exact e
      have h19 : (upd H18 l1 (.lst [.ref c7, .ref c8])) l1 = some (.lst [.ref c7, .ref c8]) := upd_same
      generalize upd H18 l1 (.lst [.ref c7, .ref c8]) = H19 at k19 h19 ⊢
      refine ⟨rfl, g', .ref l1, rfl, .inr ⟨.base (.lst h19), _, _, rfl, rfl, _, rfl, iteF ?_⟩⟩
      have j19 := (j17.trans k18).trans k19
      refine ⟨_, rfl, g', dg, fg, rfl, j19 _ _ eg10, g', _, _, rfl, hg10.same j19, fun a1 ha1 => ?_⟩
      refine ⟨_, rfl, g', dg, fg, rfl, j19 _ _ eg10, g', _, _, rfl, hg10.same j19, fun a2 ha2 => ?_⟩
      refine ⟨by show 2 ≤ sizeLine; decide, fun l2 n2 => ?_⟩
      have k20 : Same H19 (upd H19 l2 (.lst [.ref a1, .ref a2])) := fun b o e => by rw [upd_ne (ne_of_none e n2)]; exact e
      have h20 : (upd H19 l2 (.lst [.ref a1, .ref a2])) l2 = some (.lst [.ref a1, .ref a2]) := upd_same
      generalize upd H19 l2 (.lst [.ref a1, .ref a2]) = H20 at k20 h20 ⊢
      refine ⟨_, rfl, _, rfl, (by show 2 ≤ sizeLine; decide), fun l3 n3 => ?_⟩
      have k21 : Same H20 (upd H20 l3 (.lst [.ref b, .ref a])) := fun b o e => by rw [upd_ne (ne_of_none e n3)]; exact e
      have h21 : (upd H20 l3 (.lst [.ref b, .ref a])) l3 = some (.lst [.ref b, .ref a]) := upd_same
      generalize upd H20 l3 (.lst [.ref b, .ref a]) = H21 at k21 h21 ⊢
      have j21 := (j19.trans k20).trans k21
      have k221 := k210.trans j21
      refine ⟨true, rats_same (k21 _ _ h20) h21 (ha1.same (k20.trans k21)) (ha2.same (k20.trans k21)) (h1.same k221) (h2.same k221), fun H22 k22 => ⟨_, rfl, iteT ?_⟩⟩
      have j22 := j21.trans k22
      have k222 := k221.trans k22
      refine ⟨_, rfl, _, rfl, g', dg, fg, rfl, j22 _ _ eg10, g', _, _, _, _, rfl, hg10.same j22, (h1.same k222).num, s1 z1 (by decide), s1 z2 (by decide), s1 z1 (by decide), fun H23 k23 => ⟨_, rfl, _, rfl, ?_⟩⟩
      rw [le, rBelow_self]
      have j23 := j22.trans k23
      have k223 := k222.trans k23
      refine iteT ⟨_, rfl, _, rfl, g', dg, fg, rfl, j23 _ _ eg10, g', _, _, _, _, rfl, hg10.same j23, (h2.same k223).num, s1 z1 (by decide), s1 z2 (by decide), s1 z2 (by decide), fun H24 k24 => ⟨_, rfl, _, rfl, ?_⟩⟩
      rw [le, rBelow_self]
      have j24 := j23.trans k24
      refine iteT ⟨_, rfl, _, rfl, g', dg, fg, rfl, j24 _ _ eg10, lf _ (by decide) (by decide), g', _, _, rfl, hg10.same j24, fun o5 c9 c10 H25 k25 ho5 _ _ => ?_⟩
      refine eq_rngT L.farT (hg10.same (j24.trans k25)) ho5 ⟨_, rfl, ?_⟩
      exact k _ ((k02.trans k210).trans (j24.trans k25))
end
end K18
set_option maxHeartbeats 4000000
namespace K18
open PySem PySem.Spec PyProof.Rows L2 GL
abbrev sMR : Stmt := tp 48
def spMDiv (K : PySem.W.Frag) : Sp := fun vs H Q _ => ∃ (s : Addr) (d : Int) (u lo hi : Rat), vs = [.ref s] ∧ MovAt K H s d u lo hi ∧ Q (.int d) H
structure LM (P : Program) (w : World) (K : PySem.W.Frag) (mg : Str → Option Value) (base : Heap) : Prop where
  G : LG P w K mg base
  T : MF K mg
  eqM : ∃ f, OwnEq K (aM K) f ∧ FnR P w K mg base CX0 3 f (spMEq K)
  atK : MetK P w K mg base (aM K) "at" 7 ["self", "number"] ["number"] idV (spAt K)
  at_ : MetX P w K mg base (aM K) "at" 7 ["self", "number"] (spAt K)
  thK : MetK P w K mg base (aM K) "then" 8 ["self", "other"] ["other"] idV (spThen K)
  th : MetX P w K mg base (aM K) "then" 8 ["self", "other"] (spThen K)
  bkK : MetK P w K mg base (aM K) "back" 10 ["self", "cut", "within"] ["within", "cut"] revV (spBack K)
  bk : MetX P w K mg base (aM K) "back" 10 ["self", "cut", "within"] (spBack K)
  fmK : MetK P w K mg base (aM K) "form" 8 ["self", "within"] ["within"] idV (spForm K)
  fm : MetX P w K mg base (aM K) "form" 8 ["self", "within"] (spForm K)
  upK : MetK P w K mg base (aM K) "upper_image" 8 ["self", "cut"] ["cut"] idV (spImg K cUpB)
  up : MetX P w K mg base (aM K) "upper_image" 8 ["self", "cut"] (spImg K cUpB)
  loK : MetK P w K mg base (aM K) "lower_image" 8 ["self", "cut"] ["cut"] idV (spImg K cLoB)
  lo : MetX P w K mg base (aM K) "lower_image" 8 ["self", "cut"] (spImg K cLoB)
  ulK : MetK P w K mg base (aM K) "upper_limit" 9 ["self", "cut"] ["cut"] idV (spLimit K cUpLim)
  ul : MetX P w K mg base (aM K) "upper_limit" 9 ["self", "cut"] (spLimit K cUpLim)
  llK : MetK P w K mg base (aM K) "lower_limit" 9 ["self", "cut"] ["cut"] idV (spLimit K cLoLim)
  ll : MetX P w K mg base (aM K) "lower_limit" 9 ["self", "cut"] (spLimit K cLoLim)
  akK : MetK P w K mg base (aM K) "is_alike" 9 ["self", "other", "within"] ["within", "other"] revV (spAlike K)
  ak : MetX P w K mg base (aM K) "is_alike" 9 ["self", "other", "within"] (spAlike K)
  dnK : MetK P w K mg base (aM K) "done" 10 ["self", "times"] ["times"] idV (spDone K)
  dn : MetX P w K mg base (aM K) "done" 10 ["self", "times"] (spDone K)
  tdK : MetK P w K mg base (aM K) "tends" 10 ["self", "number"] ["number"] idV (spTends K)
  td : MetX P w K mg base (aM K) "tends" 10 ["self", "number"] (spTends K)
  gDiv : PropX P w K mg base (aM K) "divisor" (spMDiv K)
  gPlus : PropX P w K mg base (aM K) "plus" (spMGet K fun u _ _ => u)
  gLow : PropX P w K mg base (aM K) "low" (spMGet K fun _ lo _ => lo)
  gHigh : PropX P w K mg base (aM K) "high" (spMGet K fun _ _ hi => hi)
  farT : Far K (aM K) "tuple"
section
variable {P : Program} {w : World} {K : PySem.W.Frag} {mg : Str → Option Value} {base : Heap}
theorem ne_movS {mg' : Str → Option Value} {H : Hp} {a b : Addr} {d : Int} {u lo hi : Rat} {Q : VK} (T : MF K mg') (hx : MovAt K H a d u lo hi) (hy : MovAt K H b d u lo hi) (k : Q (.bl false) H) : rOwnN K (aM K) (spMEq K) (fun _ _ _ => False) (.ref a) (.ref b) H Q := by
  obtain ⟨d1, le, dx, pa, pb, pc, e, _⟩ := id hx
  refine ⟨a, dx, _, .ref (aM K), rfl, e, hy.ty T, (by unfold PySem.W.notFirst; rw [beq_self_eq_true, Bool.true_or]), a, .ref b, d, u, lo, hi, rfl, hx, .inl ⟨b, d, u, lo, hi, rfl, hy, _, rfl, ?_⟩⟩
  rw [cMEq_self]
  exact k
theorem eq_movS {mg' : Str → Option Value} {H : Hp} {a b : Addr} {d : Int} {u lo hi : Rat} {Q : VK} (T : MF K mg') (hx : MovAt K H a d u lo hi) (hy : MovAt K H b d u lo hi) (k : Q (.bl true) H) : rOwnE K (aM K) (spMEq K) (fun _ _ _ => False) (.ref a) (.ref b) H Q := by
  obtain ⟨d1, le, dx, pa, pb, pc, e, _⟩ := id hx
  refine ⟨a, dx, _, .ref (aM K), rfl, e, hy.ty T, (by unfold PySem.W.notFirst; rw [beq_self_eq_true, Bool.true_or]), a, .ref b, d, u, lo, hi, rfl, hx, .inl ⟨b, d, u, lo, hi, rfl, hy, ?_⟩⟩
  rw [cMEq_self]
  exact k
theorem ne_movT {H : Hp} {a t : Addr} {d : Int} {u lo hi : Rat} {xs : List V} {Q : VK} (F : Far K (aM K) "tuple") (hx : MovAt K H a d u lo hi) (ht : H t = some (.tup xs)) (k : Q (.bl true) H) : rOwnN K (aM K) (spMEq K) (fun _ _ _ => False) (.ref a) (.ref t) H Q := by
  obtain ⟨d1, le, dx, pa, pb, pc, e, _⟩ := id hx
  exact ⟨a, dx, _, .type "tuple", rfl, e, .base (.tup ht), F.nf, a, .ref t, d, u, lo, hi, rfl, hx, .inr ⟨.type "tuple", .base (.tup ht), F.kt, _, rfl, k⟩⟩
theorem eqV_int {i : Int} : eqV (.int i) (.int i) = true := by simp [eqV]
theorem forms_same {H : Hp} {t t2 : Addr} {d : Int} {u l h : Rat} (f : FormAt K H t d u l h) (g : FormAt K H t2 d u l h) : TupB K (ThB K) (.ref t) (.ref t2) true H := by
  have z := forms_eq f g
  rw [cSame_self] at z
  exact z
theorem tends_same {H : Hp} {t t2 l l2 : Addr} {q : Rat} {v : V} (h1 : H t = some (.tup [.ref l, v])) (h2 : H t2 = some (.tup [.ref l2, v])) (a1 : RatAt K H l q) (a2 : RatAt K H l2 q) (fv : flatV v = true) (ev : eqV v v = true) : TupB K (ThB K) (.ref t) (.ref t2) true H := by
  refine ⟨t, t2, _, _, fun _ => true, rfl, rfl, SqT.of h1, SqT.of h2, ?_, allB_true.symm⟩
  intro i x y _ e1 e2
  match i with
  | 0 => cases e1; cases e2; exact .inr ⟨_, _, _, _, rfl, rfl, a1, a2, (decide_eq_true rfl).symm⟩
  | 1 => cases e1; cases e2; exact .inl ⟨fv, fv, ev.symm⟩
theorem tends_eqV {d : Int} {u lo hi z : Rat} {v : V} (h : TendsTo d u lo hi z v) : eqV v v = true := by
  unfold TendsTo at h
  split at h
  · rw [h]; exact eqV_int
  · split at h
    · rw [h]; exact eqV_int
    · split at h
      · rw [h]; exact eqV_int
      · split at h
        · rw [h]; rfl
        · obtain ⟨n, e, _⟩ := h
          rw [e]; exact eqV_int
theorem cHeld_lo {lo hi : Rat} (l : lo ≤ hi) : cHeld lo hi lo = lo := by
  have z : rBelow hi lo = false := rBelow_not.mpr l
  unfold cHeld
  rw [rBelow_self, if_neg Bool.false_ne_true, z, if_neg Bool.false_ne_true]
theorem cHeld_hi {lo hi : Rat} (l : lo ≤ hi) : cHeld lo hi hi = hi := by
  have z : rBelow hi lo = false := rBelow_not.mpr l
  unfold cHeld
  rw [z, if_neg Bool.false_ne_true, rBelow_self, if_neg Bool.false_ne_true]
theorem doneQ_one {d : Int} {u lo hi : Rat} (le : rBelow hi lo = false) : doneQ ⟨d, u, lo, hi⟩ 1 = ⟨d, u, lo, hi⟩ := by
  have l := rBelow_not.mp le
  unfold doneQ
  by_cases c : d = 1
  · rw [if_pos c]
    subst c
    have e0 : ((1 - 1 : Int) : Rat) = 0 := rfl
    have e1 : ((1 : Int) : Rat) = 1 := rfl
    unfold raisedQ
    show (MvQ.mk 1 (rMul u ((1 : Int) : Rat)) (cHeld lo hi (rAdd lo (rMul u ((1 - 1 : Int) : Rat)))) (cHeld lo hi (rAdd hi (rMul u ((1 - 1 : Int) : Rat))))) = _
    rw [e0, e1, rMul_eq, rMul_eq, rAdd_eq, rAdd_eq, Rat.mul_one, Rat.mul_zero, Rat.add_zero, Rat.add_zero, cHeld_lo l, cHeld_hi l]
  · rw [if_neg c]
    rfl
def spMR (K : PySem.W.Frag) : Sp := fun vs H Q _ => ∃ (s g o sp p : Addr) (d e : Int) (u lo hi v l2 h2 q r z y : Rat) (b : Bool), vs = [.ref s, .ref g, .ref o, .ref sp, .ref p] ∧ MovAt K H s d u lo hi ∧ RngAt K H g q r ∧ MovAt K H o e v l2 h2 ∧ CutR K H sp z b ∧ RatAt K H p y ∧
  Sz 80 u ∧ Sz 80 lo ∧ Sz 80 hi ∧ Sz 80 v ∧ Sz 80 l2 ∧ Sz 80 h2 ∧ Sz 80 q ∧ Sz 80 r ∧ Sz 80 z ∧ Sz 80 y ∧ Sz 8 (d : Rat) ∧ Sz 8 (e : Rat) ∧ Sz 8 ((d - 1 : Int) : Rat) ∧ ∀ H', Same H H' → Q (.bl true) H'
theorem scMR : FnScope ["_law_made", "_law_held", "_law_further", "_law_spot", "_law_part"] ["_law_made", "_law_held", "_law_further", "_law_spot", "_law_part"] (defScope sMR) := ⟨rfl, rfl, rfl, by decide +kernel, rfl, by decide +kernel, by decide +kernel⟩
theorem ok_mr {f : Addr} {fd : FuncData} (F : Fun K "_law_moves_right" "_law_moves_right" sMR f fd) (L : LM P w K mg base) : FnOk P w K mg base CX0 11 f fd ["_law_made", "_law_held", "_law_further", "_law_spot", "_law_part"] (spMR K) := by
  obtain ⟨fE, oE, GE⟩ := L.G.L.I.eq
  obtain ⟨fQ, oQ, GQ⟩ := L.eqM
  obtain ⟨fatK, datK, uatK, matK, GatK, BatK⟩ := L.atK
  obtain ⟨fat, dat, mat, Gat, Bat⟩ := L.at_
  obtain ⟨fthK, dthK, uthK, mthK, GthK, BthK⟩ := L.thK
  obtain ⟨fth, dth, mth, Gth, Bth⟩ := L.th
  obtain ⟨fbkK, dbkK, ubkK, mbkK, GbkK, BbkK⟩ := L.bkK
  obtain ⟨fbk, dbk, mbk, Gbk, Bbk⟩ := L.bk
  obtain ⟨ffmK, dfmK, ufmK, mfmK, GfmK, BfmK⟩ := L.fmK
  obtain ⟨ffm, dfm, mfm, Gfm, Bfm⟩ := L.fm
  obtain ⟨fupK, dupK, uupK, mupK, GupK, BupK⟩ := L.upK
  obtain ⟨fup, dup, mup, Gup, Bup⟩ := L.up
  obtain ⟨floK, dloK, uloK, mloK, GloK, BloK⟩ := L.loK
  obtain ⟨flo, dlo, mlo, Glo, Blo⟩ := L.lo
  obtain ⟨fulK, dulK, uulK, mulK, GulK, BulK⟩ := L.ulK
  obtain ⟨ful, dul, mul, Gul, Bul⟩ := L.ul
  obtain ⟨fllK, dllK, ullK, mllK, GllK, BllK⟩ := L.llK
  obtain ⟨fll, dll, mll, Gll, Bll⟩ := L.ll
  obtain ⟨fakK, dakK, uakK, makK, GakK, BakK⟩ := L.akK
  obtain ⟨fak, dak, mak, Gak, Bak⟩ := L.ak
  obtain ⟨fdnK, ddnK, udnK, mdnK, GdnK, BdnK⟩ := L.dnK
  obtain ⟨fdn, ddn, mdn, Gdn, Bdn⟩ := L.dn
  obtain ⟨ftdK, dtdK, utdK, mtdK, GtdK, BtdK⟩ := L.tdK
  obtain ⟨ftd, dtd, mtd, Gtd, Btd⟩ := L.td
  obtain ⟨pD, gD, fdD, PD, GD, bD⟩ := L.gDiv
  obtain ⟨pP, gP, fdP, PP, GP, bP⟩ := L.gPlus
  obtain ⟨pL, gL, fdL, PL, GL, bL⟩ := L.gLow
  obtain ⟨pH, gH, fdH, PH, GH, bH⟩ := L.gHigh
  have TR := L.G.L.I.R.G.T
  have TM := L.T
  refine F.ok scMR (fun vs H Q E h => ?_) (fun cdv A outer s0 H vs Q E hr h => ?_)
  · obtain ⟨s, g, o, sp, p, d, e, u, lo, hi, v, l2, h2, q, r, z, y, b, rfl, _⟩ := h
    rfl
  · obtain ⟨s, g, o, sp, p, d, e, u, lo, hi, v, l2, h2, q, r, z, y, b, rfl, hs, hg, ho, hc, hp, su, slo, shi, sv, sl2, sh2, sq, sr, sz, sy, sd, se, sd1, k⟩ := h
    refine ⟨_, pss_cons (ps_if (PW.pt (pw_or (pt_cmpR (op_neO oE GE (hr.mono (by decide)) pass0) (pe_methN0 (pv 0) TM.cl matK GatK (hr.mono (by decide)) BatK pass0 (pk_cons (pv 4) pk_nil)) (pe_meth (pv 0) TM.cl mat Gat (hr.mono (by decide)) Bat .nil pass0 (pa_cons (pv 4) pa_nil)) (nomark _)) (pw_or1 (pt_cmpR (op_neO oQ GQ (hr.mono (by decide)) pass0) (pe_methN0 (pv 0) TM.cl mthK GthK (hr.mono (by decide)) BthK pass0 (pk_cons (pv 2) pk_nil)) (pe_meth (pv 0) TM.cl mth Gth (hr.mono (by decide)) Bth .nil pass0 (pa_cons (pv 2) pa_nil)) (nomark _))))) (pss_one (ps_ret pe_bl)) pss_nil)
      (pss_cons (ps_if (PW.pt (pw_or (pt_cmpR (op_neT monB_th (eqB_th oE GE) (hr.mono (by decide))) (pe_methN0 (pv 0) TM.cl mbkK GbkK (hr.mono (by decide)) BbkK pass0 (pk_cons (pv 1) (pk_cons (pv 3) pk_nil))) (pe_meth (pv 0) TM.cl mbk Gbk (hr.mono (by decide)) Bbk .nil pass0 (pa_cons (pv 3) (pa_cons (pv 1) pa_nil))) (nomark _)) (pw_or1 (pt_cmpR (op_neT monB_th (eqB_th oE GE) (hr.mono (by decide))) (pe_methN0 (pv 0) TM.cl mfmK GfmK (hr.mono (by decide)) BfmK pass0 (pk_cons (pv 1) pk_nil)) (pe_meth (pv 0) TM.cl mfm Gfm (hr.mono (by decide)) Bfm .nil pass0 (pa_cons (pv 1) pa_nil)) (nomark _))))) (pss_one (ps_ret pe_bl)) pss_nil)
      (pss_cons (ps_if (PW.pt (pw_or (pt_cmpR (op_neT monB_th (eqB_th oE GE) (hr.mono (by decide))) (pe_methN0 (pv 0) TM.cl mupK GupK (hr.mono (by decide)) BupK pass0 (pk_cons (pv 3) pk_nil)) (pe_meth (pv 0) TM.cl mup Gup (hr.mono (by decide)) Bup .nil pass0 (pa_cons (pv 3) pa_nil)) (nomark _)) (pw_or1 (pt_cmpR (op_neT monB_th (eqB_th oE GE) (hr.mono (by decide))) (pe_methN0 (pv 0) TM.cl mloK GloK (hr.mono (by decide)) BloK pass0 (pk_cons (pv 3) pk_nil)) (pe_meth (pv 0) TM.cl mlo Glo (hr.mono (by decide)) Blo .nil pass0 (pa_cons (pv 3) pa_nil)) (nomark _))))) (pss_one (ps_ret pe_bl)) pss_nil)
      (pss_cons (ps_if (PW.pt (pw_or (pt_cmpR (op_neT monB_th (eqB_th oE GE) (hr.mono (by decide))) (pe_methN0 (pv 0) TM.cl mulK GulK (hr.mono (by decide)) BulK pass0 (pk_cons (pv 3) pk_nil)) (pe_meth (pv 0) TM.cl mul Gul (hr.mono (by decide)) Bul .nil pass0 (pa_cons (pv 3) pa_nil)) (nomark _)) (pw_or1 (pt_cmpR (op_neT monB_th (eqB_th oE GE) (hr.mono (by decide))) (pe_methN0 (pv 0) TM.cl mllK GllK (hr.mono (by decide)) BllK pass0 (pk_cons (pv 3) pk_nil)) (pe_meth (pv 0) TM.cl mll Gll (hr.mono (by decide)) Bll .nil pass0 (pa_cons (pv 3) pa_nil)) (nomark _))))) (pss_one (ps_ret pe_bl)) pss_nil)
      (pss_cons (ps_if (pt_cmpR op_ne (pe_methN0 (pv 0) TM.cl makK GakK (hr.mono (by decide)) BakK pass0 (pk_cons (pv 1) (pk_cons (pv 2) pk_nil))) (pe_meth (pv 0) TM.cl mak Gak (hr.mono (by decide)) Bak .nil pass0 (pa_cons (pv 2) (pa_cons (pv 1) pa_nil))) (nomark _)) (pss_one (ps_ret pe_bl)) pss_nil)
      (pss_cons (ps_if (PW.pt (pw_or (pt_cmpR (op_neO oQ GQ (hr.mono (by decide)) pass0) (pe_methN0 (pv 0) TM.cl mdnK GdnK (hr.mono (by decide)) BdnK pass0 (pk_cons pe_int pk_nil)) (pe_meth (pv 0) TM.cl mdn Gdn (hr.mono (by decide)) Bdn .nil pass0 (pa_cons pe_int pa_nil)) (nomark _)) (pw_or1 (pt_cmpR (op_neT monB_th (eqB_th oE GE) (hr.mono (by decide))) (pe_methN0 (pv 0) TM.cl mtdK GtdK (hr.mono (by decide)) BtdK pass0 (pk_cons (pv 4) pk_nil)) (pe_meth (pv 0) TM.cl mtd Gtd (hr.mono (by decide)) Btd .nil pass0 (pa_cons (pv 4) pa_nil)) (nomark _))))) (pss_one (ps_ret pe_bl)) pss_nil)
      (pss_one (ps_ret (pe_and (pe_cmpR (op_eqO oQ GQ (hr.mono (by decide)) pass0) (pv 0) (pe_meth (pv 0) TM.cl mdn Gdn (hr.mono (by decide)) Bdn .nil pass0 (pa_cons pe_int pa_nil)) (nomark _)) (pe_one (pe_cmpR (op_neO oQ GQ (hr.mono (by decide)) pass0) (pv 0) (pe_tup (pa_cons (pe_prop (pv 0) TM.cl PD GD (hr.mono (by decide)) bD .nil pass0 rfl) (pa_cons (pe_prop (pv 0) TM.cl PP GP (hr.mono (by decide)) bP .nil pass0 rfl) (pa_cons (pe_prop (pv 0) TM.cl PL GL (hr.mono (by decide)) bL .nil pass0 rfl) (pa_cons (pe_prop (pv 0) TM.cl PH GH (hr.mono (by decide)) bH .nil pass0 rfl) pa_nil))))) (nomark _))))))))))), ?_⟩
    have s1 : ∀ {n : Nat} {x : Rat}, Sz 80 x → 80 ≤ n → Sz n x := fun h j => h.mono j
    have s8 : ∀ {n : Nat} {x : Rat}, Sz 8 x → 8 ≤ n → Sz n x := fun h j => h.mono j
    obtain ⟨d1, le, ds, pa, pb, pc, es0, _⟩ := id hs
    obtain ⟨fs, es, lf⟩ : ∃ fs, H s = some (.ins (aM K) ds fs) ∧ ∀ m : Str, m ≠ "_divisor" → m ≠ "_plus" → m ≠ "_low" → m ≠ "_high" → fs.lookup m = none := by
      refine ⟨_, es0, fun m n1 n2 n3 n4 => ?_⟩
      rw [List.lookup_cons, beq_false_of_ne n1, List.lookup_cons, beq_false_of_ne n2, List.lookup_cons, beq_false_of_ne n3, List.lookup_cons, beq_false_of_ne n4]
      rfl
    have k0 : Same H H := fun _ _ e => e
    refine ⟨_, rfl, s, ds, fs, rfl, k0 _ _ es, lf _ (by decide) (by decide) (by decide) (by decide), _, rfl, rfl, s, .ref p, d, u, lo, hi, y, rfl, hs.same k0, (hp.same k0).num, (s1 su (by decide)), (s1 sy (by decide)), (s8 sd (by decide)), (s1 slo (by decide)), (s1 shi (by decide)), fun x1 H1 c1 r1 => ?_⟩
    have k1 := k0.trans c1
    refine ⟨_, rfl, s, ds, fs, rfl, k1 _ _ es, lf _ (by decide) (by decide) (by decide) (by decide), _, rfl, s, .ref p, d, u, lo, hi, y, rfl, hs.same k1, (hp.same k1).num, (s1 su (by decide)), (s1 sy (by decide)), (s8 sd (by decide)), (s1 slo (by decide)), (s1 shi (by decide)), fun x2 H2 c2 r2 => ?_⟩
    have k2 := k1.trans c2
    refine ne_ratS TR ⟨_, rfl, r1.same c2⟩ ⟨_, rfl, r2⟩ ⟨_, rfl, iteF ?_⟩
    refine ⟨_, rfl, s, ds, fs, rfl, k2 _ _ es, lf _ (by decide) (by decide) (by decide) (by decide), _, rfl, rfl, s, o, d, e, u, lo, hi, v, l2, h2, rfl, hs.same k2, ho.same k2, (s1 su (by decide)), (s1 sv (by decide)), (s1 slo (by decide)), (s1 shi (by decide)), (s1 sl2 (by decide)), (s1 sh2 (by decide)), (s8 sd (by decide)), (s8 se (by decide)), fun x3 H3 c3 r3 => ?_⟩
    have k3 := k2.trans c3
    refine ⟨_, rfl, s, ds, fs, rfl, k3 _ _ es, lf _ (by decide) (by decide) (by decide) (by decide), _, rfl, s, o, d, e, u, lo, hi, v, l2, h2, rfl, hs.same k3, ho.same k3, (s1 su (by decide)), (s1 sv (by decide)), (s1 slo (by decide)), (s1 shi (by decide)), (s1 sl2 (by decide)), (s1 sh2 (by decide)), (s8 sd (by decide)), (s8 se (by decide)), fun x4 H4 c4 r4 => ?_⟩
    have k4 := k3.trans c4
    refine ne_movS TM (r3.same c4) r4 ⟨_, rfl, iteF ?_⟩
    refine ⟨_, rfl, s, ds, fs, rfl, k4 _ _ es, lf _ (by decide) (by decide) (by decide) (by decide), _, rfl, _, rfl, rfl, s, g, .ref sp, d, u, lo, hi, q, r, z, b, rfl, hs.same k4, (hc.same k4).cut, hg.same k4, (s1 su (by decide)), (s1 slo (by decide)), (s1 shi (by decide)), (s1 sq (by decide)), (s1 sr (by decide)), (s1 sz (by decide)), (s8 sd (by decide)), fun x5 H5 c5 r5 => ?_⟩
    have k5 := k4.trans c5
    refine ⟨_, rfl, s, ds, fs, rfl, k5 _ _ es, lf _ (by decide) (by decide) (by decide) (by decide), _, rfl, _, rfl, s, g, .ref sp, d, u, lo, hi, q, r, z, b, rfl, hs.same k5, (hc.same k5).cut, hg.same k5, (s1 su (by decide)), (s1 slo (by decide)), (s1 shi (by decide)), (s1 sq (by decide)), (s1 sr (by decide)), (s1 sz (by decide)), (s8 sd (by decide)), fun x6 H6 c6 r6 => ?_⟩
    have k6 := k5.trans c6
    refine ⟨true, cuts_same (r5.same c6) r6, fun H7 c7 => ⟨_, rfl, iteF ?_⟩⟩
    have k7 := k6.trans c7
    refine ⟨_, rfl, s, ds, fs, rfl, k7 _ _ es, lf _ (by decide) (by decide) (by decide) (by decide), _, rfl, rfl, s, g, d, u, lo, hi, q, r, rfl, hs.same k7, hg.same k7, (s1 su (by decide)), (s1 slo (by decide)), (s1 shi (by decide)), (s1 sq (by decide)), (s1 sr (by decide)), (s8 sd (by decide)), fun x8 H8 c8 r8 => ?_⟩
    have k8 := k7.trans c8
    refine ⟨_, rfl, s, ds, fs, rfl, k8 _ _ es, lf _ (by decide) (by decide) (by decide) (by decide), _, rfl, s, g, d, u, lo, hi, q, r, rfl, hs.same k8, hg.same k8, (s1 su (by decide)), (s1 slo (by decide)), (s1 shi (by decide)), (s1 sq (by decide)), (s1 sr (by decide)), (s8 sd (by decide)), fun x9 H9 c9 r9 => ?_⟩
    have k9 := k8.trans c9
    refine ⟨true, forms_same (r8.same c9) r9, fun H10 c10 => ⟨_, rfl, iteF ?_⟩⟩
    have k10 := k9.trans c10
    refine ⟨_, rfl, s, ds, fs, rfl, k10 _ _ es, lf _ (by decide) (by decide) (by decide) (by decide), _, rfl, rfl, s, .ref sp, d, u, lo, hi, z, b, rfl, hs.same k10, (hc.same k10).cut, (s1 su (by decide)), (s1 sz (by decide)), (s1 slo (by decide)), (s1 shi (by decide)), (s8 sd (by decide)), fun x11 H11 c11 r11 => ?_⟩
    have k11 := k10.trans c11
    refine ⟨_, rfl, s, ds, fs, rfl, k11 _ _ es, lf _ (by decide) (by decide) (by decide) (by decide), _, rfl, s, .ref sp, d, u, lo, hi, z, b, rfl, hs.same k11, (hc.same k11).cut, (s1 su (by decide)), (s1 sz (by decide)), (s1 slo (by decide)), (s1 shi (by decide)), (s8 sd (by decide)), fun x12 H12 c12 r12 => ?_⟩
    have k12 := k11.trans c12
    refine ⟨true, cuts_same (r11.same c12) r12, fun H13 c13 => ⟨_, rfl, iteF ?_⟩⟩
    have k13 := k12.trans c13
    refine ⟨_, rfl, s, ds, fs, rfl, k13 _ _ es, lf _ (by decide) (by decide) (by decide) (by decide), _, rfl, rfl, s, .ref sp, d, u, lo, hi, z, b, rfl, hs.same k13, (hc.same k13).cut, (s1 su (by decide)), (s1 sz (by decide)), (s1 slo (by decide)), (s1 shi (by decide)), (s8 sd (by decide)), fun x14 H14 c14 r14 => ?_⟩
    have k14 := k13.trans c14
    refine ⟨_, rfl, s, ds, fs, rfl, k14 _ _ es, lf _ (by decide) (by decide) (by decide) (by decide), _, rfl, s, .ref sp, d, u, lo, hi, z, b, rfl, hs.same k14, (hc.same k14).cut, (s1 su (by decide)), (s1 sz (by decide)), (s1 slo (by decide)), (s1 shi (by decide)), (s8 sd (by decide)), fun x15 H15 c15 r15 => ?_⟩
    have k15 := k14.trans c15
    refine ⟨true, cuts_same (r14.same c15) r15, fun H16 c16 => ⟨_, rfl, iteF ?_⟩⟩
    have k16 := k15.trans c16
    refine ⟨_, rfl, s, ds, fs, rfl, k16 _ _ es, lf _ (by decide) (by decide) (by decide) (by decide), _, rfl, rfl, s, .ref sp, d, u, lo, hi, z, b, rfl, hs.same k16, (hc.same k16).cut, (s1 su (by decide)), (s1 sz (by decide)), (s1 slo (by decide)), (s1 shi (by decide)), (s8 sd (by decide)), (s8 sd1 (by decide)), fun x17 H17 c17 r17 => ?_⟩
    have k17 := k16.trans c17
    refine ⟨_, rfl, s, ds, fs, rfl, k17 _ _ es, lf _ (by decide) (by decide) (by decide) (by decide), _, rfl, s, .ref sp, d, u, lo, hi, z, b, rfl, hs.same k17, (hc.same k17).cut, (s1 su (by decide)), (s1 sz (by decide)), (s1 slo (by decide)), (s1 shi (by decide)), (s8 sd (by decide)), (s8 sd1 (by decide)), fun x18 H18 c18 r18 => ?_⟩
    have k18 := k17.trans c18
    refine ⟨true, cuts_same (r17.same c18) r18, fun H19 c19 => ⟨_, rfl, iteF ?_⟩⟩
    have k19 := k18.trans c19
    refine ⟨_, rfl, s, ds, fs, rfl, k19 _ _ es, lf _ (by decide) (by decide) (by decide) (by decide), _, rfl, rfl, s, .ref sp, d, u, lo, hi, z, b, rfl, hs.same k19, (hc.same k19).cut, (s1 su (by decide)), (s1 sz (by decide)), (s1 slo (by decide)), (s1 shi (by decide)), (s8 sd (by decide)), (s8 sd1 (by decide)), fun x20 H20 c20 r20 => ?_⟩
    have k20 := k19.trans c20
    refine ⟨_, rfl, s, ds, fs, rfl, k20 _ _ es, lf _ (by decide) (by decide) (by decide) (by decide), _, rfl, s, .ref sp, d, u, lo, hi, z, b, rfl, hs.same k20, (hc.same k20).cut, (s1 su (by decide)), (s1 sz (by decide)), (s1 slo (by decide)), (s1 shi (by decide)), (s8 sd (by decide)), (s8 sd1 (by decide)), fun x21 H21 c21 r21 => ?_⟩
    have k21 := k20.trans c21
    refine ⟨true, cuts_same (r20.same c21) r21, fun H22 c22 => ⟨_, rfl, iteF ?_⟩⟩
    have k22 := k21.trans c22
    refine ⟨_, rfl, s, ds, fs, rfl, k22 _ _ es, lf _ (by decide) (by decide) (by decide) (by decide), _, rfl, _, rfl, rfl, s, o, g, d, e, u, lo, hi, v, l2, h2, q, r, rfl, hs.same k22, ho.same k22, hg.same k22, (s1 su (by decide)), (s1 slo (by decide)), (s1 shi (by decide)), (s1 sv (by decide)), (s1 sl2 (by decide)), (s1 sh2 (by decide)), (s1 sq (by decide)), (s1 sr (by decide)), (s8 sd (by decide)), (s8 se (by decide)), fun H23 c23 => ?_⟩
    have k23 := k22.trans c23
    refine ⟨_, rfl, s, ds, fs, rfl, k23 _ _ es, lf _ (by decide) (by decide) (by decide) (by decide), _, rfl, _, rfl, s, o, g, d, e, u, lo, hi, v, l2, h2, q, r, rfl, hs.same k23, ho.same k23, hg.same k23, (s1 su (by decide)), (s1 slo (by decide)), (s1 shi (by decide)), (s1 sv (by decide)), (s1 sl2 (by decide)), (s1 sh2 (by decide)), (s1 sq (by decide)), (s1 sr (by decide)), (s8 sd (by decide)), (s8 se (by decide)), fun H24 c24 => ?_⟩
    have k24 := k23.trans c24
    refine rne_refl rfl ⟨_, rfl, iteF ?_⟩
    refine ⟨_, rfl, s, ds, fs, rfl, k24 _ _ es, lf _ (by decide) (by decide) (by decide) (by decide), rfl, s, 3, ⟨d, u, lo, hi⟩, rfl, hs.same k24, (by decide), (by decide), sd, (s1 su (by decide)), (s1 slo (by decide)), (s1 shi (by decide)), fun x25 H25 c25 r25 => ?_⟩
    have k25 := k24.trans c25
    refine ⟨_, rfl, s, ds, fs, rfl, k25 _ _ es, lf _ (by decide) (by decide) (by decide) (by decide), s, 3, ⟨d, u, lo, hi⟩, rfl, hs.same k25, (by decide), (by decide), sd, (s1 su (by decide)), (s1 slo (by decide)), (s1 shi (by decide)), fun x26 H26 c26 r26 => ?_⟩
    have k26 := k25.trans c26
    refine ne_movS TM (r25.same c26) r26 ⟨_, rfl, iteF ?_⟩
    refine ⟨_, rfl, s, ds, fs, rfl, k26 _ _ es, lf _ (by decide) (by decide) (by decide) (by decide), _, rfl, rfl, s, .ref p, d, u, lo, hi, y, rfl, hs.same k26, (hp.same k26).num, sd, su, slo, shi, sy, fun x27 l27' v27 H27 c27 t27 r27 w27 => ?_⟩
    have k27 := k26.trans c27
    refine ⟨_, rfl, s, ds, fs, rfl, k27 _ _ es, lf _ (by decide) (by decide) (by decide) (by decide), _, rfl, s, .ref p, d, u, lo, hi, y, rfl, hs.same k27, (hp.same k27).num, sd, su, slo, shi, sy, fun x28 l28' v28 H28 c28 t28 r28 w28 => ?_⟩
    have k28 := k27.trans c28
    obtain rfl := TendsTo.one w27 w28
    refine ⟨true, tends_same (c28 _ _ t27) t28 (r27.same c28) r28 w27.flat (tends_eqV w27), fun H29 c29 => ⟨_, rfl, iteF ?_⟩⟩
    have k29 := k28.trans c29
    refine ⟨_, rfl, ?_⟩
    refine ⟨_, rfl, s, ds, fs, rfl, k29 _ _ es, lf _ (by decide) (by decide) (by decide) (by decide), s, 1, ⟨d, u, lo, hi⟩, rfl, hs.same k29, (by decide), (by decide), sd, (s1 su (by decide)), (s1 slo (by decide)), (s1 shi (by decide)), fun x30 H30 c30 r30 => ?_⟩
    have k30 := k29.trans c30
    rw [doneQ_one le] at r30
    refine eq_movS TM (hs.same k30) r30 ⟨_, rfl, iteT ?_⟩
    refine ⟨_, rfl, _, rfl, s, ds, fs, rfl, k30 _ _ es, s, d, u, lo, hi, rfl, hs.same k30, _, rfl, s, ds, fs, rfl, k30 _ _ es, s, d, u, lo, hi, rfl, hs.same k30, fun a1 _ => ⟨_, rfl, s, ds, fs, rfl, k30 _ _ es, s, d, u, lo, hi, rfl, hs.same k30, fun a2 _ => ⟨_, rfl, s, ds, fs, rfl, k30 _ _ es, s, d, u, lo, hi, rfl, hs.same k30, fun a3 _ => ⟨by show 4 ≤ sizeLine; decide, fun t nt => ?_⟩⟩⟩⟩
    have ku : Same H30 (upd H30 t (.tup [.int d, .ref a1, .ref a2, .ref a3])) := fun b o e => by rw [upd_ne (ne_of_none e nt)]; exact e
    exact ne_movT L.farT (hs.same (k30.trans ku)) upd_same (k _ (k30.trans ku))
end
end K18
set_option maxHeartbeats 4000000
namespace K18
open PySem PySem.Spec PyProof.Rows L2 GL
abbrev sLM : Stmt := tp 49
structure LN (P : Program) (w : World) (K : PySem.W.Frag) (mg : Str → Option Value) (base : Heap) : Prop where
  M : LM P w K mg base
  seK : CmK P w K mg base (aM K) "setting" 8 ["cls", "number"] ["number"] idV (spSetting K)
  se : CmX P w K mg base (aM K) "setting" 8 (spSetting K)
  stK : CmK P w K mg base (aM K) "staying" 8 ["cls", "within"] ["within"] idV (spStaying K)
  st : CmX P w K mg base (aM K) "staying" 8 (spStaying K)
  adK : CmK P w K mg base (aM K) "adding" 8 ["cls", "number", "within"] ["within", "number"] revV (spAdding K)
  ad : CmX P w K mg base (aM K) "adding" 8 (spAdding K)
  diK : CmK P w K mg base (aM K) "dividing" 8 ["cls", "divisor", "within"] ["within", "divisor"] revV (spDividing K)
  di : CmX P w K mg base (aM K) "dividing" 8 (spDividing K)
section
variable {P : Program} {w : World} {K : PySem.W.Frag} {mg : Str → Option Value} {base : Heap}
def spLM (K : PySem.W.Frag) : Sp := fun vs H Q _ => ∃ (g p : Addr) (d : Int) (q r y : Rat), vs = [.ref g, .int d, .ref p] ∧ RngAt K H g q r ∧ 1 ≤ d ∧ RatAt K H p y ∧ Sz 80 q ∧ Sz 80 r ∧ Sz 80 y ∧ ∀ H', Same H H' → Q (.bl true) H'
theorem scLM : FnScope ["_law_held", "_law_by", "_law_part"] ["_law_held", "_law_by", "_law_part"] (defScope sLM) := ⟨rfl, rfl, rfl, by decide +kernel, rfl, by decide +kernel, by decide +kernel⟩
theorem ok_lm {f : Addr} {fd : FuncData} (F : Fun K "_law_class_methods_right" "_law_class_methods_right" sLM f fd) (L : LN P w K mg base) : FnOk P w K mg base CX0 9 f fd ["_law_held", "_law_by", "_law_part"] (spLM K) := by
  obtain ⟨fQ, oQ, GQ⟩ := L.M.eqM
  obtain ⟨mc1, p1, f1, d1, u1, cr1, cm1, G1, B1⟩ := L.seK
  obtain ⟨nc1, q1, e1, dr1, dm1, J1⟩ := L.se
  obtain ⟨mc2, p2, f2, d2, u2, cr2, cm2, G2, B2⟩ := L.stK
  obtain ⟨nc2, q2, e2, dr2, dm2, J2⟩ := L.st
  obtain ⟨mc3, p3, f3, d3, u3, cr3, cm3, G3, B3⟩ := L.adK
  obtain ⟨nc3, q3, e3, dr3, dm3, J3⟩ := L.ad
  obtain ⟨mc4, p4, f4, d4, u4, cr4, cm4, G4, B4⟩ := L.diK
  obtain ⟨nc4, q4, e4, dr4, dm4, J4⟩ := L.di
  have TM := L.M.T
  refine F.ok scLM (fun vs H Q E h => ?_) (fun cdv A outer s H vs Q E hr h => ?_)
  · obtain ⟨g, p, d, q, r, y, rfl, _⟩ := h
    rfl
  · obtain ⟨g, p, d, q, r, y, rfl, hg, d1', hp, sq, sr, sy, k⟩ := h
    have s1 : ∀ {n : Nat} {x : Rat}, Sz 80 x → 80 ≤ n → Sz n x := fun h j => h.mono j
    refine ⟨_, pss_cons (ps_if (PW.pt (pw_or (pt_cmpR (op_neO oQ GQ (hr.mono (by decide)) pass0) (pe_cmethN0 (pe_glob (v := .ref (aM K)) rfl TM.gM rfl) cr1 cm1 G1 (hr.mono (by decide)) B1 pass0 (pk_cons (pv 2) pk_nil)) (ClX.pe_cmeth (pe_glob (v := .ref (aM K)) rfl TM.gM rfl) dr1 dm1 J1 (hr.mono (by decide)) pass0 (pa_cons (pv 2) pa_nil)) (nomark _))
          (pw_or1 (pt_cmpR (op_neO oQ GQ (hr.mono (by decide)) pass0) (pe_cmethN0 (pe_glob (v := .ref (aM K)) rfl TM.gM rfl) cr2 cm2 G2 (hr.mono (by decide)) B2 pass0 (pk_cons (pv 0) pk_nil)) (ClX.pe_cmeth (pe_glob (v := .ref (aM K)) rfl TM.gM rfl) dr2 dm2 J2 (hr.mono (by decide)) pass0 (pa_cons (pv 0) pa_nil)) (nomark _))))) (pss_one (ps_ret pe_bl)) pss_nil)
      (pss_cons (ps_if (pt_cmpR (op_neO oQ GQ (hr.mono (by decide)) pass0) (pe_cmethN0 (pe_glob (v := .ref (aM K)) rfl TM.gM rfl) cr3 cm3 G3 (hr.mono (by decide)) B3 pass0 (pk_cons (pv 0) (pk_cons (pv 2) pk_nil))) (ClX.pe_cmeth (pe_glob (v := .ref (aM K)) rfl TM.gM rfl) dr3 dm3 J3 (hr.mono (by decide)) pass0 (pa_cons (pv 2) (pa_cons (pv 0) pa_nil))) (nomark _)) (pss_one (ps_ret pe_bl)) pss_nil)
      (pss_one (ps_ret (pe_cmpR (op_eqO oQ GQ (hr.mono (by decide)) pass0) (pe_cmethN0 (pe_glob (v := .ref (aM K)) rfl TM.gM rfl) cr4 cm4 G4 (hr.mono (by decide)) B4 pass0 (pk_cons (pv 0) (pk_cons (pv 1) pk_nil))) (ClX.pe_cmeth (pe_glob (v := .ref (aM K)) rfl TM.gM rfl) dr4 dm4 J4 (hr.mono (by decide)) pass0 (pa_cons (pv 1) (pa_cons (pv 0) pa_nil))) (nomark _))))), ?_⟩
    refine ⟨rfl, _, rfl, rfl, .ref p, y, rfl, hp.num, s1 sy (by decide), fun m1 H1 k1 h1 => ?_⟩
    refine ⟨rfl, _, rfl, .ref p, y, rfl, (hp.same k1).num, s1 sy (by decide), fun m2 H2 k2 h2 => ?_⟩
    refine ne_movS TM (h1.same k2) h2 ⟨_, rfl, iteF ?_⟩
    have k02 := k1.trans k2
    refine ⟨rfl, _, rfl, rfl, g, q, r, rfl, hg.same k02, s1 sq (by decide), s1 sr (by decide), fun m3 H3 k3 h3 => ?_⟩
    have k03 := k02.trans k3
    refine ⟨rfl, _, rfl, g, q, r, rfl, hg.same k03, s1 sq (by decide), s1 sr (by decide), fun m4 H4 k4 h4 => ?_⟩
    refine ne_movS TM (h3.same k4) h4 ⟨_, rfl, iteF ?_⟩
    have k04 := k03.trans k4
    refine ⟨rfl, _, rfl, _, rfl, rfl, .ref p, g, y, q, r, rfl, (hp.same k04).num, hg.same k04, s1 sq (by decide), s1 sr (by decide), fun m5 H5 k5 h5 => ?_⟩
    have k05 := k04.trans k5
    refine ⟨rfl, _, rfl, _, rfl, .ref p, g, y, q, r, rfl, (hp.same k05).num, hg.same k05, s1 sq (by decide), s1 sr (by decide), fun m6 H6 k6 h6 => ?_⟩
    refine ne_movS TM (h5.same k6) h6 ⟨_, rfl, iteF ?_⟩
    have k06 := k05.trans k6
    refine ⟨rfl, _, rfl, _, rfl, rfl, d, g, q, r, rfl, d1', hg.same k06, s1 sq (by decide), s1 sr (by decide), fun m7 H7 k7 h7 => ?_⟩
    have k07 := k06.trans k7
    refine ⟨rfl, _, rfl, _, rfl, d, g, q, r, rfl, d1', hg.same k07, s1 sq (by decide), s1 sr (by decide), fun m8 H8 k8 h8 => ?_⟩
    exact eq_movS TM (h7.same k8) h8 (k _ (k07.trans k8))
end
end K18
set_option maxHeartbeats 4000000
namespace K18
open PySem PySem.Spec PyProof.Rows L2 GL
abbrev sLR : Stmt := tp 50
/-! ### what a drawing leaves: all but its own list -/
section
variable {K : PySem.W.Frag} {H H' : Hp} {p : Addr}
theorem Same.offs (k : Same H H') : Same (off H p) (off H' p) := fun a o e => by
  rw [off_ne (off_some e).1]
  exact k _ _ (off_some e).2
theorem Rng.at_off {a : Addr} {o : HO} (R : Rng H p) (e : H a = some o) (n : ∀ xs, o ≠ .lst xs) : off H p a = some o := by
  obtain ⟨x, y, ep, _⟩ := R
  exact off_of ep e (n _)
theorem RatAt.offR {a : Addr} {q : Rat} (h : RatAt K H a q) (R : Rng H p) : RatAt K (GL.off H p) a q := by
  obtain ⟨d, e⟩ := h
  exact ⟨d, R.at_off e fun _ z => nomatch z⟩
theorem CutR.offR {c : Addr} {q : Rat} {b : Bool} (h : CutR K H c q b) (R : Rng H p) : CutR K (GL.off H p) c q b := by
  obtain ⟨a, e, ha⟩ := h
  exact ⟨a, R.at_off e (fun _ z => nomatch z), ha.offR R⟩
theorem RngAt.offR {g : Addr} {q r : Rat} (h : RngAt K H g q r) (R : Rng H p) : RngAt K (GL.off H p) g q r := by
  obtain ⟨l, d, a, b, e, ha, hb⟩ := h
  exact ⟨l, d, a, b, R.at_off e (fun _ z => nomatch z), ha.offR R, hb.offR R⟩
theorem MovAt.offR {s : Addr} {d : Int} {u lo hi : Rat} (h : MovAt K H s d u lo hi) (R : Rng H p) : MovAt K (GL.off H p) s d u lo hi := by
  obtain ⟨l, m, dx, a, b, c, e, ha, hb, hc⟩ := h
  exact ⟨l, m, dx, a, b, c, R.at_off e (fun _ z => nomatch z), ha.offR R, hb.offR R, hc.offR R⟩
theorem made_movR {R : VK} {E : XK} {x dx : Addr} {d : Int} {y z v : V} {u q r : Rat} (hx : H x = none) (hd : H dx = none) (ne : dx ≠ x) (d1 : 1 ≤ d) (hu : NumAt K H y u) (hq : NumAt K H z q) (hr : NumAt K H v r) (sq : Sz 100000 q) (sr : Sz 100000 r) (le : rBelow r q = false)
    (k : ∀ H', Same H H' → MovAt K H' x d u q r → R .non H') :
    spMInit K [.ref x, .int d, y, z, v] (upd (upd H dx (.own x)) x (.ins (aM K) dx [])) R E := by
  have up : Same H (upd (upd H dx (.own x)) x (.ins (aM K) dx [])) := fun b o e => by rw [upd_ne (ne_of_none e hx), upd_ne (ne_of_none e hd)]; exact e
  exact ⟨x, dx, d, y, z, v, u, q, r, rfl, upd_same, d1, hu.same up, hq.same up, hr.same up, sq, sr, le, fun H' kp e => k H' (fun c o ec => kp c o (ne_of_none ec hx) (up _ _ ec)) e⟩
theorem mixed_same {o1 o2 c1 c3 : Addr} {d : Int} {q : Rat} (h1 : H o1 = some (.lst [.int d, .ref c1])) (h2 : H o2 = some (.lst [.int d, .ref c3])) (a1 : RatAt K H c1 q) (a3 : RatAt K H c3 q) :
    LstB (ThB K) (.ref o1) (.ref o2) true H := by
  refine ⟨o1, o2, _, _, fun _ => true, rfl, rfl, h1, h2, rfl, ?_, allB_true.symm⟩
  intro i x y _ e1 e2
  match i with
  | 0 => cases e1; cases e2; exact .inl ⟨rfl, rfl, eqV_int.symm⟩
  | 1 => cases e1; cases e2; exact .inr ⟨_, _, _, _, rfl, rfl, a1, a3, (decide_eq_true rfl).symm⟩
end
structure LL (P : Program) (w : World) (K : PySem.W.Frag) (mg : Str → Option Value) (base : Heap) : Prop where
  N : LN P w K mg base
  D : DA P w K mg base
  thing : DefF P w K mg base "_law_thing" 4 ["_law_rng_here"] (spThing K)
  rr : DefF P w K mg base "_law_ratios_right" 6 ["_law_first", "_law_second", "_law_top_part", "_law_bottom_part"] (spRR K)
  cr : DefF P w K mg base "_law_cuts_right" 10 ["_law_first", "_law_second", "_law_flags"] (spCR K)
  gr : DefF P w K mg base "_law_ranges_right" 10 ["_law_first", "_law_second", "_law_flags"] (spGR K)
  mr : DefF P w K mg base "_law_moves_right" 11 ["_law_made", "_law_held", "_law_further", "_law_spot", "_law_part"] (spMR K)
  lm : DefF P w K mg base "_law_class_methods_right" 9 ["_law_held", "_law_by", "_law_part"] (spLM K)
  mM : ∃ f fd, Mk K (aM K) f ∧ FnOk P w K mg base CX0 6 f fd ["self", "divisor", "plus", "low", "high"] (spMInit K) ∧ Binds K fd ["self", "divisor", "plus", "low", "high"] []
  kM : MkK P w K mg base (aM K) 6 ["self", "divisor", "plus", "low", "high"] ["high", "low", "plus", "divisor"] revV (spMInit K)
section
variable {P : Program} {w : World} {K : PySem.W.Frag} {mg : Str → Option Value} {base : Heap}
def spRight (K : PySem.W.Frag) : Sp := fun vs H Q _ => ∃ p : Addr, vs = [.ref p] ∧ Rng H p ∧ ∀ H', Same (off H p) H' → Q (.bl true) H'
theorem scLR : FnScope ["_law_rng_here", "_law_first", "_law_second", "_law_flags", "_law_bottom_part", "_law_by", "_law_least", "_law_most", "_law_made", "_law_held", "_law_further", "_law_spot", "_law_turn"] ["_law_rng_here"] (defScope sLR) := ⟨rfl, rfl, rfl, by decide +kernel, rfl, by decide +kernel, by decide +kernel⟩
theorem ok_lr {f : Addr} {fd : FuncData} (F : Fun K "_law_right" "_law_right" sLR f fd) (L : LL P w K mg base) : FnOk P w K mg base CX0 12 f fd ["_law_rng_here"] (spRight K) := by
  obtain ⟨fE, oE, GE⟩ := L.N.M.G.L.I.eq
  obtain ⟨fQ, oQ, GQ⟩ := L.N.M.eqM
  obtain ⟨fB, dB, mB, GB, BB⟩ := L.N.M.G.L.blX
  obtain ⟨fG, dG, MG, GG, BG⟩ := L.N.M.G.mG
  obtain ⟨fM, dM, MM, GM, BM⟩ := L.mM
  obtain ⟨fK, dK, uK, MK, GK, BK⟩ := L.kM
  obtain ⟨fD, fdD, GD, gD, bD, kD⟩ := L.D.draw
  obtain ⟨fC, fdC, GC, gC, bC, kC⟩ := L.D.choice
  obtain ⟨fT, fdT, GT, gT, bT, kT⟩ := L.thing
  obtain ⟨f1, fd1, G1, g1, b1, k1⟩ := L.rr
  obtain ⟨f2, fd2, G2, g2, b2, k2⟩ := L.cr
  obtain ⟨f3, fd3, G3, g3, b3, k3⟩ := L.gr
  obtain ⟨f4, fd4, G4, g4, b4, k4⟩ := L.mr
  obtain ⟨f5, fd5, G5, g5, b5, k5⟩ := L.lm
  obtain ⟨pD, hD, fdD', PD, HD, cD⟩ := L.N.M.gDiv
  obtain ⟨pP, hP, fdP, PP, HP, cP⟩ := L.N.M.gPlus
  obtain ⟨pL, hL, fdL, PL, HL, cL⟩ := L.N.M.gLow
  obtain ⟨pH, hH, fdH, PH, HH, cH⟩ := L.N.M.gHigh
  have TR := L.N.M.G.L.I.R.G.T
  have TG := L.N.M.G.T
  have TM := L.N.M.T
  refine F.ok scLR (fun vs H Q E h => ?_) (fun cdv A outer s0 H vs Q E hr h => ?_)
  · obtain ⟨p, rfl, _⟩ := h
    rfl
  · obtain ⟨p, rfl, R, k⟩ := h
    refine ⟨_, pss_cons (ps_par (i := 1) (j := 2) (by rfl) scLR.nd rfl rfl (by decide) rfl rfl (pa_cons (pe_call GT (hr.mono (by decide)) rfl gT kT bT .nil pass0 (pa_cons (pv 0) pa_nil)) (pa_cons (pe_call GT (hr.mono (by decide)) rfl gT kT bT .nil pass0 (pa_cons (pv 0) pa_nil)) pa_nil)) (by rfl))
      (pss_cons (ps_set (i := 3) scLR.nd rfl (Or.inl rfl) (pe_lst (pa_cons (pe_cmpR op_eq (pe_call GD (hr.mono (by decide)) rfl gD kD bD .nil pass0 (pa_cons (pv 0) (pa_cons pe_int pa_nil))) pe_int (nomark _)) (pa_cons (pe_cmpR op_eq (pe_call GD (hr.mono (by decide)) rfl gD kD bD .nil pass0 (pa_cons (pv 0) (pa_cons pe_int pa_nil))) pe_int (nomark _)) pa_nil))))
      (pss_cons (ps_set (i := 4) scLR.nd rfl (Or.inl rfl) (pe_call GC (hr.mono (by decide)) rfl gC kC bC .nil pass0 (pa_cons (pv 0) (pa_cons (pe_lst (pa_cons pe_int (pa_cons pe_int (pa_cons (pe_un un_neg pe_int) (pa_cons (pe_op op_pow pe_int pe_int) pa_nil))))) pa_nil))))
      (pss_cons (ps_if (pt_not (pt_val (pe_call G1 (hr.mono (by decide)) rfl g1 k1 b1 .nil pass0 (pa_cons (pv 1) (pa_cons (pv 2) (pa_cons (pe_op op_sub (pe_call GD (hr.mono (by decide)) rfl gD kD bD .nil pass0 (pa_cons (pv 0) (pa_cons pe_int pa_nil))) pe_int) (pa_cons (pv 4) pa_nil))))))) (pss_one (ps_ret pe_bl)) pss_nil)
      (pss_cons (ps_if (PW.pt (pw_or (pt_not (pt_val (pe_call G2 (hr.mono (by decide)) rfl g2 k2 b2 .nil pass0 (pa_cons (pv 1) (pa_cons (pv 2) (pa_cons (pv 3) pa_nil)))))) (pw_or1 (pt_not (pt_val (pe_call G3 (hr.mono (by decide)) rfl g3 k3 b3 .nil pass0 (pa_cons (pv 1) (pa_cons (pv 2) (pa_cons (pv 3) pa_nil))))))))) (pss_one (ps_ret pe_bl)) pss_nil)
      (pss_cons (ps_par3 (i := 5) (j := 6) (l := 7) (by rfl) scLR.nd rfl rfl rfl (by decide) (by decide) (by decide) rfl rfl rfl (pa_cons (pe_op op_add pe_int (pe_call GD (hr.mono (by decide)) rfl gD kD bD .nil pass0 (pa_cons (pv 0) (pa_cons pe_int pa_nil)))) (pa_cons (pv 1) (pa_cons (pv 2) pa_nil))) (by rfl))
      (pss_cons (ps_if (pt_val (pe_meth (pv 2) TR.cl mB GB (hr.mono (by decide)) BB .nil pass0 (pa_cons (pv 1) pa_nil))) (pss_one (ps_par (i := 6) (j := 7) (by rfl) scLR.nd rfl rfl (by decide) rfl rfl (pa_cons (pv 2) (pa_cons (pv 1) pa_nil)) (by rfl))) pss_nil)
      (pss_cons (ps_par (i := 8) (j := 9) (by rfl) scLR.nd rfl rfl (by decide) rfl rfl (pa_cons (pe_makeK0 MK GK (hr.mono (by decide)) rfl TM.gM BK pass0 (pk_cons (pv 7) (pk_cons (pv 6) (pk_cons (pv 2) (pk_cons (pv 5) pk_nil))))) (pa_cons (pe_make MG GG (hr.mono (by decide)) rfl TG.gG BG .nil pass0 (pa_cons (pv 6) (pa_cons (pv 7) pa_nil))) pa_nil)) (by rfl))
      (pss_cons (ps_if (PW.pt (pw_or (pt_cmpR (op_neO oQ GQ (hr.mono (by decide)) pass0) (pv 8) (pe_make MM GM (hr.mono (by decide)) rfl TM.gM BM .nil pass0 (pa_cons (pv 5) (pa_cons (pv 2) (pa_cons (pv 6) (pa_cons (pv 7) pa_nil))))) (nomark _)) (pw_or1 (pt_cmpR (op_neL monB_th (eqB_th oE GE) (hr.mono (by decide))) (pe_lst (pa_cons (pe_prop (pv 8) TM.cl PD HD (hr.mono (by decide)) cD .nil pass0 rfl) (pa_cons (pe_prop (pv 8) TM.cl PP HP (hr.mono (by decide)) cP .nil pass0 rfl) pa_nil))) (pe_lst (pa_cons (pv 5) (pa_cons (pv 2) pa_nil))) (nomark _))))) (pss_one (ps_ret pe_bl)) pss_nil)
      (pss_cons (ps_if (pt_cmpR (op_neL monB_rat (eqB_rat oE GE) (hr.mono (by decide))) (pe_lst (pa_cons (pe_prop (pv 8) TM.cl PL HL (hr.mono (by decide)) cL .nil pass0 rfl) (pa_cons (pe_prop (pv 8) TM.cl PH HH (hr.mono (by decide)) cH .nil pass0 rfl) pa_nil))) (pe_lst (pa_cons (pv 6) (pa_cons (pv 7) pa_nil))) (nomark _)) (pss_one (ps_ret pe_bl)) pss_nil)
      (pss_cons (ps_par (i := 10) (j := 11) (by rfl) scLR.nd rfl rfl (by decide) rfl rfl (pa_cons (pe_make MM GM (hr.mono (by decide)) rfl TM.gM BM .nil pass0 (pa_cons pe_int (pa_cons (pv 1) (pa_cons (pv 6) (pa_cons (pv 7) pa_nil))))) (pa_cons (pe_tup (pa_cons (pv 2) (pa_cons (pe_ix ix_list (pv 3) pe_int (fun _ _ => rfl)) pa_nil))) pa_nil)) (by rfl))
      (pss_cons (ps_for PassesOwn.never rfl (pi_range1 rfl L.D.F.range (pa_cons pe_int pa_nil)) (pg_name (i := 12) scLR.nd rfl (Or.inl rfl)) (pss_one (ps_if (pt_not (pt_val (pe_call G4 (hr.mono (by decide)) rfl g4 k4 b4 .nil pass0 (pa_cons (pv 8) (pa_cons (pv 9) (pa_cons (pv 10) (pa_cons (pv 11) (pa_cons (pe_call GT (hr.mono (by decide)) rfl gT kT bT .nil pass0 (pa_cons (pv 0) pa_nil)) pa_nil)))))))) (pss_one (ps_ret pe_bl)) pss_nil)))
      (pss_one (ps_ret (pe_call G5 (hr.mono (by decide)) rfl g5 k5 b5 .nil pass0 (pa_cons (pv 9) (pa_cons (pv 5) (pa_cons (pv 1) pa_nil))))))))))))))))), ?_⟩
    -- READ
    have s1 : ∀ {n : Nat} {x : Rat}, Sz 80 x → 80 ≤ n → Sz n x := fun h j => h.mono j
    have s8 : ∀ {n : Nat} {x : Rat}, Sz 8 x → 8 ≤ n → Sz n x := fun h j => h.mono j
    have le_ : ∀ {H0 : Hp}, Same (off H0 p) H0 := off_le
    refine ⟨_, rfl, p, rfl, R, fun a q H1 e1 R1 ha sq => ⟨_, rfl, p, rfl, R1, fun b r H2 e2 R2 hb sr => ⟨_, _, rfl, ?_⟩⟩⟩
    have o2 : Same (off H p) (off H2 p) := (off_same e1).trans (off_same e2)
    have ha2 : RatAt K (off H2 p) a q := (ha.offR R1).same (off_same e2)
    have hb2 : RatAt K (off H2 p) b r := hb.offR R2
    -- the flags
    refine ⟨_, rfl, p, _, rfl, R2, (by decide), (by decide), fun n1 H3 _ _ e3 R3 => ⟨rfl, _, rfl, p, _, rfl, R3, (by decide), (by decide), fun n2 H4 _ _ e4 R4 => ⟨rfl, (by show 2 ≤ sizeLine; decide), fun l nl => ?_⟩⟩⟩
    have o4 : Same (off H2 p) (off H4 p) := (off_same (off_kp e3)).trans (off_same (off_kp e4))
    obtain ⟨f, hf⟩ : ∃ f, decide (V.int n1 = V.int 1) = f := ⟨_, rfl⟩
    obtain ⟨g, hg⟩ : ∃ g, decide (V.int n2 = V.int 1) = g := ⟨_, rfl⟩
    rw [hf, hg]
    have lp : l ≠ p := by
      obtain ⟨x, y, ep, _⟩ := id R4
      rintro rfl
      rw [nl] at ep
      cases ep
    have up5 : Same H4 (upd H4 l (.lst [.bl f, .bl g])) := fun b o e => by rw [upd_ne (ne_of_none e nl)]; exact e
    have hl5 : (upd H4 l (.lst [.bl f, .bl g])) l = some (.lst [.bl f, .bl g]) := upd_same
    generalize upd H4 l (.lst [.bl f, .bl g]) = H5 at up5 hl5 ⊢
    have R5 := R4.same up5
    have o5 : Same (off H2 p) (off H5 p) := o4.trans (Same.offs up5)
    have fl5 : off H5 p l = some (.lst [.bl f, .bl g]) := by rw [off_ne lp]; exact hl5
    -- the bottom
    refine ⟨_, rfl, _, rfl, _, _, rfl, rfl, ⟨by decide, by decide, by decide⟩, (by show 4 ≤ sizeLine; decide), fun l2 nl2 => ?_⟩
    have lp2 : l2 ≠ p := by
      obtain ⟨x, y, ep, _⟩ := id R5
      rintro rfl
      rw [nl2] at ep
      cases ep
    have up6 : ∀ {xs : List V}, Same H5 (upd H5 l2 (.lst xs)) := fun b o e => by rw [upd_ne (ne_of_none e nl2)]; exact e
    refine ⟨p, l2, _, rfl, R5.same up6, upd_same, lp2, (by show 0 < 4; decide), (by show 4 < 1000; decide), fun v H6 hv e6 R6 => ?_⟩
    have o6 : Same (off H2 p) (off H6 p) := o5.trans ((Same.offs up6).trans (off_same (off_kp e6)))
    have fl6 : off H6 p l = some (.lst [.bl f, .bl g]) := ((Same.offs up6).trans (off_same (off_kp e6))) _ _ fl5
    simp only [List.mem_cons, List.not_mem_nil, or_false] at hv
    obtain ⟨m, rfl, m0, mz⟩ : ∃ m : Int, v = .int m ∧ m ≠ 0 ∧ m.natAbs < 2 ^ 80 := by
      rcases hv with rfl | rfl | rfl | rfl
      · exact ⟨_, rfl, by decide, by decide⟩
      · exact ⟨_, rfl, by decide, by decide⟩
      · exact ⟨_, rfl, by decide, by decide⟩
      · exact ⟨_, rfl, by decide, by decide⟩
    -- ratios, cuts, ranges
    refine ⟨_, rfl, _, rfl, _, rfl, p, _, rfl, R6, (by decide), (by decide), fun n3 H7 _ _ e7 R7 => ⟨_, _, rfl, rfl, _, rfl, ?_⟩⟩
    have o7 : Same (off H2 p) (off H7 p) := o6.trans (off_same (off_kp e7))
    have fl7 : off H7 p l = some (.lst [.bl f, .bl g]) := off_same (off_kp e7) _ _ fl6
    refine ⟨a, b, _, m, q, r, rfl, (ha2.same o7).same le_, (hb2.same o7).same le_, sq, sr, m0, mz, fun H8 e8 => ⟨_, rfl, iteF ?_⟩⟩
    have o8 := o7.trans (Same.offs e8)
    have R8 := R7.same e8
    have fl8 := Same.offs e8 _ _ fl7
    refine ⟨_, rfl, _, rfl, _, rfl, a, b, l, q, r, f, g, rfl, (ha2.same o8).same le_, (hb2.same o8).same le_, sq, sr, le_ _ _ fl8, fun H9 e9 => ⟨_, rfl, iteF ?_⟩⟩
    have o9 := o8.trans (Same.offs e9)
    have R9 := R8.same e9
    have fl9 := Same.offs e9 _ _ fl8
    refine ⟨_, rfl, _, rfl, _, rfl, a, b, l, q, r, f, g, rfl, (ha2.same o9).same le_, (hb2.same o9).same le_, sq, sr, le_ _ _ fl9, fun H10 e10 => ⟨_, rfl, iteF ?_⟩⟩
    have o10 := o9.trans (Same.offs e10)
    have R10 := R9.same e10
    have fl10 := Same.offs e10 _ _ fl9
    refine ⟨_, rfl, p, _, rfl, R10, (by decide), (by decide), fun n4 H11 m0' m1' e11 R11 => ⟨_, _, rfl, rfl, _, rfl, _, rfl, V.int (1 + n4), _, _, rfl, ?_⟩⟩
    have o11 := o10.trans (off_same (off_kp e11))
    have fl11 := off_same (off_kp e11) _ _ fl10
    obtain ⟨d, hd⟩ : ∃ d : Int, 1 + n4 = d := ⟨_, rfl⟩
    rw [hd]
    have d1 : 1 ≤ d := by omega
    have d100 : d ≤ 99 := by omega
    have sd : Sz 8 (d : Rat) := int_sz (by decide) (by omega)
    have sd1 : Sz 8 ((d - 1 : Int) : Rat) := int_sz (by decide) (by omega)
    have ha11 := ha2.same o11
    have hb11 := hb2.same o11
    obtain ⟨db, eb⟩ := id (hb11.same le_)
    refine ⟨_, rfl, b, db, _, rfl, eb, rfl, _, rfl, b, .ref a, r, q, rfl, ⟨db, eb⟩, (ha11.same le_).num, s1 sr (by decide), s1 sq (by decide), fun H12 e12 => ⟨_, rfl, ?_⟩⟩
    have o12 := Same.offs (p := p) e12
    have R12 := R11.same e12
    have fl12 := o12 _ _ fl11
    have ha12 := ha11.same o12
    have hb12 := hb11.same o12
    have oo12 := (o2.trans o11).trans o12
    cases hA : rBelow r q
    · have le : rBelow r q = false := hA
      refine iteF ?_
      have h1 := ha12
      have h2 := hb12
      have z1 := sq
      have z2 := sr
      have l1 := (h1.same le_)
      have l2 := (h2.same le_)
      refine ⟨_, rfl, _, rfl, _, rfl, _, rfl, rfl, rfl, ?_⟩
      intro m1 dm1 nm1 nd1 ne1
      refine made_movR nm1 nd1 ne1 d1 (hb12.same le_).num l1.num l2.num (s1 z1 (by decide)) (s1 z2 (by decide)) le fun H13 e13 hm => ⟨rfl, ?_⟩
      refine ⟨_, rfl, _, rfl, ?_⟩
      intro g1' dg1 ng1 ngd1 nge1
      refine made_rngR ng1 ngd1 nge1 (l1.same e13).num (l2.same e13).num (s1 z1 (by decide)) (s1 z2 (by decide)) le fun H14 e14 hG => ⟨rfl, _, _, rfl, ?_⟩
      have e24 := e13.trans e14
      refine ⟨_, rfl, _, rfl, _, rfl, _, rfl, _, rfl, ?_⟩
      intro m2 dm2 nm2 nd2 ne2
      refine made_movR nm2 nd2 ne2 d1 ((hb12.same le_).same e24).num (l1.same e24).num (l2.same e24).num (s1 z1 (by decide)) (s1 z2 (by decide)) le fun H15 e15 hm2 => ⟨rfl, ?_⟩
      refine ne_movS TM (hm.same (e14.trans e15)) hm2 ⟨_, rfl, iteF ?_⟩
      have e25 := e24.trans e15
      have hm15 := hm.same (e14.trans e15)
      obtain ⟨_, _, ds, qa, qb, qc, em, _⟩ := id hm15
      refine ⟨_, rfl, m1, ds, _, rfl, em, m1, d, _, _, _, rfl, hm15, _, rfl, m1, ds, _, rfl, em, m1, d, _, _, _, rfl, hm15, fun a1 ha1 => ⟨by show 2 ≤ sizeLine; decide, fun l3 n3 => ?_⟩⟩
      have e16 : Same H15 (upd H15 l3 (.lst [.int d, .ref a1])) := fun b o e => by rw [upd_ne (ne_of_none e n3)]; exact e
      have h16 : (upd H15 l3 (.lst [.int d, .ref a1])) l3 = some (.lst [.int d, .ref a1]) := upd_same
      generalize upd H15 l3 (.lst [.int d, .ref a1]) = H16 at e16 h16 ⊢
      refine ⟨_, rfl, _, rfl, (by show 2 ≤ sizeLine; decide), fun l4 n4' => ?_⟩
      have e17 : Same H16 (upd H16 l4 (.lst [.int d, .ref b])) := fun b o e => by rw [upd_ne (ne_of_none e n4')]; exact e
      have h17 : (upd H16 l4 (.lst [.int d, .ref b])) l4 = some (.lst [.int d, .ref b]) := upd_same
      generalize upd H16 l4 (.lst [.int d, .ref b]) = H17 at e17 h17 ⊢
      refine ⟨true, mixed_same (e17 _ _ h16) h17 (ha1.same (e16.trans e17)) ((hb12.same le_).same (e25.trans (e16.trans e17))), fun H18 e18 => ⟨_, rfl, iteF ?_⟩⟩
      have e58 := (e16.trans e17).trans e18
      have e28 := e25.trans e58
      have hm18 := hm15.same e58
      have em18 := e58 _ _ em
      refine ⟨_, rfl, m1, ds, _, rfl, em18, m1, d, _, _, _, rfl, hm18, fun a2 ha2' => ⟨_, rfl, m1, ds, _, rfl, em18, m1, d, _, _, _, rfl, hm18, fun a3 ha3 => ⟨by show 2 ≤ sizeLine; decide, fun l5 n5 => ?_⟩⟩⟩
      have e19 : Same H18 (upd H18 l5 (.lst [.ref a2, .ref a3])) := fun b o e => by rw [upd_ne (ne_of_none e n5)]; exact e
      have h19 : (upd H18 l5 (.lst [.ref a2, .ref a3])) l5 = some (.lst [.ref a2, .ref a3]) := upd_same
      generalize upd H18 l5 (.lst [.ref a2, .ref a3]) = H19 at e19 h19 ⊢
      refine ⟨_, rfl, _, rfl, (by show 2 ≤ sizeLine; decide), fun l6 n6 => ?_⟩
      have e20 : Same H19 (upd H19 l6 (.lst [.ref a, .ref b])) := fun b o e => by rw [upd_ne (ne_of_none e n6)]; exact e
      have h20 : (upd H19 l6 (.lst [.ref a, .ref b])) l6 = some (.lst [.ref a, .ref b]) := upd_same
      generalize upd H19 l6 (.lst [.ref a, .ref b]) = H20 at e20 h20 ⊢
      have e80 := e19.trans e20
      refine ⟨true, rats_same (e20 _ _ h19) h20 (ha2'.same e80) (ha3.same e80) (l1.same (e28.trans e80)) (l2.same (e28.trans e80)), fun H21 e21 => ⟨_, rfl, iteF ?_⟩⟩
      have e81 := e80.trans e21
      have e221 := e28.trans e81
      -- further, spot
      refine ⟨_, rfl, _, rfl, _, rfl, ?_⟩
      intro m3 dm3 nm3 nd3 ne3
      refine made_movR (d := 2) nm3 nd3 ne3 (by decide) ((ha12.same le_).same e221).num (l1.same e221).num (l2.same e221).num (s1 z1 (by decide)) (s1 z2 (by decide)) le fun H22 e22 hm3 => ⟨rfl, ?_⟩
      have e222 := e221.trans e22
      refine ⟨_, rfl, _, rfl, l, _, _, _, rfl, rfl, SqL.of (e222 _ _ (le_ _ _ fl12)), rfl, (by show 2 ≤ sizeLine; decide), fun sp nsp => ⟨_, _, rfl, ?_⟩⟩
      have e23 : Same H22 (upd H22 sp (.tup [.ref b, .bl f])) := fun b o e => by rw [upd_ne (ne_of_none e nsp)]; exact e
      have h23 : (upd H22 sp (.tup [.ref b, .bl f])) sp = some (.tup [.ref b, .bl f]) := upd_same
      generalize upd H22 sp (.tup [.ref b, .bl f]) = H23 at e23 h23 ⊢
      have e223 := e222.trans e23
      have R23 := R12.same e223
      have o23 := Same.offs (p := p) e223
      have oo23 := oo12.trans o23
      have cs : CutR K (off H23 p) sp r f := CutR.offR ⟨b, h23, (hb12.same le_).same e223⟩ R23
      have hM : MovAt K (off H23 p) m1 d _ _ _ := (hm18.same (e81.trans (e22.trans e23))).offR R23
      have hF : MovAt K (off H23 p) m3 2 _ _ _ := (hm3.same e23).offR R23
      have hR : RngAt K (off H23 p) g1' _ _ := (hG.same (e15.trans (e58.trans (e81.trans (e22.trans e23))))).offR R23
      have hA23 := ha12.same o23
      refine ⟨2, rfl, by decide, by decide, ?_⟩
      refine for_range (n := 2) (fun i σ H' => Same (off H23 p) (off H' p) ∧ Rng H' p ∧ ∃ rv, σ = [some (.ref p), some (.ref a), some (.ref b), some (.ref l), some (.int m), some (.int d), some (.ref a), some (.ref b), some (.ref m1), some (.ref g1'), some (.ref m3), some (.ref sp), rv]) ?_ ?_ ?_
      · exact ⟨fun _ _ e => e, R23, _, rfl⟩
      · rintro i σ H' hi ⟨o', R', rv, rfl⟩
        refine ⟨_, rfl, _, rfl, _, rfl, _, rfl, _, rfl, p, rfl, R', fun t y H'' e' R'' ht sy => ?_⟩
        have o'' := o'.trans (off_same e')
        refine ⟨m1, g1', m3, sp, t, d, 2, _, _, _, _, _, _, _, _, r, y, f, rfl, (hM.same o'').same le_, (hR.same o'').same le_, (hF.same o'').same le_, (cs.same o'').same le_, ht, sr, z1, z2, sq, z1, z2, z1, z2, sr, sy, sd, (int_sz (by decide) (by decide) : Sz 8 ((2 : Int) : Rat)), sd1, fun H3' e3' => ⟨_, rfl, iteF ?_⟩⟩
        exact ⟨o''.trans (Same.offs e3'), R''.same e3', _, rfl⟩
      · rintro σ H' ⟨o', R', rv, rfl⟩
        refine ⟨_, rfl, _, rfl, _, rfl, g1', a, d, _, _, q, rfl, (hR.same o').same le_, d1, (hA23.same o').same le_, z1, z2, sq, fun Hf ef => ?_⟩
        exact k _ ((oo23.trans (o'.trans (Same.offs ef))).trans le_)
    · have le : rBelow q r = false := rBelow_not.mpr (Rat.le_of_lt (rBelow_iff.mp hA))
      refine iteT ⟨_, rfl, _, rfl, _, _, rfl, ?_⟩
      have h1 := hb12
      have h2 := ha12
      have z1 := sr
      have z2 := sq
      have l1 := (h1.same le_)
      have l2 := (h2.same le_)
      refine ⟨_, rfl, _, rfl, _, rfl, _, rfl, rfl, rfl, ?_⟩
      intro m1 dm1 nm1 nd1 ne1
      refine made_movR nm1 nd1 ne1 d1 (hb12.same le_).num l1.num l2.num (s1 z1 (by decide)) (s1 z2 (by decide)) le fun H13 e13 hm => ⟨rfl, ?_⟩
      refine ⟨_, rfl, _, rfl, ?_⟩
      intro g1' dg1 ng1 ngd1 nge1
      refine made_rngR ng1 ngd1 nge1 (l1.same e13).num (l2.same e13).num (s1 z1 (by decide)) (s1 z2 (by decide)) le fun H14 e14 hG => ⟨rfl, _, _, rfl, ?_⟩
      have e24 := e13.trans e14
      refine ⟨_, rfl, _, rfl, _, rfl, _, rfl, _, rfl, ?_⟩
      intro m2 dm2 nm2 nd2 ne2
      refine made_movR nm2 nd2 ne2 d1 ((hb12.same le_).same e24).num (l1.same e24).num (l2.same e24).num (s1 z1 (by decide)) (s1 z2 (by decide)) le fun H15 e15 hm2 => ⟨rfl, ?_⟩
      refine ne_movS TM (hm.same (e14.trans e15)) hm2 ⟨_, rfl, iteF ?_⟩
      have e25 := e24.trans e15
      have hm15 := hm.same (e14.trans e15)
      obtain ⟨_, _, ds, qa, qb, qc, em, _⟩ := id hm15
      refine ⟨_, rfl, m1, ds, _, rfl, em, m1, d, _, _, _, rfl, hm15, _, rfl, m1, ds, _, rfl, em, m1, d, _, _, _, rfl, hm15, fun a1 ha1 => ⟨by show 2 ≤ sizeLine; decide, fun l3 n3 => ?_⟩⟩
      have e16 : Same H15 (upd H15 l3 (.lst [.int d, .ref a1])) := fun b o e => by rw [upd_ne (ne_of_none e n3)]; exact e
      have h16 : (upd H15 l3 (.lst [.int d, .ref a1])) l3 = some (.lst [.int d, .ref a1]) := upd_same
      generalize upd H15 l3 (.lst [.int d, .ref a1]) = H16 at e16 h16 ⊢
      refine ⟨_, rfl, _, rfl, (by show 2 ≤ sizeLine; decide), fun l4 n4' => ?_⟩
      have e17 : Same H16 (upd H16 l4 (.lst [.int d, .ref b])) := fun b o e => by rw [upd_ne (ne_of_none e n4')]; exact e
      have h17 : (upd H16 l4 (.lst [.int d, .ref b])) l4 = some (.lst [.int d, .ref b]) := upd_same
      generalize upd H16 l4 (.lst [.int d, .ref b]) = H17 at e17 h17 ⊢
      refine ⟨true, mixed_same (e17 _ _ h16) h17 (ha1.same (e16.trans e17)) ((hb12.same le_).same (e25.trans (e16.trans e17))), fun H18 e18 => ⟨_, rfl, iteF ?_⟩⟩
      have e58 := (e16.trans e17).trans e18
      have e28 := e25.trans e58
      have hm18 := hm15.same e58
      have em18 := e58 _ _ em
      refine ⟨_, rfl, m1, ds, _, rfl, em18, m1, d, _, _, _, rfl, hm18, fun a2 ha2' => ⟨_, rfl, m1, ds, _, rfl, em18, m1, d, _, _, _, rfl, hm18, fun a3 ha3 => ⟨by show 2 ≤ sizeLine; decide, fun l5 n5 => ?_⟩⟩⟩
      have e19 : Same H18 (upd H18 l5 (.lst [.ref a2, .ref a3])) := fun b o e => by rw [upd_ne (ne_of_none e n5)]; exact e
      have h19 : (upd H18 l5 (.lst [.ref a2, .ref a3])) l5 = some (.lst [.ref a2, .ref a3]) := upd_same
      generalize upd H18 l5 (.lst [.ref a2, .ref a3]) = H19 at e19 h19 ⊢
      refine ⟨_, rfl, _, rfl, (by show 2 ≤ sizeLine; decide), fun l6 n6 => ?_⟩
      have e20 : Same H19 (upd H19 l6 (.lst [.ref b, .ref a])) := fun b o e => by rw [upd_ne (ne_of_none e n6)]; exact e
      have h20 : (upd H19 l6 (.lst [.ref b, .ref a])) l6 = some (.lst [.ref b, .ref a]) := upd_same
      generalize upd H19 l6 (.lst [.ref b, .ref a]) = H20 at e20 h20 ⊢
      have e80 := e19.trans e20
      refine ⟨true, rats_same (e20 _ _ h19) h20 (ha2'.same e80) (ha3.same e80) (l1.same (e28.trans e80)) (l2.same (e28.trans e80)), fun H21 e21 => ⟨_, rfl, iteF ?_⟩⟩
      have e81 := e80.trans e21
      have e221 := e28.trans e81
      -- further, spot
      refine ⟨_, rfl, _, rfl, _, rfl, ?_⟩
      intro m3 dm3 nm3 nd3 ne3
      refine made_movR (d := 2) nm3 nd3 ne3 (by decide) ((ha12.same le_).same e221).num (l1.same e221).num (l2.same e221).num (s1 z1 (by decide)) (s1 z2 (by decide)) le fun H22 e22 hm3 => ⟨rfl, ?_⟩
      have e222 := e221.trans e22
      refine ⟨_, rfl, _, rfl, l, _, _, _, rfl, rfl, SqL.of (e222 _ _ (le_ _ _ fl12)), rfl, (by show 2 ≤ sizeLine; decide), fun sp nsp => ⟨_, _, rfl, ?_⟩⟩
      have e23 : Same H22 (upd H22 sp (.tup [.ref b, .bl f])) := fun b o e => by rw [upd_ne (ne_of_none e nsp)]; exact e
      have h23 : (upd H22 sp (.tup [.ref b, .bl f])) sp = some (.tup [.ref b, .bl f]) := upd_same
      generalize upd H22 sp (.tup [.ref b, .bl f]) = H23 at e23 h23 ⊢
      have e223 := e222.trans e23
      have R23 := R12.same e223
      have o23 := Same.offs (p := p) e223
      have oo23 := oo12.trans o23
      have cs : CutR K (off H23 p) sp r f := CutR.offR ⟨b, h23, (hb12.same le_).same e223⟩ R23
      have hM : MovAt K (off H23 p) m1 d _ _ _ := (hm18.same (e81.trans (e22.trans e23))).offR R23
      have hF : MovAt K (off H23 p) m3 2 _ _ _ := (hm3.same e23).offR R23
      have hR : RngAt K (off H23 p) g1' _ _ := (hG.same (e15.trans (e58.trans (e81.trans (e22.trans e23))))).offR R23
      have hA23 := ha12.same o23
      refine ⟨2, rfl, by decide, by decide, ?_⟩
      refine for_range (n := 2) (fun i σ H' => Same (off H23 p) (off H' p) ∧ Rng H' p ∧ ∃ rv, σ = [some (.ref p), some (.ref a), some (.ref b), some (.ref l), some (.int m), some (.int d), some (.ref b), some (.ref a), some (.ref m1), some (.ref g1'), some (.ref m3), some (.ref sp), rv]) ?_ ?_ ?_
      · exact ⟨fun _ _ e => e, R23, _, rfl⟩
      · rintro i σ H' hi ⟨o', R', rv, rfl⟩
        refine ⟨_, rfl, _, rfl, _, rfl, _, rfl, _, rfl, p, rfl, R', fun t y H'' e' R'' ht sy => ?_⟩
        have o'' := o'.trans (off_same e')
        refine ⟨m1, g1', m3, sp, t, d, 2, _, _, _, _, _, _, _, _, r, y, f, rfl, (hM.same o'').same le_, (hR.same o'').same le_, (hF.same o'').same le_, (cs.same o'').same le_, ht, sr, z1, z2, sq, z1, z2, z1, z2, sr, sy, sd, (int_sz (by decide) (by decide) : Sz 8 ((2 : Int) : Rat)), sd1, fun H3' e3' => ⟨_, rfl, iteF ?_⟩⟩
        exact ⟨o''.trans (Same.offs e3'), R''.same e3', _, rfl⟩
      · rintro σ H' ⟨o', R', rv, rfl⟩
        refine ⟨_, rfl, _, rfl, _, rfl, g1', a, d, _, _, q, rfl, (hR.same o').same le_, d1, (hA23.same o').same le_, z1, z2, sq, fun Hf ef => ?_⟩
        exact k _ ((oo23.trans (o'.trans (Same.offs ef))).trans le_)
end
end K18
set_option maxHeartbeats 4000000
namespace K18
open PySem PySem.Spec PyProof.Rows L2 GL
abbrev sLaw : Stmt := tp 51
section
variable {P : Program} {w : World} {K : PySem.W.Frag} {mg : Str → Option Value} {base : Heap}
def spLaw (K : PySem.W.Frag) : Sp := fun vs H Q _ => ∃ (a : Addr) (ns : List Int), vs = [.ref a] ∧ SqL K H a (ns.map V.int) ∧ ns.length ≤ 63 ∧ ∀ H', Q (.bl true) H'
theorem scLaw : FnScope ["_law_script", "_law_k"] ["_law_script"] (defScope sLaw) := ⟨rfl, rfl, rfl, by decide +kernel, rfl, by decide +kernel, by decide +kernel⟩
theorem ok_law {f fR fG : Addr} {fd fdR fdG : FuncData} (F : Fun K "law" "law" sLaw f fd) (M : Free mg)
    (GG : FnOk P w K mg base CX0 1 fG fdG ["_law_script", "_law_spot"] (spRng K)) (kG : PySem.W.keepIn K (.ref fG) = true) (gG : mg "_law_rng" = some (.ref fG)) (bG : Binds K fdG ["_law_script", "_law_spot"] [])
    (GR : FnOk P w K mg base CX0 12 fR fdR ["_law_rng_here"] (spRight K)) (kR : PySem.W.keepIn K (.ref fR) = true) (gR : mg "_law_right" = some (.ref fR)) (bR : Binds K fdR ["_law_rng_here"] []) :
    FnOk P w K mg base CX0 13 f fd ["_law_script"] (spLaw K) := by
  refine F.ok scLaw (fun vs H Q E h => ?_) (fun cdv A outer s H vs Q E hr h => ?_)
  · obtain ⟨a, ns, rfl, _⟩ := h
    rfl
  · obtain ⟨a, ns, rfl, hS, hn, k⟩ := h
    have hr1 : Room 1 _ := hr.mono (by decide)
    refine ⟨_, pss_one (ps_ret (pe_callB (cr_all rfl) (by rfl) M.all (by decide +kernel) (pa_cons (pe_lc (own := [("_law_k", 1)]) (g := gName 1) (tt := tYes) (te := tCall (spRight K) [] E0 (tCons (tCall (spRng K) [] E0 (tCons (tVar 0) (tCons (tVar 1) tNil))) tNil)) rfl scLaw.nd
      (pi_range1 (by rfl) M.range (pa_cons (pe_callB (call_max2 rfl) (by rfl) M.max (by decide +kernel) (pa_cons pe_int (pa_cons (pe_callB (call_min2 rfl) (by rfl) M.min (by decide +kernel) (pa_cons pe_int (pa_cons (pe_callB call_len_seq (by rfl) M.len PySem.boot_len (pa_cons (pv 0) pa_nil)) pa_nil))) pa_nil))) pa_nil))
      (blkOk_by (own := [("_law_k", 1)]) (N := ["_law_script", "_law_k"]) (sc := defScope sLaw) (by decide +kernel)) (fun _ _ _ _ _ => pg_name (i := 1) scLaw.nd rfl (Or.inl rfl)) (fun _ _ _ _ _ => pts_nil)
      (fun _ _ _ _ _ => by exact (pe_call GR hr rfl gR kR bR .nil pass0 (pa_cons (pe_call GG hr1 rfl gG kG bG .nil pass0 (pa_cons (pv 0) (pa_cons (pv 1) pa_nil))) pa_nil)))) pa_nil))), ?_⟩
    refine ⟨_, rfl, _, _, rfl, .inl hS, ?_⟩
    rw [List.length_map]
    have bd : ∀ z : Int, 0 ≤ z → z ≤ 63 → 0 ≤ (if (if z < 4 then z else 4) > 1 then (if z < 4 then z else 4) else 1) ∧ (if (if z < 4 then z else 4) > 1 then (if z < 4 then z else 4) else 1) ≤ 4 := by
      intro z h0 h1
      split <;> split <;> omega
    have b := bd ns.length (by omega) (by omega)
    refine ⟨_, _, rfl, _, _, rfl, _, rfl, Int.le_trans (by decide) b.1, Int.lt_of_le_of_lt b.2 (by decide), fun D hD => ?_⟩
    generalize (if (if (ns.length : Int) < 4 then (ns.length : Int) else 4) > 1 then (if (ns.length : Int) < 4 then (ns.length : Int) else 4) else 1) = z at b ⊢
    refine lc_sameR (val := fun _ => .bl true) hD (by omega) (fun _ => rfl) ?_ ?_
    · intro i H' R hi sm q
      refine ⟨_, rfl, _, rfl, a, ns, _, rfl, sm.seq hS, by omega, by omega, fun p H2 np s2 hp => ?_⟩
      exact ⟨p, rfl, hp, fun H3 kp => q H3 fun x o e => kp x o (by rw [off_ne (ne_of_none e np)]; exact s2 _ _ e)⟩
    · intro H' sm hd
      refine ⟨D, (List.range z.toNat).map fun _ => true, rfl, SqL.of (by rw [hd, List.map_map]; rfl), ?_⟩
      have e : ((List.range z.toNat).map fun _ => true).all id = true := by simp
      rw [e]
      exact k _
end
end K18
set_option maxHeartbeats 0
namespace K18
open PySem PySem.Spec PyProof.Rows L2 GL
structure HY (K : PySem.W.Frag) (h : Heap) (mg : Str → Option Value) : Prop where
  X : K.In h
  G : h.Ns mainGlobals mg
  D : He.SaysD fas fns K
  Dx : SaysX fxs K
  B : (chks K).all id = true
theorem HY.chk {K : PySem.W.Frag} {h : Heap} {mg : Str → Option Value} (Y : HY K h mg) (i : Nat) {b : Bool} (e : (chks K)[i]? = some b) : b = true := List.all_eq_true.mp Y.B b (List.mem_of_getElem? e)
theorem toR {P : Program} {w : World} {K : PySem.W.Frag} {mg : Str → Option Value} {base : Heap} {CX : CXT} {k : Nat} {f : Addr} {fd : FuncData} {ps : List Str} {sp : Sp} (F : FnOk P w K mg base CX k f fd ps sp) (hb : Binds K fd ps []) : FnR P w K mg base CX k f sp := (F.raw hb .nil).imp fun vs H Q E h => by rw [List.append_nil]; exact h
theorem mro_ok {K : PySem.W.Frag} {C : Addr} (h : mroB K C = true) : ∃ cd rest, PySem.W.clsIn K C = some cd ∧ cd.mro = .ref C :: rest := by
  unfold mroB at h
  split at h
  · rename_i cd e
    split at h
    · rename_i a rest em
      have ea : a = C := eq_of_beq h
      rw [ea] at em
      exact ⟨cd, rest, e, em⟩
    · cases h
  · cases h
section
variable {P : Program} {w : World} {K : PySem.W.Frag} {h : Heap} {mg : Str → Option Value} {base : Heap}
theorem rf (Y : HY K h mg) : RF K mg := { cl := (He.cls_ok (Y.D.fact 46 (f := .cls "Ratio") rfl)), nT := (He.noat_ok (Y.D.fact 47 (f := .noat "Ratio" "_top") rfl)), nB := (He.noat_ok (Y.D.fact 48 (f := .noat "Ratio" "_bottom") rfl)), kc := (He.eqO_ok (Y.chk 2 (b := He.eqO (PySem.W.findIn K (.ref (He.ga K "Ratio")) "__class__") (some (some (.builtin "object.__class__")))) rfl)), sp := (of_decide_eq_true (Y.chk 0 (b := decide (PySem.W.specialIn K (.builtin "object.__class__") "__get__" = some (some (.builtin "getset_descriptor.__get__")))) rfl)), tk := (of_decide_eq_true (Y.chk 1 (b := decide (PySem.W.takesIn K (.builtin "object.__class__") = some true)) rfl)), ob := (of_decide_eq_true (Y.chk 3 (b := decide (PySem.W.mroIn K (He.ga K "Ratio") (.type "object") = some true)) rfl)), gR := (He.glo_ok Y.X Y.G (Y.D.fact 2 (f := .glo "Ratio") rfl)), ki := (of_decide_eq_true (Y.chk 11 (b := decide (PySem.W.kitOne K (.ref (He.ga K "Ratio")) (.type "int") = some false)) rfl)), isi := (He.free_ok Y.X Y.G (Y.D.fact 33 (f := .free "isinstance") rfl)), int := (He.free_ok Y.X Y.G (Y.D.fact 34 (f := .free "int") rfl)), bool := (He.free_ok Y.X Y.G (Y.D.fact 35 (f := .free "bool") rfl)) }
theorem gf (Y : HY K h mg) : GF K mg := { cl := (He.cls_ok (Y.D.fact 50 (f := .cls "Range") rfl)), nL := (He.noat_ok (Y.D.fact 51 (f := .noat "Range" "_low") rfl)), nH := (He.noat_ok (Y.D.fact 52 (f := .noat "Range" "_high") rfl)), kc := (He.eqO_ok (Y.chk 5 (b := He.eqO (PySem.W.findIn K (.ref (He.ga K "Range")) "__class__") (some (some (.builtin "object.__class__")))) rfl)), sp := (of_decide_eq_true (Y.chk 0 (b := decide (PySem.W.specialIn K (.builtin "object.__class__") "__get__" = some (some (.builtin "getset_descriptor.__get__")))) rfl)), tk := (of_decide_eq_true (Y.chk 1 (b := decide (PySem.W.takesIn K (.builtin "object.__class__") = some true)) rfl)), ob := (of_decide_eq_true (Y.chk 6 (b := decide (PySem.W.mroIn K (He.ga K "Range") (.type "object") = some true)) rfl)), gG := (He.glo_ok Y.X Y.G (Y.D.fact 12 (f := .glo "Range") rfl)) }
theorem mf (Y : HY K h mg) : MF K mg := { cl := (He.cls_ok (Y.D.fact 54 (f := .cls "Move") rfl)), nD := (He.noat_ok (Y.D.fact 55 (f := .noat "Move" "_divisor") rfl)), nP := (He.noat_ok (Y.D.fact 56 (f := .noat "Move" "_plus") rfl)), nL := (He.noat_ok (Y.D.fact 57 (f := .noat "Move" "_low") rfl)), nH := (He.noat_ok (Y.D.fact 58 (f := .noat "Move" "_high") rfl)), kc := (He.eqO_ok (Y.chk 8 (b := He.eqO (PySem.W.findIn K (.ref (He.ga K "Move")) "__class__") (some (some (.builtin "object.__class__")))) rfl)), sp := (of_decide_eq_true (Y.chk 0 (b := decide (PySem.W.specialIn K (.builtin "object.__class__") "__get__" = some (some (.builtin "getset_descriptor.__get__")))) rfl)), tk := (of_decide_eq_true (Y.chk 1 (b := decide (PySem.W.takesIn K (.builtin "object.__class__") = some true)) rfl)), ob := (of_decide_eq_true (Y.chk 9 (b := decide (PySem.W.mroIn K (He.ga K "Move") (.type "object") = some true)) rfl)), gM := (He.glo_ok Y.X Y.G (Y.D.fact 13 (f := .glo "Move") rfl)) }
theorem wf (Y : HY K h mg) : WF K mg := { cl := (He.cls_ok (Y.D.fact 60 (f := .cls "WayBack") rfl)), nM := (He.noat_ok (Y.D.fact 61 (f := .noat "WayBack" "_move") rfl)), nF := (He.noat_ok (Y.D.fact 62 (f := .noat "WayBack" "_first") rfl)), nS := (He.noat_ok (Y.D.fact 63 (f := .noat "WayBack" "_second") rfl)), nL := (He.noat_ok (Y.D.fact 64 (f := .noat "WayBack" "_lowest") rfl)), nH := (He.noat_ok (Y.D.fact 65 (f := .noat "WayBack" "_highest") rfl)), gW := (He.glo_ok Y.X Y.G (Y.D.fact 14 (f := .glo "WayBack") rfl)) }
theorem free_ (Y : HY K h mg) : Free mg := { len := (He.free_ok Y.X Y.G (Y.D.fact 36 (f := .free "len") rfl)), abs := (He.free_ok Y.X Y.G (Y.D.fact 37 (f := .free "abs") rfl)), max := (He.free_ok Y.X Y.G (Y.D.fact 38 (f := .free "max") rfl)), min := (He.free_ok Y.X Y.G (Y.D.fact 39 (f := .free "min") rfl)), int := (He.free_ok Y.X Y.G (Y.D.fact 34 (f := .free "int") rfl)), divmod := (He.free_ok Y.X Y.G (Y.D.fact 40 (f := .free "divmod") rfl)), range := (He.free_ok Y.X Y.G (Y.D.fact 44 (f := .free "range") rfl)), all := (He.free_ok Y.X Y.G (Y.D.fact 43 (f := .free "all") rfl)), str := (He.free_ok Y.X Y.G (Y.D.fact 41 (f := .free "str") rfl)), list := (He.free_ok Y.X Y.G (Y.D.fact 42 (f := .free "list") rfl)) }
theorem own_eq {C : Addr} {f : Addr} (m : Meth K C "__eq__" f) (n : PySem.W.findIn K (.ref C) "__ne__" = some (some (.builtin "object.__ne__"))) (ob : PySem.W.mroIn K C (.type "object") = some true) : OwnEq K C f := ⟨m, n, ob⟩
theorem own_add (Y : HY K h mg) : OwnBin K (aR K) .Add (He.ma K (aR K) "__add__") := ⟨by exact (He.meth_ok (Y.D.fact 69 (f := .meth "Ratio" "__add__") rfl)), by exact (He.eqO_ok (Y.chk 13 (b := He.eqO (PySem.W.findIn K (.ref (He.ga K "Ratio")) "__radd__") (some none)) rfl)), mro_ok (Y.chk 16 (b := mroB K (He.ga K "Ratio")) rfl), (of_decide_eq_true (Y.chk 17 (b := decide (PySem.W.subIn K (.type "int") (.ref (He.ga K "Ratio")) = some false)) rfl))⟩
theorem own_sub (Y : HY K h mg) : OwnBin K (aR K) .Sub (He.ma K (aR K) "__sub__") := ⟨by exact (He.meth_ok (Y.D.fact 70 (f := .meth "Ratio" "__sub__") rfl)), by exact (He.eqO_ok (Y.chk 14 (b := He.eqO (PySem.W.findIn K (.ref (He.ga K "Ratio")) "__rsub__") (some none)) rfl)), mro_ok (Y.chk 16 (b := mroB K (He.ga K "Ratio")) rfl), (of_decide_eq_true (Y.chk 17 (b := decide (PySem.W.subIn K (.type "int") (.ref (He.ga K "Ratio")) = some false)) rfl))⟩
theorem own_mul (Y : HY K h mg) : OwnBin K (aR K) .Mult (He.ma K (aR K) "__mul__") := ⟨by exact (He.meth_ok (Y.D.fact 71 (f := .meth "Ratio" "__mul__") rfl)), by exact (He.eqO_ok (Y.chk 15 (b := He.eqO (PySem.W.findIn K (.ref (He.ga K "Ratio")) "__rmul__") (some none)) rfl)), mro_ok (Y.chk 16 (b := mroB K (He.ga K "Ratio")) rfl), (of_decide_eq_true (Y.chk 17 (b := decide (PySem.W.subIn K (.type "int") (.ref (He.ga K "Ratio")) = some false)) rfl))⟩
theorem creadR (Y : HY K h mg) : ClX.CRead K (aR K) (.type "type") := ⟨(Y.chk 34 (b := PySem.W.readsIn K (He.ga K "Ratio") (.type "type")) rfl), (He.eqO_ok (Y.chk 35 (b := He.eqO (PySem.W.specialIn K (.ref (He.ga K "Ratio")) "__getattribute__") (some (some (.builtin "type.__getattribute__")))) rfl))⟩
theorem creadM (Y : HY K h mg) : ClX.CRead K (aM K) (.type "type") := ⟨(Y.chk 36 (b := PySem.W.readsIn K (He.ga K "Move") (.type "type")) rfl), (He.eqO_ok (Y.chk 37 (b := He.eqO (PySem.W.specialIn K (.ref (He.ga K "Move")) "__getattribute__") (some (some (.builtin "type.__getattribute__")))) rfl))⟩
theorem farRlist (Y : HY K h mg) : Far K (aR K) "list" := ⟨(Y.chk 38 (b := PySem.W.notFirst K (He.ga K "Ratio") (.type "list")) rfl), (of_decide_eq_true (Y.chk 39 (b := decide (PySem.W.kitOne K (.type "list") (.ref (He.ga K "Ratio")) = some false)) rfl))⟩
theorem farRstr (Y : HY K h mg) : Far K (aR K) "str" := ⟨(Y.chk 40 (b := PySem.W.notFirst K (He.ga K "Ratio") (.type "str")) rfl), (of_decide_eq_true (Y.chk 41 (b := decide (PySem.W.kitOne K (.type "str") (.ref (He.ga K "Ratio")) = some false)) rfl))⟩
theorem farGtuple (Y : HY K h mg) : Far K (aG K) "tuple" := ⟨(Y.chk 42 (b := PySem.W.notFirst K (He.ga K "Range") (.type "tuple")) rfl), (of_decide_eq_true (Y.chk 43 (b := decide (PySem.W.kitOne K (.type "tuple") (.ref (He.ga K "Range")) = some false)) rfl))⟩
theorem farMtuple (Y : HY K h mg) : Far K (aM K) "tuple" := ⟨(Y.chk 44 (b := PySem.W.notFirst K (He.ga K "Move") (.type "tuple")) rfl), (of_decide_eq_true (Y.chk 45 (b := decide (PySem.W.kitOne K (.type "tuple") (.ref (He.ga K "Move")) = some false)) rfl))⟩
theorem d_is_integer (Y : HY K h mg) : ∃ fd, FunD K "is_integer" "is_integer" (defArgs (tp 14)) (defBody (tp 14)) (defScope (tp 14)) [] [] (He.ga K "is_integer") fd ∧ Binds K fd ["value"] [] := by
  obtain ⟨fd, F⟩ : ∃ fd, FunD K "is_integer" "is_integer" (defArgs (tp 14)) (defBody (tp 14)) (defScope (tp 14)) [] [] (He.ga K "is_integer") fd := Y.D.def_ 0 rfl
  exact ⟨fd, F, F.bindsN fun _ _ _ _ _ _ us hl => match us, hl with | [_], _ => rfl⟩
theorem d_is_number (Y : HY K h mg) : ∃ fd, FunD K "is_number" "is_number" (defArgs (tp 16)) (defBody (tp 16)) (defScope (tp 16)) [] [] (He.ga K "is_number") fd ∧ Binds K fd ["value"] [] := by
  obtain ⟨fd, F⟩ : ∃ fd, FunD K "is_number" "is_number" (defArgs (tp 16)) (defBody (tp 16)) (defScope (tp 16)) [] [] (He.ga K "is_number") fd := Y.D.def_ 1 rfl
  exact ⟨fd, F, F.bindsN fun _ _ _ _ _ _ us hl => match us, hl with | [_], _ => rfl⟩
theorem d_is_cut (Y : HY K h mg) : ∃ fd, FunD K "is_cut" "is_cut" (defArgs (tp 20)) (defBody (tp 20)) (defScope (tp 20)) [] [] (He.ga K "is_cut") fd ∧ Binds K fd ["value"] [] := by
  obtain ⟨fd, F⟩ : ∃ fd, FunD K "is_cut" "is_cut" (defArgs (tp 20)) (defBody (tp 20)) (defScope (tp 20)) [] [] (He.ga K "is_cut") fd := Y.D.def_ 13 rfl
  exact ⟨fd, F, F.bindsN fun _ _ _ _ _ _ us hl => match us, hl with | [_], _ => rfl⟩
theorem d_is_stretch (Y : HY K h mg) : ∃ fd, FunD K "is_stretch" "is_stretch" (defArgs (tp 21)) (defBody (tp 21)) (defScope (tp 21)) [] [] (He.ga K "is_stretch") fd ∧ Binds K fd ["value"] [] := by
  obtain ⟨fd, F⟩ : ∃ fd, FunD K "is_stretch" "is_stretch" (defArgs (tp 21)) (defBody (tp 21)) (defScope (tp 21)) [] [] (He.ga K "is_stretch") fd := Y.D.def_ 14 rfl
  exact ⟨fd, F, F.bindsN fun _ _ _ _ _ _ us hl => match us, hl with | [_], _ => rfl⟩
theorem d_ratio_cut (Y : HY K h mg) : ∃ fd, FunD K "ratio_cut" "ratio_cut" (defArgs (tp 22)) (defBody (tp 22)) (defScope (tp 22)) [] [] (He.ga K "ratio_cut") fd ∧ Binds K fd ["cut"] [] := by
  obtain ⟨fd, F⟩ : ∃ fd, FunD K "ratio_cut" "ratio_cut" (defArgs (tp 22)) (defBody (tp 22)) (defScope (tp 22)) [] [] (He.ga K "ratio_cut") fd := Y.D.def_ 15 rfl
  exact ⟨fd, F, F.bindsN fun _ _ _ _ _ _ us hl => match us, hl with | [_], _ => rfl⟩
theorem d_is_above (Y : HY K h mg) : ∃ fd, FunD K "is_above" "is_above" (defArgs (tp 23)) (defBody (tp 23)) (defScope (tp 23)) [] [] (He.ga K "is_above") fd ∧ Binds K fd ["number", "cut"] [] := by
  obtain ⟨fd, F⟩ : ∃ fd, FunD K "is_above" "is_above" (defArgs (tp 23)) (defBody (tp 23)) (defScope (tp 23)) [] [] (He.ga K "is_above") fd := Y.D.def_ 16 rfl
  exact ⟨fd, F, F.bindsN fun _ _ _ _ _ _ us hl => match us, hl with | [_, _], _ => rfl⟩
theorem d_is_ahead (Y : HY K h mg) : ∃ fd, FunD K "is_ahead" "is_ahead" (defArgs (tp 24)) (defBody (tp 24)) (defScope (tp 24)) [] [] (He.ga K "is_ahead") fd ∧ Binds K fd ["one", "other"] [] := by
  obtain ⟨fd, F⟩ : ∃ fd, FunD K "is_ahead" "is_ahead" (defArgs (tp 24)) (defBody (tp 24)) (defScope (tp 24)) [] [] (He.ga K "is_ahead") fd := Y.D.def_ 17 rfl
  exact ⟨fd, F, F.bindsN fun _ _ _ _ _ _ us hl => match us, hl with | [_, _], _ => rfl⟩
theorem d_precedes (Y : HY K h mg) : ∃ fd, FunD K "precedes" "precedes" (defArgs (tp 25)) (defBody (tp 25)) (defScope (tp 25)) [] [] (He.ga K "precedes") fd ∧ Binds K fd ["one", "other"] [] := by
  obtain ⟨fd, F⟩ : ∃ fd, FunD K "precedes" "precedes" (defArgs (tp 25)) (defBody (tp 25)) (defScope (tp 25)) [] [] (He.ga K "precedes") fd := Y.D.def_ 18 rfl
  exact ⟨fd, F, F.bindsN fun _ _ _ _ _ _ us hl => match us, hl with | [_, _], _ => rfl⟩
theorem d_is_within (Y : HY K h mg) : ∃ fd, FunD K "is_within" "is_within" (defArgs (tp 26)) (defBody (tp 26)) (defScope (tp 26)) [] [] (He.ga K "is_within") fd ∧ Binds K fd ["number", "stretch"] [] := by
  obtain ⟨fd, F⟩ : ∃ fd, FunD K "is_within" "is_within" (defArgs (tp 26)) (defBody (tp 26)) (defScope (tp 26)) [] [] (He.ga K "is_within") fd := Y.D.def_ 19 rfl
  exact ⟨fd, F, F.bindsN fun _ _ _ _ _ _ us hl => match us, hl with | [_, _], _ => rfl⟩
theorem d_mark_of (Y : HY K h mg) : ∃ fd, FunD K "mark_of" "mark_of" (defArgs (tp 27)) (defBody (tp 27)) (defScope (tp 27)) [] [] (He.ga K "mark_of") fd ∧ Binds K fd ["stretch"] [] := by
  obtain ⟨fd, F⟩ : ∃ fd, FunD K "mark_of" "mark_of" (defArgs (tp 27)) (defBody (tp 27)) (defScope (tp 27)) [] [] (He.ga K "mark_of") fd := Y.D.def_ 20 rfl
  exact ⟨fd, F, F.bindsN fun _ _ _ _ _ _ us hl => match us, hl with | [_], _ => rfl⟩
theorem d__whole_turns (Y : HY K h mg) : ∃ fd, FunD K "_whole_turns" "_whole_turns" (defArgs (tp 33)) (defBody (tp 33)) (defScope (tp 33)) [] [] (He.ga K "_whole_turns") fd ∧ Binds K fd ["ratio"] [] := by
  obtain ⟨fd, F⟩ : ∃ fd, FunD K "_whole_turns" "_whole_turns" (defArgs (tp 33)) (defBody (tp 33)) (defScope (tp 33)) [] [] (He.ga K "_whole_turns") fd := Y.D.def_ 51 rfl
  exact ⟨fd, F, F.bindsN fun _ _ _ _ _ _ us hl => match us, hl with | [_], _ => rfl⟩
theorem d__check_divisor (Y : HY K h mg) : ∃ fd, FunD K "_check_divisor" "_check_divisor" (defArgs (tp 34)) (defBody (tp 34)) (defScope (tp 34)) [] [] (He.ga K "_check_divisor") fd ∧ Binds K fd ["value"] [] := by
  obtain ⟨fd, F⟩ : ∃ fd, FunD K "_check_divisor" "_check_divisor" (defArgs (tp 34)) (defBody (tp 34)) (defScope (tp 34)) [] [] (He.ga K "_check_divisor") fd := Y.D.def_ 52 rfl
  exact ⟨fd, F, F.bindsN fun _ _ _ _ _ _ us hl => match us, hl with | [_], _ => rfl⟩
theorem d__check_part (Y : HY K h mg) : ∃ fd, FunD K "_check_part" "_check_part" (defArgs (tp 35)) (defBody (tp 35)) (defScope (tp 35)) [] [] (He.ga K "_check_part") fd ∧ Binds K fd ["name", "value"] [] := by
  obtain ⟨fd, F⟩ : ∃ fd, FunD K "_check_part" "_check_part" (defArgs (tp 35)) (defBody (tp 35)) (defScope (tp 35)) [] [] (He.ga K "_check_part") fd := Y.D.def_ 53 rfl
  exact ⟨fd, F, F.bindsN fun _ _ _ _ _ _ us hl => match us, hl with | [_, _], _ => rfl⟩
theorem d__check_range (Y : HY K h mg) : ∃ fd, FunD K "_check_range" "_check_range" (defArgs (tp 36)) (defBody (tp 36)) (defScope (tp 36)) [] [] (He.ga K "_check_range") fd ∧ Binds K fd ["value"] [] := by
  obtain ⟨fd, F⟩ : ∃ fd, FunD K "_check_range" "_check_range" (defArgs (tp 36)) (defBody (tp 36)) (defScope (tp 36)) [] [] (He.ga K "_check_range") fd := Y.D.def_ 54 rfl
  exact ⟨fd, F, F.bindsN fun _ _ _ _ _ _ us hl => match us, hl with | [_], _ => rfl⟩
theorem d__check_other (Y : HY K h mg) : ∃ fd, FunD K "_check_other" "_check_other" (defArgs (tp 37)) (defBody (tp 37)) (defScope (tp 37)) [] [] (He.ga K "_check_other") fd ∧ Binds K fd ["value"] [] := by
  obtain ⟨fd, F⟩ : ∃ fd, FunD K "_check_other" "_check_other" (defArgs (tp 37)) (defBody (tp 37)) (defScope (tp 37)) [] [] (He.ga K "_check_other") fd := Y.D.def_ 55 rfl
  exact ⟨fd, F, F.bindsN fun _ _ _ _ _ _ us hl => match us, hl with | [_], _ => rfl⟩
theorem d__law_rng (Y : HY K h mg) : ∃ fd, FunD K "_law_rng" "_law_rng" (defArgs (tp 39)) (defBody (tp 39)) (defScope (tp 39)) [] [] (He.ga K "_law_rng") fd ∧ Binds K fd ["_law_script", "_law_spot"] [] := by
  obtain ⟨fd, F⟩ : ∃ fd, FunD K "_law_rng" "_law_rng" (defArgs (tp 39)) (defBody (tp 39)) (defScope (tp 39)) [] [] (He.ga K "_law_rng") fd := Y.D.def_ 56 rfl
  exact ⟨fd, F, F.bindsN fun _ _ _ _ _ _ us hl => match us, hl with | [_, _], _ => rfl⟩
theorem d__law_draw (Y : HY K h mg) : ∃ fd, FunD K "_law_draw" "_law_draw" (defArgs (tp 40)) (defBody (tp 40)) (defScope (tp 40)) [] [] (He.ga K "_law_draw") fd ∧ Binds K fd ["_law_rng_here", "_law_many"] [] := by
  obtain ⟨fd, F⟩ : ∃ fd, FunD K "_law_draw" "_law_draw" (defArgs (tp 40)) (defBody (tp 40)) (defScope (tp 40)) [] [] (He.ga K "_law_draw") fd := Y.D.def_ 57 rfl
  exact ⟨fd, F, F.bindsN fun _ _ _ _ _ _ us hl => match us, hl with | [_, _], _ => rfl⟩
theorem d__law_choice (Y : HY K h mg) : ∃ fd, FunD K "_law_choice" "_law_choice" (defArgs (tp 41)) (defBody (tp 41)) (defScope (tp 41)) [] [] (He.ga K "_law_choice") fd ∧ Binds K fd ["_law_rng_here", "_law_some"] [] := by
  obtain ⟨fd, F⟩ : ∃ fd, FunD K "_law_choice" "_law_choice" (defArgs (tp 41)) (defBody (tp 41)) (defScope (tp 41)) [] [] (He.ga K "_law_choice") fd := Y.D.def_ 58 rfl
  exact ⟨fd, F, F.bindsN fun _ _ _ _ _ _ us hl => match us, hl with | [_, _], _ => rfl⟩
theorem d__law_plain (Y : HY K h mg) : ∃ fd, FunD K "_law_plain" "_law_plain" (defArgs (tp 42)) (defBody (tp 42)) (defScope (tp 42)) [] [] (He.ga K "_law_plain") fd ∧ Binds K fd ["_law_over", "_law_under"] [] := by
  obtain ⟨fd, F⟩ : ∃ fd, FunD K "_law_plain" "_law_plain" (defArgs (tp 42)) (defBody (tp 42)) (defScope (tp 42)) [] [] (He.ga K "_law_plain") fd := Y.D.def_ 59 rfl
  exact ⟨fd, F, F.bindsN fun _ _ _ _ _ _ us hl => match us, hl with | [_, _], _ => rfl⟩
theorem d__law_fraction (Y : HY K h mg) : ∃ fd, FunD K "_law_fraction" "_law_fraction" (defArgs (tp 43)) (defBody (tp 43)) (defScope (tp 43)) [] [] (He.ga K "_law_fraction") fd ∧ Binds K fd ["_law_rng_here"] [] := by
  obtain ⟨fd, F⟩ : ∃ fd, FunD K "_law_fraction" "_law_fraction" (defArgs (tp 43)) (defBody (tp 43)) (defScope (tp 43)) [] [] (He.ga K "_law_fraction") fd := Y.D.def_ 60 rfl
  exact ⟨fd, F, F.bindsN fun _ _ _ _ _ _ us hl => match us, hl with | [_], _ => rfl⟩
theorem d__law_thing (Y : HY K h mg) : ∃ fd, FunD K "_law_thing" "_law_thing" (defArgs (tp 44)) (defBody (tp 44)) (defScope (tp 44)) [] [] (He.ga K "_law_thing") fd ∧ Binds K fd ["_law_rng_here"] [] := by
  obtain ⟨fd, F⟩ : ∃ fd, FunD K "_law_thing" "_law_thing" (defArgs (tp 44)) (defBody (tp 44)) (defScope (tp 44)) [] [] (He.ga K "_law_thing") fd := Y.D.def_ 61 rfl
  exact ⟨fd, F, F.bindsN fun _ _ _ _ _ _ us hl => match us, hl with | [_], _ => rfl⟩
theorem d__law_ratios_right (Y : HY K h mg) : ∃ fd, FunD K "_law_ratios_right" "_law_ratios_right" (defArgs (tp 45)) (defBody (tp 45)) (defScope (tp 45)) [] [] (He.ga K "_law_ratios_right") fd ∧ Binds K fd ["_law_first", "_law_second", "_law_top_part", "_law_bottom_part"] [] := by
  obtain ⟨fd, F⟩ : ∃ fd, FunD K "_law_ratios_right" "_law_ratios_right" (defArgs (tp 45)) (defBody (tp 45)) (defScope (tp 45)) [] [] (He.ga K "_law_ratios_right") fd := Y.D.def_ 62 rfl
  exact ⟨fd, F, F.bindsN fun _ _ _ _ _ _ us hl => match us, hl with | [_, _, _, _], _ => rfl⟩
theorem d__law_cuts_right (Y : HY K h mg) : ∃ fd, FunD K "_law_cuts_right" "_law_cuts_right" (defArgs (tp 46)) (defBody (tp 46)) (defScope (tp 46)) [] [] (He.ga K "_law_cuts_right") fd ∧ Binds K fd ["_law_first", "_law_second", "_law_flags"] [] := by
  obtain ⟨fd, F⟩ : ∃ fd, FunD K "_law_cuts_right" "_law_cuts_right" (defArgs (tp 46)) (defBody (tp 46)) (defScope (tp 46)) [] [] (He.ga K "_law_cuts_right") fd := Y.D.def_ 63 rfl
  exact ⟨fd, F, F.bindsN fun _ _ _ _ _ _ us hl => match us, hl with | [_, _, _], _ => rfl⟩
theorem d__law_ranges_right (Y : HY K h mg) : ∃ fd, FunD K "_law_ranges_right" "_law_ranges_right" (defArgs (tp 47)) (defBody (tp 47)) (defScope (tp 47)) [] [] (He.ga K "_law_ranges_right") fd ∧ Binds K fd ["_law_first", "_law_second", "_law_flags"] [] := by
  obtain ⟨fd, F⟩ : ∃ fd, FunD K "_law_ranges_right" "_law_ranges_right" (defArgs (tp 47)) (defBody (tp 47)) (defScope (tp 47)) [] [] (He.ga K "_law_ranges_right") fd := Y.D.def_ 64 rfl
  exact ⟨fd, F, F.bindsN fun _ _ _ _ _ _ us hl => match us, hl with | [_, _, _], _ => rfl⟩
theorem d__law_moves_right (Y : HY K h mg) : ∃ fd, FunD K "_law_moves_right" "_law_moves_right" (defArgs (tp 48)) (defBody (tp 48)) (defScope (tp 48)) [] [] (He.ga K "_law_moves_right") fd ∧ Binds K fd ["_law_made", "_law_held", "_law_further", "_law_spot", "_law_part"] [] := by
  obtain ⟨fd, F⟩ : ∃ fd, FunD K "_law_moves_right" "_law_moves_right" (defArgs (tp 48)) (defBody (tp 48)) (defScope (tp 48)) [] [] (He.ga K "_law_moves_right") fd := Y.D.def_ 65 rfl
  exact ⟨fd, F, F.bindsN fun _ _ _ _ _ _ us hl => match us, hl with | [_, _, _, _, _], _ => rfl⟩
theorem d__law_class_methods_right (Y : HY K h mg) : ∃ fd, FunD K "_law_class_methods_right" "_law_class_methods_right" (defArgs (tp 49)) (defBody (tp 49)) (defScope (tp 49)) [] [] (He.ga K "_law_class_methods_right") fd ∧ Binds K fd ["_law_held", "_law_by", "_law_part"] [] := by
  obtain ⟨fd, F⟩ : ∃ fd, FunD K "_law_class_methods_right" "_law_class_methods_right" (defArgs (tp 49)) (defBody (tp 49)) (defScope (tp 49)) [] [] (He.ga K "_law_class_methods_right") fd := Y.D.def_ 66 rfl
  exact ⟨fd, F, F.bindsN fun _ _ _ _ _ _ us hl => match us, hl with | [_, _, _], _ => rfl⟩
theorem d__law_right (Y : HY K h mg) : ∃ fd, FunD K "_law_right" "_law_right" (defArgs (tp 50)) (defBody (tp 50)) (defScope (tp 50)) [] [] (He.ga K "_law_right") fd ∧ Binds K fd ["_law_rng_here"] [] := by
  obtain ⟨fd, F⟩ : ∃ fd, FunD K "_law_right" "_law_right" (defArgs (tp 50)) (defBody (tp 50)) (defScope (tp 50)) [] [] (He.ga K "_law_right") fd := Y.D.def_ 67 rfl
  exact ⟨fd, F, F.bindsN fun _ _ _ _ _ _ us hl => match us, hl with | [_], _ => rfl⟩
theorem d_law (Y : HY K h mg) : ∃ fd, FunD K "law" "law" (defArgs (tp 51)) (defBody (tp 51)) (defScope (tp 51)) [] [] (He.ga K "law") fd ∧ Binds K fd ["_law_script"] [] := by
  obtain ⟨fd, F⟩ : ∃ fd, FunD K "law" "law" (defArgs (tp 51)) (defBody (tp 51)) (defScope (tp 51)) [] [] (He.ga K "law") fd := Y.D.def_ 68 rfl
  exact ⟨fd, F, F.bindsN fun _ _ _ _ _ _ us hl => match us, hl with | [_], _ => rfl⟩
theorem d_Ratio_init (Y : HY K h mg) : ∃ fd, FunD K "__init__" "Ratio.__init__" (defArgs (sRatio 0)) (defBody (sRatio 0)) (defScope (sRatio 0)) [.int 1] [] (He.ma K (aR K) "__init__") fd := Y.D.def_ 2 rfl
theorem d_Ratio_of (Y : HY K h mg) : ∃ fd, FunD K "of" "Ratio.of" (defArgs (sRatio 1)) (defBody (sRatio 1)) (defScope (sRatio 1)) [] [] (wrapAt K (aR K) "of" "classmethod") fd ∧ Binds K fd ["cls", "number"] [] := by
  obtain ⟨fd, F⟩ : ∃ fd, FunD K "of" "Ratio.of" (defArgs (sRatio 1)) (defBody (sRatio 1)) (defScope (sRatio 1)) [] [] (wrapAt K (aR K) "of" "classmethod") fd := Y.Dx.def_ 0 rfl
  exact ⟨fd, F, F.bindsN fun _ _ _ _ _ _ us hl => match us, hl with | [_, _], _ => rfl⟩
theorem d_Ratio_top (Y : HY K h mg) : ∃ fd, FunD K "top" "Ratio.top" (defArgs (sRatio 4)) (defBody (sRatio 4)) (defScope (sRatio 4)) [] [] (wrapAt K (aR K) "top" "property") fd ∧ Binds K fd ["self"] [] := by
  obtain ⟨fd, F⟩ : ∃ fd, FunD K "top" "Ratio.top" (defArgs (sRatio 4)) (defBody (sRatio 4)) (defScope (sRatio 4)) [] [] (wrapAt K (aR K) "top" "property") fd := Y.Dx.def_ 3 rfl
  exact ⟨fd, F, F.bindsN fun _ _ _ _ _ _ us hl => match us, hl with | [_], _ => rfl⟩
theorem d_Ratio_bottom (Y : HY K h mg) : ∃ fd, FunD K "bottom" "Ratio.bottom" (defArgs (sRatio 5)) (defBody (sRatio 5)) (defScope (sRatio 5)) [] [] (wrapAt K (aR K) "bottom" "property") fd ∧ Binds K fd ["self"] [] := by
  obtain ⟨fd, F⟩ : ∃ fd, FunD K "bottom" "Ratio.bottom" (defArgs (sRatio 5)) (defBody (sRatio 5)) (defScope (sRatio 5)) [] [] (wrapAt K (aR K) "bottom" "property") fd := Y.Dx.def_ 4 rfl
  exact ⟨fd, F, F.bindsN fun _ _ _ _ _ _ us hl => match us, hl with | [_], _ => rfl⟩
theorem d_Ratio_sign (Y : HY K h mg) : ∃ fd, FunD K "sign" "Ratio.sign" (defArgs (sRatio 6)) (defBody (sRatio 6)) (defScope (sRatio 6)) [] [] (wrapAt K (aR K) "sign" "property") fd ∧ Binds K fd ["self"] [] := by
  obtain ⟨fd, F⟩ : ∃ fd, FunD K "sign" "Ratio.sign" (defArgs (sRatio 6)) (defBody (sRatio 6)) (defScope (sRatio 6)) [] [] (wrapAt K (aR K) "sign" "property") fd := Y.Dx.def_ 5 rfl
  exact ⟨fd, F, F.bindsN fun _ _ _ _ _ _ us hl => match us, hl with | [_], _ => rfl⟩
theorem d_Ratio_is_below (Y : HY K h mg) : ∃ fd, FunD K "is_below" "Ratio.is_below" (defArgs (sRatio 7)) (defBody (sRatio 7)) (defScope (sRatio 7)) [] [] (He.ma K (aR K) "is_below") fd ∧ Binds K fd ["self", "other"] [] := by
  obtain ⟨fd, F⟩ : ∃ fd, FunD K "is_below" "Ratio.is_below" (defArgs (sRatio 7)) (defBody (sRatio 7)) (defScope (sRatio 7)) [] [] (He.ma K (aR K) "is_below") fd := Y.D.def_ 3 rfl
  exact ⟨fd, F, F.bindsN fun _ _ _ _ _ _ us hl => match us, hl with | [_, _], _ => rfl⟩
theorem d_Ratio_over (Y : HY K h mg) : ∃ fd, FunD K "over" "Ratio.over" (defArgs (sRatio 8)) (defBody (sRatio 8)) (defScope (sRatio 8)) [] [] (He.ma K (aR K) "over") fd ∧ Binds K fd ["self", "other"] [] := by
  obtain ⟨fd, F⟩ : ∃ fd, FunD K "over" "Ratio.over" (defArgs (sRatio 8)) (defBody (sRatio 8)) (defScope (sRatio 8)) [] [] (He.ma K (aR K) "over") fd := Y.D.def_ 4 rfl
  exact ⟨fd, F, F.bindsN fun _ _ _ _ _ _ us hl => match us, hl with | [_, _], _ => rfl⟩
theorem d_Ratio_add (Y : HY K h mg) : ∃ fd, FunD K "__add__" "Ratio.__add__" (defArgs (sRatio 9)) (defBody (sRatio 9)) (defScope (sRatio 9)) [] [] (He.ma K (aR K) "__add__") fd ∧ Binds K fd ["self", "other"] [] := by
  obtain ⟨fd, F⟩ : ∃ fd, FunD K "__add__" "Ratio.__add__" (defArgs (sRatio 9)) (defBody (sRatio 9)) (defScope (sRatio 9)) [] [] (He.ma K (aR K) "__add__") fd := Y.D.def_ 5 rfl
  exact ⟨fd, F, F.bindsN fun _ _ _ _ _ _ us hl => match us, hl with | [_, _], _ => rfl⟩
theorem d_Ratio_sub (Y : HY K h mg) : ∃ fd, FunD K "__sub__" "Ratio.__sub__" (defArgs (sRatio 10)) (defBody (sRatio 10)) (defScope (sRatio 10)) [] [] (He.ma K (aR K) "__sub__") fd ∧ Binds K fd ["self", "other"] [] := by
  obtain ⟨fd, F⟩ : ∃ fd, FunD K "__sub__" "Ratio.__sub__" (defArgs (sRatio 10)) (defBody (sRatio 10)) (defScope (sRatio 10)) [] [] (He.ma K (aR K) "__sub__") fd := Y.D.def_ 6 rfl
  exact ⟨fd, F, F.bindsN fun _ _ _ _ _ _ us hl => match us, hl with | [_, _], _ => rfl⟩
theorem d_Ratio_mul (Y : HY K h mg) : ∃ fd, FunD K "__mul__" "Ratio.__mul__" (defArgs (sRatio 11)) (defBody (sRatio 11)) (defScope (sRatio 11)) [] [] (He.ma K (aR K) "__mul__") fd ∧ Binds K fd ["self", "other"] [] := by
  obtain ⟨fd, F⟩ : ∃ fd, FunD K "__mul__" "Ratio.__mul__" (defArgs (sRatio 11)) (defBody (sRatio 11)) (defScope (sRatio 11)) [] [] (He.ma K (aR K) "__mul__") fd := Y.D.def_ 7 rfl
  exact ⟨fd, F, F.bindsN fun _ _ _ _ _ _ us hl => match us, hl with | [_, _], _ => rfl⟩
theorem d_Ratio_eq (Y : HY K h mg) : ∃ fd, FunD K "__eq__" "Ratio.__eq__" (defArgs (sRatio 13)) (defBody (sRatio 13)) (defScope (sRatio 13)) [] [] (He.ma K (aR K) "__eq__") fd ∧ Binds K fd ["self", "other"] [] := by
  obtain ⟨fd, F⟩ : ∃ fd, FunD K "__eq__" "Ratio.__eq__" (defArgs (sRatio 13)) (defBody (sRatio 13)) (defScope (sRatio 13)) [] [] (He.ma K (aR K) "__eq__") fd := Y.D.def_ 9 rfl
  exact ⟨fd, F, F.bindsN fun _ _ _ _ _ _ us hl => match us, hl with | [_, _], _ => rfl⟩
theorem d_Ratio_str (Y : HY K h mg) : ∃ fd, FunD K "__str__" "Ratio.__str__" (defArgs (sRatio 14)) (defBody (sRatio 14)) (defScope (sRatio 14)) [] [] (He.ma K (aR K) "__str__") fd ∧ Binds K fd ["self"] [] := by
  obtain ⟨fd, F⟩ : ∃ fd, FunD K "__str__" "Ratio.__str__" (defArgs (sRatio 14)) (defBody (sRatio 14)) (defScope (sRatio 14)) [] [] (He.ma K (aR K) "__str__") fd := Y.D.def_ 10 rfl
  exact ⟨fd, F, F.bindsN fun _ _ _ _ _ _ us hl => match us, hl with | [_], _ => rfl⟩
theorem d_Range_init (Y : HY K h mg) : ∃ fd, FunD K "__init__" "Range.__init__" (defArgs (sRange 0)) (defBody (sRange 0)) (defScope (sRange 0)) [] [] (He.ma K (aG K) "__init__") fd ∧ Binds K fd ["self", "low", "high"] [] := by
  obtain ⟨fd, F⟩ : ∃ fd, FunD K "__init__" "Range.__init__" (defArgs (sRange 0)) (defBody (sRange 0)) (defScope (sRange 0)) [] [] (He.ma K (aG K) "__init__") fd := Y.D.def_ 21 rfl
  exact ⟨fd, F, F.bindsN fun _ _ _ _ _ _ us hl => match us, hl with | [_, _, _], _ => rfl⟩
theorem d_Range_low (Y : HY K h mg) : ∃ fd, FunD K "low" "Range.low" (defArgs (sRange 1)) (defBody (sRange 1)) (defScope (sRange 1)) [] [] (wrapAt K (aG K) "low" "property") fd ∧ Binds K fd ["self"] [] := by
  obtain ⟨fd, F⟩ : ∃ fd, FunD K "low" "Range.low" (defArgs (sRange 1)) (defBody (sRange 1)) (defScope (sRange 1)) [] [] (wrapAt K (aG K) "low" "property") fd := Y.Dx.def_ 6 rfl
  exact ⟨fd, F, F.bindsN fun _ _ _ _ _ _ us hl => match us, hl with | [_], _ => rfl⟩
theorem d_Range_high (Y : HY K h mg) : ∃ fd, FunD K "high" "Range.high" (defArgs (sRange 2)) (defBody (sRange 2)) (defScope (sRange 2)) [] [] (wrapAt K (aG K) "high" "property") fd ∧ Binds K fd ["self"] [] := by
  obtain ⟨fd, F⟩ : ∃ fd, FunD K "high" "Range.high" (defArgs (sRange 2)) (defBody (sRange 2)) (defScope (sRange 2)) [] [] (wrapAt K (aG K) "high" "property") fd := Y.Dx.def_ 7 rfl
  exact ⟨fd, F, F.bindsN fun _ _ _ _ _ _ us hl => match us, hl with | [_], _ => rfl⟩
theorem d_Range_outer (Y : HY K h mg) : ∃ fd, FunD K "outer" "Range.outer" (defArgs (sRange 3)) (defBody (sRange 3)) (defScope (sRange 3)) [] [] (He.ma K (aG K) "outer") fd ∧ Binds K fd ["self"] [] := by
  obtain ⟨fd, F⟩ : ∃ fd, FunD K "outer" "Range.outer" (defArgs (sRange 3)) (defBody (sRange 3)) (defScope (sRange 3)) [] [] (He.ma K (aG K) "outer") fd := Y.D.def_ 22 rfl
  exact ⟨fd, F, F.bindsN fun _ _ _ _ _ _ us hl => match us, hl with | [_], _ => rfl⟩
theorem d_Range_is_inner (Y : HY K h mg) : ∃ fd, FunD K "is_inner" "Range.is_inner" (defArgs (sRange 4)) (defBody (sRange 4)) (defScope (sRange 4)) [] [] (He.ma K (aG K) "is_inner") fd ∧ Binds K fd ["self", "cut"] [] := by
  obtain ⟨fd, F⟩ : ∃ fd, FunD K "is_inner" "Range.is_inner" (defArgs (sRange 4)) (defBody (sRange 4)) (defScope (sRange 4)) [] [] (He.ma K (aG K) "is_inner") fd := Y.D.def_ 23 rfl
  exact ⟨fd, F, F.bindsN fun _ _ _ _ _ _ us hl => match us, hl with | [_, _], _ => rfl⟩
theorem d_Range_fit (Y : HY K h mg) : ∃ fd, FunD K "fit" "Range.fit" (defArgs (sRange 5)) (defBody (sRange 5)) (defScope (sRange 5)) [] [] (He.ma K (aG K) "fit") fd ∧ Binds K fd ["self", "cut"] [] := by
  obtain ⟨fd, F⟩ : ∃ fd, FunD K "fit" "Range.fit" (defArgs (sRange 5)) (defBody (sRange 5)) (defScope (sRange 5)) [] [] (He.ma K (aG K) "fit") fd := Y.D.def_ 24 rfl
  exact ⟨fd, F, F.bindsN fun _ _ _ _ _ _ us hl => match us, hl with | [_, _], _ => rfl⟩
theorem d_Range_has_stretch (Y : HY K h mg) : ∃ fd, FunD K "has_stretch" "Range.has_stretch" (defArgs (sRange 6)) (defBody (sRange 6)) (defScope (sRange 6)) [] [] (He.ma K (aG K) "has_stretch") fd ∧ Binds K fd ["self", "value"] [] := by
  obtain ⟨fd, F⟩ : ∃ fd, FunD K "has_stretch" "Range.has_stretch" (defArgs (sRange 6)) (defBody (sRange 6)) (defScope (sRange 6)) [] [] (He.ma K (aG K) "has_stretch") fd := Y.D.def_ 25 rfl
  exact ⟨fd, F, F.bindsN fun _ _ _ _ _ _ us hl => match us, hl with | [_, _], _ => rfl⟩
theorem d_Range_contains (Y : HY K h mg) : ∃ fd, FunD K "__contains__" "Range.__contains__" (defArgs (sRange 7)) (defBody (sRange 7)) (defScope (sRange 7)) [] [] (He.ma K (aG K) "__contains__") fd ∧ Binds K fd ["self", "value"] [] := by
  obtain ⟨fd, F⟩ : ∃ fd, FunD K "__contains__" "Range.__contains__" (defArgs (sRange 7)) (defBody (sRange 7)) (defScope (sRange 7)) [] [] (He.ma K (aG K) "__contains__") fd := Y.D.def_ 26 rfl
  exact ⟨fd, F, F.bindsN fun _ _ _ _ _ _ us hl => match us, hl with | [_, _], _ => rfl⟩
theorem d_Range_eq (Y : HY K h mg) : ∃ fd, FunD K "__eq__" "Range.__eq__" (defArgs (sRange 8)) (defBody (sRange 8)) (defScope (sRange 8)) [] [] (He.ma K (aG K) "__eq__") fd ∧ Binds K fd ["self", "other"] [] := by
  obtain ⟨fd, F⟩ : ∃ fd, FunD K "__eq__" "Range.__eq__" (defArgs (sRange 8)) (defBody (sRange 8)) (defScope (sRange 8)) [] [] (He.ma K (aG K) "__eq__") fd := Y.D.def_ 27 rfl
  exact ⟨fd, F, F.bindsN fun _ _ _ _ _ _ us hl => match us, hl with | [_, _], _ => rfl⟩
theorem d_Move_init (Y : HY K h mg) : ∃ fd, FunD K "__init__" "Move.__init__" (defArgs (sMove 0)) (defBody (sMove 0)) (defScope (sMove 0)) [] [] (He.ma K (aM K) "__init__") fd ∧ Binds K fd ["self", "divisor", "plus", "low", "high"] [] := by
  obtain ⟨fd, F⟩ : ∃ fd, FunD K "__init__" "Move.__init__" (defArgs (sMove 0)) (defBody (sMove 0)) (defScope (sMove 0)) [] [] (He.ma K (aM K) "__init__") fd := Y.D.def_ 29 rfl
  exact ⟨fd, F, F.bindsN fun _ _ _ _ _ _ us hl => match us, hl with | [_, _, _, _, _], _ => rfl⟩
theorem d_Move_setting (Y : HY K h mg) : ∃ fd, FunD K "setting" "Move.setting" (defArgs (sMove 1)) (defBody (sMove 1)) (defScope (sMove 1)) [] [] (wrapAt K (aM K) "setting" "classmethod") fd ∧ Binds K fd ["cls", "number"] [] := by
  obtain ⟨fd, F⟩ : ∃ fd, FunD K "setting" "Move.setting" (defArgs (sMove 1)) (defBody (sMove 1)) (defScope (sMove 1)) [] [] (wrapAt K (aM K) "setting" "classmethod") fd := Y.Dx.def_ 8 rfl
  exact ⟨fd, F, F.bindsN fun _ _ _ _ _ _ us hl => match us, hl with | [_, _], _ => rfl⟩
theorem d_Move_staying (Y : HY K h mg) : ∃ fd, FunD K "staying" "Move.staying" (defArgs (sMove 2)) (defBody (sMove 2)) (defScope (sMove 2)) [] [] (wrapAt K (aM K) "staying" "classmethod") fd ∧ Binds K fd ["cls", "within"] [] := by
  obtain ⟨fd, F⟩ : ∃ fd, FunD K "staying" "Move.staying" (defArgs (sMove 2)) (defBody (sMove 2)) (defScope (sMove 2)) [] [] (wrapAt K (aM K) "staying" "classmethod") fd := Y.Dx.def_ 9 rfl
  exact ⟨fd, F, F.bindsN fun _ _ _ _ _ _ us hl => match us, hl with | [_, _], _ => rfl⟩
theorem d_Move_adding (Y : HY K h mg) : ∃ fd, FunD K "adding" "Move.adding" (defArgs (sMove 3)) (defBody (sMove 3)) (defScope (sMove 3)) [] [] (wrapAt K (aM K) "adding" "classmethod") fd ∧ Binds K fd ["cls", "number", "within"] [] := by
  obtain ⟨fd, F⟩ : ∃ fd, FunD K "adding" "Move.adding" (defArgs (sMove 3)) (defBody (sMove 3)) (defScope (sMove 3)) [] [] (wrapAt K (aM K) "adding" "classmethod") fd := Y.Dx.def_ 10 rfl
  exact ⟨fd, F, F.bindsN fun _ _ _ _ _ _ us hl => match us, hl with | [_, _, _], _ => rfl⟩
theorem d_Move_dividing (Y : HY K h mg) : ∃ fd, FunD K "dividing" "Move.dividing" (defArgs (sMove 4)) (defBody (sMove 4)) (defScope (sMove 4)) [] [] (wrapAt K (aM K) "dividing" "classmethod") fd ∧ Binds K fd ["cls", "divisor", "within"] [] := by
  obtain ⟨fd, F⟩ : ∃ fd, FunD K "dividing" "Move.dividing" (defArgs (sMove 4)) (defBody (sMove 4)) (defScope (sMove 4)) [] [] (wrapAt K (aM K) "dividing" "classmethod") fd := Y.Dx.def_ 11 rfl
  exact ⟨fd, F, F.bindsN fun _ _ _ _ _ _ us hl => match us, hl with | [_, _, _], _ => rfl⟩
theorem d_Move_divisor (Y : HY K h mg) : ∃ fd, FunD K "divisor" "Move.divisor" (defArgs (sMove 5)) (defBody (sMove 5)) (defScope (sMove 5)) [] [] (wrapAt K (aM K) "divisor" "property") fd ∧ Binds K fd ["self"] [] := by
  obtain ⟨fd, F⟩ : ∃ fd, FunD K "divisor" "Move.divisor" (defArgs (sMove 5)) (defBody (sMove 5)) (defScope (sMove 5)) [] [] (wrapAt K (aM K) "divisor" "property") fd := Y.Dx.def_ 12 rfl
  exact ⟨fd, F, F.bindsN fun _ _ _ _ _ _ us hl => match us, hl with | [_], _ => rfl⟩
theorem d_Move_plus (Y : HY K h mg) : ∃ fd, FunD K "plus" "Move.plus" (defArgs (sMove 6)) (defBody (sMove 6)) (defScope (sMove 6)) [] [] (wrapAt K (aM K) "plus" "property") fd ∧ Binds K fd ["self"] [] := by
  obtain ⟨fd, F⟩ : ∃ fd, FunD K "plus" "Move.plus" (defArgs (sMove 6)) (defBody (sMove 6)) (defScope (sMove 6)) [] [] (wrapAt K (aM K) "plus" "property") fd := Y.Dx.def_ 13 rfl
  exact ⟨fd, F, F.bindsN fun _ _ _ _ _ _ us hl => match us, hl with | [_], _ => rfl⟩
theorem d_Move_low (Y : HY K h mg) : ∃ fd, FunD K "low" "Move.low" (defArgs (sMove 7)) (defBody (sMove 7)) (defScope (sMove 7)) [] [] (wrapAt K (aM K) "low" "property") fd ∧ Binds K fd ["self"] [] := by
  obtain ⟨fd, F⟩ : ∃ fd, FunD K "low" "Move.low" (defArgs (sMove 7)) (defBody (sMove 7)) (defScope (sMove 7)) [] [] (wrapAt K (aM K) "low" "property") fd := Y.Dx.def_ 14 rfl
  exact ⟨fd, F, F.bindsN fun _ _ _ _ _ _ us hl => match us, hl with | [_], _ => rfl⟩
theorem d_Move_high (Y : HY K h mg) : ∃ fd, FunD K "high" "Move.high" (defArgs (sMove 8)) (defBody (sMove 8)) (defScope (sMove 8)) [] [] (wrapAt K (aM K) "high" "property") fd ∧ Binds K fd ["self"] [] := by
  obtain ⟨fd, F⟩ : ∃ fd, FunD K "high" "Move.high" (defArgs (sMove 8)) (defBody (sMove 8)) (defScope (sMove 8)) [] [] (wrapAt K (aM K) "high" "property") fd := Y.Dx.def_ 15 rfl
  exact ⟨fd, F, F.bindsN fun _ _ _ _ _ _ us hl => match us, hl with | [_], _ => rfl⟩
theorem d_Move_at (Y : HY K h mg) : ∃ fd, FunD K "at" "Move.at" (defArgs (sMove 9)) (defBody (sMove 9)) (defScope (sMove 9)) [] [] (He.ma K (aM K) "at") fd ∧ Binds K fd ["self", "number"] [] := by
  obtain ⟨fd, F⟩ : ∃ fd, FunD K "at" "Move.at" (defArgs (sMove 9)) (defBody (sMove 9)) (defScope (sMove 9)) [] [] (He.ma K (aM K) "at") fd := Y.D.def_ 30 rfl
  exact ⟨fd, F, F.bindsN fun _ _ _ _ _ _ us hl => match us, hl with | [_, _], _ => rfl⟩
theorem d_Move_free (Y : HY K h mg) : ∃ fd, FunD K "_free" "Move._free" (defArgs (sMove 10)) (defBody (sMove 10)) (defScope (sMove 10)) [] [] (He.ma K (aM K) "_free") fd ∧ Binds K fd ["self", "number"] [] := by
  obtain ⟨fd, F⟩ : ∃ fd, FunD K "_free" "Move._free" (defArgs (sMove 10)) (defBody (sMove 10)) (defScope (sMove 10)) [] [] (He.ma K (aM K) "_free") fd := Y.D.def_ 31 rfl
  exact ⟨fd, F, F.bindsN fun _ _ _ _ _ _ us hl => match us, hl with | [_, _], _ => rfl⟩
theorem d_Move_then (Y : HY K h mg) : ∃ fd, FunD K "then" "Move.then" (defArgs (sMove 11)) (defBody (sMove 11)) (defScope (sMove 11)) [] [] (He.ma K (aM K) "then") fd ∧ Binds K fd ["self", "other"] [] := by
  obtain ⟨fd, F⟩ : ∃ fd, FunD K "then" "Move.then" (defArgs (sMove 11)) (defBody (sMove 11)) (defScope (sMove 11)) [] [] (He.ma K (aM K) "then") fd := Y.D.def_ 32 rfl
  exact ⟨fd, F, F.bindsN fun _ _ _ _ _ _ us hl => match us, hl with | [_, _], _ => rfl⟩
theorem d_Move_back (Y : HY K h mg) : ∃ fd, FunD K "back" "Move.back" (defArgs (sMove 12)) (defBody (sMove 12)) (defScope (sMove 12)) [] [] (He.ma K (aM K) "back") fd ∧ Binds K fd ["self", "cut", "within"] [] := by
  obtain ⟨fd, F⟩ : ∃ fd, FunD K "back" "Move.back" (defArgs (sMove 12)) (defBody (sMove 12)) (defScope (sMove 12)) [] [] (He.ma K (aM K) "back") fd := Y.D.def_ 33 rfl
  exact ⟨fd, F, F.bindsN fun _ _ _ _ _ _ us hl => match us, hl with | [_, _, _], _ => rfl⟩
theorem d_Move_upper_image (Y : HY K h mg) : ∃ fd, FunD K "upper_image" "Move.upper_image" (defArgs (sMove 13)) (defBody (sMove 13)) (defScope (sMove 13)) [] [] (He.ma K (aM K) "upper_image") fd ∧ Binds K fd ["self", "cut"] [] := by
  obtain ⟨fd, F⟩ : ∃ fd, FunD K "upper_image" "Move.upper_image" (defArgs (sMove 13)) (defBody (sMove 13)) (defScope (sMove 13)) [] [] (He.ma K (aM K) "upper_image") fd := Y.D.def_ 34 rfl
  exact ⟨fd, F, F.bindsN fun _ _ _ _ _ _ us hl => match us, hl with | [_, _], _ => rfl⟩
theorem d_Move_lower_image (Y : HY K h mg) : ∃ fd, FunD K "lower_image" "Move.lower_image" (defArgs (sMove 14)) (defBody (sMove 14)) (defScope (sMove 14)) [] [] (He.ma K (aM K) "lower_image") fd ∧ Binds K fd ["self", "cut"] [] := by
  obtain ⟨fd, F⟩ : ∃ fd, FunD K "lower_image" "Move.lower_image" (defArgs (sMove 14)) (defBody (sMove 14)) (defScope (sMove 14)) [] [] (He.ma K (aM K) "lower_image") fd := Y.D.def_ 35 rfl
  exact ⟨fd, F, F.bindsN fun _ _ _ _ _ _ us hl => match us, hl with | [_, _], _ => rfl⟩
theorem d_Move_form (Y : HY K h mg) : ∃ fd, FunD K "form" "Move.form" (defArgs (sMove 15)) (defBody (sMove 15)) (defScope (sMove 15)) [] [] (He.ma K (aM K) "form") fd ∧ Binds K fd ["self", "within"] [] := by
  obtain ⟨fd, F⟩ : ∃ fd, FunD K "form" "Move.form" (defArgs (sMove 15)) (defBody (sMove 15)) (defScope (sMove 15)) [] [] (He.ma K (aM K) "form") fd := Y.D.def_ 36 rfl
  exact ⟨fd, F, F.bindsN fun _ _ _ _ _ _ us hl => match us, hl with | [_, _], _ => rfl⟩
theorem d_Move_is_alike (Y : HY K h mg) : ∃ fd, FunD K "is_alike" "Move.is_alike" (defArgs (sMove 16)) (defBody (sMove 16)) (defScope (sMove 16)) [] [] (He.ma K (aM K) "is_alike") fd ∧ Binds K fd ["self", "other", "within"] [] := by
  obtain ⟨fd, F⟩ : ∃ fd, FunD K "is_alike" "Move.is_alike" (defArgs (sMove 16)) (defBody (sMove 16)) (defScope (sMove 16)) [] [] (He.ma K (aM K) "is_alike") fd := Y.D.def_ 37 rfl
  exact ⟨fd, F, F.bindsN fun _ _ _ _ _ _ us hl => match us, hl with | [_, _, _], _ => rfl⟩
theorem d_Move_done (Y : HY K h mg) : ∃ fd, FunD K "done" "Move.done" (defArgs (sMove 17)) (defBody (sMove 17)) (defScope (sMove 17)) [] [] (He.ma K (aM K) "done") fd ∧ Binds K fd ["self", "times"] [] := by
  obtain ⟨fd, F⟩ : ∃ fd, FunD K "done" "Move.done" (defArgs (sMove 17)) (defBody (sMove 17)) (defScope (sMove 17)) [] [] (He.ma K (aM K) "done") fd := Y.D.def_ 38 rfl
  exact ⟨fd, F, F.bindsN fun _ _ _ _ _ _ us hl => match us, hl with | [_, _], _ => rfl⟩
theorem d_Move_raised (Y : HY K h mg) : ∃ fd, FunD K "_raised" "Move._raised" (defArgs (sMove 18)) (defBody (sMove 18)) (defScope (sMove 18)) [] [] (He.ma K (aM K) "_raised") fd ∧ Binds K fd ["self", "times"] [] := by
  obtain ⟨fd, F⟩ : ∃ fd, FunD K "_raised" "Move._raised" (defArgs (sMove 18)) (defBody (sMove 18)) (defScope (sMove 18)) [] [] (He.ma K (aM K) "_raised") fd := Y.D.def_ 39 rfl
  exact ⟨fd, F, F.bindsN fun _ _ _ _ _ _ us hl => match us, hl with | [_, _], _ => rfl⟩
theorem d_Move_held (Y : HY K h mg) : ∃ fd, FunD K "_held" "Move._held" (defArgs (sMove 19)) (defBody (sMove 19)) (defScope (sMove 19)) [] [] (He.ma K (aM K) "_held") fd ∧ Binds K fd ["self", "ratio"] [] := by
  obtain ⟨fd, F⟩ : ∃ fd, FunD K "_held" "Move._held" (defArgs (sMove 19)) (defBody (sMove 19)) (defScope (sMove 19)) [] [] (He.ma K (aM K) "_held") fd := Y.D.def_ 40 rfl
  exact ⟨fd, F, F.bindsN fun _ _ _ _ _ _ us hl => match us, hl with | [_, _], _ => rfl⟩
theorem d_Move_tends (Y : HY K h mg) : ∃ fd, FunD K "tends" "Move.tends" (defArgs (sMove 20)) (defBody (sMove 20)) (defScope (sMove 20)) [] [] (He.ma K (aM K) "tends") fd ∧ Binds K fd ["self", "number"] [] := by
  obtain ⟨fd, F⟩ : ∃ fd, FunD K "tends" "Move.tends" (defArgs (sMove 20)) (defBody (sMove 20)) (defScope (sMove 20)) [] [] (He.ma K (aM K) "tends") fd := Y.D.def_ 41 rfl
  exact ⟨fd, F, F.bindsN fun _ _ _ _ _ _ us hl => match us, hl with | [_, _], _ => rfl⟩
theorem d_Move_limit_of (Y : HY K h mg) : ∃ fd, FunD K "_limit_of" "Move._limit_of" (defArgs (sMove 21)) (defBody (sMove 21)) (defScope (sMove 21)) [] [] (He.ma K (aM K) "_limit_of") fd ∧ Binds K fd ["self", "ratio"] [] := by
  obtain ⟨fd, F⟩ : ∃ fd, FunD K "_limit_of" "Move._limit_of" (defArgs (sMove 21)) (defBody (sMove 21)) (defScope (sMove 21)) [] [] (He.ma K (aM K) "_limit_of") fd := Y.D.def_ 42 rfl
  exact ⟨fd, F, F.bindsN fun _ _ _ _ _ _ us hl => match us, hl with | [_, _], _ => rfl⟩
theorem d_Move_fixed (Y : HY K h mg) : ∃ fd, FunD K "_fixed" "Move._fixed" (defArgs (sMove 22)) (defBody (sMove 22)) (defScope (sMove 22)) [] [] (He.ma K (aM K) "_fixed") fd ∧ Binds K fd ["self"] [] := by
  obtain ⟨fd, F⟩ : ∃ fd, FunD K "_fixed" "Move._fixed" (defArgs (sMove 22)) (defBody (sMove 22)) (defScope (sMove 22)) [] [] (He.ma K (aM K) "_fixed") fd := Y.D.def_ 43 rfl
  exact ⟨fd, F, F.bindsN fun _ _ _ _ _ _ us hl => match us, hl with | [_], _ => rfl⟩
theorem d_Move_turns_from (Y : HY K h mg) : ∃ fd, FunD K "_turns_from" "Move._turns_from" (defArgs (sMove 23)) (defBody (sMove 23)) (defScope (sMove 23)) [] [] (He.ma K (aM K) "_turns_from") fd ∧ Binds K fd ["self", "result", "limit"] [] := by
  obtain ⟨fd, F⟩ : ∃ fd, FunD K "_turns_from" "Move._turns_from" (defArgs (sMove 23)) (defBody (sMove 23)) (defScope (sMove 23)) [] [] (He.ma K (aM K) "_turns_from") fd := Y.D.def_ 44 rfl
  exact ⟨fd, F, F.bindsN fun _ _ _ _ _ _ us hl => match us, hl with | [_, _, _], _ => rfl⟩
theorem d_Move_upper_limit (Y : HY K h mg) : ∃ fd, FunD K "upper_limit" "Move.upper_limit" (defArgs (sMove 24)) (defBody (sMove 24)) (defScope (sMove 24)) [] [] (He.ma K (aM K) "upper_limit") fd ∧ Binds K fd ["self", "cut"] [] := by
  obtain ⟨fd, F⟩ : ∃ fd, FunD K "upper_limit" "Move.upper_limit" (defArgs (sMove 24)) (defBody (sMove 24)) (defScope (sMove 24)) [] [] (He.ma K (aM K) "upper_limit") fd := Y.D.def_ 45 rfl
  exact ⟨fd, F, F.bindsN fun _ _ _ _ _ _ us hl => match us, hl with | [_, _], _ => rfl⟩
theorem d_Move_lower_limit (Y : HY K h mg) : ∃ fd, FunD K "lower_limit" "Move.lower_limit" (defArgs (sMove 25)) (defBody (sMove 25)) (defScope (sMove 25)) [] [] (He.ma K (aM K) "lower_limit") fd ∧ Binds K fd ["self", "cut"] [] := by
  obtain ⟨fd, F⟩ : ∃ fd, FunD K "lower_limit" "Move.lower_limit" (defArgs (sMove 25)) (defBody (sMove 25)) (defScope (sMove 25)) [] [] (He.ma K (aM K) "lower_limit") fd := Y.D.def_ 46 rfl
  exact ⟨fd, F, F.bindsN fun _ _ _ _ _ _ us hl => match us, hl with | [_, _], _ => rfl⟩
theorem d_Move_eq (Y : HY K h mg) : ∃ fd, FunD K "__eq__" "Move.__eq__" (defArgs (sMove 26)) (defBody (sMove 26)) (defScope (sMove 26)) [] [] (He.ma K (aM K) "__eq__") fd ∧ Binds K fd ["self", "other"] [] := by
  obtain ⟨fd, F⟩ : ∃ fd, FunD K "__eq__" "Move.__eq__" (defArgs (sMove 26)) (defBody (sMove 26)) (defScope (sMove 26)) [] [] (He.ma K (aM K) "__eq__") fd := Y.D.def_ 47 rfl
  exact ⟨fd, F, F.bindsN fun _ _ _ _ _ _ us hl => match us, hl with | [_, _], _ => rfl⟩
theorem d_WayBack_init (Y : HY K h mg) : ∃ fd, FunD K "__init__" "WayBack.__init__" (defArgs (sWay 0)) (defBody (sWay 0)) (defScope (sWay 0)) [] [] (He.ma K (aW K) "__init__") fd ∧ Binds K fd ["self", "move", "within"] [] := by
  obtain ⟨fd, F⟩ : ∃ fd, FunD K "__init__" "WayBack.__init__" (defArgs (sWay 0)) (defBody (sWay 0)) (defScope (sWay 0)) [] [] (He.ma K (aW K) "__init__") fd := Y.D.def_ 48 rfl
  exact ⟨fd, F, F.bindsN fun _ _ _ _ _ _ us hl => match us, hl with | [_, _, _], _ => rfl⟩
theorem d_WayBack_led (Y : HY K h mg) : ∃ fd, FunD K "led" "WayBack.led" (defArgs (sWay 1)) (defBody (sWay 1)) (defScope (sWay 1)) [] [] (He.ma K (aW K) "led") fd ∧ Binds K fd ["self", "cut"] [] := by
  obtain ⟨fd, F⟩ : ∃ fd, FunD K "led" "WayBack.led" (defArgs (sWay 1)) (defBody (sWay 1)) (defScope (sWay 1)) [] [] (He.ma K (aW K) "led") fd := Y.D.def_ 49 rfl
  exact ⟨fd, F, F.bindsN fun _ _ _ _ _ _ us hl => match us, hl with | [_, _], _ => rfl⟩
end
end K18
set_option maxHeartbeats 0
namespace K18
open PySem PySem.Spec PyProof.Rows L2 GL
theorem facts {P : Program} {w : World} {K : PySem.W.Frag} {h : Heap} {mg : Str → Option Value} {f : Addr} (Y : HY K h mg) (hfa : mg ("law" : Str) = some (.ref f)) :
    ∃ fd : FuncData, (∀ (s : Shared) (v : Value), BindsTo s fd ⟨[v], []⟩ [("_law_script", v)]) ∧ ∀ base : Heap, K.In base → base.Ns mainGlobals mg → FnOk P w K mg base CX0 13 f fd ["_law_script"] (spLaw K) := by
  have T := rf Y
  have TG := gf Y
  have TM := mf Y
  have TW := wf Y
  have FR := free_ Y
  obtain ⟨fd_is_integer, D_is_integer, b_is_integer⟩ := d_is_integer Y
  have F_is_integer := fun_of (st := tp 14) D_is_integer
  have g_is_integer : mg "is_integer" = some (.ref (He.ga K "is_integer")) := (He.glo_ok Y.X Y.G (Y.D.fact 0 (f := .glo "is_integer") rfl))
  obtain ⟨fd_is_number, D_is_number, b_is_number⟩ := d_is_number Y
  have F_is_number := fun_of (st := tp 16) D_is_number
  have g_is_number : mg "is_number" = some (.ref (He.ga K "is_number")) := (He.glo_ok Y.X Y.G (Y.D.fact 1 (f := .glo "is_number") rfl))
  obtain ⟨fd_is_cut, D_is_cut, b_is_cut⟩ := d_is_cut Y
  have F_is_cut := fun_of (st := tp 20) D_is_cut
  have g_is_cut : mg "is_cut" = some (.ref (He.ga K "is_cut")) := (He.glo_ok Y.X Y.G (Y.D.fact 4 (f := .glo "is_cut") rfl))
  obtain ⟨fd_is_stretch, D_is_stretch, b_is_stretch⟩ := d_is_stretch Y
  have F_is_stretch := fun_of (st := tp 21) D_is_stretch
  have g_is_stretch : mg "is_stretch" = some (.ref (He.ga K "is_stretch")) := (He.glo_ok Y.X Y.G (Y.D.fact 5 (f := .glo "is_stretch") rfl))
  obtain ⟨fd_ratio_cut, D_ratio_cut, b_ratio_cut⟩ := d_ratio_cut Y
  have F_ratio_cut := fun_of (st := tp 22) D_ratio_cut
  have g_ratio_cut : mg "ratio_cut" = some (.ref (He.ga K "ratio_cut")) := (He.glo_ok Y.X Y.G (Y.D.fact 6 (f := .glo "ratio_cut") rfl))
  obtain ⟨fd_is_above, D_is_above, b_is_above⟩ := d_is_above Y
  have F_is_above := fun_of (st := tp 23) D_is_above
  have g_is_above : mg "is_above" = some (.ref (He.ga K "is_above")) := (He.glo_ok Y.X Y.G (Y.D.fact 7 (f := .glo "is_above") rfl))
  obtain ⟨fd_is_ahead, D_is_ahead, b_is_ahead⟩ := d_is_ahead Y
  have F_is_ahead := fun_of (st := tp 24) D_is_ahead
  have g_is_ahead : mg "is_ahead" = some (.ref (He.ga K "is_ahead")) := (He.glo_ok Y.X Y.G (Y.D.fact 8 (f := .glo "is_ahead") rfl))
  obtain ⟨fd_precedes, D_precedes, b_precedes⟩ := d_precedes Y
  have F_precedes := fun_of (st := tp 25) D_precedes
  have g_precedes : mg "precedes" = some (.ref (He.ga K "precedes")) := (He.glo_ok Y.X Y.G (Y.D.fact 9 (f := .glo "precedes") rfl))
  obtain ⟨fd_is_within, D_is_within, b_is_within⟩ := d_is_within Y
  have F_is_within := fun_of (st := tp 26) D_is_within
  have g_is_within : mg "is_within" = some (.ref (He.ga K "is_within")) := (He.glo_ok Y.X Y.G (Y.D.fact 10 (f := .glo "is_within") rfl))
  obtain ⟨fd_mark_of, D_mark_of, b_mark_of⟩ := d_mark_of Y
  have F_mark_of := fun_of (st := tp 27) D_mark_of
  have g_mark_of : mg "mark_of" = some (.ref (He.ga K "mark_of")) := (He.glo_ok Y.X Y.G (Y.D.fact 11 (f := .glo "mark_of") rfl))
  obtain ⟨fd_whole_turns, D_whole_turns, b_whole_turns⟩ := d__whole_turns Y
  have F_whole_turns := fun_of (st := tp 33) D_whole_turns
  have g_whole_turns : mg "_whole_turns" = some (.ref (He.ga K "_whole_turns")) := (He.glo_ok Y.X Y.G (Y.D.fact 15 (f := .glo "_whole_turns") rfl))
  obtain ⟨fd_check_divisor, D_check_divisor, b_check_divisor⟩ := d__check_divisor Y
  have F_check_divisor := fun_of (st := tp 34) D_check_divisor
  have g_check_divisor : mg "_check_divisor" = some (.ref (He.ga K "_check_divisor")) := (He.glo_ok Y.X Y.G (Y.D.fact 16 (f := .glo "_check_divisor") rfl))
  obtain ⟨fd_check_part, D_check_part, b_check_part⟩ := d__check_part Y
  have F_check_part := fun_of (st := tp 35) D_check_part
  have g_check_part : mg "_check_part" = some (.ref (He.ga K "_check_part")) := (He.glo_ok Y.X Y.G (Y.D.fact 17 (f := .glo "_check_part") rfl))
  obtain ⟨fd_check_range, D_check_range, b_check_range⟩ := d__check_range Y
  have F_check_range := fun_of (st := tp 36) D_check_range
  have g_check_range : mg "_check_range" = some (.ref (He.ga K "_check_range")) := (He.glo_ok Y.X Y.G (Y.D.fact 18 (f := .glo "_check_range") rfl))
  obtain ⟨fd_check_other, D_check_other, b_check_other⟩ := d__check_other Y
  have F_check_other := fun_of (st := tp 37) D_check_other
  have g_check_other : mg "_check_other" = some (.ref (He.ga K "_check_other")) := (He.glo_ok Y.X Y.G (Y.D.fact 19 (f := .glo "_check_other") rfl))
  obtain ⟨fd_lrng, D_lrng, b_lrng⟩ := d__law_rng Y
  have F_lrng := fun_of (st := tp 39) D_lrng
  have g_lrng : mg "_law_rng" = some (.ref (He.ga K "_law_rng")) := (He.glo_ok Y.X Y.G (Y.D.fact 20 (f := .glo "_law_rng") rfl))
  obtain ⟨fd_ldraw, D_ldraw, b_ldraw⟩ := d__law_draw Y
  have F_ldraw := fun_of (st := tp 40) D_ldraw
  have g_ldraw : mg "_law_draw" = some (.ref (He.ga K "_law_draw")) := (He.glo_ok Y.X Y.G (Y.D.fact 21 (f := .glo "_law_draw") rfl))
  obtain ⟨fd_lchoice, D_lchoice, b_lchoice⟩ := d__law_choice Y
  have F_lchoice := fun_of (st := tp 41) D_lchoice
  have g_lchoice : mg "_law_choice" = some (.ref (He.ga K "_law_choice")) := (He.glo_ok Y.X Y.G (Y.D.fact 22 (f := .glo "_law_choice") rfl))
  obtain ⟨fd_lplain, D_lplain, b_lplain⟩ := d__law_plain Y
  have F_lplain := fun_of (st := tp 42) D_lplain
  have g_lplain : mg "_law_plain" = some (.ref (He.ga K "_law_plain")) := (He.glo_ok Y.X Y.G (Y.D.fact 23 (f := .glo "_law_plain") rfl))
  obtain ⟨fd_lfraction, D_lfraction, b_lfraction⟩ := d__law_fraction Y
  have F_lfraction := fun_of (st := tp 43) D_lfraction
  have g_lfraction : mg "_law_fraction" = some (.ref (He.ga K "_law_fraction")) := (He.glo_ok Y.X Y.G (Y.D.fact 24 (f := .glo "_law_fraction") rfl))
  obtain ⟨fd_lthing, D_lthing, b_lthing⟩ := d__law_thing Y
  have F_lthing := fun_of (st := tp 44) D_lthing
  have g_lthing : mg "_law_thing" = some (.ref (He.ga K "_law_thing")) := (He.glo_ok Y.X Y.G (Y.D.fact 25 (f := .glo "_law_thing") rfl))
  obtain ⟨fd_lratios_right, D_lratios_right, b_lratios_right⟩ := d__law_ratios_right Y
  have F_lratios_right := fun_of (st := tp 45) D_lratios_right
  have g_lratios_right : mg "_law_ratios_right" = some (.ref (He.ga K "_law_ratios_right")) := (He.glo_ok Y.X Y.G (Y.D.fact 26 (f := .glo "_law_ratios_right") rfl))
  obtain ⟨fd_lcuts_right, D_lcuts_right, b_lcuts_right⟩ := d__law_cuts_right Y
  have F_lcuts_right := fun_of (st := tp 46) D_lcuts_right
  have g_lcuts_right : mg "_law_cuts_right" = some (.ref (He.ga K "_law_cuts_right")) := (He.glo_ok Y.X Y.G (Y.D.fact 27 (f := .glo "_law_cuts_right") rfl))
  obtain ⟨fd_lranges_right, D_lranges_right, b_lranges_right⟩ := d__law_ranges_right Y
  have F_lranges_right := fun_of (st := tp 47) D_lranges_right
  have g_lranges_right : mg "_law_ranges_right" = some (.ref (He.ga K "_law_ranges_right")) := (He.glo_ok Y.X Y.G (Y.D.fact 28 (f := .glo "_law_ranges_right") rfl))
  obtain ⟨fd_lmoves_right, D_lmoves_right, b_lmoves_right⟩ := d__law_moves_right Y
  have F_lmoves_right := fun_of (st := tp 48) D_lmoves_right
  have g_lmoves_right : mg "_law_moves_right" = some (.ref (He.ga K "_law_moves_right")) := (He.glo_ok Y.X Y.G (Y.D.fact 29 (f := .glo "_law_moves_right") rfl))
  obtain ⟨fd_lclass_methods_right, D_lclass_methods_right, b_lclass_methods_right⟩ := d__law_class_methods_right Y
  have F_lclass_methods_right := fun_of (st := tp 49) D_lclass_methods_right
  have g_lclass_methods_right : mg "_law_class_methods_right" = some (.ref (He.ga K "_law_class_methods_right")) := (He.glo_ok Y.X Y.G (Y.D.fact 30 (f := .glo "_law_class_methods_right") rfl))
  obtain ⟨fd_lright, D_lright, b_lright⟩ := d__law_right Y
  have F_lright := fun_of (st := tp 50) D_lright
  have g_lright : mg "_law_right" = some (.ref (He.ga K "_law_right")) := (He.glo_ok Y.X Y.G (Y.D.fact 31 (f := .glo "_law_right") rfl))
  obtain ⟨fd_law, D_law, b_law⟩ := d_law Y
  have F_law := fun_of (st := tp 51) D_law
  have g_law : mg "law" = some (.ref (He.ga K "law")) := (He.glo_ok Y.X Y.G (Y.D.fact 32 (f := .glo "law") rfl))
  obtain ⟨fd_Ratio_init, F_Ratio_init⟩ := d_Ratio_init Y
  obtain ⟨fd_Ratio_of, F_Ratio_of, b_Ratio_of⟩ := d_Ratio_of Y
  obtain ⟨fd_Ratio_top, F_Ratio_top, b_Ratio_top⟩ := d_Ratio_top Y
  obtain ⟨fd_Ratio_bottom, F_Ratio_bottom, b_Ratio_bottom⟩ := d_Ratio_bottom Y
  obtain ⟨fd_Ratio_sign, F_Ratio_sign, b_Ratio_sign⟩ := d_Ratio_sign Y
  obtain ⟨fd_Ratio_is_below, F_Ratio_is_below, b_Ratio_is_below⟩ := d_Ratio_is_below Y
  obtain ⟨fd_Ratio_over, F_Ratio_over, b_Ratio_over⟩ := d_Ratio_over Y
  obtain ⟨fd_Ratio_add, F_Ratio_add, b_Ratio_add⟩ := d_Ratio_add Y
  obtain ⟨fd_Ratio_sub, F_Ratio_sub, b_Ratio_sub⟩ := d_Ratio_sub Y
  obtain ⟨fd_Ratio_mul, F_Ratio_mul, b_Ratio_mul⟩ := d_Ratio_mul Y
  obtain ⟨fd_Ratio_eq, F_Ratio_eq, b_Ratio_eq⟩ := d_Ratio_eq Y
  obtain ⟨fd_Ratio_str, F_Ratio_str, b_Ratio_str⟩ := d_Ratio_str Y
  obtain ⟨fd_Range_init, F_Range_init, b_Range_init⟩ := d_Range_init Y
  obtain ⟨fd_Range_low, F_Range_low, b_Range_low⟩ := d_Range_low Y
  obtain ⟨fd_Range_high, F_Range_high, b_Range_high⟩ := d_Range_high Y
  obtain ⟨fd_Range_outer, F_Range_outer, b_Range_outer⟩ := d_Range_outer Y
  obtain ⟨fd_Range_is_inner, F_Range_is_inner, b_Range_is_inner⟩ := d_Range_is_inner Y
  obtain ⟨fd_Range_fit, F_Range_fit, b_Range_fit⟩ := d_Range_fit Y
  obtain ⟨fd_Range_has_stretch, F_Range_has_stretch, b_Range_has_stretch⟩ := d_Range_has_stretch Y
  obtain ⟨fd_Range_contains, F_Range_contains, b_Range_contains⟩ := d_Range_contains Y
  obtain ⟨fd_Range_eq, F_Range_eq, b_Range_eq⟩ := d_Range_eq Y
  obtain ⟨fd_Move_init, F_Move_init, b_Move_init⟩ := d_Move_init Y
  obtain ⟨fd_Move_setting, F_Move_setting, b_Move_setting⟩ := d_Move_setting Y
  obtain ⟨fd_Move_staying, F_Move_staying, b_Move_staying⟩ := d_Move_staying Y
  obtain ⟨fd_Move_adding, F_Move_adding, b_Move_adding⟩ := d_Move_adding Y
  obtain ⟨fd_Move_dividing, F_Move_dividing, b_Move_dividing⟩ := d_Move_dividing Y
  obtain ⟨fd_Move_divisor, F_Move_divisor, b_Move_divisor⟩ := d_Move_divisor Y
  obtain ⟨fd_Move_plus, F_Move_plus, b_Move_plus⟩ := d_Move_plus Y
  obtain ⟨fd_Move_low, F_Move_low, b_Move_low⟩ := d_Move_low Y
  obtain ⟨fd_Move_high, F_Move_high, b_Move_high⟩ := d_Move_high Y
  obtain ⟨fd_Move_at, F_Move_at, b_Move_at⟩ := d_Move_at Y
  obtain ⟨fd_Move_free, F_Move_free, b_Move_free⟩ := d_Move_free Y
  obtain ⟨fd_Move_then, F_Move_then, b_Move_then⟩ := d_Move_then Y
  obtain ⟨fd_Move_back, F_Move_back, b_Move_back⟩ := d_Move_back Y
  obtain ⟨fd_Move_upper_image, F_Move_upper_image, b_Move_upper_image⟩ := d_Move_upper_image Y
  obtain ⟨fd_Move_lower_image, F_Move_lower_image, b_Move_lower_image⟩ := d_Move_lower_image Y
  obtain ⟨fd_Move_form, F_Move_form, b_Move_form⟩ := d_Move_form Y
  obtain ⟨fd_Move_is_alike, F_Move_is_alike, b_Move_is_alike⟩ := d_Move_is_alike Y
  obtain ⟨fd_Move_done, F_Move_done, b_Move_done⟩ := d_Move_done Y
  obtain ⟨fd_Move_raised, F_Move_raised, b_Move_raised⟩ := d_Move_raised Y
  obtain ⟨fd_Move_held, F_Move_held, b_Move_held⟩ := d_Move_held Y
  obtain ⟨fd_Move_tends, F_Move_tends, b_Move_tends⟩ := d_Move_tends Y
  obtain ⟨fd_Move_limit_of, F_Move_limit_of, b_Move_limit_of⟩ := d_Move_limit_of Y
  obtain ⟨fd_Move_fixed, F_Move_fixed, b_Move_fixed⟩ := d_Move_fixed Y
  obtain ⟨fd_Move_turns_from, F_Move_turns_from, b_Move_turns_from⟩ := d_Move_turns_from Y
  obtain ⟨fd_Move_upper_limit, F_Move_upper_limit, b_Move_upper_limit⟩ := d_Move_upper_limit Y
  obtain ⟨fd_Move_lower_limit, F_Move_lower_limit, b_Move_lower_limit⟩ := d_Move_lower_limit Y
  obtain ⟨fd_Move_eq, F_Move_eq, b_Move_eq⟩ := d_Move_eq Y
  obtain ⟨fd_WayBack_init, F_WayBack_init, b_WayBack_init⟩ := d_WayBack_init Y
  obtain ⟨fd_WayBack_led, F_WayBack_led, b_WayBack_led⟩ := d_WayBack_led Y
  obtain ⟨dI, vI, bI, bI0⟩ := rInit_binds F_Ratio_init
  have e := hfa.symm.trans g_law
  cases e
  refine ⟨fd_law, fun s v => ?_, fun base _ _ => ?_⟩
  · exact FunD.bindsA (ps := ["_law_script"]) D_law (fun _ _ _ _ _ _ us hl => match us, hl with | [_], _ => rfl) s [v] rfl
  · have OI : FnOk P w K mg base CX0 1 _ fd_is_integer ["value"] (spIsInt K) := ok_isInt F_is_integer T
    have ORI : FnOk P w K mg base CX0 2 _ fd_Ratio_init ["self", "top", "bottom"] (spRInit K) := ok_rInit F_Ratio_init T F_is_integer g_is_integer b_is_integer (PySem.W.mg_of Y.X Y.G (He.eqO_ok (Y.chk 46 (b := He.eqO (PySem.W.nsIn K mainGlobals "gcd") (some (some (.builtin "math.gcd")))) rfl)))
    have G : RG P w K mg base := ⟨T, (of_decide_eq_true (Y.chk 12 (b := decide (PySem.W.kitOne K (.type "int") (.ref (He.ga K "Ratio")) = some false)) rfl)), ⟨_, _, OI, g_is_integer, b_is_integer, D_is_integer.kp⟩, ⟨_, _, dI, (He.mkr_ok (Y.D.fact 49 (f := .mkr "Ratio") rfl)), ORI, vI, bI, bI0⟩⟩
    have OOf : FnOk P w K mg base CX0 4 _ fd_Ratio_of ["cls", "number"] (spOf K) := ok_of F_Ratio_of G
    have Rh : RH P w K mg base := ⟨G, ⟨_, _, _, creadR Y, cmetB_ok (Y.chk 27 (b := cmetB K (He.ga K "Ratio") (.type "type") "of") rfl), toR OOf b_Ratio_of⟩⟩
    have OBl : FnOk P w K mg base CX0 5 _ fd_Ratio_is_below ["self", "other"] (spBelow K) := ok_below F_Ratio_is_below Rh
    have OOv : FnOk P w K mg base CX0 5 _ fd_Ratio_over ["self", "other"] (spBin K rOver fun _ r => r.num ≠ 0) := ok_over F_Ratio_over Rh
    have OAd : FnOk P w K mg base CX0 5 _ fd_Ratio_add ["self", "other"] (spBin K rAdd fun _ _ => True) := ok_rAdd F_Ratio_add Rh
    have OSb : FnOk P w K mg base CX0 5 _ fd_Ratio_sub ["self", "other"] (spBin K rSub fun _ _ => True) := ok_rSub F_Ratio_sub Rh
    have OMl : FnOk P w K mg base CX0 5 _ fd_Ratio_mul ["self", "other"] (spBin K rMul fun _ _ => True) := ok_rMul F_Ratio_mul Rh
    have OEq : FnOk P w K mg base CX0 1 _ fd_Ratio_eq ["self", "other"] (spREq K) := ok_rEq F_Ratio_eq T
    have OIn : FnOk P w K mg base CX0 2 _ fd_is_number ["value"] (spIsNum K) := ok_isNum F_is_number T F_is_integer g_is_integer b_is_integer (of_decide_eq_true (Y.chk 12 (b := decide (PySem.W.kitOne K (.type "int") (.ref (He.ga K "Ratio")) = some false)) rfl))
    have I : RI P w K mg base := ⟨Rh, ⟨_, _, OIn, g_is_number, b_is_number, D_is_number.kp⟩, ⟨_, _, (He.meth_ok (Y.D.fact 67 (f := .meth "Ratio" "is_below") rfl)), OBl, b_Ratio_is_below⟩, ⟨_, ⟨(He.meth_ok (Y.D.fact 73 (f := .meth "Ratio" "__eq__") rfl)), (He.eqO_ok (Y.chk 4 (b := He.eqO (PySem.W.findIn K (.ref (He.ga K "Ratio")) "__ne__") (some (some (.builtin "object.__ne__")))) rfl)), (of_decide_eq_true (Y.chk 3 (b := decide (PySem.W.mroIn K (He.ga K "Ratio") (.type "object") = some true)) rfl))⟩, toR OEq b_Ratio_eq⟩, FR.len, (He.free_ok Y.X Y.G (Y.D.fact 45 (f := .free "tuple") rfl))⟩
    have OIc : FnOk P w K mg base CX0 3 _ fd_is_cut ["value"] (spIsCut K) := ok_isCut F_is_cut I
    have ORc : FnOk P w K mg base CX0 5 _ fd_ratio_cut ["cut"] (spRatioCut K) := ok_ratioCut F_ratio_cut I F_is_cut g_is_cut b_is_cut
    have J : RJ P w K mg base := ⟨I, ⟨_, _, ORc, g_ratio_cut, b_ratio_cut, D_ratio_cut.kp⟩⟩
    have OAb : FnOk P w K mg base CX0 6 _ fd_is_above ["number", "cut"] (spIsAbove K) := ok_isAbove F_is_above J
    have OPr : FnOk P w K mg base CX0 6 _ fd_precedes ["one", "other"] (spPrec K) := ok_prec F_precedes J
    have OAh : FnOk P w K mg base CX0 7 _ fd_is_ahead ["one", "other"] (spIsAhead K) := ok_isAhead F_is_ahead J F_precedes g_precedes b_precedes
    have C : RK P w K mg base := ⟨J, ⟨_, _, OIc, g_is_cut, b_is_cut, D_is_cut.kp⟩, ⟨_, _, OAb, g_is_above, b_is_above, D_is_above.kp⟩, ⟨_, _, OAh, g_is_ahead, b_is_ahead, D_is_ahead.kp⟩, ⟨_, own_add Y, toR OAd b_Ratio_add⟩, ⟨_, _, (He.meth_ok (Y.D.fact 68 (f := .meth "Ratio" "over") rfl)), OOv, b_Ratio_over⟩⟩
    have OSt : FnOk P w K mg base CX0 8 _ fd_is_stretch ["value"] (spIsStretch K) := ok_isStretch F_is_stretch C
    have OWi : FnOk P w K mg base CX0 9 _ fd_is_within ["number", "stretch"] (spIsWithin K) := ok_isWithin F_is_within C F_is_stretch g_is_stretch b_is_stretch
    have OMk : FnOk P w K mg base CX0 9 _ fd_mark_of ["stretch"] (spMarkOf K) := ok_markOf F_mark_of C F_is_stretch g_is_stretch b_is_stretch
    have OGI : FnOk P w K mg base CX0 6 _ fd_Range_init ["self", "low", "high"] (spGInit K) := ok_gInit F_Range_init C TG
    have OGl : FnOk P w K mg base CX0 1 _ fd_Range_low ["self"] (spGetR K fun q _ => q) := ok_g_low F_Range_low TG
    have OGh : FnOk P w K mg base CX0 1 _ fd_Range_high ["self"] (spGetR K fun _ r => r) := ok_g_high F_Range_high TG
    have OOu : FnOk P w K mg base CX0 1 _ fd_Range_outer ["self"] (spOuter K) := ok_outer F_Range_outer TG
    have OOR : FnOk P w K mg base CX0 1 _ fd_Range_outer ["self"] (spOuterR K) := ok_outerR F_Range_outer TG
    have L : RL P w K mg base := ⟨C, TG, ⟨_, _, (He.meth_ok (Y.D.fact 75 (f := .meth "Range" "outer") rfl)), OOu, b_Range_outer⟩⟩
    have OInn : FnOk P w K mg base CX0 8 _ fd_Range_is_inner ["self", "cut"] (spInner K) := ok_inner F_Range_is_inner L
    have OFit : FnOk P w K mg base CX0 9 _ fd_Range_fit ["self", "cut"] (spFitR K) := ok_fitR F_Range_fit L ⟨_, _, (He.meth_ok (Y.D.fact 75 (f := .meth "Range" "outer") rfl)), OOR, b_Range_outer⟩ ⟨_, _, (He.meth_ok (Y.D.fact 76 (f := .meth "Range" "is_inner") rfl)), OInn, b_Range_is_inner⟩
    have OHas : FnOk P w K mg base CX0 9 _ fd_Range_has_stretch ["self", "value"] (spHas K) := ok_has F_Range_has_stretch L F_is_stretch g_is_stretch b_is_stretch
    have OHol : FnOk P w K mg base CX0 6 _ fd_Range_contains ["self", "value"] (spHolds K) := ok_holds F_Range_contains L
    have OGE : FnOk P w K mg base CX0 2 _ fd_Range_eq ["self", "other"] (spGEq K) := ok_gEq F_Range_eq I TG
    have OCD : FnOk P w K mg base CX0 2 _ fd_check_divisor ["value"] spChkDiv := ok_chkDiv F_check_divisor G
    have OCP : FnOk P w K mg base CX0 3 _ fd_check_part ["name", "value"] (spChkPart K) := ok_chkPart F_check_part I
    have M : RM P w K mg base := ⟨L, TM, ⟨_, _, OCD, g_check_divisor, b_check_divisor, D_check_divisor.kp⟩, ⟨_, _, OCP, g_check_part, b_check_part, D_check_part.kp⟩⟩
    have OMI : FnOk P w K mg base CX0 6 _ fd_Move_init ["self", "divisor", "plus", "low", "high"] (spMInit K) := ok_mInit F_Move_init M
    have OFr : FnOk P w K mg base CX0 6 _ fd_Move_free ["self", "number"] (spFree K) := ok_free F_Move_free M
    have OHe : FnOk P w K mg base CX0 6 _ fd_Move_held ["self", "ratio"] (spHeld K) := ok_held F_Move_held M
    have OAt : FnOk P w K mg base CX0 7 _ fd_Move_at ["self", "number"] (spAt K) := ok_at F_Move_at M F_Move_free (He.meth_ok (Y.D.fact 82 (f := .meth "Move" "_free") rfl)) b_Move_free F_Move_held (He.meth_ok (Y.D.fact 91 (f := .meth "Move" "_held") rfl)) b_Move_held
    have OCR : FnOk P w K mg base CX0 1 _ fd_check_range ["value"] (spChkRange K) := ok_chkRange F_check_range L
    have OCO : FnOk P w K mg base CX0 1 _ fd_check_other ["value"] (spChkOther K) := ok_chkOther F_check_other M
    have N : RN P w K mg base := ⟨M, ⟨_, _, (He.mkr_ok (Y.D.fact 59 (f := .mkr "Move") rfl)), OMI, b_Move_init⟩, ⟨_, _, (He.meth_ok (Y.D.fact 82 (f := .meth "Move" "_free") rfl)), OFr, b_Move_free⟩, ⟨_, _, (He.meth_ok (Y.D.fact 91 (f := .meth "Move" "_held") rfl)), OHe, b_Move_held⟩, ⟨_, _, (He.meth_ok (Y.D.fact 81 (f := .meth "Move" "at") rfl)), OAt, b_Move_at⟩, ⟨_, own_mul Y, toR OMl b_Ratio_mul⟩, ⟨_, own_sub Y, toR OSb b_Ratio_sub⟩⟩
    have OTh : FnOk P w K mg base CX0 8 _ fd_Move_then ["self", "other"] (spThen K) := ok_then F_Move_then N F_check_other g_check_other b_check_other
    have OUp : FnOk P w K mg base CX0 8 _ fd_Move_upper_image ["self", "cut"] (spImg K cUpB) := ok_up F_Move_upper_image N
    have OLo : FnOk P w K mg base CX0 8 _ fd_Move_lower_image ["self", "cut"] (spImg K cLoB) := ok_lo F_Move_lower_image N
    have pLow : PropX P w K mg base (aG K) "low" (spGetR K fun q _ => q) := ⟨_, _, _, propB_ok (Y.chk 21 (b := propB K (He.ga K "Range") "low") rfl), OGl, b_Range_low⟩
    have pHigh : PropX P w K mg base (aG K) "high" (spGetR K fun _ r => r) := ⟨_, _, _, propB_ok (Y.chk 22 (b := propB K (He.ga K "Range") "high") rfl), OGh, b_Range_high⟩
    have O : RO P w K mg base := ⟨N, pLow, pHigh, ⟨_, _, OCR, g_check_range, b_check_range, D_check_range.kp⟩, ⟨_, _, OCO, g_check_other, b_check_other, D_check_other.kp⟩⟩
    have OFo : FnOk P w K mg base CX0 8 _ fd_Move_form ["self", "within"] (spForm K) := ok_form F_Move_form O
    have OAk : FnOk P w K mg base CX0 9 _ fd_Move_is_alike ["self", "other", "within"] (spAlike K) := ok_alike F_Move_is_alike O F_Move_form (He.meth_ok (Y.D.fact 87 (f := .meth "Move" "form") rfl)) b_Move_form
    have Q : RQ P w K mg base := ⟨O, TW, ⟨_, _, (He.meth_ok (Y.D.fact 75 (f := .meth "Range" "outer") rfl)), OOR, b_Range_outer⟩, ⟨_, _, OPr, g_precedes, b_precedes, D_precedes.kp⟩⟩
    have OWI : FnOk P w K mg base CX0 8 _ fd_WayBack_init ["self", "move", "within"] (spWInit K) := ok_wInit F_WayBack_init Q
    have OMd : FnOk P w K mg base CX0 1 _ fd_Move_divisor ["self"] (spMDiv K) := ok_mDiv F_Move_divisor TM
    have OMp : FnOk P w K mg base CX0 1 _ fd_Move_plus ["self"] (spMGet K fun u _ _ => u) := ok_mPlus F_Move_plus TM
    have OMl_ : FnOk P w K mg base CX0 1 _ fd_Move_low ["self"] (spMGet K fun _ l _ => l) := ok_mLow F_Move_low TM
    have OMh_ : FnOk P w K mg base CX0 1 _ fd_Move_high ["self"] (spMGet K fun _ _ h => h) := ok_mHigh F_Move_high TM
    have pDiv : PropX P w K mg base (aM K) "divisor" (spMDiv K) := ⟨_, _, _, propB_ok (Y.chk 23 (b := propB K (He.ga K "Move") "divisor") rfl), OMd, b_Move_divisor⟩
    have pPlus : PropX P w K mg base (aM K) "plus" (spMGet K fun u _ _ => u) := ⟨_, _, _, propB_ok (Y.chk 24 (b := propB K (He.ga K "Move") "plus") rfl), OMp, b_Move_plus⟩
    have Sx : RS P w K mg base := ⟨Q, pDiv, pPlus⟩
    have OBk : FnOk P w K mg base CX0 10 _ fd_Move_back ["self", "cut", "within"] (spBack K) := ok_back F_Move_back Sx F_WayBack_init (He.mkr_ok (Y.D.fact 66 (f := .mkr "WayBack") rfl)) b_WayBack_init F_WayBack_led (He.meth_ok (Y.D.fact 99 (f := .meth "WayBack" "led") rfl)) b_WayBack_led
    have OSg : FnOk P w K mg base CX0 1 _ fd_Ratio_sign ["self"] (spSign K) := ok_sign F_Ratio_sign T
    have OTp : FnOk P w K mg base CX0 1 _ fd_Ratio_top ["self"] (fun vs H Q _ => ∃ (a : Addr) (q : Rat), vs = [.ref a] ∧ RatAt K H a q ∧ Q (.int q.num) H) := ok_top F_Ratio_top T
    have OBt : FnOk P w K mg base CX0 1 _ fd_Ratio_bottom ["self"] (fun vs H Q _ => ∃ (a : Addr) (q : Rat), vs = [.ref a] ∧ RatAt K H a q ∧ Q (.int (q.den : Int)) H) := ok_bottom F_Ratio_bottom T
    have pSign : PropX P w K mg base (aR K) "sign" (spSign K) := ⟨_, _, _, propB_ok (Y.chk 20 (b := propB K (He.ga K "Ratio") "sign") rfl), OSg, b_Ratio_sign⟩
    have RTx : RT P w K mg base := ⟨Sx, pSign⟩
    have OFx : FnOk P w K mg base CX0 6 _ fd_Move_fixed ["self"] (spFixed K) := ok_fixed F_Move_fixed RTx
    have U : RU P w K mg base := ⟨RTx, ⟨_, _, (He.meth_ok (Y.D.fact 91 (f := .meth "Move" "_held") rfl)), OHe, b_Move_held⟩, ⟨_, _, (He.meth_ok (Y.D.fact 94 (f := .meth "Move" "_fixed") rfl)), OFx, b_Move_fixed⟩, ⟨_, _, (He.meth_ok (Y.D.fact 83 (f := .meth "Move" "then") rfl)), OTh, b_Move_then⟩, ⟨_, _, OI, g_is_integer, b_is_integer, D_is_integer.kp⟩, FR.range⟩
    have OLi : FnOk P w K mg base CX0 9 _ fd_Move_limit_of ["self", "ratio"] (spLimOf K) := ok_limOf F_Move_limit_of U
    have ORa : FnOk P w K mg base CX0 9 _ fd_Move_raised ["self", "times"] (spRaised K) := ok_raised F_Move_raised U
    have V : RV P w K mg base := ⟨U, ⟨_, _, (He.meth_ok (Y.D.fact 90 (f := .meth "Move" "_raised") rfl)), ORa, b_Move_raised⟩, He.int_ok Y.X Y.G (Y.D.fact 101 (f := .int "MOST_TIMES" 100) rfl)⟩
    have ODn : FnOk P w K mg base CX0 10 _ fd_Move_done ["self", "times"] (spDone K) := ok_done F_Move_done V
    have W : RW' P w K mg base := ⟨V, ⟨_, _, (He.meth_ok (Y.D.fact 93 (f := .meth "Move" "_limit_of") rfl)), OLi, b_Move_limit_of⟩, ⟨_, _, _, propB_ok (Y.chk 18 (b := propB K (He.ga K "Ratio") "top") rfl), OTp, b_Ratio_top⟩, ⟨_, _, _, propB_ok (Y.chk 19 (b := propB K (He.ga K "Ratio") "bottom") rfl), OBt, b_Ratio_bottom⟩⟩
    have OWh : FnOk P w K mg base CX0 3 _ fd_whole_turns ["ratio"] (spWhole K) := ok_whole F_whole_turns W
    have OTu : FnOk P w K mg base CX0 8 _ fd_Move_turns_from ["self", "result", "limit"] (spTurns K) := ok_turns F_Move_turns_from W
    have Xx : RX P w K mg base := ⟨W, ⟨_, _, OWh, g_whole_turns, b_whole_turns, D_whole_turns.kp⟩, ⟨_, _, (He.meth_ok (Y.D.fact 95 (f := .meth "Move" "_turns_from") rfl)), OTu, b_Move_turns_from⟩⟩
    have OTe : FnOk P w K mg base CX0 10 _ fd_Move_tends ["self", "number"] (spTends K) := ok_tends F_Move_tends Xx
    have Yx : RY P w K mg base := ⟨Xx, ⟨_, _, (He.meth_ok (Y.D.fact 85 (f := .meth "Move" "upper_image") rfl)), OUp, b_Move_upper_image⟩, ⟨_, _, (He.meth_ok (Y.D.fact 86 (f := .meth "Move" "lower_image") rfl)), OLo, b_Move_lower_image⟩⟩
    have OUl : FnOk P w K mg base CX0 9 _ fd_Move_upper_limit ["self", "cut"] (spLimit K cUpLim) := ok_upLim F_Move_upper_limit Yx
    have OLl : FnOk P w K mg base CX0 9 _ fd_Move_lower_limit ["self", "cut"] (spLimit K cLoLim) := ok_loLim F_Move_lower_limit Yx
    have OME : FnOk P w K mg base CX0 3 _ fd_Move_eq ["self", "other"] (spMEq K) := ok_mEq F_Move_eq M
    have Z : RZ P w K mg base := ⟨N, pLow, pHigh, ⟨_, _, OCR, g_check_range, b_check_range, D_check_range.kp⟩⟩
    have OSe : FnOk P w K mg base CX0 8 _ fd_Move_setting ["cls", "number"] (spSetting K) := ok_setting F_Move_setting Z
    have OSy : FnOk P w K mg base CX0 8 _ fd_Move_staying ["cls", "within"] (spStaying K) := ok_staying F_Move_staying Z
    have OAg : FnOk P w K mg base CX0 8 _ fd_Move_adding ["cls", "number", "within"] (spAdding K) := ok_adding F_Move_adding Z
    have ODi : FnOk P w K mg base CX0 8 _ fd_Move_dividing ["cls", "divisor", "within"] (spDividing K) := ok_dividing F_Move_dividing Z
    have OSr : FnOk P w K mg base CX0 1 _ fd_Ratio_str ["self"] (spStr K) := ok_str F_Ratio_str T FR.str
    have Lrng : FnOk P w K mg base CX0 1 _ fd_lrng ["_law_script", "_law_spot"] (spRng K) := ok_rng F_lrng FR
    have Ldraw : FnOk P w K mg base CX0 1 _ fd_ldraw ["_law_rng_here", "_law_many"] spDraw := ok_draw F_ldraw FR
    have Lchoice : FnOk P w K mg base CX0 2 _ fd_lchoice ["_law_rng_here", "_law_some"] (spChoice K) := ok_choice F_lchoice FR F_ldraw g_ldraw b_ldraw
    have Lplain : FnOk P w K mg base CX0 1 _ fd_lplain ["_law_over", "_law_under"] (spPlain K) := ok_plain F_lplain FR
    have Da : DA P w K mg base := ⟨FR, ⟨_, _, Ldraw, g_ldraw, b_ldraw, D_ldraw.kp⟩, ⟨_, _, Lchoice, g_lchoice, b_lchoice, D_lchoice.kp⟩, ⟨_, _, Lplain, g_lplain, b_lplain, D_lplain.kp⟩⟩
    have Lthing : FnOk P w K mg base CX0 4 _ fd_lthing ["_law_rng_here"] (spThing K) := ok_thing F_lthing Da G F_lfraction g_lfraction b_lfraction
    obtain ⟨i1, k1⟩ := F_Ratio_init.kbindsD (ps := ["self", "top", "bottom"]) 1 ["top", "bottom"] (fun vs _ zs => vs ++ zs) (by simp) (fun r _ z => r.append z) fun _ _ _ _ _ _ _ us its ws l1 l2 l3 => match us, its, ws, l1, l2, l3 with | [_], [_], [_, _], _, _, _ => ⟨_, rfl, rfl⟩
    obtain ⟨i2, k2⟩ := F_Ratio_init.kbindsD (ps := ["self", "top", "bottom"]) 1 ["bottom", "top"] (fun vs _ zs => vs ++ zs.reverse) (by simp) (fun r _ z => r.append (Vals.rev z)) fun _ _ _ _ _ _ _ us its ws l1 l2 l3 => match us, its, ws, l1, l2, l3 with | [_], [_], [_, _], _, _, _ => ⟨_, rfl, rfl⟩
    obtain ⟨i3, k3⟩ := F_Ratio_init.kbindsD (ps := ["self", "top", "bottom"]) 1 ["top"] (fun vs ds zs => vs ++ (zs ++ ds)) (by simp) (fun r d z => r.append (z.append d)) fun _ _ _ _ _ _ _ us its ws l1 l2 l3 => match us, its, ws, l1, l2, l3 with | [_], [_], [_], _, _, _ => ⟨_, rfl, rfl⟩
    have Lr : LR P w K mg base := ⟨I, FR, ⟨_, _, (He.mkr_ok (Y.D.fact 49 (f := .mkr "Ratio") rfl)), ORI, bI0⟩, ⟨_, _, _, (He.mkr_ok (Y.D.fact 49 (f := .mkr "Ratio") rfl)), ORI, k1⟩, ⟨_, _, _, (He.mkr_ok (Y.D.fact 49 (f := .mkr "Ratio") rfl)), ORI, k2⟩, ⟨_, _, _, (He.mkr_ok (Y.D.fact 49 (f := .mkr "Ratio") rfl)), ORI, k3⟩, ⟨_, _, _, _, _, creadR Y, cmetB_ok (Y.chk 27 (b := cmetB K (He.ga K "Ratio") (.type "type") "of") rfl), OOf, (kbn F_Ratio_of 1 _ (fun us ws => us ++ ws) idV (fun r z => r.append z) fun _ _ _ _ _ _ us ws l1 l2 => match us, ws, l1, l2 with | [_], [_], _, _ => rfl)⟩, ⟨_, _, _, OIn, g_is_number, D_is_number.kp, (kbn D_is_number 0 _ (fun us ws => us ++ ws) idV (fun r z => r.append z) fun _ _ _ _ _ _ us ws l1 l2 => match us, ws, l1, l2 with | [], [_], _, _ => rfl)⟩, ⟨_, _, _, (He.meth_ok (Y.D.fact 67 (f := .meth "Ratio" "is_below") rfl)), OBl, (kbn F_Ratio_is_below 1 _ (fun us ws => us ++ ws) idV (fun r z => r.append z) fun _ _ _ _ _ _ us ws l1 l2 => match us, ws, l1, l2 with | [_], [_], _, _ => rfl)⟩, ⟨_, _, (He.meth_ok (Y.D.fact 67 (f := .meth "Ratio" "is_below") rfl)), OBl, b_Ratio_is_below⟩, ⟨_, _, _, (He.meth_ok (Y.D.fact 68 (f := .meth "Ratio" "over") rfl)), OOv, (kbn F_Ratio_over 1 _ (fun us ws => us ++ ws) idV (fun r z => r.append z) fun _ _ _ _ _ _ us ws l1 l2 => match us, ws, l1, l2 with | [_], [_], _, _ => rfl)⟩, ⟨_, _, (He.meth_ok (Y.D.fact 68 (f := .meth "Ratio" "over") rfl)), OOv, b_Ratio_over⟩, pSign, ⟨_, (He.meth_ok (Y.D.fact 74 (f := .meth "Ratio" "__str__") rfl)), toR OSr b_Ratio_str⟩, farRlist Y, farRstr Y⟩
    have Lrr : FnOk P w K mg base CX0 6 _ fd_lratios_right ["_law_first", "_law_second", "_law_top_part", "_law_bottom_part"] (spRR K) := ok_rr F_lratios_right Lr
    have Lc : LC P w K mg base := ⟨Lr, ⟨_, _, _, OIc, g_is_cut, D_is_cut.kp, (kbn D_is_cut 0 _ (fun us ws => us ++ ws) idV (fun r z => r.append z) fun _ _ _ _ _ _ us ws l1 l2 => match us, ws, l1, l2 with | [], [_], _, _ => rfl)⟩, ⟨_, _, _, OAb, g_is_above, D_is_above.kp, (kbn D_is_above 0 _ (fun us ws => us ++ ws.reverse) revV (fun r z => r.append (Vals.rev z)) fun _ _ _ _ _ _ us ws l1 l2 => match us, ws, l1, l2 with | [], [_, _], _, _ => rfl)⟩, ⟨_, _, OAb, g_is_above, b_is_above, D_is_above.kp⟩, ⟨_, _, _, OAh, g_is_ahead, D_is_ahead.kp, (kbn D_is_ahead 0 _ (fun us ws => us ++ ws.reverse) revV (fun r z => r.append (Vals.rev z)) fun _ _ _ _ _ _ us ws l1 l2 => match us, ws, l1, l2 with | [], [_, _], _, _ => rfl)⟩, ⟨_, _, OAh, g_is_ahead, b_is_ahead, D_is_ahead.kp⟩, ⟨_, _, _, OSt, g_is_stretch, D_is_stretch.kp, (kbn D_is_stretch 0 _ (fun us ws => us ++ ws) idV (fun r z => r.append z) fun _ _ _ _ _ _ us ws l1 l2 => match us, ws, l1, l2 with | [], [_], _, _ => rfl)⟩, ⟨_, _, _, OMk, g_mark_of, D_mark_of.kp, (kbn D_mark_of 0 _ (fun us ws => us ++ ws) idV (fun r z => r.append z) fun _ _ _ _ _ _ us ws l1 l2 => match us, ws, l1, l2 with | [], [_], _, _ => rfl)⟩, ⟨_, _, OMk, g_mark_of, b_mark_of, D_mark_of.kp⟩, ⟨_, _, _, OWi, g_is_within, D_is_within.kp, (kbn D_is_within 0 _ (fun us ws => us ++ ws.reverse) revV (fun r z => r.append (Vals.rev z)) fun _ _ _ _ _ _ us ws l1 l2 => match us, ws, l1, l2 with | [], [_, _], _, _ => rfl)⟩, ⟨_, _, OWi, g_is_within, b_is_within, D_is_within.kp⟩⟩
    have Lcr : FnOk P w K mg base CX0 10 _ fd_lcuts_right ["_law_first", "_law_second", "_law_flags"] (spCR K) := ok_cr F_lcuts_right Lc
    have Lg : LG P w K mg base := ⟨Lr, TG, ⟨_, _, (He.mkr_ok (Y.D.fact 53 (f := .mkr "Range") rfl)), OGI, b_Range_init⟩, ⟨_, _, _, (He.mkr_ok (Y.D.fact 53 (f := .mkr "Range") rfl)), OGI, (kbn F_Range_init 1 _ (fun us ws => us ++ ws.reverse) revV (fun r z => r.append (Vals.rev z)) fun _ _ _ _ _ _ us ws l1 l2 => match us, ws, l1, l2 with | [_], [_, _], _, _ => rfl)⟩, ⟨_, ⟨(He.meth_ok (Y.D.fact 80 (f := .meth "Range" "__eq__") rfl)), (He.eqO_ok (Y.chk 7 (b := He.eqO (PySem.W.findIn K (.ref (He.ga K "Range")) "__ne__") (some (some (.builtin "object.__ne__")))) rfl)), (of_decide_eq_true (Y.chk 6 (b := decide (PySem.W.mroIn K (He.ga K "Range") (.type "object") = some true)) rfl))⟩, toR OGE b_Range_eq⟩, ⟨_, _, (He.meth_ok (Y.D.fact 75 (f := .meth "Range" "outer") rfl)), OOR, b_Range_outer⟩, ⟨_, _, _, (He.meth_ok (Y.D.fact 76 (f := .meth "Range" "is_inner") rfl)), OInn, (kbn F_Range_is_inner 1 _ (fun us ws => us ++ ws) idV (fun r z => r.append z) fun _ _ _ _ _ _ us ws l1 l2 => match us, ws, l1, l2 with | [_], [_], _, _ => rfl)⟩, ⟨_, _, (He.meth_ok (Y.D.fact 76 (f := .meth "Range" "is_inner") rfl)), OInn, b_Range_is_inner⟩, ⟨_, _, _, (He.meth_ok (Y.D.fact 77 (f := .meth "Range" "fit") rfl)), OFit, (kbn F_Range_fit 1 _ (fun us ws => us ++ ws) idV (fun r z => r.append z) fun _ _ _ _ _ _ us ws l1 l2 => match us, ws, l1, l2 with | [_], [_], _, _ => rfl)⟩, ⟨_, _, (He.meth_ok (Y.D.fact 77 (f := .meth "Range" "fit") rfl)), OFit, b_Range_fit⟩, ⟨_, _, _, (He.meth_ok (Y.D.fact 78 (f := .meth "Range" "has_stretch") rfl)), OHas, (kbn F_Range_has_stretch 1 _ (fun us ws => us ++ ws) idV (fun r z => r.append z) fun _ _ _ _ _ _ us ws l1 l2 => match us, ws, l1, l2 with | [_], [_], _, _ => rfl)⟩, pLow, pHigh, ⟨_, (He.meth_ok (Y.D.fact 79 (f := .meth "Range" "__contains__") rfl)), toR OHol b_Range_contains⟩, farGtuple Y, FR.list⟩
    have Lgr : FnOk P w K mg base CX0 10 _ fd_lranges_right ["_law_first", "_law_second", "_law_flags"] (spGR K) := ok_gr F_lranges_right Lg
    have Lm : LM P w K mg base := ⟨Lg, TM, ⟨_, ⟨(He.meth_ok (Y.D.fact 98 (f := .meth "Move" "__eq__") rfl)), (He.eqO_ok (Y.chk 10 (b := He.eqO (PySem.W.findIn K (.ref (He.ga K "Move")) "__ne__") (some (some (.builtin "object.__ne__")))) rfl)), (of_decide_eq_true (Y.chk 9 (b := decide (PySem.W.mroIn K (He.ga K "Move") (.type "object") = some true)) rfl))⟩, toR OME b_Move_eq⟩, ⟨_, _, _, (He.meth_ok (Y.D.fact 81 (f := .meth "Move" "at") rfl)), OAt, (kbn F_Move_at 1 _ (fun us ws => us ++ ws) idV (fun r z => r.append z) fun _ _ _ _ _ _ us ws l1 l2 => match us, ws, l1, l2 with | [_], [_], _, _ => rfl)⟩, ⟨_, _, (He.meth_ok (Y.D.fact 81 (f := .meth "Move" "at") rfl)), OAt, b_Move_at⟩, ⟨_, _, _, (He.meth_ok (Y.D.fact 83 (f := .meth "Move" "then") rfl)), OTh, (kbn F_Move_then 1 _ (fun us ws => us ++ ws) idV (fun r z => r.append z) fun _ _ _ _ _ _ us ws l1 l2 => match us, ws, l1, l2 with | [_], [_], _, _ => rfl)⟩, ⟨_, _, (He.meth_ok (Y.D.fact 83 (f := .meth "Move" "then") rfl)), OTh, b_Move_then⟩, ⟨_, _, _, (He.meth_ok (Y.D.fact 84 (f := .meth "Move" "back") rfl)), OBk, (kbn F_Move_back 1 _ (fun us ws => us ++ ws.reverse) revV (fun r z => r.append (Vals.rev z)) fun _ _ _ _ _ _ us ws l1 l2 => match us, ws, l1, l2 with | [_], [_, _], _, _ => rfl)⟩, ⟨_, _, (He.meth_ok (Y.D.fact 84 (f := .meth "Move" "back") rfl)), OBk, b_Move_back⟩, ⟨_, _, _, (He.meth_ok (Y.D.fact 87 (f := .meth "Move" "form") rfl)), OFo, (kbn F_Move_form 1 _ (fun us ws => us ++ ws) idV (fun r z => r.append z) fun _ _ _ _ _ _ us ws l1 l2 => match us, ws, l1, l2 with | [_], [_], _, _ => rfl)⟩, ⟨_, _, (He.meth_ok (Y.D.fact 87 (f := .meth "Move" "form") rfl)), OFo, b_Move_form⟩, ⟨_, _, _, (He.meth_ok (Y.D.fact 85 (f := .meth "Move" "upper_image") rfl)), OUp, (kbn F_Move_upper_image 1 _ (fun us ws => us ++ ws) idV (fun r z => r.append z) fun _ _ _ _ _ _ us ws l1 l2 => match us, ws, l1, l2 with | [_], [_], _, _ => rfl)⟩, ⟨_, _, (He.meth_ok (Y.D.fact 85 (f := .meth "Move" "upper_image") rfl)), OUp, b_Move_upper_image⟩, ⟨_, _, _, (He.meth_ok (Y.D.fact 86 (f := .meth "Move" "lower_image") rfl)), OLo, (kbn F_Move_lower_image 1 _ (fun us ws => us ++ ws) idV (fun r z => r.append z) fun _ _ _ _ _ _ us ws l1 l2 => match us, ws, l1, l2 with | [_], [_], _, _ => rfl)⟩, ⟨_, _, (He.meth_ok (Y.D.fact 86 (f := .meth "Move" "lower_image") rfl)), OLo, b_Move_lower_image⟩, ⟨_, _, _, (He.meth_ok (Y.D.fact 96 (f := .meth "Move" "upper_limit") rfl)), OUl, (kbn F_Move_upper_limit 1 _ (fun us ws => us ++ ws) idV (fun r z => r.append z) fun _ _ _ _ _ _ us ws l1 l2 => match us, ws, l1, l2 with | [_], [_], _, _ => rfl)⟩, ⟨_, _, (He.meth_ok (Y.D.fact 96 (f := .meth "Move" "upper_limit") rfl)), OUl, b_Move_upper_limit⟩, ⟨_, _, _, (He.meth_ok (Y.D.fact 97 (f := .meth "Move" "lower_limit") rfl)), OLl, (kbn F_Move_lower_limit 1 _ (fun us ws => us ++ ws) idV (fun r z => r.append z) fun _ _ _ _ _ _ us ws l1 l2 => match us, ws, l1, l2 with | [_], [_], _, _ => rfl)⟩, ⟨_, _, (He.meth_ok (Y.D.fact 97 (f := .meth "Move" "lower_limit") rfl)), OLl, b_Move_lower_limit⟩, ⟨_, _, _, (He.meth_ok (Y.D.fact 88 (f := .meth "Move" "is_alike") rfl)), OAk, (kbn F_Move_is_alike 1 _ (fun us ws => us ++ ws.reverse) revV (fun r z => r.append (Vals.rev z)) fun _ _ _ _ _ _ us ws l1 l2 => match us, ws, l1, l2 with | [_], [_, _], _, _ => rfl)⟩, ⟨_, _, (He.meth_ok (Y.D.fact 88 (f := .meth "Move" "is_alike") rfl)), OAk, b_Move_is_alike⟩, ⟨_, _, _, (He.meth_ok (Y.D.fact 89 (f := .meth "Move" "done") rfl)), ODn, (kbn F_Move_done 1 _ (fun us ws => us ++ ws) idV (fun r z => r.append z) fun _ _ _ _ _ _ us ws l1 l2 => match us, ws, l1, l2 with | [_], [_], _, _ => rfl)⟩, ⟨_, _, (He.meth_ok (Y.D.fact 89 (f := .meth "Move" "done") rfl)), ODn, b_Move_done⟩, ⟨_, _, _, (He.meth_ok (Y.D.fact 92 (f := .meth "Move" "tends") rfl)), OTe, (kbn F_Move_tends 1 _ (fun us ws => us ++ ws) idV (fun r z => r.append z) fun _ _ _ _ _ _ us ws l1 l2 => match us, ws, l1, l2 with | [_], [_], _, _ => rfl)⟩, ⟨_, _, (He.meth_ok (Y.D.fact 92 (f := .meth "Move" "tends") rfl)), OTe, b_Move_tends⟩, pDiv, pPlus, ⟨_, _, _, propB_ok (Y.chk 25 (b := propB K (He.ga K "Move") "low") rfl), OMl_, b_Move_low⟩, ⟨_, _, _, propB_ok (Y.chk 26 (b := propB K (He.ga K "Move") "high") rfl), OMh_, b_Move_high⟩, farMtuple Y⟩
    have Lmr : FnOk P w K mg base CX0 11 _ fd_lmoves_right ["_law_made", "_law_held", "_law_further", "_law_spot", "_law_part"] (spMR K) := ok_mr F_lmoves_right Lm
    have Ln : LN P w K mg base := ⟨Lm, ⟨_, _, _, _, _, creadM Y, cmetB_ok (Y.chk 30 (b := cmetB K (He.ga K "Move") (.type "type") "setting") rfl), OSe, (kbn F_Move_setting 1 _ (fun us ws => us ++ ws) idV (fun r z => r.append z) fun _ _ _ _ _ _ us ws l1 l2 => match us, ws, l1, l2 with | [_], [_], _, _ => rfl)⟩, ⟨_, _, _, creadM Y, cmetB_ok (Y.chk 30 (b := cmetB K (He.ga K "Move") (.type "type") "setting") rfl), toR OSe b_Move_setting⟩, ⟨_, _, _, _, _, creadM Y, cmetB_ok (Y.chk 31 (b := cmetB K (He.ga K "Move") (.type "type") "staying") rfl), OSy, (kbn F_Move_staying 1 _ (fun us ws => us ++ ws) idV (fun r z => r.append z) fun _ _ _ _ _ _ us ws l1 l2 => match us, ws, l1, l2 with | [_], [_], _, _ => rfl)⟩, ⟨_, _, _, creadM Y, cmetB_ok (Y.chk 31 (b := cmetB K (He.ga K "Move") (.type "type") "staying") rfl), toR OSy b_Move_staying⟩, ⟨_, _, _, _, _, creadM Y, cmetB_ok (Y.chk 32 (b := cmetB K (He.ga K "Move") (.type "type") "adding") rfl), OAg, (kbn F_Move_adding 1 _ (fun us ws => us ++ ws.reverse) revV (fun r z => r.append (Vals.rev z)) fun _ _ _ _ _ _ us ws l1 l2 => match us, ws, l1, l2 with | [_], [_, _], _, _ => rfl)⟩, ⟨_, _, _, creadM Y, cmetB_ok (Y.chk 32 (b := cmetB K (He.ga K "Move") (.type "type") "adding") rfl), toR OAg b_Move_adding⟩, ⟨_, _, _, _, _, creadM Y, cmetB_ok (Y.chk 33 (b := cmetB K (He.ga K "Move") (.type "type") "dividing") rfl), ODi, (kbn F_Move_dividing 1 _ (fun us ws => us ++ ws.reverse) revV (fun r z => r.append (Vals.rev z)) fun _ _ _ _ _ _ us ws l1 l2 => match us, ws, l1, l2 with | [_], [_, _], _, _ => rfl)⟩, ⟨_, _, _, creadM Y, cmetB_ok (Y.chk 33 (b := cmetB K (He.ga K "Move") (.type "type") "dividing") rfl), toR ODi b_Move_dividing⟩⟩
    have Llm : FnOk P w K mg base CX0 9 _ fd_lclass_methods_right ["_law_held", "_law_by", "_law_part"] (spLM K) := ok_lm F_lclass_methods_right Ln
    have Ll : LL P w K mg base := ⟨Ln, Da, ⟨_, _, Lthing, g_lthing, b_lthing, D_lthing.kp⟩, ⟨_, _, Lrr, g_lratios_right, b_lratios_right, D_lratios_right.kp⟩, ⟨_, _, Lcr, g_lcuts_right, b_lcuts_right, D_lcuts_right.kp⟩, ⟨_, _, Lgr, g_lranges_right, b_lranges_right, D_lranges_right.kp⟩, ⟨_, _, Lmr, g_lmoves_right, b_lmoves_right, D_lmoves_right.kp⟩, ⟨_, _, Llm, g_lclass_methods_right, b_lclass_methods_right, D_lclass_methods_right.kp⟩, ⟨_, _, (He.mkr_ok (Y.D.fact 59 (f := .mkr "Move") rfl)), OMI, b_Move_init⟩, ⟨_, _, _, (He.mkr_ok (Y.D.fact 59 (f := .mkr "Move") rfl)), OMI, (kbn F_Move_init 1 _ (fun us ws => us ++ ws.reverse) revV (fun r z => r.append (Vals.rev z)) fun _ _ _ _ _ _ us ws l1 l2 => match us, ws, l1, l2 with | [_], [_, _, _, _], _, _ => rfl)⟩⟩
    have Lright : FnOk P w K mg base CX0 12 _ fd_lright ["_law_rng_here"] (spRight K) := ok_lr F_lright Ll
    exact ok_law F_law FR Lrng D_lrng.kp g_lrng b_lrng Lright D_lright.kp g_lright b_lright
end K18
set_option maxHeartbeats 4000000
/-! The end of a law whose promise lets nothing out, from a hook that tells its K. -/
namespace GL
open PySem PySem.Spec PyProof.Rows L2
theorem walk_K {l : PySem.W.OpenLaw} {n k : Nat} {q : Program} {loose : List Str} {XP : (Str → Option Value) → Heap → Prop} {YP : World → Heap → Prop} {d : DefRec} {x : Str}
    (hn : l.most = some n) (hn2 : n ≤ sizeLine) (hdf : d.params.defaults = []) (hr : Room k callerA)
    (F : ∀ (w : World) (mg : Str → Option Value) (fa : Addr) (h : Heap), YP w h → h.Ns mainGlobals mg → mg d.name = some (.ref fa) →
      ∃ (K : PySem.W.Frag) (fd : FuncData) (sp : Sp), K.In h ∧ (∀ (s : Shared) (u : Value), BindsTo s fd ⟨[u], []⟩ [(x, u)]) ∧
        (∀ (H : Hp) (a : Addr) (ns : List Int), ns.length ≤ n → Only H → SqL K H a (ns.map V.int) → sp [.ref a] H (fun v _ => v = .bl true) fun _ _ _ => False) ∧
        ∀ base : Heap, K.In base → base.Ns mainGlobals mg → FnOk l.prog w K mg base CX0 k fa fd [x] sp) :
    PySem.W.WalkO q loose XP YP l.row.toRowW d [] (fun f vs => PySem.call f vs) := by
  refine Att.attach_call hn hdf fun w s₀ s₁ mg mb fa o pm cd doc a vs ns G Y ho hd hcd hmg hobj hints hlen hg => ?_
  obtain ⟨K, fd, sp, KX, hb, hsp, hF⟩ := F w mg fa _ Y G.T.g hmg
  exact law_call KX G.T.g G.T.b G.T.builtins G.T.nolimit hg hobj hints (Nat.le_trans hlen hn2) hr hF hb (fun H hO hS => hsp H a ns hlen hO hS) fun H e s' z => z
end GL
set_option maxHeartbeats 0
open PySem PySem.W PySem.Calls PyProof.Rows
theorem PySem.Challenge.cw_fademodes_k18_stage_one_by_names_holds : PySem.Challenge.rw_fademodes_k18_stage_one_by_names.Holds := by
  w_on; o_law
  refine HandSHeadRun.head_imp (r := OpenLaw.row PySem.Challenge.rw_fademodes_k18_stage_one_by_names) (q := view (OpenLaw.row PySem.Challenge.rw_fademodes_k18_stage_one_by_names).prog [0, 51]) (H := K18.hk) (ob := K18.ob) (M := 20000) (loose := K18.loose) (d := HandSHeadRun.topDef (OpenLaw.row PySem.Challenge.rw_fademodes_k18_stage_one_by_names).prog 51) (kwd := []) K18.ob_eq
    K18.run (by kernel_rfl) (by kernel_rfl) (by kernel_rfl) (by rfl) (by first | assumption | decide +kernel) (by decide +kernel) ⟨rfl, rfl, rfl, rfl, rfl, by decide +kernel⟩ ?hw ?hc
  case hw => w_witness2
  case hc =>
    refine GL.walk_K (l := PySem.Challenge.rw_fademodes_k18_stage_one_by_names) (n := 63) (k := 13) (x := "_law_script") rfl (by decide) (by kernel_rfl) ⟨rfl, by decide, by decide⟩ ?F
    intro w mg fa h Y G hmg0
    obtain ⟨K, KX, c, cx, b⟩ := Y
    have hmg : mg ("law" : PySem.Str) = some (.ref fa) := by
      have e : (HandSHeadRun.topDef (OpenLaw.row PySem.Challenge.rw_fademodes_k18_stage_one_by_names).prog 51).name = ("law" : PySem.Str) := by kernel_rfl
      rw [← e]
      exact hmg0
    obtain ⟨fd, hb, hF⟩ := K18.facts (P := (PySem.Challenge.rw_fademodes_k18_stage_one_by_names).prog) (w := w) ⟨KX, G, c, cx, (He.ba b).2⟩ hmg
    exact ⟨K, fd, K18.spLaw K, KX, hb, fun H a ns hl _ hS => ⟨a, ns, rfl, hS, hl, fun _ => rfl⟩, hF⟩
