import PyProof.Rows.All
import Wide.All
import OpenK.AllK
import Wide.FinOn
import PyProof.EqAt
import PyProof.EqKinds
import PyProof.TupleCall
import HandS.ForMost
import HandS.ExcInit
import HandS.IsInst
import HandS.Wide
import HandS.WideBits
import HandS.ExcValue
import KE.KExcIs
import KE.KExcInit
import HandS.Defaults
import HandS.HeadHook2
import HandS.HeadEnd
import HandS.Head2
import HandS.Conv
import HandS.Walk
import HandS.Style
import PySem.Challenge.RW_fademodes_k19_errors_and_their_classes
set_option Elab.async false
set_option linter.all false
set_option maxRecDepth 100000
set_option maxHeartbeats 4000000
namespace GL
open PySem PySem.Spec PyProof.Rows L2

/-! ### promises that hold where no container is being shown -/
structure FnG (P : Program) (w : World) (K : PySem.W.Frag) (mg : Str → Option Value) (base : Heap) (CX : CXT) (k : Nat) (f : Addr) (fd : FuncData) (ps : List Str) (sp : Sp) : Prop where
  many : ∀ vs H Q E, sp vs H Q E → vs.length = ps.length
  go : ∀ (A : Around) (outer : List Env) (s : Shared) (H : Hp) (args : Args) (us : List Value) (vs : List V) (Q : VK) (E : XK), A.guards = some [] → Room k A →
    Env0 P w K mg base A outer s H → BindsTo s fd args (ps.zip us) → Vals vs us → sp vs H Q E → codeAny (model P w) A (.call (.ref f) args) (CR CX outer P w H s Q E) s
theorem FnG.of {P : Program} {w : World} {K : PySem.W.Frag} {mg : Str → Option Value} {base : Heap} {CX : CXT} {k : Nat} {f : Addr} {fd : FuncData} {ps : List Str} {sp : Sp} (F : FnOk P w K mg base CX k f fd ps sp) : FnG P w K mg base CX k f fd ps sp :=
  ⟨F.len, fun A outer s H args us vs Q E _ => F.run A outer s H args us vs Q E⟩

section
variable {P : Program} {w : World} {K : PySem.W.Frag} {mg : Str → Option Value} {base : Heap} {CX : CXT}
theorem FnG.ofBody {k : Nat} {f : Addr} {name qual : Str} {params : Arguments} {body : List Stmt} {scope : Scope} {dV kV doc pm cdv ct oc : Value} {an od : Option Addr} {osl : Array (Option Value)} {N ps : List Str} {sp : Sp}
    (lk : K.lookup f = some ⟨oc, od, .func (PySem.W.fnOf name qual params body scope dV kV doc pm an cdv ct), osl⟩) (hcd : PySem.W.codeIn K cdv qual = true) (S : FnScope N ps scope) (many : ∀ vs H Q E, sp vs H Q E → vs.length = ps.length)
    (hbody : ∀ (A : Around) (outer : List Env) (s : Shared) (H : Hp) (vs : List V) (Q : VK) (E : XK), A.guards = some [] → Room k (A.deeper (envOfC qual scope s.heap.objs.size f cdv)) → sp vs H Q E →
      ∃ t, PSs (cxOf CX P w K mg base N qual scope f cdv A outer s H E) body t ∧ t { nx := fun _ H' => Q .non H', rt := Q } (start N vs) H) :
    FnG P w K mg base CX (k + 1) f (PySem.W.fnOf name qual params body scope dV kV doc pm an cdv ct) ps sp := by
  constructor
  · exact many
  intro A outer s H args us vs Q E gd hr e0 hb rv hsp
  have sameLen := many _ _ _ _ hsp
  have inS : K.In s.heap := e0.mod.kin.keeps fun b o e => (e0.bs b o e).1
  have noLim : s.heap.NoLimit := e0.mod.nolimit.keeps fun b o e => (e0.bs b o e).1
  have kinds : ∀ y ∈ ps.zip us, scope.names.lookup y.1 = some .local ∨ (scope.names.lookup y.1 = some .cell ∧ ((cellsFrom (s.heap.objs.size + 1) scope.names []).lookup y.1).isSome = true) := by
    intro y hy
    have hm := (List.of_mem_zip (a := y.1) (b := y.2) hy).1
    exact (S.par y.1 hm).imp id fun q => ⟨q, PySem.W.cellsFrom_some _ _ _ (.inl q)⟩
  apply codeAny_call_function hr.depth (inS _ _ lk) rfl S.co S.gen rfl (PySem.W.codeRec_of inS hcd)
  apply hb
  apply wpAny_newFunctionEnv_cells S.kind kinds
  intro env he s1 entered
  cases he
  refine ⟨noLim.keeps entered.toInCall.keep, codeAny_func ?_⟩
  obtain ⟨t, tOk, tRun⟩ := hbody A outer s H vs Q E gd (hr.deeper _) hsp
  have atStart : Inv (cxOf CX P w K mg base N qual scope f cdv A outer s H E) [] (start N vs) H s1 := inv_start S hr.hd e0 sameLen rv entered
  refine wpAny_mono (tOk.run [] s1 (start N vs) H _ atStart tRun) (fun fl s' hs => ?_) fun e s' hs => hs
  match fl, hs with
  | .ret u, hs =>
    obtain ⟨v, σ', H', J, r, q⟩ := hs
    exact ⟨v, H', J.os, J.bare, J.base, J.hok, r, q⟩
  | .next, hs =>
    obtain ⟨σ', H', J, q⟩ := hs
    exact ⟨V.non, H', J.os, J.bare, J.base, J.hok, rfl, q⟩
  | .brk, hs =>
    obtain ⟨_, _, _, q⟩ := hs
    exact False.elim q
  | .cont, hs =>
    obtain ⟨_, _, _, q⟩ := hs
    exact False.elim q
end

section
variable {X : Cx} {CX : CXT} {k : Nat} {f : Addr} {fd : FuncData} {ps : List Str} {sp : Sp} {dvs : List V} {ds : List Value} {E : XK} {x : Str} {p pos : Pos} {e : Expr} {es : List Expr} {t : TA}
theorem FnG.call {pins : List (Addr × Obj)} {σ : L2.St} {H : Hp} {s : Shared} {Q : VK} {us : List Value} {vs : List V} (F : FnG X.prog X.w X.K X.mg X.base CX k f fd ps sp) (gd : X.A.guards = some []) (hr : Room k X.A) (hb : Binds X.K fd ps ds) (hd : Vals dvs ds)
    (hx : Passes CX X E) (I : Inv X pins σ H s) (r : Vals vs us) (h : sp (vs ++ dvs) H Q E) : wpAny (model X.prog X.w) X.A (PySem.call (.ref f) us) (EP X pins σ Q) X.xe s := by
  have all := r.append hd
  have hl : (us ++ ds).length = ps.length := all.length.symm.trans (F.many _ _ _ _ h)
  apply wpAny_call
  refine codeAny_mono (F.go X.A X.stack s H ⟨us, []⟩ (us ++ ds) (vs ++ dvs) Q E gd hr I.env0 (hb s us I.kIn hl) all h) ?_
  intro r' s' hq
  match r', hq with
  | .error er, hq => exact hx pins σ H s er s' I hq
  | .ok (.ret u), hq => exact I.after hq
  | .ok .next, hq => exact False.elim hq
  | .ok .brk, hq => exact False.elim hq
  | .ok .cont, hq => exact False.elim hq
/-- f(e, ..), f one of these defs -/
theorem pe_callG (F : FnG X.prog X.w X.K X.mg X.base CX k f fd ps sp) (gd : X.A.guards = some []) (hr : Room k X.A) (hg : Gl X x) (hm : X.mg x = some (.ref f)) (hk : PySem.W.keepIn X.K (.ref f) = true) (hb : Binds X.K fd ps ds) (hd : Vals dvs ds) (hx : Passes CX X E)
    (ha : PA X (e :: es) t) (hdb : (x == ("__debug__" : Str)) = false := by decide) (he : starEach (e :: es) X.env = (false, eval e X.env) :: starEach es X.env := by rfl) (hpl : (backTo pos (starEach es X.env)).any (·.1) = false := by rfl) :
    PE X (.Call (.Name x p) (e :: es) [] pos) (tCall sp dvs E t) := by
  constructor
  intro pins s σ H Q I h
  apply wpAny_Call_Name_kw
  refine ld_glob I hg hm ?_ hdb
  refine PySem.W.callWith_K (h₀ := X.base) I.ok.mod.kin hk (thn (ha.run pos pins s σ H _ I h) ?_) he hpl
  rintro us s1 ⟨vs, H1, I1, r, q⟩
  exact ⟨I1.kIn, F.call gd hr hb hd hx I1 r q⟩
theorem pe_callG0 (F : FnG X.prog X.w X.K X.mg X.base CX k f fd ps sp) (gd : X.A.guards = some []) (hr : Room k X.A) (hg : Gl X x) (hm : X.mg x = some (.ref f)) (hk : PySem.W.keepIn X.K (.ref f) = true) (hb : Binds X.K fd ps ds) (hd : Vals dvs ds) (hx : Passes CX X E)
    (hdb : (x == ("__debug__" : Str)) = false := by decide) : PE X (.Call (.Name x p) [] [] pos) (tCall sp dvs E tNil) := by
  constructor
  intro pins s σ H Q I h
  apply wpAny_Call_Name_kw
  refine ld_glob I hg hm ?_ hdb
  exact PySem.W.callWith_K0 I.kIn hk (F.call (us := []) gd hr hb hd hx I .nil h)
end

section
variable {P : Program} {w : World} {K : PySem.W.Frag} {mg : Str → Option Value} {base : Heap}
theorem Fun.okG {x qual : Str} {st : Stmt} {f : Addr} {fd : FuncData} {N ps : List Str} {k : Nat} {sp : Sp} (F : L2.Fun K x qual st f fd) (S : FnScope N ps (defScope st)) (many : ∀ vs H Q E, sp vs H Q E → vs.length = ps.length)
    (hbody : ∀ (cdv : Value) (A : Around) (outer : List Env) (s : Shared) (H : Hp) (vs : List V) (Q : VK) (E : XK), A.guards = some [] → Room k (A.deeper (envOfC qual (defScope st) s.heap.objs.size f cdv)) → sp vs H Q E →
      ∃ t, PSs (cxOf CX0 P w K mg base N qual (defScope st) f cdv A outer s H E).nox (defBody st) t ∧ t { nx := fun _ H' => Q .non H', rt := Q } (start N vs) H) : FnG P w K mg base CX0 (k + 1) f fd ps sp := by
  obtain ⟨oc, od, kV, doc, pm, an, cdv, ct, osl, rfl, lk, hcd⟩ := F.ex
  refine FnG.ofBody lk hcd S many ?_
  intro A outer s H vs Q E gd hr hsp
  obtain ⟨t, h, q⟩ := hbody cdv A outer s H vs Q E gd hr hsp
  exact ⟨t, h.nox, q⟩
end

/-! ### the law's call -/
theorem law_callG {P : Program} {w : World} {K : PySem.W.Frag} {mg mb : Str → Option Value} {k : Nat} {fa a : Addr} {fd : FuncData} {x : Str} {sp : Sp} {s₁ : Shared} {vs : List Value} {ns : List Int}
    (KX : K.In s₁.heap) (hns : s₁.heap.Ns mainGlobals mg) (hb : s₁.heap.Ns builtinsNs mb) (hbb : ∀ x : Str, x ≠ "__name__" → mb x = bootBuiltins x) (hlim : s₁.heap.NoLimit) (hg : s₁.gens = #[])
    (ha : s₁.heap.get? a = some { cls := .type "list", data := .seq vs.toArray }) (hi : IntsAre vs ns) (hl : ns.length ≤ sizeLine) (hr : Room k callerA)
    (F : ∀ base : Heap, K.In base → base.Ns mainGlobals mg → FnG P w K mg base CX0 k fa fd [x] sp) (hbind : ∀ (s : Shared) (u : Value), BindsTo s fd ⟨[u], []⟩ [(x, u)])
    (hsp : ∀ H : Hp, Only H → SqL K H a (ns.map V.int) → sp [.ref a] H (fun v _ => v = .bl true) E0) :
    codeAny (model P w) callerA (.call (.ref fa) ⟨[.ref a], []⟩) (fun r s' => r = .ok (.ret (.bool true)) ∧ OldK s₁.heap s'.heap ∧ s'.os = s₁.os ∧ AllBare s'.gens) s₁ := by
  have rv := vals_ints hi
  have main : ∀ H : Hp, Only H → SqL K H a (ns.map V.int) → HOk P w H s₁.heap → (∀ b u, H b = some u → b = a ∧ K.lookup a = none) →
      codeAny (model P w) callerA (.call (.ref fa) ⟨[.ref a], []⟩) (fun r s' => r = .ok (.ret (.bool true)) ∧ OldK s₁.heap s'.heap ∧ s'.os = s₁.os ∧ AllBare s'.gens) s₁ := by
    intro H only sq hok ours
    have stays : ∀ {b : Addr} {o : Obj}, s₁.heap.get? b = some o → H b = none → (hidT s₁.heap H).get? b = some o := fun e n => hidT_get e n
    have free : ∀ {b : Addr} {o : Obj} {es : Array DictEntry} {ep : Nat}, s₁.heap.get? b = some o → o.data = .dict es ep → H b = none := by
      intro b o es ep e d
      cases q : H b with
      | none => rfl
      | some u =>
        cases (ours b u q).1
        rw [ha] at e
        cases e
        cases d
    have spaces : ∀ {b : Addr} {m : Str → Option Value}, s₁.heap.Ns b m → (hidT s₁.heap H).Ns b m := fun {b m} ⟨o, es, ep, e, d, r⟩ => ⟨o, es, ep, stays e (free e d), d, r⟩
    have kin : K.In (hidT s₁.heap H) := by
      intro b o e
      refine stays (KX b o e) ?_
      cases q : H b with
      | none => rfl
      | some u =>
        obtain ⟨rfl, z⟩ := ours b u q
        rw [z] at e
        cases e
    have md : Mod K mg (hidT s₁.heap H) := ⟨kin, spaces hns, ⟨mb, spaces hb, hbb⟩, let ⟨mc, h1, h2⟩ := hlim; ⟨mc, spaces h1, h2⟩⟩
    have nofr : ∀ b ∈ frs ([] : List Env), H b = none := fun b z => nomatch z
    have e0 : Env0 P w K mg (hidT s₁.heap H) callerA [] s₁ H := ⟨rfl, md, fun b o e => of_hidT e, Nat.le_of_eq (hidT_size _ _), trivial, nofr, hok, .of_eq hg⟩
    refine codeAny_mono ((F _ kin (spaces hns)).go callerA [] s₁ H ⟨[.ref a], []⟩ [.ref a] [.ref a] _ _ rfl hr e0 (hbind s₁ (.ref a)) (.cons rfl .nil) (hsp H only sq)) ?_
    intro r s' h
    match r, h with
    | .error e, h => exact False.elim h
    | .ok .next, h => exact False.elim h
    | .ok .brk, h => exact False.elim h
    | .ok .cont, h => exact False.elim h
    | .ok (.ret u), h =>
      obtain ⟨v, H', os, bare, un, hok', r', rfl⟩ := h
      cases (show u = Value.bool true from r')
      refine ⟨rfl, OldK.of_keep fun b o e => ?_, os, bare⟩
      cases q : H b with
      | none => exact un.keep b o e q (fun z => nomatch z) (fun z => nomatch z)
      | some u =>
        rcases only b with z | ⟨ob, xs, z⟩
        · rw [q] at z
          cases z
        · have e1 := (hok b _ z).1
          have e2 := (hok' b _ (un.frzs b ob _ z)).1
          rw [e] at e1
          cases e1
          exact e2
  cases hk : K.lookup a with
  | some o =>
    have e := KX a o hk
    rw [ha] at e
    cases e
    have none_ : ∀ b u, (fun _ => none : Hp) b = some u → b = a ∧ K.lookup a = none := fun b u z => nomatch z
    refine main (fun _ => none) (fun _ => .inl rfl) (.inr ⟨_, vs.toArray, _, hk, rfl, rfl, rfl, ?_, by simpa using rv⟩) (fun b u z => nomatch z) none_
    rw [List.size_toArray, hi.length]
    exact hl
  | none =>
    have at_ : ∀ b u, (fun b => if b = a then some (HO.frz { cls := .type "list", data := .seq vs.toArray } (.lst (ns.map V.int))) else none : Hp) b = some u → b = a ∧ u = HO.frz { cls := .type "list", data := .seq vs.toArray } (.lst (ns.map V.int)) := by
      intro b u z
      by_cases hb : b = a
      · have z' := (if_pos hb).symm.trans z
        exact ⟨hb, (Option.some.inj z').symm⟩
      · have z' := (if_neg hb).symm.trans z
        cases z'
    refine main (fun b => if b = a then some (HO.frz { cls := .type "list", data := .seq vs.toArray } (.lst (ns.map V.int))) else none) ?_ (.inl (.inr ⟨{ cls := .type "list", data := .seq vs.toArray }, if_pos rfl⟩)) ?_ ?_
    · intro b
      by_cases hb : b = a
      · exact .inr ⟨_, _, if_pos hb⟩
      · exact .inl (if_neg hb)
    · intro b u z
      obtain ⟨rfl, rfl⟩ := at_ b u z
      exact ⟨ha, by rw [List.length_map]; exact hl, vs, _, rv, ha⟩
    · intro b u z
      exact ⟨(at_ b u z).1, hk⟩

theorem walk_G {l : PySem.W.OpenLaw} {n k : Nat} {q : Program} {loose : List Str} {XP : (Str → Option Value) → Heap → Prop} {YP : World → Heap → Prop} {d : DefRec} {x : Str}
    (hn : l.most = some n) (hn2 : n ≤ sizeLine) (hdf : d.params.defaults = []) (hr : Room k callerA)
    (F : ∀ (w : World) (mg : Str → Option Value) (fa : Addr) (h : Heap), YP w h → h.Ns mainGlobals mg → mg d.name = some (.ref fa) →
      ∃ (K : PySem.W.Frag) (fd : FuncData) (sp : Sp), K.In h ∧ (∀ (s : Shared) (u : Value), BindsTo s fd ⟨[u], []⟩ [(x, u)]) ∧
        (∀ (H : Hp) (a : Addr) (ns : List Int), ns.length ≤ n → Only H → SqL K H a (ns.map V.int) → sp [.ref a] H (fun v _ => v = .bl true) E0) ∧
        ∀ base : Heap, K.In base → base.Ns mainGlobals mg → FnG l.prog w K mg base CX0 k fa fd [x] sp) :
    PySem.W.WalkO q loose XP YP l.row.toRowW d [] (fun f vs => PySem.call f vs) := by
  apply Att.attach_call hn hdf
  intro w s₀ s₁ mg mb fa o pm cd doc a vs ns G Y ho hd hcd hmg hobj hints hlen hg
  obtain ⟨K, fd, sp, KX, hb, hsp, hF⟩ := F w mg fa _ Y G.T.g hmg
  exact law_callG KX G.T.g G.T.b G.T.builtins G.T.nolimit hg hobj hints (Nat.le_trans hlen hn2) hr hF hb fun H only sq => hsp H a ns hlen only sq

/-! ### data that is read, dicts too -/
mutual
inductive Dq (K : PySem.W.Frag) (H : Hp) : V → PyData → Prop
  | non : Dq K H .non .none
  | bl (b : Bool) : Dq K H (.bl b) (.bool b)
  | int (i : Int) : Dq K H (.int i) (.int i)
  | str (x : Str) : Dq K H (.str x) (.str x)
  | lst {a : Addr} {xs : List V} {ds : List PyData} : SqL K H a xs → DqAll K H xs ds → Dq K H (.ref a) (.list ds)
  | tup {a : Addr} {xs : List V} {ds : List PyData} : SqT K H a xs → DqAll K H xs ds → Dq K H (.ref a) (.tuple ds)
  | dct {a : Addr} {kvs : List (Key × V)} {ps : List (PyData × PyData)} : H a = some (.dK kvs) → DqKv K H kvs ps → Dq K H (.ref a) (.dict ps)
inductive DqAll (K : PySem.W.Frag) (H : Hp) : List V → List PyData → Prop
  | nil : DqAll K H [] []
  | cons {v : V} {vs : List V} {d : PyData} {ds : List PyData} : Dq K H v d → DqAll K H vs ds → DqAll K H (v :: vs) (d :: ds)
inductive DqKv (K : PySem.W.Frag) (H : Hp) : List (Key × V) → List (PyData × PyData) → Prop
  | nil : DqKv K H [] []
  | consI {i : Int} {v : V} {d : PyData} {r : List (Key × V)} {ps : List (PyData × PyData)} : Dq K H v d → DqKv K H r ps → DqKv K H ((.inl i, v) :: r) ((.int i, d) :: ps)
  | consS {x : Str} {v : V} {d : PyData} {r : List (Key × V)} {ps : List (PyData × PyData)} : Dq K H v d → DqKv K H r ps → DqKv K H ((.inr x, v) :: r) ((.str x, d) :: ps)
end
end GL
set_option maxHeartbeats 4000000
namespace GL
open PySem PySem.Spec PyProof.Rows L2
/-- the written part knows the table of modules -/
def SysK (K : PySem.W.Frag) : Prop := ∃ o es ep, K.lookup sysModules = some o ∧ o.data = .dict es ep
section
variable {X : Cx} {pins : List (Addr × Obj)} {σ : L2.St} {H : Hp} {s : Shared}
theorem notSys (S : SysK X.K) (I : Inv X pins σ H s) {a : Addr} {o : Obj} {vs : Array Value} {n : Nat} (e : s.heap.get? a = some o) (d : o.data = .seq vs n) : sysModules ≠ a := by
  rintro rfl
  obtain ⟨o', es, ep, l, d'⟩ := S
  have e' := I.kIn _ _ l
  rw [e] at e'
  cases e'
  rw [d] at d'
  cases d'
theorem kvReads {h : Heap} : ∀ {kvs : List (Key × Value)} {es : List DictEntry} {P : Program} {w : World}, Pairs (mixKind P w) es kvs →
    ∀ {ps : List (PyData × PyData)} {as : List Addr}, ReadsAll h (es.map (·.val)) (ps.map (·.2)) as → (∀ i : Nat, (kvs[i]?).map (fun kv => match kv.1 with | .inl j => PyData.int j | .inr x => PyData.str x) = (ps[i]?).map (·.1)) → ReadsAll h (es.map (·.key)) (ps.map (·.1)) [] := by
  intro kvs es P w pr
  induction pr with
  | nil =>
    intro ps as r hk
    cases ps with
    | nil => exact ReadsAll.nil
    | cons p ps => cases r
  | @cons e kv es kvs hk hv _ ih =>
    intro ps as r hh
    cases ps with
    | nil => cases r
    | cons p ps =>
      have h0 := hh 0
      have rest : ∀ i : Nat, (kvs[i]?).map (fun kv => match kv.1 with | .inl j => PyData.int j | .inr x => PyData.str x) = (ps[i]?).map (·.1) := fun i => by simpa using hh (i + 1)
      obtain ⟨pk, pv⟩ := p
      obtain ⟨k, v⟩ := kv
      simp at h0
      cases r with
      | cons r1 r2 =>
        have t := ih r2 rest
        show ReadsAll h (e.key :: es.map (·.key)) (pk :: ps.map (·.1)) ([] ++ [])
        refine ReadsAll.cons ?_ t
        rcases keyIs_shape (show keyIs k e.key = true from hk) with ⟨j, u, rfl, e1⟩ | ⟨x, u, rfl, e1⟩
        · rw [e1, ← h0]
          exact Reads.int j u
        · rw [e1, ← h0]
          exact Reads.str x u
theorem pairsVals {P : Program} {w : World} : ∀ {kvs : List (Key × Value)} {es : List DictEntry}, Pairs (mixKind P w) es kvs → es.map (·.val) = kvs.map (·.2) := by
  intro kvs es pr
  induction pr with
  | nil => rfl
  | @cons e kv es kvs _ hv _ ih => rw [List.map_cons, List.map_cons, ih, hv]
theorem kvVals : ∀ {kvs : List (Key × V)} {vs : List (Key × Value)}, KV kvs vs → Vals (kvs.map (·.2)) (vs.map (·.2)) ∧ ∀ i : Nat, (vs[i]?).map (·.1) = (kvs[i]?).map (·.1)
  | _, _, .nil => ⟨.nil, fun i => by simp⟩
  | _, _, .cons r t => by
    obtain ⟨a, b⟩ := kvVals t
    refine ⟨.cons r.2 a, fun i => ?_⟩
    cases i with
    | zero => simp [r.1]
    | succ i => simpa using b i
theorem kvKeys {K : PySem.W.Frag} {H : Hp} : ∀ {kvs : List (Key × V)} {ps : List (PyData × PyData)}, DqKv K H kvs ps → ∀ i : Nat, (kvs[i]?).map (fun kv => match kv.1 with | .inl j => PyData.int j | .inr x => PyData.str x) = (ps[i]?).map (·.1) := by
  intro kvs
  induction kvs with
  | nil =>
    intro ps h i
    cases h
    rfl
  | cons kv kvs ih =>
    intro ps h i
    cases h with
    | consI a b =>
      cases i with
      | zero => rfl
      | succ i => simpa using ih b i
    | consS a b =>
      cases i with
      | zero => rfl
      | succ i => simpa using ih b i
mutual
theorem Dq.reads (S : SysK X.K) (I : Inv X pins σ H s) : ∀ {v : V} {d : PyData} {u : Value}, Dq X.K H v d → RelV v u → ∃ as, Reads s.heap u d as ∧ sysModules ∉ as
  | _, _, _, .non, r => by
    cases r
    exact ⟨_, Reads.none, List.not_mem_nil⟩
  | _, _, _, .bl b, r => by
    cases r
    exact ⟨_, Reads.bool b, List.not_mem_nil⟩
  | _, _, _, .int i, r => by
    obtain ⟨t, rfl⟩ := r
    exact ⟨_, Reads.int i t, List.not_mem_nil⟩
  | _, _, _, .str x, r => by
    obtain ⟨t, rfl⟩ := r
    exact ⟨_, Reads.str x t, List.not_mem_nil⟩
  | _, _, _, .lst hs ha, r => by
    cases r
    obtain ⟨its, rv, ⟨o, n, ho, hc, _, hd⟩, _⟩ := I.list hs
    obtain ⟨as, hr, hn⟩ := DqAll.reads S I ha rv
    exact ⟨_, Reads.list ho hc hd hr, List.not_mem_cons_of_ne_of_not_mem (notSys S I ho hd) hn⟩
  | _, _, _, .tup hs ha, r => by
    cases r
    obtain ⟨its, rv, ⟨o, ho, hc, n, hd⟩, _⟩ := I.tuple hs
    obtain ⟨as, hr, hn⟩ := DqAll.reads S I ha rv
    exact ⟨_, Reads.tuple ho hc hd hr, hn⟩
  | _, _, _, @Dq.dct _ _ a kvs ps e hk, r => by
    cases r
    obtain ⟨_, ns, vs, kv, o, es, ep, ho, ex, hd, _, pr, _⟩ := I.hok a _ e
    obtain ⟨rv, ks⟩ := kvVals kv
    obtain ⟨as, hr, hn⟩ := DqKv.reads S I hk rv
    rw [← pairsVals pr] at hr
    have kr := kvReads pr hr (fun i => by
      rw [← kvKeys hk i]
      have := ks i
      cases q : vs[i]? <;> cases q' : kvs[i]? <;> rw [q, q'] at this <;> simp at this ⊢
      rw [this])
    refine ⟨_, Reads.dict ho ex.1 hd kr hr, ?_⟩
    refine List.not_mem_cons_of_ne_of_not_mem (fun z => ?_) (by simpa using hn)
    rw [← z] at ns
    simp at ns
theorem DqAll.reads (S : SysK X.K) (I : Inv X pins σ H s) : ∀ {vs : List V} {ds : List PyData} {us : List Value}, DqAll X.K H vs ds → Vals vs us → ∃ as, ReadsAll s.heap us ds as ∧ sysModules ∉ as
  | _, _, _, .nil, r => by
    cases r
    exact ⟨_, ReadsAll.nil, List.not_mem_nil⟩
  | _, _, _, .cons h1 h2, .cons r1 r2 => by
    obtain ⟨as, q1, n1⟩ := Dq.reads S I h1 r1
    obtain ⟨bs, q2, n2⟩ := DqAll.reads S I h2 r2
    exact ⟨_, ReadsAll.cons q1 q2, by simp [n1, n2]⟩
theorem DqKv.reads (S : SysK X.K) (I : Inv X pins σ H s) : ∀ {kvs : List (Key × V)} {ps : List (PyData × PyData)} {us : List Value}, DqKv X.K H kvs ps → Vals (kvs.map (·.2)) us → ∃ as, ReadsAll s.heap us (ps.map (·.2)) as ∧ sysModules ∉ as
  | _, _, _, .nil, r => by
    cases r
    exact ⟨_, ReadsAll.nil, List.not_mem_nil⟩
  | _, _, _, .consI h1 h2, .cons r1 r2 => by
    obtain ⟨as, q1, n1⟩ := Dq.reads S I h1 r1
    obtain ⟨bs, q2, n2⟩ := DqKv.reads S I h2 r2
    exact ⟨_, ReadsAll.cons q1 q2, by simp [n1, n2]⟩
  | _, _, _, .consS h1 h2, .cons r1 r2 => by
    obtain ⟨as, q1, n1⟩ := Dq.reads S I h1 r1
    obtain ⟨bs, q2, n2⟩ := DqKv.reads S I h2 r2
    exact ⟨_, ReadsAll.cons q1 q2, by simp [n1, n2]⟩
end
end

/-! ### repr of data -/
def rRepr (K : PySem.W.Frag) : List V → Hp → VK → Prop := fun xs H Q => ∃ (a : Addr) (d : PyData), xs = [.ref a] ∧ Dq K H (.ref a) d ∧ d.showable = true ∧ d.depth ≤ 40 ∧ d.shown.length ≤ sizeLine ∧ Q (.str d.shown) H
theorem call_reprD {X : Cx} (S : SysK X.K) (gd : X.A.guards = some []) (hu : X.A.units + 64 < cLine) : CallR X (.builtin "repr") (rRepr X.K) := by
  intro pins s σ H xs us Q I r h
  obtain ⟨a, d, rfl, hd, sh, dp, sz, q⟩ := h
  cases r with
  | cons r1 r2 =>
    cases r2
    cases r1
    obtain ⟨as, rd, ns⟩ := Dq.reads S I hd rfl
    refine repr_of_reads' rd sh (fun _ => ns) gd (by omega) (fun b o e => e) (fun h' u tk keep => ?_) sz
    exact ⟨.str d.shown, H, I.kept keep, ⟨u, rfl⟩, q⟩
end GL
set_option maxHeartbeats 4000000
/-! Errors of the program as values: made by places and by names, their fields stored and read, isinstance. -/
namespace PySem
namespace GX
open PySem.W PySem.Calls PyProof.Rows PySem.HandSPX Builtin Builtin.ObjectAttr
section
variable {prog : Program} {w : World} {A : Around} {E : Value → Shared → Prop} {R : Result → Shared → Prop} {hp : Heap} {g : Array GenState} {d : Drawn} {t : Nat} {os : OsState}
variable {nm q : Str} {C N : Addr} {bs bm bmB : List Value} {hdct : Bool} {sn : List Str} {sub : List Value} {ab : Bool} {col : Option Bool} {dd : Option Addr} {k0 k1 k2 k3 k5 : Option Value} {B newId initId : String}
theorem tail_some {l : List Value} (hB : bmB.isEmpty = false) (e : excTail bmB l = true) : l.isEmpty = false := by
  cases l with
  | cons _ _ => rfl
  | nil =>
    have q : ([] : List Value) = bmB := beq_iff_eq.mp e
    rw [← q] at hB
    exact hB
/-- the way of a store at an error's object as far as the own dict -/
theorem to_own {K : W.Frag} {name : Str} {tk : Tok} {v : Value} {x : Addr} {ox : Obj} {od : Option Obj} {cd : ClassData} (SB : StoreFacts B bmB "object.__setattr__" "object") (hB : bmB.isEmpty = false) (hO : bmB.contains (.type "object") = true)
    (X : K.In hp) (I : W.InstAt hp x ox C od) (hcd : W.clsIn K C = some cd) (hm : excTail bmB cd.mro = true) (ha : W.findIn K (.ref C) name = some none)
    (h : wpAny (model prog w) A.in1 (storeInOwnDict (.ref x) (.ref C) (.str name tk) name v false)
      (fun fin s' => match fin with | .done f => R (.ok f) s' | .again c' => c'.quiet = true ∧ codeAny (model prog w) A c' R s') (fun e s' => R (.error e) s') ⟨hp, g, d, t, os⟩) :
    codeAny (model prog w) A (.call (.builtin "object.__setattr__") ⟨[.ref x, .str name tk, v], []⟩) R ⟨hp, g, d, t, os⟩ := by
  have SO := F.store_object
  have some_ := tail_some hB hm
  have obj : cd.mro.contains (.type "object") = true := (excTail_contains "object" _ hm).trans hO
  have isO : W.Looks (model prog w) hp (isInstance (.ref x) (.type "object")) true := by
    refine I.type.andThen (W.looks_mroIn X ?_)
    unfold W.mroIn
    rw [hcd, Option.bind_some, some_, obj]
    rfl
  apply codeAny_call_builtin SO.slot.plain SO.entry
  refine @W.check_slot (model prog w) _ _ ⟨hp, g, d, t, os⟩ "object.__setattr__" "object" "__setattr__" (.ref x) [.str name tk, v] [] _ SO.kind SO.split isO (SO.args (.ref x) (.str name tk) v) ?_
  have mro : W.Looks (model prog w) hp (mroOf (.ref C)) cd.mro := (W.looks_clsIn X hcd).andThen .now
  have nobody : W.Looks (model prog w) hp (storeTaker? none) none := .now
  rw [W.osa_eq, refuse_eq]
  apply wpAny_bind
  apply wpAny_bind
  apply I.type.at
  apply wpAny_bind
  apply mro.at
  rw [excTail_pass (.ref x) (SB.passes (.ref x)) _ hm]
  apply wpAny_pure
  apply wpAny_bind
  apply I.type.at
  apply wpAny_bind
  apply (W.looks_findIn X ha).at
  apply wpAny_bind
  apply nobody.at
  exact h
/-- the first field: the error gets its dict -/
theorem store_first {K : W.Frag} {name : Str} {tk : Tok} {v : Value} {x : Addr} {fv : Array Value} {cd : ClassData} (SB : StoreFacts B bmB "object.__setattr__" "object") (hB : bmB.isEmpty = false) (hO : bmB.contains (.type "object") = true)
    (X : K.In hp) (hx : hp.get? x = some { cls := .ref C, data := .fields fv }) (hcd : W.clsIn K C = some cd) (hm : excTail bmB cd.mro = true) (hh : cd.hasDict = true) (ha : W.findIn K (.ref C) name = some none)
    (hq : ∀ h' tk' dx, (∀ b o, b ≠ x → hp.get? b = some o → h'.get? b = some o) → hp.objs.size ≤ dx → dx ≠ x → h'.get? x = some { cls := .ref C, dict := some dx, data := .fields fv } →
      h'.Ns1 dx (fun y => if y = name then some v else none) → R (.ok (.ret .none)) ⟨h', g, d, tk', os⟩) :
    codeAny (model prog w) A (.call (.builtin "object.__setattr__") ⟨[.ref x, .str name tk, v], []⟩) R ⟨hp, g, d, t, os⟩ := by
  have I : W.InstAt hp x { cls := .ref C, data := .fields fv } C none := ⟨hx, rfl, rfl, trivial⟩
  have cl : W.Looks (model prog w) hp (classData C) cd := W.looks_clsIn X hcd
  have apart : x ≠ hp.objs.size := Nat.ne_of_lt (Heap.lt_size hx)
  apply to_own SB hB hO X I hcd hm ha
  rcases cd with ⟨n1, n2, n3, n4, n5, n6, n7, n8, n9, n10, n11⟩
  cases (show n6 = true from hh)
  unfold storeInOwnDict ownDictForStores
  repeat (first | with_reducible refine HandSPX.store_in_new ?_ ?_ | with_reducible refine wpAny_loadPart_at hx ?_ | with_reducible refine cl.at ?_ | wp_step)
  · exact ⟨_, #[], _, (Heap.get?_update_ne _ _ _ _ apart.symm).trans (Heap.get?_push_at rfl rfl), rfl, fun e he => absurd he (by simp), fun _ => rfl⟩
  · intro h' tk' named but
    have there : (hp.push { cls := .type "dict", data := .dict #[] }).get? x = some { cls := .ref C, data := .fields fv } := Heap.get?_push_of_some _ hx
    apply hq h' tk' hp.objs.size
    · intro b o hb ho
      rw [but.2 b (Nat.ne_of_lt (Heap.lt_size ho)), Heap.get?_update_ne _ _ _ _ hb]
      exact Heap.get?_push_of_some _ ho
    · exact Nat.le_refl _
    · exact apart.symm
    · rw [but.2 x apart]
      exact Heap.get?_update_self _ there rfl
    · exact named
/-- a further field -/
theorem store_next {K : W.Frag} {name : Str} {tk : Tok} {v : Value} {x dx : Addr} {fv : Array Value} {cd : ClassData} {m0 : Str → Option Value} {nl : List Str} (SB : StoreFacts B bmB "object.__setattr__" "object") (hB : bmB.isEmpty = false) (hO : bmB.contains (.type "object") = true)
    (X : K.In hp) (hx : hp.get? x = some { cls := .ref C, dict := some dx, data := .fields fv }) (hns : hp.Ns1 dx m0) (hw : Within m0 nl) (hz : nl.length ≤ 1000) (hcd : W.clsIn K C = some cd) (hm : excTail bmB cd.mro = true) (hh : cd.hasDict = true) (ha : W.findIn K (.ref C) name = some none)
    (hq : ∀ h' tk', (∀ b o, b ≠ dx → hp.get? b = some o → h'.get? b = some o) → h'.Ns1 dx (fun y => if y = name then some v else m0 y) → R (.ok (.ret .none)) ⟨h', g, d, tk', os⟩) :
    codeAny (model prog w) A (.call (.builtin "object.__setattr__") ⟨[.ref x, .str name tk, v], []⟩) R ⟨hp, g, d, t, os⟩ := by
  obtain ⟨oD, esD, epD, atD, isD, _⟩ := hns.count hw
  have I : W.InstAt hp x { cls := .ref C, dict := some dx, data := .fields fv } C (some oD) := ⟨hx, rfl, rfl, atD⟩
  have cl : W.Looks (model prog w) hp (classData C) cd := W.looks_clsIn X hcd
  apply to_own SB hB hO X I hcd hm ha
  rcases cd with ⟨n1, n2, n3, n4, n5, n6, n7, n8, n9, n10, n11⟩
  cases (show n6 = true from hh)
  unfold storeInOwnDict ownDictForStores
  repeat (first | with_reducible refine OEX.store_in_old hns hw hz ?_ | with_reducible refine wpAny_loadPart_at hx ?_ | with_reducible refine cl.at ?_ | wp_step)
  intro h' tk' named but
  exact hq h' tk' (fun b o hb ho => (but.2 b hb).trans ho) named

/-! ### C(.., k = ..) of an error class with an __init__ of its own -/
theorem made (FB : ExcBaseFacts B newId initId bmB) (hT : ∀ X : String, bm.contains (.type X) = bmB.contains (.type X)) {rest : List Value} {kw : List (Str × Value)} {fI : Addr}
    (hC : hp.get? C = some (excClassObj nm q C N bs bm hdct sn sub ab col dd k0 k1 k2 k3 k5 newId))
    (hi : W.Looks (model prog w) hp (typeLookup (.ref C) "__init__") (some (.ref fI))) (hb : ∀ self, W.Looks (model prog w) hp (bindSpecial (.ref fI) self) (.ref fI, [self])) (hrest : rest.length ≤ sizeLine)
    (hq : codeAny (model prog w) (A.under (.builtin "type.__call__" ⟨.ref C :: rest, kw⟩)) (.call (.ref fI) ⟨.ref (hp.objs.size + 1) :: rest, kw⟩) (W.InitBack (hp.objs.size + 1) R)
      ⟨(hp.push (W.kdv_tup rest)).push (excO C hp.objs.size), g, d, t, os⟩) :
    codeAny (model prog w) A (.call (.ref C) ⟨rest, kw⟩) R ⟨hp, g, d, t, os⟩ := by
  have f1 := tc_lookup
  have f2 := tc_bind (.ref C)
  have isC : (⟨hp, g, d, t, os⟩ : Shared).TypeIs (.ref C) "type" := ⟨_, hC, rfl⟩
  have kept : ∀ b o, hp.get? b = some o → ((hp.push (W.kdv_tup rest)).push (excO C hp.objs.size)).get? b = some o := fun b o e => Heap.get?_push_of_some _ (Heap.get?_push_of_some _ e)
  have inB : (Value.ref C :: bm).contains (.type B) = true := by rw [List.contains_cons, hT, FB.hasB, Bool.or_true]
  have noA : (Value.ref C :: bm).contains (.type "AttributeError") = false := by rw [List.contains_cons, hT, FB.noAttr]; rfl
  have noN : (Value.ref C :: bm).contains (.type "NameError") = false := by rw [List.contains_cons, hT, FB.noName]; rfl
  have inC : (Value.ref C :: bm).contains (.ref C) = true := by simp
  have ends := FB.ends
  have star := FB.noStar
  apply codeAny_of_tree
  show wpAny _ _ (callAny (.ref C) _) _ _ _
  repeat (any_goals (first | assumption | with_reducible refine wpAny_loadPart_at hC ?_ | wp_step))
  refine ⟨rfl, ?_⟩
  apply codeAny_call_builtin_at (Code.quiet_builtin _ (by decide +kernel)) entry_typeCall
  apply wpAny_check_type_call_sub hC
  repeat (first | with_reducible refine wpAny_loadPart_at hC ?_ | with_reducible refine wpAny_madeBy_exc hC ?_ | wp_step)
  apply codeAny_call_builtin_code (Code.quiet_builtin _ FB.quiet)
  simp only [checkBuiltinCall, FB.newKind, FB.newSplit, FB.newRow]
  repeat (first | refine wpAny_loadPart_at hC ?_ | (refine wpAny_isSubtype_exc hC ?_; rw [inB]) | refine wpAny_staticBase_exc hC ?_ | refine wpAny_madeBy_exc hC ?_ | simp only [bne_self_eq_false, Bool.false_eq_true, if_false] | wp_step)
  show codeAny _ _ (Code.builtin newId { pos := Value.ref C :: rest, kw := kw }) _ _
  refine codeAny_builtinAt FB.entry ?_
  unfold Builtin.«BaseException.__new__»
  apply wpAt_bind
  show wpAt _ _ _ (stack >>= _) _ _ _
  refine wpAt_bind (wpAt_stack fun p below => wpAt_of_wpAny ?_)
  wp_walk
  apply wpAt_of_wpAny
  rw [FB.owner]
  repeat (first | with_reducible refine wpAny_madeHere_exc FB.canon hC ?_ | with_reducible refine wpAny_loadPart_at hC ?_ | (with_reducible refine wpAny_isSubtype_exc hC ?_; first | rw [inB] | rw [noA] | rw [noN]) | wp_step)
  show wpAny _ _ _ _ _ _
  rw [Heap.size_push]
  have hC₁ := kept _ _ hC
  have new : ((hp.push (W.kdv_tup rest)).push (excO C hp.objs.size)).get? (hp.objs.size + 1) = some (excO C hp.objs.size) := by heap_get
  have i1 := hi.keeps kept
  have b1 := (hb (.ref (hp.objs.size + 1))).keeps kept
  show wpAny _ _ (isSubtype (.ref C) (.ref C)) _ _ ⟨(hp.push (W.kdv_tup rest)).push (excO C hp.objs.size), g, d, t, os⟩
  refine wpAny_isSubtype_exc hC₁ ?_
  rw [inC]
  repeat (first | with_reducible refine wpAny_loadPart_at new ?_ | wp_step)
  show wpAny _ _ (typeLookup (.ref C) _) _ _ _
  apply i1.at
  apply wpAny_holding
  apply wpAny_bind
  apply b1.at
  apply wpAny_bind
  apply wpAny_call
  refine codeAny_mono hq fun r s' z => ?_
  rcases r with e | (v | _ | _ | _) <;> first | exact z | exact z.elim | skip
  obtain ⟨rfl, z⟩ := z
  first
    | exact wpAny_pure (wpAny_pure z)
    | (wp_walk; exact z)
end
end GX
end PySem
set_option maxHeartbeats 4000000
namespace GL
open PySem PySem.Spec PyProof.Rows L2
/-! ### the hook: the library's facts, and any Bool over the written part, the table of modules in it -/
def kOf (n : Nat) (g : Addr → Option Obj) : PySem.W.Frag := He.frG g (sysModules :: He.asD g n)
abbrev AlX : Type := He.AlD × Bool
def obsX (n : Nat) (fa : List He.Fa) (fn : List He.DefD) (ex : PySem.W.Frag → Bool) (g : Addr → Option Obj) : AlX := (He.obsD fa fn (kOf n g), ex (kOf n g))
def hookX (n : Nat) (fa : List He.Fa) (fn : List He.DefD) (ex : PySem.W.Frag → Bool) : PySem.W.Hook where
  α := AlX
  obs := fun s => obsX n fa fn ex s.heap.get?
  val := fun _ => (He.valD fn, true)
  says := fun _ h => ∃ K : PySem.W.Frag, K.In h ∧ He.SaysD fa fn K ∧ ex K = true
  of := fun _ _ e => ⟨_, He.frG_in, congrArg (fun z : AlX => z.1) e, congrArg (fun z : AlX => z.2) e⟩
  keeps := fun _ _ _ ⟨K, hK, c⟩ k => ⟨K, PySem.W.Frag.In.keeps hK k, c⟩
theorem obsX_eq {n : Nat} {fa : List He.Fa} {fn : List He.DefD} {ex : PySem.W.Frag → Bool} {g : Addr → Option Obj} {s : Shared} (h : ∀ a, g a = s.heap.get? a) : obsX n fa fn ex g = (hookX n fa fn ex).obs s := by
  have e : g = s.heap.get? := funext h
  rw [e]
  rfl
def sysB (K : PySem.W.Frag) : Bool := match K.lookup sysModules with
  | some ⟨_, _, .dict _ _, _⟩ => true
  | _ => false
theorem sysB_ok {K : PySem.W.Frag} (h : sysB K = true) : SysK K := by
  unfold sysB at h
  cases q : K.lookup sysModules with
  | none =>
    rw [q] at h
    cases h
  | some o =>
    obtain ⟨c, dd, dt, sl⟩ := o
    rw [q] at h
    cases dt with
    | dict es ep => exact ⟨_, es, ep, q, rfl⟩
    | _ => cases h

/-! ### classes of errors -/
inductive EB where
  | ve | le | re
  deriving DecidableEq
def EB.name : EB → String
  | .ve => "ValueError"
  | .le => "LookupError"
  | .re => "RuntimeError"
def EB.new : EB → String
  | .ve => "ValueError.__new__"
  | .le => "LookupError.__new__"
  | .re => "RuntimeError.__new__"
def EB.tail (b : EB) : List Value := [.type b.name, .type "Exception", .type "BaseException", .type "object"]
theorem EB.base (b : EB) : ∃ i, ExcBaseFacts b.name b.new i b.tail := by
  cases b with
  | ve => exact ⟨_, PySem.F.excBase_ValueError⟩
  | le => exact ⟨_, PySem.F.excBase_LookupError⟩
  | re => exact ⟨_, PySem.F.excBase_RuntimeError⟩
theorem EB.store (b : EB) : StoreFacts b.name b.tail "object.__setattr__" "object" := by
  cases b with
  | ve => exact PySem.F.store_ValueError
  | le => exact PySem.F.store_LookupError
  | re => exact PySem.F.store_RuntimeError
theorem EB.obj (b : EB) : b.tail.contains (.type "object") = true := by cases b <;> decide +kernel
/-- what the written part says of a class of errors -/
structure XC (K : PySem.W.Frag) (C : Addr) (b : EB) : Prop where
  cls : ∃ nm q N bs bm sn sub ab col dd k0 k1 k2 k3 k5, K.lookup C = some (excClassObj nm q C N bs bm true sn sub ab col dd k0 k1 k2 k3 k5 b.new) ∧ PySem.W.excTail b.tail bm = true
  sa : PySem.W.findIn K (.ref C) "__setattr__" = some (some (.builtin "object.__setattr__"))
  ga : PySem.W.findIn K (.ref C) "__getattribute__" = some (some (.builtin "BaseException.__getattribute__"))
  gg : PySem.W.findIn K (.ref C) "__getattr__" = some none
  kl : PySem.W.findIn K (.ref C) "__class__" = some (some (.builtin "object.__class__"))
  exB : PySem.W.subIn K (.ref C) (.type "BaseException") = some true
  ob : PySem.W.mroIn K C (.type "object") = some true
  keep : PySem.W.keepIn K (.ref C) = true
def xcB (K : PySem.W.Frag) (C : Addr) (b : EB) : Bool :=
  (match K.lookup C with
  | some ⟨.type "type", _, .cls cd, sl⟩ => (match cd.mro, sl.toList with
    | .ref C' :: bm, [_, _, _, _, some (.builtin n), _] => C' == C && (n == b.new && (!cd.hasDel && (cd.hasDict && PySem.W.excTail b.tail bm)))
    | _, _ => false)
  | _ => false) &&
  (He.eqO (PySem.W.findIn K (.ref C) "__setattr__") (some (some (.builtin "object.__setattr__"))) && (He.eqO (PySem.W.findIn K (.ref C) "__getattribute__") (some (some (.builtin "BaseException.__getattribute__"))) &&
  (He.eqO (PySem.W.findIn K (.ref C) "__getattr__") (some none) && (He.eqO (PySem.W.findIn K (.ref C) "__class__") (some (some (.builtin "object.__class__"))) &&
  (decide (PySem.W.subIn K (.ref C) (.type "BaseException") = some true) && (decide (PySem.W.mroIn K C (.type "object") = some true) && PySem.W.keepIn K (.ref C)))))))
theorem xcB_ok {K : PySem.W.Frag} {C : Addr} {b : EB} (h : xcB K C b = true) : XC K C b := by
  obtain ⟨h0, h⟩ := He.ba h
  obtain ⟨h1, h⟩ := He.ba h
  obtain ⟨h2, h⟩ := He.ba h
  obtain ⟨h3, h⟩ := He.ba h
  obtain ⟨h4, h⟩ := He.ba h
  obtain ⟨h5, h⟩ := He.ba h
  obtain ⟨h6, h7⟩ := He.ba h
  refine ⟨?_, He.eqO_ok h1, He.eqO_ok h2, He.eqO_ok h3, He.eqO_ok h4, of_decide_eq_true h5, of_decide_eq_true h6, h7⟩
  split at h0
  · rename_i dd cd sl ho
    split at h0
    · rename_i C' bm k0 k1 k2 k3 n k5 hm hs
      simp only [Bool.and_eq_true, beq_iff_eq, Bool.not_eq_true'] at h0
      obtain ⟨rfl, rfl, e1, e2, e3⟩ := h0
      obtain ⟨nm, bs, mro, ns, qn, hd, sn, sub, ab, col, del⟩ := cd
      dsimp only at hm e1 e2
      subst hm e1 e2
      have hsl : sl = #[k0, k1, k2, k3, some (.builtin b.new), k5] := by
        obtain ⟨l⟩ := sl
        simp only at hs
        rw [hs]
      subst hsl
      exact ⟨nm, qn, ns, bs, bm, sn, sub, ab, col, dd, k0, k1, k2, k3, k5, ho, e3⟩
    · cases h0
  · cases h0
theorem XC.data {K : PySem.W.Frag} {C : Addr} {b : EB} (T : XC K C b) : ∃ cd, PySem.W.clsIn K C = some cd ∧ PySem.W.excTail b.tail cd.mro = true ∧ cd.hasDict = true := by
  obtain ⟨nm, q, N, bs, bm, sn, sub, ab, col, dd, k0, k1, k2, k3, k5, hC, hbm⟩ := T.cls
  refine ⟨{ name := nm, bases := bs, mro := .ref C :: bm, ns := N, qualname := q, hasDict := true, slotNames := sn, subclasses := sub, abstract := ab, collection := col, hasDel := false }, ?_, hbm, rfl⟩
  unfold PySem.W.clsIn
  rw [hC]

section
variable {X : Cx} {pins : List (Addr × Obj)} {σ : L2.St} {H : Hp} {s : Shared} {a C dx : Addr} {b : EB} {f : Str} {y : V} {u : Value} {fs : List (Str × V)} {Q : Unit → Shared → Prop} {E : Value → Shared → Prop} {A : Around}
theorem put_first (T : XC X.K C b) (I : Inv X pins σ H s) (e : H a = some (exo a C none)) (hno : PySem.W.findIn X.K (.ref C) f = some none) (ry : RelV y u)
    (h : ∀ dx s', H dx = none → dx ≠ a → Inv X pins σ (upd (upd H dx (exd dx [(f, y)])) a (exo a C (some dx))) s' → Q () s') : wpAny (model X.prog X.w) A (setAttr (.ref a) f u) Q E s := by
  obtain ⟨cd, hcl, tl, hd⟩ := T.data
  obtain ⟨t1, ho⟩ := exo_at I.hok e
  rcases s with ⟨hp, g, d, t, os⟩
  refine PySem.W.set_plain I.kIn (ox := { cls := .ref C, dict := none, data := .fields #[.ref t1, .none, .none, .none, .bool false, .none] }) (od := none) ⟨ho, rfl, rfl, trivial⟩ T.sa ?_
  refine PySem.GX.store_first b.store rfl b.obj I.kIn ho hcl tl hd hno (fun h' tk' dx k dn dne hx hn => ?_)
  have newD : H dx = none := I.hok.fresh dn
  have offD : ∀ {c : Addr} {o : Obj}, hp.get? c = some o → c ≠ dx := fun q => Nat.ne_of_lt (Nat.lt_of_lt_of_le (Heap.lt_size q) dn)
  have offA : ∀ {c : Addr}, H c = none → c ≠ a := by
    rintro c n rfl
    rw [e] at n
    cases n
  refine h dx _ newD dne (I.un (t' := tk') ?_ fun c o q => ?_)
  · exact {
      keep := fun c o q n _ _ => k c o (offA n) q
      slot := fun c o q n _ _ => ⟨o.slots, k c o (offA n) q⟩
      free := fun c o q n _ => by rw [upd_ne (offA n), upd_ne (offD q)]; exact n
      there := fun c o q _ => by
        by_cases hc : c = a
        · exact ⟨_, by rw [hc]; exact hx⟩
        · exact ⟨o, k c o hc q⟩
      tups := fun c xs q => by rw [upd_ne (at_ne e q exo_tup), upd_ne (ne_of_none q newD)]; exact q
      frzs := fun c o v q => by rw [upd_ne (at_ne e q exo_frz), upd_ne (ne_of_none q newD)]; exact q
      tbls := fun c ps q => ⟨#[], by rw [upd_ne (at_ne e q exo_tbl), upd_ne (ne_of_none q newD), q]; simp⟩ }
  · by_cases hc : c = a
    · subst hc
      rw [upd_same] at q
      cases q
      exact exo_ok hx
    · rw [upd_ne hc] at q
      by_cases hd : c = dx
      · subst hd
        rw [upd_same] at q
        cases q
        exact exd_ok hn (relO_put (fs := []) ry fun g => True.intro)
      · rw [upd_ne hd] at q
        refine (I.hok c o q).stay (fun c' v hc' z => k c' v ?_ z) (fun c' hc' => ?_) (fun c' xs hc' => ?_)
        · rcases hc' with hc' | hc'
          · rw [hc']
            exact hc
          · exact at_ne e hc' exo_own
        · rw [upd_ne (at_ne e hc' exo_own), upd_ne (ne_of_none hc' newD)]
          exact hc'
        · rw [upd_ne (at_ne e hc' exo_tup), upd_ne (ne_of_none hc' newD)]
          exact hc'
theorem put_next (T : XC X.K C b) (I : Inv X pins σ H s) (e : H a = some (exo a C (some dx))) (ed : H dx = some (exd dx fs)) (hl : fs.length ≤ 900) (hno : PySem.W.findIn X.K (.ref C) f = some none) (ry : RelV y u)
    (h : ∀ s', Inv X pins σ (upd H dx (exd dx ((f, y) :: fs))) s' → Q () s') : wpAny (model X.prog X.w) A (setAttr (.ref a) f u) Q E s := by
  obtain ⟨cd, hcl, tl, hd⟩ := T.data
  obtain ⟨t1, ho⟩ := exo_at I.hok e
  obtain ⟨mA, hns, rel⟩ := exd_at I.hok ed
  have hw := within_of rel
  rcases s with ⟨hp, g, d, t, os⟩
  obtain ⟨oD, _, _, hoD, _, _⟩ := hns.count hw
  refine PySem.W.set_plain I.kIn (ox := { cls := .ref C, dict := some dx, data := .fields #[.ref t1, .none, .none, .none, .bool false, .none] }) (od := some oD) ⟨ho, rfl, rfl, hoD⟩ T.sa ?_
  refine PySem.GX.store_next b.store rfl b.obj I.kIn ho hns hw (by rw [List.length_map]; omega) hcl tl hd hno (fun h' tk' k hn => ?_)
  have hd : ∃ o, h'.get? dx = some o := by
    obtain ⟨o, _, _, e', _⟩ := hn
    exact ⟨o, e'⟩
  exact h _ (I.write (t' := tk') (x := dx) (e := dx) (o := exd dx ((f, y) :: fs)) (by rw [ed]; exact True.intro) (.inl rfl) k hd (exd_ok hn (relO_put ry rel)))
end
/-- self.f = e in an __init__ of an error -/
def tPut (K : PySem.W.Frag) (f : Str) (to te : TE) : TS := fun D σ H => te σ H fun y H1 => to σ H1 fun x H2 => ∃ (a C : Addr) (b : EB), x = .ref a ∧ XC K C b ∧ PySem.W.findIn K (.ref C) f = some none ∧
  ((H2 a = some (exo a C none) ∧ ∀ dx, H2 dx = none → dx ≠ a → D.nx σ (upd (upd H2 dx (exd dx [(f, y)])) a (exo a C (some dx)))) ∨
    ∃ (dx : Addr) (fs : List (Str × V)), H2 a = some (exo a C (some dx)) ∧ H2 dx = some (exd dx fs) ∧ fs.length ≤ 900 ∧ D.nx σ (upd H2 dx (exd dx ((f, y) :: fs))))
section
variable {X : Cx} {o e : Expr} {es : List Expr} {to te : TE} {ta : TA} {f : Str} {p p' p1 p2 pos : Pos}
theorem ps_put (ho : PE X o to) (he : PE X e te) (hs : swapsWith e (some (.Attribute o f p')) pos.line X.env = pure false := by rfl) : PS X (.Assign [.Attribute o f p'] e pos) (tPut X.K f to te) := by
  constructor
  intro pins s σ H D I h
  refine plainObj_wpAny_Assign_Attribute (thn (he.run pins s σ H _ I h) ?_) hs
  rintro v s1 ⟨y, H1, I1, r1, q1⟩
  refine thn (ho.run pins s1 σ H1 _ I1 q1) ?_
  rintro u s2 ⟨x, H2, I2, r2, a, C, b, rfl, T, hno, q⟩
  cases (show u = Value.ref a from r2)
  rcases q with ⟨ea, q⟩ | ⟨dx, fs, ea, ed, hl, q⟩
  · exact put_first T I2 ea hno r1 fun dx s' n ne J => ⟨σ, _, J, q dx n ne⟩
  · exact put_next T I2 ea ed hl hno r1 fun s' J => ⟨σ, _, J, q⟩

/-! ### an error made, as a value -/
/-- its __init__ runs with these parameters -/
def tErr (C : Addr) (sp : Sp) (t : TA) : TE := fun σ H Q => t σ H fun vs H1 => vs.length ≤ 1000 ∧ ∀ a, H1 a = none → sp (.ref a :: vs) (upd H1 a (exo a C none)) (fun v H2 => v = .non ∧ Q (.ref a) H2) E0
theorem run_err {pins : List (Addr × Obj)} {σ : L2.St} {H : Hp} {s : Shared} {Q : VK} {C fI : Addr} {b : EB} {k : Nat} {fd : FuncData} {ps : List Str} {sp : Sp} {us all : List Value} {kw : List (Str × Value)} {vs : List V} (T : XC X.K C b)
    (iC : PySem.W.findIn X.K (.ref C) "__init__" = some (some (.ref fI))) (tI : PySem.W.typeIn X.K (.ref fI) = some (.type "function")) (F1 : FnOk X.prog X.w X.K X.mg X.base CX0 k fI fd ps sp) (hr : Room (k + 1) X.A)
    (hb : ∀ (s' : Shared) (z : Value), X.K.In s'.heap → BindsTo s' fd ⟨z :: us, kw⟩ (ps.zip (z :: all))) (hl : us.length ≤ 1000) (I : Inv X pins σ H s) (r : Vals vs all)
    (h : ∀ a, H a = none → sp (.ref a :: vs) (upd H a (exo a C none)) (fun v H2 => v = .non ∧ Q (.ref a) H2) E0) :
    wpAny (model X.prog X.w) X.A (PySem.call (.ref C) us kw) (EP X pins σ Q) X.xe s := by
  obtain ⟨nm, q, N, bs, bm, sn, sub, ab, col, dd, k0, k1, k2, k3, k5, hC, hbm⟩ := T.cls
  obtain ⟨i, FB⟩ := b.base
  rcases s with ⟨hp, g, dr, tk, os⟩
  have hsz : hp.objs.size ≤ hp.objs.size + 1 := Nat.le_succ _
  have hn : H (hp.objs.size + 1) = none := I.hok.fresh hsz
  have hq := h (hp.objs.size + 1) hn
  have kk : ∀ b o, hp.get? b = some o → ((hp.push (PySem.W.kdv_tup us)).push (PySem.HandSPX.excO C hp.objs.size)).get? b = some o := fun b o e => Heap.get?_push_of_some _ (Heap.get?_push_of_some _ e)
  have hget : ((hp.push (PySem.W.kdv_tup us)).push (PySem.HandSPX.excO C hp.objs.size)).get? (hp.objs.size + 1) = some (PySem.HandSPX.excO C hp.objs.size) := by heap_get
  have J : Inv X pins σ (upd H (hp.objs.size + 1) (exo (hp.objs.size + 1) C none)) ⟨(hp.push (PySem.W.kdv_tup us)).push (PySem.HandSPX.excO C hp.objs.size), g, dr, tk, os⟩ := I.laid (t' := tk) kk hsz (exo_ok hget)
  have rr : Vals (V.ref (hp.objs.size + 1) :: vs) (Value.ref (hp.objs.size + 1) :: all) := .cons rfl r
  have small : us.length ≤ sizeLine := by
    rw [sizeLine_eq]
    omega
  refine wpAny_call (PySem.GX.made FB (fun Y => PySem.W.excTail_contains Y bm hbm) (I.kIn _ _ hC) (PySem.W.looks_findIn I.kIn iC) (fun self => PySem.W.bind_fn I.kIn self tI) small ?_)
  refine codeAny_mono (F1.run _ X.stack _ _ ⟨Value.ref (hp.objs.size + 1) :: us, kw⟩ (Value.ref (hp.objs.size + 1) :: all) _ _ E0 (hr.make C us kw) (J.env0.make C us kw) (hb _ _ J.kIn) rr hq) ?_
  intro r' s' z
  match r', z with
  | .error er, z => exact False.elim z
  | .ok .next, z => exact False.elim z
  | .ok .brk, z => exact False.elim z
  | .ok .cont, z => exact False.elim z
  | .ok (.ret u), z =>
    obtain ⟨v, H', K1, rv, rfl, q3⟩ := J.after z
    exact ⟨rv, V.ref (hp.objs.size + 1), H', K1, rfl, q3⟩
theorem pe_err {x : Str} {C fI : Addr} {b : EB} {k : Nat} {fd : FuncData} {ps : List Str} {sp : Sp} (T : XC X.K C b) (iC : PySem.W.findIn X.K (.ref C) "__init__" = some (some (.ref fI))) (tI : PySem.W.typeIn X.K (.ref fI) = some (.type "function"))
    (F1 : FnOk X.prog X.w X.K X.mg X.base CX0 k fI fd ps sp) (hr : Room (k + 1) X.A) (hb : Binds X.K fd ps []) (hg : Gl X x) (hm : X.mg x = some (.ref C)) (ha : PA X (e :: es) ta)
    (hdb : (x == ("__debug__" : Str)) = false := by decide) (he : starEach (e :: es) X.env = (false, eval e X.env) :: starEach es X.env := by rfl) (hpl : (backTo pos (starEach es X.env)).any (·.1) = false := by rfl) :
    PE X (.Call (.Name x p) (e :: es) [] pos) (tErr C sp ta) := by
  constructor
  intro pins s σ H Q I h
  apply wpAny_Call_Name_kw
  refine ld_glob I hg hm ?_ hdb
  refine PySem.W.callWith_K (h₀ := X.base) I.ok.mod.kin T.keep (thn (ha.run pos pins s σ H _ I h) ?_) he hpl
  rintro us s1 ⟨vs, H1, I1, r1, hz, q1⟩
  refine ⟨I1.kIn, run_err T iC tI F1 hr (all := us) (fun s' z kin => ?_) (by show us.length ≤ 1000; rw [← Paired.length r1]; exact hz) I1 r1 q1⟩
  have l := F1.len _ _ _ _ (q1 s1.heap.objs.size (I1.hok.fresh (Nat.le_refl _)))
  have b := hb s' (z :: us) kin (by rw [List.append_nil, ← l, List.length_cons, List.length_cons, Paired.length r1])
  simpa using b
end

/-! ### an error's field, isinstance of an error -/
/-- an error of the class at C with these fields -/
def ErrAt (H : Hp) (e C : Addr) (fs : List (Str × V)) : Prop := (fs = [] ∧ H e = some (exo e C none)) ∨ ∃ d, H e = some (exo e C (some d)) ∧ H d = some (exd d fs)
theorem ErrAt.same {H H' : Hp} {e C : Addr} {fs : List (Str × V)} (h : ErrAt H e C fs) (k : Same H H') : ErrAt H' e C fs := by
  rcases h with ⟨rfl, a⟩ | ⟨d, a, b⟩
  · exact .inl ⟨rfl, k _ _ a⟩
  · exact .inr ⟨d, k _ _ a, k _ _ b⟩
theorem ErrAt.inst {X : Cx} {pins : List (Addr × Obj)} {σ : L2.St} {H : Hp} {s : Shared} {e C : Addr} {fs : List (Str × V)} (I : Inv X pins σ H s) (h : ErrAt H e C fs) : ∃ ox od, PySem.W.InstAt s.heap e ox C od ∧ ∀ f v, fs.lookup f = some v → ∃ u oD, od = some oD ∧ RelV v u ∧ PySem.W.lookIn f oD = some (some u) := by
  rcases h with ⟨rfl, a⟩ | ⟨d, a, b⟩
  · obtain ⟨t, ho⟩ := exo_at I.hok a
    exact ⟨_, none, ⟨ho, rfl, rfl, trivial⟩, fun f v z => nomatch z⟩
  · obtain ⟨t, ho⟩ := exo_at I.hok a
    obtain ⟨mA, hns, hr⟩ := exd_at I.hok b
    obtain ⟨oD, hD, hl⟩ := lookIn_ns hns
    refine ⟨_, some oD, ⟨ho, rfl, rfl, hD⟩, fun f v z => ?_⟩
    obtain ⟨u, hu, ru⟩ := RelO.some_of (v := v) (o := mA f) (by rw [← z]; exact hr f)
    exact ⟨u, oD, rfl, ru, by rw [hl, hu]⟩
def tErrFld (K : PySem.W.Frag) (te : TE) (f : Str) : TE := fun σ H Q => te σ H fun x H1 => ∃ (a C : Addr) (b : EB) (fs : List (Str × V)) (v : V), x = .ref a ∧ XC K C b ∧ PySem.W.findIn K (.ref C) f = some none ∧ ErrAt H1 a C fs ∧ fs.lookup f = some v ∧ Q v H1
theorem pe_errfld {X : Cx} {e : Expr} {te : TE} {f : Str} {pos : Pos} (he : PE X e te) (hb : attributeBase e f X.env (eval e X.env) = eval e X.env := by rfl) : PE X (.Attribute e f pos) (tErrFld X.K te f) := by
  constructor
  intro pins s σ H Q I h
  refine attr_of hb (thn (he.run pins s σ H _ I h) ?_)
  rintro u s1 ⟨x, H1, I1, rx, a, C, b, fs, v, rfl, T, no, ea, l, q⟩
  cases (show u = Value.ref a from rx)
  obtain ⟨ox, od, J, look⟩ := ea.inst I1
  obtain ⟨u, oD, rfl, ru, hl⟩ := look f v l
  obtain ⟨cd, hcl, _, hd⟩ := T.data
  have hdct : PySem.W.hasDictIn X.K C = true := by
    unfold PySem.W.hasDictIn
    rw [hcl]
    exact hd
  exact HandSPX.exc_get I1.kIn J T.ga T.gg T.exB (PySem.W.findObj_own hdct no rfl hl) (handed_of ru) ⟨v, H1, I1.tok _, ru, q⟩
def rErrIs (K : PySem.W.Frag) : List V → Hp → VK → Prop := fun xs H Q => ∃ (a C : Addr) (b : EB) (fs : List (Str × V)) (c : V) (cv : Value) (k : Bool), xs = [.ref a, c] ∧ XC K C b ∧ ErrAt H a C fs ∧ ClsV c cv ∧ PySem.W.kitOne K (.ref C) cv = some k ∧ Q (.bl k) H
theorem call_errIs {X : Cx} (hn : PySem.W.specialIn X.K (.builtin "object.__class__") "__get__" = some (some (.builtin "getset_descriptor.__get__"))) (ht : PySem.W.takesIn X.K (.builtin "object.__class__") = some true) : CallR X (.builtin "isinstance") (rErrIs X.K) := by
  intro pins s σ H xs us Q I r h
  obtain ⟨a, C, b, fs, c, cv, k, rfl, T, ea, hc, e, q⟩ := h
  obtain ⟨u1, u2, rfl, r1, r2⟩ := vals2 r
  cases (show u1 = Value.ref a from r1)
  cases hc.eq r2
  obtain ⟨ox, od, J, _⟩ := ea.inst I
  obtain ⟨cd, hcl, _, _⟩ := T.data
  exact PySem.W.kia_one (PySem.W.kitx_exc (by rw [hcl]; rfl) T.ga T.gg T.exB T.kl hn ht T.ob) I.kIn J e (fun z => nomatch z) fun tk => ⟨.bl k, H, I.tok tk, rfl, q⟩
end GL
set_option maxHeartbeats 4000000
namespace GL
open PySem PySem.Spec PyProof.Rows L2
theorem PE.imp {X : Cx} {e : Expr} {t t' : TE} (h : PE X e t) (k : ∀ σ H Q, t' σ H Q → t σ H Q) : PE X e t' := ⟨fun pins s σ H Q I q => h.run pins s σ H Q I (k σ H Q q)⟩
theorem PA.imp {X : Cx} {es : List Expr} {t t' : TA} (h : PA X es t) (k : ∀ σ H Q, t' σ H Q → t σ H Q) : PA X es t' := ⟨fun pos pins s σ H Q I q => h.run pos pins s σ H Q I (k σ H Q q)⟩
theorem fun_of {K : PySem.W.Frag} {x q : Str} {st : Stmt} {kws : List (Str × V)} {f : Addr} {fd : FuncData} (F : FunD K x q (defArgs st) (defBody st) (defScope st) [] kws f fd) : L2.Fun K x q st f fd := by
  obtain ⟨⟨oc, od, dV, kV, doc, pm, an, cdv, ct, osl, e, lk, hcd, hD, hK⟩, kp⟩ := F
  rcases hD with ⟨_, rfl⟩ | ⟨z, _⟩
  · exact ⟨⟨oc, od, kV, doc, pm, an, cdv, ct, osl, e, lk, hcd⟩, kp⟩
  · exact absurd rfl z
/-- C(k = v, ..) of an error: its parameters' values are all, by the keywords' -/
def tErrK (C : Addr) (sp : Sp) (g : List V → List V) (t : TA) : TE := fun σ H Q => t σ H fun zs H1 => ∀ a, H1 a = none → sp (.ref a :: g zs) (upd H1 a (exo a C none)) (fun v H2 => v = .non ∧ Q (.ref a) H2) E0
section
variable {X : Cx} {p pos : Pos} {kws : List Keyword} {tk : TA} {x : Str} {C fI : Addr} {b : EB} {k : Nat} {fd : FuncData} {ps ks : List Str} {sp : Sp}
theorem pe_errK {gV : List V → List V} {gU : List Value → List Value} (T : XC X.K C b) (iC : PySem.W.findIn X.K (.ref C) "__init__" = some (some (.ref fI))) (tI : PySem.W.typeIn X.K (.ref fI) = some (.type "function")) (F1 : FnOk X.prog X.w X.K X.mg X.base CX0 k fI fd ps sp)
    (hr : Room (k + 1) X.A) (hb : ∀ (s : Shared) (z : Value) (us : List Value), us.length = ks.length → BindsTo s fd ⟨[z], ks.zip us⟩ (ps.zip (z :: gU us))) (hg : Gl X x) (hm : X.mg x = some (.ref C)) (hkw : PK X kws tk)
    (hrel : ∀ {zs : List V} {us : List Value}, Vals zs us → Vals (gV zs) (gU us)) (hlen : ∀ {σ : L2.St} {H : Hp} {Q : List V → Hp → Prop}, tk σ H Q → tk σ H fun zs H' => zs.length = ks.length ∧ Q zs H')
    (hall : (backToKw pos (keywordEach kws X.env)).all (·.1.isSome) = true := by rfl) (hks : (backToKw pos (keywordEach kws X.env)).filterMap (·.1) = ks := by rfl) (hdb : (x == ("__debug__" : Str)) = false := by decide)
    (hpl : ((backTo pos (starEach [] X.env)).any (·.1) || (backToKw pos (keywordEach kws X.env)).any (·.1.isNone)) = false := by rfl) :
    PE X (.Call (.Name x p) [] kws pos) (tErrK C sp gV tk) := by
  constructor
  intro pins s σ H Q I h
  apply wpAny_Call_Name_kw
  refine ld_glob I hg hm ?_ hdb
  refine PySem.W.callWith_KW0 (h₀ := X.base) I.ok.mod.kin T.keep hall ?_ hpl
  refine thn (hkw.run pos pins s σ H _ I (hlen h)) ?_
  rintro ws s2 ⟨zs, H2, I2, rz, lz, q⟩
  refine ⟨I2.kIn, ?_⟩
  rw [hks]
  exact run_err (us := []) T iC tI F1 hr (fun s' z _ => hb s' z ws (by rw [← Paired.length rz]; exact lz)) (Nat.zero_le _) I2 (hrel rz) q
end
/-- C() of an error class without an __init__ of its own -/
theorem pe_err0 {X : Cx} {C : Addr} {b : EB} {x : Str} {p pos : Pos} (q : PySem.W.excIn X.K C b.tail b.new = true) (gC : X.mg x = some (.ref C)) (kC : PySem.W.keepIn X.K (.ref C) = true) (hg : Gl X x) (hdb : (x == ("__debug__" : Str)) = false := by decide) :
    PE X (.Call (.Name x p) [] [] pos) (fun σ H Q => ∀ a, H a = none → Q (.ref a) (upd H a (exo a C none))) := by
  constructor
  intro pins s σ H Q I h
  apply wpAny_Call_Name_kw
  refine ld_glob I hg gC ?_ hdb
  apply PySem.W.callWith_K0 I.kIn kC
  obtain ⟨i, FB⟩ := b.base
  rcases s with ⟨hp, g, d, t, os⟩
  obtain ⟨bm, N, nm, qn, bs, hdct, sn, sub, ab, col, dd, k0, k1, k2, k3, k5, mN, hC, hN, hni, T⟩ := exc_obj I.kIn q
  refine wpAny_call_exc_subT FB T hC hN hni (fun h' a hm => ?_) (by show 0 ≤ sizeLine; exact Nat.zero_le _)
  have hn : H a = none := I.hok.gone hm.new
  obtain ⟨t, ht, _, _⟩ := hm.there
  exact ⟨.ref a, upd H a (exo a C none), I.laidN hm.keeps hm.new hn (exo_ok ht), rfl, h a hn⟩

/-! ### an __init__ that stores its parameters -/
def spInit (C : Addr) (fl : List Str) : Sp := fun vs H Q _ => ∃ (a : Addr) (ys : List V), vs = .ref a :: ys ∧ ys.length = fl.length ∧ H a = some (exo a C none) ∧
  ∀ dx H', H dx = none → dx ≠ a → H' a = some (exo a C (some dx)) → H' dx = some (exd dx (fl.zip ys).reverse) → (∀ b o, H b = some o → b ≠ a → H' b = some o) → Q .non H'
section
variable {P : Program} {w : World} {K : PySem.W.Frag} {mg : Str → Option Value} {base : Heap} {st : Stmt} {qual f1 f2 f3 : Str} {C fI : Addr} {b : EB} {fd : FuncData} {q1 q2 q3 q4 r1 r2 r3 r4 z1 z2 z3 z4 : Pos}
theorem swap_name {n : Str} {pp : Pos} {o : Option Expr} {l : Nat} {env : Env} : swapsWith (.Name n pp) o l env = pure false := by rfl
theorem ok_init1 (F : L2.Fun K "__init__" qual st fI fd) (T : XC K C b) (n1 : PySem.W.findIn K (.ref C) f1 = some none) (hb : defBody st = [.Assign [.Attribute (.Name "self" q1) f1 q2] (.Name f1 q3) q4])
    (S : FnScope ["self", f1] ["self", f1] (defScope st)) (v0 : (defScope st).names.lookup ("self" : Str) = some .local) (v1 : (defScope st).names.lookup f1 = some .local) (d1 : (f1 == ("__debug__" : Str)) = false) (c1 : (f1 == ("__classdict__" : Str)) = false) :
    FnOk P w K mg base CX0 1 fI fd ["self", f1] (spInit C [f1]) := by
  refine F.ok S (fun vs H Q E h => ?_) (fun cdv A outer s H vs Q E hr h => ?_)
  · obtain ⟨a, ys, rfl, l, _⟩ := h
    exact congrArg Nat.succ l
  · obtain ⟨a, ys, rfl, l, ha, k⟩ := h
    rw [hb]
    match ys, l with
    | [y], _ =>
      refine ⟨_, pss_one (ps_put (pe_var (i := 0) rfl (.inl v0)) (pe_var (i := 1) rfl (.inl v1) d1 c1) swap_name), ?_⟩
      refine ⟨y, rfl, .ref a, rfl, a, C, b, rfl, T, n1, .inl ⟨ha, fun dx hd hne => ?_⟩⟩
      exact k dx _ hd hne upd_same (by rw [upd_ne hne]; exact upd_same) fun c o e hc => by rw [upd_ne hc, upd_ne (ne_of_none e hd)]; exact e
theorem ok_init2 (F : L2.Fun K "__init__" qual st fI fd) (T : XC K C b) (n1 : PySem.W.findIn K (.ref C) f1 = some none) (n2 : PySem.W.findIn K (.ref C) f2 = some none)
    (hb : defBody st = [.Assign [.Attribute (.Name "self" q1) f1 q2] (.Name f1 q3) q4, .Assign [.Attribute (.Name "self" r1) f2 r2] (.Name f2 r3) r4])
    (S : FnScope ["self", f1, f2] ["self", f1, f2] (defScope st)) (v0 : (defScope st).names.lookup ("self" : Str) = some .local) (v1 : (defScope st).names.lookup f1 = some .local) (v2 : (defScope st).names.lookup f2 = some .local)
    (d1 : (f1 == ("__debug__" : Str)) = false) (c1 : (f1 == ("__classdict__" : Str)) = false) (d2 : (f2 == ("__debug__" : Str)) = false) (c2 : (f2 == ("__classdict__" : Str)) = false) :
    FnOk P w K mg base CX0 1 fI fd ["self", f1, f2] (spInit C [f1, f2]) := by
  refine F.ok S (fun vs H Q E h => ?_) (fun cdv A outer s H vs Q E hr h => ?_)
  · obtain ⟨a, ys, rfl, l, _⟩ := h
    exact congrArg Nat.succ l
  · obtain ⟨a, ys, rfl, l, ha, k⟩ := h
    rw [hb]
    match ys, l with
    | [y, z], _ =>
      refine ⟨_, pss_cons (ps_put (pe_var (i := 0) rfl (.inl v0)) (pe_var (i := 1) rfl (.inl v1) d1 c1) swap_name) (pss_one (ps_put (pe_var (i := 0) rfl (.inl v0)) (pe_var (i := 2) rfl (.inl v2) d2 c2) swap_name)), ?_⟩
      refine ⟨y, rfl, .ref a, rfl, a, C, b, rfl, T, n1, .inl ⟨ha, fun dx hd hne => ?_⟩⟩
      refine ⟨z, rfl, .ref a, rfl, a, C, b, rfl, T, n2, .inr ⟨dx, _, upd_same, (by rw [upd_ne hne]; exact upd_same), (by show 1 ≤ 900; decide), ?_⟩⟩
      exact k dx _ hd hne (by rw [upd_ne hne.symm]; exact upd_same) upd_same fun c o e hc => by rw [upd_ne (ne_of_none e hd), upd_ne hc, upd_ne (ne_of_none e hd)]; exact e
theorem ok_init3 (F : L2.Fun K "__init__" qual st fI fd) (T : XC K C b) (n1 : PySem.W.findIn K (.ref C) f1 = some none) (n2 : PySem.W.findIn K (.ref C) f2 = some none) (n3 : PySem.W.findIn K (.ref C) f3 = some none)
    (hb : defBody st = [.Assign [.Attribute (.Name "self" q1) f1 q2] (.Name f1 q3) q4, .Assign [.Attribute (.Name "self" r1) f2 r2] (.Name f2 r3) r4, .Assign [.Attribute (.Name "self" z1) f3 z2] (.Name f3 z3) z4])
    (S : FnScope ["self", f1, f2, f3] ["self", f1, f2, f3] (defScope st)) (v0 : (defScope st).names.lookup ("self" : Str) = some .local) (v1 : (defScope st).names.lookup f1 = some .local) (v2 : (defScope st).names.lookup f2 = some .local) (v3 : (defScope st).names.lookup f3 = some .local)
    (d1 : (f1 == ("__debug__" : Str)) = false) (c1 : (f1 == ("__classdict__" : Str)) = false) (d2 : (f2 == ("__debug__" : Str)) = false) (c2 : (f2 == ("__classdict__" : Str)) = false) (d3 : (f3 == ("__debug__" : Str)) = false) (c3 : (f3 == ("__classdict__" : Str)) = false) :
    FnOk P w K mg base CX0 1 fI fd ["self", f1, f2, f3] (spInit C [f1, f2, f3]) := by
  refine F.ok S (fun vs H Q E h => ?_) (fun cdv A outer s H vs Q E hr h => ?_)
  · obtain ⟨a, ys, rfl, l, _⟩ := h
    exact congrArg Nat.succ l
  · obtain ⟨a, ys, rfl, l, ha, k⟩ := h
    rw [hb]
    match ys, l with
    | [y, z, u], _ =>
      refine ⟨_, pss_cons (ps_put (pe_var (i := 0) rfl (.inl v0)) (pe_var (i := 1) rfl (.inl v1) d1 c1) swap_name) (pss_cons (ps_put (pe_var (i := 0) rfl (.inl v0)) (pe_var (i := 2) rfl (.inl v2) d2 c2) swap_name)
        (pss_one (ps_put (pe_var (i := 0) rfl (.inl v0)) (pe_var (i := 3) rfl (.inl v3) d3 c3) swap_name))), ?_⟩
      refine ⟨y, rfl, .ref a, rfl, a, C, b, rfl, T, n1, .inl ⟨ha, fun dx hd hne => ?_⟩⟩
      refine ⟨z, rfl, .ref a, rfl, a, C, b, rfl, T, n2, .inr ⟨dx, _, upd_same, (by rw [upd_ne hne]; exact upd_same), (by show 1 ≤ 900; decide), ?_⟩⟩
      refine ⟨u, rfl, .ref a, rfl, a, C, b, rfl, T, n3, .inr ⟨dx, _, (by rw [upd_ne hne.symm]; exact upd_same), upd_same, (by show 2 ≤ 900; decide), ?_⟩⟩
      exact k dx _ hd hne (by rw [upd_ne hne.symm, upd_ne hne.symm]; exact upd_same) upd_same fun c o e hc => by rw [upd_ne (ne_of_none e hd), upd_ne (ne_of_none e hd), upd_ne hc, upd_ne (ne_of_none e hd)]; exact e
end
/-- an error made, told in whole: what was tracked stands, its fields are as its __init__ stores them -/
theorem init_made {C : Addr} {fl : List Str} {H1 : Hp} {Q : VK} {x : Addr} {ys : List V} (hx : H1 x = none) (hl : ys.length = fl.length) (q : ∀ (e : Addr) (H' : Hp), Same H1 H' → H1 e = none → ErrAt H' e C (fl.zip ys).reverse → Q (.ref e) H') :
    spInit C fl (.ref x :: ys) (upd H1 x (exo x C none)) (fun v H2 => v = .non ∧ Q (.ref x) H2) E0 := by
  refine ⟨x, ys, rfl, hl, upd_same, fun dx H' hd hne ha hdx kp => ⟨rfl, q x H' (fun b o e => ?_) hx (.inr ⟨dx, ha, hdx⟩)⟩⟩
  have hb : b ≠ x := ne_of_none e hx
  exact kp b o (by rw [upd_ne hb]; exact e) hb
end GL
set_option maxHeartbeats 4000000
namespace GL
open PySem PySem.Spec PyProof.Rows L2
theorem same_sqT {K : PySem.W.Frag} {H H' : Hp} {a : Addr} {xs : List V} (e : Same H H') (h : SqT K H a xs) : SqT K H' a xs := by
  rcases h with (h | ⟨o, h⟩) | h
  · exact .inl (.inl (e _ _ h))
  · exact .inl (.inr ⟨o, e _ _ h⟩)
  · exact .inr h
mutual
theorem Dq.same {K : PySem.W.Frag} {H H' : Hp} (e : Same H H') : ∀ {v : V} {d : PyData}, Dq K H v d → Dq K H' v d
  | _, _, .non => .non
  | _, _, .bl b => .bl b
  | _, _, .int i => .int i
  | _, _, .str x => .str x
  | _, _, .lst h a => .lst (e.seq h) (DqAll.same e a)
  | _, _, .tup h a => .tup (same_sqT e h) (DqAll.same e a)
  | _, _, .dct h a => .dct (e _ _ h) (DqKv.same e a)
theorem DqAll.same {K : PySem.W.Frag} {H H' : Hp} (e : Same H H') : ∀ {vs : List V} {ds : List PyData}, DqAll K H vs ds → DqAll K H' vs ds
  | _, _, .nil => .nil
  | _, _, .cons a b => .cons (Dq.same e a) (DqAll.same e b)
theorem DqKv.same {K : PySem.W.Frag} {H H' : Hp} (e : Same H H') : ∀ {kvs : List (Key × V)} {ps : List (PyData × PyData)}, DqKv K H kvs ps → DqKv K H' kvs ps
  | _, _, .nil => .nil
  | _, _, .consI a b => .consI (Dq.same e a) (DqKv.same e b)
  | _, _, .consS a b => .consS (Dq.same e a) (DqKv.same e b)
end
theorem paired_rev {α β : Type} {R : α → β → Prop} : ∀ {xs : List α} {ys : List β}, Paired R xs ys → Paired R xs.reverse ys.reverse := by
  have app : ∀ {xs us : List α} {ys ws : List β}, Paired R xs ys → Paired R us ws → Paired R (xs ++ us) (ys ++ ws) := by
    intro xs us ys ws h k
    induction h with
    | nil => exact k
    | cons r _ ih => exact .cons r ih
  intro xs ys h
  induction h with
  | nil => exact .nil
  | cons r _ ih =>
    rw [List.reverse_cons, List.reverse_cons]
    exact app ih (.cons r .nil)
theorem same_new {H : Hp} {p : Addr} {o : HO} (h : H p = none) : Same H (upd H p o) := fun b u e => by
  rw [upd_ne (ne_of_none e h)]
  exact e
theorem del_le {H : Hp} {p : Addr} : Same (del H p) H := fun b o e => by
  by_cases h : b = p
  · rw [h, del_same] at e
    cases e
  · rwa [del_ne h] at e
theorem del_but {H H' : Hp} {p : Addr} (k : ∀ b o, H b = some o → b ≠ p → H' b = some o) : Same (del H p) (del H' p) := fun b o e => by
  by_cases h : b = p
  · rw [h, del_same] at e
    cases e
  · rw [del_ne h] at e ⊢
    exact k b o e h
/-! ### a list comprehension whose element leaves what was tracked as it was -/
theorem take_ext {α : Type} : ∀ {l : List α} {i : Nat} {x : α}, l[i]? = some x → l.take (i + 1) = l.take i ++ [x]
  | a :: l, 0, x, h => by
    cases Option.some.inj h
    rfl
  | a :: l, i + 1, x, h => by
    have ih := take_ext (l := l) (i := i) (x := x) (by simpa using h)
    rw [List.take_succ_cons, ih, List.take_succ_cons]
    rfl
section
variable {K : PySem.W.Frag} {te : TE} {σ : L2.St} {j : Nat} {H1 : Hp} {D a : Addr} {xs : List V} {val : V → V} {Qd : Hp → Prop}
theorem lc_same (hS : SqL K H1 a xs) (hD : H1 D = none) (hl : xs.length < 1000000) (hw : ∀ x, wipe ((wipe σ [j]).set j (some x)) [j] = wipe σ [j])
    (hs : ∀ (i : Nat) (x : V) (H' : Hp) (Q : VK), xs[i]? = some x → Same H1 H' → (∀ H2, Same H' H2 → Q (val x) H2) → te ((wipe σ [j]).set j (some x)) H' Q) (hd : ∀ H', Same H1 H' → H' D = some (.lst (xs.map val)) → Qd H') :
    ∃ W : Nat → Nat → Hp → Prop, (∃ m, W 0 m (upd H1 D (.lst []))) ∧ ∀ i m H, W i m H →
      ((Itl K a).stop i H ∧ Qd H) ∨ ((Itl K a).go i H ∧ ∃ Nx : Hp → Prop, (∀ H', Nx H' → ∃ m', m' < m ∧ W (i + 1) m' H') ∧ ∀ x H', (Itl K a).yld i H x H' → gName j x (wipe σ [j]) H' fun σ2 H2 => wipe σ2 [j] = wipe σ [j] ∧ tYes σ2 H2 fun b H3 =>
        if b = true then te σ2 H3 fun y H4 => ∃ acc, H4 D = some (.lst acc) ∧ acc.length < sizeLine ∧ Nx (upd H4 D (.lst (acc ++ [y]))) else Nx H3) := by
  refine lc_list (K := K) (a := a) (xs := xs) (fun i H => H D = some (.lst ((xs.take i).map val)) ∧ Same H1 H) ⟨upd_same, same_new hD⟩ (fun i H _ ⟨_, s⟩ => s.seq hS) ?_ ?_
  · rintro i x H hi ⟨hd', s⟩
    refine ⟨hw x, ?_⟩
    show te (List.set (wipe σ [j]) j (some x)) H (fun y H4 => ∃ acc, H4 D = some (.lst acc) ∧ acc.length < sizeLine ∧ (upd H4 D (.lst (acc ++ [y])) D = some (.lst ((xs.take (i + 1)).map val)) ∧ Same H1 (upd H4 D (.lst (acc ++ [y])))))
    refine hs i x H _ hi s fun H2 s2 => ⟨_, s2 _ _ hd', ?_, ?_, fun b o e => ?_⟩
    · rw [List.length_map, List.length_take, sizeLine_eq]
      omega
    · rw [take_ext hi, List.map_append, upd_same]
      rfl
    · rw [upd_ne (ne_of_none e hD)]
      exact s2 _ _ (s _ _ e)
  · rintro H ⟨hd', s⟩
    rw [List.take_length] at hd'
    exact hd H s hd'
theorem lc_sameR {lo : Int} {n : Nat} {val : Int → V} (hD : H1 D = none) (hl : n < 1000000) (hw : ∀ x, wipe ((wipe σ [j]).set j (some x)) [j] = wipe σ [j])
    (hs : ∀ (i : Nat) (H' : Hp) (Q : VK), i < n → Same H1 H' → (∀ H2, Same H' H2 → Q (val (lo + i)) H2) → te ((wipe σ [j]).set j (some (.int (lo + i)))) H' Q) (hd : ∀ H', Same H1 H' → H' D = some (.lst ((List.range n).map fun i => val (lo + (i : Nat)))) → Qd H') :
    ∃ W : Nat → Nat → Hp → Prop, (∃ m, W 0 m (upd H1 D (.lst []))) ∧ ∀ i m H, W i m H →
      ((Itr lo n).stop i H ∧ Qd H) ∨ ((Itr lo n).go i H ∧ ∃ Nx : Hp → Prop, (∀ H', Nx H' → ∃ m', m' < m ∧ W (i + 1) m' H') ∧ ∀ x H', (Itr lo n).yld i H x H' → gName j x (wipe σ [j]) H' fun σ2 H2 => wipe σ2 [j] = wipe σ [j] ∧ tYes σ2 H2 fun b H3 =>
        if b = true then te σ2 H3 fun y H4 => ∃ acc, H4 D = some (.lst acc) ∧ acc.length < sizeLine ∧ Nx (upd H4 D (.lst (acc ++ [y]))) else Nx H3) := by
  refine lc_range (lo := lo) (n := n) (fun i H => H D = some (.lst ((List.range i).map fun i => val (lo + (i : Nat)))) ∧ Same H1 H) ⟨upd_same, same_new hD⟩ ?_ ?_
  · rintro i H hi ⟨hd', s⟩
    refine ⟨hw _, ?_⟩
    show te (List.set (wipe σ [j]) j (some (V.int (lo + i)))) H (fun y H4 => ∃ acc, H4 D = some (.lst acc) ∧ acc.length < sizeLine ∧ (upd H4 D (.lst (acc ++ [y])) D = some (.lst ((List.range (i + 1)).map fun i => val (lo + (i : Nat)))) ∧ Same H1 (upd H4 D (.lst (acc ++ [y])))))
    refine hs i H _ hi s fun H2 s2 => ⟨_, s2 _ _ hd', ?_, ?_, fun b o e => ?_⟩
    · rw [List.length_map, List.length_range, sizeLine_eq]
      omega
    · rw [List.range_succ, List.map_append, upd_same]
      rfl
    · rw [upd_ne (ne_of_none e hD)]
      exact s2 _ _ (s _ _ e)
  · rintro H ⟨hd', s⟩
    exact hd H s hd'
end
end GL
set_option maxHeartbeats 4000000
namespace K19
open PySem PySem.Spec PyProof.Rows L2 GL
def tp (i : Nat) : Stmt := PySem.Challenge.pw_fademodes_k19_errors_and_their_classes.main.body.getD i (.Pass ⟨0, 0, 0, 0⟩)
abbrev sRng : Stmt := tp 42
abbrev sDraw : Stmt := tp 43
abbrev sChoice : Stmt := tp 44
abbrev sThing : Stmt := tp 45
/-- names of Python's own that the module leaves alone -/
structure Free (mg : Str → Option Value) : Prop where
  len : mg "len" = none
  abs : mg "abs" = none
  max : mg "max" = none
  min : mg "min" = none
  int : mg "int" = none
  divmod : mg "divmod" = none
  range : mg "range" = none
  list : mg "list" = none
  repr : mg "repr" = none
  all : mg "all" = none
  enum : mg "enumerate" = none
  isi : mg "isinstance" = none
  ve : mg "ValueError" = none
  le : mg "LookupError" = none
  re : mg "RuntimeError" = none
/-- the state of a drawing: a list of two numbers -/
def Rng (H : Hp) (p : Addr) : Prop := ∃ x y : Int, H p = some (.lst [.int x, .int y]) ∧ 0 ≤ y ∧ y < 2 ^ 40
def spRng (K : PySem.W.Frag) : Sp := fun vs H Q _ => ∃ (a : Addr) (ns : List Int) (i : Int), vs = [.ref a, .int i] ∧ SqL K H a (ns.map V.int) ∧ 0 ≤ i ∧ i < 100 ∧
  ∀ p H', H p = none → Same H H' → Rng H' p → Q (.ref p) H'
section
variable {P : Program} {w : World} {K : PySem.W.Frag} {mg : Str → Option Value} {base : Heap}
theorem scRng : FnScope ["_law_script", "_law_spot", "_law_cell"] ["_law_script", "_law_spot"] (defScope sRng) := ⟨rfl, rfl, rfl, by decide +kernel, rfl, by decide +kernel, by decide +kernel⟩
theorem fm_bd (a : Int) {b : Int} (hb : 0 < b) : 0 ≤ a.fmod b ∧ a.fmod b < b := by
  rw [Int.fmod_eq_emod_of_nonneg _ (by omega)]
  exact ⟨Int.emod_nonneg _ (by omega), Int.emod_lt_of_pos _ hb⟩
theorem ok_rng {f : Addr} {fd : FuncData} (F : Fun K "_law_rng" "_law_rng" sRng f fd) (T : Free mg) : FnOk P w K mg base CX0 1 f fd ["_law_script", "_law_spot"] (spRng K) := by
  refine F.ok scRng (fun vs H Q E h => ?_) (fun cdv A outer s H vs Q E hr h => ?_)
  · obtain ⟨a, ns, i, rfl, _⟩ := h
    rfl
  · obtain ⟨a, ns, i, rfl, hS, i0, i1, k⟩ := h
    refine ⟨_, pss_cons (ps_set (i := 2) scRng.nd rfl (Or.inl rfl)
        (pe_ifExp (pt_cmpR op_lt (pv 1) (pe_callB call_len_seq (by rfl) T.len PySem.boot_len (pa_cons (pv 0) pa_nil)) (nomark _))
          (pe_callB call_abs (by rfl) T.abs (by decide +kernel) (pa_cons (pe_ix ix_list (pv 0) (pv 1) (fun _ _ => rfl)) pa_nil))
          (pe_op op_add (pe_op op_mul pe_int (pv 1)) pe_int)))
      (pss_one (ps_ret (pe_lst (pa_cons (pe_callB (call_max2 rfl) (by rfl) T.max (by decide +kernel) (pa_cons pe_int (pa_cons (pe_op op_sub (pv 2) (pe_op op_pow pe_int pe_int)) pa_nil)))
        (pa_cons (pe_op op_add (pe_op op_modN (pe_callTy call_int1 (by rfl) T.int (by decide +kernel) (pa_cons
          (pe_op op_add (pe_op op_add (pe_op op_mul (pe_op op_modN (pe_callTy call_int1 (by rfl) T.int (by decide +kernel) (pa_cons (pv 2) pa_nil)) pe_int) pe_int) (pe_op op_mul pe_int (pv 1))) pe_int) pa_nil)) pe_int) pe_int) pa_nil))))), ?_⟩
    refine ⟨_, rfl, _, rfl, _, _, rfl, .inl hS, _, _, rfl, rfl, _, rfl, ?_⟩
    refine ite2 (fun c => ?_) (fun c => ?_)
    · have c' : i < ((ns.map V.int).length : Int) := of_decide_eq_true c
      obtain ⟨j, rfl⟩ : ∃ j : Nat, i = (j : Int) := ⟨i.toNat, by omega⟩
      have hj : j < ns.length := by rw [List.length_map] at c'; omega
      refine ⟨_, rfl, _, rfl, a, _, _, V.int ns[j], rfl, rfl, hS, atI_nat (by rw [List.getElem?_map, List.getElem?_eq_getElem hj]; rfl), _, rfl, ?_⟩
      generalize (if ns[j] < 0 then -ns[j] else ns[j]) = c
      (refine ⟨_, rfl, _, _, rfl, rfl, ⟨by decide, by decide, by decide⟩, _, _, rfl, rfl, _, _, rfl, _, rfl, .inl ⟨_, rfl, _, _, rfl, rfl, (by show (2147483543 : Int) ≠ 0; decide), _, _, rfl, rfl, .inr ⟨by decide, by decide⟩,
        _, rfl, _, _, rfl, rfl, .inl ⟨by decide, by decide⟩, _, _, rfl, rfl, _, _, rfl, rfl, .inl ⟨_, rfl, _, _, rfl, rfl, (by show (2147483629 : Int) ≠ 0; decide), _, _, rfl, rfl, by show 2 ≤ sizeLine; decide, fun p hp => ?_⟩⟩⟩
       refine k p _ hp (fun b o e => by rw [upd_ne (ne_of_none e hp)]; exact e) ⟨_, _, upd_same, ?_⟩
       have q := fm_bd (c.fmod 2147483543 * 39373 + 52361 * (j : Int) + 29) (b := 2147483629) (by decide)
       exact ⟨by omega, by omega⟩)
    · refine ⟨_, rfl, _, _, rfl, rfl, .inl ⟨by decide, by decide⟩, _, _, rfl, rfl, ?_⟩
      (refine ⟨_, rfl, _, _, rfl, rfl, ⟨by decide, by decide, by decide⟩, _, _, rfl, rfl, _, _, rfl, _, rfl, .inl ⟨_, rfl, _, _, rfl, rfl, (by show (2147483543 : Int) ≠ 0; decide), _, _, rfl, rfl, .inr ⟨by decide, by decide⟩,
        _, rfl, _, _, rfl, rfl, .inl ⟨by decide, by decide⟩, _, _, rfl, rfl, _, _, rfl, rfl, .inl ⟨_, rfl, _, _, rfl, rfl, (by show (2147483629 : Int) ≠ 0; decide), _, _, rfl, rfl, by show 2 ≤ sizeLine; decide, fun p hp => ?_⟩⟩⟩
       refine k p _ hp (fun b o e => by rw [upd_ne (ne_of_none e hp)]; exact e) ⟨_, _, upd_same, ?_⟩
       have q := fm_bd ((11 * i + 4).fmod 2147483543 * 39373 + 52361 * i + 29) (b := 2147483629) (by decide)
       exact ⟨by omega, by omega⟩)
/-! ### a number drawn -/
def spDraw : Sp := fun vs H Q _ => ∃ (p : Addr) (m : Int), vs = [.ref p, .int m] ∧ Rng H p ∧ 0 < m ∧ m < 1000000000 ∧
  ∀ d H', 0 ≤ d → d < m → (∀ b o, H b = some o → b ≠ p → H' b = some o) → Rng H' p → Q (.int d) H'
theorem scDraw : FnScope ["_law_rng_here", "_law_many", "_law_digit"] ["_law_rng_here", "_law_many"] (defScope sDraw) := ⟨rfl, rfl, rfl, by decide +kernel, rfl, by decide +kernel, by decide +kernel⟩
theorem ok_draw {f : Addr} {fd : FuncData} (F : Fun K "_law_draw" "_law_draw" sDraw f fd) (T : Free mg) : FnOk P w K mg base CX0 1 f fd ["_law_rng_here", "_law_many"] spDraw := by
  refine F.ok scDraw (fun vs H Q E h => ?_) (fun cdv A outer s H vs Q E hr h => ?_)
  · obtain ⟨p, m, rfl, _⟩ := h
    rfl
  · obtain ⟨p, m, rfl, ⟨x, y, hp, y0, y1⟩, m0, m1, k⟩ := h
    refine ⟨_, pss_cons (ps_if (pt_cmpR op_gt (pe_ix ix_list (pv 0) pe_int (fun _ _ => rfl)) pe_int (nomark _))
        (pss_cons (ps_asg (pe_callB call_divmod (by rfl) T.divmod (by decide +kernel) (pa_cons (pe_ix ix_list (pv 0) pe_int (fun _ _ => rfl)) (pa_cons (pv 1) pa_nil)))
            (pg_tup (by rfl) (pgs_cons (pg_sub (pv 0) pe_int set_list) (pgs_cons (pg_name (i := 2) scDraw.nd rfl (.inl rfl)) pgs_nil))))
          (pss_one (ps_ret (pv 2)))) pss_nil)
      (pss_cons (ps_asg (pe_op op_modN (pe_callTy call_int1 (by rfl) T.int (by decide +kernel) (pa_cons (pe_op op_add (pe_op op_mul (pe_ix ix_list (pv 0) pe_int (fun _ _ => rfl)) pe_int) pe_int) pa_nil)) pe_int) (pg_sub (pv 0) pe_int set_list))
        (pss_one (ps_ret (pe_op op_modN (pe_callTy call_int1 (by rfl) T.int (by decide +kernel) (pa_cons (pe_op op_fdiv (pe_op op_modN (pe_callTy call_int1 (by rfl) T.int (by decide +kernel)
          (pa_cons (pe_op op_mul (pe_ix ix_list (pv 0) pe_int (fun _ _ => rfl)) (pe_ix ix_list (pv 0) pe_int (fun _ _ => rfl))) pa_nil)) pe_int) pe_int) pa_nil)) (pv 1))))), ?_⟩
    refine ⟨_, rfl, p, _, _, _, rfl, rfl, SqL.of hp, rfl, _, _, rfl, rfl, _, rfl, ?_⟩
    refine ite2 (fun c => ?_) (fun c => ?_)
    · refine ⟨_, rfl, p, _, _, _, rfl, rfl, SqL.of hp, rfl, _, rfl, ?_⟩
      refine ⟨_, _, rfl, ⟨m0, by omega⟩, fun t ht => ?_⟩
      have hpt : p ≠ t := ne_of_none hp ht
      refine ⟨t, _, rfl, SqT.of upd_same, rfl, _, _, rfl, _, rfl, p, _, _, 0, rfl, rfl, by rw [upd_ne hpt]; exact hp, rfl, _, _, rfl, rfl, _, rfl, ?_⟩
      refine k _ _ (Int.emod_nonneg _ (by omega)) (Int.emod_lt_of_pos _ m0) (fun b o e hb => by rw [upd_ne hb, upd_ne (ne_of_none e ht)]; exact e) ⟨_, _, upd_same, y0, y1⟩
    · refine ⟨_, rfl, p, _, _, _, rfl, rfl, SqL.of hp, rfl, _, _, rfl, rfl, .inr ⟨by decide, by decide⟩, _, _, rfl, rfl, .inl ⟨_, rfl, _, _, rfl, rfl, (by show (2147483587 : Int) ≠ 0; decide), _, rfl, p, _, _, 1, rfl, rfl, hp, rfl, ?_⟩⟩
      have q := fm_bd (y * 48271 + 12227) (b := 2147483587) (by decide)
      refine ⟨_, rfl, p, _, _, _, rfl, rfl, SqL.of upd_same, rfl, _, rfl, p, _, _, _, rfl, rfl, SqL.of upd_same, rfl, _, _, rfl, rfl, .inl ⟨by omega, by omega⟩, .inl ⟨_, rfl, _, _, rfl, rfl, (by show (2147483549 : Int) ≠ 0; decide), _, _, rfl, rfl, ⟨by decide, by decide⟩,
        .inl ⟨_, rfl, _, rfl, _, _, rfl, rfl, (by show m ≠ 0; omega), ?_⟩⟩⟩
      have r := fm_bd (((y * 48271 + 12227).fmod 2147483587 * (y * 48271 + 12227).fmod 2147483587).fmod 2147483549 / 13) m0
      exact k _ _ r.1 r.2 (fun b o e hb => by rw [upd_ne hb]; exact e) ⟨_, _, upd_same, by omega, by omega⟩

/-! ### one of several -/
def spChoice (K : PySem.W.Frag) : Sp := fun vs H Q _ => ∃ (p l : Addr) (xs : List V), vs = [.ref p, .ref l] ∧ Rng H p ∧ H l = some (.lst xs) ∧ l ≠ p ∧ 0 < xs.length ∧ xs.length < 1000 ∧
  ∀ v H', v ∈ xs → (∀ b o, H b = some o → b ≠ p → H' b = some o) → Rng H' p → Q v H'
theorem scChoice : FnScope ["_law_rng_here", "_law_some"] ["_law_rng_here", "_law_some"] (defScope sChoice) := ⟨rfl, rfl, rfl, by decide +kernel, rfl, by decide +kernel, by decide +kernel⟩
theorem ok_choice {f fD : Addr} {fd fdD : FuncData} (F : Fun K "_law_choice" "_law_choice" sChoice f fd) (T : Free mg) (FD : Fun K "_law_draw" "_law_draw" sDraw fD fdD) (gD : mg "_law_draw" = some (.ref fD)) (bD : Binds K fdD ["_law_rng_here", "_law_many"] []) :
    FnOk P w K mg base CX0 2 f fd ["_law_rng_here", "_law_some"] (spChoice K) := by
  have GD : FnOk P w K mg base CX0 1 fD fdD ["_law_rng_here", "_law_many"] spDraw := ok_draw FD T
  refine F.ok scChoice (fun vs H Q E h => ?_) (fun cdv A outer s H vs Q E hr h => ?_)
  · obtain ⟨p, l, xs, rfl, _⟩ := h
    rfl
  · obtain ⟨p, l, xs, rfl, R, hl, hlp, x0, x1, k⟩ := h
    refine ⟨_, pss_one (ps_ret (pe_ix ix_list (pv 1) (pe_call GD hr rfl gD FD.kp bD .nil pass0 (pa_cons (pv 0) (pa_cons (pe_callB call_len_seq (by rfl) T.len PySem.boot_len (pa_cons (pv 1) pa_nil)) pa_nil))) (fun _ _ => rfl))), ?_⟩
    refine ⟨_, rfl, _, rfl, _, rfl, _, _, rfl, .inl (SqL.of hl), ?_⟩
    refine ⟨p, _, rfl, R, by omega, by omega, fun d H' d0 d1 kp R' => ?_⟩
    obtain ⟨j, rfl⟩ : ∃ j : Nat, d = (j : Int) := ⟨d.toNat, by omega⟩
    have hj : j < xs.length := by omega
    exact ⟨l, _, _, _, rfl, rfl, SqL.of (kp l _ hl hlp), atI_nat (List.getElem?_eq_getElem hj), k _ _ (List.getElem_mem hj) kp R'⟩
end
end K19
set_option maxHeartbeats 4000000
namespace K19
open PySem PySem.Spec PyProof.Rows L2 GL
/-- data that can be shown, and is small -/
def Small (d : PyData) : Prop := d.showable = true ∧ d.depth ≤ 5 ∧ d.shown.length ≤ 40
def spThing (K : PySem.W.Frag) : Sp := fun vs H Q _ => ∃ p : Addr, vs = [.ref p] ∧ Rng H p ∧ ∀ v d H', (∀ b o, H b = some o → b ≠ p → H' b = some o) → Rng H' p → Dq K (del H' p) v d → Small d → Q v H'
theorem scThing : FnScope ["_law_rng_here"] ["_law_rng_here"] (defScope sThing) := ⟨rfl, rfl, rfl, by decide +kernel, rfl, by decide +kernel, by decide +kernel⟩
section
variable {P : Program} {w : World} {K : PySem.W.Frag} {mg : Str → Option Value} {base : Heap}
theorem small_of {d : PyData} (h : (d.showable && (decide (d.depth ≤ 5) && decide (d.shown.length ≤ 40))) = true) : Small d := by
  obtain ⟨a, b⟩ := He.ba h
  obtain ⟨b, c⟩ := He.ba b
  exact ⟨a, of_decide_eq_true b, of_decide_eq_true c⟩
theorem ok_thing {f fC fD : Addr} {fd fdC fdD : FuncData} (F : Fun K "_law_thing" "_law_thing" sThing f fd) (T : Free mg) (FC : Fun K "_law_choice" "_law_choice" sChoice fC fdC) (gC : mg "_law_choice" = some (.ref fC)) (bC : Binds K fdC ["_law_rng_here", "_law_some"] [])
    (FD : Fun K "_law_draw" "_law_draw" sDraw fD fdD) (gD : mg "_law_draw" = some (.ref fD)) (bD : Binds K fdD ["_law_rng_here", "_law_many"] []) :
    FnOk P w K mg base CX0 3 f fd ["_law_rng_here"] (spThing K) := by
  have GC : FnOk P w K mg base CX0 2 fC fdC ["_law_rng_here", "_law_some"] (spChoice K) := ok_choice FC T FD gD bD
  refine F.ok scThing (fun vs H Q E h => ?_) (fun cdv A outer s H vs Q E hr h => ?_)
  · obtain ⟨p, rfl, _⟩ := h
    rfl
  · obtain ⟨p, rfl, R, k⟩ := h
    have hu := hu_of hr
    refine ⟨_, pss_one (ps_ret (pe_call GC hr rfl gC FC.kp bC .nil pass0 (pa_cons (pv 0) (pa_cons (pe_lst (pa_cons pe_non (pa_cons pe_bl (pa_cons pe_int (pa_cons (pe_un un_neg pe_int) (pa_cons (pe_op op_pow pe_int pe_int) (pa_cons pe_str (pa_cons pe_str
      (pa_cons (pe_tup pa_nil) (pa_cons (pe_tup (pa_cons pe_int (pa_cons (pe_lst (pa_cons pe_int pa_nil)) pa_nil))) (pa_cons (pe_lst (pa_cons pe_int pa_nil)) (pa_cons (pe_disp (pps_cons pe_str pe_int pps_nil) (by rfl) (by rfl) (fun z => by cases z) (by decide))
      (pa_cons (pe_lst (pa_cons pe_non pa_nil)) (pa_cons pe_bl (pa_cons pe_int pa_nil))))))))))))))) pa_nil)))), ?_⟩
    refine ⟨_, rfl, ?_⟩
    refine ⟨_, rfl, _, _, rfl, rfl, ⟨by decide, by decide, by decide⟩, by show 0 ≤ sizeLine; decide, fun t0 h0 => ⟨by show 1 ≤ sizeLine; decide, fun l1 h1 => ⟨by show 2 ≤ sizeLine; decide, fun t1 h2 => ⟨by show 1 ≤ sizeLine; decide, fun l2 h3 => ?_⟩⟩⟩⟩
    intro d h4
    refine ⟨upd_same, [(.inr "a", .int 1)], rfl, by decide, by show 1 ≤ sizeLine; decide, fun l3 h5 => ⟨by show 14 ≤ sizeLine; decide, fun L h6 => ?_⟩⟩
    obtain ⟨x, y, hp, y0, y1⟩ := R
    have s1 : Same H _ := same_new (o := .tup []) h0
    have s2 := s1.trans (same_new (o := .lst [.int 2]) h1)
    have s3 := s2.trans (same_new (o := .tup [.int 1, .ref l1]) h2)
    have s4 := s3.trans (same_new (o := .lst [.int 1]) h3)
    have s5 := s4.trans (same_new (o := .dK []) h4)
    have e5 := upd_upd (H := upd (upd (upd (upd H t0 (.tup [])) l1 (.lst [.int 2])) t1 (.tup [.int 1, .ref l1])) l2 (.lst [.int 1])) (a := d) (o := .dK []) (u := .dK (mergeK [] [(.inr "a", .int 1)]))
    rw [e5] at h5 h6 ⊢
    have s5 := s4.trans (same_new (o := .dK (mergeK [] [(.inr "a", .int 1)])) h4)
    have s6 := s5.trans (same_new (o := .lst [.non]) h5)
    have a0 : _ = some (HO.tup []) := same_new (o := .lst [.non]) h5 _ _ (same_new h4 _ _ (same_new h3 _ _ (same_new h2 _ _ (same_new h1 _ _ (upd_same (H := H) (a := t0) (o := .tup []))))))
    have a1 : _ = some (HO.lst [.int 2]) := same_new (o := .lst [.non]) h5 _ _ (same_new h4 _ _ (same_new h3 _ _ (same_new h2 _ _ (upd_same (a := l1) (o := .lst [.int 2])))))
    have a2 : _ = some (HO.tup [.int 1, .ref l1]) := same_new (o := .lst [.non]) h5 _ _ (same_new h4 _ _ (same_new h3 _ _ (upd_same (a := t1))))
    have a3 : _ = some (HO.lst [.int 1]) := same_new (o := .lst [.non]) h5 _ _ (same_new h4 _ _ (upd_same (a := l2)))
    have a4 : _ = some (HO.dK (mergeK [] [(.inr "a", .int 1)])) := same_new (o := .lst [.non]) h5 _ _ (upd_same (a := d))
    have a5 := upd_same (H := upd (upd (upd (upd (upd H t0 (.tup [])) l1 (.lst [.int 2])) t1 (.tup [.int 1, .ref l1])) l2 (.lst [.int 1])) d (.dK (mergeK [] [(.inr "a", .int 1)]))) (a := l3) (o := .lst [.non])
    have hp6 := s6 _ _ hp
    have n0 : t0 ≠ p := (ne_of_none hp h0).symm
    have n1 : l1 ≠ p := (ne_of_none (s1 _ _ hp) h1).symm
    have n2 : t1 ≠ p := (ne_of_none (s2 _ _ hp) h2).symm
    have n3 : l2 ≠ p := (ne_of_none (s3 _ _ hp) h3).symm
    have n4 : d ≠ p := (ne_of_none (s4 _ _ hp) h4).symm
    have n5 : l3 ≠ p := (ne_of_none (s5 _ _ hp) h5).symm
    generalize upd (upd (upd (upd (upd (upd H t0 (.tup [])) l1 (.lst [.int 2])) t1 (.tup [.int 1, .ref l1])) l2 (.lst [.int 1])) d (.dK (mergeK [] [(.inr "a", .int 1)]))) l3 (.lst [.non]) = G at *
    refine ⟨p, L, _, rfl, ⟨x, y, (by rw [upd_ne (ne_of_none hp6 h6)]; exact hp6), y0, y1⟩, upd_same, (ne_of_none hp6 h6).symm, (by show 0 < 14; decide), (by show 14 < 1000; decide), fun v H' hv kp R' => ?_⟩
    have kp' : ∀ b o, G b = some o → b ≠ p → H' b = some o := fun b o e hb => kp b o (by rw [upd_ne (ne_of_none e h6)]; exact e) hb
    have fin : ∀ v d, Dq K (del H' p) v d → Small d → Q v H' := fun v d hd hs => k v d H' (fun b o e hb => kp' b o (s6 _ _ e) hb) R' hd hs
    have g0 : del H' p t0 = some (.tup []) := by rw [del_ne n0]; exact kp' _ _ a0 n0
    have g1 : del H' p l1 = some (.lst [.int 2]) := by rw [del_ne n1]; exact kp' _ _ a1 n1
    have g2 : del H' p t1 = some (.tup [.int 1, .ref l1]) := by rw [del_ne n2]; exact kp' _ _ a2 n2
    have g3 : del H' p l2 = some (.lst [.int 1]) := by rw [del_ne n3]; exact kp' _ _ a3 n3
    have g4 : del H' p d = some (.dK (mergeK [] [(.inr "a", .int 1)])) := by rw [del_ne n4]; exact kp' _ _ a4 n4
    have g5 : del H' p l3 = some (.lst [.non]) := by rw [del_ne n5]; exact kp' _ _ a5 n5
    simp only [List.mem_cons, List.not_mem_nil, or_false] at hv
    rcases hv with rfl | rfl | rfl | rfl | rfl | rfl | rfl | rfl | rfl | rfl | rfl | rfl | rfl | rfl
    · exact fin _ _ .non (small_of (by decide +kernel))
    · exact fin _ _ (.bl true) (small_of (by decide +kernel))
    · exact fin _ _ (.int 0) (small_of (by decide +kernel))
    · exact fin _ _ (.int (-1)) (small_of (by decide +kernel))
    · exact fin _ _ (.int (10 ^ 20)) (small_of (by decide +kernel))
    · exact fin _ _ (.str "") (small_of (by decide +kernel))
    · exact fin _ _ (.str "ab") (small_of (by decide +kernel))
    · exact fin _ _ (.tup (SqT.of g0) .nil) (small_of (by decide +kernel))
    · exact fin _ _ (.tup (SqT.of g2) (.cons (.int 1) (.cons (.lst (SqL.of g1) (.cons (.int 2) .nil)) .nil))) (small_of (by decide +kernel))
    · exact fin _ _ (.lst (SqL.of g3) (.cons (.int 1) .nil)) (small_of (by decide +kernel))
    · exact fin _ _ (.dct (kvs := [(.inr "a", .int 1)]) g4 (.consS (.int 1) .nil)) (small_of (by decide +kernel))
    · exact fin _ _ (.lst (SqL.of g5) (.cons .non .nil)) (small_of (by decide +kernel))
    · exact fin _ _ (.bl false) (small_of (by decide +kernel))
    · exact fin _ _ (.int 1) (small_of (by decide +kernel))
end
end K19
set_option maxHeartbeats 8000000
namespace K19
open PySem PySem.Spec PyProof.Rows L2 GL
/-- a class of errors: its name, its fields, where Python's own begins -/
structure EC where
  name : Str
  flds : List Str
  base : EB
  ix : Nat

abbrev c0 : EC := ⟨"InvalidNumber", ["value"], .ve, 2⟩
abbrev c1 : EC := ⟨"InvalidName", ["value"], .ve, 3⟩
abbrev c2 : EC := ⟨"InvalidCut", ["value"], .ve, 4⟩
abbrev c3 : EC := ⟨"InvalidStretch", ["value"], .ve, 5⟩
abbrev c4 : EC := ⟨"InvalidRange", ["value"], .ve, 6⟩
abbrev c5 : EC := ⟨"InvalidPlace", ["value"], .ve, 12⟩
abbrev c6 : EC := ⟨"InvalidPosition", ["value"], .ve, 13⟩
abbrev c7 : EC := ⟨"InvalidState", ["value"], .ve, 14⟩
abbrev c8 : EC := ⟨"InvalidCell", ["value"], .ve, 17⟩
abbrev c9 : EC := ⟨"InvalidCount", ["value"], .ve, 19⟩
abbrev c10 : EC := ⟨"InvalidSide", ["value"], .ve, 20⟩
abbrev c11 : EC := ⟨"InvalidPaper", ["value"], .ve, 21⟩
abbrev c12 : EC := ⟨"InvalidPrices", ["value"], .ve, 24⟩
abbrev c13 : EC := ⟨"InvalidProgram", ["value"], .ve, 26⟩
abbrev c14 : EC := ⟨"InvalidClaim", ["value"], .ve, 28⟩
abbrev c15 : EC := ⟨"InvalidCommand", ["value"], .ve, 29⟩
abbrev c16 : EC := ⟨"InvalidHistory", ["position"], .ve, 15⟩
abbrev c17 : EC := ⟨"InvalidStarts", ["position"], .ve, 16⟩
abbrev c18 : EC := ⟨"InvalidRows", ["position"], .ve, 18⟩
abbrev c19 : EC := ⟨"InvalidHand", ["position"], .ve, 22⟩
abbrev c20 : EC := ⟨"InvalidBad", ["position"], .ve, 23⟩
abbrev c21 : EC := ⟨"InvalidHeard", ["position"], .ve, 25⟩
abbrev c22 : EC := ⟨"InvalidLevels", ["key"], .ve, 9⟩
abbrev c23 : EC := ⟨"InvalidModes", ["key"], .ve, 10⟩
abbrev c24 : EC := ⟨"InvalidMove", ["part"], .ve, 7⟩
abbrev c25 : EC := ⟨"InvalidText", ["line"], .ve, 27⟩
abbrev c26 : EC := ⟨"OtherLetters", ["letter"], .ve, 30⟩
abbrev c27 : EC := ⟨"InvalidRule", ["part", "position"], .ve, 8⟩
abbrev c28 : EC := ⟨"InvalidRules", ["mode", "letter", "position"], .ve, 11⟩
abbrev c29 : EC := ⟨"TooMany", ["kind", "limit"], .ve, 31⟩
abbrev c30 : EC := ⟨"UnknownMode", ["value"], .le, 33⟩
abbrev c31 : EC := ⟨"UnknownLetter", ["value"], .le, 34⟩
abbrev c32 : EC := ⟨"UnknownLevel", ["value"], .le, 35⟩
abbrev c33 : EC := ⟨"UnknownName", ["value"], .le, 36⟩
abbrev c34 : EC := ⟨"NameTaken", ["name"], .re, 38⟩
abbrev c35 : EC := ⟨"NothingToUndo", [], .re, 39⟩
abbrev c36 : EC := ⟨"DividedByZero", [], .re, 40⟩
def ecs : List EC := [c0, c1, c2, c3, c4, c5, c6, c7, c8, c9, c10, c11, c12, c13, c14, c15, c16, c17, c18, c19, c20, c21, c22, c23, c24, c25, c26, c27, c28, c29, c30, c31, c32, c33, c34, c35, c36]
abbrev EC.at (e : EC) (K : PySem.W.Frag) : Addr := He.ga K e.name
abbrev EC.st (e : EC) : Stmt := inClass (tp e.ix) 0
def fsOf (e : EC) (a b c : V) : List (Str × V) := (e.flds.zip [a, b, c]).reverse
structure ETab (P : Program) (w : World) (K : PySem.W.Frag) (mg : Str → Option Value) (base : Heap) : Prop where
  xc : ∀ e ∈ ecs, XC K (e.at K) e.base
  no : ∀ e ∈ ecs, ∀ f ∈ e.flds, PySem.W.findIn K (.ref (e.at K)) f = some none
  gl : ∀ e ∈ ecs, mg e.name = some (.ref (e.at K))
  bare : ∀ e ∈ ecs, e.flds = [] → PySem.W.excIn K (e.at K) e.base.tail e.base.new = true
  made : ∀ e ∈ ecs, e.flds ≠ [] → ∃ fI fd, PySem.W.findIn K (.ref (e.at K)) "__init__" = some (some (.ref fI)) ∧ PySem.W.typeIn K (.ref fI) = some (.type "function") ∧ FnOk P w K mg base CX0 1 fI fd ("self" :: e.flds) (spInit (e.at K) e.flds) ∧
    Binds K fd ("self" :: e.flds) [] ∧ ∀ (s : Shared) (z : Value) (us : List Value), us.length = e.flds.reverse.length → BindsTo s fd ⟨[z], e.flds.reverse.zip us⟩ ((("self" : Str) :: e.flds).zip (z :: us.reverse))
/-- the errors at these addresses are of these classes, with these fields -/
def Errs (K : PySem.W.Frag) (H : Hp) (a b c : V) : List Addr → List EC → Prop
  | [], [] => True
  | x :: xs, e :: es => ErrAt H x (e.at K) (fsOf e a b c) ∧ Errs K H a b c xs es
  | _, _ => False
theorem Errs.same {K : PySem.W.Frag} {H H' : Hp} {a b c : V} (k : Same H H') : ∀ {xs : List Addr} {es : List EC}, Errs K H a b c xs es → Errs K H' a b c xs es
  | [], [], _ => trivial
  | _ :: _, _ :: _, ⟨h, r⟩ => ⟨h.same k, Errs.same k r⟩
  | [], _ :: _, h => h.elim
  | _ :: _, [], h => h.elim
theorem Errs.app {K : PySem.W.Frag} {H : Hp} {a b c : V} : ∀ {xs ys : List Addr} {es fs : List EC}, Errs K H a b c xs es → Errs K H a b c ys fs → Errs K H a b c (xs ++ ys) (es ++ fs)
  | [], _, [], _, _, r => r
  | _ :: _, _, _ :: _, _, ⟨h, q⟩, r => ⟨h, Errs.app q r⟩
  | [], _, _ :: _, _, h, _ => h.elim
  | _ :: _, _, [], _, h, _ => h.elim
theorem Errs.len {K : PySem.W.Frag} {H : Hp} {a b c : V} : ∀ {xs : List Addr} {es : List EC}, Errs K H a b c xs es → xs.length = es.length
  | [], [], _ => rfl
  | _ :: _, _ :: _, ⟨_, r⟩ => congrArg Nat.succ (Errs.len r)
  | [], _ :: _, h => h.elim
  | _ :: _, [], h => h.elim
theorem Errs.get {K : PySem.W.Frag} {H : Hp} {a b c : V} : ∀ {xs : List Addr} {es : List EC} {k : Nat} {x : Addr}, Errs K H a b c xs es → xs[k]? = some x → ∃ e, es[k]? = some e ∧ ErrAt H x (e.at K) (fsOf e a b c)
  | [], _, _, _, _, z => by simp at z
  | x :: xs, e :: es, 0, y, ⟨h, _⟩, z => by
    cases Option.some.inj z
    exact ⟨e, rfl, h⟩
  | x :: xs, e :: es, k + 1, y, ⟨_, r⟩, z => by
    obtain ⟨e', q, h⟩ := Errs.get (k := k) r (by simpa using z)
    exact ⟨e', by simpa using q, h⟩
  | _ :: _, [], _, _, h, _ => h.elim
/-! ### the readings of making errors, with a, b, c in the first three slots -/
def Sl (σ : L2.St) (a b c : V) : Prop := σ[0]? = some (some a) ∧ σ[1]? = some (some b) ∧ σ[2]? = some (some c)
def tE (K : PySem.W.Frag) (e : EC) : TE := fun σ H Q => ∃ a b c, Sl σ a b c ∧ ∀ x H', Same H H' → ErrAt H' x (e.at K) (fsOf e a b c) → Q (.ref x) H'
def tEs (K : PySem.W.Frag) (l : List EC) : TA := fun σ H Q => ∃ a b c, Sl σ a b c ∧ ∀ xs H', Same H H' → Errs K H' a b c xs l → Q (xs.map V.ref) H'
section
variable {X : Cx} {p p1 p2 p3 pos k1 k2 k3 : Pos} {e : EC} {x : Str}
theorem pas_nil : PA X [] (tEs X.K []) := PA.imp pa_nil fun σ H Q ⟨a, b, c, _, q⟩ => q [] H (Same.refl H) trivial
theorem pas_cons {ex : Expr} {es : List Expr} {l : List EC} (h : PE X ex (tE X.K e)) (r : PA X es (tEs X.K l)) (hs : starEach (ex :: es) X.env = (false, eval ex X.env) :: starEach es X.env := by rfl) : PA X (ex :: es) (tEs X.K (e :: l)) := by
  refine PA.imp (pa_cons h r hs) ?_
  rintro σ H Q ⟨a, b, c, sl, q⟩
  refine ⟨a, b, c, sl, fun x H1 s1 h1 => ⟨a, b, c, sl, fun xs H2 s2 h2 => ?_⟩⟩
  exact q (x :: xs) H2 (s1.trans s2) ⟨h1.same s2, h2⟩
variable (T : ETab X.prog X.w X.K X.mg X.base) (he : e ∈ ecs) (hr : Room 2 X.A)
include T he hr
theorem mk_1 {f : Str} (hf : e.flds = [f]) (hN : X.N[0]? = some ("_law_a" : Str)) (hv : Vis X.env.scope ("_law_a" : Str)) (hx : x = e.name) (hg : Gl X x) (hdb : (x == ("__debug__" : Str)) = false) (hs : starEach [Expr.Name "_law_a" p1] X.env = (false, eval (.Name "_law_a" p1) X.env) :: starEach [] X.env := by rfl) :
    PE X (.Call (.Name x p) [.Name "_law_a" p1] [] pos) (tE X.K e) := by
  obtain ⟨fI, fd, i1, i2, F, B, _⟩ := T.made e he (by rw [hf]; exact List.cons_ne_nil _ _)
  subst hx
  refine PE.imp (pe_err (T.xc e he) i1 i2 F hr B hg (T.gl e he) (pa_cons (pe_var hN hv) pa_nil) hdb hs (by rfl)) ?_
  rintro σ H Q ⟨a, b, c, ⟨s0, s1, s2⟩, q⟩
  refine ⟨a, s0, (by show 1 ≤ 1000; decide), fun z hz => init_made hz (by rw [hf]; rfl) fun y H' sm _ er => q y H' sm ?_⟩
  unfold fsOf
  rw [hf] at er ⊢
  exact er
theorem mk_2 {f g : Str} (hf : e.flds = [f, g]) (hN : X.N[0]? = some ("_law_a" : Str)) (hv : Vis X.env.scope ("_law_a" : Str)) (hN1 : X.N[1]? = some ("_law_b" : Str)) (hv1 : Vis X.env.scope ("_law_b" : Str)) (hx : x = e.name) (hg : Gl X x) (hdb : (x == ("__debug__" : Str)) = false)
    (hs : starEach [Expr.Name "_law_a" p1, Expr.Name "_law_b" p2] X.env = (false, eval (.Name "_law_a" p1) X.env) :: starEach [.Name "_law_b" p2] X.env := by rfl) (hs1 : starEach [Expr.Name "_law_b" p2] X.env = (false, eval (.Name "_law_b" p2) X.env) :: starEach [] X.env := by rfl) :
    PE X (.Call (.Name x p) [.Name "_law_a" p1, .Name "_law_b" p2] [] pos) (tE X.K e) := by
  obtain ⟨fI, fd, i1, i2, F, B, _⟩ := T.made e he (by rw [hf]; exact List.cons_ne_nil _ _)
  subst hx
  refine PE.imp (pe_err (T.xc e he) i1 i2 F hr B hg (T.gl e he) (pa_cons (pe_var hN hv) (pa_cons (pe_var hN1 hv1) pa_nil)) hdb hs (by rfl)) ?_
  rintro σ H Q ⟨a, b, c, ⟨s0, s1, s2⟩, q⟩
  refine ⟨a, s0, b, s1, (by show 2 ≤ 1000; decide), fun z hz => init_made hz (by rw [hf]; rfl) fun y H' sm _ er => q y H' sm ?_⟩
  unfold fsOf
  rw [hf] at er ⊢
  exact er
theorem mk_3 {f g h : Str} (hf : e.flds = [f, g, h]) (hN : X.N[0]? = some ("_law_a" : Str)) (hv : Vis X.env.scope ("_law_a" : Str)) (hN1 : X.N[1]? = some ("_law_b" : Str)) (hv1 : Vis X.env.scope ("_law_b" : Str)) (hN2 : X.N[2]? = some ("_law_c" : Str)) (hv2 : Vis X.env.scope ("_law_c" : Str)) (hx : x = e.name) (hg : Gl X x) (hdb : (x == ("__debug__" : Str)) = false)
    (hs : starEach [Expr.Name "_law_a" p1, Expr.Name "_law_b" p2, Expr.Name "_law_c" p3] X.env = (false, eval (.Name "_law_a" p1) X.env) :: starEach [.Name "_law_b" p2, .Name "_law_c" p3] X.env := by rfl) :
    PE X (.Call (.Name x p) [.Name "_law_a" p1, .Name "_law_b" p2, .Name "_law_c" p3] [] pos) (tE X.K e) := by
  obtain ⟨fI, fd, i1, i2, F, B, _⟩ := T.made e he (by rw [hf]; exact List.cons_ne_nil _ _)
  subst hx
  refine PE.imp (pe_err (T.xc e he) i1 i2 F hr B hg (T.gl e he) (pa_cons (pe_var hN hv) (pa_cons (pe_var hN1 hv1) (pa_cons (pe_var hN2 hv2) pa_nil))) hdb hs (by rfl)) ?_
  rintro σ H Q ⟨a, b, c, ⟨s0, s1, s2⟩, q⟩
  refine ⟨a, s0, b, s1, c, s2, (by show 3 ≤ 1000; decide), fun z hz => init_made hz (by rw [hf]; rfl) fun y H' sm _ er => q y H' sm ?_⟩
  unfold fsOf
  rw [hf] at er ⊢
  exact er
omit hr in
theorem mk_0 (hf : e.flds = []) (hN : X.N[0]? = some ("_law_a" : Str)) (hx : x = e.name) (hg : Gl X x) (hdb : (x == ("__debug__" : Str)) = false) : PE X (.Call (.Name x p) [] [] pos) (tE X.K e) := by
  subst hx
  refine PE.imp (pe_err0 (T.bare e he hf) (T.gl e he) (T.xc e he).keep hg hdb) ?_
  rintro σ H Q ⟨a, b, c, _, q⟩ y hy
  refine q y _ (same_new hy) (.inl ⟨?_, upd_same⟩)
  unfold fsOf
  rw [hf]
  rfl
theorem kw_1 {f : Str} (hf : e.flds = [f]) (hN : X.N[0]? = some ("_law_a" : Str)) (hv : Vis X.env.scope ("_law_a" : Str)) (hx : x = e.name) (hg : Gl X x) (hdb : (x == ("__debug__" : Str)) = false) : PE X (.Call (.Name x p) [] [⟨some f, .Name "_law_a" p1, k1⟩] pos) (tE X.K e) := by
  obtain ⟨fI, fd, i1, i2, F, _, B⟩ := T.made e he (by rw [hf]; exact List.cons_ne_nil _ _)
  subst hx
  refine PE.imp (pe_errK (ks := e.flds.reverse) (gV := List.reverse) (gU := List.reverse) (T.xc e he) i1 i2 F hr B hg (T.gl e he) (pk_cons (pe_var hN hv) pk_nil) (fun r => paired_rev r) ?_ (by rfl) (by rw [hf]; rfl) hdb (by rfl)) ?_
  · rintro σ H Q ⟨v, s0, q⟩
    exact ⟨v, s0, by rw [hf]; rfl, q⟩
  · rintro σ H Q ⟨a, b, c, ⟨s0, s1, s2⟩, q⟩
    refine ⟨a, s0, fun z hz => init_made hz (by rw [hf]; rfl) fun y H' sm _ er => q y H' sm ?_⟩
    unfold fsOf
    rw [hf] at er ⊢
    exact er
theorem kw_2 {f g : Str} (hf : e.flds = [f, g]) (hN : X.N[0]? = some ("_law_a" : Str)) (hv : Vis X.env.scope ("_law_a" : Str)) (hN1 : X.N[1]? = some ("_law_b" : Str)) (hv1 : Vis X.env.scope ("_law_b" : Str)) (hx : x = e.name) (hg : Gl X x) (hdb : (x == ("__debug__" : Str)) = false) :
    PE X (.Call (.Name x p) [] [⟨some g, .Name "_law_b" p2, k2⟩, ⟨some f, .Name "_law_a" p1, k1⟩] pos) (tE X.K e) := by
  obtain ⟨fI, fd, i1, i2, F, _, B⟩ := T.made e he (by rw [hf]; exact List.cons_ne_nil _ _)
  subst hx
  refine PE.imp (pe_errK (ks := e.flds.reverse) (gV := List.reverse) (gU := List.reverse) (T.xc e he) i1 i2 F hr B hg (T.gl e he) (pk_cons (pe_var hN1 hv1) (pk_cons (pe_var hN hv) pk_nil)) (fun r => paired_rev r) ?_ (by rfl) (by rw [hf]; rfl) hdb (by rfl)) ?_
  · rintro σ H Q ⟨v, s1, u, s0, q⟩
    exact ⟨v, s1, u, s0, by rw [hf]; rfl, q⟩
  · rintro σ H Q ⟨a, b, c, ⟨s0, s1, s2⟩, q⟩
    refine ⟨b, s1, a, s0, fun z hz => init_made hz (by rw [hf]; rfl) fun y H' sm _ er => q y H' sm ?_⟩
    unfold fsOf
    rw [hf] at er ⊢
    exact er
theorem kw_3 {f g h : Str} (hf : e.flds = [f, g, h]) (hN : X.N[0]? = some ("_law_a" : Str)) (hv : Vis X.env.scope ("_law_a" : Str)) (hN1 : X.N[1]? = some ("_law_b" : Str)) (hv1 : Vis X.env.scope ("_law_b" : Str)) (hN2 : X.N[2]? = some ("_law_c" : Str)) (hv2 : Vis X.env.scope ("_law_c" : Str)) (hx : x = e.name) (hg : Gl X x) (hdb : (x == ("__debug__" : Str)) = false) :
    PE X (.Call (.Name x p) [] [⟨some h, .Name "_law_c" p3, k3⟩, ⟨some g, .Name "_law_b" p2, k2⟩, ⟨some f, .Name "_law_a" p1, k1⟩] pos) (tE X.K e) := by
  obtain ⟨fI, fd, i1, i2, F, _, B⟩ := T.made e he (by rw [hf]; exact List.cons_ne_nil _ _)
  subst hx
  refine PE.imp (pe_errK (ks := e.flds.reverse) (gV := List.reverse) (gU := List.reverse) (T.xc e he) i1 i2 F hr B hg (T.gl e he) (pk_cons (pe_var hN2 hv2) (pk_cons (pe_var hN1 hv1) (pk_cons (pe_var hN hv) pk_nil))) (fun r => paired_rev r) ?_ (by rfl) (by rw [hf]; rfl) hdb (by rfl)) ?_
  · rintro σ H Q ⟨v, s2, u, s1, z, s0, q⟩
    exact ⟨v, s2, u, s1, z, s0, by rw [hf]; rfl, q⟩
  · rintro σ H Q ⟨a, b, c, ⟨s0, s1, s2⟩, q⟩
    refine ⟨c, s2, b, s1, a, s0, fun z hz => init_made hz (by rw [hf]; rfl) fun y H' sm _ er => q y H' sm ?_⟩
    unfold fsOf
    rw [hf] at er ⊢
    exact er
end
end K19
set_option maxHeartbeats 8000000
namespace K19
open PySem PySem.Spec PyProof.Rows L2 GL
def tDisp (K : PySem.W.Frag) (l : List EC) : TE := fun σ H Q => ∃ a b c, Sl σ a b c ∧ ∀ p H' xs, Same H H' → H p = none → H' p = some (.lst (xs.map V.ref)) → Errs K H' a b c xs l → Q (.ref p) H'
theorem pe_dsp {X : Cx} {es : List Expr} {pos : Pos} {l : List EC} (h : PA X es (tEs X.K l)) (hl : l.length ≤ 100) : PE X (.List es pos) (tDisp X.K l) := by
  refine PE.imp (pe_lst h) ?_
  rintro σ H Q ⟨a, b, c, sl, q⟩
  refine ⟨a, b, c, sl, fun xs H1 s1 er => ⟨?_, fun p hp => ?_⟩⟩
  · rw [List.length_map, er.len, sizeLine_eq]
    omega
  · exact q p _ xs (s1.trans (same_new hp)) (s1.free hp) upd_same (er.same (same_new hp))
def spMake (K : PySem.W.Frag) : Sp := fun vs H Q _ => ∃ a b c, vs = [a, b, c] ∧ ∀ p H' xs, Same H H' → H p = none → H' p = some (.lst (xs.map V.ref)) → Errs K H' a b c xs ecs → Q (.ref p) H'
section
variable {K : PySem.W.Frag} {H : Hp} {l l2 : List EC} {a b c : V} {xs : List Addr} {q : Addr} {D : Ends}
theorem cat_any {Q : VK} (hl : (l ++ l2).length ≤ 100) (hq : H q = some (.lst (xs.map V.ref))) (he : Errs K H a b c xs l)
    (h : ∀ r H' ys, Same H H' → H r = none → H' r = some (.lst (ys.map V.ref)) → Errs K H' a b c ys (l ++ l2) → Q (.ref r) H') : tOp rCat (tVar 3) (tDisp K l2) [some a, some b, some c, some (.ref q)] H Q := by
  refine ⟨.ref q, rfl, a, b, c, ⟨rfl, rfl, rfl⟩, fun p H' ys s1 n1 hp er => ⟨q, p, _, _, rfl, rfl, s1 _ _ hq, hp, ?_, fun r hr => ?_⟩⟩
  · rw [List.length_map, List.length_map, he.len, er.len, sizeLine_eq]
    rw [List.length_append] at hl
    omega
  · refine h r _ (xs ++ ys) (s1.trans (same_new hr)) (s1.free hr) (by rw [List.map_append]; exact upd_same) ?_
    exact ((he.same s1).app er).same (same_new hr)
theorem cat_step (hl : (l ++ l2).length ≤ 100) (hq : H q = some (.lst (xs.map V.ref))) (he : Errs K H a b c xs l)
    (h : ∀ r H' ys, Same H H' → H r = none → H' r = some (.lst (ys.map V.ref)) → Errs K H' a b c ys (l ++ l2) → D.nx [some a, some b, some c, some (.ref r)] H') : tAsg (tOp rCat (tVar 3) (tDisp K l2)) (gName 3) D [some a, some b, some c, some (.ref q)] H :=
  cat_any hl hq he h
theorem cat_end (hl : (l ++ l2).length ≤ 100) (hq : H q = some (.lst (xs.map V.ref))) (he : Errs K H a b c xs l)
    (h : ∀ r H' ys, Same H H' → H r = none → H' r = some (.lst (ys.map V.ref)) → Errs K H' a b c ys (l ++ l2) → D.rt (.ref r) H') : tRet (tOp rCat (tVar 3) (tDisp K l2)) D [some a, some b, some c, some (.ref q)] H :=
  cat_any hl hq he h
end
section
variable {P : Program} {w : World} {K : PySem.W.Frag} {mg : Str → Option Value} {base : Heap}
abbrev sPlaced : Stmt := tp 46
theorem scPlaced : FnScope ["_law_a", "_law_b", "_law_c", "_law_found"] ["_law_a", "_law_b", "_law_c"] (defScope sPlaced) := ⟨rfl, rfl, rfl, by decide +kernel, rfl, by decide +kernel, by decide +kernel⟩
theorem ok_placed {f : Addr} {fd : FuncData} (F : Fun K "_law_placed" "_law_placed" sPlaced f fd) (T : ETab P w K mg base) : FnOk P w K mg base CX0 3 f fd ["_law_a", "_law_b", "_law_c"] (spMake K) := by
  refine F.ok scPlaced (fun vs H Q E h => ?_) (fun cdv A outer s H vs Q E hr h => ?_)
  · obtain ⟨a, b, c, rfl, _⟩ := h
    rfl
  · obtain ⟨a, b, c, rfl, k⟩ := h
    refine ⟨_, (pss_cons (ps_set (i := 3) scPlaced.nd rfl (Or.inl rfl) (pe_dsp (pas_cons (mk_1 T (List.mem_of_getElem? (i := 0) rfl) hr rfl rfl (Or.inl rfl) rfl rfl rfl) (pas_cons (mk_1 T (List.mem_of_getElem? (i := 1) rfl) hr rfl rfl (Or.inl rfl) rfl rfl rfl) (pas_cons (mk_1 T (List.mem_of_getElem? (i := 2) rfl) hr rfl rfl (Or.inl rfl) rfl rfl rfl) (pas_cons (mk_1 T (List.mem_of_getElem? (i := 3) rfl) hr rfl rfl (Or.inl rfl) rfl rfl rfl) (pas_cons (mk_1 T (List.mem_of_getElem? (i := 4) rfl) hr rfl rfl (Or.inl rfl) rfl rfl rfl) (pas_cons (mk_1 T (List.mem_of_getElem? (i := 5) rfl) hr rfl rfl (Or.inl rfl) rfl rfl rfl) pas_nil)))))) (by decide)))
      (pss_cons (ps_set (i := 3) scPlaced.nd rfl (Or.inl rfl) (pe_op op_cat (pv 3) (pe_dsp (pas_cons (mk_1 T (List.mem_of_getElem? (i := 6) rfl) hr rfl rfl (Or.inl rfl) rfl rfl rfl) (pas_cons (mk_1 T (List.mem_of_getElem? (i := 7) rfl) hr rfl rfl (Or.inl rfl) rfl rfl rfl) (pas_cons (mk_1 T (List.mem_of_getElem? (i := 8) rfl) hr rfl rfl (Or.inl rfl) rfl rfl rfl) (pas_cons (mk_1 T (List.mem_of_getElem? (i := 9) rfl) hr rfl rfl (Or.inl rfl) rfl rfl rfl) (pas_cons (mk_1 T (List.mem_of_getElem? (i := 10) rfl) hr rfl rfl (Or.inl rfl) rfl rfl rfl) pas_nil))))) (by decide))))
      (pss_cons (ps_set (i := 3) scPlaced.nd rfl (Or.inl rfl) (pe_op op_cat (pv 3) (pe_dsp (pas_cons (mk_1 T (List.mem_of_getElem? (i := 11) rfl) hr rfl rfl (Or.inl rfl) rfl rfl rfl) (pas_cons (mk_1 T (List.mem_of_getElem? (i := 12) rfl) hr rfl rfl (Or.inl rfl) rfl rfl rfl) (pas_cons (mk_1 T (List.mem_of_getElem? (i := 13) rfl) hr rfl rfl (Or.inl rfl) rfl rfl rfl) (pas_cons (mk_1 T (List.mem_of_getElem? (i := 14) rfl) hr rfl rfl (Or.inl rfl) rfl rfl rfl) (pas_cons (mk_1 T (List.mem_of_getElem? (i := 15) rfl) hr rfl rfl (Or.inl rfl) rfl rfl rfl) pas_nil))))) (by decide))))
      (pss_cons (ps_set (i := 3) scPlaced.nd rfl (Or.inl rfl) (pe_op op_cat (pv 3) (pe_dsp (pas_cons (mk_1 T (List.mem_of_getElem? (i := 16) rfl) hr rfl rfl (Or.inl rfl) rfl rfl rfl) (pas_cons (mk_1 T (List.mem_of_getElem? (i := 17) rfl) hr rfl rfl (Or.inl rfl) rfl rfl rfl) (pas_cons (mk_1 T (List.mem_of_getElem? (i := 18) rfl) hr rfl rfl (Or.inl rfl) rfl rfl rfl) (pas_cons (mk_1 T (List.mem_of_getElem? (i := 19) rfl) hr rfl rfl (Or.inl rfl) rfl rfl rfl) (pas_cons (mk_1 T (List.mem_of_getElem? (i := 20) rfl) hr rfl rfl (Or.inl rfl) rfl rfl rfl) pas_nil))))) (by decide))))
      (pss_cons (ps_set (i := 3) scPlaced.nd rfl (Or.inl rfl) (pe_op op_cat (pv 3) (pe_dsp (pas_cons (mk_1 T (List.mem_of_getElem? (i := 21) rfl) hr rfl rfl (Or.inl rfl) rfl rfl rfl) (pas_cons (mk_1 T (List.mem_of_getElem? (i := 22) rfl) hr rfl rfl (Or.inl rfl) rfl rfl rfl) (pas_cons (mk_1 T (List.mem_of_getElem? (i := 23) rfl) hr rfl rfl (Or.inl rfl) rfl rfl rfl) (pas_cons (mk_1 T (List.mem_of_getElem? (i := 24) rfl) hr rfl rfl (Or.inl rfl) rfl rfl rfl) (pas_cons (mk_1 T (List.mem_of_getElem? (i := 25) rfl) hr rfl rfl (Or.inl rfl) rfl rfl rfl) pas_nil))))) (by decide))))
      (pss_cons (ps_set (i := 3) scPlaced.nd rfl (Or.inl rfl) (pe_op op_cat (pv 3) (pe_dsp (pas_cons (mk_1 T (List.mem_of_getElem? (i := 26) rfl) hr rfl rfl (Or.inl rfl) rfl rfl rfl) (pas_cons (mk_2 T (List.mem_of_getElem? (i := 27) rfl) hr rfl rfl (Or.inl rfl) rfl (Or.inl rfl) rfl rfl rfl) (pas_cons (mk_3 T (List.mem_of_getElem? (i := 28) rfl) hr rfl rfl (Or.inl rfl) rfl (Or.inl rfl) rfl (Or.inl rfl) rfl rfl rfl) (pas_cons (mk_2 T (List.mem_of_getElem? (i := 29) rfl) hr rfl rfl (Or.inl rfl) rfl (Or.inl rfl) rfl rfl rfl) pas_nil)))) (by decide))))
      (pss_cons (ps_set (i := 3) scPlaced.nd rfl (Or.inl rfl) (pe_op op_cat (pv 3) (pe_dsp (pas_cons (mk_1 T (List.mem_of_getElem? (i := 30) rfl) hr rfl rfl (Or.inl rfl) rfl rfl rfl) (pas_cons (mk_1 T (List.mem_of_getElem? (i := 31) rfl) hr rfl rfl (Or.inl rfl) rfl rfl rfl) (pas_cons (mk_1 T (List.mem_of_getElem? (i := 32) rfl) hr rfl rfl (Or.inl rfl) rfl rfl rfl) (pas_cons (mk_1 T (List.mem_of_getElem? (i := 33) rfl) hr rfl rfl (Or.inl rfl) rfl rfl rfl) pas_nil)))) (by decide))))
      (pss_one (ps_ret (pe_op op_cat (pv 3) (pe_dsp (pas_cons (mk_1 T (List.mem_of_getElem? (i := 34) rfl) hr rfl rfl (Or.inl rfl) rfl rfl rfl) (pas_cons (mk_0 T (List.mem_of_getElem? (i := 35) rfl) rfl rfl rfl rfl rfl) (pas_cons (mk_0 T (List.mem_of_getElem? (i := 36) rfl) rfl rfl rfl rfl rfl) pas_nil))) (by decide)))))))))))), ?_⟩
    refine ⟨a, b, c, ⟨rfl, rfl, rfl⟩, fun p0 H0 x0 s0 n0 h0 e0 => ?_⟩
    refine cat_step (by decide) h0 e0 fun p1 H1 x1 s1 n1 h1 e1 => ?_
    refine cat_step (by decide) h1 e1 fun p2 H2 x2 s2 n2 h2 e2 => ?_
    refine cat_step (by decide) h2 e2 fun p3 H3 x3 s3 n3 h3 e3 => ?_
    refine cat_step (by decide) h3 e3 fun p4 H4 x4 s4 n4 h4 e4 => ?_
    refine cat_step (by decide) h4 e4 fun p5 H5 x5 s5 n5 h5 e5 => ?_
    refine cat_step (by decide) h5 e5 fun p6 H6 x6 s6 n6 h6 e6 => ?_
    refine cat_end (by decide) h6 e6 fun p H9 x s9 n9 h9 e9 => k p H9 x (((((((s0.trans s1).trans s2).trans s3).trans s4).trans s5).trans s6).trans s9) (((((((s0.trans s1).trans s2).trans s3).trans s4).trans s5).trans s6).free n9) h9 e9
abbrev sNamed : Stmt := tp 47
theorem scNamed : FnScope ["_law_a", "_law_b", "_law_c", "_law_found"] ["_law_a", "_law_b", "_law_c"] (defScope sNamed) := ⟨rfl, rfl, rfl, by decide +kernel, rfl, by decide +kernel, by decide +kernel⟩
theorem ok_named {f : Addr} {fd : FuncData} (F : Fun K "_law_named" "_law_named" sNamed f fd) (T : ETab P w K mg base) : FnOk P w K mg base CX0 3 f fd ["_law_a", "_law_b", "_law_c"] (spMake K) := by
  refine F.ok scNamed (fun vs H Q E h => ?_) (fun cdv A outer s H vs Q E hr h => ?_)
  · obtain ⟨a, b, c, rfl, _⟩ := h
    rfl
  · obtain ⟨a, b, c, rfl, k⟩ := h
    refine ⟨_, (pss_cons (ps_set (i := 3) scNamed.nd rfl (Or.inl rfl) (pe_dsp (pas_cons (kw_1 T (List.mem_of_getElem? (i := 0) rfl) hr rfl rfl (Or.inl rfl) rfl rfl rfl) (pas_cons (kw_1 T (List.mem_of_getElem? (i := 1) rfl) hr rfl rfl (Or.inl rfl) rfl rfl rfl) (pas_cons (kw_1 T (List.mem_of_getElem? (i := 2) rfl) hr rfl rfl (Or.inl rfl) rfl rfl rfl) (pas_cons (kw_1 T (List.mem_of_getElem? (i := 3) rfl) hr rfl rfl (Or.inl rfl) rfl rfl rfl) pas_nil)))) (by decide)))
      (pss_cons (ps_set (i := 3) scNamed.nd rfl (Or.inl rfl) (pe_op op_cat (pv 3) (pe_dsp (pas_cons (kw_1 T (List.mem_of_getElem? (i := 4) rfl) hr rfl rfl (Or.inl rfl) rfl rfl rfl) (pas_cons (kw_1 T (List.mem_of_getElem? (i := 5) rfl) hr rfl rfl (Or.inl rfl) rfl rfl rfl) (pas_cons (kw_1 T (List.mem_of_getElem? (i := 6) rfl) hr rfl rfl (Or.inl rfl) rfl rfl rfl) (pas_cons (kw_1 T (List.mem_of_getElem? (i := 7) rfl) hr rfl rfl (Or.inl rfl) rfl rfl rfl) pas_nil)))) (by decide))))
      (pss_cons (ps_set (i := 3) scNamed.nd rfl (Or.inl rfl) (pe_op op_cat (pv 3) (pe_dsp (pas_cons (kw_1 T (List.mem_of_getElem? (i := 8) rfl) hr rfl rfl (Or.inl rfl) rfl rfl rfl) (pas_cons (kw_1 T (List.mem_of_getElem? (i := 9) rfl) hr rfl rfl (Or.inl rfl) rfl rfl rfl) (pas_cons (kw_1 T (List.mem_of_getElem? (i := 10) rfl) hr rfl rfl (Or.inl rfl) rfl rfl rfl) (pas_cons (kw_1 T (List.mem_of_getElem? (i := 11) rfl) hr rfl rfl (Or.inl rfl) rfl rfl rfl) pas_nil)))) (by decide))))
      (pss_cons (ps_set (i := 3) scNamed.nd rfl (Or.inl rfl) (pe_op op_cat (pv 3) (pe_dsp (pas_cons (kw_1 T (List.mem_of_getElem? (i := 12) rfl) hr rfl rfl (Or.inl rfl) rfl rfl rfl) (pas_cons (kw_1 T (List.mem_of_getElem? (i := 13) rfl) hr rfl rfl (Or.inl rfl) rfl rfl rfl) (pas_cons (kw_1 T (List.mem_of_getElem? (i := 14) rfl) hr rfl rfl (Or.inl rfl) rfl rfl rfl) (pas_cons (kw_1 T (List.mem_of_getElem? (i := 15) rfl) hr rfl rfl (Or.inl rfl) rfl rfl rfl) pas_nil)))) (by decide))))
      (pss_cons (ps_set (i := 3) scNamed.nd rfl (Or.inl rfl) (pe_op op_cat (pv 3) (pe_dsp (pas_cons (kw_1 T (List.mem_of_getElem? (i := 16) rfl) hr rfl rfl (Or.inl rfl) rfl rfl rfl) (pas_cons (kw_1 T (List.mem_of_getElem? (i := 17) rfl) hr rfl rfl (Or.inl rfl) rfl rfl rfl) (pas_cons (kw_1 T (List.mem_of_getElem? (i := 18) rfl) hr rfl rfl (Or.inl rfl) rfl rfl rfl) pas_nil))) (by decide))))
      (pss_cons (ps_set (i := 3) scNamed.nd rfl (Or.inl rfl) (pe_op op_cat (pv 3) (pe_dsp (pas_cons (kw_1 T (List.mem_of_getElem? (i := 19) rfl) hr rfl rfl (Or.inl rfl) rfl rfl rfl) (pas_cons (kw_1 T (List.mem_of_getElem? (i := 20) rfl) hr rfl rfl (Or.inl rfl) rfl rfl rfl) (pas_cons (kw_1 T (List.mem_of_getElem? (i := 21) rfl) hr rfl rfl (Or.inl rfl) rfl rfl rfl) (pas_cons (kw_1 T (List.mem_of_getElem? (i := 22) rfl) hr rfl rfl (Or.inl rfl) rfl rfl rfl) pas_nil)))) (by decide))))
      (pss_cons (ps_set (i := 3) scNamed.nd rfl (Or.inl rfl) (pe_op op_cat (pv 3) (pe_dsp (pas_cons (kw_1 T (List.mem_of_getElem? (i := 23) rfl) hr rfl rfl (Or.inl rfl) rfl rfl rfl) (pas_cons (kw_1 T (List.mem_of_getElem? (i := 24) rfl) hr rfl rfl (Or.inl rfl) rfl rfl rfl) (pas_cons (kw_1 T (List.mem_of_getElem? (i := 25) rfl) hr rfl rfl (Or.inl rfl) rfl rfl rfl) (pas_cons (kw_1 T (List.mem_of_getElem? (i := 26) rfl) hr rfl rfl (Or.inl rfl) rfl rfl rfl) pas_nil)))) (by decide))))
      (pss_cons (ps_set (i := 3) scNamed.nd rfl (Or.inl rfl) (pe_op op_cat (pv 3) (pe_dsp (pas_cons (kw_2 T (List.mem_of_getElem? (i := 27) rfl) hr rfl rfl (Or.inl rfl) rfl (Or.inl rfl) rfl rfl rfl) (pas_cons (kw_3 T (List.mem_of_getElem? (i := 28) rfl) hr rfl rfl (Or.inl rfl) rfl (Or.inl rfl) rfl (Or.inl rfl) rfl rfl rfl) pas_nil)) (by decide))))
      (pss_cons (ps_set (i := 3) scNamed.nd rfl (Or.inl rfl) (pe_op op_cat (pv 3) (pe_dsp (pas_cons (kw_2 T (List.mem_of_getElem? (i := 29) rfl) hr rfl rfl (Or.inl rfl) rfl (Or.inl rfl) rfl rfl rfl) (pas_cons (kw_1 T (List.mem_of_getElem? (i := 30) rfl) hr rfl rfl (Or.inl rfl) rfl rfl rfl) (pas_cons (kw_1 T (List.mem_of_getElem? (i := 31) rfl) hr rfl rfl (Or.inl rfl) rfl rfl rfl) (pas_cons (kw_1 T (List.mem_of_getElem? (i := 32) rfl) hr rfl rfl (Or.inl rfl) rfl rfl rfl) pas_nil)))) (by decide))))
      (pss_one (ps_ret (pe_op op_cat (pv 3) (pe_dsp (pas_cons (kw_1 T (List.mem_of_getElem? (i := 33) rfl) hr rfl rfl (Or.inl rfl) rfl rfl rfl) (pas_cons (kw_1 T (List.mem_of_getElem? (i := 34) rfl) hr rfl rfl (Or.inl rfl) rfl rfl rfl) (pas_cons (mk_0 T (List.mem_of_getElem? (i := 35) rfl) rfl rfl rfl rfl rfl) (pas_cons (mk_0 T (List.mem_of_getElem? (i := 36) rfl) rfl rfl rfl rfl rfl) pas_nil)))) (by decide)))))))))))))), ?_⟩
    refine ⟨a, b, c, ⟨rfl, rfl, rfl⟩, fun p0 H0 x0 s0 n0 h0 e0 => ?_⟩
    refine cat_step (by decide) h0 e0 fun p1 H1 x1 s1 n1 h1 e1 => ?_
    refine cat_step (by decide) h1 e1 fun p2 H2 x2 s2 n2 h2 e2 => ?_
    refine cat_step (by decide) h2 e2 fun p3 H3 x3 s3 n3 h3 e3 => ?_
    refine cat_step (by decide) h3 e3 fun p4 H4 x4 s4 n4 h4 e4 => ?_
    refine cat_step (by decide) h4 e4 fun p5 H5 x5 s5 n5 h5 e5 => ?_
    refine cat_step (by decide) h5 e5 fun p6 H6 x6 s6 n6 h6 e6 => ?_
    refine cat_step (by decide) h6 e6 fun p7 H7 x7 s7 n7 h7 e7 => ?_
    refine cat_step (by decide) h7 e7 fun p8 H8 x8 s8 n8 h8 e8 => ?_
    refine cat_end (by decide) h8 e8 fun p H9 x s9 n9 h9 e9 => k p H9 x (((((((((s0.trans s1).trans s2).trans s3).trans s4).trans s5).trans s6).trans s7).trans s8).trans s9) (((((((((s0.trans s1).trans s2).trans s3).trans s4).trans s5).trans s6).trans s7).trans s8).free n9) h9 e9
end
end K19
set_option maxHeartbeats 8000000
namespace K19
open PySem PySem.Spec PyProof.Rows L2 GL
def FldIs (k : Nat) (f : Str) (a b c v : V) : Prop := ∃ e, ecs[k]? = some e ∧ f ∈ e.flds ∧ (fsOf e a b c).lookup f = some v
section
variable {P : Program} {w : World} {K : PySem.W.Frag} {mg : Str → Option Value} {base : Heap}
theorem fld_ok (T : ETab P w K mg base) {σ : L2.St} {H : Hp} {Q : VK} {tk : TE} {l : Addr} {xs : List Addr} {a b c v : V} {k : Nat} {f : Str} (s0 : σ[0]? = some (some (.ref l))) (hl : H l = some (.lst (xs.map V.ref))) (er : Errs K H a b c xs ecs)
    (hk : ∀ R : VK, R (.int (k : Int)) H → tk σ H R) (hf : FldIs k f a b c v) (q : Q v H) : tErrFld K (tOp (rIxL K) (tVar 0) tk) f σ H Q := by
  obtain ⟨e, he, hm, hlook⟩ := hf
  have lt : k < xs.length := by
    rw [er.len]
    exact (List.getElem?_eq_some_iff.mp he).1
  obtain ⟨e', he', at_⟩ := er.get (List.getElem?_eq_getElem lt)
  rw [he] at he'
  cases he'
  have mem : e ∈ ecs := List.mem_of_getElem? he
  refine ⟨_, s0, hk _ ⟨l, _, _, V.ref xs[k], rfl, rfl, SqL.of hl, atI_nat (by rw [List.getElem?_map, List.getElem?_eq_getElem lt]; rfl), xs[k], _, _, _, v, rfl, T.xc e mem, T.no e mem f hm, at_, hlook, q⟩⟩
theorem fld_1 {k : Nat} {f : Str} {a b c : V} (h : (ecs[k]?).map EC.flds = some [f]) : FldIs k f a b c a := by
  cases e : ecs[k]? with
  | none =>
    rw [e] at h
    cases h
  | some x =>
    rw [e] at h
    have hx : x.flds = [f] := Option.some.inj h
    refine ⟨x, e, by rw [hx]; exact List.mem_singleton_self _, ?_⟩
    unfold fsOf
    rw [hx]
    show ((f, a) :: []).lookup f = some a
    rw [lookup_put, if_pos rfl]
def idx : V → Nat
  | .int i => i.toNat
  | _ => 0
def src : List V := rgV 0 16 ++ [.int 30, .int 31, .int 32, .int 33]
theorem src_ok : ∀ x ∈ src, x = .int (idx x : Int) ∧ (ecs[idx x]?).map EC.flds = some [("value" : Str)] := by decide +kernel
theorem pos_ok : ∀ i < 6, (ecs[16 + i]?).map EC.flds = some [("position" : Str)] := by decide +kernel
abbrev sFields : Stmt := tp 48
def spFields (K : PySem.W.Frag) : Sp := fun vs H Q _ => ∃ l xs a b c, vs = [.ref l] ∧ H l = some (.lst (xs.map V.ref)) ∧ Errs K H a b c xs ecs ∧ ∀ p p1 p2 p3 H', Same H H' → H' p = some (.lst (List.replicate 32 a ++ [.ref p1, .ref p2, .ref p3])) → H' p1 = some (.lst [a, b]) →
  H' p2 = some (.lst [a, b]) → H' p3 = some (.lst [a, b, c]) → Q (.ref p) H'
theorem scFields : FnScope ["_law_made", "_law_found", "_law_at"] ["_law_made"] (defScope sFields) := ⟨rfl, rfl, rfl, by decide +kernel, rfl, by decide +kernel, by decide +kernel⟩
theorem ok_fields {f : Addr} {fd : FuncData} (F : Fun K "_law_fields" "_law_fields" sFields f fd) (M : Free mg) (T : ETab P w K mg base) : FnOk P w K mg base CX0 2 f fd ["_law_made"] (spFields K) := by
  refine F.ok scFields (fun vs H Q E h => ?_) (fun cdv A outer s H vs Q E hr h => ?_)
  · obtain ⟨l, xs, a, b, c, rfl, _⟩ := h
    rfl
  · obtain ⟨l, xs, a, b, c, rfl, hl, er, k⟩ := h
    refine ⟨_, pss_cons (ps_setLc (i := 1) (own := [("_law_at", 2)]) (g := gName 2) (tt := tYes) (te := tErrFld K (tOp (rIxL K) (tVar 0) (tVar 2)) "value") rfl scFields.nd rfl rfl (sw_true rfl rfl rfl (by decide +kernel))
        (pi_list (pe_op op_cat (pe_listRg rfl rfl M.list (prg_1 rfl M.range pe_int)) (pe_lst (pa_cons pe_int (pa_cons pe_int (pa_cons pe_int (pa_cons pe_int pa_nil)))))))
        (blkOk_by (own := [("_law_at", 2)]) (N := ["_law_made", "_law_found", "_law_at"]) (sc := defScope sFields) (by decide +kernel)) (fun _ _ _ _ _ => pg_name (i := 2) scFields.nd rfl (Or.inl rfl)) (fun _ _ _ _ _ => pts_nil)
        (fun _ _ _ _ _ => by exact (pe_errfld (pe_ix ix_list (pv 0) (pv 2) (fun _ _ => rfl)))))
      (pss_cons (ps_set (i := 1) scFields.nd rfl (Or.inl rfl) (pe_op op_cat (pe_op op_cat (pv 1) (pe_lc (own := [("_law_at", 2)]) (g := gName 2) (tt := tYes) (te := tErrFld K (tOp (rIxL K) (tVar 0) (tVar 2)) "position") rfl scFields.nd (pi_range2 (by rfl) M.range (pa_cons pe_int (pa_cons pe_int pa_nil)))
          (blkOk_by (own := [("_law_at", 2)]) (N := ["_law_made", "_law_found", "_law_at"]) (sc := defScope sFields) (by decide +kernel)) (fun _ _ _ _ _ => pg_name (i := 2) scFields.nd rfl (Or.inl rfl)) (fun _ _ _ _ _ => pts_nil)
          (fun _ _ _ _ _ => by exact (pe_errfld (pe_ix ix_list (pv 0) (pv 2) (fun _ _ => rfl))))))
          (pe_lst (pa_cons (pe_errfld (pe_ix ix_list (pv 0) pe_int (fun _ _ => rfl))) (pa_cons (pe_errfld (pe_ix ix_list (pv 0) pe_int (fun _ _ => rfl))) (pa_cons (pe_errfld (pe_ix ix_list (pv 0) pe_int (fun _ _ => rfl))) pa_nil))))))
      (pss_cons (ps_set (i := 1) scFields.nd rfl (Or.inl rfl) (pe_op op_cat (pv 1) (pe_lst (pa_cons (pe_errfld (pe_ix ix_list (pv 0) pe_int (fun _ _ => rfl))) (pa_cons (pe_errfld (pe_ix ix_list (pv 0) pe_int (fun _ _ => rfl))) (pa_cons (pe_errfld (pe_ix ix_list (pv 0) pe_int (fun _ _ => rfl))) pa_nil))))))
      (pss_cons (ps_set (i := 1) scFields.nd rfl (Or.inl rfl) (pe_op op_cat (pv 1) (pe_lst (pa_cons (pe_lst (pa_cons (pe_errfld (pe_ix ix_list (pv 0) pe_int (fun _ _ => rfl))) (pa_cons (pe_errfld (pe_ix ix_list (pv 0) pe_int (fun _ _ => rfl))) pa_nil)))
          (pa_cons (pe_lst (pa_cons (pe_errfld (pe_ix ix_list (pv 0) pe_int (fun _ _ => rfl))) (pa_cons (pe_errfld (pe_ix ix_list (pv 0) pe_int (fun _ _ => rfl))) pa_nil))) pa_nil)))))
      (pss_one (ps_ret (pe_op op_cat (pv 1) (pe_lst (pa_cons (pe_lst (pa_cons (pe_errfld (pe_ix ix_list (pv 0) pe_int (fun _ _ => rfl))) (pa_cons (pe_errfld (pe_ix ix_list (pv 0) pe_int (fun _ _ => rfl))) (pa_cons (pe_errfld (pe_ix ix_list (pv 0) pe_int (fun _ _ => rfl))) pa_nil)))) pa_nil)))))))), ?_⟩
    refine ⟨_, rfl, ⟨by decide, by decide, by decide, by decide⟩, fun q0 h0 => ⟨by show 4 ≤ sizeLine; decide, fun q1 h1 => ?_⟩⟩
    have s0 : Same H _ := same_new (o := .lst (rgV 0 16)) h0
    have a0 : _ = some (HO.lst (rgV 0 16)) := same_new (o := .lst [.int 30, .int 31, .int 32, .int 33]) h1 _ _ (upd_same (H := H) (a := q0))
    refine ⟨q0, q1, _, _, rfl, rfl, a0, upd_same, by show 20 ≤ sizeLine; decide, fun q2 h2 => ?_⟩
    refine ⟨q2, rfl, ⟨src, SqL.of upd_same⟩, fun D hD => ?_⟩
    have s2 := (s0.trans (same_new (o := .lst [.int 30, .int 31, .int 32, .int 33]) h1)).trans (same_new (o := .lst src) h2)
    refine lc_same (xs := src) (val := fun _ => a) (SqL.of upd_same) hD (by decide +kernel) (fun _ => rfl) ?_ ?_
    · intro i x H' R hx sm q
      obtain ⟨e1, e2⟩ := src_ok x (List.mem_of_getElem? hx)
      rw [e1]
      exact fld_ok T rfl (sm _ _ (s2 _ _ hl)) ((er.same s2).same sm) (fun R h => ⟨_, rfl, h⟩) (fld_1 e2) (q _ (Same.refl _))
    · intro H1 sm hD1
      have s3 := s2.trans sm
      clear hD sm s2 h2 h1 h0 a0 s0
      have hl1 := s3 _ _ hl
      have er1 := er.same s3
      refine ⟨_, rfl, _, _, rfl, ⟨by decide, by decide, by decide, by decide⟩, fun D2 hD2 => ?_⟩
      refine lc_sameR (val := fun _ => a) hD2 (by decide) (fun _ => rfl) ?_ ?_
      · intro i H' R hi sm q
        exact fld_ok (k := 16 + i) T rfl (sm _ _ hl1) (er1.same sm) (fun R h => ⟨_, rfl, h⟩) (fld_1 (pos_ok i hi)) (q _ (Same.refl _))
      · intro H2 s4 hd2
        have s5 := s3.trans s4
        refine ⟨D, D2, _, _, rfl, rfl, s4 _ _ hD1, hd2, by show 26 ≤ sizeLine; decide, fun r1 n1 => ?_⟩
        have e1 : (src.map fun _ => a) ++ ((List.range (22 - 16 : Int).toNat).map fun _ => a) = List.replicate 26 a := rfl
        rw [e1]
        have t1 := s5.trans (same_new (o := .lst (List.replicate 26 a)) n1)
        have g1 := upd_same (H := H2) (a := r1) (o := .lst (List.replicate 26 a))
        generalize upd H2 r1 (.lst (List.replicate 26 a)) = G1 at t1 g1 ⊢
        have hl2 := t1 _ _ hl
        have er2 := er.same t1
        refine fld_ok (k := 22) T rfl hl2 er2 (fun R h => h) (fld_1 rfl) ?_
        refine fld_ok (k := 23) T rfl hl2 er2 (fun R h => h) (fld_1 rfl) ?_
        refine fld_ok (k := 24) T rfl hl2 er2 (fun R h => h) (fld_1 rfl) ?_
        refine ⟨by show 3 ≤ sizeLine; decide, fun q3 n3 => ?_⟩
        refine ⟨r1, q3, _, _, rfl, rfl, same_new n3 _ _ g1, upd_same, by show 29 ≤ sizeLine; decide, fun r2 n4 => ?_⟩
        rw [show List.replicate 26 a ++ [a, a, a] = List.replicate 29 a from rfl]
        have t2 := (t1.trans (same_new (o := .lst [a, a, a]) n3)).trans (same_new (o := .lst (List.replicate 29 a)) n4)
        have g2 := upd_same (H := upd G1 q3 (.lst [a, a, a])) (a := r2) (o := .lst (List.replicate 29 a))
        generalize upd (upd G1 q3 (.lst [a, a, a])) r2 (.lst (List.replicate 29 a)) = G2 at t2 g2 ⊢
        have hl3 := t2 _ _ hl
        have er3 := er.same t2
        -- line, letter, name
        refine ⟨_, rfl, ?_⟩
        refine fld_ok (k := 25) T rfl hl3 er3 (fun R h => h) (fld_1 rfl) ?_
        refine fld_ok (k := 26) T rfl hl3 er3 (fun R h => h) (fld_1 rfl) ?_
        refine fld_ok (k := 34) T rfl hl3 er3 (fun R h => h) (fld_1 rfl) ?_
        refine ⟨by show 3 ≤ sizeLine; decide, fun q4 n5 => ?_⟩
        refine ⟨r2, q4, _, _, rfl, rfl, same_new n5 _ _ g2, upd_same, by show 32 ≤ sizeLine; decide, fun r3 n6 => ?_⟩
        rw [show List.replicate 29 a ++ [a, a, a] = List.replicate 32 a from rfl]
        have t3 := (t2.trans (same_new (o := .lst [a, a, a]) n5)).trans (same_new (o := .lst (List.replicate 32 a)) n6)
        have g3 := upd_same (H := upd G2 q4 (.lst [a, a, a])) (a := r3) (o := .lst (List.replicate 32 a))
        generalize upd (upd G2 q4 (.lst [a, a, a])) r3 (.lst (List.replicate 32 a)) = G3 at t3 g3 ⊢
        have hl4 := t3 _ _ hl
        have er4 := er.same t3
        -- part, position; kind, limit
        refine ⟨_, rfl, ?_⟩
        refine fld_ok (k := 27) (v := a) T rfl hl4 er4 (fun R h => h) ⟨c27, rfl, by decide +kernel, rfl⟩ ?_
        refine fld_ok (k := 27) (v := b) T rfl hl4 er4 (fun R h => h) ⟨c27, rfl, by decide +kernel, rfl⟩ ?_
        refine ⟨by show 2 ≤ sizeLine; decide, fun q5 n7 => ?_⟩
        have u5 := same_new (o := .lst [a, b]) n7
        refine fld_ok (k := 29) (v := a) T rfl (u5 _ _ hl4) (er4.same u5) (fun R h => h) ⟨c29, rfl, by decide +kernel, rfl⟩ ?_
        refine fld_ok (k := 29) (v := b) T rfl (u5 _ _ hl4) (er4.same u5) (fun R h => h) ⟨c29, rfl, by decide +kernel, rfl⟩ ?_
        refine ⟨by show 2 ≤ sizeLine; decide, fun q6 n8 => ?_⟩
        have u6 := u5.trans (same_new (o := .lst [a, b]) n8)
        have w5 := same_new (o := .lst [a, b]) n8 _ _ (upd_same (H := G3) (a := q5) (o := .lst [a, b]))
        have w6 := upd_same (H := upd G3 q5 (.lst [a, b])) (a := q6) (o := .lst [a, b])
        generalize upd (upd G3 q5 (.lst [a, b])) q6 (.lst [a, b]) = G4 at u6 w5 w6 ⊢
        refine ⟨by show 2 ≤ sizeLine; decide, fun q7 n9 => ?_⟩
        refine ⟨r3, q7, _, _, rfl, rfl, same_new n9 _ _ (u6 _ _ g3), upd_same, by show 34 ≤ sizeLine; decide, fun r4 n10 => ?_⟩
        have y4 := (same_new (o := .lst [.ref q5, .ref q6]) n9).trans (same_new (o := .lst (List.replicate 32 a ++ [.ref q5, .ref q6])) n10)
        have t4 := (t3.trans u6).trans y4
        have g4 := upd_same (H := upd G4 q7 (.lst [.ref q5, .ref q6])) (a := r4) (o := .lst (List.replicate 32 a ++ [.ref q5, .ref q6]))
        have w5' := y4 _ _ w5
        have w6' := y4 _ _ w6
        generalize upd (upd G4 q7 (.lst [.ref q5, .ref q6])) r4 (.lst (List.replicate 32 a ++ [.ref q5, .ref q6])) = G5 at t4 g4 w5' w6' ⊢
        have hl5 := t4 _ _ hl
        have er5 := er.same t4
        -- mode, letter, position
        refine ⟨_, rfl, ?_⟩
        refine fld_ok (k := 28) (v := a) T rfl hl5 er5 (fun R h => h) ⟨c28, rfl, by decide +kernel, rfl⟩ ?_
        refine fld_ok (k := 28) (v := b) T rfl hl5 er5 (fun R h => h) ⟨c28, rfl, by decide +kernel, rfl⟩ ?_
        refine fld_ok (k := 28) (v := c) T rfl hl5 er5 (fun R h => h) ⟨c28, rfl, by decide +kernel, rfl⟩ ?_
        refine ⟨by show 3 ≤ sizeLine; decide, fun q8 n11 => ⟨by show 1 ≤ sizeLine; decide, fun q9 n12 => ?_⟩⟩
        have v8 := same_new (o := .lst [a, b, c]) n11
        have v9 := same_new (o := .lst [.ref q8]) n12
        refine ⟨r4, q9, _, _, rfl, rfl, v9 _ _ (v8 _ _ g4), upd_same, by show 35 ≤ sizeLine; decide, fun r5 n13 => ?_⟩
        have v10 := same_new (o := .lst ((List.replicate 32 a ++ [.ref q5, .ref q6]) ++ [.ref q8])) n13
        have v := (v8.trans v9).trans v10
        exact k r5 q5 q6 q8 _ (t4.trans v) (by rw [upd_same]; rfl) (v _ _ w5') (v _ _ w6') (v10 _ _ (v9 _ _ upd_same))
end
end K19
set_option maxHeartbeats 8000000
namespace K19
open PySem PySem.Spec PyProof.Rows L2 GL
/-- which family an error is of -/
def fam (k : Nat) : Nat := if k > 33 then 2 else if k > 29 then 1 else 0
/-- is the k-th error of the j-th class -/
def expB (k j : Nat) : Bool := if j < 37 then j == k else if j < 40 then j == 37 + fam k else j == 40 + fam k
def ec (k : Nat) : EC := ecs.getD k c0
def top3 : Nat → Str
  | 37 => "FadeError"
  | 38 => "MissingError"
  | _ => "StateError"
def cvV (K : PySem.W.Frag) (j : Nat) : V := if j < 37 then .ref ((ec j).at K) else if j < 40 then .ref (He.ga K (top3 j)) else .ty (if j = 40 then "ValueError" else if j = 41 then "LookupError" else "RuntimeError")
def cvU (K : PySem.W.Frag) (j : Nat) : Value := if j < 37 then .ref ((ec j).at K) else if j < 40 then .ref (He.ga K (top3 j)) else .type (if j = 40 then "ValueError" else if j = 41 then "LookupError" else "RuntimeError")
theorem cv_is (K : PySem.W.Frag) (j : Nat) : ClsV (cvV K j) (cvU K j) := by
  unfold cvV cvU
  by_cases h : j < 37
  · rw [if_pos h, if_pos h]
    exact .own _
  · rw [if_neg h, if_neg h]
    by_cases h2 : j < 40
    · rw [if_pos h2, if_pos h2]
      exact .own _
    · rw [if_neg h2, if_neg h2]
      exact .ty _
structure WTab (K : PySem.W.Frag) (mg : Str → Option Value) : Prop where
  sp : PySem.W.specialIn K (.builtin "object.__class__") "__get__" = some (some (.builtin "getset_descriptor.__get__"))
  tk : PySem.W.takesIn K (.builtin "object.__class__") = some true
  g0 : mg "FadeError" = some (.ref (He.ga K "FadeError"))
  g1 : mg "MissingError" = some (.ref (He.ga K "MissingError"))
  g2 : mg "StateError" = some (.ref (He.ga K "StateError"))
  kit : ∀ k < 37, ∀ j < 43, PySem.W.kitOne K (.ref ((ec k).at K)) (cvU K j) = some (expB k j)
def IsErr (K : PySem.W.Frag) (σ : L2.St) (H : Hp) (k : Nat) : Prop := ∃ e fs, σ[0]? = some (some (.ref e)) ∧ k < 37 ∧ ErrAt H e ((ec k).at K) fs
def tI (K : PySem.W.Frag) (j : Nat) : TE := fun σ H Q => ∃ k, IsErr K σ H k ∧ Q (.bl (expB k j)) H
def tIs (K : PySem.W.Frag) (l : List Nat) : TA := fun σ H Q => ∃ k, IsErr K σ H k ∧ Q (l.map fun j => V.bl (expB k j)) H
def tDsB (K : PySem.W.Frag) (l : List Nat) : TE := fun σ H Q => ∃ k, IsErr K σ H k ∧ ∀ p H', Same H H' → H p = none → H' p = some (.lst (l.map fun j => V.bl (expB k j))) → Q (.ref p) H'
theorem ec_mem {k : Nat} (h : k < 37) : ec k ∈ ecs := by
  have lt : k < ecs.length := h
  have e : ec k = ecs[k] := by
    unfold ec
    rw [List.getD_eq_getElem?_getD, List.getElem?_eq_getElem lt]
    rfl
  rw [e]
  exact List.getElem_mem lt
section
variable {X : Cx}
theorem bos_nil : PA X [] (tIs X.K []) := PA.imp pa_nil fun σ H Q ⟨k, _, q⟩ => q
theorem bos_cons {ex : Expr} {es : List Expr} {j : Nat} {l : List Nat} (h : PE X ex (tI X.K j)) (r : PA X es (tIs X.K l)) (hs : starEach (ex :: es) X.env = (false, eval ex X.env) :: starEach es X.env := by rfl) : PA X (ex :: es) (tIs X.K (j :: l)) := by
  refine PA.imp (pa_cons h r hs) ?_
  rintro σ H Q ⟨k, i, q⟩
  exact ⟨k, i, k, i, q⟩
theorem bo_dsp {es : List Expr} {pos : Pos} {l : List Nat} (h : PA X es (tIs X.K l)) (hl : l.length ≤ 100) : PE X (.List es pos) (tDsB X.K l) := by
  refine PE.imp (pe_lst h) ?_
  rintro σ H Q ⟨k, i, q⟩
  refine ⟨k, i, ?_, fun p hp => q p _ (same_new hp) hp upd_same⟩
  rw [List.length_map, sizeLine_eq]
  omega
theorem is_el {P : Program} {w : World} {base : Heap} (T : ETab P w X.K X.mg base) (W : WTab X.K X.mg) (j : Nat) {ex : Expr} {v : V} (h : PE X ex (tCB (rErrIs X.K) (tCons (tVar 0) (tCons (tC v) tNil)))) (hj : j < 43) (hv : v = cvV X.K j) : PE X ex (tI X.K j) := by
  refine PE.imp h ?_
  rintro σ H Q ⟨k, ⟨e, fs, s0, hk, er⟩, q⟩
  exact ⟨_, s0, e, _, _, fs, v, cvU X.K j, _, rfl, T.xc _ (ec_mem hk), er, by rw [hv]; exact cv_is _ _, W.kit k hk j hj, q⟩
end
section
variable {K : PySem.W.Frag} {H : Hp} {l l2 : List Nat} {e q : Addr} {k : Nat} {fs : List (Str × V)} {D : Ends}
theorem bcat_any {Q : VK} (hl : (l ++ l2).length ≤ 100) (hk : k < 37) (er : ErrAt H e ((ec k).at K) fs) (hq : H q = some (.lst (l.map fun j => V.bl (expB k j))))
    (h : ∀ r H', Same H H' → H r = none → H' r = some (.lst ((l ++ l2).map fun j => V.bl (expB k j))) → ErrAt H' e ((ec k).at K) fs → Q (.ref r) H') : tOp rCat (tVar 1) (tDsB K l2) [some (.ref e), some (.ref q)] H Q := by
  refine ⟨.ref q, rfl, k, ⟨e, fs, rfl, hk, er⟩, fun p H' s1 n1 hp => ⟨q, p, _, _, rfl, rfl, s1 _ _ hq, hp, ?_, fun r hr => ?_⟩⟩
  · rw [List.length_map, List.length_map, sizeLine_eq]
    rw [List.length_append] at hl
    omega
  · exact h r _ (s1.trans (same_new hr)) (s1.free hr) (by rw [List.map_append]; exact upd_same) ((er.same s1).same (same_new hr))
theorem bcat_step (hl : (l ++ l2).length ≤ 100) (hk : k < 37) (er : ErrAt H e ((ec k).at K) fs) (hq : H q = some (.lst (l.map fun j => V.bl (expB k j))))
    (h : ∀ r H', Same H H' → H r = none → H' r = some (.lst ((l ++ l2).map fun j => V.bl (expB k j))) → ErrAt H' e ((ec k).at K) fs → D.nx [some (.ref e), some (.ref r)] H') : tAsg (tOp rCat (tVar 1) (tDsB K l2)) (gName 1) D [some (.ref e), some (.ref q)] H := bcat_any hl hk er hq h
theorem bcat_end (hl : (l ++ l2).length ≤ 100) (hk : k < 37) (er : ErrAt H e ((ec k).at K) fs) (hq : H q = some (.lst (l.map fun j => V.bl (expB k j))))
    (h : ∀ r H', Same H H' → H r = none → H' r = some (.lst ((l ++ l2).map fun j => V.bl (expB k j))) → ErrAt H' e ((ec k).at K) fs → D.rt (.ref r) H') : tRet (tOp rCat (tVar 1) (tDsB K l2)) D [some (.ref e), some (.ref q)] H := bcat_any hl hk er hq h
end
abbrev sTruths : Stmt := tp 49
def spTruths (K : PySem.W.Frag) : Sp := fun vs H Q _ => ∃ e k fs, vs = [.ref e] ∧ k < 37 ∧ ErrAt H e ((ec k).at K) fs ∧ ∀ p H', Same H H' → H p = none → H' p = some (.lst ((List.range 43).map fun j => V.bl (expB k j))) → Q (.ref p) H'
section
variable {P : Program} {w : World} {K : PySem.W.Frag} {mg : Str → Option Value} {base : Heap}
theorem scTruths : FnScope ["_law_made", "_law_found"] ["_law_made"] (defScope sTruths) := ⟨rfl, rfl, rfl, by decide +kernel, rfl, by decide +kernel, by decide +kernel⟩
theorem ok_truths {f : Addr} {fd : FuncData} (F : Fun K "_law_truths" "_law_truths" sTruths f fd) (M : Free mg) (T : ETab P w K mg base) (W : WTab K mg) : FnOk P w K mg base CX0 1 f fd ["_law_made"] (spTruths K) := by
  refine F.ok scTruths (fun vs H Q E h => ?_) (fun cdv A outer s H vs Q E hr h => ?_)
  · obtain ⟨e, k, fs, rfl, _⟩ := h
    rfl
  · obtain ⟨e, k, fs, rfl, hk, e0, q⟩ := h
    refine ⟨_, (pss_cons (ps_set (i := 1) scTruths.nd rfl (Or.inl rfl) (bo_dsp (bos_cons (is_el T W 0 (pe_callB (call_errIs W.sp W.tk) (by rfl) M.isi (by decide +kernel) (pa_cons (pv 0) (pa_cons (pe_glob (v := .ref (c0.at K)) rfl (T.gl _ (List.mem_of_getElem? (i := 0) rfl)) rfl) pa_nil))) (by decide) rfl) (bos_cons (is_el T W 1 (pe_callB (call_errIs W.sp W.tk) (by rfl) M.isi (by decide +kernel) (pa_cons (pv 0) (pa_cons (pe_glob (v := .ref (c1.at K)) rfl (T.gl _ (List.mem_of_getElem? (i := 1) rfl)) rfl) pa_nil))) (by decide) rfl) (bos_cons (is_el T W 2 (pe_callB (call_errIs W.sp W.tk) (by rfl) M.isi (by decide +kernel) (pa_cons (pv 0) (pa_cons (pe_glob (v := .ref (c2.at K)) rfl (T.gl _ (List.mem_of_getElem? (i := 2) rfl)) rfl) pa_nil))) (by decide) rfl) bos_nil))) (by decide)))
      (pss_cons (ps_set (i := 1) scTruths.nd rfl (Or.inl rfl) (pe_op op_cat (pv 1) (bo_dsp (bos_cons (is_el T W 3 (pe_callB (call_errIs W.sp W.tk) (by rfl) M.isi (by decide +kernel) (pa_cons (pv 0) (pa_cons (pe_glob (v := .ref (c3.at K)) rfl (T.gl _ (List.mem_of_getElem? (i := 3) rfl)) rfl) pa_nil))) (by decide) rfl) (bos_cons (is_el T W 4 (pe_callB (call_errIs W.sp W.tk) (by rfl) M.isi (by decide +kernel) (pa_cons (pv 0) (pa_cons (pe_glob (v := .ref (c4.at K)) rfl (T.gl _ (List.mem_of_getElem? (i := 4) rfl)) rfl) pa_nil))) (by decide) rfl) (bos_cons (is_el T W 5 (pe_callB (call_errIs W.sp W.tk) (by rfl) M.isi (by decide +kernel) (pa_cons (pv 0) (pa_cons (pe_glob (v := .ref (c5.at K)) rfl (T.gl _ (List.mem_of_getElem? (i := 5) rfl)) rfl) pa_nil))) (by decide) rfl) bos_nil))) (by decide))))
      (pss_cons (ps_set (i := 1) scTruths.nd rfl (Or.inl rfl) (pe_op op_cat (pv 1) (bo_dsp (bos_cons (is_el T W 6 (pe_callB (call_errIs W.sp W.tk) (by rfl) M.isi (by decide +kernel) (pa_cons (pv 0) (pa_cons (pe_glob (v := .ref (c6.at K)) rfl (T.gl _ (List.mem_of_getElem? (i := 6) rfl)) rfl) pa_nil))) (by decide) rfl) (bos_cons (is_el T W 7 (pe_callB (call_errIs W.sp W.tk) (by rfl) M.isi (by decide +kernel) (pa_cons (pv 0) (pa_cons (pe_glob (v := .ref (c7.at K)) rfl (T.gl _ (List.mem_of_getElem? (i := 7) rfl)) rfl) pa_nil))) (by decide) rfl) (bos_cons (is_el T W 8 (pe_callB (call_errIs W.sp W.tk) (by rfl) M.isi (by decide +kernel) (pa_cons (pv 0) (pa_cons (pe_glob (v := .ref (c8.at K)) rfl (T.gl _ (List.mem_of_getElem? (i := 8) rfl)) rfl) pa_nil))) (by decide) rfl) bos_nil))) (by decide))))
      (pss_cons (ps_set (i := 1) scTruths.nd rfl (Or.inl rfl) (pe_op op_cat (pv 1) (bo_dsp (bos_cons (is_el T W 9 (pe_callB (call_errIs W.sp W.tk) (by rfl) M.isi (by decide +kernel) (pa_cons (pv 0) (pa_cons (pe_glob (v := .ref (c9.at K)) rfl (T.gl _ (List.mem_of_getElem? (i := 9) rfl)) rfl) pa_nil))) (by decide) rfl) (bos_cons (is_el T W 10 (pe_callB (call_errIs W.sp W.tk) (by rfl) M.isi (by decide +kernel) (pa_cons (pv 0) (pa_cons (pe_glob (v := .ref (c10.at K)) rfl (T.gl _ (List.mem_of_getElem? (i := 10) rfl)) rfl) pa_nil))) (by decide) rfl) (bos_cons (is_el T W 11 (pe_callB (call_errIs W.sp W.tk) (by rfl) M.isi (by decide +kernel) (pa_cons (pv 0) (pa_cons (pe_glob (v := .ref (c11.at K)) rfl (T.gl _ (List.mem_of_getElem? (i := 11) rfl)) rfl) pa_nil))) (by decide) rfl) bos_nil))) (by decide))))
      (pss_cons (ps_set (i := 1) scTruths.nd rfl (Or.inl rfl) (pe_op op_cat (pv 1) (bo_dsp (bos_cons (is_el T W 12 (pe_callB (call_errIs W.sp W.tk) (by rfl) M.isi (by decide +kernel) (pa_cons (pv 0) (pa_cons (pe_glob (v := .ref (c12.at K)) rfl (T.gl _ (List.mem_of_getElem? (i := 12) rfl)) rfl) pa_nil))) (by decide) rfl) (bos_cons (is_el T W 13 (pe_callB (call_errIs W.sp W.tk) (by rfl) M.isi (by decide +kernel) (pa_cons (pv 0) (pa_cons (pe_glob (v := .ref (c13.at K)) rfl (T.gl _ (List.mem_of_getElem? (i := 13) rfl)) rfl) pa_nil))) (by decide) rfl) bos_nil)) (by decide))))
      (pss_cons (ps_set (i := 1) scTruths.nd rfl (Or.inl rfl) (pe_op op_cat (pv 1) (bo_dsp (bos_cons (is_el T W 14 (pe_callB (call_errIs W.sp W.tk) (by rfl) M.isi (by decide +kernel) (pa_cons (pv 0) (pa_cons (pe_glob (v := .ref (c14.at K)) rfl (T.gl _ (List.mem_of_getElem? (i := 14) rfl)) rfl) pa_nil))) (by decide) rfl) (bos_cons (is_el T W 15 (pe_callB (call_errIs W.sp W.tk) (by rfl) M.isi (by decide +kernel) (pa_cons (pv 0) (pa_cons (pe_glob (v := .ref (c15.at K)) rfl (T.gl _ (List.mem_of_getElem? (i := 15) rfl)) rfl) pa_nil))) (by decide) rfl) bos_nil)) (by decide))))
      (pss_cons (ps_set (i := 1) scTruths.nd rfl (Or.inl rfl) (pe_op op_cat (pv 1) (bo_dsp (bos_cons (is_el T W 16 (pe_callB (call_errIs W.sp W.tk) (by rfl) M.isi (by decide +kernel) (pa_cons (pv 0) (pa_cons (pe_glob (v := .ref (c16.at K)) rfl (T.gl _ (List.mem_of_getElem? (i := 16) rfl)) rfl) pa_nil))) (by decide) rfl) (bos_cons (is_el T W 17 (pe_callB (call_errIs W.sp W.tk) (by rfl) M.isi (by decide +kernel) (pa_cons (pv 0) (pa_cons (pe_glob (v := .ref (c17.at K)) rfl (T.gl _ (List.mem_of_getElem? (i := 17) rfl)) rfl) pa_nil))) (by decide) rfl) (bos_cons (is_el T W 18 (pe_callB (call_errIs W.sp W.tk) (by rfl) M.isi (by decide +kernel) (pa_cons (pv 0) (pa_cons (pe_glob (v := .ref (c18.at K)) rfl (T.gl _ (List.mem_of_getElem? (i := 18) rfl)) rfl) pa_nil))) (by decide) rfl) bos_nil))) (by decide))))
      (pss_cons (ps_set (i := 1) scTruths.nd rfl (Or.inl rfl) (pe_op op_cat (pv 1) (bo_dsp (bos_cons (is_el T W 19 (pe_callB (call_errIs W.sp W.tk) (by rfl) M.isi (by decide +kernel) (pa_cons (pv 0) (pa_cons (pe_glob (v := .ref (c19.at K)) rfl (T.gl _ (List.mem_of_getElem? (i := 19) rfl)) rfl) pa_nil))) (by decide) rfl) (bos_cons (is_el T W 20 (pe_callB (call_errIs W.sp W.tk) (by rfl) M.isi (by decide +kernel) (pa_cons (pv 0) (pa_cons (pe_glob (v := .ref (c20.at K)) rfl (T.gl _ (List.mem_of_getElem? (i := 20) rfl)) rfl) pa_nil))) (by decide) rfl) (bos_cons (is_el T W 21 (pe_callB (call_errIs W.sp W.tk) (by rfl) M.isi (by decide +kernel) (pa_cons (pv 0) (pa_cons (pe_glob (v := .ref (c21.at K)) rfl (T.gl _ (List.mem_of_getElem? (i := 21) rfl)) rfl) pa_nil))) (by decide) rfl) bos_nil))) (by decide))))
      (pss_cons (ps_set (i := 1) scTruths.nd rfl (Or.inl rfl) (pe_op op_cat (pv 1) (bo_dsp (bos_cons (is_el T W 22 (pe_callB (call_errIs W.sp W.tk) (by rfl) M.isi (by decide +kernel) (pa_cons (pv 0) (pa_cons (pe_glob (v := .ref (c22.at K)) rfl (T.gl _ (List.mem_of_getElem? (i := 22) rfl)) rfl) pa_nil))) (by decide) rfl) (bos_cons (is_el T W 23 (pe_callB (call_errIs W.sp W.tk) (by rfl) M.isi (by decide +kernel) (pa_cons (pv 0) (pa_cons (pe_glob (v := .ref (c23.at K)) rfl (T.gl _ (List.mem_of_getElem? (i := 23) rfl)) rfl) pa_nil))) (by decide) rfl) (bos_cons (is_el T W 24 (pe_callB (call_errIs W.sp W.tk) (by rfl) M.isi (by decide +kernel) (pa_cons (pv 0) (pa_cons (pe_glob (v := .ref (c24.at K)) rfl (T.gl _ (List.mem_of_getElem? (i := 24) rfl)) rfl) pa_nil))) (by decide) rfl) bos_nil))) (by decide))))
      (pss_cons (ps_set (i := 1) scTruths.nd rfl (Or.inl rfl) (pe_op op_cat (pv 1) (bo_dsp (bos_cons (is_el T W 25 (pe_callB (call_errIs W.sp W.tk) (by rfl) M.isi (by decide +kernel) (pa_cons (pv 0) (pa_cons (pe_glob (v := .ref (c25.at K)) rfl (T.gl _ (List.mem_of_getElem? (i := 25) rfl)) rfl) pa_nil))) (by decide) rfl) (bos_cons (is_el T W 26 (pe_callB (call_errIs W.sp W.tk) (by rfl) M.isi (by decide +kernel) (pa_cons (pv 0) (pa_cons (pe_glob (v := .ref (c26.at K)) rfl (T.gl _ (List.mem_of_getElem? (i := 26) rfl)) rfl) pa_nil))) (by decide) rfl) (bos_cons (is_el T W 27 (pe_callB (call_errIs W.sp W.tk) (by rfl) M.isi (by decide +kernel) (pa_cons (pv 0) (pa_cons (pe_glob (v := .ref (c27.at K)) rfl (T.gl _ (List.mem_of_getElem? (i := 27) rfl)) rfl) pa_nil))) (by decide) rfl) bos_nil))) (by decide))))
      (pss_cons (ps_set (i := 1) scTruths.nd rfl (Or.inl rfl) (pe_op op_cat (pv 1) (bo_dsp (bos_cons (is_el T W 28 (pe_callB (call_errIs W.sp W.tk) (by rfl) M.isi (by decide +kernel) (pa_cons (pv 0) (pa_cons (pe_glob (v := .ref (c28.at K)) rfl (T.gl _ (List.mem_of_getElem? (i := 28) rfl)) rfl) pa_nil))) (by decide) rfl) (bos_cons (is_el T W 29 (pe_callB (call_errIs W.sp W.tk) (by rfl) M.isi (by decide +kernel) (pa_cons (pv 0) (pa_cons (pe_glob (v := .ref (c29.at K)) rfl (T.gl _ (List.mem_of_getElem? (i := 29) rfl)) rfl) pa_nil))) (by decide) rfl) (bos_cons (is_el T W 30 (pe_callB (call_errIs W.sp W.tk) (by rfl) M.isi (by decide +kernel) (pa_cons (pv 0) (pa_cons (pe_glob (v := .ref (c30.at K)) rfl (T.gl _ (List.mem_of_getElem? (i := 30) rfl)) rfl) pa_nil))) (by decide) rfl) bos_nil))) (by decide))))
      (pss_cons (ps_set (i := 1) scTruths.nd rfl (Or.inl rfl) (pe_op op_cat (pv 1) (bo_dsp (bos_cons (is_el T W 31 (pe_callB (call_errIs W.sp W.tk) (by rfl) M.isi (by decide +kernel) (pa_cons (pv 0) (pa_cons (pe_glob (v := .ref (c31.at K)) rfl (T.gl _ (List.mem_of_getElem? (i := 31) rfl)) rfl) pa_nil))) (by decide) rfl) (bos_cons (is_el T W 32 (pe_callB (call_errIs W.sp W.tk) (by rfl) M.isi (by decide +kernel) (pa_cons (pv 0) (pa_cons (pe_glob (v := .ref (c32.at K)) rfl (T.gl _ (List.mem_of_getElem? (i := 32) rfl)) rfl) pa_nil))) (by decide) rfl) (bos_cons (is_el T W 33 (pe_callB (call_errIs W.sp W.tk) (by rfl) M.isi (by decide +kernel) (pa_cons (pv 0) (pa_cons (pe_glob (v := .ref (c33.at K)) rfl (T.gl _ (List.mem_of_getElem? (i := 33) rfl)) rfl) pa_nil))) (by decide) rfl) bos_nil))) (by decide))))
      (pss_cons (ps_set (i := 1) scTruths.nd rfl (Or.inl rfl) (pe_op op_cat (pv 1) (bo_dsp (bos_cons (is_el T W 34 (pe_callB (call_errIs W.sp W.tk) (by rfl) M.isi (by decide +kernel) (pa_cons (pv 0) (pa_cons (pe_glob (v := .ref (c34.at K)) rfl (T.gl _ (List.mem_of_getElem? (i := 34) rfl)) rfl) pa_nil))) (by decide) rfl) (bos_cons (is_el T W 35 (pe_callB (call_errIs W.sp W.tk) (by rfl) M.isi (by decide +kernel) (pa_cons (pv 0) (pa_cons (pe_glob (v := .ref (c35.at K)) rfl (T.gl _ (List.mem_of_getElem? (i := 35) rfl)) rfl) pa_nil))) (by decide) rfl) (bos_cons (is_el T W 36 (pe_callB (call_errIs W.sp W.tk) (by rfl) M.isi (by decide +kernel) (pa_cons (pv 0) (pa_cons (pe_glob (v := .ref (c36.at K)) rfl (T.gl _ (List.mem_of_getElem? (i := 36) rfl)) rfl) pa_nil))) (by decide) rfl) bos_nil))) (by decide))))
      (pss_cons (ps_set (i := 1) scTruths.nd rfl (Or.inl rfl) (pe_op op_cat (pv 1) (bo_dsp (bos_cons (is_el T W 37 (pe_callB (call_errIs W.sp W.tk) (by rfl) M.isi (by decide +kernel) (pa_cons (pv 0) (pa_cons (pe_glob (v := .ref (He.ga K "FadeError")) rfl W.g0 rfl) pa_nil))) (by decide) rfl) (bos_cons (is_el T W 38 (pe_callB (call_errIs W.sp W.tk) (by rfl) M.isi (by decide +kernel) (pa_cons (pv 0) (pa_cons (pe_glob (v := .ref (He.ga K "MissingError")) rfl W.g1 rfl) pa_nil))) (by decide) rfl) (bos_cons (is_el T W 39 (pe_callB (call_errIs W.sp W.tk) (by rfl) M.isi (by decide +kernel) (pa_cons (pv 0) (pa_cons (pe_glob (v := .ref (He.ga K "StateError")) rfl W.g2 rfl) pa_nil))) (by decide) rfl) bos_nil))) (by decide))))
      (pss_one (ps_ret (pe_op op_cat (pv 1) (bo_dsp (bos_cons (is_el T W 40 (pe_callB (call_errIs W.sp W.tk) (by rfl) M.isi (by decide +kernel) (pa_cons (pv 0) (pa_cons (pe_bltn (v := .ty "ValueError") (by rfl) M.ve (by decide +kernel) rfl) pa_nil))) (by decide) rfl) (bos_cons (is_el T W 41 (pe_callB (call_errIs W.sp W.tk) (by rfl) M.isi (by decide +kernel) (pa_cons (pv 0) (pa_cons (pe_bltn (v := .ty "LookupError") (by rfl) M.le (by decide +kernel) rfl) pa_nil))) (by decide) rfl) (bos_cons (is_el T W 42 (pe_callB (call_errIs W.sp W.tk) (by rfl) M.isi (by decide +kernel) (pa_cons (pv 0) (pa_cons (pe_bltn (v := .ty "RuntimeError") (by rfl) M.re (by decide +kernel) rfl) pa_nil))) (by decide) rfl) bos_nil))) (by decide))))))))))))))))))), ?_⟩
    refine ⟨k, ⟨e, fs, rfl, hk, e0⟩, fun p0 H0 s0 n0 h0 => ?_⟩
    have e0 := e0.same s0
    refine bcat_step (by decide) hk e0 h0 fun p1 H1 s1 n1 h1 e1 => ?_
    refine bcat_step (by decide) hk e1 h1 fun p2 H2 s2 n2 h2 e2 => ?_
    refine bcat_step (by decide) hk e2 h2 fun p3 H3 s3 n3 h3 e3 => ?_
    refine bcat_step (by decide) hk e3 h3 fun p4 H4 s4 n4 h4 e4 => ?_
    refine bcat_step (by decide) hk e4 h4 fun p5 H5 s5 n5 h5 e5 => ?_
    refine bcat_step (by decide) hk e5 h5 fun p6 H6 s6 n6 h6 e6 => ?_
    refine bcat_step (by decide) hk e6 h6 fun p7 H7 s7 n7 h7 e7 => ?_
    refine bcat_step (by decide) hk e7 h7 fun p8 H8 s8 n8 h8 e8 => ?_
    refine bcat_step (by decide) hk e8 h8 fun p9 H9 s9 n9 h9 e9 => ?_
    refine bcat_step (by decide) hk e9 h9 fun p10 H10 s10 n10 h10 e10 => ?_
    refine bcat_step (by decide) hk e10 h10 fun p11 H11 s11 n11 h11 e11 => ?_
    refine bcat_step (by decide) hk e11 h11 fun p12 H12 s12 n12 h12 e12 => ?_
    refine bcat_step (by decide) hk e12 h12 fun p13 H13 s13 n13 h13 e13 => ?_
    exact bcat_end (by decide) hk e13 h13 fun p HL sL nL hL eL => q p HL ((((((((((((((s0.trans s1).trans s2).trans s3).trans s4).trans s5).trans s6).trans s7).trans s8).trans s9).trans s10).trans s11).trans s12).trans s13).trans sL) ((((((((((((((s0.trans s1).trans s2).trans s3).trans s4).trans s5).trans s6).trans s7).trans s8).trans s9).trans s10).trans s11).trans s12).trans s13).free nL) hL
end
end K19
set_option maxHeartbeats 8000000
namespace GL
open PySem PySem.Spec PyProof.Rows L2
theorem textFrom_le : ∀ (ts : List Str) (k : Nat) (acc : Str), (textFrom k acc ts).length ≤ acc.length + piled ts
  | [], k, acc => by
    show acc.length ≤ _
    omega
  | t :: r, k, acc => by
    have ih := textFrom_le r (k + 1) (acc ++ (if k > 0 then ", " else "" : String) ++ t)
    have e : (acc ++ (if k > 0 then ", " else "" : String) ++ t).length ≤ acc.length + 2 + t.length := by
      rw [strLen_append, strLen_append]
      split
      · show acc.length + 2 + t.length ≤ _
        omega
      · show acc.length + 0 + t.length ≤ _
        omega
    rw [piled_cons]
    show (textFrom (k + 1) _ r).length ≤ _
    omega
theorem listText_le (ts : List Str) : (listText ts).length ≤ piled ts + 2 := by
  unfold listText
  rw [strLen_append]
  have h := textFrom_le ts 0 "["
  have e1 : ("[" : Str).length = 1 := rfl
  have e2 : ("]" : Str).length = 1 := rfl
  omega
/-- how a list of data is shown: bounds -/
theorem shown_list {ds : List PyData} {n m : Nat} (h : ∀ d ∈ ds, d.showable = true ∧ d.depth ≤ n ∧ d.shown.length ≤ m) : (PyData.list ds).showable = true ∧ (PyData.list ds).depth ≤ n + 1 ∧ (PyData.list ds).shown.length ≤ ds.length * (m + 2) + 2 := by
  have a : PyData.showableAll ds = true ∧ PyData.depthAll ds ≤ n ∧ piled (PyData.shownAll ds) ≤ ds.length * (m + 2) := by
    induction ds with
    | nil => exact ⟨rfl, Nat.zero_le _, Nat.zero_le _⟩
    | cons d ds ih =>
      obtain ⟨h1, h2, h3⟩ := h d List.mem_cons_self
      obtain ⟨g1, g2, g3⟩ := ih fun e he => h e (List.mem_cons_of_mem _ he)
      refine ⟨?_, ?_, ?_⟩
      · simp [PyData.showableAll, h1, g1]
      · simp only [PyData.depthAll]
        omega
      · simp only [PyData.shownAll]
        rw [piled_cons, List.length_cons, Nat.add_mul]
        omega
  refine ⟨by simp [PyData.showable, a.1], ?_, ?_⟩
  · simp only [PyData.depth]
    omega
  · simp only [PyData.shown]
    have := listText_le (PyData.shownAll ds)
    omega
end GL
set_option maxHeartbeats 8000000
namespace K19
open PySem PySem.Spec PyProof.Rows L2 GL
abbrev sMR : Stmt := tp 50
abbrev nMR : List Str := ["_law_made", "_law_a", "_law_b", "_law_c", "_law_k", "_law_error", "_law_family", "_law_at"]
def spMR (K : PySem.W.Frag) : Sp := fun vs H Q _ => ∃ l xs a b c da db dc, vs = [.ref l, a, b, c] ∧ H l = some (.lst (xs.map V.ref)) ∧ Errs K H a b c xs ecs ∧ Dq K H a da ∧ Dq K H b db ∧ Dq K H c dc ∧ Small da ∧ Small db ∧ Small dc ∧
  ∀ H', Same H H' → Q (.bl true) H'
def dat (da db dc : PyData) : PyData := .list (List.replicate 32 da ++ [.list [da, db], .list [da, db], .list [da, db, dc]])
theorem dat_small {da db dc : PyData} (ha : Small da) (hb : Small db) (hc : Small dc) : (dat da db dc).showable = true ∧ (dat da db dc).depth ≤ 40 ∧ (dat da db dc).shown.length ≤ sizeLine := by
  have ab := shown_list (ds := [da, db]) (n := 5) (m := 40) (by intro d hd; rcases List.mem_cons.mp hd with rfl | hd; exact ha; rcases List.mem_singleton.mp hd with rfl; exact hb)
  have abc := shown_list (ds := [da, db, dc]) (n := 5) (m := 40) (by intro d hd; rcases List.mem_cons.mp hd with rfl | hd; exact ha; rcases List.mem_cons.mp hd with rfl | hd; exact hb; rcases List.mem_singleton.mp hd with rfl; exact hc)
  have all := shown_list (ds := List.replicate 32 da ++ [.list [da, db], .list [da, db], .list [da, db, dc]]) (n := 6) (m := 200) (by
    intro d hd
    rcases List.mem_append.mp hd with hd | hd
    · rw [(List.mem_replicate.mp hd).2]
      exact ⟨ha.1, by have := ha.2.1; omega, by have := ha.2.2; omega⟩
    · rcases List.mem_cons.mp hd with rfl | hd
      · exact ⟨ab.1, ab.2.1, Nat.le_trans ab.2.2 (by show 2 * 42 + 2 ≤ 200; decide)⟩
      · rcases List.mem_cons.mp hd with rfl | hd
        · exact ⟨ab.1, ab.2.1, Nat.le_trans ab.2.2 (by show 2 * 42 + 2 ≤ 200; decide)⟩
        · rcases List.mem_singleton.mp hd with rfl
          exact ⟨abc.1, abc.2.1, Nat.le_trans abc.2.2 (by show 3 * 42 + 2 ≤ 200; decide)⟩)
  refine ⟨all.1, Nat.le_trans all.2.1 (by decide), Nat.le_trans all.2.2 ?_⟩
  rw [List.length_append, List.length_replicate, sizeLine_eq]
  show (32 + 3) * (200 + 2) + 2 ≤ _
  decide
theorem dq_all {K : PySem.W.Frag} {H : Hp} {v : V} {d : PyData} (h : Dq K H v d) {xs : List V} {ds : List PyData} (r : DqAll K H xs ds) : ∀ n, DqAll K H (List.replicate n v ++ xs) (List.replicate n d ++ ds)
  | 0 => r
  | n + 1 => .cons h (dq_all h r n)
theorem truth_eq : ∀ k < 37, ((List.range (37 : Int).toNat).map fun i : Nat => V.bl (decide (V.int (0 + (i : Int)) = V.int (k : Nat)))) ++ (List.replicate (2 : Int).toNat ((List.range (3 : Int).toNat).map fun i : Nat => V.bl (decide (V.int (0 + (i : Int)) = V.int (fam k : Nat))))).flatten =
    (List.range 43).map fun j => V.bl (expB k j) := by decide +kernel
theorem ite_not {b : Bool} {A B : Prop} (hb : b = true) (h : B) : if (!b) = true then A else B := by
  rw [hb]
  exact iteF h
theorem fam_eq : ∀ i < 37, (if decide ((29 : Int) < (i : Nat)) = true then 1 else 0 : Int) + (if decide ((33 : Int) < (i : Nat)) = true then 1 else 0) = (fam i : Nat) := by decide +kernel
theorem truth_shaped : ∀ k < 37, SeqAt.shaped (.list ((List.range 43).map fun j => PyData.bool (expB k j))) = true := by decide +kernel
theorem dp_bools {K : PySem.W.Frag} {H : Hp} {k : Nat} : ∀ l : List Nat, DpAll K H (l.map fun j => V.bl (expB k j)) (l.map fun j => PyData.bool (expB k j))
  | [] => .nil
  | j :: l => .cons (.bl _) (dp_bools l)
section
variable {P : Program} {w : World} {K : PySem.W.Frag} {mg : Str → Option Value} {base : Heap}
theorem scMR : FnScope nMR ["_law_made", "_law_a", "_law_b", "_law_c"] (defScope sMR) := ⟨rfl, rfl, rfl, by decide +kernel, rfl, by decide +kernel, by decide +kernel⟩
theorem ok_mr {f fF fT : Addr} {fd fdF fdT : FuncData} (F : Fun K "_law_made_right" "_law_made_right" sMR f fd) (M : Free mg) (T : ETab P w K mg base) (W : WTab K mg) (S : SysK K)
    (FF : Fun K "_law_fields" "_law_fields" sFields fF fdF) (gF : mg "_law_fields" = some (.ref fF)) (bF : Binds K fdF ["_law_made"] []) (FT : Fun K "_law_truths" "_law_truths" sTruths fT fdT) (gT : mg "_law_truths" = some (.ref fT)) (bT : Binds K fdT ["_law_made"] []) :
    FnG P w K mg base CX0 3 f fd ["_law_made", "_law_a", "_law_b", "_law_c"] (spMR K) := by
  have GF : FnOk P w K mg base CX0 2 fF fdF ["_law_made"] (spFields K) := ok_fields FF M T
  have GT : FnOk P w K mg base CX0 1 fT fdT ["_law_made"] (spTruths K) := ok_truths FT M T W
  refine Fun.okG F scMR (fun vs H Q E h => ?_) (fun cdv A outer s H vs Q E gd hr h => ?_)
  · obtain ⟨l, xs, a, b, c, da, db, dc, rfl, _⟩ := h
    rfl
  · obtain ⟨l, xs, a, b, c, da, db, dc, rfl, hl, er, qa, qb, qc, ma, mb, mc, k⟩ := h
    have hu := hr.units
    have hr1 : Room 1 _ := hr.mono (by decide)
    refine ⟨_, pss_cons (ps_if (pt_cmpR op_ne (pe_callB (call_reprD S gd hu) (by rfl) M.repr (by decide +kernel) (pa_cons (pe_call GF hr rfl gF FF.kp bF .nil pass0 (pa_cons (pv 0) pa_nil)) pa_nil))
        (pe_callB (call_reprD S gd hu) (by rfl) M.repr (by decide +kernel) (pa_cons (pe_op op_cat (pe_op op_cat (pe_op op_rep (pe_lst (pa_cons (pv 1) pa_nil)) pe_int) (pe_op op_rep (pe_lst (pa_cons (pe_lst (pa_cons (pv 1) (pa_cons (pv 2) pa_nil))) pa_nil)) pe_int))
          (pe_lst (pa_cons (pe_lst (pa_cons (pv 1) (pa_cons (pv 2) (pa_cons (pv 3) pa_nil)))) pa_nil))) pa_nil)) (nomark _)) (pss_one (ps_ret pe_bl)) pss_nil)
      (pss_cons (ps_for PassesOwn.never rfl (pi_enum (by rfl) M.enum (pa_cons (pv 0) pa_nil)) (pg_tup rfl (pgs_cons (pg_name (i := 4) scMR.nd rfl (Or.inr rfl)) (pgs_cons (pg_name (i := 5) scMR.nd rfl (Or.inl rfl)) pgs_nil)))
        (pss_cons (ps_set (i := 6) scMR.nd rfl (Or.inr rfl) (pe_op op_add (pe_callTy call_int1 (by rfl) M.int (by decide +kernel) (pa_cons (pe_cmpR op_gt (pv 4) pe_int (nomark _)) pa_nil)) (pe_callTy call_int1 (by rfl) M.int (by decide +kernel) (pa_cons (pe_cmpR op_gt (pv 4) pe_int (nomark _)) pa_nil))))
        (pss_one (ps_if (pt_cmpR (op_neD hu) (pe_call GT hr1 rfl gT FT.kp bT .nil pass0 (pa_cons (pv 5) pa_nil))
          (pe_op op_cat (pe_lc (own := [("_law_at", 7)]) (g := gName 7) (tt := tYes) (te := tOp rEq (tVar 7) (tVar 4)) rfl scMR.nd (pi_range1 (by rfl) M.range (pa_cons pe_int pa_nil))
              (blkOk_by (own := [("_law_at", 7)]) (N := nMR) (sc := defScope sMR) (by decide +kernel)) (fun _ _ _ _ _ => pg_name (i := 7) scMR.nd rfl (Or.inl rfl)) (fun _ _ _ _ _ => pts_nil) (fun _ _ _ _ _ => by exact (pe_cmpR op_eq (pv 7) (pv 4) (nomark _))))
            (pe_op op_rep (pe_lc (own := [("_law_at", 7)]) (g := gName 7) (tt := tYes) (te := tOp rEq (tVar 7) (tVar 6)) rfl scMR.nd (pi_range1 (by rfl) M.range (pa_cons pe_int pa_nil))
              (blkOk_by (own := [("_law_at", 7)]) (N := nMR) (sc := defScope sMR) (by decide +kernel)) (fun _ _ _ _ _ => pg_name (i := 7) scMR.nd rfl (Or.inl rfl)) (fun _ _ _ _ _ => pts_nil) (fun _ _ _ _ _ => by exact (pe_cmpR op_eq (pv 7) (pv 6) (nomark _)))) pe_int)) (nomark _))
          (pss_one (ps_ret pe_bl)) pss_nil))))
      (pss_one (ps_ret (pe_cmpR op_eq (pe_callB call_len_seq (by rfl) M.len PySem.boot_len (pa_cons (pv 0) pa_nil)) pe_int (nomark _))))), ?_⟩
    obtain ⟨d1, d2, d3⟩ := dat_small ma mb mc
    refine ⟨_, rfl, l, xs, a, b, c, rfl, hl, er, fun p p1 p2 p3 H1 s1 hp hp1 hp2 hp3 => ?_⟩
    have qa1 := qa.same s1
    have qb1 := qb.same s1
    have qc1 := qc.same s1
    refine ⟨p, dat da db dc, rfl, .lst (SqL.of hp) (dq_all qa1 (.cons (.lst (SqL.of hp1) (.cons qa1 (.cons qb1 .nil))) (.cons (.lst (SqL.of hp2) (.cons qa1 (.cons qb1 .nil))) (.cons (.lst (SqL.of hp3) (.cons qa1 (.cons qb1 (.cons qc1 .nil)))) .nil))) 32), d1, d2, d3, ?_⟩
    -- [a] * 32
    refine ⟨_, rfl, by show 1 ≤ sizeLine; decide, fun q1 n1 => ⟨q1, _, _, rfl, rfl, upd_same, by decide, by decide, by show 1 * 32 ≤ sizeLine; decide, fun q2 n2 => ?_⟩⟩
    rw [show (List.replicate (32 : Int).toNat [a]).flatten = List.replicate 32 a from rfl] at *
    have s2 := (same_new (o := .lst [a]) n1).trans (same_new (o := .lst (List.replicate 32 a)) n2)
    have h2 := upd_same (H := upd H1 q1 (.lst [a])) (a := q2) (o := .lst (List.replicate 32 a))
    generalize upd (upd H1 q1 (.lst [a])) q2 (.lst (List.replicate 32 a)) = G2 at s2 h2 ⊢
    -- [[a, b]] * 2
    refine ⟨_, rfl, _, rfl, by show 2 ≤ sizeLine; decide, fun q3 n3 => ⟨by show 1 ≤ sizeLine; decide, fun q4 n4 => ⟨q4, _, _, rfl, rfl, upd_same, by decide, by decide, by show 1 * 2 ≤ sizeLine; decide, fun q5 n5 => ?_⟩⟩⟩
    have s4 := (same_new (o := .lst [.ref q3]) n4).trans (same_new (o := .lst [.ref q3, .ref q3]) n5)
    have s3 := (same_new (o := .lst [a, b]) n3).trans s4
    have h3 := s4 _ _ (upd_same (H := G2) (a := q3) (o := .lst [a, b]))
    have h5 := upd_same (H := upd (upd G2 q3 (.lst [a, b])) q4 (.lst [.ref q3])) (a := q5) (o := .lst [.ref q3, .ref q3])
    rw [show (List.replicate (2 : Int).toNat [V.ref q3]).flatten = [.ref q3, .ref q3] from rfl]
    generalize upd (upd (upd G2 q3 (.lst [a, b])) q4 (.lst [.ref q3])) q5 (.lst [.ref q3, .ref q3]) = G3 at s3 h3 h5 ⊢
    refine ⟨q2, q5, _, _, rfl, rfl, s3 _ _ h2, h5, by show 34 ≤ sizeLine; decide, fun q6 n6 => ?_⟩
    have t6 := same_new (o := .lst (List.replicate 32 a ++ [.ref q3, .ref q3])) n6
    have h6 := upd_same (H := G3) (a := q6) (o := .lst (List.replicate 32 a ++ [.ref q3, .ref q3]))
    have h3' := t6 _ _ h3
    have s6 := (s2.trans s3).trans t6
    generalize upd G3 q6 (.lst (List.replicate 32 a ++ [.ref q3, .ref q3])) = G4 at h6 h3' s6 ⊢
    refine ⟨_, rfl, _, rfl, _, rfl, by show 3 ≤ sizeLine; decide, fun q7 n7 => ⟨by show 1 ≤ sizeLine; decide, fun q8 n8 => ?_⟩⟩
    have t8 := same_new (o := .lst [.ref q7]) n8
    have t7 := (same_new (o := .lst [a, b, c]) n7).trans t8
    refine ⟨q6, q8, _, _, rfl, rfl, t7 _ _ h6, upd_same, by show 35 ≤ sizeLine; decide, fun q9 n9 => ?_⟩
    have t9 := same_new (o := .lst ((List.replicate 32 a ++ [.ref q3, .ref q3]) ++ [.ref q7])) n9
    have h7 := t9 _ _ (t8 _ _ (upd_same (H := G4) (a := q7) (o := .lst [a, b, c])))
    have h9 := upd_same (H := upd (upd G4 q7 (.lst [a, b, c])) q8 (.lst [.ref q7])) (a := q9) (o := .lst ((List.replicate 32 a ++ [.ref q3, .ref q3]) ++ [.ref q7]))
    have h3'' := t9 _ _ (t7 _ _ h3')
    have s9 := s1.trans ((s6.trans t7).trans t9)
    generalize upd (upd (upd G4 q7 (.lst [a, b, c])) q8 (.lst [.ref q7])) q9 (.lst ((List.replicate 32 a ++ [.ref q3, .ref q3]) ++ [.ref q7])) = G5 at h7 h9 h3'' s9 ⊢
    have qa2 := qa.same s9
    have qb2 := qb.same s9
    have qc2 := qc.same s9
    refine ⟨q9, dat da db dc, rfl, .lst (SqL.of h9) (by rw [List.append_assoc]; exact dq_all qa2 (.cons (.lst (SqL.of h3'') (.cons qa2 (.cons qb2 .nil))) (.cons (.lst (SqL.of h3'') (.cons qa2 (.cons qb2 .nil))) (.cons (.lst (SqL.of h7) (.cons qa2 (.cons qb2 (.cons qc2 .nil)))) .nil))) 32), d1, d2, d3, rfl, _, rfl, ?_⟩
    refine iteNS rfl ?_
    -- the loop
    have hl5 := s9 _ _ hl
    have er5 := er.same s9
    have len5 : xs.length = 37 := er.len
    clear h9 h7 h3'' h3' h6 h5 h3 h2 hp hp1 hp2 hp3
    refine ⟨_, rfl, l, xs.map V.ref, rfl, SqL.of hl5, for_it (walk_enum (K := K) (a := l) (xs := xs.map V.ref)) (fun i σ H' => ∃ v4 v5 v6, σ = [some (.ref l), some a, some b, some c, v4, v5, v6, none] ∧ Same G5 H') ⟨none, none, none, rfl, Same.refl _⟩ (fun i σ H' _ ⟨_, _, _, _, sm⟩ => SqL.of (sm _ _ hl5)) ?_ ?_⟩
    · rintro i x σ H' H'' hi ⟨v4, v5, v6, rfl, sm⟩ ⟨T1, x1, y1, rfl, nT, rfl, hx1, hy1⟩
      rw [List.length_map, len5] at hi
      cases Option.some.inj hx1
      replace hy1 : (xs.map V.ref)[i]? = some y1 := hy1
      obtain ⟨e, he, rfl⟩ : ∃ e, xs[i]? = some e ∧ y1 = V.ref e := by
        rw [List.getElem?_map] at hy1
        cases q : xs[i]? with
        | none =>
          rw [q] at hy1
          cases hy1
        | some e =>
          rw [q] at hy1
          exact ⟨e, rfl, (Option.some.inj hy1).symm⟩
      have sm2 := sm.trans (same_new (o := .tup [.int (i : Nat), .ref e]) nT)
      refine ⟨T1, _, rfl, SqT.of upd_same, rfl, _, _, rfl, _, _, rfl, rfl, ?_⟩
      generalize upd H' T1 (.tup [.int (i : Nat), .ref e]) = G6 at sm2 ⊢
      refine ⟨_, rfl, _, _, rfl, rfl, .inr ⟨_, rfl, _, rfl, _, _, rfl, rfl, .inr ⟨_, rfl, _, _, rfl, rfl, ?_⟩⟩⟩
      have ef := fam_eq i hi
      dsimp only
      rw [ef]
      obtain ⟨e1, z1, at1⟩ := (er5.same sm2).get he
      have ece : ec i = e1 := by
        unfold ec
        rw [List.getD_eq_getElem?_getD, z1]
        rfl
      refine ⟨_, rfl, e, i, _, rfl, hi, by rw [ece]; exact at1, fun pT H7 s7 nT7 hT => ?_⟩
      refine ⟨_, rfl, by decide, by decide, fun D hD => lc_sameR (val := fun z => .bl (decide (V.int z = V.int (i : Nat)))) hD (by decide) (fun _ => rfl) (fun j H8 R _ _ q => ⟨_, rfl, _, rfl, rfl, q _ (Same.refl _)⟩) fun H8 s8 h8 => ?_⟩
      refine ⟨_, rfl, by decide, by decide, fun D2 hD2 => lc_sameR (val := fun z => .bl (decide (V.int z = V.int (fam i : Nat)))) hD2 (by decide) (fun _ => rfl) (fun j H9 R _ _ q => ⟨_, rfl, _, rfl, rfl, q _ (Same.refl _)⟩) fun H9 s9' h9 => ?_⟩
      refine ⟨D2, _, _, rfl, rfl, h9, by decide, by decide, by show 3 * 2 ≤ sizeLine; decide, fun q2' m2 => ?_⟩
      have w2 := same_new (o := .lst (List.replicate (2 : Int).toNat ((List.range (3 : Int).toNat).map fun i_1 : Nat => V.bl (decide (V.int (0 + (i_1 : Int)) = V.int (fam i : Nat))))).flatten) m2
      refine ⟨D, q2', _, _, rfl, rfl, w2 _ _ (s9' _ _ h8), upd_same, by show 43 ≤ sizeLine; decide, fun q3' m3 => ?_⟩
      have w3 := same_new (o := .lst (((List.range (37 : Int).toNat).map fun i_1 : Nat => V.bl (decide (V.int (0 + (i_1 : Int)) = V.int (i : Nat)))) ++ (List.replicate (2 : Int).toNat ((List.range (3 : Int).toNat).map fun i_1 : Nat => V.bl (decide (V.int (0 + (i_1 : Int)) = V.int (fam i : Nat))))).flatten)) m3
      have last := ((s8.trans s9').trans w2).trans w3
      refine ⟨_, _, .lst (SqL.of (last _ _ hT)) (dp_bools _), .lst (xs := (List.range 43).map fun j => V.bl (expB i j)) (SqL.of (by rw [upd_same]; exact congrArg (fun z => some (HO.lst z)) (truth_eq i hi))) (dp_bools _), truth_shaped i hi, truth_shaped i hi, _, rfl, ?_⟩
      refine ite_not (SeqAt.eqv_refl _ (SeqAt.canLay_of_shaped (truth_shaped i hi))) ?_
      exact ⟨_, _, _, rfl, (sm2.trans s7).trans last⟩
    · rintro σ H' ⟨v4, v5, v6, rfl, sm⟩
      refine ⟨_, rfl, l, _, rfl, .inl (SqL.of (sm _ _ hl5)), rfl, ?_⟩
      rw [List.length_map, len5]
      exact k _ (s9.trans sm)
end
end K19
set_option maxHeartbeats 8000000
namespace K19
open PySem PySem.Spec PyProof.Rows L2 GL
abbrev sRight : Stmt := tp 51
abbrev sLaw : Stmt := tp 52
abbrev nRight : List Str := ["_law_rng_here", "_law_a", "_law_b", "_law_c", "_law_kept", "_law_placed_here", "_law_other"]
def spRight (K : PySem.W.Frag) : Sp := fun vs H Q _ => ∃ p, vs = [.ref p] ∧ Rng H p ∧ ∀ H', (∀ b o, H b = some o → b ≠ p → H' b = some o) → Q (.bl true) H'
def spLaw (K : PySem.W.Frag) : Sp := fun vs H Q _ => ∃ (a : Addr) (ns : List Int), vs = [.ref a] ∧ SqL K H a (ns.map V.int) ∧ ns.length ≤ 63 ∧ ∀ H', Q (.bl true) H'
theorem three_small {da db dc : PyData} (ha : Small da) (hb : Small db) (hc : Small dc) : (PyData.list [da, db, dc]).showable = true ∧ (PyData.list [da, db, dc]).depth ≤ 40 ∧ (PyData.list [da, db, dc]).shown.length ≤ sizeLine := by
  have abc := shown_list (ds := [da, db, dc]) (n := 5) (m := 40) (by intro d hd; rcases List.mem_cons.mp hd with rfl | hd; exact ha; rcases List.mem_cons.mp hd with rfl | hd; exact hb; rcases List.mem_singleton.mp hd with rfl; exact hc)
  exact ⟨abc.1, Nat.le_trans abc.2.1 (by decide), Nat.le_trans abc.2.2 (by show 3 * 42 + 2 ≤ sizeLine; decide)⟩
section
variable {P : Program} {w : World} {K : PySem.W.Frag} {mg : Str → Option Value} {base : Heap}
theorem scRight : FnScope nRight ["_law_rng_here"] (defScope sRight) := ⟨rfl, rfl, rfl, by decide +kernel, rfl, by decide +kernel, by decide +kernel⟩
theorem ok_right {f fT fP fN fM : Addr} {fd fdT fdP fdN fdM : FuncData} (F : Fun K "_law_right" "_law_right" sRight f fd) (M : Free mg) (S : SysK K)
    (GT : FnOk P w K mg base CX0 3 fT fdT ["_law_rng_here"] (spThing K)) (kT : PySem.W.keepIn K (.ref fT) = true) (gT : mg "_law_thing" = some (.ref fT)) (bT : Binds K fdT ["_law_rng_here"] [])
    (GP : FnOk P w K mg base CX0 3 fP fdP ["_law_a", "_law_b", "_law_c"] (spMake K)) (kP : PySem.W.keepIn K (.ref fP) = true) (gP : mg "_law_placed" = some (.ref fP)) (bP : Binds K fdP ["_law_a", "_law_b", "_law_c"] [])
    (GN : FnOk P w K mg base CX0 3 fN fdN ["_law_a", "_law_b", "_law_c"] (spMake K)) (kN : PySem.W.keepIn K (.ref fN) = true) (gN : mg "_law_named" = some (.ref fN)) (bN : Binds K fdN ["_law_a", "_law_b", "_law_c"] [])
    (GM : FnG P w K mg base CX0 3 fM fdM ["_law_made", "_law_a", "_law_b", "_law_c"] (spMR K)) (kM : PySem.W.keepIn K (.ref fM) = true) (gM : mg "_law_made_right" = some (.ref fM)) (bM : Binds K fdM ["_law_made", "_law_a", "_law_b", "_law_c"] []) :
    FnG P w K mg base CX0 4 f fd ["_law_rng_here"] (spRight K) := by
  refine Fun.okG F scRight (fun vs H Q E h => ?_) (fun cdv A outer s H vs Q E gd hr h => ?_)
  · obtain ⟨p, rfl, _⟩ := h
    rfl
  · obtain ⟨p, rfl, R, k⟩ := h
    have hu := hr.units
    refine ⟨_, pss_cons (ps_par3 (i := 1) (j := 2) (l := 3) rfl scRight.nd rfl rfl rfl (by decide) (by decide) (by decide) rfl rfl rfl
        (pa_cons (pe_call GT hr rfl gT kT bT .nil pass0 (pa_cons (pv 0) pa_nil)) (pa_cons (pe_call GT hr rfl gT kT bT .nil pass0 (pa_cons (pv 0) pa_nil)) (pa_cons (pe_call GT hr rfl gT kT bT .nil pass0 (pa_cons (pv 0) pa_nil)) pa_nil))) (by rfl))
      (pss_cons (ps_par (i := 4) (j := 5) rfl scRight.nd rfl rfl (by decide) rfl rfl
        (pa_cons (pe_callB (call_reprD S gd hu) (by rfl) M.repr (by decide +kernel) (pa_cons (pe_lst (pa_cons (pv 1) (pa_cons (pv 2) (pa_cons (pv 3) pa_nil)))) pa_nil)) (pa_cons (pe_call GP hr rfl gP kP bP .nil pass0 (pa_cons (pv 1) (pa_cons (pv 2) (pa_cons (pv 3) pa_nil)))) pa_nil)) (by rfl))
      (pss_cons (ps_if (PW.pt (pw_or (pt_not (pt_val (pe_callG GM gd hr rfl gM kM bM .nil pass0 (pa_cons (pv 5) (pa_cons (pv 1) (pa_cons (pv 2) (pa_cons (pv 3) pa_nil)))))))
          (pw_or1 (pt_not (pt_val (pe_callG GM gd hr rfl gM kM bM .nil pass0 (pa_cons (pe_call GN hr rfl gN kN bN .nil pass0 (pa_cons (pv 1) (pa_cons (pv 2) (pa_cons (pv 3) pa_nil)))) (pa_cons (pv 1) (pa_cons (pv 2) (pa_cons (pv 3) pa_nil)))))))))) (pss_one (ps_ret pe_bl)) pss_nil)
      (pss_cons (ps_set (i := 6) scRight.nd rfl (Or.inl rfl) (pe_call GP hr rfl gP kP bP .nil pass0 (pa_cons (pv 3) (pa_cons (pv 1) (pa_cons (pv 2) pa_nil)))))
      (pss_one (ps_ret (pe_and (pe_callG GM gd hr rfl gM kM bM .nil pass0 (pa_cons (pv 6) (pa_cons (pv 3) (pa_cons (pv 1) (pa_cons (pv 2) pa_nil))))) (pe_and (pe_callG GM gd hr rfl gM kM bM .nil pass0 (pa_cons (pv 5) (pa_cons (pv 1) (pa_cons (pv 2) (pa_cons (pv 3) pa_nil)))))
        (pe_one (pe_cmpR op_eq (pe_callB (call_reprD S gd hu) (by rfl) M.repr (by decide +kernel) (pa_cons (pe_lst (pa_cons (pv 1) (pa_cons (pv 2) (pa_cons (pv 3) pa_nil)))) pa_nil)) (pv 4) (nomark _)))))))))), ?_⟩
    refine ⟨_, rfl, p, rfl, R, fun a da H1 k1 R1 qa ma => ?_⟩
    refine ⟨_, rfl, p, rfl, R1, fun b db H2 k2 R2 qb mb => ?_⟩
    refine ⟨_, rfl, p, rfl, R2, fun c dc H3 k3 R3 qc mc => ?_⟩
    have qa3 := (((qa.same (del_but k2)).same (del_but k3)).same del_le)
    have qb3 := ((qb.same (del_but k3)).same del_le)
    have qc3 := qc.same del_le
    have kk : ∀ x o, H x = some o → x ≠ p → H3 x = some o := fun x o e hx => k3 x o (k2 x o (k1 x o e hx) hx) hx
    obtain ⟨t1, t2, t3⟩ := three_small ma mb mc
    refine ⟨a, b, c, rfl, ?_⟩
    refine ⟨_, rfl, _, rfl, _, rfl, by show 3 ≤ sizeLine; decide, fun q1 n1 => ?_⟩
    have s4 := same_new (o := .lst [a, b, c]) n1
    have qa4 := qa3.same s4
    have qb4 := qb3.same s4
    have qc4 := qc3.same s4
    refine ⟨q1, .list [da, db, dc], rfl, .lst (SqL.of upd_same) (.cons qa4 (.cons qb4 (.cons qc4 .nil))), t1, t2, t3, ?_⟩
    refine ⟨_, rfl, _, rfl, _, rfl, a, b, c, rfl, fun p1 H5 xs1 s5 n5 h5 e5 => ⟨_, _, rfl, ?_⟩⟩
    have u5 := s4.trans s5
    refine ⟨_, rfl, _, rfl, _, rfl, _, rfl, p1, xs1, a, b, c, da, db, dc, rfl, h5, e5, qa3.same u5, qb3.same u5, qc3.same u5, ma, mb, mc, fun H6 s6 => ⟨true, rfl, ?_⟩⟩
    refine iteF ?_
    refine ⟨_, rfl, _, rfl, _, rfl, a, b, c, rfl, fun p2 H7 xs2 s7 n7 h7 e7 => ?_⟩
    have u7 := (u5.trans s6).trans s7
    refine ⟨_, rfl, _, rfl, _, rfl, p2, xs2, a, b, c, da, db, dc, rfl, h7, e7, qa3.same u7, qb3.same u7, qc3.same u7, ma, mb, mc, fun H8 s8 => ⟨true, rfl, ?_⟩⟩
    refine iteF ?_
    refine ⟨_, rfl, _, rfl, _, rfl, c, a, b, rfl, fun p3 H9 xs3 s9 n9 h9 e9 => ?_⟩
    have u9 := (u7.trans s8).trans s9
    refine ⟨_, rfl, _, rfl, _, rfl, _, rfl, p3, xs3, c, a, b, dc, da, db, rfl, h9, e9, qc3.same u9, qa3.same u9, qb3.same u9, mc, ma, mb, fun H10 s10 => ⟨true, rfl, ?_⟩⟩
    refine iteT ?_
    have v10 := (((s6.trans s7).trans s8).trans s9).trans s10
    have u10 := u9.trans s10
    refine ⟨_, rfl, _, rfl, _, rfl, _, rfl, p1, xs1, a, b, c, da, db, dc, rfl, v10 _ _ h5, e5.same v10, qa3.same u10, qb3.same u10, qc3.same u10, ma, mb, mc, fun H11 s11 => ⟨true, rfl, ?_⟩⟩
    refine iteT ?_
    refine ⟨_, rfl, _, rfl, _, rfl, by show 3 ≤ sizeLine; decide, fun q2 n2 => ?_⟩
    have s12 := same_new (o := .lst [a, b, c]) n2
    have u12 := (u10.trans s11).trans s12
    refine ⟨q2, .list [da, db, dc], rfl, .lst (SqL.of upd_same) (.cons (qa3.same u12) (.cons (qb3.same u12) (.cons (qc3.same u12) .nil))), t1, t2, t3, _, rfl, rfl, ?_⟩
    show Q (.bl (decide (V.str _ = V.str _))) _
    rw [decide_eq_true rfl]
    exact k _ fun x o e hx => u12 x o (kk x o e hx)
theorem scLaw : FnScope ["_law_script", "_law_k"] ["_law_script"] (defScope sLaw) := ⟨rfl, rfl, rfl, by decide +kernel, rfl, by decide +kernel, by decide +kernel⟩
theorem ok_law {f fR fG : Addr} {fd fdR fdG : FuncData} (F : Fun K "law" "law" sLaw f fd) (M : Free mg)
    (GG : FnOk P w K mg base CX0 1 fG fdG ["_law_script", "_law_spot"] (spRng K)) (kG : PySem.W.keepIn K (.ref fG) = true) (gG : mg "_law_rng" = some (.ref fG)) (bG : Binds K fdG ["_law_script", "_law_spot"] [])
    (GR : FnG P w K mg base CX0 4 fR fdR ["_law_rng_here"] (spRight K)) (kR : PySem.W.keepIn K (.ref fR) = true) (gR : mg "_law_right" = some (.ref fR)) (bR : Binds K fdR ["_law_rng_here"] []) :
    FnG P w K mg base CX0 5 f fd ["_law_script"] (spLaw K) := by
  refine Fun.okG F scLaw (fun vs H Q E h => ?_) (fun cdv A outer s H vs Q E gd hr h => ?_)
  · obtain ⟨a, ns, rfl, _⟩ := h
    rfl
  · obtain ⟨a, ns, rfl, hS, hn, k⟩ := h
    have hr1 : Room 1 _ := hr.mono (by decide)
    refine ⟨_, pss_one (ps_ret (pe_callB (cr_all rfl) (by rfl) M.all (by decide +kernel) (pa_cons (pe_lc (own := [("_law_k", 1)]) (g := gName 1) (tt := tYes) (te := tCall (spRight K) [] E0 (tCons (tCall (spRng K) [] E0 (tCons (tVar 0) (tCons (tVar 1) tNil))) tNil)) rfl scLaw.nd
      (pi_range1 (by rfl) M.range (pa_cons (pe_callB (call_max2 rfl) (by rfl) M.max (by decide +kernel) (pa_cons pe_int (pa_cons (pe_callB (call_min2 rfl) (by rfl) M.min (by decide +kernel) (pa_cons pe_int (pa_cons (pe_callB call_len_seq (by rfl) M.len PySem.boot_len (pa_cons (pv 0) pa_nil)) pa_nil))) pa_nil))) pa_nil))
      (blkOk_by (own := [("_law_k", 1)]) (N := ["_law_script", "_law_k"]) (sc := defScope sLaw) (by decide +kernel)) (fun _ _ _ _ _ => pg_name (i := 1) scLaw.nd rfl (Or.inl rfl)) (fun _ _ _ _ _ => pts_nil)
      (fun _ _ _ _ _ => by exact (pe_callG GR gd hr rfl gR kR bR .nil pass0 (pa_cons (pe_call GG hr1 rfl gG kG bG .nil pass0 (pa_cons (pv 0) (pa_cons (pv 1) pa_nil))) pa_nil)))) pa_nil))), ?_⟩
    refine ⟨_, rfl, _, _, rfl, .inl hS, ?_⟩
    rw [List.length_map]
    have bd : ∀ z : Int, 0 ≤ z → z ≤ 63 → 0 ≤ (if (if z < 4 then z else 4) > 1 then (if z < 4 then z else 4) else 1) ∧ (if (if z < 4 then z else 4) > 1 then (if z < 4 then z else 4) else 1) ≤ 4 := by
      intro z h0 h1
      split <;> split <;> omega
    have b := bd ns.length (by omega) (by omega)
    refine ⟨_, _, rfl, _, _, rfl, _, rfl, Int.le_trans (by decide) b.1, Int.lt_of_le_of_lt b.2 (by decide), fun D hD => ?_⟩
    generalize (if (if (ns.length : Int) < 4 then (ns.length : Int) else 4) > 1 then (if (ns.length : Int) < 4 then (ns.length : Int) else 4) else 1) = z at b ⊢
    refine lc_sameR (val := fun _ => .bl true) hD (by omega) (fun _ => rfl) ?_ ?_
    · intro i H' R hi sm q
      refine ⟨_, rfl, _, rfl, a, ns, _, rfl, sm.seq hS, by omega, by omega, fun p H2 np s2 hp => ?_⟩
      exact ⟨p, rfl, hp, fun H3 kp => q H3 fun x o e => kp x o (s2 _ _ e) (ne_of_none e np)⟩
    · intro H' sm hd
      refine ⟨D, (List.range z.toNat).map fun _ => true, rfl, SqL.of (by rw [hd, List.map_map]; rfl), ?_⟩
      have e : ((List.range z.toNat).map fun _ => true).all id = true := by simp
      rw [e]
      exact k _
end
end K19
set_option maxHeartbeats 0
namespace K19
open PySem PySem.Spec PyProof.Rows L2 GL
def ecB (K : PySem.W.Frag) (e : EC) : Bool := He.eqO (PySem.W.nsIn K mainGlobals e.name) (some (some (.ref (e.at K)))) && (xcB K (e.at K) e.base && ((e.flds.all fun f => He.eqO (PySem.W.findIn K (.ref (e.at K)) f) (some none)) &&
  (match e.flds with
  | [] => PySem.W.excIn K (e.at K) e.base.tail e.base.new
  | _ => He.eqO (PySem.W.findIn K (.ref (e.at K)) "__init__") (some (some (.ref (He.ma K (e.at K) "__init__")))) && decide (PySem.W.typeIn K (.ref (He.ma K (e.at K) "__init__")) = some (.type "function")))))
def kitB (K : PySem.W.Frag) : Bool := (List.range 37).all fun k => (List.range 43).all fun j => decide (PySem.W.kitOne K (.ref ((ec k).at K)) (cvU K j) = some (expB k j))
def moreB (K : PySem.W.Frag) : Bool := decide (PySem.W.specialIn K (.builtin "object.__class__") "__get__" = some (some (.builtin "getset_descriptor.__get__"))) && decide (PySem.W.takesIn K (.builtin "object.__class__") = some true)
def exB (K : PySem.W.Frag) : Bool := sysB K && ((ecs.all fun e => ecB K e) && (kitB K && moreB K))
def init (e : EC) (q : Str) : He.DefD := ⟨(e.name, some "__init__"), "__init__", q, defArgs e.st, defBody e.st, defScope e.st, [], []⟩
def plain (x : Str) (i : Nat) : He.DefD := ⟨(x, none), x, x, defArgs (tp i), defBody (tp i), defScope (tp i), [], []⟩
def fns : List He.DefD := [init c0 "InvalidNumber.__init__", init c1 "InvalidName.__init__", init c2 "InvalidCut.__init__", init c3 "InvalidStretch.__init__", init c4 "InvalidRange.__init__", init c5 "InvalidPlace.__init__", init c6 "InvalidPosition.__init__", init c7 "InvalidState.__init__", init c8 "InvalidCell.__init__", init c9 "InvalidCount.__init__", init c10 "InvalidSide.__init__", init c11 "InvalidPaper.__init__", init c12 "InvalidPrices.__init__", init c13 "InvalidProgram.__init__", init c14 "InvalidClaim.__init__", init c15 "InvalidCommand.__init__", init c16 "InvalidHistory.__init__", init c17 "InvalidStarts.__init__", init c18 "InvalidRows.__init__", init c19 "InvalidHand.__init__", init c20 "InvalidBad.__init__", init c21 "InvalidHeard.__init__", init c22 "InvalidLevels.__init__", init c23 "InvalidModes.__init__", init c24 "InvalidMove.__init__", init c25 "InvalidText.__init__", init c26 "OtherLetters.__init__", init c27 "InvalidRule.__init__", init c28 "InvalidRules.__init__", init c29 "TooMany.__init__", init c30 "UnknownMode.__init__", init c31 "UnknownLetter.__init__", init c32 "UnknownLevel.__init__", init c33 "UnknownName.__init__", init c34 "NameTaken.__init__",
  plain "_law_rng" 42, plain "_law_draw" 43, plain "_law_choice" 44, plain "_law_thing" 45, plain "_law_placed" 46, plain "_law_named" 47, plain "_law_fields" 48, plain "_law_truths" 49, plain "_law_made_right" 50, plain "_law_right" 51, plain "law" 52]
def fas : List He.Fa := [.glo "_law_rng", .glo "_law_draw", .glo "_law_choice", .glo "_law_thing", .glo "_law_placed", .glo "_law_named", .glo "_law_fields", .glo "_law_truths", .glo "_law_made_right", .glo "_law_right", .glo "law", .glo "FadeError", .glo "MissingError", .glo "StateError", .free "len", .free "abs", .free "max", .free "min", .free "int", .free "divmod", .free "range", .free "list", .free "repr", .free "all", .free "enumerate", .free "isinstance", .free "ValueError", .free "LookupError", .free "RuntimeError"]
abbrev MadeOk (P : Program) (w : World) (K : PySem.W.Frag) (mg : Str → Option Value) (base : Heap) (e : EC) : Prop := ∃ fI fd, PySem.W.findIn K (.ref (e.at K)) "__init__" = some (some (.ref fI)) ∧ PySem.W.typeIn K (.ref fI) = some (.type "function") ∧ FnOk P w K mg base CX0 1 fI fd ("self" :: e.flds) (spInit (e.at K) e.flds) ∧
    Binds K fd ("self" :: e.flds) [] ∧ ∀ (s : Shared) (z : Value) (us : List Value), us.length = e.flds.reverse.length → BindsTo s fd ⟨[z], e.flds.reverse.zip us⟩ ((("self" : Str) :: e.flds).zip (z :: us.reverse))
structure EF (K : PySem.W.Frag) (e : EC) : Prop where
  xc : XC K (e.at K) e.base
  no : ∀ f ∈ e.flds, PySem.W.findIn K (.ref (e.at K)) f = some none
  gl : PySem.W.nsIn K mainGlobals e.name = some (some (.ref (e.at K)))
  bare : e.flds = [] → PySem.W.excIn K (e.at K) e.base.tail e.base.new = true
  ini : e.flds ≠ [] → PySem.W.findIn K (.ref (e.at K)) "__init__" = some (some (.ref (He.ma K (e.at K) "__init__"))) ∧ PySem.W.typeIn K (.ref (He.ma K (e.at K) "__init__")) = some (.type "function")
theorem ecB_ok {K : PySem.W.Frag} {e : EC} (h : ecB K e = true) : EF K e := by
  obtain ⟨h1, h⟩ := He.ba h
  obtain ⟨h2, h⟩ := He.ba h
  obtain ⟨h3, h4⟩ := He.ba h
  refine ⟨xcB_ok h2, fun f hf => He.eqO_ok (List.all_eq_true.mp h3 f hf), He.eqO_ok h1, fun hf => ?_, fun hf => ?_⟩
  · rw [hf] at h4
    exact h4
  · cases q : e.flds with
    | nil => exact absurd q hf
    | cons a b =>
      rw [q] at h4
      obtain ⟨i, j⟩ := He.ba h4
      exact ⟨He.eqO_ok i, of_decide_eq_true j⟩
section
variable {P : Program} {w : World} {K : PySem.W.Frag} {mg : Str → Option Value} {base : Heap} {e : EC} {q f g h : Str} {fI : Addr} {fd : FuncData} {q1 q2 q3 q4 r1 r2 r3 r4 z1 z2 z3 z4 : Pos}
theorem kw_of (F : L2.Fun K "__init__" q e.st fI fd) (hh : ∀ (kV doc pm : Value) (an : Option Addr) (cdv ct : Value) (z : Value) (us : List Value), us.length = e.flds.reverse.length → bindArgs (PySem.W.fnOf "__init__" q (defArgs e.st) (defBody e.st) (defScope e.st) .none kV doc pm an cdv ct) ⟨[z], e.flds.reverse.zip us⟩ = pure ((("self" : Str) :: e.flds).zip (z :: us.reverse)))
    (s : Shared) (z : Value) (us : List Value) (hl : us.length = e.flds.reverse.length) : BindsTo s fd ⟨[z], e.flds.reverse.zip us⟩ ((("self" : Str) :: e.flds).zip (z :: us.reverse)) := by
  obtain ⟨oc, od, kV, doc, pm, an, cdv, ct, osl, rfl, lk, hcd⟩ := F.ex
  exact .of_eq (hh kV doc pm an cdv ct z us hl)
theorem made_all (c : ∀ e ∈ ecs, EF K e) (D : He.SaysD fas fns K) : ∀ e ∈ ecs, e.flds ≠ [] → MadeOk P w K mg base e := by
  intro e he hne
  simp only [ecs, List.mem_cons, List.not_mem_nil, or_false] at he
  rcases he with rfl | rfl | rfl | rfl | rfl | rfl | rfl | rfl | rfl | rfl | rfl | rfl | rfl | rfl | rfl | rfl | rfl | rfl | rfl | rfl | rfl | rfl | rfl | rfl | rfl | rfl | rfl | rfl | rfl | rfl | rfl | rfl | rfl | rfl | rfl | rfl | rfl
  · obtain ⟨fd, F⟩ := D.def_ 0 (d := init c0 "InvalidNumber.__init__") rfl
    have E := c c0 (List.mem_of_getElem? (i := 0) rfl)
    obtain ⟨i1, i2⟩ := E.ini hne
    have G := fun_of (st := c0.st) F
    exact ⟨_, fd, i1, i2, ok_init1 G E.xc (E.no _ (List.mem_of_getElem? (i := 0) rfl)) rfl ⟨rfl, rfl, rfl, by decide +kernel, rfl, by decide +kernel, by decide +kernel⟩ rfl rfl (by decide) (by decide), G.binds fun _ _ _ _ _ _ us hl => match us, hl with | [_, _], _ => rfl, kw_of G fun _ _ _ _ _ _ z us hl => match us, hl with | [_], _ => rfl⟩
  · obtain ⟨fd, F⟩ := D.def_ 1 (d := init c1 "InvalidName.__init__") rfl
    have E := c c1 (List.mem_of_getElem? (i := 1) rfl)
    obtain ⟨i1, i2⟩ := E.ini hne
    have G := fun_of (st := c1.st) F
    exact ⟨_, fd, i1, i2, ok_init1 G E.xc (E.no _ (List.mem_of_getElem? (i := 0) rfl)) rfl ⟨rfl, rfl, rfl, by decide +kernel, rfl, by decide +kernel, by decide +kernel⟩ rfl rfl (by decide) (by decide), G.binds fun _ _ _ _ _ _ us hl => match us, hl with | [_, _], _ => rfl, kw_of G fun _ _ _ _ _ _ z us hl => match us, hl with | [_], _ => rfl⟩
  · obtain ⟨fd, F⟩ := D.def_ 2 (d := init c2 "InvalidCut.__init__") rfl
    have E := c c2 (List.mem_of_getElem? (i := 2) rfl)
    obtain ⟨i1, i2⟩ := E.ini hne
    have G := fun_of (st := c2.st) F
    exact ⟨_, fd, i1, i2, ok_init1 G E.xc (E.no _ (List.mem_of_getElem? (i := 0) rfl)) rfl ⟨rfl, rfl, rfl, by decide +kernel, rfl, by decide +kernel, by decide +kernel⟩ rfl rfl (by decide) (by decide), G.binds fun _ _ _ _ _ _ us hl => match us, hl with | [_, _], _ => rfl, kw_of G fun _ _ _ _ _ _ z us hl => match us, hl with | [_], _ => rfl⟩
  · obtain ⟨fd, F⟩ := D.def_ 3 (d := init c3 "InvalidStretch.__init__") rfl
    have E := c c3 (List.mem_of_getElem? (i := 3) rfl)
    obtain ⟨i1, i2⟩ := E.ini hne
    have G := fun_of (st := c3.st) F
    exact ⟨_, fd, i1, i2, ok_init1 G E.xc (E.no _ (List.mem_of_getElem? (i := 0) rfl)) rfl ⟨rfl, rfl, rfl, by decide +kernel, rfl, by decide +kernel, by decide +kernel⟩ rfl rfl (by decide) (by decide), G.binds fun _ _ _ _ _ _ us hl => match us, hl with | [_, _], _ => rfl, kw_of G fun _ _ _ _ _ _ z us hl => match us, hl with | [_], _ => rfl⟩
  · obtain ⟨fd, F⟩ := D.def_ 4 (d := init c4 "InvalidRange.__init__") rfl
    have E := c c4 (List.mem_of_getElem? (i := 4) rfl)
    obtain ⟨i1, i2⟩ := E.ini hne
    have G := fun_of (st := c4.st) F
    exact ⟨_, fd, i1, i2, ok_init1 G E.xc (E.no _ (List.mem_of_getElem? (i := 0) rfl)) rfl ⟨rfl, rfl, rfl, by decide +kernel, rfl, by decide +kernel, by decide +kernel⟩ rfl rfl (by decide) (by decide), G.binds fun _ _ _ _ _ _ us hl => match us, hl with | [_, _], _ => rfl, kw_of G fun _ _ _ _ _ _ z us hl => match us, hl with | [_], _ => rfl⟩
  · obtain ⟨fd, F⟩ := D.def_ 5 (d := init c5 "InvalidPlace.__init__") rfl
    have E := c c5 (List.mem_of_getElem? (i := 5) rfl)
    obtain ⟨i1, i2⟩ := E.ini hne
    have G := fun_of (st := c5.st) F
    exact ⟨_, fd, i1, i2, ok_init1 G E.xc (E.no _ (List.mem_of_getElem? (i := 0) rfl)) rfl ⟨rfl, rfl, rfl, by decide +kernel, rfl, by decide +kernel, by decide +kernel⟩ rfl rfl (by decide) (by decide), G.binds fun _ _ _ _ _ _ us hl => match us, hl with | [_, _], _ => rfl, kw_of G fun _ _ _ _ _ _ z us hl => match us, hl with | [_], _ => rfl⟩
  · obtain ⟨fd, F⟩ := D.def_ 6 (d := init c6 "InvalidPosition.__init__") rfl
    have E := c c6 (List.mem_of_getElem? (i := 6) rfl)
    obtain ⟨i1, i2⟩ := E.ini hne
    have G := fun_of (st := c6.st) F
    exact ⟨_, fd, i1, i2, ok_init1 G E.xc (E.no _ (List.mem_of_getElem? (i := 0) rfl)) rfl ⟨rfl, rfl, rfl, by decide +kernel, rfl, by decide +kernel, by decide +kernel⟩ rfl rfl (by decide) (by decide), G.binds fun _ _ _ _ _ _ us hl => match us, hl with | [_, _], _ => rfl, kw_of G fun _ _ _ _ _ _ z us hl => match us, hl with | [_], _ => rfl⟩
  · obtain ⟨fd, F⟩ := D.def_ 7 (d := init c7 "InvalidState.__init__") rfl
    have E := c c7 (List.mem_of_getElem? (i := 7) rfl)
    obtain ⟨i1, i2⟩ := E.ini hne
    have G := fun_of (st := c7.st) F
    exact ⟨_, fd, i1, i2, ok_init1 G E.xc (E.no _ (List.mem_of_getElem? (i := 0) rfl)) rfl ⟨rfl, rfl, rfl, by decide +kernel, rfl, by decide +kernel, by decide +kernel⟩ rfl rfl (by decide) (by decide), G.binds fun _ _ _ _ _ _ us hl => match us, hl with | [_, _], _ => rfl, kw_of G fun _ _ _ _ _ _ z us hl => match us, hl with | [_], _ => rfl⟩
  · obtain ⟨fd, F⟩ := D.def_ 8 (d := init c8 "InvalidCell.__init__") rfl
    have E := c c8 (List.mem_of_getElem? (i := 8) rfl)
    obtain ⟨i1, i2⟩ := E.ini hne
    have G := fun_of (st := c8.st) F
    exact ⟨_, fd, i1, i2, ok_init1 G E.xc (E.no _ (List.mem_of_getElem? (i := 0) rfl)) rfl ⟨rfl, rfl, rfl, by decide +kernel, rfl, by decide +kernel, by decide +kernel⟩ rfl rfl (by decide) (by decide), G.binds fun _ _ _ _ _ _ us hl => match us, hl with | [_, _], _ => rfl, kw_of G fun _ _ _ _ _ _ z us hl => match us, hl with | [_], _ => rfl⟩
  · obtain ⟨fd, F⟩ := D.def_ 9 (d := init c9 "InvalidCount.__init__") rfl
    have E := c c9 (List.mem_of_getElem? (i := 9) rfl)
    obtain ⟨i1, i2⟩ := E.ini hne
    have G := fun_of (st := c9.st) F
    exact ⟨_, fd, i1, i2, ok_init1 G E.xc (E.no _ (List.mem_of_getElem? (i := 0) rfl)) rfl ⟨rfl, rfl, rfl, by decide +kernel, rfl, by decide +kernel, by decide +kernel⟩ rfl rfl (by decide) (by decide), G.binds fun _ _ _ _ _ _ us hl => match us, hl with | [_, _], _ => rfl, kw_of G fun _ _ _ _ _ _ z us hl => match us, hl with | [_], _ => rfl⟩
  · obtain ⟨fd, F⟩ := D.def_ 10 (d := init c10 "InvalidSide.__init__") rfl
    have E := c c10 (List.mem_of_getElem? (i := 10) rfl)
    obtain ⟨i1, i2⟩ := E.ini hne
    have G := fun_of (st := c10.st) F
    exact ⟨_, fd, i1, i2, ok_init1 G E.xc (E.no _ (List.mem_of_getElem? (i := 0) rfl)) rfl ⟨rfl, rfl, rfl, by decide +kernel, rfl, by decide +kernel, by decide +kernel⟩ rfl rfl (by decide) (by decide), G.binds fun _ _ _ _ _ _ us hl => match us, hl with | [_, _], _ => rfl, kw_of G fun _ _ _ _ _ _ z us hl => match us, hl with | [_], _ => rfl⟩
  · obtain ⟨fd, F⟩ := D.def_ 11 (d := init c11 "InvalidPaper.__init__") rfl
    have E := c c11 (List.mem_of_getElem? (i := 11) rfl)
    obtain ⟨i1, i2⟩ := E.ini hne
    have G := fun_of (st := c11.st) F
    exact ⟨_, fd, i1, i2, ok_init1 G E.xc (E.no _ (List.mem_of_getElem? (i := 0) rfl)) rfl ⟨rfl, rfl, rfl, by decide +kernel, rfl, by decide +kernel, by decide +kernel⟩ rfl rfl (by decide) (by decide), G.binds fun _ _ _ _ _ _ us hl => match us, hl with | [_, _], _ => rfl, kw_of G fun _ _ _ _ _ _ z us hl => match us, hl with | [_], _ => rfl⟩
  · obtain ⟨fd, F⟩ := D.def_ 12 (d := init c12 "InvalidPrices.__init__") rfl
    have E := c c12 (List.mem_of_getElem? (i := 12) rfl)
    obtain ⟨i1, i2⟩ := E.ini hne
    have G := fun_of (st := c12.st) F
    exact ⟨_, fd, i1, i2, ok_init1 G E.xc (E.no _ (List.mem_of_getElem? (i := 0) rfl)) rfl ⟨rfl, rfl, rfl, by decide +kernel, rfl, by decide +kernel, by decide +kernel⟩ rfl rfl (by decide) (by decide), G.binds fun _ _ _ _ _ _ us hl => match us, hl with | [_, _], _ => rfl, kw_of G fun _ _ _ _ _ _ z us hl => match us, hl with | [_], _ => rfl⟩
  · obtain ⟨fd, F⟩ := D.def_ 13 (d := init c13 "InvalidProgram.__init__") rfl
    have E := c c13 (List.mem_of_getElem? (i := 13) rfl)
    obtain ⟨i1, i2⟩ := E.ini hne
    have G := fun_of (st := c13.st) F
    exact ⟨_, fd, i1, i2, ok_init1 G E.xc (E.no _ (List.mem_of_getElem? (i := 0) rfl)) rfl ⟨rfl, rfl, rfl, by decide +kernel, rfl, by decide +kernel, by decide +kernel⟩ rfl rfl (by decide) (by decide), G.binds fun _ _ _ _ _ _ us hl => match us, hl with | [_, _], _ => rfl, kw_of G fun _ _ _ _ _ _ z us hl => match us, hl with | [_], _ => rfl⟩
  · obtain ⟨fd, F⟩ := D.def_ 14 (d := init c14 "InvalidClaim.__init__") rfl
    have E := c c14 (List.mem_of_getElem? (i := 14) rfl)
    obtain ⟨i1, i2⟩ := E.ini hne
    have G := fun_of (st := c14.st) F
    exact ⟨_, fd, i1, i2, ok_init1 G E.xc (E.no _ (List.mem_of_getElem? (i := 0) rfl)) rfl ⟨rfl, rfl, rfl, by decide +kernel, rfl, by decide +kernel, by decide +kernel⟩ rfl rfl (by decide) (by decide), G.binds fun _ _ _ _ _ _ us hl => match us, hl with | [_, _], _ => rfl, kw_of G fun _ _ _ _ _ _ z us hl => match us, hl with | [_], _ => rfl⟩
  · obtain ⟨fd, F⟩ := D.def_ 15 (d := init c15 "InvalidCommand.__init__") rfl
    have E := c c15 (List.mem_of_getElem? (i := 15) rfl)
    obtain ⟨i1, i2⟩ := E.ini hne
    have G := fun_of (st := c15.st) F
    exact ⟨_, fd, i1, i2, ok_init1 G E.xc (E.no _ (List.mem_of_getElem? (i := 0) rfl)) rfl ⟨rfl, rfl, rfl, by decide +kernel, rfl, by decide +kernel, by decide +kernel⟩ rfl rfl (by decide) (by decide), G.binds fun _ _ _ _ _ _ us hl => match us, hl with | [_, _], _ => rfl, kw_of G fun _ _ _ _ _ _ z us hl => match us, hl with | [_], _ => rfl⟩
  · obtain ⟨fd, F⟩ := D.def_ 16 (d := init c16 "InvalidHistory.__init__") rfl
    have E := c c16 (List.mem_of_getElem? (i := 16) rfl)
    obtain ⟨i1, i2⟩ := E.ini hne
    have G := fun_of (st := c16.st) F
    exact ⟨_, fd, i1, i2, ok_init1 G E.xc (E.no _ (List.mem_of_getElem? (i := 0) rfl)) rfl ⟨rfl, rfl, rfl, by decide +kernel, rfl, by decide +kernel, by decide +kernel⟩ rfl rfl (by decide) (by decide), G.binds fun _ _ _ _ _ _ us hl => match us, hl with | [_, _], _ => rfl, kw_of G fun _ _ _ _ _ _ z us hl => match us, hl with | [_], _ => rfl⟩
  · obtain ⟨fd, F⟩ := D.def_ 17 (d := init c17 "InvalidStarts.__init__") rfl
    have E := c c17 (List.mem_of_getElem? (i := 17) rfl)
    obtain ⟨i1, i2⟩ := E.ini hne
    have G := fun_of (st := c17.st) F
    exact ⟨_, fd, i1, i2, ok_init1 G E.xc (E.no _ (List.mem_of_getElem? (i := 0) rfl)) rfl ⟨rfl, rfl, rfl, by decide +kernel, rfl, by decide +kernel, by decide +kernel⟩ rfl rfl (by decide) (by decide), G.binds fun _ _ _ _ _ _ us hl => match us, hl with | [_, _], _ => rfl, kw_of G fun _ _ _ _ _ _ z us hl => match us, hl with | [_], _ => rfl⟩
  · obtain ⟨fd, F⟩ := D.def_ 18 (d := init c18 "InvalidRows.__init__") rfl
    have E := c c18 (List.mem_of_getElem? (i := 18) rfl)
    obtain ⟨i1, i2⟩ := E.ini hne
    have G := fun_of (st := c18.st) F
    exact ⟨_, fd, i1, i2, ok_init1 G E.xc (E.no _ (List.mem_of_getElem? (i := 0) rfl)) rfl ⟨rfl, rfl, rfl, by decide +kernel, rfl, by decide +kernel, by decide +kernel⟩ rfl rfl (by decide) (by decide), G.binds fun _ _ _ _ _ _ us hl => match us, hl with | [_, _], _ => rfl, kw_of G fun _ _ _ _ _ _ z us hl => match us, hl with | [_], _ => rfl⟩
  · obtain ⟨fd, F⟩ := D.def_ 19 (d := init c19 "InvalidHand.__init__") rfl
    have E := c c19 (List.mem_of_getElem? (i := 19) rfl)
    obtain ⟨i1, i2⟩ := E.ini hne
    have G := fun_of (st := c19.st) F
    exact ⟨_, fd, i1, i2, ok_init1 G E.xc (E.no _ (List.mem_of_getElem? (i := 0) rfl)) rfl ⟨rfl, rfl, rfl, by decide +kernel, rfl, by decide +kernel, by decide +kernel⟩ rfl rfl (by decide) (by decide), G.binds fun _ _ _ _ _ _ us hl => match us, hl with | [_, _], _ => rfl, kw_of G fun _ _ _ _ _ _ z us hl => match us, hl with | [_], _ => rfl⟩
  · obtain ⟨fd, F⟩ := D.def_ 20 (d := init c20 "InvalidBad.__init__") rfl
    have E := c c20 (List.mem_of_getElem? (i := 20) rfl)
    obtain ⟨i1, i2⟩ := E.ini hne
    have G := fun_of (st := c20.st) F
    exact ⟨_, fd, i1, i2, ok_init1 G E.xc (E.no _ (List.mem_of_getElem? (i := 0) rfl)) rfl ⟨rfl, rfl, rfl, by decide +kernel, rfl, by decide +kernel, by decide +kernel⟩ rfl rfl (by decide) (by decide), G.binds fun _ _ _ _ _ _ us hl => match us, hl with | [_, _], _ => rfl, kw_of G fun _ _ _ _ _ _ z us hl => match us, hl with | [_], _ => rfl⟩
  · obtain ⟨fd, F⟩ := D.def_ 21 (d := init c21 "InvalidHeard.__init__") rfl
    have E := c c21 (List.mem_of_getElem? (i := 21) rfl)
    obtain ⟨i1, i2⟩ := E.ini hne
    have G := fun_of (st := c21.st) F
    exact ⟨_, fd, i1, i2, ok_init1 G E.xc (E.no _ (List.mem_of_getElem? (i := 0) rfl)) rfl ⟨rfl, rfl, rfl, by decide +kernel, rfl, by decide +kernel, by decide +kernel⟩ rfl rfl (by decide) (by decide), G.binds fun _ _ _ _ _ _ us hl => match us, hl with | [_, _], _ => rfl, kw_of G fun _ _ _ _ _ _ z us hl => match us, hl with | [_], _ => rfl⟩
  · obtain ⟨fd, F⟩ := D.def_ 22 (d := init c22 "InvalidLevels.__init__") rfl
    have E := c c22 (List.mem_of_getElem? (i := 22) rfl)
    obtain ⟨i1, i2⟩ := E.ini hne
    have G := fun_of (st := c22.st) F
    exact ⟨_, fd, i1, i2, ok_init1 G E.xc (E.no _ (List.mem_of_getElem? (i := 0) rfl)) rfl ⟨rfl, rfl, rfl, by decide +kernel, rfl, by decide +kernel, by decide +kernel⟩ rfl rfl (by decide) (by decide), G.binds fun _ _ _ _ _ _ us hl => match us, hl with | [_, _], _ => rfl, kw_of G fun _ _ _ _ _ _ z us hl => match us, hl with | [_], _ => rfl⟩
  · obtain ⟨fd, F⟩ := D.def_ 23 (d := init c23 "InvalidModes.__init__") rfl
    have E := c c23 (List.mem_of_getElem? (i := 23) rfl)
    obtain ⟨i1, i2⟩ := E.ini hne
    have G := fun_of (st := c23.st) F
    exact ⟨_, fd, i1, i2, ok_init1 G E.xc (E.no _ (List.mem_of_getElem? (i := 0) rfl)) rfl ⟨rfl, rfl, rfl, by decide +kernel, rfl, by decide +kernel, by decide +kernel⟩ rfl rfl (by decide) (by decide), G.binds fun _ _ _ _ _ _ us hl => match us, hl with | [_, _], _ => rfl, kw_of G fun _ _ _ _ _ _ z us hl => match us, hl with | [_], _ => rfl⟩
  · obtain ⟨fd, F⟩ := D.def_ 24 (d := init c24 "InvalidMove.__init__") rfl
    have E := c c24 (List.mem_of_getElem? (i := 24) rfl)
    obtain ⟨i1, i2⟩ := E.ini hne
    have G := fun_of (st := c24.st) F
    exact ⟨_, fd, i1, i2, ok_init1 G E.xc (E.no _ (List.mem_of_getElem? (i := 0) rfl)) rfl ⟨rfl, rfl, rfl, by decide +kernel, rfl, by decide +kernel, by decide +kernel⟩ rfl rfl (by decide) (by decide), G.binds fun _ _ _ _ _ _ us hl => match us, hl with | [_, _], _ => rfl, kw_of G fun _ _ _ _ _ _ z us hl => match us, hl with | [_], _ => rfl⟩
  · obtain ⟨fd, F⟩ := D.def_ 25 (d := init c25 "InvalidText.__init__") rfl
    have E := c c25 (List.mem_of_getElem? (i := 25) rfl)
    obtain ⟨i1, i2⟩ := E.ini hne
    have G := fun_of (st := c25.st) F
    exact ⟨_, fd, i1, i2, ok_init1 G E.xc (E.no _ (List.mem_of_getElem? (i := 0) rfl)) rfl ⟨rfl, rfl, rfl, by decide +kernel, rfl, by decide +kernel, by decide +kernel⟩ rfl rfl (by decide) (by decide), G.binds fun _ _ _ _ _ _ us hl => match us, hl with | [_, _], _ => rfl, kw_of G fun _ _ _ _ _ _ z us hl => match us, hl with | [_], _ => rfl⟩
  · obtain ⟨fd, F⟩ := D.def_ 26 (d := init c26 "OtherLetters.__init__") rfl
    have E := c c26 (List.mem_of_getElem? (i := 26) rfl)
    obtain ⟨i1, i2⟩ := E.ini hne
    have G := fun_of (st := c26.st) F
    exact ⟨_, fd, i1, i2, ok_init1 G E.xc (E.no _ (List.mem_of_getElem? (i := 0) rfl)) rfl ⟨rfl, rfl, rfl, by decide +kernel, rfl, by decide +kernel, by decide +kernel⟩ rfl rfl (by decide) (by decide), G.binds fun _ _ _ _ _ _ us hl => match us, hl with | [_, _], _ => rfl, kw_of G fun _ _ _ _ _ _ z us hl => match us, hl with | [_], _ => rfl⟩
  · obtain ⟨fd, F⟩ := D.def_ 27 (d := init c27 "InvalidRule.__init__") rfl
    have E := c c27 (List.mem_of_getElem? (i := 27) rfl)
    obtain ⟨i1, i2⟩ := E.ini hne
    have G := fun_of (st := c27.st) F
    exact ⟨_, fd, i1, i2, ok_init2 G E.xc (E.no _ (List.mem_of_getElem? (i := 0) rfl)) (E.no _ (List.mem_of_getElem? (i := 1) rfl)) rfl ⟨rfl, rfl, rfl, by decide +kernel, rfl, by decide +kernel, by decide +kernel⟩ rfl rfl rfl (by decide) (by decide) (by decide) (by decide), G.binds fun _ _ _ _ _ _ us hl => match us, hl with | [_, _, _], _ => rfl, kw_of G fun _ _ _ _ _ _ z us hl => match us, hl with | [_, _], _ => rfl⟩
  · obtain ⟨fd, F⟩ := D.def_ 28 (d := init c28 "InvalidRules.__init__") rfl
    have E := c c28 (List.mem_of_getElem? (i := 28) rfl)
    obtain ⟨i1, i2⟩ := E.ini hne
    have G := fun_of (st := c28.st) F
    exact ⟨_, fd, i1, i2, ok_init3 G E.xc (E.no _ (List.mem_of_getElem? (i := 0) rfl)) (E.no _ (List.mem_of_getElem? (i := 1) rfl)) (E.no _ (List.mem_of_getElem? (i := 2) rfl)) rfl ⟨rfl, rfl, rfl, by decide +kernel, rfl, by decide +kernel, by decide +kernel⟩ rfl rfl rfl rfl (by decide) (by decide) (by decide) (by decide) (by decide) (by decide), G.binds fun _ _ _ _ _ _ us hl => match us, hl with | [_, _, _, _], _ => rfl, kw_of G fun _ _ _ _ _ _ z us hl => match us, hl with | [_, _, _], _ => rfl⟩
  · obtain ⟨fd, F⟩ := D.def_ 29 (d := init c29 "TooMany.__init__") rfl
    have E := c c29 (List.mem_of_getElem? (i := 29) rfl)
    obtain ⟨i1, i2⟩ := E.ini hne
    have G := fun_of (st := c29.st) F
    exact ⟨_, fd, i1, i2, ok_init2 G E.xc (E.no _ (List.mem_of_getElem? (i := 0) rfl)) (E.no _ (List.mem_of_getElem? (i := 1) rfl)) rfl ⟨rfl, rfl, rfl, by decide +kernel, rfl, by decide +kernel, by decide +kernel⟩ rfl rfl rfl (by decide) (by decide) (by decide) (by decide), G.binds fun _ _ _ _ _ _ us hl => match us, hl with | [_, _, _], _ => rfl, kw_of G fun _ _ _ _ _ _ z us hl => match us, hl with | [_, _], _ => rfl⟩
  · obtain ⟨fd, F⟩ := D.def_ 30 (d := init c30 "UnknownMode.__init__") rfl
    have E := c c30 (List.mem_of_getElem? (i := 30) rfl)
    obtain ⟨i1, i2⟩ := E.ini hne
    have G := fun_of (st := c30.st) F
    exact ⟨_, fd, i1, i2, ok_init1 G E.xc (E.no _ (List.mem_of_getElem? (i := 0) rfl)) rfl ⟨rfl, rfl, rfl, by decide +kernel, rfl, by decide +kernel, by decide +kernel⟩ rfl rfl (by decide) (by decide), G.binds fun _ _ _ _ _ _ us hl => match us, hl with | [_, _], _ => rfl, kw_of G fun _ _ _ _ _ _ z us hl => match us, hl with | [_], _ => rfl⟩
  · obtain ⟨fd, F⟩ := D.def_ 31 (d := init c31 "UnknownLetter.__init__") rfl
    have E := c c31 (List.mem_of_getElem? (i := 31) rfl)
    obtain ⟨i1, i2⟩ := E.ini hne
    have G := fun_of (st := c31.st) F
    exact ⟨_, fd, i1, i2, ok_init1 G E.xc (E.no _ (List.mem_of_getElem? (i := 0) rfl)) rfl ⟨rfl, rfl, rfl, by decide +kernel, rfl, by decide +kernel, by decide +kernel⟩ rfl rfl (by decide) (by decide), G.binds fun _ _ _ _ _ _ us hl => match us, hl with | [_, _], _ => rfl, kw_of G fun _ _ _ _ _ _ z us hl => match us, hl with | [_], _ => rfl⟩
  · obtain ⟨fd, F⟩ := D.def_ 32 (d := init c32 "UnknownLevel.__init__") rfl
    have E := c c32 (List.mem_of_getElem? (i := 32) rfl)
    obtain ⟨i1, i2⟩ := E.ini hne
    have G := fun_of (st := c32.st) F
    exact ⟨_, fd, i1, i2, ok_init1 G E.xc (E.no _ (List.mem_of_getElem? (i := 0) rfl)) rfl ⟨rfl, rfl, rfl, by decide +kernel, rfl, by decide +kernel, by decide +kernel⟩ rfl rfl (by decide) (by decide), G.binds fun _ _ _ _ _ _ us hl => match us, hl with | [_, _], _ => rfl, kw_of G fun _ _ _ _ _ _ z us hl => match us, hl with | [_], _ => rfl⟩
  · obtain ⟨fd, F⟩ := D.def_ 33 (d := init c33 "UnknownName.__init__") rfl
    have E := c c33 (List.mem_of_getElem? (i := 33) rfl)
    obtain ⟨i1, i2⟩ := E.ini hne
    have G := fun_of (st := c33.st) F
    exact ⟨_, fd, i1, i2, ok_init1 G E.xc (E.no _ (List.mem_of_getElem? (i := 0) rfl)) rfl ⟨rfl, rfl, rfl, by decide +kernel, rfl, by decide +kernel, by decide +kernel⟩ rfl rfl (by decide) (by decide), G.binds fun _ _ _ _ _ _ us hl => match us, hl with | [_, _], _ => rfl, kw_of G fun _ _ _ _ _ _ z us hl => match us, hl with | [_], _ => rfl⟩
  · obtain ⟨fd, F⟩ := D.def_ 34 (d := init c34 "NameTaken.__init__") rfl
    have E := c c34 (List.mem_of_getElem? (i := 34) rfl)
    obtain ⟨i1, i2⟩ := E.ini hne
    have G := fun_of (st := c34.st) F
    exact ⟨_, fd, i1, i2, ok_init1 G E.xc (E.no _ (List.mem_of_getElem? (i := 0) rfl)) rfl ⟨rfl, rfl, rfl, by decide +kernel, rfl, by decide +kernel, by decide +kernel⟩ rfl rfl (by decide) (by decide), G.binds fun _ _ _ _ _ _ us hl => match us, hl with | [_, _], _ => rfl, kw_of G fun _ _ _ _ _ _ z us hl => match us, hl with | [_], _ => rfl⟩
  · exact absurd rfl hne
  · exact absurd rfl hne
end
theorem facts {P : Program} {w : World} {K : PySem.W.Frag} {h : Heap} {mg : Str → Option Value} {f : Addr} (X : K.In h) (G : h.Ns mainGlobals mg) (hfa : mg ("law" : Str) = some (.ref f)) (D : He.SaysD fas fns K) (B : exB K = true) :
    ∃ fd : FuncData, (∀ (s : Shared) (v : Value), BindsTo s fd ⟨[v], []⟩ [("_law_script", v)]) ∧ ∀ base : Heap, K.In base → base.Ns mainGlobals mg → FnG P w K mg base CX0 5 f fd ["_law_script"] (spLaw K) := by
  obtain ⟨b1, b⟩ := He.ba B
  obtain ⟨b2, b⟩ := He.ba b
  obtain ⟨b3, b4⟩ := He.ba b
  obtain ⟨b5, b6⟩ := He.ba b4
  have ef : ∀ e ∈ ecs, EF K e := fun e he => ecB_ok (List.all_eq_true.mp b2 e he)
  have S := sysB_ok b1
  have n0 := He.free_ok X G (D.fact 14 (f := .free "len") rfl)
  have n1 := He.free_ok X G (D.fact 15 (f := .free "abs") rfl)
  have n2 := He.free_ok X G (D.fact 16 (f := .free "max") rfl)
  have n3 := He.free_ok X G (D.fact 17 (f := .free "min") rfl)
  have n4 := He.free_ok X G (D.fact 18 (f := .free "int") rfl)
  have n5 := He.free_ok X G (D.fact 19 (f := .free "divmod") rfl)
  have n6 := He.free_ok X G (D.fact 20 (f := .free "range") rfl)
  have n7 := He.free_ok X G (D.fact 21 (f := .free "list") rfl)
  have n8 := He.free_ok X G (D.fact 22 (f := .free "repr") rfl)
  have n9 := He.free_ok X G (D.fact 23 (f := .free "all") rfl)
  have n10 := He.free_ok X G (D.fact 24 (f := .free "enumerate") rfl)
  have n11 := He.free_ok X G (D.fact 25 (f := .free "isinstance") rfl)
  have n12 := He.free_ok X G (D.fact 26 (f := .free "ValueError") rfl)
  have n13 := He.free_ok X G (D.fact 27 (f := .free "LookupError") rfl)
  have n14 := He.free_ok X G (D.fact 28 (f := .free "RuntimeError") rfl)
  have M : Free mg := ⟨n0, n1, n2, n3, n4, n5, n6, n7, n8, n9, n10, n11, n12, n13, n14⟩
  have W : WTab K mg := ⟨of_decide_eq_true b5, of_decide_eq_true b6, He.glo_ok X G (D.fact 11 (f := .glo "FadeError") rfl), He.glo_ok X G (D.fact 12 (f := .glo "MissingError") rfl), He.glo_ok X G (D.fact 13 (f := .glo "StateError") rfl),
    fun k hk j hj => of_decide_eq_true (List.all_eq_true.mp (List.all_eq_true.mp b3 k (List.mem_range.mpr hk)) j (List.mem_range.mpr hj))⟩
  obtain ⟨fd0, D0⟩ := D.def_ 35 (d := plain "_law_rng" 42) rfl
  have F0 := fun_of (st := tp 42) D0
  have g0 := He.glo_ok X G (D.fact 0 (f := .glo "_law_rng") rfl)
  obtain ⟨fd1, D1⟩ := D.def_ 36 (d := plain "_law_draw" 43) rfl
  have F1 := fun_of (st := tp 43) D1
  have g1 := He.glo_ok X G (D.fact 1 (f := .glo "_law_draw") rfl)
  obtain ⟨fd2, D2⟩ := D.def_ 37 (d := plain "_law_choice" 44) rfl
  have F2 := fun_of (st := tp 44) D2
  have g2 := He.glo_ok X G (D.fact 2 (f := .glo "_law_choice") rfl)
  obtain ⟨fd3, D3⟩ := D.def_ 38 (d := plain "_law_thing" 45) rfl
  have F3 := fun_of (st := tp 45) D3
  have g3 := He.glo_ok X G (D.fact 3 (f := .glo "_law_thing") rfl)
  obtain ⟨fd4, D4⟩ := D.def_ 39 (d := plain "_law_placed" 46) rfl
  have F4 := fun_of (st := tp 46) D4
  have g4 := He.glo_ok X G (D.fact 4 (f := .glo "_law_placed") rfl)
  obtain ⟨fd5, D5⟩ := D.def_ 40 (d := plain "_law_named" 47) rfl
  have F5 := fun_of (st := tp 47) D5
  have g5 := He.glo_ok X G (D.fact 5 (f := .glo "_law_named") rfl)
  obtain ⟨fd6, D6⟩ := D.def_ 41 (d := plain "_law_fields" 48) rfl
  have F6 := fun_of (st := tp 48) D6
  have g6 := He.glo_ok X G (D.fact 6 (f := .glo "_law_fields") rfl)
  obtain ⟨fd7, D7⟩ := D.def_ 42 (d := plain "_law_truths" 49) rfl
  have F7 := fun_of (st := tp 49) D7
  have g7 := He.glo_ok X G (D.fact 7 (f := .glo "_law_truths") rfl)
  obtain ⟨fd8, D8⟩ := D.def_ 43 (d := plain "_law_made_right" 50) rfl
  have F8 := fun_of (st := tp 50) D8
  have g8 := He.glo_ok X G (D.fact 8 (f := .glo "_law_made_right") rfl)
  obtain ⟨fd9, D9⟩ := D.def_ 44 (d := plain "_law_right" 51) rfl
  have F9 := fun_of (st := tp 51) D9
  have g9 := He.glo_ok X G (D.fact 9 (f := .glo "_law_right") rfl)
  obtain ⟨fd10, D10⟩ := D.def_ 45 (d := plain "law" 52) rfl
  have F10 := fun_of (st := tp 52) D10
  have g10 := He.glo_ok X G (D.fact 10 (f := .glo "law") rfl)
  have b_0 := F0.binds (ps := ["_law_script", "_law_spot"]) fun _ _ _ _ _ _ us hl => match us, hl with | [_, _], _ => rfl
  have b_1 := F1.binds (ps := ["_law_rng_here", "_law_many"]) fun _ _ _ _ _ _ us hl => match us, hl with | [_, _], _ => rfl
  have b_2 := F2.binds (ps := ["_law_rng_here", "_law_some"]) fun _ _ _ _ _ _ us hl => match us, hl with | [_, _], _ => rfl
  have b_3 := F3.binds (ps := ["_law_rng_here"]) fun _ _ _ _ _ _ us hl => match us, hl with | [_], _ => rfl
  have b_4 := F4.binds (ps := ["_law_a", "_law_b", "_law_c"]) fun _ _ _ _ _ _ us hl => match us, hl with | [_, _, _], _ => rfl
  have b_5 := F5.binds (ps := ["_law_a", "_law_b", "_law_c"]) fun _ _ _ _ _ _ us hl => match us, hl with | [_, _, _], _ => rfl
  have b_6 := F6.binds (ps := ["_law_made"]) fun _ _ _ _ _ _ us hl => match us, hl with | [_], _ => rfl
  have b_7 := F7.binds (ps := ["_law_made"]) fun _ _ _ _ _ _ us hl => match us, hl with | [_], _ => rfl
  have b_8 := F8.binds (ps := ["_law_made", "_law_a", "_law_b", "_law_c"]) fun _ _ _ _ _ _ us hl => match us, hl with | [_, _, _, _], _ => rfl
  have b_9 := F9.binds (ps := ["_law_rng_here"]) fun _ _ _ _ _ _ us hl => match us, hl with | [_], _ => rfl
  have e := hfa.symm.trans g10
  cases e
  have bL := F10.binds (ps := ["_law_script"]) fun _ _ _ _ _ _ us hl => match us, hl with | [_], _ => rfl
  refine ⟨fd10, fun s v => ?_, fun base _ _ => ?_⟩
  · obtain ⟨oc, od, kV, doc, pm, an, cdv, ct, osl, e, lk, hcd⟩ := F10.ex
    rw [e]
    exact .of_eq rfl
  · have T : ETab P w K mg base := ⟨fun e he => (ef e he).xc, fun e he => (ef e he).no, fun e he => PySem.W.mg_of X G (ef e he).gl, fun e he => (ef e he).bare, made_all ef D⟩
    have GT : FnOk P w K mg base CX0 3 _ fd3 _ _ := ok_thing F3 M F2 g2 b_2 F1 g1 b_1
    have GP : FnOk P w K mg base CX0 3 _ fd4 _ _ := ok_placed F4 T
    have GN : FnOk P w K mg base CX0 3 _ fd5 _ _ := ok_named F5 T
    have GM : FnG P w K mg base CX0 3 _ fd8 _ _ := ok_mr F8 M T W S F6 g6 b_6 F7 g7 b_7
    have GR : FnG P w K mg base CX0 4 _ fd9 _ _ := ok_right F9 M S GT F3.kp g3 b_3 GP F4.kp g4 b_4 GN F5.kp g5 b_5 GM F8.kp g8 b_8
    exact ok_law F10 M (ok_rng F0 M) F0.kp g0 b_0 GR F9.kp g9 b_9
end K19
set_option maxHeartbeats 0
namespace K19
open PySem PySem.Spec PyProof.Rows L2 GL
abbrev R : PySem.W.OpenRow := PySem.W.OpenLaw.row PySem.Challenge.rw_fademodes_k19_errors_and_their_classes
abbrev hk : PySem.W.Hook := hookX 4 fas fns exB
def ob (s : PySem.W.SharedT) : AlX := obsX 4 fas fns exB (HandSHeadRun.getT s)
theorem ob_eq (s : PySem.W.SharedT) : ob s = hk.obs s.abs := obsX_eq (HandSHeadRun.getT_eq s)
def loose : List PySem.Str := (["__name__", "FadeError", "InvalidNumber", "InvalidName", "InvalidCut", "InvalidStretch", "InvalidRange", "InvalidMove", "InvalidRule", "InvalidLevels", "InvalidModes", "InvalidRules", "InvalidPlace", "InvalidPosition", "InvalidState", "InvalidHistory", "InvalidStarts", "InvalidCell", "InvalidRows", "InvalidCount"] : List PySem.Str) ++ (["InvalidSide", "InvalidPaper", "InvalidHand", "InvalidBad", "InvalidPrices", "InvalidHeard", "InvalidProgram", "InvalidText", "InvalidClaim", "InvalidCommand", "OtherLetters", "TooMany", "MissingError", "UnknownMode", "UnknownLetter", "UnknownLevel", "UnknownName", "StateError", "NameTaken", "NothingToUndo"] : List PySem.Str) ++ (["DividedByZero", "_law_rng", "_law_draw", "_law_choice", "_law_thing", "_law_placed", "_law_named", "_law_fields", "_law_truths", "_law_made_right", "_law_right"] : List PySem.Str)
theorem run (w : World) : HandSHeadRun.RunEq R (PySem.W.view R.prog [52]) hk ob 20000 loose w := by
  intro os
  kernel_rfl
end K19
open PySem PySem.W PySem.Calls PyProof.Rows
theorem PySem.Challenge.cw_fademodes_k19_errors_and_their_classes_holds : PySem.Challenge.rw_fademodes_k19_errors_and_their_classes.Holds := by
  w_on; o_law
  refine HandSHeadRun.head_any (r := OpenLaw.row PySem.Challenge.rw_fademodes_k19_errors_and_their_classes) (q := view (OpenLaw.row PySem.Challenge.rw_fademodes_k19_errors_and_their_classes).prog [52]) (H := K19.hk) (ob := K19.ob) (M := 20000) (loose := K19.loose) (d := HandSHeadRun.topDef (OpenLaw.row PySem.Challenge.rw_fademodes_k19_errors_and_their_classes).prog 52) (kwd := []) K19.ob_eq
    (by kernel_rfl) (fun s => by kernel_rfl) K19.run (by kernel_rfl) (by kernel_rfl) (by kernel_rfl) (by rfl) (by first | assumption | decide +kernel) (by decide +kernel) ⟨rfl, rfl, rfl, rfl, rfl, by decide +kernel⟩ ?hw ?hc
  case hw => w_witness2
  case hc =>
    refine GL.walk_G (l := PySem.Challenge.rw_fademodes_k19_errors_and_their_classes) (n := 63) (k := 5) (x := "_law_script") rfl (by decide) (by kernel_rfl) ⟨rfl, by decide, by decide⟩ ?F
    intro w mg fa h Y G hmg0
    obtain ⟨K, KX, c, b⟩ := Y
    have hmg : mg ("law" : PySem.Str) = some (.ref fa) := by
      have e : (HandSHeadRun.topDef (OpenLaw.row PySem.Challenge.rw_fademodes_k19_errors_and_their_classes).prog 52).name = ("law" : PySem.Str) := by kernel_rfl
      rw [← e]
      exact hmg0
    obtain ⟨fd, hb, hF⟩ := K19.facts (P := (PySem.Challenge.rw_fademodes_k19_errors_and_their_classes).prog) (w := w) KX G hmg c b
    exact ⟨K, fd, K19.spLaw K, KX, hb, fun H a ns hl _ hS => ⟨a, ns, rfl, hS, hl, fun _ => rfl⟩, hF⟩
