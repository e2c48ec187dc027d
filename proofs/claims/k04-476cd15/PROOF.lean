import PyProof.Rows.All
import Wide.All
import OpenK.AllK
import Wide.FinOn
import PyProof.Rows.NestFoldShow
import HandS.Base
import HandS.Call
import HandS.List
import HandS.Comp
import HandS.Dict
import HandS.Iter
import HandS.Ends
import HandS.Words
import HandS.WordsList
import HandS.EndTab
import HandS.SlotsOwn
import HandS.RaiseMore
import HandS.Star
import PyProof.CallStr
import PyProof.InstNe
import HandS.ClsMeth
import HandS.MakeKwOnly
import HandS.SetTxt0
import HandS.Set
import HandS.SetFor
import HandS.More
import HandS.Strs
import OpenK.KOps
import HandS.Style
import HandS.Walk
import HandS.Zip
import HandS.Zip0
import HandS.IsInst
import HandS.Codes
import HandS.Text
import KE.GoesMore
import HandS.SortInts
import HandS.Small
import KE.IntTextLaws
import HandS.ForExc
import HandS.ExcInit
import HandS.MakeKw
import KE.KExcLine
import KE.KExcIs
import HandS.ExcValue
import HandS.WordsExc
import HandS.Defaults
import HandS.FStr
import HandS.TupAny
import HandS.DictComp
import HandS.Lambda
import HandS.ExcField
import PyProof.ReprBulk
import KE.KNestM
import PySem.Challenge.RW_unfooled_k04_readers_made_and_their_text
set_option Elab.async false
set_option linter.all false
set_option maxRecDepth 100000
set_option maxHeartbeats 2000000
/-! Promises of defs that ask for repr of a list or a tuple: these want to know that nothing is being shown around them. -/
namespace My
open PySem PySem.Spec PyProof.Rows L2
/-- nothing is being shown around -/
abbrev NoShow (A : Around) : Prop := A.guards = some []
/-- a def's promise where nothing is being shown around the call -/
structure FnG (P : Program) (w : World) (K : PySem.W.Frag) (mg : Str → Option Value) (base : Heap) (CX : CXT) (k : Nat) (f : Addr) (fd : FuncData) (ps : List Str) (sp : Sp) : Prop where
  len : ∀ vs H Q E, sp vs H Q E → vs.length = ps.length
  go : ∀ {A : Around}, NoShow A → Room k A → ∀ (outer : List Env) (s : Shared) (H : Hp) (args : Args) (us : List Value) (vs : List V) (Q : VK) (E : XK), Env0 P w K mg base A outer s H → BindsTo s fd args (ps.zip us) → Vals vs us → sp vs H Q E →
    codeAny (model P w) A (.call (.ref f) args) (CR CX outer P w H s Q E) s
section
variable {P : Program} {w : World} {K : PySem.W.Frag} {mg : Str → Option Value} {base : Heap} {CX : CXT} {k : Nat} {f : Addr} {fd : FuncData} {ps : List Str} {sp : Sp}
theorem FnG.of (F : FnOk P w K mg base CX k f fd ps sp) : FnG P w K mg base CX k f fd ps sp := ⟨F.len, fun {A} _ hr outer s H args us vs Q E => F.run A outer s H args us vs Q E hr⟩
theorem FnG.mono {j : Nat} (F : FnG P w K mg base CX j f fd ps sp) (h : j ≤ k) : FnG P w K mg base CX k f fd ps sp := ⟨F.len, fun {A} g hr => F.go g (hr.mono h)⟩
end
section
variable {P : Program} {w : World} {K : PySem.W.Frag} {mg : Str → Option Value} {base : Heap}
/-- a def's body keeps its promise, nothing being shown around -/
theorem fng_of {x qual : Str} {st : Stmt} {f : Addr} {fd : FuncData} {N ps : List Str} {k : Nat} {sp : Sp} (F : Fun K x qual st f fd) (S : FnScope N ps (defScope st)) (len : ∀ vs H Q E, sp vs H Q E → vs.length = ps.length)
    (body : ∀ (cdv : Value) (A : Around) (outer : List Env) (s : Shared) (H : Hp) (vs : List V) (Q : VK) (E : XK), NoShow (A.deeper (envOfC qual (defScope st) s.heap.objs.size f cdv)) → Room k (A.deeper (envOfC qual (defScope st) s.heap.objs.size f cdv)) → sp vs H Q E →
      ∃ t, PSs (cxOf CX0 P w K mg base N qual (defScope st) f cdv A outer s H E).nox (defBody st) t ∧ t { nx := fun _ H' => Q .non H', rt := Q } (start N vs) H) : FnG P w K mg base CX0 (k + 1) f fd ps sp := by
  obtain ⟨oc, od, kV, doc, pm, an, cdv, ct, osl, rfl, lk, hcd⟩ := F.ex
  refine ⟨len, fun {A} g hr outer s H args us vs Q E e0 hb r h => ?_⟩
  have inK : K.In s.heap := e0.mod.kin.keeps fun b o e => (e0.bs b o e).1
  have vl := len _ _ _ _ h
  have par : ∀ y ∈ ps.zip us, (defScope st).names.lookup y.1 = some .local ∨ ((defScope st).names.lookup y.1 = some .cell ∧ ((cellsFrom (s.heap.objs.size + 1) (defScope st).names []).lookup y.1).isSome = true) := by
    rintro ⟨n, v⟩ hy
    exact (S.par n (List.of_mem_zip hy).1).imp id fun q => ⟨q, PySem.W.cellsFrom_some _ _ _ (.inl q)⟩
  refine codeAny_call_function hr.depth (inK _ _ lk) rfl S.co S.gen rfl (PySem.W.codeRec_of inK hcd) (hb _ _ _ _ (wpAny_newFunctionEnv_cells S.kind par fun env he s1 x => ?_))
  subst he
  have nl : s.heap.NoLimit := e0.mod.nolimit.keeps fun b o e => (e0.bs b o e).1
  refine ⟨nl.keeps x.toInCall.keep, codeAny_func ?_⟩
  obtain ⟨t, ht, q⟩ := body cdv A outer s H vs Q E g (hr.deeper _) h
  have I := inv_start (CX := CX0) (N := N) (E := E) S hr.hd e0 vl r x
  have ends : ∀ {σ' : L2.St} {H' : Hp} {s' : Shared} {v : V} {u : Value}, Inv (cxOf CX0 P w K mg base N qual (defScope st) f cdv A outer s H E) [] σ' H' s' → RelV v u → Q v H' → CE outer P w H s Q u s' :=
    fun J rv z => ⟨_, _, J.os, J.bare, J.base, J.hok, rv, z⟩
  refine wpAny_mono (ht.nox.run [] s1 (start N vs) H _ I q) (fun fl s' z => ?_) fun _ _ z => z
  rcases fl with _ | _ | _ | u
  · obtain ⟨_, _, J, z⟩ := z
    exact ends (v := V.non) (u := Value.none) J rfl z
  · obtain ⟨_, _, _, z⟩ := z
    exact z.elim
  · obtain ⟨_, _, _, z⟩ := z
    exact z.elim
  · obtain ⟨_, _, _, J, rv, z⟩ := z
    exact ends J rv z
end
section
variable {X : Cx} {CX : CXT} {k : Nat} {f : Addr} {fd : FuncData} {ps : List Str} {sp : Sp} {ds : List Value} {dvs : List V} {E : XK}
theorem run_fng {pins : List (Addr × Obj)} {σ : L2.St} {H : Hp} {s : Shared} {Q : VK} {us : List Value} {vs : List V} (F : FnG X.prog X.w X.K X.mg X.base CX k f fd ps sp) (ns : NoShow X.A) (hr : Room k X.A) (hb : Binds X.K fd ps ds) (hd : Vals dvs ds) (hx : Passes CX X E)
    (I : Inv X pins σ H s) (r : Vals vs us) (h : sp (vs ++ dvs) H Q E) : wpAny (model X.prog X.w) X.A (call (.ref f) us) (EP X pins σ Q) X.xe s := by
  have ra : Vals (vs ++ dvs) (us ++ ds) := r.append hd
  have la : (us ++ ds).length = ps.length := ra.length.symm.trans (F.len _ _ _ _ h)
  refine wpAny_call (codeAny_mono (F.go ns hr X.stack s H ⟨us, []⟩ (us ++ ds) (vs ++ dvs) Q E I.env0 (hb s us I.kIn la) ra h) fun o s' q => ?_)
  match o, q with
  | .error e, q => exact hx pins σ H s e s' I q
  | .ok (.ret u), q => exact I.after q
/-- f(e, ..) of such a def -/
theorem pe_callG {x : Str} {p pos : Pos} {e : Expr} {es : List Expr} {t : TA} (F : FnG X.prog X.w X.K X.mg X.base CX k f fd ps sp) (ns : NoShow X.A) (hr : Room k X.A) (hg : Gl X x) (hm : X.mg x = some (.ref f)) (hk : PySem.W.keepIn X.K (.ref f) = true) (hb : Binds X.K fd ps ds) (hd : Vals dvs ds) (hx : Passes CX X E)
    (ha : PA X (e :: es) t) (nb : (x == ("__debug__" : Str)) = false := by decide) (h1 : starEach (e :: es) X.env = (false, eval e X.env) :: starEach es X.env := by rfl) (h2 : (backTo pos (starEach es X.env)).any (·.1) = false := by rfl) :
    PE X (.Call (.Name x p) (e :: es) [] pos) (tCall sp dvs E t) := by
  constructor
  intro pins s σ H Q I h
  refine wpAny_Call_Name_kw (ld_glob I hg hm (PySem.W.callWith_K (h₀ := X.base) I.ok.mod.kin hk (thn (ha.run pos pins s σ H _ I h) fun us s1 z => ?_) h1 h2) nb)
  obtain ⟨vs, H1, I1, r, q⟩ := z
  exact ⟨I1.kIn, run_fng F ns hr hb hd hx I1 r q⟩
/-- repr of a list or a tuple of data -/
def rReprD (K : PySem.W.Frag) : List V → Hp → VK → Prop := fun xs H Q => ∃ (a : Addr) (d : PyData), xs = [.ref a] ∧ Dp K H (.ref a) d ∧ d.showable = true ∧ d.hasDict = false ∧ d.depth ≤ 60 ∧ d.shown.length ≤ sizeLine ∧ Q (.str d.shown) H
theorem call_reprD (ns : NoShow X.A) (hu : X.A.units + 64 < cLine) : CallR X (.builtin "repr") (rReprD X.K) := by
  intro pins s σ H xs us Q I r h
  obtain ⟨a, d, rfl, hd, h1, h2, h3, h4, q⟩ := h
  obtain ⟨as, rd⟩ := Dp.reads I d (.ref a) (.ref a) hd rfl
  rw [Vals.ref1 r]
  refine repr_of_reads' rd h1 (PyData.noDict_hsm h2) ns (by omega) (fun _ _ e => e) (fun h' u tk hk => ?_) h4
  exact ⟨.str _, H, I.kept (t' := tk) hk, ⟨u, rfl⟩, q⟩
end
end My

set_option Elab.async false
set_option linter.all false
set_option maxRecDepth 100000
set_option maxHeartbeats 2000000
/-! The end of a law whose promise wants that nothing is being shown around. -/
namespace My
open PySem PySem.Spec PyProof.Rows L2
theorem lawG {P : Program} {w : World} {K : PySem.W.Frag} {mg mb : Str → Option Value} {k : Nat} {fa a : Addr} {fd : FuncData} {x : Str} {sp : Sp} {s₁ : Shared} {vs : List Value} {ns : List Int}
    (inK : K.In s₁.heap) (gl : s₁.heap.Ns mainGlobals mg) (bl : s₁.heap.Ns builtinsNs mb) (bb : ∀ x : Str, x ≠ "__name__" → mb x = bootBuiltins x) (lim : s₁.heap.NoLimit) (gn : s₁.gens = #[])
    (ha : s₁.heap.get? a = some { cls := .type "list", data := .seq vs.toArray }) (hi : IntsAre vs ns) (hl : ns.length ≤ sizeLine) (hr : Room k callerA)
    (F : ∀ base : Heap, K.In base → base.Ns mainGlobals mg → FnG P w K mg base CX0 k fa fd [x] sp) (hb : ∀ (s : Shared) (u : Value), BindsTo s fd ⟨[u], []⟩ [(x, u)])
    (hsp : ∀ H : Hp, SqL K H a (ns.map V.int) → sp [.ref a] H (fun v _ => v = .bl true) fun _ _ _ => False) :
    codeAny (model P w) callerA (.call (.ref fa) ⟨[.ref a], []⟩) (fun r s' => r = .ok (.ret (.bool true)) ∧ OldK s₁.heap s'.heap ∧ s'.os = s₁.os ∧ AllBare s'.gens) s₁ := by
  have main : ∀ H : Hp, (∀ b, H b = none ∨ ∃ o zs, H b = some (.frz o (.lst zs))) → SqL K H a (ns.map V.int) → HOk P w H s₁.heap → (∀ b, H b ≠ none → b = a) → (H a ≠ none → K.lookup a = none) →
      codeAny (model P w) callerA (.call (.ref fa) ⟨[.ref a], []⟩) (fun r s' => r = .ok (.ret (.bool true)) ∧ OldK s₁.heap s'.heap ∧ s'.os = s₁.os ∧ AllBare s'.gens) s₁ := by
    intro H only hS ok at_a not_K
    -- what is not tracked
    have old : ∀ {b : Addr} {o : Obj}, s₁.heap.get? b = some o → b ≠ a → H b = none := fun {b o} _ n => Classical.byContradiction fun z => n (at_a b z)
    have isD : ∀ {b : Addr} {o : Obj} {es : Array DictEntry} {ep : Nat}, s₁.heap.get? b = some o → o.data = .dict es ep → H b = none := fun {b o es ep} e d => old e fun z => by
      rw [z, ha] at e
      cases e
      cases d
    have names : ∀ {b : Addr} {m : Str → Option Value}, s₁.heap.Ns b m → (hidT s₁.heap H).Ns b m := fun {b m} z => by
      obtain ⟨o, es, ep, e, d, r⟩ := z
      exact ⟨o, es, ep, hidT_get e (isD e d), d, r⟩
    have frag : K.In (hidT s₁.heap H) := fun b o e => hidT_get (inK b o e) (by
      by_cases z : b = a
      · subst z
        refine Classical.byContradiction fun q => ?_
        rw [not_K q] at e
        cases e
      · exact old (inK b o e) z)
    have mod : L2.Mod K mg (hidT s₁.heap H) := by
      obtain ⟨mc, l1, l2⟩ := lim
      exact ⟨frag, names gl, ⟨mb, names bl, bb⟩, ⟨mc, names l1, l2⟩⟩
    have e0 : Env0 P w K mg (hidT s₁.heap H) callerA [] s₁ H :=
      ⟨rfl, mod, fun b o e => of_hidT e, Nat.le_of_eq (hidT_size _ _), trivial, fun b z => (nomatch (show b ∈ ([] : List Addr) from z)), ok, .of_eq gn⟩
    have run := (F _ frag (names gl)).go (A := callerA) rfl hr [] s₁ H ⟨[.ref a], []⟩ [.ref a] [.ref a] (fun v _ => v = .bl true) (fun _ _ _ => False) e0 (hb s₁ (.ref a)) (.cons rfl .nil) (hsp H hS)
    refine codeAny_mono run fun r s' z => ?_
    match r, z with
    | .ok (.ret u), z =>
      obtain ⟨v, H', os, bare, un, ok', rv, q⟩ := z
      have q : v = .bl true := q
      subst q
      cases (rv : u = Value.bool true)
      refine ⟨rfl, OldK.of_keep fun b o e => ?_, os, bare⟩
      rcases only b with n | ⟨ob, zs, n⟩
      · exact un.keep b o e n (fun z => (nomatch (show b ∈ ([] : List Addr) from z))) (fun z => (nomatch z))
      · have n' := un.frzs b ob _ n
        have p1 := (ok b _ n).1
        have p2 := (ok' b _ n').1
        rw [e] at p1
        cases p1
        exact p2
  have rv := vals_ints hi
  by_cases hk : ∃ o, K.lookup a = some o
  · obtain ⟨o, hk⟩ := hk
    have e := inK a o hk
    rw [ha] at e
    cases e
    have sz : vs.toArray.size ≤ sizeLine := by rw [List.size_toArray, hi.length]; exact hl
    exact main (fun _ => none) (fun _ => .inl rfl) (.inr ⟨_, vs.toArray, _, hk, rfl, rfl, rfl, sz, by simpa using rv⟩) (fun b u z => (nomatch (show (none : Option HO) = some u from z))) (fun b z => (z rfl).elim) fun z => (z rfl).elim
  · have nk : K.lookup a = none := by
      cases z : K.lookup a with
      | none => rfl
      | some o => exact (hk ⟨o, z⟩).elim
    generalize hU : (HO.frz { cls := .type "list", data := .seq vs.toArray } (.lst (ns.map V.int))) = U
    have off : ∀ {b}, b ≠ a → (fun b => if b = a then some U else none : Hp) b = none := fun z => if_neg z
    refine main (fun b => if b = a then some U else none) (fun b => ?_) (.inl (.inr ⟨{ cls := .type "list", data := .seq vs.toArray }, by rw [hU]; exact if_pos rfl⟩)) (fun b u z => ?_) (fun b z => Classical.byContradiction fun q => z (off q)) fun _ => nk
    · by_cases q : b = a
      · exact .inr ⟨_, _, by rw [hU]; exact if_pos q⟩
      · exact .inl (off q)
    · by_cases q : b = a
      · subst q
        have z := (if_pos rfl).symm.trans z
        cases z
        subst hU
        exact ⟨ha, by rw [List.length_map]; exact hl, vs, _, rv, ha⟩
      · exact (nomatch (off q).symm.trans z)
theorem walk_ofG {l : PySem.W.OpenLaw} {n k : Nat} {q : Program} {loose : List Str} {XP : (Str → Option Value) → Heap → Prop} {YP : World → Heap → Prop} {d : DefRec} {K : Params → PySem.W.Frag} {sp : World → Sp} {x : Str}
    (hn : l.most = some n) (hz : n ≤ sizeLine) (hdf : d.params.defaults = []) (hr : Room k callerA) (hY : ∀ (w : World) (h : Heap), YP w h → (K w.params).In h)
    (F : ∀ (w : World) (mg : Str → Option Value) (fa : Addr) (h : Heap), (K w.params).In h → h.Ns mainGlobals mg → mg d.name = some (.ref fa) →
      ∃ fd : FuncData, (∀ (s : Shared) (u : Value), BindsTo s fd ⟨[u], []⟩ [(x, u)]) ∧ ∀ base : Heap, (K w.params).In base → base.Ns mainGlobals mg → FnG l.prog w (K w.params) mg base CX0 k fa fd [x] (sp w))
    (hsp : ∀ (w : World) (H : Hp) (a : Addr) (ns : List Int), ns.length ≤ n → SqL (K w.params) H a (ns.map V.int) → sp w [.ref a] H (fun v _ => v = .bl true) fun _ _ _ => False) :
    PySem.W.WalkO q loose XP YP l.row.toRowW d [] (fun f vs => PySem.call f vs) := by
  refine Att.attach_call hn hdf fun w s₀ s₁ mg mb fa o pm cd doc a vs ns G Y ho hd hcd hmg hobj hints hlen hg => ?_
  have inK := hY w _ Y
  obtain ⟨fd, hb, hF⟩ := F w mg fa _ inK G.T.g hmg
  exact lawG inK G.T.g G.T.b G.T.builtins G.T.nolimit hg hobj hints (Nat.le_trans hlen hz) hr hF hb fun H hS => hsp w H a ns hlen hS
end My

set_option Elab.async false
set_option linter.all false
set_option maxRecDepth 100000
set_option maxHeartbeats 2000000
/-! The end of a law whose promise wants that nothing is being shown around, and an empty table of code objects. -/
namespace My
open PySem PySem.Spec PyProof.Rows L2
theorem lawGT {P : Program} {w : World} {K : PySem.W.Frag} {mg mb : Str → Option Value} {k : Nat} {fa a c0 Pt : Addr} {fd : FuncData} {x : Str} {sp : Sp} {s₁ : Shared} {vs : List Value} {ns : List Int}
    (inK : K.In s₁.heap) (gl : s₁.heap.Ns mainGlobals mg) (bl : s₁.heap.Ns builtinsNs mb) (bb : ∀ x : Str, x ≠ "__name__" → mb x = bootBuiltins x) (lim : s₁.heap.NoLimit) (gn : s₁.gens = #[])
    (hT : s₁.heap.get? Pt = some { cls := .none, data := .fields #[] }) (nT : K.lookup Pt = none) (hC : PySem.W.CodeHd s₁.heap c0 Pt)
    (hbm : ∃ (bm : Addr) (ob : Obj), mg "__builtins__" = some (.ref bm) ∧ bm ≠ builtinsNs ∧ s₁.heap.get? bm = some ob ∧ ob.cls = .type "module" ∧ ob.dict = some builtinsNs ∧ ob.data = .plain)
    (ha : s₁.heap.get? a = some { cls := .type "list", data := .seq vs.toArray }) (hi : IntsAre vs ns) (hl : ns.length ≤ sizeLine) (hr : Room k callerA)
    (F : ∀ base : Heap, K.In base → base.Ns mainGlobals mg → LamX.TabB base mg c0 Pt → FnG P w K mg base CX0 k fa fd [x] sp) (hb : ∀ (s : Shared) (u : Value), BindsTo s fd ⟨[u], []⟩ [(x, u)])
    (hsp : ∀ H : Hp, H Pt = some (.tbl #[]) → SqL K H a (ns.map V.int) → sp [.ref a] H (fun v _ => v = .bl true) fun _ _ _ => False) :
    codeAny (model P w) callerA (.call (.ref fa) ⟨[.ref a], []⟩) (fun r s' => r = .ok (.ret (.bool true)) ∧ OldK s₁.heap s'.heap ∧ s'.os = s₁.os ∧ AllBare s'.gens) s₁ := by
  have nPa : Pt ≠ a := fun z => by
    rw [z, ha] at hT
    cases hT
  have main : ∀ H : Hp, H Pt = some (.tbl #[]) → (∀ b, b ≠ Pt → H b = none ∨ ∃ o zs, H b = some (.frz o (.lst zs))) → SqL K H a (ns.map V.int) → HOk P w H s₁.heap → (∀ b, b ≠ Pt → H b ≠ none → b = a) → (H a ≠ none → K.lookup a = none) →
      codeAny (model P w) callerA (.call (.ref fa) ⟨[.ref a], []⟩) (fun r s' => r = .ok (.ret (.bool true)) ∧ OldK s₁.heap s'.heap ∧ s'.os = s₁.os ∧ AllBare s'.gens) s₁ := by
    intro H hP only hS ok at_a not_K
    -- what is not tracked
    have old : ∀ {b : Addr}, b ≠ Pt → b ≠ a → H b = none := fun {b} n1 n => Classical.byContradiction fun z => n (at_a b n1 z)
    have isD : ∀ {b : Addr} {o : Obj} {es : Array DictEntry} {ep : Nat}, s₁.heap.get? b = some o → o.data = .dict es ep → H b = none := fun {b o es ep} e d => old (fun z => by
      rw [z, hT] at e
      cases e
      cases d) fun z => by
      rw [z, ha] at e
      cases e
      cases d
    have names : ∀ {b : Addr} {m : Str → Option Value}, s₁.heap.Ns b m → (hidT s₁.heap H).Ns b m := fun {b m} z => by
      obtain ⟨o, es, ep, e, d, r⟩ := z
      exact ⟨o, es, ep, hidT_get e (isD e d), d, r⟩
    have frag : K.In (hidT s₁.heap H) := fun b o e => hidT_get (inK b o e) (by
      have n1 : b ≠ Pt := fun z => by
        rw [z, nT] at e
        cases e
      by_cases z : b = a
      · subst z
        refine Classical.byContradiction fun q => ?_
        rw [not_K q] at e
        cases e
      · exact old n1 z)
    have mod : L2.Mod K mg (hidT s₁.heap H) := by
      obtain ⟨mc, l1, l2⟩ := lim
      exact ⟨frag, names gl, ⟨mb, names bl, bb⟩, ⟨mc, names l1, l2⟩⟩
    have gP : mainGlobals ≠ Pt := fun z => by
      obtain ⟨o, es, ep, e, d, _⟩ := gl
      rw [z, hT] at e
      cases e
      cases d
    have tab : LamX.TabB (hidT s₁.heap H) mg c0 Pt := by
      refine ⟨?_, ?_, gP⟩
      · obtain ⟨o, us, file, tf, flags, tg, inF, text, tt, e1, r1, r2, r3, r4, r5, r6, r7, r8, hne⟩ := hC
        have nca : c0 ≠ a := fun z => by
          rw [z, ha] at e1
          cases e1
          cases r2
        exact ⟨o, us, file, tf, flags, tg, inF, text, tt, hidT_get e1 (old hne nca), r1, r2, r3, r4, r5, r6, r7, r8, hne⟩
      · obtain ⟨bm, ob, b1, b2, b3, b4, b5, b6⟩ := hbm
        have nG : bm ≠ mainGlobals := fun q => by
          obtain ⟨o, es, ep, e, hd, _⟩ := gl
          rw [q, e] at b3
          cases b3
          rw [hd] at b6
          cases b6
        have nP : bm ≠ Pt := fun q => by
          rw [q, hT] at b3
          cases b3
          cases b6
        have na : bm ≠ a := fun q => by
          rw [q, ha] at b3
          cases b3
          cases b6
        exact ⟨bm, ob, b1, b2, nG, nP, hidT_get b3 (old nP na), b4, b5, b6⟩
    have e0 : Env0 P w K mg (hidT s₁.heap H) callerA [] s₁ H :=
      ⟨rfl, mod, fun b o e => of_hidT e, Nat.le_of_eq (hidT_size _ _), trivial, fun b z => (nomatch (show b ∈ ([] : List Addr) from z)), ok, .of_eq gn⟩
    have run := (F _ frag (names gl) tab).go (A := callerA) rfl hr [] s₁ H ⟨[.ref a], []⟩ [.ref a] [.ref a] (fun v _ => v = .bl true) (fun _ _ _ => False) e0 (hb s₁ (.ref a)) (.cons rfl .nil) (hsp H hP hS)
    refine codeAny_mono run fun r s' z => ?_
    match r, z with
    | .ok (.ret u), z =>
      obtain ⟨v, H', os, bare, un, ok', rv, q⟩ := z
      have q : v = .bl true := q
      subst q
      cases (rv : u = Value.bool true)
      have keep : ∀ b o, b ≠ Pt → s₁.heap.get? b = some o → s'.heap.get? b = some o := fun b o nb e => by
        rcases only b nb with n | ⟨ob, zs, n⟩
        · exact un.keep b o e n (fun z => (nomatch (show b ∈ ([] : List Addr) from z))) (fun z => (nomatch z))
        · have n' := un.frzs b ob _ n
          have p1 := (ok b _ n).1
          have p2 := (ok' b _ n').1
          rw [e] at p1
          cases p1
          exact p2
      obtain ⟨more, hm⟩ := un.tbls Pt #[] hP
      have hm2 := ok' Pt _ hm
      refine ⟨rfl, ⟨fun b o e => ?_, fun b o e => ?_⟩, os, bare⟩
      · by_cases z : b = Pt
        · subst z
          rw [hT] at e
          cases e
          exact .inr (.inl ⟨(hC.tab hT).isCodeTable, rfl, #[], _, rfl, by rw [Array.empty_append]; exact hm2⟩)
        · exact .inl (keep b o z e)
      · by_cases z : b = Pt
        · subst z
          exact ⟨_, hm2⟩
        · exact ⟨o, keep b o z e⟩
  have rv := vals_ints hi
  by_cases hk : ∃ o, K.lookup a = some o
  · obtain ⟨o, hk⟩ := hk
    have e := inK a o hk
    rw [ha] at e
    cases e
    have sz : vs.toArray.size ≤ sizeLine := by rw [List.size_toArray, hi.length]; exact hl
    refine main (fun b => if b = Pt then some (.tbl #[]) else none) (if_pos rfl) (fun b n => .inl (if_neg n)) (.inr ⟨_, vs.toArray, _, hk, rfl, rfl, rfl, sz, by simpa using rv⟩) (fun b u z => ?_) (fun b n z => (z (if_neg n)).elim) fun z => (z (if_neg nPa.symm)).elim
    by_cases q : b = Pt
    · subst q
      have z := (if_pos rfl).symm.trans z
      cases z
      exact hT
    · exact (nomatch (if_neg q).symm.trans z)
  · have nk : K.lookup a = none := by
      cases z : K.lookup a with
      | none => rfl
      | some o => exact (hk ⟨o, z⟩).elim
    refine main (fun b => if b = Pt then some (.tbl #[]) else if b = a then some (.frz { cls := .type "list", data := .seq vs.toArray } (.lst (ns.map V.int))) else none) (if_pos rfl) (fun b n => ?_)
      (.inl (.inr ⟨{ cls := .type "list", data := .seq vs.toArray }, (if_neg nPa.symm).trans (if_pos rfl)⟩)) (fun b u z => ?_) (fun b n z => Classical.byContradiction fun q => z ((if_neg n).trans (if_neg q))) fun _ => nk
    · by_cases q : b = a
      · exact .inr ⟨_, _, (if_neg n).trans (if_pos q)⟩
      · exact .inl ((if_neg n).trans (if_neg q))
    · by_cases q : b = Pt
      · subst q
        have z := (if_pos rfl).symm.trans z
        cases z
        exact hT
      · have z1 := (if_neg q).symm.trans z
        by_cases q2 : b = a
        · subst q2
          have z := (if_pos rfl).symm.trans z1
          cases z
          exact ⟨ha, by rw [List.length_map]; exact hl, vs, _, rv, ha⟩
        · exact (nomatch (if_neg q2).symm.trans z1)
/-- what is known of the law's promise at the head's heap h -/
def LawAtG (l : PySem.W.OpenLaw) (w : World) (K : PySem.W.Frag) (k n : Nat) (x : Str) (mg : Str → Option Value) (fa : Addr) (h : Heap) : Prop :=
  ∃ (fd : FuncData) (c0 Pt : Addr) (sp : Sp), h.get? Pt = some { cls := .none, data := .fields #[] } ∧ K.lookup Pt = none ∧ PySem.W.CodeHd h c0 Pt ∧ (∀ (s : Shared) (u : Value), BindsTo s fd ⟨[u], []⟩ [(x, u)]) ∧
    (∀ (H : Hp) (a : Addr) (ns : List Int), ns.length ≤ n → H Pt = some (.tbl #[]) → SqL K H a (ns.map V.int) → sp [.ref a] H (fun v _ => v = .bl true) fun _ _ _ => False) ∧
    ∀ base : Heap, K.In base → base.Ns mainGlobals mg → LamX.TabB base mg c0 Pt → FnG l.prog w K mg base CX0 k fa fd [x] sp
theorem walk_ofGT {l : PySem.W.OpenLaw} {n k : Nat} {q : Program} {loose : List Str} {XP : (Str → Option Value) → Heap → Prop} {YP : World → Heap → Prop} {d : DefRec} {K : Params → PySem.W.Frag} {x : Str}
    (hn : l.most = some n) (hz : n ≤ sizeLine) (hdf : d.params.defaults = []) (hr : Room k callerA) (hY : ∀ (w : World) (h : Heap), YP w h → (K w.params).In h)
    (F : ∀ (w : World) (mg : Str → Option Value) (fa : Addr) (h : Heap), YP w h → (K w.params).In h → h.Ns mainGlobals mg → mg d.name = some (.ref fa) → LawAtG l w (K w.params) k n x mg fa h) :
    PySem.W.WalkO q loose XP YP l.row.toRowW d [] (fun f vs => PySem.call f vs) := by
  refine Att.attach_callB hn hdf fun w s₀ s₁ mg mb fa o pm cd doc a vs ns G Y ho hd hcd hmg hobj hints hlen hbits hg => ?_
  have inK := hY w _ Y
  obtain ⟨fd, c0, Pt, sp, hT, nT, hC, hb, hsp, hF⟩ := F w mg fa _ Y inK G.T.g hmg
  exact lawGT inK G.T.g G.T.b G.T.builtins G.T.nolimit hg hT nT hC G.T.bmain hobj hints (Nat.le_trans hlen hz) hr hF hb fun H hP hS => hsp H a ns hlen hP hS
end My

set_option Elab.async false
set_option linter.all false
set_option maxRecDepth 100000
set_option maxHeartbeats 2000000
/-! str(x), x == y, x != y of an instance whose class has its own def for it. -/
namespace OwI
open PySem PySem.Spec PyProof.Rows
section
variable {prog : Program} {w : World} {A : Around} {E : Value → Shared → Prop} {s : Shared} {K : PySem.W.Frag} {x C D f : Addr} {ox od : Obj} {odd : Option Obj}
theorem str_from {Q : Value → Shared → Prop} (hu : A.units < cLine) (X : K.In s.heap) (I : PySem.W.InstAt s.heap x ox C odd) (hs : PySem.W.findIn K (.ref C) "__str__" = some (some (.ref f))) (hf : PySem.W.isFn K (.ref f) = true)
    (h : wpAny (model prog w) A (call (.ref f) [.ref x]) (fun r s₁ => ∃ n u, r = Value.str n u ∧ Q r s₁) E s) : wpAny (model prog w) A (Builtin.Str.strOf (.ref x)) Q E s := by
  unfold Builtin.Str.strOf
  rw [show Builtin.Str.isExactStr (.ref x) = false from rfl]
  simp only [Bool.false_eq_true, if_false, pure_bind]
  refine wpAny_bind (wpAny_cRoomFor hu ?_)
  refine wpAny_bind (m := callSpecial? (.ref x) (Str.ofString "__str__")) (PySem.W.special_fn X I hs (beq_iff_eq.mp hf) (wpAny_mono h (fun r s' hr => ?_) fun _ _ y => y))
  obtain ⟨n, u, rfl, hq⟩ := hr
  exact wpAny_pure hq
/-- str(x) -/
theorem str_own {Q : Value → Shared → Prop} (hu : A.in1.in1.units < cLine) (X : K.In s.heap) (I : PySem.W.InstAt s.heap x ox C odd) (hs : PySem.W.findIn K (.ref C) "__str__" = some (some (.ref f))) (hf : PySem.W.isFn K (.ref f) = true)
    (h : wpAny (model prog w) A.in1.in1 (call (.ref f) [.ref x]) (fun r s₁ => ∃ n u, r = Value.str n u ∧ Q r s₁) E s) : wpAny (model prog w) A (call (.type "str") [.ref x]) Q E s := by
  refine callType_codes (T := "str") (Bi := Builtin.«object.__init__») (Q₁ := fun r s₁ => ∃ n u, r = Value.str n u ∧ Q r s₁) PySem.F.called_str (PySem.F.typeCall_str_1 _) PySem.F.entry_object_init ?_ ?_
  · refine codeAny_of_tree ?_
    show wpAny _ A.in1.in1 (do checkBuiltinCall "str.__new__" ⟨[.type "str", .ref x], []⟩; again (.builtin "str.__new__" ⟨[.type "str", .ref x], []⟩)) _ _ s
    refine wpAny_bind (wpAny_of_eq (PySem.F.newCall_str_1 _) (wpAny_pure ⟨plainId_quiet (by decide +kernel) _, codeAny_builtin PySem.F.entry_str_new ?_⟩))
    rw [Around.under_plainId (by decide +kernel) _]
    rw [str_new_tree (.ref x)]
    refine wpAny_bind (wpAny_pure ?_)
    refine wpAny_bind (wpAny_of_eq isSubtype_str_str ?_)
    refine wpAny_bind (str_from hu X I hs hf (wpAny_mono h (fun r s₁ hr => ?_) fun _ _ y => y))
    obtain ⟨n, u, rfl, hq⟩ := hr
    exact ⟨n, u, rfl, wpAny_pure ⟨n, u, rfl, hq⟩⟩
  · rintro obj s₁ ⟨n, u, rfl, hq⟩
    exact ⟨typeIs_str _ _ _, PySem.F.args_object_init_2 _ _, object_init_meets PySem.F.called_str.init.lookup PySem.F.called_str.made (by decide) prog w A.in1 _ s₁ ⟨typeIs_str _ _ _, rfl, hq⟩⟩
/-- x's own def, bound where it may be -/
theorem ifBound_B {M : Model} {args : List Value} {name : Str} {id n1 n2 : String} {T : String} {Q : Option Value → Shared → Prop} (X : K.In s.heap) (I : PySem.W.InstAt s.heap x ox C odd) (hs : PySem.W.findIn K (.ref C) name = some (some (.builtin id))) (S : ∀ v : Value, bindSpecial (.builtin id) v = pure (.builtin id, [v]))
    (h : wpAny M A (call (.builtin id) (.ref x :: args)) (fun v => Q (some v)) E s) : wpAny M A (callSpecialIfBound? (.ref x) name args) Q E s := by
  simp only [callSpecialIfBound?, bindSpecialIfBound?]
  refine wpAny_holding (wpAny_bind (wpAny_bind (wpAny_bind (I.type.here ((PySem.W.looks_findIn X hs).here ?_)))))
  simp only [S]
  refine wpAny_bind (wpAny_askSetting (wpAny_ite ?_))
  have fin : wpAny M A (call (.builtin id) ([.ref x] ++ args) >>= fun v => pure (some v)) Q E s := wpAny_bind (wpAny_mono h (fun v s' h' => wpAny_pure h') fun _ _ h' => h')
  split
  · exact wpAny_bind (wpAny_pure (wpAny_pure fin))
  · exact wpAny_tryCatch (wpAny_bind (wpAny_pure (wpAny_pure fin)))
/-- x != y: by its own == -/
theorem ne_own {b tb : Value} {Q : Value → Shared → Prop} (hu : A.units + 1 < cLine) (X : K.In s.heap) (I : PySem.W.InstAt s.heap x ox C odd) (hb : PySem.W.Looks (model prog w) s.heap (typeOf b) tb) (hn : PySem.W.notFirst K C tb = true) (ho : PySem.W.subIn K (.ref C) (.type "object") = some true)
    (hs : PySem.W.findIn K (.ref C) "__eq__" = some (some (.ref f))) (hf : PySem.W.isFn K (.ref f) = true) (hne : PySem.W.findIn K (.ref C) "__ne__" = some (some (.builtin "object.__ne__")))
    (h : wpAny (model prog w) A.in1 (call (.ref f) [.ref x, b]) (fun v s' => ∃ r, v = .bool r ∧ Q (.bool (!r)) s') E s) : wpAny (model prog w) A (richCompare .NotEq (.ref x) b) Q E s := by
  have entry : wpAny (model prog w) A.in1 (Builtin.«object.__ne__» ⟨[.ref x, b], []⟩) (fun v s' => ∃ r, v = .done (.ret (.bool r)) ∧ Q (.bool r) s') E s := by
    unfold Builtin.«object.__ne__»
    refine wpAny_bind (m := slotArgs "__ne__" 1 _) (wpAny_pure ?_)
    refine wpAny_bind (wpAny_cRoomFor hu ?_)
    refine wpAny_bind (PySem.W.ifBound_K X I hs hf (wpAny_mono h (fun v s' hv => ?_) fun _ _ e => e))
    obtain ⟨r, rfl, hq⟩ := hv
    exact wpAny_bind (wpAny_truthy_bool (wpAny_pure ⟨_, rfl, hq⟩))
  have one : wpAny (model prog w) A (tryCompare (.ref x) "__ne__" b) (fun r s' => ∃ v, r = some (.bool v) ∧ Q (.bool v) s') E s := by
    unfold tryCompare
    refine wpAny_bind (ifBound_B (n1 := "") (n2 := "") (T := "") X I hne (fun v => PySem.F.cmp_object.ne.bind v) (wpAny_call (codeAny_call_builtin PySem.F.cmp_object.ne.plain PySem.F.cmpEntry_ne (PySem.W.check_slot PySem.F.cmpKind_ne PySem.F.cmpSplit_ne (I.type.andThen (PySem.W.looks_subIn X ho)) (PySem.F.cmpArgs_ne _ _) (wpAny_mono entry (fun v s' hv => ?_) fun _ _ e => e)))))
    obtain ⟨r, rfl, hq⟩ := hv
    exact wpAny_pure ⟨_, rfl, hq⟩
  unfold richCompare
  simp only [oneThing_ref]
  refine wpAny_holding (wpAny_bind (wpAny_cRoomFor (Nat.lt_of_succ_lt hu) ?_))
  refine wpAny_bind (I.type.here (wpAny_bind (hb.here ?_)))
  split
  · rename_i q
    have e : PySem.W.subIn K tb (.ref C) = some false := by
      rcases Bool.or_eq_true_iff.mp hn with e | e
      · rw [beq_iff_eq.mp e] at q; simp at q
      · exact beq_iff_eq.mp e
    refine wpAny_bind ((PySem.W.looks_subIn X e).here ?_)
    simp only [Bool.false_eq_true, if_false]
    refine wpAny_bind (wpAny_mono one (fun r s' z => ?_) fun _ _ e => e)
    obtain ⟨v, rfl, hq⟩ := z
    exact wpAny_pure hq
  · refine wpAny_bind (wpAny_pure ?_)
    simp only [Bool.false_eq_true, if_false]
    refine wpAny_bind (wpAny_mono one (fun r s' z => ?_) fun _ _ e => e)
    obtain ⟨v, rfl, hq⟩ := z
    exact wpAny_pure hq
end
end OwI
namespace L2
open PySem PySem.Spec PyProof.Rows
section
variable {X : Cx} {CX : CXT} {C g : Addr} {n : Nat} {sp : Sp} {E : XK}
theorem ins_at {P : Program} {w : World} {H : Hp} {h : Heap} {a C dx : Addr} {fs : List (Str × V)} (hok : HOk P w H h) (e : H a = some (.ins C dx fs)) : ∃ ox od, PySem.W.InstAt h a ox C (some od) := by
  obtain ⟨mA, J, _⟩ := ins_get hok e
  obtain ⟨od, J, _⟩ := J.look
  exact ⟨_, od, J⟩
/-- str(x), the class's own __str__ -/
def rStrI (C : Addr) (sp : Sp) (E : XK) : List V → Hp → VK → Prop := fun xs H Q => ∃ a dx fs, xs = [V.ref a] ∧ H a = some (.ins C dx fs) ∧ sp [.ref a] H (fun z H' => ∃ t, z = .str t ∧ Q z H') E
theorem call_strI (hs : PySem.W.findIn X.K (.ref C) "__str__" = some (some (.ref g))) (hf : PySem.W.isFn X.K (.ref g) = true) (F : FnR X.prog X.w X.K X.mg X.base CX n g sp) (hr : Room (n + 2) X.A) (hx : Passes CX X E) : CallR X (.type "str") (rStrI C sp E) := by
  intro pins s σ H xs us Q I r h
  obtain ⟨a, dx, fs, rfl, ha, q⟩ := h
  obtain ⟨u, rfl, ru⟩ := r.one
  cases (show u = Value.ref a from ru)
  obtain ⟨ox, od, J⟩ := ins_at I.hok ha
  have hr2 : Room n X.A.in1.in1 := (show Room (n + 1) X.A.in1 from Room.in1 hr).in1
  refine OwI.str_own hr2.units0 I.kIn J hs hf (wpAny_mono (wpAny_call (SlX.run_at (us := [.ref a]) (ws := [.ref a]) F hr2 I.env0.in1.in1 hx I (.cons rfl .nil) q)) (fun w s' z => ?_) fun _ _ x => x)
  obtain ⟨z', H', I', rz, i, ei, qz⟩ := z
  subst ei
  obtain ⟨t, e⟩ := (show ∃ t, w = Value.str i t from rz)
  cases e
  exact ⟨i, t, rfl, .str i, H', I', ⟨t, rfl⟩, qz⟩
/-- the other side: an instance of the class, or a text -/
def OthI (K : PySem.W.Frag) (H : Hp) (C : Addr) (y : V) : Prop := (∃ b dy gs, y = .ref b ∧ H b = some (.ins C dy gs)) ∨ (∃ z, y = .str z ∧ PySem.W.subIn K (.type "str") (.ref C) = some false)
theorem OthI.looks {pins : List (Addr × Obj)} {σ : St} {H : Hp} {s : Shared} {y : V} {u : Value} (h : OthI X.K H C y) (I : Inv X pins σ H s) (r : RelV y u) : ∃ tb, PySem.W.Looks (model X.prog X.w) s.heap (typeOf u) tb ∧ PySem.W.notFirst X.K C tb = true := by
  rcases h with ⟨b, dy, gs, rfl, hb⟩ | ⟨z, rfl, hs⟩
  · cases (show u = Value.ref b from r)
    obtain ⟨ox, od, J⟩ := ins_at I.hok hb
    exact ⟨_, J.type, by simp [PySem.W.notFirst]⟩
  · obtain ⟨t, e⟩ := (show ∃ t, u = Value.str z t from r)
    cases e
    exact ⟨.type "str", PySem.W.Looks.of_pure rfl, by simp [PySem.W.notFirst, hs]⟩
/-- x == y, x != y: the class's own __eq__ answers; neg: the other way round -/
def rOwnI (K : PySem.W.Frag) (C : Addr) (neg : Bool) (sp : Sp) (E : XK) : R2 := fun x y H Q => ∃ a dx fs, x = .ref a ∧ H a = some (.ins C dx fs) ∧ OthI K H C y ∧ sp [x, y] H (fun z H' => ∃ r : Bool, z = .bl r ∧ Q (.bl (neg ^^ r)) H') E
theorem op_eqI (hs : PySem.W.findIn X.K (.ref C) "__eq__" = some (some (.ref g))) (hf : PySem.W.isFn X.K (.ref g) = true) (F : FnR X.prog X.w X.K X.mg X.base CX n g sp) (hr : Room n X.A) (hx : Passes CX X E) : OpR X (compareOp .Eq) (rOwnI X.K C false sp E) := by
  intro pins s σ H x y v u Q I rx ry h
  obtain ⟨a, dx, fs, rfl, ha, ho, q⟩ := h
  cases (show v = Value.ref a from rx)
  obtain ⟨ox, od, J⟩ := ins_at I.hok ha
  obtain ⟨tb, hb, hn⟩ := ho.looks I ry
  obtain ⟨m, hF⟩ := I.fr
  show wpAny (model X.prog X.w) X.A (richCompare .Eq (.ref a) u) (EP X pins σ Q) X.xe s
  refine PySem.W.cmp_K (op := .Eq) (tb := tb) hr.units0 hF I.ok.mod.kin J hb hn hs hf ?_
  refine wpAny_mono (wpAny_call (run_fnR (us := [.ref a, u]) (vs := [.ref a, y]) F hr hx I (.cons rfl (.cons ry .nil)) q)) (fun w s' z => ?_) fun _ _ x => x
  obtain ⟨z', H', I', rz, r, er, qz⟩ := z
  subst er
  rw [Bool.false_xor] at qz
  exact SlX.cmpback rz ⟨_, H', I', rz, qz⟩
theorem op_neI (hs : PySem.W.findIn X.K (.ref C) "__eq__" = some (some (.ref g))) (hf : PySem.W.isFn X.K (.ref g) = true) (hne : PySem.W.findIn X.K (.ref C) "__ne__" = some (some (.builtin "object.__ne__"))) (hob : PySem.W.subIn X.K (.ref C) (.type "object") = some true)
    (F : FnR X.prog X.w X.K X.mg X.base CX n g sp) (hr : Room (n + 1) X.A) (hx : Passes CX X E) : OpR X (compareOp .NotEq) (rOwnI X.K C true sp E) := by
  intro pins s σ H x y v u Q I rx ry h
  obtain ⟨a, dx, fs, rfl, ha, ho, q⟩ := h
  cases (show v = Value.ref a from rx)
  obtain ⟨ox, od, J⟩ := ins_at I.hok ha
  obtain ⟨tb, hb, hn⟩ := ho.looks I ry
  show wpAny (model X.prog X.w) X.A (richCompare .NotEq (.ref a) u) (EP X pins σ Q) X.xe s
  have hr1 : Room n X.A.in1 := Room.in1 hr
  refine OwI.ne_own hr1.units0 I.kIn J hb hn hob hs hf hne ?_
  refine wpAny_mono (wpAny_call (SlX.run_at (us := [.ref a, u]) (ws := [.ref a, y]) F hr1 I.env0.in1 hx I (.cons rfl (.cons ry .nil)) q)) (fun w s' z => ?_) fun _ _ x => x
  obtain ⟨z', H', I', rz, r, er, qz⟩ := z
  subst er
  rw [Bool.true_xor] at qz
  cases (show w = Value.bool r from rz)
  exact ⟨r, rfl, .bl (!r), H', I', rfl, qz⟩
end
end L2

set_option Elab.async false
set_option linter.all false
set_option maxRecDepth 100000
set_option maxHeartbeats 2000000
/-! o.m(k = v, ..) of a def of the class; C.m(k = v, ..) of a staticmethod. -/
namespace L2
open PySem PySem.Spec PyProof.Rows
/-- C.m is a staticmethod: its record at p, its def at g -/
structure SMet (K : PySem.W.Frag) (C : Addr) (mc : Value) (m : Str) (p g : Addr) : Prop where
  at_ : PySem.W.findCls K (.ref C) mc m = some (.get (.builtin "staticmethod.__get__") (.ref p) .none (.ref C))
  rc : ∃ rest, PySem.W.recIn K p "staticmethod" = some (.ref g :: rest)
  kp : PySem.W.keepIn K (.ref g) = true
/-- o.m(k = v, ..) -/
def tMethK (C : Addr) (m : Str) (n : Nat) (sp : Sp) (gV : List V → List V → List V) (E : XK) (ta : TE) (tk : TA) : TE := fun σ H Q => ta σ H fun x H1 => ∃ a dx fs, x = .ref a ∧ H1 a = some (.ins C dx fs) ∧ fs.lookup m = none ∧ tk σ H1 fun zs H2 => zs.length = n ∧ sp (gV [.ref a] zs) H2 Q E
/-- C.m(k = v, ..) -/
def tSMethK (C : Addr) (n : Nat) (sp : Sp) (gV : List V → List V → List V) (E : XK) (ta : TE) (tk : TA) : TE := fun σ H Q => ta σ H fun x H1 => x = .ref C ∧ tk σ H1 fun zs H2 => zs.length = n ∧ sp (gV [] zs) H2 Q E
section
variable {X : Cx} {CX : CXT} {k n : Nat} {f C p : Addr} {fd : FuncData} {ps ks : List Str} {sp : Sp} {E : XK} {m : Str} {apos pos : Pos} {o : Expr} {kws : List Keyword} {ta : TE} {tk : TA} {g : List Value → List Value → List Value} {gV : List V → List V → List V} {mc : Value}
theorem run_kbn {pins : List (Addr × Obj)} {σ : St} {H : Hp} {s : Shared} {Q : VK} {us ws : List Value} {vs zs : List V} (F : FnOk X.prog X.w X.K X.mg X.base CX k f fd ps sp) (hr : Room k X.A) (hb : KBn X.K fd ps n ks g gV) (hx : Passes CX X E)
    (I : Inv X pins σ H s) (r : Vals vs us) (rz : Vals zs ws) (l1 : us.length = n) (l2 : zs.length = ks.length) (h : sp (gV vs zs) H Q E) : wpAny (model X.prog X.w) X.A (call (.ref f) us (ks.zip ws)) (EP X pins σ Q) X.xe s := by
  refine wpAny_call (codeAny_mono (F.run X.A X.stack s H ⟨us, ks.zip ws⟩ (g us ws) (gV vs zs) Q E hr I.env0 (hb.to s us ws I.kIn l1 (rz.length.symm.trans l2)) (hb.rel r rz) h) fun r s' hq => ?_)
  cases r with
  | error e => exact hx pins σ H s e s' I hq
  | ok fl =>
    cases fl with
    | ret u => exact I.after hq
    | next => exact False.elim hq
    | brk => exact False.elim hq
    | cont => exact False.elim hq
theorem pe_methK {pl : Sem Bool} (he : PE X o ta) (c : Cls X.K C) (hm : Meth X.K C m f) (F : FnOk X.prog X.w X.K X.mg X.base CX k f fd ps sp) (hr : Room k X.A) (hb : KBn X.K fd ps 1 ks g gV) (hx : Passes CX X E) (hkw : PK X kws tk)
    (hall : (backToKw pos (keywordEach kws X.env)).all (·.1.isSome) = true := by rfl) (hks : (backToKw pos (keywordEach kws X.env)).filterMap (·.1) = ks := by rfl)
    (hpl : ((backTo pos (starEach [] X.env)).any (·.1) || (backToKw pos (keywordEach kws X.env)).any (·.1.isNone)) = false := by rfl)
    (ht : eval (.Call (.Attribute o m apos) [] kws pos) X.env = (do
      let ov ← eval o X.env
      standAt apos.atName
      let (f, first) ← holding [ov] (getMethod ov m pl)
      callWith pos f first (backTo pos (starEach [] X.env)) (backToKw pos (keywordEach kws X.env))) := by rfl) :
    PE X (.Call (.Attribute o m apos) [] kws pos) (tMethK C m ks.length sp gV E ta tk) := by
  refine ⟨fun pins s σ H Q I h => ?_⟩
  refine PySem.W.methodCall_KW (pl := pl) (thn (he.run pins s σ H _ I h) fun u s1 ⟨x, H1, I1, rx, a, dx, fs, ex, ea, l, q⟩ => ?_) ht
  subst ex
  obtain rfl : u = Value.ref a := rx
  refine getmeth_ok I1 ea c hm l ?_
  refine PySem.W.callWith_KW0 (first := [.ref a]) (h₀ := X.base) I.ok.mod.kin hm.kp hall ?_ hpl
  refine thn (hkw.run pos pins s1 σ H1 _ I1 q) fun ws s2 ⟨zs, H2, I2, rz, l2, q2⟩ => ⟨I2.kIn, ?_⟩
  rw [hks]
  exact run_kbn (us := [.ref a]) (vs := [.ref a]) F hr hb hx I2 (.cons rfl .nil) rz rfl l2 q2
theorem pe_smethK {pl : Sem Bool} (he : PE X o ta) (r : ClX.CRead X.K C mc) (c : SMet X.K C mc m p f) (F : FnOk X.prog X.w X.K X.mg X.base CX k f fd ps sp) (hr : Room k X.A) (hb : KBn X.K fd ps 0 ks g gV) (hx : Passes CX X E) (hkw : PK X kws tk)
    (hall : (backToKw pos (keywordEach kws X.env)).all (·.1.isSome) = true := by rfl) (hks : (backToKw pos (keywordEach kws X.env)).filterMap (·.1) = ks := by rfl)
    (hpl : ((backTo pos (starEach [] X.env)).any (·.1) || (backToKw pos (keywordEach kws X.env)).any (·.1.isNone)) = false := by rfl)
    (ht : eval (.Call (.Attribute o m apos) [] kws pos) X.env = (do
      let ov ← eval o X.env
      standAt apos.atName
      let (f, first) ← holding [ov] (getMethod ov m pl)
      callWith pos f first (backTo pos (starEach [] X.env)) (backToKw pos (keywordEach kws X.env))) := by rfl) :
    PE X (.Call (.Attribute o m apos) [] kws pos) (tSMethK C ks.length sp gV E ta tk) := by
  refine ⟨fun pins s σ H Q I h => ?_⟩
  refine PySem.W.methodCall_KW (pl := pl) (thn (he.run pins s σ H _ I h) fun u s1 ⟨x, H1, I1, rx, ex, q⟩ => ?_) ht
  subst ex
  obtain rfl : u = Value.ref C := rx
  obtain ⟨rest, hp⟩ := c.rc
  refine PySem.W.method_cls I1.kIn r.ga ?_
  refine PySem.W.cls_bind I1.kIn r.rd c.at_ (wpAny_call (PySem.W.sm_get (s := { s1 with toks := s1.toks + 1 }) I1.kIn hp (PySem.W.handed_on rfl ?_)))
  have I1' : Inv X pins σ H1 { s1 with toks := s1.toks + 1 } := I1.tok _
  refine PySem.W.callWith_KW0 (first := []) (h₀ := X.base) I.ok.mod.kin c.kp hall ?_ hpl
  refine thn (hkw.run pos pins _ σ H1 _ I1' q) fun ws s2 ⟨zs, H2, I2, rz, l2, q2⟩ => ⟨I2.kIn, ?_⟩
  rw [hks]
  exact run_kbn (us := []) (vs := []) F hr hb hx I2 .nil rz rfl l2 q2
end
end L2

set_option Elab.async false
set_option linter.all false
set_option maxRecDepth 100000
set_option maxHeartbeats 2000000
/-! sets of texts: set([..]), sorted(set) -/
namespace My
open PySem PySem.Spec PyProof.Rows L2
open PySem.Froz (SD sObj TxOk addTx tailTx is_str add_ok add_x)
/-- a new set -/
abbrev noneYet (w : World) : Obj := { cls := .type "set", dict := none, data := .set #[] 0 (.fresh 0 0 (!w.params.followText "set-order")) }
/-- a payload that can be walked -/
def Rising (w : World) (D : SD) : Prop := Ris D.2.2.place.toList ∧ (w.params.followText "set-order" = true ∨ D.2.2.led = true)
theorem rising_add {w : World} {D : SD} (h : Int) (v : Value) (r : Rising w D) : Rising w (addTx h v D) := by
  obtain ⟨es, ep, t⟩ := D
  obtain ⟨r1, r2⟩ := r
  have a1 := layNew_ris t es h v r1
  have a2 := layNew_led t es h v
  show Rising w (tailTx ep (layNew t es h v).1 (if (layNew t es h v).2.1.plain = true then { (layNew t es h v).2.1 with plain := false } else (layNew t es h v).2.1) (layNew t es h v).2.2.1)
  generalize layNew t es h v = Z at a1 a2
  obtain ⟨es1, t1, wd, gv⟩ := Z
  dsimp only at a1 a2 ⊢
  have b1 : Ris (if t1.plain = true then { t1 with plain := false } else t1).place.toList := by
    split <;> exact a1
  have b2 : (if t1.plain = true then { t1 with plain := false } else t1).led = t.led := by
    split <;> exact a2
  generalize (if t1.plain = true then { t1 with plain := false } else t1) = t2 at b1 b2
  unfold tailTx
  split
  · exact ⟨relayAll_ris .., r2.imp id fun z => by
      show (relayAll t2 es1 _).2.1.led = true
      rw [relayAll_led, b2]
      exact z⟩
  · exact ⟨b1, r2.imp id fun z => by
      show t2.led = true
      rw [b2]
      exact z⟩
/-- the set at a holds just the texts l -/
def SSet (P : Program) (w : World) (h : Heap) (a : Addr) (l : List Str) : Prop := ∃ D : SD, h.get? a = some (sObj "set" D) ∧ TxOk P w D l ∧ l.Nodup ∧ Rising w D
theorem SSet.at {P : Program} {w : World} {h h' : Heap} {a : Addr} {l : List Str} (R : SSet P w h a l) (k : ∀ o, h.get? a = some o → h'.get? a = some o) : SSet P w h' a l := by
  obtain ⟨D, h1, r⟩ := R
  exact ⟨D, k _ h1, r⟩
section
variable {P : Program} {w : World} {A : Around} {E : Value → Shared → Prop} {s : Shared}
/-- one more text -/
theorem sset_add {a : Addr} {l : List Str} {k : Str} {u : Tok} {Q : Bool → Shared → Prop} (R : SSet P w s.heap a l) (hb : l.length + 1 < scanBound)
    (hQ : ∀ h', Heap.SameBut a s.heap h' → SSet P w h' a (if k ∈ l then l else k :: l) → ∀ b, Q b { s with heap := h' }) : wpAny (model P w) A (setAddHashed a (.str k u) (hashStr w k)) Q E s := by
  obtain ⟨D, ho, F, nd, rs⟩ := id R
  by_cases hk : k ∈ l
  · obtain ⟨es, ep, t⟩ := D
    have hd : (sObj "set" (es, ep, t)).data = .set es ep t := rfl
    have hf : t.fits es.size = true := F.fit
    have hel : ElemsOf (strKind P w) es.toList := F.el
    have hb0 : es.size < scanBound := by
      have z : es.size = l.length := F.sz
      omega
    have hkey : (strKind P w).is k (.str k u) = true := is_str k u
    obtain ⟨e, he, pe⟩ := (F.mem k).mp hk
    unfold setAddHashed setAddHashedIn
    refine wpAny_holding (wpAny_bind (wpAny_setState_of ho hd hf ?_))
    dsimp only
    rw [byScan_of rfl hb0 hel]
    simp only [↓reduceIte]
    unfold setAddByScan
    refine wpAny_bind (wpAny_bind (wpAny_rule (wpAny_bind (wpAny_setScan_of (knd := strKind P w) (k := k) hkey ho hd hf hel ?_))))
    cases hfi : List.findIdx? (fun e => (strKind P w).is k e.2) es.toList with
    | none =>
      have c := List.findIdx?_eq_none_iff.mp hfi e he
      rw [pe] at c
      cases c
    | some j =>
      dsimp only
      have q := hQ s.heap (Heap.SameBut.refl a s.heap)
      rw [if_pos hk] at q
      exact wpAny_pure (wpAny_pure (q R _))
  · refine add_x ho F hk hb ?_
    have q := hQ (s.heap.update a (fun _ => sObj "set" (addTx (hashStr w k) (.str k u) D))) (Heap.SameBut.update s.heap a _)
    rw [if_neg hk] at q
    exact q ⟨_, Heap.get?_update_self _ ho rfl, add_ok u F, List.nodup_cons.mpr ⟨hk, nd⟩, rising_add _ _ rs⟩ true
/-- the texts that a walk gives, all added -/
theorem sset_loop {I : Addr} {fp wr : List Addr} {G : Array GenState → Array GenState → Prop} {n : Nat} {Pv : Nat → Value → Prop} {St : Nat → Shared → Prop} {R : Result → Shared → Prop}
    (W : WalksS P w A.in1 I fp wr G n Pv St) (S : Addr) (hSf : S ∉ fp) (zs : List Str) (hn : n = zs.length) (hb : zs.length + 1 < scanBound) (hval : ∀ i v, Pv i v → ∃ z t, zs[i]? = some z ∧ v = .str z t) :
    ∀ (k i : Nat) (s : Shared), n - i = k → i ≤ n → St i s → (∃ l, l.length ≤ i ∧ (∀ z, z ∈ l ↔ z ∈ zs.take i) ∧ SSet P w s.heap S l) →
      (∀ s' l, Moved (S :: wr) G s s' → l.length ≤ n → (∀ z, z ∈ l ↔ z ∈ zs) → SSet P w s'.heap S l → R (.ok (.ret .none)) s') →
      codeAny (model P w) A (.builtin "set.update.loop" ⟨[.ref S, .ref I], []⟩) R s := by
  have hSw : S ∉ wr := fun h => hSf (W.sub _ h)
  have hsub : ∀ b ∈ wr, b ∈ S :: wr := fun b hb => List.mem_cons_of_mem _ hb
  intro k
  induction k with
  | zero =>
    intro i s hk' hi hst ⟨l, hl, hm, hS⟩ hR
    obtain rfl : i = n := by omega
    refine codeAny_builtin F.entry_set_update_loop ?_
    rw [Around.under_plainId F.plain_set_update_loop _]
    show wpAny _ A.in1 (pyNext (.ref I) >>= _) _ _ s
    refine wpAny_bind (W.done s _ _ hst fun s' mv => ?_)
    show wpAny _ A.in1 (ret Value.none) _ _ s'
    rw [List.take_of_length_le (by omega)] at hm
    exact wpAny_pure (hR s' l (mv.mono hsub) hl hm (hS.at fun o e => mv.heap S o hSw e))
  | succ k ih =>
    intro i s hk' hi hst ⟨l, hl, hm, hS⟩ hR
    have hlt : i < n := by omega
    refine codeAny_builtin F.entry_set_update_loop ?_
    rw [Around.under_plainId F.plain_set_update_loop _]
    show wpAny _ A.in1 (pyNext (.ref I) >>= _) _ _ s
    refine wpAny_bind (W.item i s _ _ hlt hst fun v s' hP hst' mv => ?_)
    obtain ⟨z, t, hz, rfl⟩ := hval i v hP
    have hS' : SSet P w s'.heap S l := hS.at fun o e => mv.heap S o hSw e
    show wpAny _ A.in1 (holding [Value.str z t] (setAdd S (.str z t)) >>= _) _ _ s'
    refine wpAny_bind (wpAny_holding ?_)
    unfold setAdd
    refine wpAny_holding (wpAny_bind ((strKind P w).pyHash (k := z) (is_str z t) ?_))
    refine sset_add (s := { s' with toks := s'.toks + 1 }) hS' (by omega) fun h' hsb hS2 b => ?_
    have hl2 : (if z ∈ l then l else z :: l).length ≤ i + 1 := by
      split
      · omega
      · rw [List.length_cons]; omega
    have hm2 : ∀ y, y ∈ (if z ∈ l then l else z :: l) ↔ y ∈ zs.take (i + 1) := fun y => by
      rw [List.take_add_one, hz, List.mem_append, ← hm y]
      split
      · rename_i q
        exact ⟨.inl, fun h => h.elim id fun h => by
          have e : y = z := by simpa using h
          rw [e]
          exact q⟩
      · rw [List.mem_cons]
        exact ⟨fun h => h.elim (fun h => .inr (by simp [h])) .inl, fun h => h.elim .inr fun h => .inl (by simpa using h)⟩
    refine wpAny_pure ⟨plainId_quiet F.plain_set_update_loop _, ih (i + 1) _ (by omega) hlt (W.frame _ s' _ _ hst' (Nat.le_succ _) fun b hb o e => ?_) ⟨_, hl2, hm2, hS2⟩ fun s'' l2 mv2 c1 c2 c3 => ?_⟩
    · rw [hsb.2 b (fun h : b = S => hSf (by rw [← h]; exact hb))]; exact e
    · refine hR s'' l2 (Moved.trans W.gtrans ((mv.mono hsub).then_heap (Nat.le_succ _) fun b o hb e => ?_) mv2) c1 c2 c3
      rw [hsb.2 b (fun h : b = S => hb (by rw [h]; exact List.mem_cons_self))]; exact e
theorem StrsAre.lengths : ∀ {vs : List Value} {zs : List Str}, StrsAre vs zs → vs.length = zs.length
  | _, _, .nil => rfl
  | _, _, .cons _ _ r => congrArg Nat.succ (StrsAre.lengths r)
theorem strs_get : ∀ {vs : List Value} {zs : List Str}, StrsAre vs zs → ∀ (i : Nat) (v : Value), vs[i]? = some v → ∃ z t, zs[i]? = some z ∧ v = .str z t
  | _, _, .nil, _, _, h => by simp at h
  | _, _, .cons y t r, 0, v, h => ⟨y, t, rfl, (Option.some.inj h).symm⟩
  | _, _, .cons y t r, i + 1, v, h => strs_get r i v h
theorem sset_new {h : Heap} {a : Addr} (ho : h.get? a = some (noneYet w)) : SSet P w h a [] :=
  ⟨(#[], 0, .fresh 0 0 (!w.params.followText "set-order")), ho, TxOk.nil rfl, List.nodup_nil, List.Pairwise.nil, by
    show _ ∨ (!w.params.followText "set-order") = true
    cases w.params.followText "set-order"
    · exact .inr rfl
    · exact .inl rfl⟩
set_option maxHeartbeats 3200000 in
theorem set_strs {l : Addr} {items : Array Value} (ns : List Str) {Q : Value → Shared → Prop} (nh : A.handled = none) (li : s.heap.IsList l items) (ii : StrsAre items.toList ns) (few : ns.length + 1 < scanBound)
    (k : ∀ (h' : Heap) (tk : Nat) (c : List Str), SSet P w h' s.heap.objs.size c → (∀ z, z ∈ c ↔ z ∈ ns) → c.length ≤ ns.length → (∀ b o, s.heap.get? b = some o → h'.get? b = some o) → Q (.ref s.heap.objs.size) { s with heap := h', toks := tk }) :
    wpAny (model P w) A (call (.type "set") [.ref l]) Q E s := by
  have size : items.size = ns.length := (Array.length_toList (xs := items)).symm.trans ((StrsAre.lengths ii))
  obtain ⟨c0, tl0, hmro⟩ := F.called_set.mro; have hmade := F.called_set.made; have hsub := F.called_set.sub
  refine wpAny_call (codeAny_of_tree ?_); show wpAny _ _ (callAny (.type "set") _) _ _ _
  refine wpAny_pure ⟨Code.quiet_builtin _ (by decide +kernel), codeAny_builtin F.entry_type_call ?_⟩; rw [Around.under_plain (weight_type_call_type "set" [.ref l] []) rfl]
  have h1 := F.called_set.notType; have h2 := F.called_set.canCreate; have hct := F.typeCall_set_1 (.ref l)
  repeat (any_goals (first | assumption | wp_step))
  refine codeAny_mono (code_set_led1 (.ref l) (E := E) (Q₁ := fun obj s₁ => obj = .ref s.heap.objs.size ∧ s₁ = { s with heap := s.heap.push (noneYet w) }) ⟨rfl, rfl⟩) fun r s₁ hr => ?_
  rcases r with e | fl
  · exact hr
  rcases fl with _ | _ | _ | obj
  · exact hr.elim
  · exact hr.elim
  · exact hr.elim
  obtain ⟨rfl, rfl⟩ := hr
  have atS : (s.heap.push (noneYet w)).get? s.heap.objs.size = some (noneYet w) := Heap.get?_push_size _ rfl
  have hT : Shared.TypeIs { s with heap := s.heap.push (noneYet w) } (.ref s.heap.objs.size) "set" := ⟨_, atS, rfl⟩
  have hli := F.called_set.init.lookup; have hbi := F.called_set.init.bind (.ref s.heap.objs.size)
  repeat (any_goals (first | assumption | wp_step))
  refine codeAny_mono (codeAny_call_builtin (R := wants (fun r s₂ => r = .none ∧ ∃ h' tk c, s₂ = { s with heap := h', toks := tk } ∧ SSet P w h' s.heap.objs.size c ∧ (∀ z, z ∈ c ↔ z ∈ ns) ∧ c.length ≤ ns.length ∧
      (∀ b o, s.heap.get? b = some o → h'.get? b = some o)) E) F.called_set.init.plain F.entry_set_init (check_set_init_1 hT ?_)) fun r₂ s₂ hr₂ => ?_
  · obtain ⟨ol, hol, hcl, nl, hdl⟩ := li
    obtain ⟨ocls, odict, odata, oslots⟩ := ol
    simp only at hcl hdl; subst hcl; subst hdl
    have hol' : (s.heap.push (noneYet w)).get? l = some { cls := .type "list", dict := odict, data := .seq items nl, slots := oslots } := Heap.get?_push_of_some _ hol
    have hsls := F.sub_list_set; have hslf := F.sub_list_frozenset
    have hne : (Value.type "list" == Value.type "dict") = false := by decide
    have lst : (s.heap.push (noneYet w)).IsList l items := ⟨_, hol', rfl, nl, rfl⟩
    unfold Builtin.«set.__init__» noKeywords Builtin.Frozenset.updateFrom
    generalize hPI : pyIter = PI
    wp_walk
    subst hPI
    refine wpAny_pyIter_list lst (wpAny_bind (wpAny_runValue ?_))
    have below : l < s.heap.objs.size := Heap.lt_size hol
    have nh3 : A.in1.in1.in1.handled = none := by simp [nh]
    have top : (s.heap.push (noneYet w)).objs.size = s.heap.objs.size + 1 := Heap.size_push ..
    have nI : l ≠ (s.heap.push (noneYet w)).objs.size := by rw [top]; exact Nat.ne_of_lt (Nat.lt_succ_of_lt below)
    have nS : s.heap.objs.size ∉ [(s.heap.push (noneYet w)).objs.size, l] := fun z => by
      rw [top] at z
      rcases List.mem_cons.mp z with z | z
      · exact Nat.ne_of_lt (Nat.lt_succ_self _) z
      · exact Nat.ne_of_gt below (List.mem_singleton.mp z)
    have val : ∀ (i : Nat) (v : Value), items[i]? = some v → ∃ k t, ns[i]? = some k ∧ v = .str k t := fun i v hv => by
      have hi : i < ns.length := by rw [← size]; exact (Array.getElem?_eq_some_iff.mp hv).1
      exact strs_get ii i v (by rw [Array.getElem?_toList]; exact hv)
    refine sset_loop ((Walks.list nh3 _ l nI items).toS) s.heap.objs.size nS ns size few val (items.size - 0) 0 _ (by omega) (Nat.zero_le _) ⟨⟨_, Heap.get?_push_size _ rfl, rfl, rfl⟩, (lst.push _)⟩ ?first ?last
    case first => exact ⟨[], Nat.le_refl 0, fun z => by simp, sset_new (Heap.get?_push_of_some _ atS)⟩
    case last =>
      intro s' c' hm hc' hm2 hS'
      obtain ⟨h', g2, d', tk', os'⟩ := s'
      cases (hm.gens : g2 = s.gens)
      cases (hm.drawn : d' = s.drawn)
      cases (hm.os : os' = s.os)
      show wpAny _ _ _ _ _ _
      refine wpAny_pure ?_
      show wpAny _ _ (ret Value.none) _ _ _
      refine wpAny_pure ⟨rfl, h', tk', c', rfl, hS', hm2, (by rw [← size]; exact hc'), fun b o e => ?_⟩
      have lt := Heap.lt_size e
      refine hm.heap b o (fun z => ?_) (Heap.get?_push_of_some _ (Heap.get?_push_of_some _ e))
      rcases List.mem_cons.mp z with z | z
      · exact Nat.ne_of_lt lt z
      · have := List.mem_singleton.mp z
        rw [top] at this
        exact Nat.ne_of_lt (Nat.lt_succ_of_lt lt) this
  · rcases r₂ with e | fl₂
    · exact hr₂
    rcases fl₂ with _ | _ | _ | r
    · exact hr₂.elim
    · exact hr₂.elim
    · exact hr₂.elim
    obtain ⟨rfl, h', tk, c', rfl, hS', hm2, hc', hk'⟩ := hr₂
    repeat (any_goals (first | assumption | wp_step))
    exact k _ _ _ hS' hm2 hc' hk'
end
end My

set_option Elab.async false
set_option linter.all false
set_option maxRecDepth 100000
set_option maxHeartbeats 2000000
namespace My
open PySem PySem.Spec PyProof.Rows L2
open PySem.Froz (SD sObj TxOk addTx tailTx is_str add_ok add_x)
theorem perm_of_sub : ∀ {l m : List Str}, l.Nodup → (∀ x ∈ l, x ∈ m) → m.length ≤ l.length → m.Perm l
  | [], m, _, _, h => by
    have e : m = [] := List.eq_nil_of_length_eq_zero (Nat.le_zero.mp h)
    rw [e]
  | x :: l, m, nd, sub, h => by
    obtain ⟨n1, n2⟩ := List.nodup_cons.mp nd
    have hx : x ∈ m := sub x List.mem_cons_self
    have pm := List.perm_cons_erase hx
    have hl := pm.length_eq
    rw [List.length_cons] at hl h
    refine pm.trans (List.Perm.cons x (perm_of_sub n2 (fun y hy => ?_) (by omega)))
    exact (List.mem_erase_of_ne (fun e : y = x => n1 (by rw [← e]; exact hy))).mpr (sub y (List.mem_cons_of_mem _ hy))
section
variable {P : Program} {w : World} {A : Around} {E : Value → Shared → Prop} {s : Shared}
theorem sorted_sset {a : Addr} {l : List Str} {Q : Value → Shared → Prop} (R : SSet P w s.heap a l) (hh : A.handled = none) (h64 : l.length < 64)
    (hQ : ∀ s' p (out : Array Value) (c : Nat) (ys : List Str), (∀ b o, s.heap.get? b = some o → s'.heap.get? b = some o) → s'.gens = s.gens → s'.os = s.os → s.heap.objs.size ≤ p →
      s'.heap.get? p = some (seqObj "list" out c) → StrsAre out.toList ys → ys.Perm l → sortedS ys = true → Q (.ref p) s') :
    wpAny (model P w) A (call (.builtin "sorted") [.ref a]) Q E s := by
  obtain ⟨D, ho, F, nd, rs, led⟩ := R
  obtain ⟨es, ep, t⟩ := D
  have hsz : es.size = l.length := F.sz
  have hf : t.fits es.size = true := F.fit
  refine Calls.call_function_entry kind_sorted plain_sorted entry_sorted (args_sorted1 _) ?_
  unfold Builtin.«sorted»
  refine wpAny_bind (m := checkCount "sorted" 1 1 _) (wpAny_pure ?_)
  refine wpAny_bind (collect_set (A := A.in1) (es := es) (ep := ep) (t := t) hh ⟨_, ho, rfl, rfl⟩ hf (by rw [hsz]; unfold scanBound; omega) rs led fun s1 vs k1 hz g1 o1 pm => ?_)
  have allS : ∀ e ∈ es.toList, ∃ z u, e.2 = Value.str z u ∧ (strKind P w).is z e.2 = true := fun e he => by
    obtain ⟨⟨k, hk, _⟩, _⟩ := F.el e he
    have hk2 : Value.isStrOf k e.2 = true := hk
    cases q : e.2 with
    | str z u =>
      exact ⟨z, u, rfl, is_str z u⟩
    | _ => rw [q] at hk2; simp [Value.isStrOf] at hk2
  have hvs : ∀ v ∈ vs, ∃ z u, v = Value.str z u := fun v hv => by
    obtain ⟨e, he, q⟩ := List.mem_map.mp (pm.mem_iff.mp hv)
    obtain ⟨z, u, h1, _⟩ := allS e he
    exact ⟨z, u, by rw [← q, h1]⟩
  have hS : StrsAre vs (vs.map strOf) := strsAre_map vs hvs
  have hvl : vs.length = l.length := by rw [pm.length_eq, List.length_map, Array.length_toList, hsz]
  have pl : (vs.map strOf).Perm l := by
    refine perm_of_sub nd (fun x hx => ?_) (by rw [List.length_map, hvl]; exact Nat.le_refl _)
    obtain ⟨e, he, q⟩ := (F.mem x).mp hx
    obtain ⟨z, u, h1, h2⟩ := allS e he
    have ez : x = z := by
      have q2 : Value.isStrOf x e.2 = true := q
      rw [h1] at q2
      simp [Value.isStrOf] at q2
      exact q2.symm
    refine List.mem_map.mpr ⟨e.2, pm.mem_iff.mpr (List.mem_map_of_mem he), ?_⟩
    rw [h1, ez]
    rfl
  refine wpAny_bind (wpAny_newList ?_ (by rw [hvl, sizeLine_eq]; omega))
  have hoL : (s1.heap.push (seqObj "list" vs.toArray 0)).get? s1.heap.objs.size = some (seqObj "list" vs.toArray 0) := Heap.get?_push_size _ rfl
  refine wpAny_bind (wpAny_holding (wpAny_call_entry slot_list_sort ⟨_, hoL, rfl⟩ entry_list_sort (list_sort_treeK strKind_oneLt hoL hS.keysOf (fun v₁ v₂ rest e => keyKind_strs (by rw [← e]; exact hS)) (by rw [hvl]; exact h64) fun st' hp hs => ⟨_, rfl, ?_⟩) (args_list_sort _)))
  obtain ⟨ys, a1, a2, a3⟩ := sorted_out_str hS hp hs
  obtain ⟨c, hc⟩ := sortedHeap_at (vs := vs) (out := (arrOf st').map (·.2)) hoL
  refine wpAny_pure ⟨_, rfl, hQ _ s1.heap.objs.size _ c ys (fun b u e => ?_) g1 o1 hz hc a1 (a2.trans pl) a3⟩
  have q := k1 b u e
  have hlt := Heap.lt_size q
  show (sortedHeap (s1.heap.push (seqObj "list" vs.toArray 0)) s1.heap.objs.size vs ((arrOf st').map (·.2))).get? b = some u
  rw [sortedHeap_old (Nat.ne_of_lt hlt) (by rw [size_push']; exact Nat.lt_succ_of_lt hlt)]
  exact Heap.get?_push_of_some _ q
end
/-- the set of texts at a -/
def SSetO (P : Program) (w : World) (a : Addr) (l : List Str) : HO := .ext fun h => SSet P w h a l
section
variable {X : Cx}
/-- set(xs), xs a list of texts -/
def rSetOfS (X : Cx) : List V → Hp → VK → Prop := fun xs H Q => ∃ (l : Addr) (ns : List Str), xs = [V.ref l] ∧ SqL X.K H l (ns.map V.str) ∧ ns.length < 64 ∧
  ∀ a c, H a = none → (∀ z, z ∈ c ↔ z ∈ ns) → c.length ≤ ns.length → Q (.ref a) (upd H a (SSetO X.prog X.w a c))
theorem cr_setOfS (hc : X.calm = true) : CallR X (.type "set") (rSetOfS X) := by
  intro pins s σ H xs us Q I r h
  obtain ⟨l, ns, rfl, hl, few, q⟩ := h
  rw [Vals.ref1 r]
  obtain ⟨its, rv, pl, hz⟩ := I.list hl
  refine set_strs (P := X.prog) (w := X.w) ns (I.ok.hd hc) pl.isList (by simpa using rv.strs) (by unfold scanBound; omega) fun h' tk c R hm hcn k => ?_
  have ok : ObjOk X.prog X.w H h' s.heap.objs.size (SSetO X.prog X.w s.heap.objs.size c) := ⟨R, by
    obtain ⟨D, h1, _⟩ := R
    exact ⟨_, h1⟩, fun h1 h2 p k => SSet.at p k⟩
  exact ⟨.ref s.heap.objs.size, upd H s.heap.objs.size (SSetO X.prog X.w s.heap.objs.size c), I.laid (t' := tk) k (Nat.le_refl _) ok, rfl, q _ c (I.hok.fresh (Nat.le_refl _)) hm hcn⟩
/-- sorted(found), fewer than 64 texts: rising, each once -/
def rSortedSS (X : Cx) : List V → Hp → VK → Prop := fun vs H Q => ∃ (a : Addr) (l : List Str), vs = [V.ref a] ∧ H a = some (SSetO X.prog X.w a l) ∧ l.length < 64 ∧
  (l.Nodup → ∀ (ys : List Str) (p : Addr), ys.Perm l → sortedS ys = true → H p = none → Q (.ref p) (upd H p (.lst (ys.map V.str))))
theorem cr_sortedSS (hc : X.calm = true) : CallR X (.builtin "sorted") (rSortedSS X) := by
  intro pins s σ H vs us Q I r h
  obtain ⟨a, l, rfl, ha, h64, q⟩ := h
  have R : SSet X.prog X.w s.heap a l := (I.hok a _ ha).1
  rw [Vals.ref1 r]
  have nd : l.Nodup := by
    obtain ⟨_, _, _, nd, _⟩ := R
    exact nd
  refine sorted_sset R (I.ok.hd hc) h64 fun s' p out c ys k g o hp hg hi hs hm => ?_
  have hlen : (ys.map V.str).length ≤ sizeLine := by rw [List.length_map, hs.length_eq, sizeLine_eq]; omega
  have hn : H p = none := I.hok.fresh hp
  have J : Inv X pins σ (upd H p (.lst (ys.map V.str))) { s with heap := s'.heap, gens := s'.gens, drawn := s'.drawn, toks := s'.toks } :=
    I.call (ch := []) (Un.laid k hp hn) (I.hok.laid k hp ⟨hlen, out.toList, c, vals_of_strs hi, hg⟩) (by rw [g]; exact I.bare) (fun _ z => nomatch z)
  have e : s' = { s with heap := s'.heap, gens := s'.gens, drawn := s'.drawn, toks := s'.toks } := by
    cases s'
    cases s
    cases o
    rfl
  rw [e]
  exact ⟨.ref p, _, J, rfl, q nd ys p hs hm hn⟩
end
end My

set_option Elab.async false
set_option linter.all false
set_option maxRecDepth 100000
set_option maxHeartbeats 2000000
namespace My
open PySem PySem.Spec PyProof.Rows L2
open PySem.Froz (SD sObj TxOk addTx tailTx is_str add_ok add_x)
section
variable {P : Program} {w : World} {A : Around} {E : Value → Shared → Prop} {s : Shared}
set_option maxHeartbeats 3200000 in
theorem set_strsT {l : Addr} {items : Array Value} (ns : List Str) {Q : Value → Shared → Prop} (nh : A.handled = none) (li : s.heap.IsTuple l items) (ii : StrsAre items.toList ns) (few : ns.length + 1 < scanBound)
    (k : ∀ (h' : Heap) (tk : Nat) (c : List Str), SSet P w h' s.heap.objs.size c → (∀ z, z ∈ c ↔ z ∈ ns) → c.length ≤ ns.length → (∀ b o, s.heap.get? b = some o → h'.get? b = some o) → Q (.ref s.heap.objs.size) { s with heap := h', toks := tk }) :
    wpAny (model P w) A (call (.type "set") [.ref l]) Q E s := by
  have size : items.size = ns.length := (Array.length_toList (xs := items)).symm.trans ((StrsAre.lengths ii))
  obtain ⟨c0, tl0, hmro⟩ := F.called_set.mro; have hmade := F.called_set.made; have hsub := F.called_set.sub
  refine wpAny_call (codeAny_of_tree ?_); show wpAny _ _ (callAny (.type "set") _) _ _ _
  refine wpAny_pure ⟨Code.quiet_builtin _ (by decide +kernel), codeAny_builtin F.entry_type_call ?_⟩; rw [Around.under_plain (weight_type_call_type "set" [.ref l] []) rfl]
  have h1 := F.called_set.notType; have h2 := F.called_set.canCreate; have hct := F.typeCall_set_1 (.ref l)
  repeat (any_goals (first | assumption | wp_step))
  refine codeAny_mono (code_set_led1 (.ref l) (E := E) (Q₁ := fun obj s₁ => obj = .ref s.heap.objs.size ∧ s₁ = { s with heap := s.heap.push (noneYet w) }) ⟨rfl, rfl⟩) fun r s₁ hr => ?_
  rcases r with e | fl
  · exact hr
  rcases fl with _ | _ | _ | obj
  · exact hr.elim
  · exact hr.elim
  · exact hr.elim
  obtain ⟨rfl, rfl⟩ := hr
  have atS : (s.heap.push (noneYet w)).get? s.heap.objs.size = some (noneYet w) := Heap.get?_push_size _ rfl
  have hT : Shared.TypeIs { s with heap := s.heap.push (noneYet w) } (.ref s.heap.objs.size) "set" := ⟨_, atS, rfl⟩
  have hli := F.called_set.init.lookup; have hbi := F.called_set.init.bind (.ref s.heap.objs.size)
  repeat (any_goals (first | assumption | wp_step))
  refine codeAny_mono (codeAny_call_builtin (R := wants (fun r s₂ => r = .none ∧ ∃ h' tk c, s₂ = { s with heap := h', toks := tk } ∧ SSet P w h' s.heap.objs.size c ∧ (∀ z, z ∈ c ↔ z ∈ ns) ∧ c.length ≤ ns.length ∧
      (∀ b o, s.heap.get? b = some o → h'.get? b = some o)) E) F.called_set.init.plain F.entry_set_init (check_set_init_1 hT ?_)) fun r₂ s₂ hr₂ => ?_
  · obtain ⟨ol, hol, hcl, nl, hdl⟩ := li
    obtain ⟨ocls, odict, odata, oslots⟩ := ol
    simp only at hcl hdl; subst hcl; subst hdl
    have hol' : (s.heap.push (noneYet w)).get? l = some { cls := .type "tuple", dict := odict, data := .seq items nl, slots := oslots } := Heap.get?_push_of_some _ hol
    have hsls := F.sub_tuple_set; have hslf := F.sub_tuple_frozenset
    have hne : (Value.type "tuple" == Value.type "dict") = false := by decide
    have lst : (s.heap.push (noneYet w)).IsTuple l items := ⟨_, hol', rfl, nl, rfl⟩
    unfold Builtin.«set.__init__» noKeywords Builtin.Frozenset.updateFrom
    generalize hPI : pyIter = PI
    wp_walk
    subst hPI
    refine wpAny_pyIter_tuple lst (wpAny_bind (wpAny_runValue ?_))
    have below : l < s.heap.objs.size := Heap.lt_size hol
    have nh3 : A.in1.in1.in1.handled = none := by simp [nh]
    have top : (s.heap.push (noneYet w)).objs.size = s.heap.objs.size + 1 := Heap.size_push ..
    have nI : l ≠ (s.heap.push (noneYet w)).objs.size := by rw [top]; exact Nat.ne_of_lt (Nat.lt_succ_of_lt below)
    have nS : s.heap.objs.size ∉ [(s.heap.push (noneYet w)).objs.size, l] := fun z => by
      rw [top] at z
      rcases List.mem_cons.mp z with z | z
      · exact Nat.ne_of_lt (Nat.lt_succ_self _) z
      · exact Nat.ne_of_gt below (List.mem_singleton.mp z)
    have val : ∀ (i : Nat) (v : Value), items[i]? = some v → ∃ k t, ns[i]? = some k ∧ v = .str k t := fun i v hv => by
      have hi : i < ns.length := by rw [← size]; exact (Array.getElem?_eq_some_iff.mp hv).1
      exact strs_get ii i v (by rw [Array.getElem?_toList]; exact hv)
    refine sset_loop ((Walks.tuple nh3 _ l nI items).toS) s.heap.objs.size nS ns size few val (items.size - 0) 0 _ (by omega) (Nat.zero_le _) ⟨⟨_, Heap.get?_push_size _ rfl, rfl, rfl⟩, (lst.push _)⟩ ?first ?last
    case first => exact ⟨[], Nat.le_refl 0, fun z => by simp, sset_new (Heap.get?_push_of_some _ atS)⟩
    case last =>
      intro s' c' hm hc' hm2 hS'
      obtain ⟨h', g2, d', tk', os'⟩ := s'
      cases (hm.gens : g2 = s.gens)
      cases (hm.drawn : d' = s.drawn)
      cases (hm.os : os' = s.os)
      show wpAny _ _ _ _ _ _
      refine wpAny_pure ?_
      show wpAny _ _ (ret Value.none) _ _ _
      refine wpAny_pure ⟨rfl, h', tk', c', rfl, hS', hm2, (by rw [← size]; exact hc'), fun b o e => ?_⟩
      have lt := Heap.lt_size e
      refine hm.heap b o (fun z => ?_) (Heap.get?_push_of_some _ (Heap.get?_push_of_some _ e))
      rcases List.mem_cons.mp z with z | z
      · exact Nat.ne_of_lt lt z
      · have := List.mem_singleton.mp z
        rw [top] at this
        exact Nat.ne_of_lt (Nat.lt_succ_of_lt lt) this
  · rcases r₂ with e | fl₂
    · exact hr₂
    rcases fl₂ with _ | _ | _ | r
    · exact hr₂.elim
    · exact hr₂.elim
    · exact hr₂.elim
    obtain ⟨rfl, h', tk, c', rfl, hS', hm2, hc', hk'⟩ := hr₂
    repeat (any_goals (first | assumption | wp_step))
    exact k _ _ _ hS' hm2 hc' hk'
end
end My

set_option Elab.async false
set_option linter.all false
set_option maxRecDepth 100000
set_option maxHeartbeats 2000000
/-! set(xs) of a list or tuple of texts -/
namespace My
open PySem PySem.Spec PyProof.Rows L2
section
variable {X : Cx}
/-- set(xs), xs a tuple of texts -/
def rSetOfT (X : Cx) : List V → Hp → VK → Prop := fun xs H Q => ∃ (l : Addr) (ns : List Str), xs = [V.ref l] ∧ SqT X.K H l (ns.map V.str) ∧ ns.length < 64 ∧
  ∀ a c, H a = none → (∀ z, z ∈ c ↔ z ∈ ns) → c.length ≤ ns.length → Q (.ref a) (upd H a (SSetO X.prog X.w a c))
theorem cr_setOfST (hc : X.calm = true) : CallR X (.type "set") (rSetOfT X) := by
  intro pins s σ H xs us Q I r h
  obtain ⟨l, ns, rfl, hl, few, q⟩ := h
  rw [Vals.ref1 r]
  obtain ⟨its, rv, pl, hz⟩ := I.tuple hl
  refine set_strsT (P := X.prog) (w := X.w) ns (I.ok.hd hc) pl (by simpa using rv.strs) (by unfold scanBound; omega) fun h' tk c R hm hcn k => ?_
  have ok : ObjOk X.prog X.w H h' s.heap.objs.size (SSetO X.prog X.w s.heap.objs.size c) := ⟨R, by
    obtain ⟨D, h1, _⟩ := R
    exact ⟨_, h1⟩, fun h1 h2 p k => SSet.at p k⟩
  exact ⟨.ref s.heap.objs.size, upd H s.heap.objs.size (SSetO X.prog X.w s.heap.objs.size c), I.laid (t' := tk) k (Nat.le_refl _) ok, rfl, q _ c (I.hok.fresh (Nat.le_refl _)) hm hcn⟩
end
end My

set_option Elab.async false
set_option linter.all false
set_option maxRecDepth 100000
set_option maxHeartbeats 2000000
/-! len(x) of an instance whose class has its own def for it; set(xs) of a tuple of texts -/
namespace L2
open PySem PySem.Spec PyProof.Rows
section
variable {X : Cx} {CX : CXT} {C g : Addr} {n : Nat} {sp : Sp} {E : XK}
def rLenI (C : Addr) (sp : Sp) (E : XK) : List V → Hp → VK → Prop := fun xs H Q => ∃ a dx fs, xs = [V.ref a] ∧ H a = some (.ins C dx fs) ∧ sp [.ref a] H (fun z H' => ∃ k : Nat, z = .int k ∧ k < 2 ^ 62 ∧ Q z H') E
theorem call_lenI (hs : PySem.W.findIn X.K (.ref C) "__len__" = some (some (.ref g))) (hf : PySem.W.isFn X.K (.ref g) = true) (F : FnR X.prog X.w X.K X.mg X.base CX n g sp) (hr : Room (n + 1) X.A) (hx : Passes CX X E) : CallR X (.builtin "len") (rLenI C sp E) := by
  intro pins s σ H xs us Q I r h
  obtain ⟨a, dx, fs, rfl, ha, q⟩ := h
  obtain ⟨u, rfl, ru⟩ := r.one
  cases (show u = Value.ref a from ru)
  obtain ⟨ox, od, J⟩ := ins_at I.hok ha
  obtain ⟨m, hF⟩ := I.fr
  have hr1 : Room n X.A.in1 := Room.in1 hr
  refine PySem.W.len_K hF I.ok.mod.kin J hs hf (wpAny_mono (wpAny_call (SlX.run_at (us := [.ref a]) (ws := [.ref a]) F hr1 I.env0.in1 hx I (.cons rfl .nil) q)) (fun w s' z => ?_) fun _ _ x => x)
  obtain ⟨z', H', I', rz, k, ek, hk, qz⟩ := z
  subst ek
  obtain ⟨t, e⟩ := (show ∃ t, w = Value.int k t from rz)
  cases e
  exact ⟨⟨by omega, by omega⟩, .int k, H', I'.tok _, ⟨s'.toks, rfl⟩, qz⟩
end
end L2

set_option Elab.async false
set_option maxRecDepth 100000
set_option maxHeartbeats 4000000
/-! The law's source of draws: the text by places, the data, the promises. -/
namespace My
open PySem L2
def top (i : Nat) : Stmt := PySem.Challenge.pw_unfooled_k04_readers_made_and_their_text.main.body.getD i (.Pass ⟨0, 0, 0, 0⟩)
abbrev sDeal : Stmt := top 33
abbrev sDraw : Stmt := top 34
abbrev sPick : Stmt := top 35

/-! ### heaps -/
/-- all stands as it was but what lies at x and y -/
def Kp (x y : Addr) (H H' : Hp) : Prop := ∀ b o, H b = some o → b ≠ x → b ≠ y → H' b = some o
theorem Kp.refl {x y : Addr} (H : Hp) : Kp x y H H := fun _ _ h _ _ => h
theorem Kp.trans {x y : Addr} {H H1 H2 : Hp} (a : Kp x y H H1) (b : Kp x y H1 H2) : Kp x y H H2 := fun c o h n m => b c o (a c o h n m) n m
theorem Kp.same {x y : Addr} {H H' : Hp} (a : Same H H') : Kp x y H H' := fun c o h _ _ => a c o h
theorem Kp.new {x y p : Addr} {o : HO} {H : Hp} (h : H p = none) : Kp x y H (upd H p o) := fun c u e _ _ => by rw [upd_ne (ne_of_none e h)]; exact e
theorem Kp.at1 {x y : Addr} {o : HO} {H : Hp} : Kp x y H (upd H x o) := fun c u e n _ => by rw [upd_ne n]; exact e
theorem Kp.at2 {x y : Addr} {o : HO} {H : Hp} : Kp x y H (upd H y o) := fun c u e _ n => by rw [upd_ne n]; exact e
theorem Same.new {p : Addr} {o : HO} {H : Hp} (h : H p = none) : Same H (upd H p o) := fun c u e => by rw [upd_ne (ne_of_none e h)]; exact e
theorem Kp.seqL {K : PySem.W.Frag} {x y a : Addr} {H H' : Hp} {xs : List V} (k : Kp x y H H') (h : SqL K H a xs) (nx : a ≠ x) (ny : a ≠ y) : SqL K H' a xs := by
  rcases h with (h | ⟨o, h⟩) | h
  · exact .inl (.inl (k _ _ h nx ny))
  · exact .inl (.inr ⟨o, k _ _ h nx ny⟩)
  · exact .inr h

/-! ### the source of draws -/
/-- at dl: the source of draws; at c: its great cells -/
def Deal (H : Hp) (dl c : Addr) : Prop := ∃ (ns : List Int) (s k : Int), H dl = some (.lst [.ref c, .int s, .int k]) ∧ H c = some (.lst (ns.map V.int)) ∧ ns.length ≤ 63
theorem Deal.keep {H H' : Hp} {dl c : Addr} (d : Deal H dl c) (s : Same H H') : Deal H' dl c := by
  obtain ⟨ns, a, k, h1, h2, h3⟩ := d
  exact ⟨ns, a, k, s _ _ h1, s _ _ h2, h3⟩
theorem Deal.ne {H : Hp} {dl c : Addr} (d : Deal H dl c) : dl ≠ c := by
  obtain ⟨ns, s, k, h1, h2, _⟩ := d
  intro e
  subst e
  rw [h1] at h2
  have z := HO.lst.inj (Option.some.inj h2)
  cases ns with
  | nil => cases z
  | cons n r => cases (List.cons.inj z).1
theorem dp_ints {K : PySem.W.Frag} {H : Hp} : ∀ ns : List Int, DpAll K H (ns.map V.int) (ns.map PyData.int)
  | [] => .nil
  | n :: r => .cons (.int n) (dp_ints r)

/-- _law_draw(deal, wide) -/
def spDraw : Sp := fun vs H Q _ => ∃ (dl c : Addr) (wd : Int), vs = [.ref dl, .int wd] ∧ 0 < wd ∧ wd < 1073741824 ∧ Deal H dl c ∧
  ∀ (r : Int) (H' : Hp), 0 ≤ r → r < wd → Deal H' dl c → Kp dl c H H' → Q (.int r) H'
/-- _law_pick(deal, some): some a list -/
def spPick (K : PySem.W.Frag) : Sp := fun vs H Q _ => ∃ (dl c l : Addr) (xs : List V), vs = [.ref dl, .ref l] ∧ SqL K H l xs ∧ l ≠ dl ∧ l ≠ c ∧ 0 < xs.length ∧ xs.length < 1000 ∧ Deal H dl c ∧
  ∀ (x : V) (H' : Hp), x ∈ xs → Deal H' dl c → Kp dl c H H' → Q x H'
/-- _law_any(deal, deep) -/
def spAny (n : Nat) : Sp := fun vs H Q _ => ∃ (dl c : Addr) (d : Int), vs = [.ref dl, .int d] ∧ 0 ≤ d ∧ d < (n : Int) ∧ Deal H dl c ∧
  ∀ (x : V) (H' : Hp), Deal H' dl c → Kp dl c H H' → Q x H'

/-- what comes behind a loop is shown first -/
theorem exit_first {c : TT} {tb : TS} {D : Ends} {σ : St} {H : Hp} (Ex : St → Hp → Prop) (hx : ∀ σ H, Ex σ H → D.nx σ H) (h : (∀ σ H, Ex σ H → D.nx σ H) → tWhile c tb D σ H) : tWhile c tb D σ H := h hx
theorem eqv_nil : PyData.eqv (.list (([] : List Int).map PyData.int)) (.list []) = true := rfl
theorem eqv_snoc : ∀ (ms : List Int) (z : Int), PyData.eqv (.list ((ms ++ [z]).map PyData.int)) (.list []) = false
  | [], _ => rfl
  | _ :: _, _ => rfl
theorem map_snoc (ms : List Int) (z : Int) : (ms ++ [z]).map V.int = ms.map V.int ++ [V.int z] := by simp
theorem snoc_last (xs : List V) (v : V) : (xs ++ [v])[(xs ++ [v]).length - 1]? = some v := by simp
theorem snoc_drop (xs : List V) (v : V) : (xs ++ [v]).dropLast = xs := by simp
theorem iteN {b : Bool} {A B : Prop} (h : b = false) (g : A) : if (!b) = true then A else B := by
  rw [h]
  exact g
theorem iteY {b : Bool} {A B : Prop} (h : b = true) (g : B) : if (!b) = true then A else B := by
  rw [h]
  exact g
theorem line63 {n : Nat} (h : n ≤ 63) : n < sizeLine := Nat.lt_of_le_of_lt h (by decide)

section
variable {P : Program} {w : World} {K : PySem.W.Frag} {mg : Str → Option Value} {base : Heap}
theorem scDraw : FnScope ["deal", "wide", "left"] ["deal", "wide"] (defScope sDraw) := ⟨rfl, rfl, rfl, by decide +kernel, rfl, by decide +kernel, by decide +kernel⟩
theorem ok_draw {f : Addr} {fd : FuncData} (F : Fun K "_law_draw" "_law_draw" sDraw f fd) (mi : mg "int" = none) : FnOk P w K mg base CX0 1 f fd ["deal", "wide"] spDraw := by
  refine F.ok scDraw (fun vs H Q E h => ?_) (fun cdv A outer s H vs Q E hr h => ?_)
  · obtain ⟨dl, c, wd, rfl, _⟩ := h
    rfl
  obtain ⟨dl, c, wd, rfl, hw0, hw1, D, k⟩ := h
  have hne : dl ≠ c := D.ne
  -- the body
  refine ⟨_, pss_cons (ps_while PassesOwn.never
      (PW.pt (pw_and (pt_cmpR (op_neD hr.units) (pe_ix ix_list (pv 0) pe_int (fun _ _ => rfl)) (pe_lst pa_nil) (nomark _))
        (pw_and1 (pt_cmpR op_eq (pe_ix ix_list (pe_ix ix_list (pv 0) pe_int (fun _ _ => rfl)) (pe_un un_neg pe_int) (fun _ _ => rfl)) pe_int (nomark _)))))
      (pss_one (ps_expr (pe_bm0 PySem.F.plainAttrs_list PySem.F.slot_list_pop PySem.F.type_list_pop mt_pop (pe_ix ix_list (pv 0) pe_int (fun _ _ => rfl))))))
    (pss_cons (ps_if (pt_cmpR (op_neD hr.units) (pe_ix ix_list (pv 0) pe_int (fun _ _ => rfl)) (pe_lst pa_nil) (nomark _))
      (pss_cons (ps_set (i := 2) scDraw.nd rfl (.inl rfl) (pe_bm0 PySem.F.plainAttrs_list PySem.F.slot_list_pop PySem.F.type_list_pop mt_pop (pe_ix ix_list (pv 0) pe_int (fun _ _ => rfl))))
      (pss_cons (ps_expr (pe_bm PySem.F.plainAttrs_list PySem.F.slot_list_append PySem.F.type_list_append mt_append (pe_ix ix_list (pv 0) pe_int (fun _ _ => rfl)) (pa_cons (pe_op op_fdiv (pv 2) (pv 1)) pa_nil)))
      (pss_one (ps_ret (pe_op op_mod (pe_callTy call_int1 (by rfl) mi (by decide +kernel) (pa_cons (pv 2) pa_nil)) (pv 1))))))
      pss_nil)
    (pss_cons (ps_asg (pe_op op_add (pe_ix ix_list (pv 0) pe_int (fun _ _ => rfl)) pe_int) (pg_sub (pv 0) pe_int set_list))
    (pss_cons (ps_asg (pe_op op_mod (pe_callTy call_int1 (by rfl) mi (by decide +kernel) (pa_cons (pe_op op_add (pe_op op_mul (pe_op op_add (pe_ix ix_list (pv 0) pe_int (fun _ _ => rfl)) (pe_op op_mul pe_int (pe_ix ix_list (pv 0) pe_int (fun _ _ => rfl)))) pe_int) pe_int) pa_nil)) pe_int) (pg_sub (pv 0) pe_int set_list))
    (pss_one (ps_ret (pe_op op_mod (pe_callTy call_int1 (by rfl) mi (by decide +kernel) (pa_cons (pe_op op_fdiv (pe_ix ix_list (pv 0) pe_int (fun _ _ => rfl)) pe_int) pa_nil)) (pv 1))))))), ?_⟩
  -- deal[0] is what it is
  have z63 : ∀ ns : List Int, ns.length ≤ 63 → (ns.map V.int).length < sizeLine := fun ns h => by rw [List.length_map]; exact line63 h
  refine exit_first (fun σ H1 => σ = [some (.ref dl), some (.int wd), none] ∧ Deal H1 dl c ∧ Kp dl c H H1) ?rest fun rest => ?loop
  case rest =>
    rintro σ H1 ⟨rfl, ⟨ns, s, kk, h1, h2, h3⟩, kp⟩
    refine ⟨_, rfl, dl, _, 0, .ref c, rfl, rfl, SqL.of h1, rfl, (by show 0 ≤ sizeLine; decide), fun p hp => ?_⟩
    have npc : c ≠ p := ne_of_none h2 hp
    have npd : dl ≠ p := ne_of_none h1 hp
    have h1' : (upd H1 p (.lst [])) dl = some (.lst [.ref c, .int s, .int kk]) := by rw [upd_ne npd]; exact h1
    have h2' : (upd H1 p (.lst [])) c = some (.lst (ns.map V.int)) := by rw [upd_ne npc]; exact h2
    have kp' : Kp dl c H (upd H1 p (.lst [])) := kp.trans (Kp.new hp)
    refine ⟨.list (ns.map PyData.int), .list (([] : List Int).map PyData.int), Dp.lst (SqL.of h2') (dp_ints ns), Dp.lst (SqL.of upd_same) .nil, PySem.W.ke_shaped_ints ns, PySem.W.ke_shaped_ints [], _, rfl, ?_⟩
    rcases List.eq_nil_or_concat ns with rfl | ⟨ms, z, e⟩
    · refine iteY eqv_nil ?_
      -- deal[2] = deal[2] + 1
      refine ⟨_, rfl, dl, _, 2, .int kk, rfl, rfl, SqL.of h1', rfl, _, _, rfl, rfl, _, rfl, dl, _, 2, 2, rfl, rfl, h1', rfl, ?_⟩
      -- deal[1] = int((deal[1] + 4799 * deal[2]) * 48271 + 67) % 2147483647
      have g1 : (upd (upd H1 p (.lst [])) dl (.lst ([V.ref c, .int s, .int kk].set 2 (.int (kk + 1))))) dl = some (.lst [.ref c, .int s, .int (kk + 1)]) := upd_same
      refine ⟨_, rfl, dl, _, 1, .int s, rfl, rfl, SqL.of g1, rfl, _, rfl, dl, _, 2, .int (kk + 1), rfl, rfl, SqL.of g1, rfl, _, _, rfl, rfl, .inl ⟨by decide, by decide⟩, _, _, rfl, rfl, _, _, rfl, rfl, .inr ⟨by decide, by decide⟩, _, _, rfl, rfl, .inl ⟨_, rfl, ?_⟩⟩
      refine ⟨_, _, rfl, rfl, (by show (0 : Int) < 2147483647; decide), _, rfl, dl, _, 1, 1, rfl, rfl, g1, rfl, ?_⟩
      -- return int(deal[1] // 16) % wide
      have g2 : ∀ v, (upd (upd (upd H1 p (.lst [])) dl (.lst ([V.ref c, .int s, .int kk].set 2 (.int (kk + 1))))) dl (.lst ([V.ref c, .int s, .int (kk + 1)].set 1 (.int v)))) dl = some (.lst [.ref c, .int v, .int (kk + 1)]) := fun v => upd_same
      refine ⟨_, rfl, dl, _, 1, _, rfl, rfl, SqL.of (g2 _), rfl, _, _, rfl, rfl, ⟨by decide, by decide⟩, .inl ⟨_, rfl, _, rfl, _, _, rfl, rfl, hw0, ?_⟩⟩
      refine k _ _ (Int.emod_nonneg _ (by omega)) (Int.emod_lt_of_pos _ hw0) ⟨[], _, _, g2 _, ?_, by decide⟩ ?_
      · rw [upd_ne hne.symm, upd_ne hne.symm]
        exact h2'
      · exact kp'.trans (Kp.at1.trans Kp.at1)
    · rw [List.concat_eq_append] at e
      subst e
      refine iteN (eqv_snoc ms z) ?_
      rw [map_snoc] at h2'
      -- left = deal[0].pop()
      refine ⟨_, rfl, dl, _, 0, .ref c, rfl, rfl, SqL.of h1', rfl, .inl ⟨rfl, _, SqL.of h2'⟩, c, _, .int z, rfl, rfl, h2', snoc_last _ _, ?_⟩
      rw [snoc_drop]
      -- deal[0].append(left // wide)
      have g1 : (upd (upd H1 p (.lst [])) c (.lst (ms.map V.int))) dl = some (.lst [.ref c, .int s, .int kk]) := by rw [upd_ne hne]; exact h1'
      have g2 : (upd (upd H1 p (.lst [])) c (.lst (ms.map V.int))) c = some (.lst (ms.map V.int)) := upd_same
      have hml : ms.length ≤ 62 := by
        rw [List.length_append, List.length_singleton] at h3
        omega
      refine ⟨_, rfl, dl, _, 0, .ref c, rfl, rfl, SqL.of g1, rfl, .inl ⟨rfl, _, SqL.of g2⟩, _, rfl, _, rfl, _, _, rfl, rfl, ⟨hw0, hw1⟩, c, _, _, rfl, rfl, g2, z63 ms (by omega), ?_⟩
      -- return int(left) % wide
      refine ⟨_, rfl, .inl ⟨_, rfl, _, rfl, _, _, rfl, rfl, hw0, ?_⟩⟩
      refine k _ _ (Int.emod_nonneg _ (by omega)) (Int.emod_lt_of_pos _ hw0) ⟨ms ++ [z / wd], s, kk, ?_, ?_, ?_⟩ ?_
      · rw [upd_ne hne]
        exact g1
      · rw [map_snoc]
        exact upd_same
      · rw [List.length_append, List.length_singleton]
        omega
      · exact kp'.trans (Kp.at2.trans Kp.at2)
  case loop =>
    refine ⟨fun m σ H1 => ∃ (ns : List Int) (s kk : Int), σ = [some (.ref dl), some (.int wd), none] ∧ H1 dl = some (.lst [.ref c, .int s, .int kk]) ∧ H1 c = some (.lst (ns.map V.int)) ∧ ns.length ≤ 63 ∧ Kp dl c H H1 ∧ m = ns.length, ?_, ?_⟩
    · obtain ⟨ns, s, kk, h1, h2, h3⟩ := D
      exact ⟨_, ns, s, kk, rfl, h1, h2, h3, Kp.refl _, rfl⟩
    rintro m σ H1 ⟨ns, s, kk, rfl, h1, h2, h3, kp, rfl⟩
    refine ⟨_, rfl, dl, _, 0, .ref c, rfl, rfl, SqL.of h1, rfl, (by show 0 ≤ sizeLine; decide), fun p hp => ?_⟩
    have npc : c ≠ p := ne_of_none h2 hp
    have npd : dl ≠ p := ne_of_none h1 hp
    have h1' : (upd H1 p (.lst [])) dl = some (.lst [.ref c, .int s, .int kk]) := by rw [upd_ne npd]; exact h1
    have h2' : (upd H1 p (.lst [])) c = some (.lst (ns.map V.int)) := by rw [upd_ne npc]; exact h2
    have kp' : Kp dl c H (upd H1 p (.lst [])) := kp.trans (Kp.new hp)
    refine ⟨.list (ns.map PyData.int), .list (([] : List Int).map PyData.int), Dp.lst (SqL.of h2') (dp_ints ns), Dp.lst (SqL.of upd_same) .nil, PySem.W.ke_shaped_ints ns, PySem.W.ke_shaped_ints [], _, rfl, ?_⟩
    rcases List.eq_nil_or_concat ns with rfl | ⟨ms, z, e⟩
    · refine iteY eqv_nil ?_
      refine iteF ?_
      exact rest _ _ ⟨rfl, ⟨[], s, kk, h1', h2', h3⟩, kp'⟩
    · rw [List.concat_eq_append] at e
      subst e
      refine iteN (eqv_snoc ms z) ?_
      have h2a := h2'
      rw [map_snoc] at h2a
      refine ⟨_, rfl, dl, _, 0, .ref c, rfl, rfl, SqL.of h1', rfl, 1, rfl, c, _, -1, .int z, rfl, rfl, SqL.of h2a, atI_last _ _, rfl, _, rfl, ?_⟩
      refine ite2 (fun _ => ?_) (fun _ => ?_)
      · refine ⟨fun σ' H' => ∃ (ns : List Int) (s kk : Int), σ' = [some (.ref dl), some (.int wd), none] ∧ H' dl = some (.lst [.ref c, .int s, .int kk]) ∧ H' c = some (.lst (ns.map V.int)) ∧ ns.length ≤ 63 ∧ Kp dl c H H' ∧ ms.length = ns.length, ?_, ?_⟩
        · rintro σ' H' ⟨ns', s', k', w1, w2, w3, w4, w5, w6⟩
          exact ⟨ms.length, by rw [List.length_append, List.length_singleton]; omega, ns', s', k', w1, w2, w3, w4, w5, w6⟩
        · refine ⟨_, rfl, dl, _, 0, .ref c, rfl, rfl, SqL.of h1', rfl, .inl ⟨rfl, _, SqL.of h2a⟩, c, _, .int z, rfl, rfl, h2a, snoc_last _ _, ?_⟩
          rw [snoc_drop]
          refine ⟨ms, s, kk, rfl, ?_, upd_same, ?_, kp'.trans Kp.at2, rfl⟩
          · rw [upd_ne hne]
            exact h1'
          · rw [List.length_append, List.length_singleton] at h3
            omega
      · exact rest _ _ ⟨rfl, ⟨ms ++ [z], s, kk, h1', h2', h3⟩, kp'⟩
end
end My

set_option Elab.async false
set_option maxRecDepth 100000
set_option maxHeartbeats 4000000
namespace My
open PySem L2
section
variable {P : Program} {w : World} {K : PySem.W.Frag} {mg : Str → Option Value} {base : Heap}
/-- what comes behind a statement is shown first -/
theorem seq_first {t u : TS} {D : Ends} {σ : St} {H : Hp} (Ex : St → Hp → Prop) (hx : ∀ σ H, Ex σ H → u D σ H) (h : (∀ σ H, Ex σ H → u D σ H) → tSeq t u D σ H) : tSeq t u D σ H := h hx
theorem Kp.upd {H H' : Hp} {x y p : Addr} {o : HO} (k : Kp x y H H') (h : H p = none) : Kp x y H (upd H' p o) := fun b u e n m => by rw [upd_ne (ne_of_none e h)]; exact k b u e n m
theorem Kp.none {H H' : Hp} {x y p : Addr} (k : Kp x y H H') (h : H' p = none) (n : p ≠ x) (m : p ≠ y) : H p = Option.none := by
  cases q : H p with
  | none => rfl
  | some o =>
    rw [k p o q n m] at h
    cases h
theorem small1k {n : Nat} (h : n ≤ 1000) : n ≤ sizeLine := Nat.le_of_lt (small1000 h)
theorem scPick : FnScope ["deal", "some"] ["deal", "some"] (defScope sPick) := ⟨rfl, rfl, rfl, by decide +kernel, rfl, by decide +kernel, by decide +kernel⟩
theorem ok_pick {f fD : Addr} {fd fdD : FuncData} (F : Fun K "_law_pick" "_law_pick" sPick f fd) (GD : FnOk P w K mg base CX0 1 fD fdD ["deal", "wide"] spDraw) (bD : Binds K fdD ["deal", "wide"] []) (kD : PySem.W.keepIn K (.ref fD) = true) (mD : mg "_law_draw" = some (.ref fD)) (ml : mg "len" = none) :
    FnOk P w K mg base CX0 2 f fd ["deal", "some"] (spPick K) := by
  refine F.ok scPick (fun vs H Q E h => ?_) (fun cdv A outer s H vs Q E hr h => ?_)
  · obtain ⟨dl, c, l, xs, rfl, _⟩ := h
    rfl
  obtain ⟨dl, c, l, xs, rfl, hS, n1, n2, h0, h1, D, k⟩ := h
  refine ⟨_, pss_one (ps_ret (pe_ix ix_list (pv 1) (pe_call GD hr rfl mD kD bD .nil pass0 (pa_cons (pv 0) (pa_cons (pe_callB call_len_seq rfl ml PySem.boot_len (pa_cons (pv 1) pa_nil)) pa_nil))) (fun _ _ => rfl))), ?_⟩
  refine ⟨_, rfl, _, rfl, _, rfl, l, xs, rfl, .inl hS, dl, c, _, rfl, by omega, by omega, D, fun r H' r0 r1 D' k' => ?_⟩
  have hr1 : r.toNat < xs.length := by omega
  have e : ((r.toNat : Nat) : Int) = r := by omega
  have q : atI xs ((r.toNat : Nat) : Int) = some xs[r.toNat] := atI_nat (List.getElem?_eq_getElem hr1)
  rw [e] at q
  exact ⟨l, xs, r, xs[r.toNat], rfl, rfl, k'.seqL hS n1 n2, q, k _ _ (List.getElem_mem hr1) D' k'⟩

end
end My

set_option Elab.async false
set_option maxRecDepth 100000
set_option maxHeartbeats 4000000
namespace My
open PySem L2
/-- _law_deal(script, base) -/
def spDeal (K : PySem.W.Frag) : Sp := fun vs H Q _ => ∃ (a : Addr) (ns : List Int) (b : Int), vs = [.ref a, .int b] ∧ SqL K H a (ns.map V.int) ∧ ns.length ≤ 63 ∧
  ∀ (dl c : Addr) (H' : Hp), Same H H' → Deal H' dl c → H dl = none → H c = none → Q (.ref dl) H'
theorem cut_ints (ns : List Int) (h : ns.length ≤ 63) (lo hi : Option Int) : ∃ ms : List Int, cutV (ns.map V.int) lo hi = ms.map V.int ∧ ms.length ≤ 63 := by
  refine ⟨(ns.drop (HT.sIx (ns.map V.int).length 0 lo)).take (HT.sIx (ns.map V.int).length (ns.map V.int).length hi - HT.sIx (ns.map V.int).length 0 lo), ?_, ?_⟩
  · unfold cutV
    rw [List.map_take, List.map_drop]
  · rw [List.length_take, List.length_drop]
    omega
theorem ints_at {ns : List Int} {i : Nat} {x : V} (h : (ns.map V.int)[i]? = some x) : ∃ z : Int, x = V.int z := by
  rw [List.getElem?_map] at h
  cases e : ns[i]? with
  | none =>
    rw [e] at h
    cases h
  | some z =>
    rw [e] at h
    exact ⟨z, (Option.some.inj h).symm⟩
section
variable {P : Program} {w : World} {K : PySem.W.Frag} {mg : Str → Option Value} {base : Heap}
theorem scDeal : FnScope ["script", "base", "cell", "cells_here", "stirred"] ["script", "base"] (defScope sDeal) := ⟨rfl, rfl, rfl, by decide +kernel, rfl, by decide +kernel, by decide +kernel⟩
theorem ok_deal {f : Addr} {fd : FuncData} (F : Fun K "_law_deal" "_law_deal" sDeal f fd) (mi : mg "int" = none) (ma : mg "abs" = none) : FnOk P w K mg base CX0 1 f fd ["script", "base"] (spDeal K) := by
  refine F.ok scDeal (fun vs H Q E h => ?_) (fun cdv A outer s H vs Q E hr h => ?_)
  · obtain ⟨a, ns, b, rfl, _⟩ := h
    rfl
  obtain ⟨a, ns, b, rfl, hS, h63, k⟩ := h
  refine ⟨_, pss_cons (ps_setLc (i := 3) (own := [("cell", 2)]) (g := gName 2) (tt := tYes) rfl scDeal.nd rfl rfl (sw_true rfl rfl rfl (by decide +kernel)) (pi_list (pe_slice sl_list (pv 0) (po_some (pv 1)) (po_some pe_int)))
        (blkOk_by (own := [("cell", 2)]) (N := ["script", "base", "cell", "cells_here", "stirred"]) (sc := defScope sDeal) (by decide +kernel)) (fun _ _ _ _ _ => pg_name (i := 2) scDeal.nd rfl (Or.inl rfl)) (fun _ _ _ _ _ => pts_nil)
        (fun _ _ _ _ _ => pe_callB call_abs rfl ma (by decide +kernel) (pa_cons (pe_callTy call_int1 rfl mi (by decide +kernel) (pa_cons (pv 2) pa_nil)) pa_nil)))
    (pss_cons (ps_set (i := 4) scDeal.nd rfl (.inl rfl) (pe_op op_add pe_int (pe_op op_mul pe_int (pv 1))))
    (pss_cons (ps_for PassesOwn.never rfl (pi_list (pv 3)) (pg_name (i := 2) scDeal.nd rfl (Or.inl rfl))
      (pss_one (ps_set (i := 4) scDeal.nd rfl (.inl rfl) (pe_op op_mod (pe_callTy call_int1 rfl mi (by decide +kernel) (pa_cons (pe_op op_add (pe_op op_add (pe_op op_mul (pv 4) pe_int) (pe_op op_mod (pe_callTy call_int1 rfl mi (by decide +kernel) (pa_cons (pv 2) pa_nil)) pe_int)) pe_int) pa_nil)) pe_int))))
    (pss_one (ps_ret (pe_lst (pa_cons (pe_revL (pe_lc (own := [("cell", 2)]) (g := gName 2) rfl scDeal.nd (pi_list (pv 3))
        (blkOk_by (own := [("cell", 2)]) (N := ["script", "base", "cell", "cells_here", "stirred"]) (sc := defScope sDeal) (by decide +kernel)) (fun _ _ _ _ _ => pg_name (i := 2) scDeal.nd rfl (Or.inl rfl)) (fun _ _ _ _ _ => pts_one (pt_cmpR op_ge (pv 2) (pe_op op_pow pe_int pe_int) (nomark _)))
        (fun _ _ _ _ _ => pv 2))) (pa_cons (pv 4) (pa_cons pe_int pa_nil)))))))), ?_⟩
  -- cells_here = [abs(int(cell)) for cell in script[base:62]]
  obtain ⟨ms, em, hm⟩ := cut_ints ns h63 (some b) (some 62)
  refine ⟨_, rfl, ⟨_, rfl, b, rfl, 62, rfl, a, _, rfl, hS, fun p hp => ⟨p, rfl, ⟨_, SqL.of upd_same⟩, ?_⟩⟩⟩
  intro L hL
  rw [em] at hL ⊢
  have nLp : p ≠ L := ne_of_none upd_same hL
  have hpm : (upd H p (.lst (ms.map V.int))) p = some (.lst (ms.map V.int)) := upd_same
  have s0 : Same H (upd H p (.lst (ms.map V.int))) := Same.new hp
  have hL0 : H L = none := s0.free hL
  refine lc_list (K := K) (a := p) (xs := ms.map V.int) (fun i H1 => ∃ qs : List Int, H1 L = some (.lst (qs.map V.int)) ∧ qs.length = i ∧ Same H H1 ∧ H1 p = some (.lst (ms.map V.int))) ⟨[], upd_same, rfl, s0.trans (Same.new hL), by rw [upd_ne nLp]; exact hpm⟩
    (fun i H1 _ ⟨_, _, _, _, e⟩ => SqL.of e) ?_ ?_
  · rintro i x H1 hx ⟨qs, a1, a2, s1, e1⟩
    obtain ⟨z, rfl⟩ := ints_at hx
    have hi : i < ms.length := by
      have q := (List.getElem?_eq_some_iff.mp hx).1
      rw [List.length_map] at q
      exact q
    refine ⟨rfl, ?_⟩
    refine ⟨_, rfl, .inl ⟨_, rfl, _, rfl, ?_⟩⟩
    refine ⟨_, a1, by rw [List.length_map]; exact line63 (by omega), qs ++ [if z < 0 then -z else z], by rw [map_snoc]; exact upd_same, by rw [List.length_append, List.length_singleton, a2], fun c o e => ?_, by rw [upd_ne nLp]; exact e1⟩
    rw [upd_ne (ne_of_none e hL0)]
    exact s1 c o e
  rintro H1 ⟨qs, a1, a2, s1, e1⟩
  rw [List.length_map] at a2
  have q63 : qs.length ≤ 63 := by omega
  -- stirred = 32452843 + 71 * base
  refine ⟨_, rfl, _, _, rfl, rfl, .inl ⟨by decide, by decide⟩, _, _, rfl, rfl, ?_⟩
  -- for cell in cells_here: ..
  refine ⟨_, rfl, L, rfl, ⟨_, SqL.of a1⟩, for_list (K := K) (a := L) (xs := qs.map V.int) (fun i σ H2 => H2 = H1 ∧ ∃ (v : Option V) (st : Int), σ = [some (.ref a), some (.int b), v, some (.ref L), some (.int st)]) ⟨rfl, _, _, rfl⟩
    (fun i σ H2 _ ⟨e, _⟩ => by rw [e]; exact SqL.of a1) ?_ ?_⟩
  · rintro i x σ H2 hx ⟨rfl, v, st, rfl⟩
    obtain ⟨z, rfl⟩ := ints_at hx
    refine ⟨_, rfl, _, _, rfl, rfl, .inr ⟨by decide, by decide⟩, _, rfl, .inl ⟨_, rfl, _, _, rfl, rfl, (by show (0 : Int) < 2147483629; decide), _, _, rfl, rfl, _, _, rfl, rfl, .inl ⟨_, rfl, _, _, rfl, rfl, (by show (0 : Int) < 2147483647; decide), ?_⟩⟩⟩
    exact ⟨rfl, _, _, rfl⟩
  rintro σ H2 ⟨rfl, v, st, rfl⟩
  -- [cell for cell in cells_here if cell >= 10 ** 18]
  refine ⟨_, rfl, L, rfl, ⟨_, SqL.of a1⟩, fun M hM => ?_⟩
  have nML : L ≠ M := ne_of_none a1 hM
  have hM0 : H M = none := s1.free hM
  refine lc_list (K := K) (a := L) (xs := qs.map V.int) (fun i H3 => ∃ rs : List Int, H3 M = some (.lst (rs.map V.int)) ∧ rs.length ≤ i ∧ Same H H3 ∧ H3 L = some (.lst (qs.map V.int))) ⟨[], upd_same, Nat.le_refl _, s1.trans (Same.new hM), by rw [upd_ne nML]; exact a1⟩
    (fun i H3 _ ⟨_, _, _, _, e⟩ => SqL.of e) ?_ ?_
  · rintro i x H3 hx ⟨rs, b1, b2, s3, e3⟩
    obtain ⟨z, rfl⟩ := ints_at hx
    have hi : i < qs.length := by
      have q := (List.getElem?_eq_some_iff.mp hx).1
      rw [List.length_map] at q
      exact q
    refine ⟨rfl, _, rfl, _, _, rfl, rfl, ⟨by decide, by decide, by decide⟩, _, _, rfl, rfl, _, rfl, ?_⟩
    refine ite2 (fun _ => ?_) (fun _ => ?_)
    · refine ⟨_, rfl, _, b1, by rw [List.length_map]; exact line63 (by omega), rs ++ [z], by rw [map_snoc]; exact upd_same, by rw [List.length_append, List.length_singleton]; omega, fun c o e => ?_, by rw [upd_ne nML]; exact e3⟩
      rw [upd_ne (ne_of_none e hM0)]
      exact s3 c o e
    · exact ⟨rs, b1, by omega, s3, e3⟩
  rintro H3 ⟨rs, b1, b2, s3, e3⟩
  rw [List.length_map] at b2
  -- [::-1], and the list of the three
  refine ⟨M, _, rfl, SqL.of b1, fun c hc => ?_⟩
  refine ⟨_, rfl, (by show 3 ≤ sizeLine; decide), fun dl hdl => ?_⟩
  have hc0 : H c = none := s3.free hc
  have hd0 : H dl = none := (s3.trans (Same.new hc)).free hdl
  have ncd : c ≠ dl := ne_of_none upd_same hdl
  refine k dl c _ ((s3.trans (Same.new hc)).trans (Same.new hdl)) ⟨rs.reverse, _, _, upd_same, ?_, by rw [List.length_reverse]; omega⟩ hd0 hc0
  rw [upd_ne ncd, upd_same, List.map_reverse]
end
end My

set_option Elab.async false
set_option maxRecDepth 100000
set_option maxHeartbeats 2000000
/-! zip of a list and a tuple: by any two inner iterators. -/
namespace My
open PySem PySem.Spec PyProof.Rows L2

/-- where G stands, the iterator hands out v, and G' stands; only the iterator itself changes -/
def Nxt (prog : Program) (w : World) (it : Addr) (v : Value) (G G' : Heap → Prop) : Prop :=
  ∀ (A : Around) (E : Value → Shared → Prop) (s : Shared) (Q : Value → Shared → Prop), G s.heap → (∀ h', G' h' → Heap.SameBut it s.heap h' → Q v { s with heap := h' }) →
    wpAny (model prog w) A (Builtin.SmallTypes.nextOf (.ref it)) Q E s
/-- where G stands, the iterator is at its end -/
def Ndd (prog : Program) (w : World) (it : Addr) (G : Heap → Prop) : Prop :=
  ∀ (A : Around) (E : Value → Shared → Prop) (s : Shared) (Q : Value → Shared → Prop), A.handled = none → G s.heap →
    (∀ h' e, Heap.ExtBut it s.heap h' → (∃ o, h'.get? e = some o ∧ o.cls = .type "StopIteration") → E (.ref e) { s with heap := h' }) →
    wpAny (model prog w) A (Builtin.SmallTypes.nextOf (.ref it)) Q E s
/-- G does not mind what becomes of c -/
def Clm (c : Addr) (G : Heap → Prop) : Prop := ∀ h h', G h → Heap.ExtBut c h h' → G h'
/-- the zip's own places are apart -/
structure Zap (z TI TO i1 i2 : Addr) : Prop where
  TIz : TI ≠ z
  TOz : TO ≠ z
  i1z : i1 ≠ z
  i2z : i2 ≠ z
  TITO : TI ≠ TO
  TIi1 : TI ≠ i1
  TIi2 : TI ≠ i2
  TOi1 : TO ≠ i1
  TOi2 : TO ≠ i2
  i12 : i1 ≠ i2
section
variable {prog : Program} {w : World} {A : Around} {E : Value → Shared → Prop} {s : Shared}
theorem zm_item {z TI TO i1 i2 : Addr} {x y a b : Value} {G1 G1' G2 G2' : Heap → Prop} {Q : Value → Shared → Prop} (D : Zap z TI TO i1 i2)
    (hz : IsZip s.heap z TI TO .none) (hTI : IsPair s.heap TI (.ref i1) (.ref i2)) (hTO : IsPair s.heap TO a b)
    (n1 : Nxt prog w i1 x G1 G1') (n2 : Nxt prog w i2 y G2 G2') (g1 : G1 s.heap) (g2 : G2 s.heap)
    (c1z : Clm z G1) (c2z : Clm z G2) (c21 : Clm i1 G2) (c2T : Clm TO G2) (c1T' : Clm TO G1') (c12' : Clm i2 G1') (c1z' : Clm z G1') (c2T' : Clm TO G2') (c2z' : Clm z G2')
    (hQ : ∀ h', IsZip h' z TI TO (rawInt s.heap.objs.size) → IsPair h' TO x y → G1' h' → G2' h' → IsPair h' s.heap.objs.size x y → h'.objs.size = s.heap.objs.size + 1 →
      (∀ c o, c ≠ z → c ≠ TO → c ≠ i1 → c ≠ i2 → s.heap.get? c = some o → h'.get? c = some o) → Q (.ref s.heap.objs.size) { s with heap := h' }) :
    wpAny (model prog w) A (Builtin.«zip.__next__» ⟨[.ref z], []⟩) (fun fin s' => ∃ v, fin = .done (.ret v) ∧ Q v s') E s := by
  -- the zip's fields, the pair of iterators
  show wpAny _ _ (field (.ref z) 2 >>= _) _ _ _
  refine wpAny_bind (wpAny_field hz rfl (x := .bool false) rfl ?_)
  show wpAny _ _ (field (.ref z) 3 >>= _) _ _ _
  refine wpAny_bind (wpAny_field hz rfl (x := .ref TI) rfl ?_)
  refine wpAny_bind (wpAny_seqItems hTI rfl ?_)
  show wpAny _ _ (Builtin.SmallTypes.ownedTupleIsFree (.ref z) >>= _) _ _ _
  refine wpAny_bind ?_
  unfold Builtin.SmallTypes.ownedTupleIsFree
  refine wpAny_bind (wpAny_field hz rfl (x := .none) rfl (wpAny_pure ?_))
  simp only [if_true]
  refine wpAny_bind (wpAny_rule ?_)
  refine wpAny_bind (wpAny_field hz rfl (x := .ref TO) rfl ?_)
  refine wpAny_bind (wpAny_setField_rec hz (by simp) fun ha za sa => ?_)
  refine wpAny_bind ?_
  simp only [List.zipIdx_cons, List.zipIdx_nil, List.forIn_cons, List.forIn_nil]
  -- the first one's next
  refine wpAny_bind (wpAny_bind (wpAny_onRaise ?_))
  show wpAny _ _ (Builtin.SmallTypes.nextOf (.ref i1) >>= _) _ _ _
  refine wpAny_bind (n1 _ _ _ _ (c1z _ _ g1 sa.extBut) fun hb gb sb => wpAny_pure ?_)
  have Tb : IsPair hb TO a b := sb.extBut _ _ D.TOi1 (sa.extBut _ _ D.TOz hTO)
  refine wpAny_bind (wpAny_seqItems Tb rfl ?_)
  refine wpAny_bind (wpAny_updateSeq_pair Tb fun hc Tc sc => ?_)
  replace Tc : IsPair hc TO x b := Tc
  refine wpAny_bind (wpAny_letGo (wpAny_pure ?_))
  -- the second one's next
  refine wpAny_bind (wpAny_bind (wpAny_onRaise ?_))
  show wpAny _ _ (Builtin.SmallTypes.nextOf (.ref i2) >>= _) _ _ _
  refine wpAny_bind (n2 _ _ _ _ (c2T _ _ (c21 _ _ (c2z _ _ g2 sa.extBut) sb.extBut) sc.extBut) fun hd gd sd => wpAny_pure ?_)
  have Td : IsPair hd TO x b := sd.extBut _ _ D.TOi2 Tc
  refine wpAny_bind (wpAny_seqItems Td rfl ?_)
  refine wpAny_bind (wpAny_updateSeq_pair Td fun he Te se => ?_)
  replace Te : IsPair he TO x y := Te
  refine wpAny_bind (wpAny_letGo (wpAny_pure (wpAny_pure ?_)))
  -- the new pair is handed out
  refine wpAny_bind (wpAny_seqItems Te rfl ?_)
  refine wpAny_bind (wpAny_newTuple ?_)
  have sz : he.objs.size = s.heap.objs.size := by rw [se.1, sd.1, sc.1, sb.1, sa.1]
  have ze : IsZip he z TI TO .ellipsis := se.extBut _ _ D.TOz.symm (sd.extBut _ _ D.i2z.symm (sc.extBut _ _ D.TOz.symm (sb.extBut _ _ D.i1z.symm za)))
  have ke : ∀ c o, c ≠ z → c ≠ TO → c ≠ i1 → c ≠ i2 → s.heap.get? c = some o → he.get? c = some o := fun c o k1 k2 k3 k4 e =>
    se.extBut _ _ k2 (sd.extBut _ _ k4 (sc.extBut _ _ k2 (sb.extBut _ _ k3 (sa.extBut _ _ k1 e))))
  have ge1 : G1' he := c1T' _ _ (c12' _ _ (c1T' _ _ gb sc.extBut) sd.extBut) se.extBut
  have ge2 : G2' he := c2T' _ _ gd se.extBut
  have lz : z < he.objs.size := Heap.lt_size ze
  show wpAny _ _ (Builtin.SmallTypes.ownedTupleHandOut (.ref z) (.ref he.objs.size) >>= _) _ _ _
  refine wpAny_bind ?_
  unfold Builtin.SmallTypes.ownedTupleHandOut
  have zf : IsZip (he.push { cls := .type "tuple", data := .seq #[x, y] }) z TI TO .ellipsis := Heap.get?_push_of_some _ ze
  refine wpAny_bind (wpAny_setField_rec zf (by simp) fun hg zg sg => ?_)
  replace zg : IsZip hg z TI TO (rawInt he.objs.size) := zg
  refine wpAny_setField_rec zg (by simp) fun hh zh sh => ?_
  replace zh : IsZip hh z TI TO (rawInt he.objs.size) := zh
  have up : Heap.ExtBut z he hh := fun c o k e => sh.extBut _ _ k (sg.extBut _ _ k (Heap.get?_push_of_some _ e))
  have Th : IsPair hh he.objs.size x y := sh.extBut _ _ (Nat.ne_of_gt lz) (sg.extBut _ _ (Nat.ne_of_gt lz) (Heap.get?_push_size _ rfl))
  have szh : hh.objs.size = he.objs.size + 1 := by rw [sh.1, sg.1, Heap.size_push]
  rw [sz] at zh Th szh
  refine wpAny_pure ⟨_, rfl, ?_⟩
  show Q (.ref he.objs.size) _
  rw [sz]
  exact hQ hh zh (up _ _ D.TOz Te) (c1z' _ _ ge1 up) (c2z' _ _ ge2 up) Th szh fun c o k1 k2 k3 k4 e => up c o k1 (ke c o k1 k2 k3 k4 e)

/-- the one is at its end, or the other one behind it -/
theorem zm_end {z TI TO i1 i2 : Addr} {a b : Value} {G1 G2 : Heap → Prop} {Q : Fin → Shared → Prop} (hh : A.handled = none) (D : Zap z TI TO i1 i2)
    (hz : IsZip s.heap z TI TO .none) (hTI : IsPair s.heap TI (.ref i1) (.ref i2)) (hTO : IsPair s.heap TO a b) (g1 : G1 s.heap) (g2 : G2 s.heap)
    (c1z : Clm z G1) (c2z : Clm z G2) (c21 : Clm i1 G2) (c2T : Clm TO G2) (n : Ndd prog w i1 G1 ∨ ((∃ (x : Value) (G1' : Heap → Prop), Nxt prog w i1 x G1 G1') ∧ Ndd prog w i2 G2))
    (hE : ∀ h' e, (∀ c o, c ≠ z → c ≠ TO → c ≠ i1 → c ≠ i2 → s.heap.get? c = some o → h'.get? c = some o) → (∃ o, h'.get? e = some o ∧ o.cls = .type "StopIteration") → E (.ref e) { s with heap := h' }) :
    wpAny (model prog w) A (Builtin.«zip.__next__» ⟨[.ref z], []⟩) Q E s := by
  show wpAny _ _ (field (.ref z) 2 >>= _) _ _ _
  refine wpAny_bind (wpAny_field hz rfl (x := .bool false) rfl ?_)
  show wpAny _ _ (field (.ref z) 3 >>= _) _ _ _
  refine wpAny_bind (wpAny_field hz rfl (x := .ref TI) rfl ?_)
  refine wpAny_bind (wpAny_seqItems hTI rfl ?_)
  show wpAny _ _ (Builtin.SmallTypes.ownedTupleIsFree (.ref z) >>= _) _ _ _
  refine wpAny_bind ?_
  unfold Builtin.SmallTypes.ownedTupleIsFree
  refine wpAny_bind (wpAny_field hz rfl (x := .none) rfl (wpAny_pure ?_))
  simp only [if_true]
  refine wpAny_bind (wpAny_rule ?_)
  refine wpAny_bind (wpAny_field hz rfl (x := .ref TO) rfl ?_)
  refine wpAny_bind (wpAny_setField_rec hz (by simp) fun ha za sa => ?_)
  replace za : IsZip ha z TI TO .ellipsis := za
  refine wpAny_bind ?_
  simp only [List.zipIdx_cons, List.zipIdx_nil, List.forIn_cons, List.forIn_nil]
  refine wpAny_bind (wpAny_bind (wpAny_onRaise ?_))
  show wpAny _ _ (Builtin.SmallTypes.nextOf (.ref i1) >>= _) _ _ _
  rcases n with n1 | ⟨⟨x, G1', n1⟩, n2⟩
  · refine wpAny_bind (n1 _ _ _ _ hh (c1z _ _ g1 sa.extBut) fun hb e sb he => ?_)
    obtain ⟨oe, hoe, hce⟩ := he
    have zb : IsZip hb z TI TO .ellipsis := sb _ _ D.i1z.symm za
    have ez : e ≠ z := fun q => by subst q; rw [zb] at hoe; cases hoe; simp at hce
    exact wpAny_setField_rec zb (by simp) fun hc _ sc => hE hc e (fun c o k1 _ k3 _ q => sc.extBut _ _ k1 (sb _ _ k3 (sa.extBut _ _ k1 q))) ⟨oe, sc.extBut _ _ ez hoe, hce⟩
  · refine wpAny_bind (n1 _ _ _ _ (c1z _ _ g1 sa.extBut) fun hb gb sb => wpAny_pure ?_)
    have Tb : IsPair hb TO a b := sb.extBut _ _ D.TOi1 (sa.extBut _ _ D.TOz hTO)
    refine wpAny_bind (wpAny_seqItems Tb rfl ?_)
    refine wpAny_bind (wpAny_updateSeq_pair Tb fun hc Tc sc => ?_)
    refine wpAny_bind (wpAny_letGo (wpAny_pure ?_))
    refine wpAny_bind (wpAny_bind (wpAny_onRaise ?_))
    show wpAny _ _ (Builtin.SmallTypes.nextOf (.ref i2) >>= _) _ _ _
    refine wpAny_bind (n2 _ _ _ _ hh (c2T _ _ (c21 _ _ (c2z _ _ g2 sa.extBut) sb.extBut) sc.extBut) fun hd e sd he => ?_)
    obtain ⟨oe, hoe, hce⟩ := he
    have zd : IsZip hd z TI TO .ellipsis := sd _ _ D.i2z.symm (sc.extBut _ _ D.TOz.symm (sb.extBut _ _ D.i1z.symm za))
    have ez : e ≠ z := fun q => by subst q; rw [zd] at hoe; cases hoe; simp at hce
    exact wpAny_setField_rec zd (by simp) fun hf _ sf => hE hf e (fun c o k1 k2 k3 k4 q => sf.extBut _ _ k1 (sd _ _ k4 (sc.extBut _ _ k2 (sb.extBut _ _ k3 (sa.extBut _ _ k1 q))))) ⟨oe, sf.extBut _ _ ez hoe, hce⟩
end
end My

set_option Elab.async false
set_option maxRecDepth 100000
set_option maxHeartbeats 2000000
/-! zip of a list and a tuple: the turns, the rule. -/
namespace My
open PySem PySem.Spec PyProof.Rows L2
open PySem.Sem (wp)
/-- a list's iterator and its list -/
def GL (it l : Addr) (i : Nat) (xs : Array Value) : Heap → Prop := fun h => h.IsListIter it l i ∧ h.IsList l xs
/-- a tuple's -/
def GT (it l : Addr) (i : Nat) (xs : Array Value) : Heap → Prop := fun h => h.IsTupleIter it l i ∧ h.IsTuple l xs
section
variable {prog : Program} {w : World} {it l c : Addr} {i : Nat} {xs : Array Value}
theorem GL.clm (h1 : it ≠ c) (h2 : l ≠ c) : Clm c (GL it l i xs) := fun _ _ g e => ⟨g.1.extBut e h1, g.2.extBut e h2⟩
theorem GT.clm (h1 : it ≠ c) (h2 : l ≠ c) : Clm c (GT it l i xs) := fun _ _ g e => ⟨g.1.extBut e h1, g.2.extBut e h2⟩
theorem GL.nxt {x : Value} (n : l ≠ it) (hx : xs[i]? = some x) : Nxt prog w it x (GL it l i xs) (GL it l (i + 1) xs) :=
  fun _ _ _ _ g k => wpAny_nextOf_list_item g.1 g.2 hx fun h' a sb => k h' ⟨a, g.2.extBut sb.extBut n⟩ sb
theorem GT.nxt {x : Value} (n : l ≠ it) (hx : xs[i]? = some x) : Nxt prog w it x (GT it l i xs) (GT it l (i + 1) xs) :=
  fun _ _ _ _ g k => RZ.nextOf_tuple_item g.1 g.2 hx fun h' a sb => k h' ⟨a, g.2.extBut sb.extBut n⟩ sb
theorem GL.ndd (hx : xs[i]? = none) : Ndd prog w it (GL it l i xs) := fun _ _ _ _ hh g k => wpAny_nextOf_list_end hh g.1 g.2 hx k
theorem GT.ndd (hx : xs[i]? = none) : Ndd prog w it (GT it l i xs) := fun _ _ _ _ hh g k => RZ.nextOf_tuple_end hh g.1 g.2 hx k
end
theorem zap_of {z TI TO i1 i2 l1 l2 : Addr} (D : ZipApart z TI TO i1 i2 l1 l2) : Zap z TI TO i1 i2 := ⟨D.TIz, D.TOz, D.i1z, D.i2z, D.TITO, D.TIi1, D.TIi2, D.TOi1, D.TOi2, D.i12⟩
section
variable {prog : Program} {w : World} {A : Around} {E : Value → Shared → Prop} {s : Shared}
theorem pyNext_zm_item {z TI TO i1 i2 l1 l2 : Addr} {k : Nat} {xs ys : Array Value} {x y a b : Value} {Q : Option Value → Shared → Prop} (D : ZipApart z TI TO i1 i2 l1 l2)
    (hz : IsZip s.heap z TI TO .none) (hTI : IsPair s.heap TI (.ref i1) (.ref i2)) (hTO : IsPair s.heap TO a b) (g1 : GL i1 l1 k xs s.heap) (g2 : GT i2 l2 k ys s.heap) (hx : xs[k]? = some x) (hy : ys[k]? = some y)
    (hQ : ∀ h', IsZip h' z TI TO (rawInt s.heap.objs.size) → IsPair h' TO x y → GL i1 l1 (k + 1) xs h' → GT i2 l2 (k + 1) ys h' → IsPair h' s.heap.objs.size x y → h'.objs.size = s.heap.objs.size + 1 →
      (∀ c o, c ≠ z → c ≠ TO → c ≠ i1 → c ≠ i2 → s.heap.get? c = some o → h'.get? c = some o) → Q (some (.ref s.heap.objs.size)) { s with heap := h' }) :
    wpAny (model prog w) A (pyNext (.ref z)) Q E s := by
  have hT : s.TypeIs (.ref z) "zip" := ⟨_, hz, rfl⟩
  unfold pyNext
  refine wpAny_bind (wpAny_attempt (wpAny_callSpecial?_slot (name := Str.ofString "__next__") hT F.slot_zip_next (wpAny_call_entry F.slot_zip_next hT F.entry_zip_next ?_ (F.args_zip_next_1 _))))
  exact zm_item (zap_of D) hz hTI hTO (GL.nxt D.l1i1 hx) (GT.nxt D.l2i2 hy) g1 g2 (GL.clm D.i1z D.l1z) (GT.clm D.i2z D.l2z) (GT.clm D.i12.symm D.l2i1) (GT.clm D.TOi2.symm D.l2TO)
    (GL.clm D.TOi1.symm D.l1TO) (GL.clm D.i12 D.l1i2) (GL.clm D.i1z D.l1z) (GT.clm D.TOi2.symm D.l2TO) (GT.clm D.i2z D.l2z) fun h' a1 a2 a3 a4 a5 a6 a7 => wpAny_pure (hQ h' a1 a2 a3 a4 a5 a6 a7)
theorem pyNext_zm_end {z TI TO i1 i2 l1 l2 : Addr} {k : Nat} {xs ys : Array Value} {a b : Value} {Q : Option Value → Shared → Prop} (hh : A.handled = none) (D : ZipApart z TI TO i1 i2 l1 l2)
    (hz : IsZip s.heap z TI TO .none) (hTI : IsPair s.heap TI (.ref i1) (.ref i2)) (hTO : IsPair s.heap TO a b) (g1 : GL i1 l1 k xs s.heap) (g2 : GT i2 l2 k ys s.heap) (hend : xs[k]? = none ∨ ys[k]? = none)
    (hQ : ∀ h', (∀ c o, c ≠ z → c ≠ TO → c ≠ i1 → c ≠ i2 → s.heap.get? c = some o → h'.get? c = some o) → Q none { s with heap := h' }) : wpAny (model prog w) A (pyNext (.ref z)) Q E s := by
  have hT : s.TypeIs (.ref z) "zip" := ⟨_, hz, rfl⟩
  have nn : Ndd prog w i1 (GL i1 l1 k xs) ∨ ((∃ (x : Value) (G1' : Heap → Prop), Nxt prog w i1 x (GL i1 l1 k xs) G1') ∧ Ndd prog w i2 (GT i2 l2 k ys)) := by
    cases hx : xs[k]? with
    | none => exact .inl (GL.ndd hx)
    | some x =>
      rcases hend with q | q
      · rw [hx] at q; cases q
      · exact .inr ⟨⟨x, _, GL.nxt D.l1i1 hx⟩, GT.ndd q⟩
  unfold pyNext
  refine wpAny_bind (wpAny_attempt (wpAny_callSpecial?_slot (name := Str.ofString "__next__") hT F.slot_zip_next (wpAny_call_entry F.slot_zip_next hT F.entry_zip_next ?_ (F.args_zip_next_1 _))))
  refine zm_end hh (zap_of D) hz hTI hTO g1 g2 (GL.clm D.i1z D.l1z) (GT.clm D.i2z D.l2z) (GT.clm D.i12.symm D.l2i1) (GT.clm D.TOi2.symm D.l2TO) nn fun h' e hk he => ?_
  obtain ⟨o, ho, hc⟩ := he
  refine wpAny_bind (wpAny_isInstance (T := "StopIteration") (b := true) ⟨o, ho, hc⟩ isSubtype_stop ?_)
  exact wpAny_pure (hQ _ hk)
end
/-- what zip(list, tuple) puts behind the heap -/
abbrev zo1 (l1 : Addr) : Obj := { cls := .type "list_iterator", data := .fields #[.ref l1, .int 0 0] }
abbrev zo2 (l2 : Addr) : Obj := { cls := .type "tuple_iterator", data := .fields #[.ref l2, .int 0 0] }
abbrev zo3 (n : Addr) : Obj := { cls := .type "tuple", data := .seq #[.ref n, .ref (n + 1)] }
abbrev zo4 : Obj := { cls := .type "tuple", data := .seq #[.none, .none] }
abbrev zo5 (n : Addr) : Obj := { cls := .type "zip", data := .fields #[.none, .bool false, .bool false, .ref (n + 2), .ref (n + 3)] }
abbrev zhp (h : Heap) (l1 l2 : Addr) : Heap := ((((h.push (zo1 l1)).push (zo2 l2)).push (zo3 h.objs.size)).push zo4).push (zo5 h.objs.size)
theorem meets_zm_new (l1 l2 : Addr) (xs ys : Array Value) :
    Meets (Builtin.«zip.__new__» ⟨[.type "zip", .ref l1, .ref l2], []⟩) (fun _ R s => s.heap.IsList l1 xs ∧ s.heap.IsTuple l2 ys ∧
      R (.ok (.ret (.ref (s.heap.objs.size + 4)))) { s with heap := zhp s.heap l1 l2 }) :=
  .of_wp fun prog w A R s h => by
    obtain ⟨hp, g, d, tk, os⟩ := s; obtain ⟨hl1, hl2, h⟩ := h
    have hsub := sub_zip
    have hL1 : Heap.IsList (Shared.heap ⟨hp, g, d, tk, os⟩) l1 xs := hl1
    have hL2 : Heap.IsTuple (Shared.heap ⟨hp.push (zo1 l1), g, d, tk, os⟩) l2 ys := Heap.IsTuple.push hl2 _
    wp_walk using wpAny_pyIter_list hL1, wpAny_pyIter_tuple hL2
    refine ⟨_, rfl, ?_⟩
    simp only [Heap.size_push]
    exact h
end My

set_option Elab.async false
set_option maxRecDepth 100000
set_option maxHeartbeats 2000000
/-! zip(list, tuple): the turns, the rule, its walk. -/
namespace My
open PySem PySem.Spec PyProof.Rows L2
section
variable {prog : Program} {w : World} {A : Around} {E : Value → Shared → Prop} {s : Shared}
theorem call_zm {l1 l2 : Addr} {xs ys : Array Value} {Q : Value → Shared → Prop} (hl1 : s.heap.IsList l1 xs) (hl2 : s.heap.IsTuple l2 ys)
    (h : ∀ h', IsZip h' (s.heap.objs.size + 4) (s.heap.objs.size + 2) (s.heap.objs.size + 3) .none → IsPair h' (s.heap.objs.size + 2) (.ref s.heap.objs.size) (.ref (s.heap.objs.size + 1)) →
      IsPair h' (s.heap.objs.size + 3) .none .none → h'.IsListIter s.heap.objs.size l1 0 → h'.IsTupleIter (s.heap.objs.size + 1) l2 0 →
      (∀ c o, s.heap.get? c = some o → h'.get? c = some o) → Q (.ref (s.heap.objs.size + 4)) { s with heap := h' }) :
    wpAny (model prog w) A (call (.type "zip") [.ref l1, .ref l2]) Q E s := by
  refine callType_new F.called_zip (by decide) (F.typeCall_zip_2 _ _) (F.newCall_zip_2 _ _) (fun obj => F.args_object_init_3 obj _ _) F.entry_zip_new (meets_zm_new l1 l2 xs ys) ⟨hl1, hl2, ?_⟩
  have up : ∀ (h : Heap) (o : Obj) (n : Nat) (c : Addr) (u : Obj), h.objs.size = n → h.get? c = some u → (h.push o).objs.size = n + 1 ∧ (h.push o).get? c = some u := fun h o n c u e q => ⟨by rw [Heap.size_push, e], Heap.get?_push_of_some _ q⟩
  have nw : ∀ (h : Heap) (o : Obj) (n : Nat), h.objs.size = n → o.isFreed = false → (h.push o).get? n = some o := fun h o n e f => by subst e; exact Heap.get?_push_size _ f
  have s1 : (s.heap.push (zo1 l1)).objs.size = s.heap.objs.size + 1 := Heap.size_push ..
  have s2 : ((s.heap.push (zo1 l1)).push (zo2 l2)).objs.size = s.heap.objs.size + 2 := by rw [Heap.size_push, s1]
  have s3 : (((s.heap.push (zo1 l1)).push (zo2 l2)).push (zo3 s.heap.objs.size)).objs.size = s.heap.objs.size + 3 := by rw [Heap.size_push, s2]
  have s4 : ((((s.heap.push (zo1 l1)).push (zo2 l2)).push (zo3 s.heap.objs.size)).push zo4).objs.size = s.heap.objs.size + 4 := by rw [Heap.size_push, s3]
  have g5 : (zhp s.heap l1 l2).get? (s.heap.objs.size + 4) = some (zo5 s.heap.objs.size) := nw _ _ _ s4 rfl
  have g4 : (zhp s.heap l1 l2).get? (s.heap.objs.size + 3) = some zo4 := Heap.get?_push_of_some _ (nw _ _ _ s3 rfl)
  have g3 : (zhp s.heap l1 l2).get? (s.heap.objs.size + 2) = some (zo3 s.heap.objs.size) := Heap.get?_push_of_some _ (Heap.get?_push_of_some _ (nw _ _ _ s2 rfl))
  have g2 : (zhp s.heap l1 l2).get? (s.heap.objs.size + 1) = some (zo2 l2) := Heap.get?_push_of_some _ (Heap.get?_push_of_some _ (Heap.get?_push_of_some _ (nw _ _ _ s1 rfl)))
  have g1 : (zhp s.heap l1 l2).get? s.heap.objs.size = some (zo1 l1) := Heap.get?_push_of_some _ (Heap.get?_push_of_some _ (Heap.get?_push_of_some _ (Heap.get?_push_of_some _ (nw _ _ _ rfl rfl))))
  exact ⟨⟨_, g5, rfl⟩, h _ g5 g3 g4 ⟨_, g1, rfl, rfl⟩ ⟨_, g2, rfl, rfl⟩ fun c o x =>
    Heap.get?_push_of_some _ (Heap.get?_push_of_some _ (Heap.get?_push_of_some _ (Heap.get?_push_of_some _ (Heap.get?_push_of_some _ x))))⟩
end
/-- a list at a and a tuple at b as they stand at each turn, the items in new pairs -/
def ItzM (K : PySem.W.Frag) (a b : Addr) : It :=
  ⟨fun i H => ∃ (xs ys : List V) (x y : V), SqL K H a xs ∧ SqT K H b ys ∧ xs[i]? = some x ∧ ys[i]? = some y,
    fun i H v H' => ∃ T x y, v = .ref T ∧ H T = none ∧ H' = upd H T (.tup [x, y]) ∧ (∀ xs, SqL K H a xs → xs[i]? = some x) ∧ ∀ ys, SqT K H b ys → ys[i]? = some y,
    fun i H => ∃ xs ys : List V, SqL K H a xs ∧ SqT K H b ys ∧ (xs.length ≤ i ∨ ys.length ≤ i)⟩
theorem in5 {c z TI TO i1 i2 : Addr} (h : c ∈ [z, TI, TO, i1, i2]) : c = z ∨ c = TI ∨ c = TO ∨ c = i1 ∨ c = i2 := by simpa using h
theorem turn_zm {P : Program} {w : World} {K : PySem.W.Frag} {elts : List Expr} {kk : Nat} {tpos : Pos} {a b z TI TO i1 i2 : Addr} (D : ZipApart z TI TO i1 i2 a b) :
    Turn P w K (.Tuple elts kk tpos) (ItzM K a b) [z, TI, TO, i1, i2] z (fun i h => IsZip h z TI TO .none ∧ IsPair h TI (.ref i1) (.ref i2) ∧ (∃ x y, IsPair h TO x y) ∧ h.IsListIter i1 a i ∧ h.IsTupleIter i2 b i) where
  mem := by simp
  obj := fun i h st c hc => by
    obtain ⟨hz, hTI, ⟨x, y, hTO⟩, ⟨o1, e1, _, d1⟩, ⟨o2, e2, _, d2⟩⟩ := st
    rcases in5 hc with rfl | rfl | rfl | rfl | rfl
    · exact ⟨_, hz, fun v q => nomatch q⟩
    · exact ⟨_, hTI, fun v q => nomatch q⟩
    · exact ⟨_, hTO, fun v q => nomatch q⟩
    · exact ⟨o1, e1, fun v q => by rw [d1] at q; cases q⟩
    · exact ⟨o2, e2, fun v q => by rw [d2] at q; cases q⟩
  keep := fun i h h' st k => by
    obtain ⟨hz, hTI, ⟨x, y, hTO⟩, h1, h2⟩ := st
    exact ⟨k z (by simp) _ hz, k TI (by simp) _ hTI, ⟨x, y, k TO (by simp) _ hTO⟩, h1.at fun o q => k i1 (by simp) o q, h2.at fun o q => k i2 (by simp) o q⟩
  item := by
    intro X hP hw hK hc i pins s σ H E I hf st hg
    subst hP hw hK
    obtain ⟨hz, hTI, ⟨x0, y0, hTO⟩, h1, h2⟩ := st
    obtain ⟨xs, ys, x, y, qx, qy, hx, hy⟩ := hg
    obtain ⟨vs, rv, p, _⟩ := I.list qx
    obtain ⟨us, ru, p2, _⟩ := I.tuple qy
    obtain ⟨u, hu, r1⟩ := rv.get hx
    obtain ⟨u2, hu2, r2⟩ := ru.get hy
    have lz : z < s.heap.objs.size := Heap.lt_size hz
    refine pyNext_zm_item D hz hTI hTO ⟨h1, p.isList⟩ ⟨h2, p2⟩ (x := u) (y := u2) (by simpa using hu) (by simpa using hu2) fun h' zz' TO' g1 g2 hT hsz hk => ?_
    refine ⟨_, rfl, wpAny_letOwnedTupleGo_zip (s := { s with heap := h' }) zz' fun h'' zz'' sb => ?_⟩
    have hT2 : h''.get? s.heap.objs.size = some { cls := .type "tuple", data := .seq #[u, u2] } := (sb.2 _ (Nat.ne_of_gt lz)).trans hT
    have new : ObjOk X.prog X.w (upd H s.heap.objs.size (.tup [x, y])) h'' s.heap.objs.size (.tup [x, y]) :=
      ⟨by show 2 ≤ sizeLine; decide, [u, u2], .cons r1 (.cons r2 .nil), ⟨_, hT2, rfl, _, rfl⟩⟩
    have I1 : Inv X pins σ (upd H s.heap.objs.size (.tup [x, y])) { s with heap := h'' } :=
      I.turnedNew (t' := s.toks) (ch := [z, TI, TO, i1, i2]) (fun c o hb q => (sb.2 c (fun q' => hb (by simp [q']))).trans (hk c o (fun q' => hb (by simp [q'])) (fun q' => hb (by simp [q'])) (fun q' => hb (by simp [q'])) (fun q' => hb (by simp [q'])) q)) hf (Nat.le_refl _) new
    refine ⟨.ref s.heap.objs.size, _, I1, rfl, ⟨_, x, y, rfl, I.hok.fresh (Nat.le_refl _), rfl, fun l hl => by rw [I.list_inj hl qx]; exact hx, fun l hl => by rw [I.tuple_inj hl qy]; exact hy⟩, ⟨zz'', ?_, ⟨u, u2, ?_⟩, ?_, ?_⟩, fun c hcm => ?_⟩
    · exact (sb.2 _ D.TIz).trans (hk _ _ D.TIz D.TITO D.TIi1 D.TIi2 hTI)
    · exact (sb.2 _ D.TOz).trans TO'
    · exact g1.1.at fun o q => (sb.2 _ D.i1z).trans q
    · exact g2.1.at fun o q => (sb.2 _ D.i2z).trans q
    · have hlt : c < s.heap.objs.size := by
        rcases in5 hcm with rfl | rfl | rfl | rfl | rfl
        · exact lz
        · exact Heap.lt_size hTI
        · exact Heap.lt_size hTO
        · obtain ⟨_, e1, _⟩ := h1; exact Heap.lt_size e1
        · obtain ⟨_, e2, _⟩ := h2; exact Heap.lt_size e2
      rw [upd_ne (Nat.ne_of_lt hlt)]
      exact (hf c hcm).1
  done := by
    intro X hP hw hK hc i pins s σ H E I hf st hg
    subst hP hw hK
    obtain ⟨hz, hTI, ⟨x0, y0, hTO⟩, h1, h2⟩ := st
    obtain ⟨xs, ys, qx, qy, hend⟩ := hg
    obtain ⟨vs, rv, p, _⟩ := I.list qx
    obtain ⟨us, ru, p2, _⟩ := I.tuple qy
    have l1 := rv.length
    have l2 := ru.length
    have he : vs.toArray[i]? = none ∨ us.toArray[i]? = none := by
      rcases hend with q | q
      · exact .inl (by simp; omega)
      · exact .inr (by simp; omega)
    exact pyNext_zm_end (I.ok.hd hc) D hz hTI hTO ⟨h1, p.isList⟩ ⟨h2, p2⟩ he fun h' hk => ⟨rfl, I.turnedL (t' := s.toks) (ch := [z, TI, TO, i1, i2]) (fun c o hb q =>
      hk c o (fun q' => hb (by simp [q'])) (fun q' => hb (by simp [q'])) (fun q' => hb (by simp [q'])) (fun q' => hb (by simp [q'])) q) hf⟩
  self := fun A i s Q E st h => wpAny_pyIter_zip st.1 h

def iZipM (K : PySem.W.Frag) (ta : TA) : TI := fun σ H R => ta σ H fun vs H1 => ∃ a b xs ys, vs = [.ref a, .ref b] ∧ SqL K H1 a xs ∧ SqT K H1 b ys ∧ R (ItzM K a b) H1
/-- for x, y in zip(list, tuple) -/
theorem pi_zipM {X : Cx} {e e2 : Expr} {ta : TA} {p pos tpos : Pos} {elts : List Expr} {kk : Nat} (hg : Gl X "zip") (hm : X.mg "zip" = none) (ha : PA X [e, e2] ta)
    (hs : starEach [e, e2] X.env = (false, eval e X.env) :: starEach [e2] X.env := by rfl) (hpl : (backTo pos (starEach [e2] X.env)).any (·.1) = false := by rfl) :
    PI X (.Tuple elts kk tpos) (.Call (.Name "zip" p) [e, e2] [] pos) (iZipM X.K ta) := by
  refine ⟨fun pins s σ H R I h => ?_⟩
  refine Call_ (ld_blt I hg hm PyProof.Rows.boot_zip (PyProof.Rows.callWith_type1 (thn (ha.run pos pins s σ H _ I h) fun us s1 ⟨vs, H1, I1, r1, q1⟩ => ?_) hs hpl))
  obtain ⟨a, b, xs, ys, ex, qx, qy, q⟩ := q1
  subst ex
  cases r1 with
  | cons r rr =>
    cases rr with
    | cons r' rr =>
      cases rr
      cases r
      cases r'
      obtain ⟨vs, rv, p1, _⟩ := I1.list qx
      obtain ⟨us, ru, p2, _⟩ := I1.tuple qy
      obtain ⟨o2, ho2, _⟩ := id p2
      refine call_zm p1.isList (show s1.heap.IsTuple b us.toArray from p2) fun h' hz hTI hTO h1 h2 hk => wpAny_pyIter_zip hz ?_
      have I2 : Inv X pins σ H1 { s1 with heap := h' } := I1.kept (t' := s1.toks) hk
      refine ⟨s1.heap.objs.size + 4, [s1.heap.objs.size + 4, s1.heap.objs.size + 2, s1.heap.objs.size + 3, s1.heap.objs.size, s1.heap.objs.size + 1], _, _, H1, rfl, I2, turn_zm (PySem.W.ktu_apart s1.heap.objs.size a b p1.lt (Heap.lt_size ho2)), ⟨hz, hTI, ⟨_, _, hTO⟩, h1, h2⟩, fun c hc => ?_, q⟩
      have hle : s1.heap.objs.size ≤ c := by
        rcases in5 hc with rfl | rfl | rfl | rfl | rfl
        · exact Nat.le_add_right _ _
        · exact Nat.le_add_right _ _
        · exact Nat.le_add_right _ _
        · exact Nat.le_refl _
        · exact Nat.le_add_right _ _
      exact I1.fpOk hle (I1.hok.fresh hle)
/-- its walk -/
theorem walk_zipM {K : PySem.W.Frag} {a b : Addr} {xs ys : List V} {n : Nat} (hn : n = min xs.length ys.length) : Walk (ItzM K a b) n (fun H => SqL K H a xs ∧ SqT K H b ys) (YPair (fun i => xs[i]?) (fun i => ys[i]?)) := by
  subst hn
  refine ⟨fun i _ hi q => ?_, fun _ q => ⟨xs, ys, q.1, q.2, by omega⟩, fun i H v H' _ q y => ?_⟩
  · have h1 : i < xs.length := by omega
    have h2 : i < ys.length := by omega
    exact ⟨xs, ys, xs[i], ys[i], q.1, q.2, by simp [h1], by simp [h2]⟩
  · obtain ⟨T, x, z, h1, h2, h3, h4, h5⟩ := y
    exact ⟨T, x, z, h1, h2, h3, h4 xs q.1, h5 ys q.2⟩
end My

set_option Elab.async false
set_option maxRecDepth 100000
set_option maxHeartbeats 4000000
/-! The package's words: what is a name, what are digits. -/
namespace My
open PySem L2
abbrev sIsInteger : Stmt := top 8
abbrev sIsNumber : Stmt := top 9
abbrev sIsBelow : Stmt := top 10
abbrev sIsName : Stmt := top 11
abbrev sIsDigits : Stmt := top 12
abbrev sIsSeq : Stmt := top 13
abbrev sFits : Stmt := top 14
abbrev sHasForm : Stmt := top 15

/-- what the isinstance tests say of a value: str, int, bool, list, tuple -/
structure Knd (K : PySem.W.Frag) (H : Hp) (x : V) (s i b l t : Bool) : Prop where
  ty : ∃ T, TyX K H x T ∧ PySem.W.kitOne K T (.type "str") = some s ∧ PySem.W.kitOne K T (.type "int") = some i ∧ PySem.W.kitOne K T (.type "bool") = some b ∧ PySem.W.kitOne K T (.type "list") = some l ∧ PySem.W.kitOne K T (.type "tuple") = some t
  str : s = true → ∃ z, x = .str z
  int : i = true → b = false → ∃ n, x = .int n
  nstr : s = false → ∀ z, x ≠ .str z
section
variable {K : PySem.W.Frag} {H : Hp}
theorem knd_non : Knd K H .non false false false false false := ⟨⟨_, .base .non, kit_ty (by decide +kernel), kit_ty (by decide +kernel), kit_ty (by decide +kernel), kit_ty (by decide +kernel), kit_ty (by decide +kernel)⟩, nofun, nofun, fun _ _ z => nomatch z⟩
theorem knd_bl {b : Bool} : Knd K H (.bl b) false true true false false := ⟨⟨_, .base (.bl b), kit_ty (by decide +kernel), kit_ty (by decide +kernel), kit_ty (by decide +kernel), kit_ty (by decide +kernel), kit_ty (by decide +kernel)⟩, nofun, nofun, fun _ _ z => nomatch z⟩
theorem knd_int {n : Int} : Knd K H (.int n) false true false false false := ⟨⟨_, .base (.int n), kit_ty (by decide +kernel), kit_ty (by decide +kernel), kit_ty (by decide +kernel), kit_ty (by decide +kernel), kit_ty (by decide +kernel)⟩, nofun, fun _ _ => ⟨n, rfl⟩, fun _ _ z => nomatch z⟩
theorem knd_str {z : Str} : Knd K H (.str z) true false false false false := ⟨⟨_, .base (.str z), kit_ty (by decide +kernel), kit_ty (by decide +kernel), kit_ty (by decide +kernel), kit_ty (by decide +kernel), kit_ty (by decide +kernel)⟩, fun _ => ⟨z, rfl⟩, nofun, nofun⟩
theorem knd_lst {a : Addr} {xs : List V} (h : H a = some (.lst xs)) : Knd K H (.ref a) false false false true false := ⟨⟨_, .base (.lst h), kit_ty (by decide +kernel), kit_ty (by decide +kernel), kit_ty (by decide +kernel), kit_ty (by decide +kernel), kit_ty (by decide +kernel)⟩, nofun, nofun, fun _ _ z => nomatch z⟩
theorem knd_tup {a : Addr} {xs : List V} (h : H a = some (.tup xs)) : Knd K H (.ref a) false false false false true := ⟨⟨_, .base (.tup h), kit_ty (by decide +kernel), kit_ty (by decide +kernel), kit_ty (by decide +kernel), kit_ty (by decide +kernel), kit_ty (by decide +kernel)⟩, nofun, nofun, fun _ _ z => nomatch z⟩
end
abbrev LET : Str := "abcdefghijklmnopqrstuvwxyz"
abbrev DIG : Str := "0123456789"
/-- a sign is one of some -/
def sgn (T : Str) (c : Nat) : Bool := !(Builtin.Str.occurrences T ⟨#[c]⟩ 0 T.length 1).isEmpty
/-- a text is a name -/
def nmS (z : Str) : Bool := decide ((1 : Int) ≤ z.length) && (decide ((z.length : Int) ≤ 4) && (z.cps.toList.map (sgn LET)).all id)
def nmV : V → Bool
  | .str z => nmS z
  | _ => false
theorem ifT {b : Bool} {A B : Prop} (h : b = true) (g : A) : if b = true then A else B := by
  rw [if_pos h]
  exact g
theorem ifF {b : Bool} {A B : Prop} (h : b = false) (g : B) : if b = true then A else B := by
  rw [if_neg (by rw [h]; exact Bool.false_ne_true)]
  exact g
/-! ### the frame's own words -/
theorem wipe1 {σ : St} {i : Nat} {x : V} : wipe ((wipe σ [i]).set i (some x)) [i] = wipe σ [i] := by
  show ((σ.set i none).set i (some x)).set i none = σ.set i none
  rw [List.set_set, List.set_set]
theorem wipe_at {σ : St} {i : Nat} {x : V} (h : i < σ.length) : ((wipe σ [i]).set i (some x))[i]? = some (some x) := by
  show ((σ.set i none).set i (some x))[i]? = some (some x)
  rw [List.getElem?_set_self (by rw [List.length_set]; exact h)]
/-- is_name(value) -/
def spName (K : PySem.W.Frag) : Sp := fun vs H Q _ => ∃ (x : V) (s i b l t : Bool), vs = [x] ∧ Knd K H x s i b l t ∧ (∀ z, x = .str z → z.length ≤ sizeLine) ∧ ∀ H', Same H H' → Q (.bl (nmV x)) H'
section
variable {P : Program} {w : World} {K : PySem.W.Frag} {mg : Str → Option Value} {base : Heap}
theorem take_bl {z : Str} {f : Nat → Bool} {i : Nat} {c : Nat} (h : z.cps[i]? = some c) : ((z.cps.toList.take i).map f).map V.bl ++ [V.bl (f c)] = ((z.cps.toList.take (i + 1)).map f).map V.bl := by
  have q : z.cps.toList[i]? = some c := by rw [Array.getElem?_toList]; exact h
  rw [List.take_add_one, q, List.map_append, List.map_append]
  rfl
/-- [letter in T for letter in value] -/
theorem rd_signs {z T : Str} {σ : St} {H : Hp} {Q : VK} (hv : σ[0]? = some (some (.str z))) (hn : 1 < σ.length) (hz : z.length ≤ 4)
    (k : ∀ (L : Addr) (H' : Hp), Same H H' → H' L = some (.lst ((z.cps.toList.map (sgn T)).map V.bl)) → Q (.ref L) H') :
    tLc (iStr (tVar 0)) (gName 1) tYes (tOp (fun x y H Q => ∃ i j, x = .str i ∧ y = .str j ∧ Q (.bl (!(Builtin.Str.occurrences j i 0 j.length 1).isEmpty)) H) (tVar 1) (L2.tC (.str T))) [1] σ H Q := by
  refine ⟨_, hv, z, rfl, fun L hL => ?_⟩
  have hzl : z.cps.toList.length ≤ 4 := by rw [Array.length_toList]; exact hz
  refine lc_it walk_str (fun i H1 => i ≤ z.cps.toList.length ∧ H1 L = some (.lst (((z.cps.toList.take i).map (sgn T)).map V.bl)) ∧ Same H H1) ⟨Nat.zero_le _, upd_same, Same.new hL⟩ (fun _ _ _ _ => trivial) ?_ ?_
  · rintro i x H1 H2 hi ⟨_, a1, s1⟩ ⟨rfl, c, hc, rfl⟩
    have hi' : i < z.cps.toList.length := by rw [Array.length_toList]; exact hi
    refine ⟨wipe1, ?_⟩
    refine ⟨_, wipe_at hn, _, _, rfl, rfl, ?_⟩
    refine ⟨_, a1, small1000 (by rw [List.length_map, List.length_map, List.length_take]; omega), hi', ?_, fun b o h => ?_⟩
    · rw [upd_same]
      exact congrArg (fun q => some (HO.lst q)) (take_bl hc)
    · have n1 : b ≠ L := ne_of_none h hL
      rw [upd_ne n1]
      exact s1 _ _ h
  · rintro H1 ⟨_, a1, s1⟩
    have e : z.cps.toList.take z.cps.size = z.cps.toList := List.take_of_length_le (by rw [Array.length_toList]; exact Nat.le_refl _)
    rw [e] at a1
    exact k L H1 s1 a1
end
end My

set_option Elab.async false
set_option maxRecDepth 100000
set_option maxHeartbeats 4000000
namespace My
open PySem L2
section
variable {P : Program} {w : World} {K : PySem.W.Frag} {mg : Str → Option Value} {base : Heap}
theorem cb1 {r : List V → Hp → VK → Prop} {ta : TE} {σ : St} {H : Hp} {Q : VK} (h : ta σ H fun x H1 => r [x] H1 Q) : tCB r (tCons ta tNil) σ H Q := h
theorem scName : FnScope ["value", "letter"] ["value"] (defScope sIsName) := ⟨rfl, rfl, rfl, by decide +kernel, rfl, by decide +kernel, by decide +kernel⟩
/-- what the built-in names are -/
structure Bl (mg : Str → Option Value) : Prop where
  isi : mg "isinstance" = none
  str : mg "str" = none
  int : mg "int" = none
  bool : mg "bool" = none
  lst : mg "list" = none
  tup : mg "tuple" = none
  len : mg "len" = none
  all : mg "all" = none
  zip : mg "zip" = none
  let_ : ∃ u, mg "LETTERS" = some u ∧ RelV (.str LET) u
  dig : ∃ u, mg "DIGITS" = some u ∧ RelV (.str DIG) u
theorem ok_name {f : Addr} {fd : FuncData} (F : Fun K "is_name" "is_name" sIsName f fd) (B : Bl mg) : FnOk P w K mg base CX0 1 f fd ["value"] (spName K) := by
  refine F.ok scName (fun vs H Q E h => ?_) (fun cdv A outer s H vs Q E hr h => ?_)
  · obtain ⟨x, _, _, _, _, _, rfl, _⟩ := h
    rfl
  obtain ⟨x, s, i, b, l, t, rfl, kn, hz, k⟩ := h
  refine ⟨_, pss_one (ps_ret (pe_and (pe_callB call_isi rfl B.isi (by decide +kernel) (pa_cons (pv 0) (pa_cons (pe_bltn (v := .ty "str") rfl B.str (by decide +kernel) rfl) pa_nil)))
    (pe_and (pe_chain op_le op_le pe_int (pe_callB call_len_str rfl B.len (by decide +kernel) (pa_cons (pv 0) pa_nil)) pe_int)
    (pe_one (pe_callB (cr_all rfl) rfl B.all (by decide +kernel) (pa_cons (pe_lc (own := [("letter", 1)]) (g := gName 1) (tt := tYes) rfl scName.nd (pi_str (pv 0))
        (blkOk_by (own := [("letter", 1)]) (N := ["value", "letter"]) (sc := defScope sIsName) (by decide +kernel)) (fun _ _ _ _ _ => pg_name (i := 1) scName.nd rfl (Or.inl rfl)) (fun _ _ _ _ _ => pts_nil)
        (fun _ _ _ _ _ => pe_cmpR op_in_str (pv 1) (C8.pe_gc rfl B.let_) (by with_unfolding_all rfl))) pa_nil)))))), ?_⟩
  obtain ⟨T, hT, k1, _⟩ := kn.ty
  refine ⟨_, rfl, x, .ty "str", T, _, s, rfl, .ty "str", hT, k1, s, rfl, ?_⟩
  cases s with
  | false =>
    refine ifF rfl ?_
    have e : nmV x = false := by
      cases x with
      | str z => exact absurd rfl (kn.nstr rfl z)
      | _ => rfl
    have q := k H (fun _ _ h => h)
    rw [e] at q
    exact q
  | true =>
    obtain ⟨z, rfl⟩ := kn.str rfl
    refine ifT rfl ?_
    have hzl := hz z rfl
    refine ⟨_, rfl, z, rfl, hzl, _, _, rfl, rfl, _, rfl, ?_⟩
    by_cases h1 : (1 : Int) ≤ z.length
    · refine ifT (decide_eq_true h1) ?_
      refine ⟨_, _, rfl, rfl, _, rfl, ?_⟩
      by_cases h4 : (z.length : Int) ≤ 4
      · refine ifT (decide_eq_true h4) ?_
        refine cb1 (rd_signs (z := z) (T := LET) (σ := [some (.str z), none]) rfl (by show 1 < 2; decide) (by omega) fun L H' s' a' => ?_)
        refine ⟨L, _, rfl, SqL.of a', ?_⟩
        have e : nmV (.str z) = (z.cps.toList.map (sgn LET)).all id := by
          show (decide ((1 : Int) ≤ z.length) && (decide ((z.length : Int) ≤ 4) && (z.cps.toList.map (sgn LET)).all id)) = _
          rw [decide_eq_true h1, decide_eq_true h4]
          rfl
        rw [← e]
        exact k H' s'
      · refine ifF (decide_eq_false h4) ?_
        have e : nmV (.str z) = false := by
          show (decide ((1 : Int) ≤ z.length) && (decide ((z.length : Int) ≤ 4) && (z.cps.toList.map (sgn LET)).all id)) = _
          rw [decide_eq_false h4, Bool.false_and, Bool.and_false]
        rw [← e]
        exact k H (fun _ _ h => h)
    · refine ifF (decide_eq_false h1) ?_
      refine ⟨false, rfl, ?_⟩
      refine ifF rfl ?_
      have e : nmV (.str z) = false := by
        show (decide ((1 : Int) ≤ z.length) && (decide ((z.length : Int) ≤ 4) && (z.cps.toList.map (sgn LET)).all id)) = _
        rw [decide_eq_false h1, Bool.false_and]
      rw [← e]
      exact k H (fun _ _ h => h)
end
end My

set_option Elab.async false
set_option maxRecDepth 100000
set_option maxHeartbeats 4000000
namespace My
open PySem PySem.Spec PyProof.Rows L2
/-- D.get(key), D a written dict, the key a text -/
def tKGet (K : PySem.W.Frag) (d : Addr) (ty : TE) : TE := fun σ H Q => ty σ H fun y H2 => ∃ (z : Str) (r : Option Value) (v : V), y = .str z ∧ PySem.W.nsIn K d z = some r ∧ RelV v (r.getD .none) ∧ Q v H2
theorem pe_kget {X : Cx} {d : Addr} {es : Array DictEntry} {n : Nat} {o e : Expr} {apos cpos : Pos} {ty : TE} (D : KDict X.K X.w d es n) (ho : PE X o (L2.tC (.ref d))) (he : PE X e ty) (m : M1 X o "get" apos e cpos) :
    PE X (.Call (.Attribute o "get" apos) [e] [] cpos) (tKGet X.K d ty) := by
  refine ⟨fun pins s σ H Q I h => ?_⟩
  refine wpAny_Call_method m.base m.few m.line PySem.F.plainAttrs_dict PySem.F.slot_dict_get PySem.F.type_dict_get (thn (ho.run pins s σ H _ I (show L2.tC (.ref d) σ H (fun x H1 => x = .ref d ∧ tKGet X.K d ty σ H1 Q) from ⟨rfl, h⟩)) fun u s1 ⟨x, H1, I1, rx, ex, q1⟩ => ?_)
  subst ex
  obtain rfl : u = Value.ref d := rx
  refine ⟨kd_type D I1, fun b q => ?_, ?_⟩
  · cases q
    exact ⟨_, I1.kIn _ _ D.at_, rfl⟩
  rw [m.trees]
  refine Calls.callWith_builtin rfl (Calls.evalArgs_plain (Calls.spliced_cons (thn (he.run pins s1 σ H1 _ I1 q1) fun iv s2 ⟨y, H2, I2, ry, z, r, v, ey, en, rv, q2⟩ => Calls.spliced_nil ?_)))
  subst ey
  obtain ⟨t, rfl⟩ := ry
  refine call_meetsIn PySem.F.slot_dict_get (kd_type D I2) PySem.F.entry_dict_get (PySem.F.args_dict_get_2 _ _) (meets_dict_get (strKind X.prog X.w) d (PySem.strKind_is X.prog X.w z t) D.low) ⟨_, PySem.W.mapOf_K (prog := X.prog) I2.kIn D.at_ D.lit, ?_⟩
  rw [PySem.W.find_K D.at_ en]
  exact ⟨v, H2, I2.tok _, rv, q2⟩
end My

set_option Elab.async false
set_option maxRecDepth 100000
set_option maxHeartbeats 4000000
namespace My
open PySem L2
/-- a text tells a number -/
def dgS (z : Str) : Bool := decide ((1 : Int) ≤ z.length) && (decide ((z.length : Int) ≤ 4) && ((z.cps.toList.map (sgn DIG)).all id &&
  (decide (V.str z = V.str "0") || !decide (V.str ⟨#[z.cps.toList.headD 0]⟩ = V.str "0"))))
def fitS (z r : Str) : Bool := if decide (V.str r = V.str "number") = true then dgS z else nmS z
def spDigits : Sp := fun vs H Q _ => ∃ z : Str, vs = [.str z] ∧ z.length ≤ sizeLine ∧ ∀ H', Same H H' → Q (.bl (dgS z)) H'
def spSeq (K : PySem.W.Frag) : Sp := fun vs H Q _ => ∃ (x : V) (s i b l t : Bool), vs = [x] ∧ (∀ H', Same H H' → Knd K H' x s i b l t) ∧ ∀ H', Same H H' → Q (.bl (l || t)) H'
def spFits : Sp := fun vs H Q _ => ∃ z r : Str, vs = [.str z, .str r] ∧ z.length ≤ sizeLine ∧ ∀ H', Same H H' → Q (.bl (fitS z r)) H'
section
variable {P : Program} {w : World} {K : PySem.W.Frag} {mg : Str → Option Value} {base : Heap}
theorem scDigits : FnScope ["text", "letter"] ["text"] (defScope sIsDigits) := ⟨rfl, rfl, rfl, by decide +kernel, rfl, by decide +kernel, by decide +kernel⟩
theorem scSeq : FnScope ["value"] ["value"] (defScope sIsSeq) := ⟨rfl, rfl, rfl, by decide +kernel, rfl, by decide +kernel, by decide +kernel⟩
theorem scFits : FnScope ["word", "role"] ["word", "role"] (defScope sFits) := ⟨rfl, rfl, rfl, by decide +kernel, rfl, by decide +kernel, by decide +kernel⟩
theorem ok_digits {f : Addr} {fd : FuncData} (F : Fun K "is_digits" "is_digits" sIsDigits f fd) (B : Bl mg) : FnOk P w K mg base CX0 1 f fd ["text"] spDigits := by
  refine F.ok scDigits (fun vs H Q E h => ?_) (fun cdv A outer s H vs Q E hr h => ?_)
  · obtain ⟨x, rfl, _⟩ := h
    rfl
  obtain ⟨z, rfl, hz, k⟩ := h
  refine ⟨_, pss_one (ps_ret (pe_and (pe_chain op_le op_le pe_int (pe_callB call_len_str rfl B.len (by decide +kernel) (pa_cons (pv 0) pa_nil)) pe_int)
    (pe_and (pe_callB (cr_all rfl) rfl B.all (by decide +kernel) (pa_cons (pe_lc (own := [("letter", 1)]) (g := gName 1) (tt := tYes) rfl scDigits.nd (pi_str (pv 0))
        (blkOk_by (own := [("letter", 1)]) (N := ["text", "letter"]) (sc := defScope sIsDigits) (by decide +kernel)) (fun _ _ _ _ _ => pg_name (i := 1) scDigits.nd rfl (Or.inl rfl)) (fun _ _ _ _ _ => pts_nil)
        (fun _ _ _ _ _ => pe_cmpR op_in_str (pv 1) (C8.pe_gc rfl B.dig) (by with_unfolding_all rfl))) pa_nil))
    (pe_one (pe_or (pe_cmpR op_eq (pv 0) pe_str (nomark _)) (pe_one (pe_cmpR op_ne (pe_ix ix_str (pv 0) pe_int (fun _ _ => rfl)) pe_str (nomark _)))))))), ?_⟩
  refine ⟨_, rfl, z, rfl, hz, _, _, rfl, rfl, _, rfl, ?_⟩
  by_cases h1 : (1 : Int) ≤ z.length
  · refine ifT (decide_eq_true h1) ?_
    refine ⟨_, _, rfl, rfl, _, rfl, ?_⟩
    by_cases h4 : (z.length : Int) ≤ 4
    · refine ifT (decide_eq_true h4) ?_
      refine cb1 (rd_signs (z := z) (T := DIG) (σ := [some (.str z), none]) rfl (by show 1 < 2; decide) (by omega) fun L H' s' a' => ?_)
      refine ⟨L, _, rfl, SqL.of a', _, rfl, ?_⟩
      have e : dgS z = ((z.cps.toList.map (sgn DIG)).all id && (decide (V.str z = V.str "0") || !decide (V.str ⟨#[z.cps.toList.headD 0]⟩ = V.str "0"))) := by
        unfold dgS
        rw [decide_eq_true h1, decide_eq_true h4]
        rfl
      have kk := k H' s'
      rw [e] at kk
      cases hd : (z.cps.toList.map (sgn DIG)).all id with
      | false =>
        rw [hd] at kk
        exact ifF rfl kk
      | true =>
        rw [hd] at kk
        refine ifT rfl ?_
        refine ⟨_, rfl, rfl, _, rfl, ?_⟩
        by_cases h0 : V.str z = V.str "0"
        · refine ifT (decide_eq_true h0) ?_
          rw [decide_eq_true h0] at kk
          exact kk
        · refine ifF (decide_eq_false h0) ?_
          rw [decide_eq_false h0] at kk
          have hl : 0 < z.cps.toList.length := by
            have q1 : 1 ≤ z.length := by omega
            rw [Array.length_toList]
            exact q1
          refine ⟨_, rfl, _, _, z.cps.toList.headD 0, rfl, rfl, hz, ?_, rfl, kk⟩
          have q : z.cps.toList[0]? = some (z.cps.toList.headD 0) := by
            cases hc : z.cps.toList with
            | nil => rw [hc] at hl; exact absurd hl (by decide)
            | cons c r => rfl
          have q2 := atI_nat q
          exact q2
    · refine ifF (decide_eq_false h4) ?_
      have e : dgS z = false := by
        unfold dgS
        rw [decide_eq_false h4, Bool.false_and, Bool.and_false]
      rw [← e]
      exact k H (fun _ _ h => h)
  · refine ifF (decide_eq_false h1) ?_
    refine ⟨false, rfl, ?_⟩
    refine ifF rfl ?_
    have e : dgS z = false := by
      unfold dgS
      rw [decide_eq_false h1, Bool.false_and]
    rw [← e]
    exact k H (fun _ _ h => h)
theorem ok_seq {f : Addr} {fd : FuncData} (F : Fun K "is_sequence" "is_sequence" sIsSeq f fd) (B : Bl mg) : FnOk P w K mg base CX0 1 f fd ["value"] (spSeq K) := by
  refine F.ok scSeq (fun vs H Q E h => ?_) (fun cdv A outer s H vs Q E hr h => ?_)
  · obtain ⟨x, _, _, _, _, _, rfl, _⟩ := h
    rfl
  obtain ⟨x, s, i, b, l, t, rfl, kn, k⟩ := h
  refine ⟨_, pss_one (ps_ret (pe_callB call_isiT rfl B.isi (by decide +kernel) (pa_cons (pv 0) (pa_cons (pe_tup (pa_cons (pe_bltn (v := .ty "list") rfl B.lst (by decide +kernel) rfl) (pa_cons (pe_bltn (v := .ty "tuple") rfl B.tup (by decide +kernel) rfl) pa_nil))) pa_nil)))), ?_⟩
  refine ⟨_, rfl, (by show 2 ≤ sizeLine; decide), fun T hT => ?_⟩
  obtain ⟨ty, h1, _, _, _, h4, h5⟩ := (kn _ (Same.new (o := .tup [.ty "list", .ty "tuple"]) hT)).ty
  refine ⟨x, T, _, ty, _, l || t, rfl, upd_same, .cons (.ty _) (.cons (.ty _) .nil), h1, ?_, k _ (Same.new hT)⟩
  refine kitAny_cons h4 (fun e => kitAny_cons h5 (fun e' => ?_) (fun e' => ?_)) (fun e => ?_)
  · rw [e, e']; exact kitAny_nil
  · rw [e, e']; rfl
  · rw [e]; rfl
theorem ok_fits {f fD fN : Addr} {fd fdD fdN : FuncData} (F : Fun K "fits_role" "fits_role" sFits f fd) (GD : FnOk P w K mg base CX0 1 fD fdD ["text"] spDigits) (bD : Binds K fdD ["text"] []) (kD : PySem.W.keepIn K (.ref fD) = true) (mD : mg "is_digits" = some (.ref fD))
    (GN : FnOk P w K mg base CX0 1 fN fdN ["value"] (spName K)) (bN : Binds K fdN ["value"] []) (kN : PySem.W.keepIn K (.ref fN) = true) (mN : mg "is_name" = some (.ref fN)) :
    FnOk P w K mg base CX0 2 f fd ["word", "role"] spFits := by
  refine F.ok scFits (fun vs H Q E h => ?_) (fun cdv A outer s H vs Q E hr h => ?_)
  · obtain ⟨x, y, rfl, _⟩ := h
    rfl
  obtain ⟨z, r, rfl, hz, k⟩ := h
  refine ⟨_, pss_one (ps_ret (pe_ifExp (pt_cmpR op_eq (pv 1) pe_str (nomark _)) (pe_call GD hr rfl mD kD bD .nil pass0 (pa_cons (pv 0) pa_nil)) (pe_call GN hr rfl mN kN bN .nil pass0 (pa_cons (pv 0) pa_nil)))), ?_⟩
  refine ⟨_, rfl, rfl, _, rfl, ?_⟩
  refine ite2 (fun hc => ?_) (fun hc => ?_)
  · refine ⟨_, rfl, z, rfl, hz, fun H' s' => ?_⟩
    have e : fitS z r = dgS z := by unfold fitS; rw [if_pos hc]
    rw [← e]
    exact k H' s'
  · refine ⟨_, rfl, .str z, _, _, _, _, _, rfl, knd_str, fun y hy => by cases hy; exact hz, fun H' s' => ?_⟩
    have e : fitS z r = nmV (.str z) := by unfold fitS; rw [if_neg hc]; rfl
    rw [← e]
    exact k H' s'
end
end My

set_option Elab.async false
set_option maxRecDepth 100000
set_option maxHeartbeats 4000000
namespace My
open PySem L2
/-- words have the form that roles ask for -/
def formS (ws : List Str) : Option (List Str) → Bool
  | none => false
  | some rs => decide ((ws.length : Int) = (rs.length : Int) + 1) && (((ws.drop 1).zip rs).map fun p => fitS p.1 p.2).all id
/-- roles: None, or a tuple of texts -/
def RoleV (K : PySem.W.Frag) (H : Hp) : V → Option (List Str) → Prop
  | v, none => v = .non
  | v, some rs => ∃ b, v = .ref b ∧ SqT K H b (rs.map V.str) ∧ rs.length ≤ 100
/-- has_form(words, roles) -/
def spForm (K : PySem.W.Frag) : Sp := fun vs H Q _ => ∃ (a : Addr) (ws : List Str) (ro : V) (rs : Option (List Str)), vs = [.ref a, ro] ∧ SqL K H a (ws.map V.str) ∧ (∀ z ∈ ws, z.length ≤ sizeLine) ∧ RoleV K H ro rs ∧
  ∀ H', Same H H' → Q (.bl (formS ws rs)) H'
section
variable {P : Program} {w : World} {K : PySem.W.Frag} {mg : Str → Option Value} {base : Heap}
theorem Same.seqLx {H H' : Hp} {a : Addr} {xs : List V} (s : Same H H') (h : SqL K H a xs) : SqL K H' a xs := by
  rcases h with (h | ⟨o, h⟩) | h
  · exact .inl (.inl (s _ _ h))
  · exact .inl (.inr ⟨o, s _ _ h⟩)
  · exact .inr h
theorem Same.seqTx {H H' : Hp} {a : Addr} {xs : List V} (s : Same H H') (h : SqT K H a xs) : SqT K H' a xs := by
  rcases h with (h | ⟨o, h⟩) | h
  · exact .inl (.inl (s _ _ h))
  · exact .inl (.inr ⟨o, s _ _ h⟩)
  · exact .inr h
theorem strs_at {ws : List Str} {i : Nat} {x : V} (h : (ws.map V.str)[i]? = some x) : ∃ z, ws[i]? = some z ∧ x = V.str z := by
  rw [List.getElem?_map] at h
  cases e : ws[i]? with
  | none =>
    rw [e] at h
    cases h
  | some z =>
    rw [e] at h
    exact ⟨z, rfl, (Option.some.inj h).symm⟩
theorem zip_snoc {α β γ : Type} {xs : List α} {ys : List β} {f : α × β → γ} {i : Nat} {x : α} {y : β} (hx : xs[i]? = some x) (hy : ys[i]? = some y) :
    (((xs.zip ys).map f).take i) ++ [f (x, y)] = ((xs.zip ys).map f).take (i + 1) := by
  have q : ((xs.zip ys).map f)[i]? = some (f (x, y)) := by
    rw [List.getElem?_map, List.getElem?_zip_eq_some (z := (x, y)) |>.mpr ⟨hx, hy⟩]
    rfl
  rw [List.take_add_one, q]
  rfl
theorem cut_one (xs : List V) : cutV xs (some 1) none = xs.drop 1 := by
  unfold cutV
  cases xs with
  | nil => rfl
  | cons x r =>
    have e1 : HT.sIx (x :: r).length 0 (some 1) = 1 := by
      unfold HT.sIx
      simp
    have e2 : HT.sIx (x :: r).length (x :: r).length none = (x :: r).length := rfl
    rw [e1, e2]
    exact List.take_of_length_le (by simp)
theorem nxr {r : List V → Hp → VK → Prop} {ta : TE} {D D0 : Ends} {σ : St} {H : Hp} (hD : D.nx = tRet (tCB r (tCons ta tNil)) D0) (h : ta σ H fun x H1 => r [x] H1 D0.rt) : tNext D σ H := by
  show D.nx σ H
  rw [hD]
  exact h
theorem formS_some (ws rs : List Str) : formS ws (some rs) = (decide ((ws.length : Int) = (rs.length : Int) + 1) && (((ws.drop 1).zip rs).map fun p => fitS p.1 p.2).all id) := rfl
theorem scForm : FnScope ["words", "roles", "word", "role"] ["words", "roles"] (defScope sHasForm) := ⟨rfl, rfl, rfl, by decide +kernel, rfl, by decide +kernel, by decide +kernel⟩
theorem ok_form {f fF : Addr} {fd fdF : FuncData} (F : Fun K "has_form" "has_form" sHasForm f fd) (B : Bl mg) (GF : FnOk P w K mg base CX0 2 fF fdF ["word", "role"] spFits) (bF : Binds K fdF ["word", "role"] []) (kF : PySem.W.keepIn K (.ref fF) = true) (mF : mg "fits_role" = some (.ref fF)) :
    FnOk P w K mg base CX0 3 f fd ["words", "roles"] (spForm K) := by
  refine F.ok scForm (fun vs H Q E h => ?_) (fun cdv A outer s H vs Q E hr h => ?_)
  · obtain ⟨a, ws, ro, rs, rfl, _⟩ := h
    rfl
  obtain ⟨a, ws, ro, rs, rfl, hS, hz, hr', k⟩ := h
  refine ⟨_, pss_cons (ps_if (PW.pt (pw_or (pt_cmpR op_isN (pv 1) pe_non (nomark _)) (pw_or1 (pt_cmpR op_ne (pe_callB call_len_seq rfl B.len (by decide +kernel) (pa_cons (pv 0) pa_nil)) (pe_op op_add (pe_callB call_len_seq rfl B.len (by decide +kernel) (pa_cons (pv 1) pa_nil)) pe_int) (nomark _)))))
      (pss_one (ps_ret pe_bl)) pss_nil)
    (pss_one (ps_ret (pe_callB (cr_all rfl) rfl B.all (by decide +kernel) (pa_cons (pe_lc (own := [("word", 2), ("role", 3)]) (g := gTup K 2 (gCons (gName 2) (gCons (gName 3) gNil))) (tt := tYes) rfl scForm.nd
        (pi_zipM rfl B.zip (pa_cons (pe_slice sl_list (pv 0) (po_some pe_int) po_none) (pa_cons (pv 1) pa_nil)))
        (blkOk_by (own := [("word", 2), ("role", 3)]) (N := ["words", "roles", "word", "role"]) (sc := defScope sHasForm) (by decide +kernel))
        (fun _ _ _ _ _ => pg_tup rfl (pgs_cons (pg_name (i := 2) scForm.nd rfl (Or.inl rfl)) (pgs_cons (pg_name (i := 3) scForm.nd rfl (Or.inl rfl)) pgs_nil))) (fun _ _ _ _ _ => pts_nil)
        (fun _ _ _ _ _ => pe_call GF hr rfl mF kF bF .nil pass0 (pa_cons (pv 2) (pa_cons (pv 3) pa_nil)))) pa_nil)))), ?_⟩
  cases rs with
  | none =>
    cases hr'
    refine ⟨_, rfl, rfl, _, rfl, ?_⟩
    exact k H (fun _ _ h => h)
  | some rs =>
    obtain ⟨b, rfl, hT, h100⟩ := hr'
    refine ⟨_, rfl, rfl, _, rfl, ?_⟩
    refine ⟨_, rfl, a, _, rfl, .inl hS, ?_⟩
    refine ⟨_, rfl, b, _, rfl, .inr hT, ?_⟩
    refine ⟨_, _, rfl, rfl, rfl, _, rfl, ?_⟩
    by_cases hl : (ws.length : Int) = (rs.length : Int) + 1
    · have hb : (!decide (V.int ((ws.map V.str).length : Nat) = V.int (((rs.map V.str).length : Nat) + 1))) = false := by
        rw [List.length_map, List.length_map, hl, decide_eq_true rfl]
        rfl
      refine ifF hb ?_
      dsimp only [tNext, tRet]
      refine cb1 ?_
      refine ⟨_, rfl, 1, rfl, a, _, rfl, hS, fun p hp => ?_⟩
      rw [cut_one, ← List.map_drop]
      have hbp : b ≠ p → True := fun _ => trivial
      refine ⟨_, rfl, p, b, _, _, rfl, SqL.of upd_same, Same.seqTx (Same.new hp) hT, fun D hD => ?_⟩
      have s0 : Same H (upd H p (.lst ((ws.drop 1).map V.str))) := Same.new hp
      have nDp : p ≠ D := ne_of_none upd_same hD
      have hlen : (ws.drop 1).length = rs.length := by
        rw [List.length_drop]
        omega
      refine lc_it (walk_zipM (K := K) (a := p) (b := b) (xs := (ws.drop 1).map V.str) (ys := rs.map V.str) rfl)
        (fun i H1 => H1 D = some (.lst (((((ws.drop 1).zip rs).map fun p => fitS p.1 p.2).take i).map V.bl)) ∧ Same (upd H p (.lst ((ws.drop 1).map V.str))) H1) ⟨upd_same, Same.new hD⟩
        (fun i H1 _ q => ⟨SqL.of (q.2 _ _ upd_same), Same.seqTx (s0.trans q.2) hT⟩) ?_ ?_
      · rintro i v H1 H2 hi ⟨a1, s1⟩ ⟨T, x, y, rfl, hT1, rfl, hx, hy⟩
        obtain ⟨z, hz1, rfl⟩ := strs_at hx
        obtain ⟨r, hr1, rfl⟩ := strs_at hy
        refine ⟨T, [.str z, .str r], rfl, .inl (.inl upd_same), rfl, _, _, rfl, _, _, rfl, rfl, ?_⟩
        refine ⟨rfl, ?_⟩
        refine ⟨_, rfl, _, rfl, z, r, rfl, hz z (List.mem_of_mem_drop (List.mem_of_getElem? hz1)), fun H3 s3 => ?_⟩
        have n1 : D ≠ T := ne_of_none a1 hT1
        refine ⟨_, s3 _ _ (by rw [upd_ne n1]; exact a1), ?_, ?_, fun c o h => ?_⟩
        · rw [List.length_map, List.length_take, List.length_map, List.length_zip]
          exact small1000 (by omega)
        · have e := zip_snoc (f := fun p : Str × Str => fitS p.1 p.2) hz1 hr1
          rw [← e, List.map_append]
          exact upd_same
        · have n2 : c ≠ D := ne_of_none h hD
          rw [upd_ne n2]
          refine s3 _ _ ?_
          rw [upd_ne (ne_of_none (s1 _ _ h) hT1)]
          exact s1 _ _ h
      · rintro H1 ⟨a1, s1⟩
        refine ⟨D, _, rfl, SqL.of a1, ?_⟩
        have e : formS ws (some rs) = ((((ws.drop 1).zip rs).map fun p => fitS p.1 p.2).take (min ((ws.drop 1).map V.str).length (rs.map V.str).length)).all id := by
          have e2 : ((((ws.drop 1).zip rs).map fun p => fitS p.1 p.2).take (min ((ws.drop 1).map V.str).length (rs.map V.str).length)) = (((ws.drop 1).zip rs).map fun p => fitS p.1 p.2) := by
            apply List.take_of_length_le
            rw [List.length_map, List.length_zip, List.length_map, List.length_map]
            exact Nat.le_refl _
          rw [e2]
          rw [formS_some, decide_eq_true hl, Bool.true_and]
        rw [← e]
        exact k H1 (s0.trans s1)
    · have hb : (!decide (V.int ((ws.map V.str).length : Nat) = V.int (((rs.map V.str).length : Nat) + 1))) = true := by
        rw [List.length_map, List.length_map, decide_eq_false (fun q => hl (V.int.inj q))]
        rfl
      refine ifT hb ?_
      have e : formS ws (some rs) = false := by
        rw [formS_some, decide_eq_false hl, Bool.false_and]
      rw [← e]
      exact k H (fun _ _ h => h)
end
end My

set_option Elab.async false
set_option maxRecDepth 100000
set_option maxHeartbeats 4000000
namespace My
open PySem L2
abbrev sIsStep : Stmt := top 24
/-! ### what split gives -/
theorem split_ne (x y : Str) : ∃ p r, Txt.split x y = p :: r := by
  unfold Txt.split
  split
  · exact ⟨_, _, rfl⟩
  · split
    · exact ⟨_, _, rfl⟩
    · rw [StrLaws.partsBetween_eq]
      exact StrLaws.partsFrom_ne ..
theorem join_le (y : Str) : ∀ (ps : List Str) (p : Str), p ∈ ps → p.length ≤ (Str.join y ps).length
  | [x], p, h => by
    have e : p = x := by simpa using h
    subst e
    exact Nat.le_refl _
  | x :: x' :: r, p, h => by
    show p.length ≤ (x ++ y ++ Str.join y (x' :: r)).length
    rw [Str.length_append, Str.length_append]
    rcases List.mem_cons.mp h with e | e
    · subst e
      omega
    · have q := join_le y (x' :: r) p e
      omega
theorem split_le {x y p : Str} (h : p ∈ Txt.split x y) : p.length ≤ x.length := by
  have q := join_le y (Txt.split x y) p h
  rw [StrLaws.join_split] at q
  exact q
/-! ### steps -/
def stepW (z : Str) : List Str := Txt.split z " "
/-- the roles of a step's words -/
def formOf (z : Str) : Option (List Str) :=
  if z = "enter" ∨ z = "leave" ∨ z = "fence" then some []
  else if z = "mark" then some ["mark", "slot"] else if z = "clear" then some ["mark"] else if z = "read" ∨ z = "look" then some ["slot"] else if z = "use" then some ["slot", "part"]
  else if z = "num" then some ["counter"] else if z = "same" then some ["number", "number"] else if z = "even" then some ["number"] else none
def stepS (z : Str) : Bool := formS (stepW z) (formOf ((stepW z).headD ""))
def stepV : V → Bool
  | .str z => stepS z
  | _ => false
/-- the table of forms lies in the written part -/
structure FormsAt (K : PySem.W.Frag) (w : World) (mg : Str → Option Value) (d : Addr) (es : Array DictEntry) (n : Nat) : Prop where
  gl : ∃ u, mg "FORMS" = some u ∧ RelV (.ref d) u
  kd : KDict K w d es n
  get : ∀ z : Str, ∃ (r : Option Value) (v : V), PySem.W.nsIn K d z = some r ∧ RelV v (r.getD .none) ∧ ∀ H : Hp, RoleV K H v (formOf z)
/-- is_reader_step(text) -/
def spStep (K : PySem.W.Frag) : Sp := fun vs H Q _ => ∃ (x : V) (s i b l t : Bool), vs = [x] ∧ Knd K H x s i b l t ∧ (∀ z, x = .str z → z.length + 2 ≤ sizeLine ∧ PyData.strOk z = true) ∧ ∀ H', Same H H' → Q (.bl (stepV x)) H'
section
variable {P : Program} {w : World} {K : PySem.W.Frag} {mg : Str → Option Value} {base : Heap}
theorem dp_strs {H : Hp} : ∀ ws : List Str, DpAll K H (ws.map V.str) (ws.map PyData.str)
  | [] => .nil
  | z :: r => .cons (.str z) (dp_strs r)
theorem strs_deep : ∀ ws : List Str, PyData.depthAll (ws.map PyData.str) = 0
  | [] => rfl
  | _ :: r => by simp [PyData.depthAll, PyData.depth, strs_deep r]
theorem strs_lay : ∀ ws : List Str, (∀ z ∈ ws, PyData.strOk z = true) → PyData.canLayAll0 (ws.map PyData.str) = true
  | [], _ => rfl
  | z :: r, h => by simp [PyData.canLayAll0, PyData.canLay0, strs_lay r (fun y hy => h y (List.mem_cons_of_mem _ hy)), h z List.mem_cons_self]
theorem shaped_strs {ws : List Str} (h : ∀ z ∈ ws, PyData.strOk z = true) : PySem.SeqAt.shaped (.list (ws.map PyData.str)) = true := by
  simp [PySem.SeqAt.shaped, PyData.canLay0, PyData.depth, strs_lay ws h, strs_deep]
theorem ok_app {x y : Str} : PyData.strOk (x ++ y) = (PyData.strOk x && PyData.strOk y) := by
  show (x.cps ++ y.cps).all _ = _
  rw [Array.all_append]
  rfl
theorem join_ok (y : Str) : ∀ (ps : List Str), PyData.strOk (Str.join y ps) = true → ∀ p ∈ ps, PyData.strOk p = true
  | [x], h, p, hp => by
    have e : p = x := by simpa using hp
    subst e
    exact h
  | x :: x' :: r, h, p, hp => by
    have q : PyData.strOk (x ++ y ++ Str.join y (x' :: r)) = true := h
    rw [ok_app, ok_app] at q
    have q1 := Bool.and_eq_true_iff.mp q
    have q2 := Bool.and_eq_true_iff.mp q1.1
    rcases List.mem_cons.mp hp with e | e
    · subst e
      exact q2.1
    · exact join_ok y (x' :: r) q1.2 p e
theorem split_ok {x y p : Str} (hx : PyData.strOk x = true) (h : p ∈ Txt.split x y) : PyData.strOk p = true := by
  refine join_ok y (Txt.split x y) ?_ p h
  rw [StrLaws.join_split]
  exact hx
theorem cut_two (xs : List V) : cutV xs (some 2) none = xs.drop 2 := by
  unfold cutV
  match xs with
  | [] => rfl
  | [x] => rfl
  | x :: y :: r =>
    have e1 : HT.sIx (x :: y :: r).length 0 (some 2) = 2 := by
      unfold HT.sIx
      simp
    have e2 : HT.sIx (x :: y :: r).length (x :: y :: r).length none = (x :: y :: r).length := rfl
    rw [e1, e2]
    exact List.take_of_length_le (by simp)
theorem cut_to2 (xs : List V) : cutV xs none (some 2) = xs.take 2 := by
  unfold cutV
  match xs with
  | [] => rfl
  | [x] => rfl
  | x :: y :: r =>
    have e1 : HT.sIx (x :: y :: r).length (x :: y :: r).length (some 2) = 2 := by
      unfold HT.sIx
      simp
    have e2 : HT.sIx (x :: y :: r).length 0 none = 0 := rfl
    rw [e1, e2]
    rfl
theorem stepW_cons (z : Str) : ∃ w0 wr, Txt.split z " " = w0 :: wr ∧ ∃ r', stepW z = w0 :: r' := by
  obtain ⟨w0, wr, e⟩ := split_ne z " "
  exact ⟨w0, wr, e, wr, e⟩
theorem stepW_le {z p : Str} (h : p ∈ stepW z) : p.length ≤ z.length := split_le h
theorem scStep : FnScope ["text", "words"] ["text"] (defScope sIsStep) := ⟨rfl, rfl, rfl, by decide +kernel, rfl, by decide +kernel, by decide +kernel⟩
theorem ok_step {f fH d : Addr} {fd fdH : FuncData} {es : Array DictEntry} {n : Nat} (F : Fun K "is_reader_step" "is_reader_step" sIsStep f fd) (B : Bl mg) (FO : FormsAt K w mg d es n)
    (GH : FnOk P w K mg base CX0 3 fH fdH ["words", "roles"] (spForm K)) (bH : Binds K fdH ["words", "roles"] []) (kH : PySem.W.keepIn K (.ref fH) = true) (mH : mg "has_form" = some (.ref fH)) :
    FnOk P w K mg base CX0 4 f fd ["text"] (spStep K) := by
  refine F.ok scStep (fun vs H Q E h => ?_) (fun cdv A outer s H vs Q E hr h => ?_)
  · obtain ⟨x, _, _, _, _, _, rfl, _⟩ := h
    rfl
  obtain ⟨x, s, i, b, l, t, rfl, kn, hz, k⟩ := h
  refine ⟨_, pss_cons (ps_if (pt_not (pt_val (pe_callB call_isi rfl B.isi (by decide +kernel) (pa_cons (pv 0) (pa_cons (pe_bltn (v := .ty "str") rfl B.str (by decide +kernel) rfl) pa_nil)))))
      (pss_one (ps_ret pe_bl)) pss_nil)
    (pss_cons (ps_set (i := 1) scStep.nd rfl (.inl rfl) (pe_split (pv 0) pe_str))
    (pss_one (ps_ret (pe_call GH hr rfl mH kH bH .nil pass0 (pa_cons (pv 1) (pa_cons (pe_kget FO.kd (C8.pe_gc rfl FO.gl) (pe_ix ix_list (pv 1) pe_int (fun _ _ => rfl)) ⟨rfl, rfl, rfl, rfl⟩) pa_nil)))))), ?_⟩
  obtain ⟨T, hT, k1, _⟩ := kn.ty
  refine ⟨_, rfl, x, .ty "str", T, _, s, rfl, .ty "str", hT, k1, s, rfl, ?_⟩
  cases s with
  | false =>
    have e : stepV x = false := by
      cases x with
      | str z => exact absurd rfl (kn.nstr rfl z)
      | _ => rfl
    have q := k H (fun _ _ h => h)
    rw [e] at q
    exact q
  | true =>
    obtain ⟨z, rfl⟩ := kn.str rfl
    obtain ⟨hzl, hok⟩ := hz z rfl
    obtain ⟨w0, wr, ew, r', er⟩ := stepW_cons z
    refine ⟨_, rfl, ⟨z, rfl⟩, z, " ", rfl, rfl, rfl, hzl, fun p hp => ?_⟩
    have s0 : Same H (upd H p (.lst ((Txt.split z " ").map V.str))) := Same.new hp
    dsimp only [gName]
    obtain ⟨r, v, g1, g2, g3⟩ := FO.get w0
    have hS : SqL K (upd H p (.lst ((Txt.split z " ").map V.str))) p ((stepW z).map V.str) := SqL.of upd_same
    have hS' : SqL K (upd H p (.lst ((Txt.split z " ").map V.str))) p ((w0 :: r').map V.str) := by rw [← er]; exact hS
    refine ⟨_, rfl, _, rfl, p, _, 0, .str w0, rfl, rfl, hS', atI_nat (j := 0) rfl, w0, r, v, rfl, g1, g2, p, stepW z, v, formOf w0, rfl, hS, fun q hq => ?_, g3 _, fun H' s' => ?_⟩
    · have := stepW_le hq
      omega
    · have e : stepV (.str z) = formS (stepW z) (formOf w0) := by
        show formS (stepW z) (formOf ((stepW z).headD "")) = _
        rw [er]
        rfl
      rw [← e]
      exact k H' (s0.trans s')
end
end My

set_option Elab.async false
set_option maxRecDepth 100000
set_option maxHeartbeats 4000000
namespace My
open PySem L2
/-! ### lists or tuples walked -/
theorem pi_or {X : Cx} {tg e : Expr} {wi wi' : TI} (h : PI X tg e wi) (h' : PI X tg e wi') : PI X tg e (fun σ H R => wi σ H R ∨ wi' σ H R) :=
  ⟨fun pins s σ H R I q => q.elim (h.run pins s σ H R I) (h'.run pins s σ H R I)⟩
def iLT (K : PySem.W.Frag) (t : TE) : TI := fun σ H R => iList K t σ H R ∨ iTup K t σ H R
theorem pi_lt {X : Cx} {tg e : Expr} {t : TE} (h : PE X e t) : PI X tg e (iLT X.K t) := pi_or (pi_list h) (pi_tup h)
def SqA (K : PySem.W.Frag) (H : Hp) (a : Addr) (xs : List V) : Prop := SqL K H a xs ∨ SqT K H a xs
theorem SqA.keep {K : PySem.W.Frag} {H H' : Hp} {a : Addr} {xs : List V} (h : SqA K H a xs) (s : Same H H') : SqA K H' a xs := h.elim (fun q => .inl (Same.seqLx s q)) (fun q => .inr (Same.seqTx s q))
theorem ilt_of {K : PySem.W.Frag} {i : Nat} {σ : St} {H : Hp} {R : It → Hp → Prop} {a : Addr} {xs : List V} (hv : σ[i]? = some (some (.ref a))) (h : SqA K H a xs)
    (k : ∀ (J : It) (G : Hp → Prop), Walk J xs.length G (YAt xs) → (∀ H', Same H H' → G H') → R J H) : iLT K (tVar i) σ H R := by
  rcases h with h | h
  · exact .inl ⟨_, hv, a, rfl, ⟨xs, h⟩, k _ _ walk_list fun H' s => Same.seqLx s h⟩
  · exact .inr ⟨_, hv, a, rfl, ⟨xs, h⟩, k _ _ walk_tup fun H' s => Same.seqTx s h⟩
/-! ### the hand -/
def hw (z : Str) : Str := (Txt.split z " ").headD ""
end My

set_option Elab.async false
set_option linter.all false
set_option maxRecDepth 100000
set_option maxHeartbeats 2000000
/-! enumerate(tuple): the making, the turns, the rule; enumerate of a list or a tuple, walked. -/
namespace My
open PySem PySem.Spec PyProof.Rows L2
open PySem.Sem (wp)
open PySem.AutoSeq1 (wpAny_loadPart')
theorem meets_enum_t (l : Addr) (items : Array Value) :
    Meets (Builtin.«enumerate.__new__» ⟨[.type "enumerate", .ref l], []⟩) (fun _ R s => s.heap.IsTuple l items ∧
      R (.ok (.ret (.ref (s.heap.push { cls := .type "tuple_iterator", data := .fields #[.ref l, .int 0 0] }).objs.size)))
        { s with heap := (s.heap.push { cls := .type "tuple_iterator", data := .fields #[.ref l, .int 0 0] }).push { cls := .type "enumerate", data := .fields #[.none, .bool false, .ref s.heap.objs.size, rawInt 0, .none, .none] } }) :=
  .of_wp fun prog w A R s h => by
    obtain ⟨hp, g, d, tk, os⟩ := s; obtain ⟨hl, h⟩ := h
    have hsub := sub_enumerate
    have hL : Heap.IsTuple (Shared.heap ⟨hp, g, d, tk, os⟩) l items := hl
    obtain ⟨o, ho, hc, n, hd⟩ := hl
    wp_walk using wpAny_loadPart' ho
    refine wpAny_stack_any fun st => wpAny_pure ?_
    split
    · rename_i c _ _ _ _ _
      cases (c == Value.type "enumerate")
      · wp_walk using wpAny_loadPart' ho, wpAny_pyIter_tuple hL
        exact ⟨_, rfl, h⟩
      · wp_walk using wpAny_loadPart' ho, wpAny_pyIter_tuple hL
        exact ⟨_, rfl, h⟩
    · wp_walk using wpAny_loadPart' ho, wpAny_pyIter_tuple hL
      exact ⟨_, rfl, h⟩
section
variable {prog : Program} {w : World} {A : Around} {E : Value → Shared → Prop} {s : Shared}
theorem call_enum_t {l : Addr} {items : Array Value} {Q : Value → Shared → Prop} (hL : s.heap.IsTuple l items)
    (h : ∀ h', IsEnum h' (s.heap.objs.size + 1) s.heap.objs.size 0 .none → h'.IsTupleIter s.heap.objs.size l 0 → h'.objs.size = s.heap.objs.size + 2 →
      (∀ b o, s.heap.get? b = some o → h'.get? b = some o) → Q (.ref (s.heap.objs.size + 1)) { s with heap := h' }) :
    wpAny (model prog w) A (call (.type "enumerate") [.ref l]) Q E s := by
  refine callType_new F.called_enumerate (by decide) (F.typeCall_enumerate_1 _) (F.newCall_enumerate_1 _) (fun obj => F.args_object_init_2 obj _) F.entry_enumerate_new
    (meets_enum_t l items) ⟨hL, ?_⟩
  have hz : (s.heap.push { cls := .type "tuple_iterator", data := .fields #[.ref l, .int 0 0] }).objs.size = s.heap.objs.size + 1 := Heap.size_push ..
  show _ ∧ _
  rw [hz]
  have he : IsEnum ((s.heap.push { cls := .type "tuple_iterator", data := .fields #[.ref l, .int 0 0] }).push
      { cls := .type "enumerate", data := .fields #[.none, .bool false, .ref s.heap.objs.size, rawInt 0, .none, .none] }) (s.heap.objs.size + 1) s.heap.objs.size 0 .none := by
    have := Heap.get?_push_size (s.heap.push { cls := .type "tuple_iterator", data := .fields #[.ref l, .int 0 0] })
      (o := { cls := .type "enumerate", data := .fields #[.none, .bool false, .ref s.heap.objs.size, rawInt 0, .none, .none] }) rfl
    rw [hz] at this; exact this
  refine ⟨⟨_, he, rfl⟩, h _ he ⟨_, Heap.get?_push_of_some _ (Heap.get?_push_size _ rfl), rfl, rfl⟩ (by rw [Heap.size_push, hz]) fun b o x => Heap.get?_push_of_some _ (Heap.get?_push_of_some _ x)⟩
end
theorem enum_t_end {prog : Program} {w : World} {A : Around} {E : Value → Shared → Prop} {s : Shared} {e it l : Addr} {i : Nat} {items : Array Value} {old : Value} {Q : Option Value → Shared → Prop} (hh : A.handled = none)
    (he : IsEnum s.heap e it i old) (hit : s.heap.IsTupleIter it l i) (hl : s.heap.IsTuple l items) (hx : items[i]? = none)
    (hQ : ∀ h', Heap.ExtBut it s.heap h' → Q none { s with heap := h' }) : wpAny (model prog w) A (pyNext (.ref e)) Q E s := by
  have hT : s.TypeIs (.ref e) "enumerate" := ⟨_, he, rfl⟩
  unfold pyNext
  refine wpAny_bind (wpAny_attempt (wpAny_callSpecial?_slot (name := Str.ofString "__next__") hT F.slot_enumerate_next
    (wpAny_call_entry F.slot_enumerate_next hT F.entry_enumerate_next ?_ (F.args_enumerate_next_1 _))))
  show wpAny _ _ (field (.ref e) 2 >>= _) _ _ _
  refine wpAny_bind (wpAny_field he rfl (x := .ref it) rfl ?_)
  refine wpAny_bind (PySem.wpAny_nextOf_tuple_end hh hit hl hx fun h' x he' hx' => ?_)
  obtain ⟨o, ho, hc⟩ := hx'
  refine wpAny_bind (wpAny_isInstance (T := "StopIteration") (b := true) ⟨o, ho, hc⟩ isSubtype_stop ?_)
  exact wpAny_pure (hQ _ he')
/-- a tuple at a as it stands at each turn, its items with their places in new pairs -/
def IteT (K : PySem.W.Frag) (a : Addr) : It :=
  ⟨fun i H => ∃ (xs : List V) (x : V), SqT K H a xs ∧ xs[i]? = some x, fun i H v H' => ∃ T x, v = .ref T ∧ H T = none ∧ H' = upd H T (.tup [.int (i : Nat), x]) ∧ ∀ xs, SqT K H a xs → xs[i]? = some x, fun i H => ∃ xs : List V, SqT K H a xs ∧ xs.length ≤ i⟩
theorem apart_it {h : Heap} {it a : Addr} {i : Nat} {items : Array Value} (h1 : h.IsTupleIter it a i) (h2 : h.IsTuple a items) : a ≠ it := fun z => by
  obtain ⟨o, e1, c1, _⟩ := h1
  obtain ⟨o2, e2, c2, _⟩ := h2
  rw [z, e1] at e2
  cases e2
  rw [c1] at c2
  injection c2 with c2
  revert c2
  decide
theorem turn_enumT {P : Program} {w : World} {K : PySem.W.Frag} {elts : List Expr} {kk : Nat} {tpos : Pos} (a e it : Addr) :
    Turn P w K (.Tuple elts kk tpos) (IteT K a) [e, it] e (fun i h => (∃ old, IsEnum h e it ((i : Nat) : Int) old) ∧ h.IsTupleIter it a i ∧ e ≠ it) where
  mem := by simp
  obj := fun i h st b hb => by
    obtain ⟨⟨old, he⟩, ⟨o, ho, hc, hd⟩, _⟩ := st
    have e' : b = e ∨ b = it := by simpa using hb
    rcases e' with z | z
    · rw [z]; exact ⟨_, he, fun v q => nomatch q⟩
    · rw [z]; exact ⟨o, ho, fun v q => by rw [hd] at q; cases q⟩
  keep := fun i h h' st k => let ⟨⟨old, he⟩, hi, hne⟩ := st; ⟨⟨old, k e (by simp) _ he⟩, hi.at fun o q => k it (by simp) o q, hne⟩
  item := by
    intro X hP hw hK hc i pins s σ H E I hf st hg
    subst hP hw hK
    obtain ⟨⟨old, he⟩, hit, hne⟩ := st
    obtain ⟨xs, x, hq, hx⟩ := hg
    obtain ⟨its, rv, p, hz⟩ := I.tuple hq
    have p : s.heap.IsTuple a its.toArray := p
    obtain ⟨u, hu, ru⟩ := rv.get hx
    have hel : e < s.heap.objs.size := Heap.lt_size he
    have hil : it < s.heap.objs.size := by obtain ⟨_, q, _⟩ := hit; exact Heap.lt_size q
    have hai := apart_it hit p
    have hea : e ≠ a := fun z => by
      obtain ⟨o2, e2, c2, _⟩ := p
      have he : s.heap.get? e = some _ := he
      rw [z, e2] at he
      cases he
      have c2 : Value.type "enumerate" = Value.type "tuple" := c2
      injection c2 with c2
      revert c2
      decide
    have hli : i < its.toArray.size := by
      have q := (List.getElem?_eq_some_iff.mp hu).1
      simpa using q
    refine wpAny_pyNext_enum_itemD (PySem.Draws.tuple (show X.A.in1.handled = none from I.ok.hd hc) it a hai its.toArray) he ⟨hit, p⟩ hli hne (by simp [hne, hea]) fun x' h' tk hP ho hit' hT hsz hk => ?_
    have ex : x' = u := by
      have q : its.toArray[i]? = some u := by simpa using hu
      have hP : its.toArray[i]? = some x' := hP
      rw [q] at hP
      exact (Option.some.inj hP).symm
    subst ex
    obtain ⟨hit', _⟩ := hit'
    refine ⟨_, rfl, wpAny_letOwnedTupleGo_enum (s := { s with heap := h', toks := tk + 1 }) ho fun h'' he' sb => ?_⟩
    have hT2 : h''.get? s.heap.objs.size = some { cls := .type "tuple", data := .seq #[.int i tk, x'] } := (sb.2 _ (Nat.ne_of_gt hel)).trans hT
    have new : ObjOk X.prog X.w (upd H s.heap.objs.size (.tup [.int (i : Nat), x])) h'' s.heap.objs.size (.tup [.int (i : Nat), x]) :=
      ⟨by show 2 ≤ sizeLine; decide, [.int i tk, x'], .cons ⟨_, rfl⟩ (.cons ru .nil), ⟨_, hT2, rfl, _, rfl⟩⟩
    have I1 : Inv X pins σ (upd H s.heap.objs.size (.tup [.int (i : Nat), x])) { s with heap := h'', toks := tk + 1 } :=
      I.turnedNew (ch := [e, it]) (fun b ob hb q => (sb.2 b (fun z => hb (by simp [z]))).trans (hk b ob (fun z => hb (by simp [z])) (fun z => hb (by simp [z])) q)) hf (Nat.le_refl _) new
    refine ⟨.ref s.heap.objs.size, _, I1, rfl, ⟨_, x, rfl, I.hok.fresh (Nat.le_refl _), rfl, fun ys hy => by rw [I.tuple_inj hy hq]; exact hx⟩, ⟨⟨x', ?_⟩, hit'.at fun o q => (sb.2 it (Ne.symm hne)).trans q, hne⟩, fun b hb => ?_⟩
    · have e1 : ((i + 1 : Nat) : Int) = (i : Int) + 1 := by omega
      rw [e1]; exact he'
    · have hb' : b < s.heap.objs.size := by
        have e' : b = e ∨ b = it := by simpa using hb
        rcases e' with z | z
        · rw [z]; exact hel
        · rw [z]; exact hil
      rw [upd_ne (Nat.ne_of_lt hb')]
      exact (hf b hb).1
  done := by
    intro X hP hw hK hc i pins s σ H E I hf st hg
    subst hP hw hK
    obtain ⟨⟨old, he⟩, hit, hne⟩ := st
    obtain ⟨xs, hq, hx⟩ := hg
    obtain ⟨its, rv, p, hz⟩ := I.tuple hq
    have p : s.heap.IsTuple a its.toArray := p
    obtain ⟨f0, f1, f2, f3, f4, f5⟩ := hf it (by simp)
    have hl := rv.length
    exact enum_t_end (I.ok.hd hc) he hit p (by simp; omega) fun h' eb => ⟨rfl, I.turned (t' := s.toks) (fun b o hb q => eb b o hb q) f0 f1 f3 f4 f5⟩
  self := fun A i s Q E st h => let ⟨⟨_, he⟩, _⟩ := st; wpAny_pyIter_enum he h
def iEnumT (K : PySem.W.Frag) (ta : TA) : TI := fun σ H R => ta σ H fun vs H1 => ∃ a xs, vs = [.ref a] ∧ SqT K H1 a xs ∧ R (IteT K a) H1
theorem pi_enumT {X : Cx} {e : Expr} {ta : TA} {p pos tpos : Pos} {elts : List Expr} {kk : Nat} (hg : Gl X "enumerate") (hm : X.mg "enumerate" = none) (ha : PA X [e] ta) (hs : starEach [e] X.env = [(false, eval e X.env)] := by rfl) :
    PI X (.Tuple elts kk tpos) (.Call (.Name "enumerate" p) [e] [] pos) (iEnumT X.K ta) := by
  refine ⟨fun pins s σ H R I h => ?_⟩
  refine Call_ (ld_blt I hg hm boot_enumerate (PyProof.Rows.callWith_type1 (thn (ha.run pos pins s σ H _ I h) fun us s1 ⟨vs, H1, I1, r1, q1⟩ => ?_) hs rfl))
  obtain ⟨a, xs, ex, hq, q⟩ := q1
  subst ex
  cases r1 with
  | cons r rr =>
    cases rr
    cases r
    obtain ⟨its, rv, p', hz⟩ := I1.tuple hq
    refine call_enum_t (show s1.heap.IsTuple a its.toArray from p') fun h' he hit hsz hk => wpAny_pyIter_enum he ?_
    have I2 : Inv X pins σ H1 { s1 with heap := h' } := I1.kept (t' := s1.toks) hk
    refine ⟨s1.heap.objs.size + 1, [s1.heap.objs.size + 1, s1.heap.objs.size], _, _, H1, rfl, I2, turn_enumT a (s1.heap.objs.size + 1) s1.heap.objs.size, ⟨⟨.none, he⟩, hit, Nat.succ_ne_self _⟩, fun b hb => ?_, q⟩
    have e' : b = s1.heap.objs.size + 1 ∨ b = s1.heap.objs.size := by simpa using hb
    have hle : s1.heap.objs.size ≤ b := by
      rcases e' with z | z
      · rw [z]; exact Nat.le_add_right _ _
      · rw [z]; exact Nat.le_refl _
    exact I1.fpOk hle (I1.hok.fresh hle)
end My

set_option Elab.async false
set_option linter.all false
set_option maxRecDepth 100000
set_option maxHeartbeats 2000000
namespace My
open PySem L2
theorem range_snoc {f : Nat → Option V} (i : Nat) : (List.range (i + 1)).filterMap f = (List.range i).filterMap f ++ (f i).toList := by
  rw [List.range_succ, List.filterMap_append]
  cases h : f i <;> simp [h]
theorem filter_len {f : Nat → Option V} (i : Nat) : ((List.range i).filterMap f).length ≤ i := by
  have := List.length_filterMap_le f (List.range i)
  rwa [List.length_range] at this
section
variable {J : It} {n : Nat} {G : Hp → Prop} {Y : Nat → Hp → V → Hp → Prop}
theorem lc_f (wk : Walk J n G Y) (f : Nat → Option V) {g : TG} {tt : TT} {te : TE} {vs : List Nat} {σ : St} {H1 : Hp} {D : Addr} {Qd : Hp → Prop} (hD : H1 D = none) (hn : n < sizeLine) (hG : ∀ H, Same H1 H → G H)
    (hs : ∀ i x H H', i < n → Same H1 H → Y i H x H' → ∀ (OK : V → Hp → Prop) (NO : Hp → Prop), (∀ y H4, Same H H4 → f i = some y → OK y H4) → (∀ H4, Same H H4 → f i = none → NO H4) →
      g x (wipe σ vs) H' fun σ2 H2 => wipe σ2 vs = wipe σ vs ∧ tt σ2 H2 fun b H3 => if b = true then te σ2 H3 OK else NO H3)
    (hd : ∀ H, Same H1 H → H D = some (.lst ((List.range n).filterMap f)) → Qd H) :
    ∃ W : Nat → Nat → Hp → Prop, (∃ m, W 0 m (upd H1 D (.lst []))) ∧ ∀ i m H, W i m H →
      (J.stop i H ∧ Qd H) ∨ (J.go i H ∧ ∃ Nx : Hp → Prop, (∀ H', Nx H' → ∃ m', m' < m ∧ W (i + 1) m' H') ∧ ∀ x H', J.yld i H x H' → g x (wipe σ vs) H' fun σ2 H2 => wipe σ2 vs = wipe σ vs ∧ tt σ2 H2 fun b H3 =>
        if b = true then te σ2 H3 fun y H4 => ∃ acc, H4 D = some (.lst acc) ∧ acc.length < sizeLine ∧ Nx (upd H4 D (.lst (acc ++ [y]))) else Nx H3) := by
  refine lc_it wk (fun i H => Same H1 H ∧ H D = some (.lst ((List.range i).filterMap f))) ⟨Same.new hD, upd_same⟩ (fun i H _ p => hG H p.1) ?_ (fun H p => hd H p.1 p.2)
  rintro i x H H' hi ⟨s, e⟩ y
  refine hs i x H H' hi s y _ _ (fun v H4 s4 hf => ?_) (fun H4 s4 hf => ?_)
  · refine ⟨_, s4 _ _ e, Nat.lt_of_le_of_lt (filter_len i) (by omega), fun b o h => ?_, ?_⟩
    · rw [upd_ne (ne_of_none h hD)]
      exact s4 _ _ (s _ _ h)
    · rw [range_snoc, hf]
      exact upd_same
  · refine ⟨fun b o h => s4 _ _ (s _ _ h), ?_⟩
    rw [range_snoc, hf, s4 _ _ e]
    simp
/-- over a row of things -/
theorem range_seq {xs : List V} (h : V → Option V) : (List.range xs.length).filterMap (fun i => (xs[i]?).bind h) = xs.filterMap h := by
  have key : ∀ (ys zs : List V), (List.range' zs.length ys.length).filterMap (fun i => ((zs ++ ys)[i]?).bind h) = ys.filterMap h := by
    intro ys
    induction ys with
    | nil => intro zs; rfl
    | cons y ys ih =>
      intro zs
      have e := ih (zs ++ [y])
      rw [List.length_append, List.length_singleton, List.append_assoc] at e
      rw [List.length_cons, List.range'_succ, List.filterMap_cons, List.filterMap_cons]
      have q : (zs ++ y :: ys)[zs.length]? = some y := by simp
      rw [q]
      have e' : (List.range' (zs.length + 1) ys.length).filterMap (fun i => ((zs ++ y :: ys)[i]?).bind h) = ys.filterMap h := e
      rw [Option.bind_some, e']
  have := key xs []
  rw [List.range_eq_range']
  exact this
theorem lc_s {xs : List V} (wk : Walk J xs.length G (YAt xs)) (f : V → Option V) {g : TG} {tt : TT} {te : TE} {vs : List Nat} {σ : St} {H1 : Hp} {D : Addr} {Qd : Hp → Prop} (hD : H1 D = none) (hn : xs.length < sizeLine) (hG : ∀ H, Same H1 H → G H)
    (hs : ∀ x H, x ∈ xs → Same H1 H → ∀ (OK : V → Hp → Prop) (NO : Hp → Prop), (∀ y H4, Same H H4 → f x = some y → OK y H4) → (∀ H4, Same H H4 → f x = none → NO H4) →
      g x (wipe σ vs) H fun σ2 H2 => wipe σ2 vs = wipe σ vs ∧ tt σ2 H2 fun b H3 => if b = true then te σ2 H3 OK else NO H3)
    (hd : ∀ H, Same H1 H → H D = some (.lst (xs.filterMap f)) → Qd H) :
    ∃ W : Nat → Nat → Hp → Prop, (∃ m, W 0 m (upd H1 D (.lst []))) ∧ ∀ i m H, W i m H →
      (J.stop i H ∧ Qd H) ∨ (J.go i H ∧ ∃ Nx : Hp → Prop, (∀ H', Nx H' → ∃ m', m' < m ∧ W (i + 1) m' H') ∧ ∀ x H', J.yld i H x H' → g x (wipe σ vs) H' fun σ2 H2 => wipe σ2 vs = wipe σ vs ∧ tt σ2 H2 fun b H3 =>
        if b = true then te σ2 H3 fun y H4 => ∃ acc, H4 D = some (.lst acc) ∧ acc.length < sizeLine ∧ Nx (upd H4 D (.lst (acc ++ [y]))) else Nx H3) := by
  refine lc_f wk (fun i => (xs[i]?).bind f) hD hn hG (fun i x H H' hi s y OK NO ok no => ?_) fun H s e => hd H s (by rw [e, range_seq])
  obtain ⟨rfl, hx⟩ := y
  refine hs x H' (List.mem_of_getElem? hx) s OK NO (fun v H4 s4 e => ok v H4 s4 ?_) fun H4 s4 e => no H4 s4 ?_
  · rw [hx]
    exact e
  · rw [hx]
    exact e
end
/-- what tuple(xs) asks -/
def rTup (K : PySem.W.Frag) : List V → Hp → VK → Prop := fun xs H Q => ∃ p ys, xs = [V.ref p] ∧ ((SqL K H p ys ∧ ∀ l, H l = none → Q (.ref l) (upd H l (.tup ys))) ∨ (SqT K H p ys ∧ Q (.ref p) H))
theorem call_tupleD {X : Cx} : CallR X (.type "tuple") (rTup X.K) := call_tuple_of
end My

set_option Elab.async false
set_option linter.all false
set_option maxRecDepth 100000
set_option maxHeartbeats 2000000
namespace My
open PySem L2

abbrev sNc : Stmt := top 25
abbrev NNc : List Str := ["text", "words", "word"]
theorem scNc : FnScope ["text", "words", "word"] ["text"] (defScope sNc) := ⟨rfl, rfl, rfl, by decide +kernel, rfl, by decide +kernel, by decide +kernel⟩
/-- a word's number -/
def valS (w : Str) : Int := (PySem.intText? w).getD 0
abbrev CMP : List Str := ["same", "even"]
def isChk (z : Str) : Bool := inV (.str (hw z)) (CMP.map V.str)
/-- the numbers of a check -/
def numsS (z : Str) : List Int := if isChk z = true then ((Txt.split z " ").drop 1).map valS else []
/-- the numbers of a check can be read -/
def NumOk (z : Str) : Prop := isChk z = true → (∀ w ∈ (Txt.split z " ").drop 1, PySem.intText? w = some (valS w) ∧ w.length ≤ 640) ∧ (Txt.split z " ").length ≤ 10
/-- a written tuple of texts under a name of the module -/
structure CmpAt (K : PySem.W.Frag) (mg : Str → Option Value) (x : Str) (b : Addr) (ws : List Str) : Prop where
  gl : ∃ u, mg x = some u ∧ RelV (.ref b) u
  tu : ∀ H, SqT K H b (ws.map V.str)
theorem flat_strs : ∀ ws : List Str, (ws.map V.str).all flatV = true
  | [] => rfl
  | w :: r => by
    rw [List.map_cons, List.all_cons, flat_strs r]
    rfl
theorem ite3 {b : Bool} {A B : Prop} (h : b = true → A) (g : b = false → B) : if b = true then A else B := by
  cases b
  · exact g rfl
  · exact h rfl
/-- numbers_in_check(text) -/
def spNc (K : PySem.W.Frag) : Sp := fun vs H Q _ => ∃ (z : Str), vs = [.str z] ∧ z.length + 2 ≤ sizeLine ∧ NumOk z ∧ ∀ (L : Addr) (H' : Hp), Same H H' → H L = none → H' L = some (.lst ((numsS z).map V.int)) → Q (.ref L) H'
section
variable {P : Program} {w : World} {K : PySem.W.Frag} {mg : Str → Option Value} {base : Heap}
theorem none_of_same {H H' : Hp} {p : Addr} (s : Same H H') (h : H' p = none) : H p = none := by
  cases e : H p with
  | none => rfl
  | some o => rw [s _ _ e] at h; cases h
theorem ok_nc {f bC : Addr} {fd : FuncData} (F : Fun K "numbers_in_check" "numbers_in_check" sNc f fd) (z_int : mg "int" = none) (CM : CmpAt K mg "COMPARING" bC CMP) : FnOk P w K mg base CX0 1 f fd ["text"] (spNc K) := by
  refine F.ok scNc (fun vs H Q E h => ?_) (fun cdv A outer s H vs Q E hr h => ?_)
  · obtain ⟨_, rfl, _⟩ := h
    rfl
  obtain ⟨z, rfl, hz, hN, k⟩ := h
  refine ⟨_, (pss_cons (ps_set (i := 1) scNc.nd rfl (.inl rfl) (pe_split (pv 0) pe_str))
  (pss_one (ps_ret (pe_ifExp (pt_cmpR op_in_seq (pe_ix ix_list (pv 1) pe_int (fun _ _ => rfl)) (C8.pe_gc rfl CM.gl) (by with_unfolding_all rfl)) (pe_lc (own := [("word", 2)]) (g := gName 2) (tt := tYes) rfl scNc.nd (pi_list (pe_slice sl_list (pv 1) (po_some pe_int) po_none)) (blkOk_by (own := [("word", 2)]) (N := NNc) (sc := defScope sNc) (by decide +kernel)) (fun _ _ _ _ _ => (pg_name (i := 2) scNc.nd rfl (Or.inl rfl))) (fun _ _ _ _ _ => pts_nil) (fun _ _ _ _ _ => (pe_callTy call_int_str rfl z_int (by decide +kernel) (pa_cons (pv 2) pa_nil)))) (pe_lst pa_nil))))), ?_⟩
  obtain ⟨w0, wr, ew⟩ := split_ne z " "
  have ehw : hw z = w0 := by
    show (Txt.split z " ").headD "" = w0
    rw [ew]
    rfl
  refine ⟨_, rfl, ⟨z, rfl⟩, z, " ", rfl, rfl, rfl, hz, fun p hp => ?_⟩
  have s0 : Same H (upd H p (.lst ((Txt.split z " ").map V.str))) := Same.new hp
  have ep : (upd H p (.lst ((Txt.split z " ").map V.str))) p = some (.lst ((Txt.split z " ").map V.str)) := upd_same
  generalize upd H p (.lst ((Txt.split z " ").map V.str)) = H1 at s0 ep ⊢
  refine ⟨_, rfl, p, _, 0, .str w0, rfl, rfl, SqL.of ep, by rw [ew]; exact atI_nat (j := 0) rfl, bC, _, rfl, .inr (CM.tu _), rfl, flat_strs CMP, _, rfl, ?_⟩
  rw [← ehw]
  show if inV (.str (hw z)) (CMP.map V.str) = true then _ else _
  refine ite3 (fun hc => ?_) (fun hc => ?_)
  · obtain ⟨hw1, h10⟩ := hN hc
    refine ⟨_, rfl, 1, rfl, p, _, rfl, SqL.of ep, fun q hq => ?_⟩
    rw [cut_one, ← List.map_drop]
    have s1 : Same H (upd H1 q (.lst (((Txt.split z " ").drop 1).map V.str))) := s0.trans (Same.new hq)
    have eq : (upd H1 q (.lst (((Txt.split z " ").drop 1).map V.str))) q = some (.lst (((Txt.split z " ").drop 1).map V.str)) := upd_same
    generalize upd H1 q (.lst (((Txt.split z " ").drop 1).map V.str)) = H2 at s1 eq ⊢
    refine ⟨q, rfl, ⟨_, SqL.of eq⟩, fun D hD => ?_⟩
    refine lc_s (walk_list (K := K) (a := q)) (fun x => match x with | .str w => some (.int (valS w)) | _ => none) hD (by rw [List.length_map, List.length_drop]; exact Nat.lt_of_le_of_lt (show _ ≤ 1000 by omega) (by decide)) (fun H' s => SqL.of (s _ _ eq)) ?_ ?_
    · intro x H3 hx s3 OK NO ok no
      obtain ⟨wd, hwd, rfl⟩ := List.mem_map.mp hx
      obtain ⟨a1, a2⟩ := hw1 wd hwd
      exact ⟨rfl, _, rfl, wd, valS wd, rfl, a1, a2, ok _ _ (fun _ _ e => e) rfl⟩
    · intro H3 s3 e3
      refine k D H3 (s1.trans s3) (none_of_same s1 hD) ?_
      rw [e3]
      have e : numsS z = ((Txt.split z " ").drop 1).map valS := by
        unfold numsS isChk
        rw [hc]
        rfl
      rw [e]
      have key : ∀ ws : List Str, (ws.map V.str).filterMap (fun x => match x with | .str w => some (V.int (valS w)) | _ => none) = (ws.map valS).map V.int := fun ws => by
        induction ws with
        | nil => rfl
        | cons x r ih =>
          rw [List.map_cons, List.filterMap_cons, ih]
          rfl
      rw [key]
  · refine ⟨(by show 0 ≤ sizeLine; decide), fun L hL => k L _ (s0.trans (Same.new hL)) (none_of_same s0 hL) ?_⟩
    have e : numsS z = [] := by
      unfold numsS isChk
      rw [hc]
      rfl
    rw [e]
    exact upd_same
end
end My

set_option Elab.async false
set_option linter.all false
set_option maxRecDepth 100000
set_option maxHeartbeats 2000000
namespace My
open PySem L2

abbrev sCr : Stmt := top 26
abbrev NCr : List Str := ["numbers", "counters", "asked", "number"]
theorem scCr : FnScope ["numbers", "counters", "asked", "number"] ["numbers", "counters"] (defScope sCr) := ⟨rfl, rfl, rfl, by decide +kernel, rfl, by decide +kernel, by decide +kernel⟩
theorem eqv_ints : ∀ ns ms : List Int, PyData.eqv (.list (ns.map PyData.int)) (.list (ms.map PyData.int)) = decide (ns = ms)
  | [], [] => rfl
  | [], _ :: _ => rfl
  | _ :: _, [] => rfl
  | n :: r, m :: s => by
    have ih := eqv_ints r s
    simp only [PyData.eqv] at ih
    simp only [PyData.eqv, List.map_cons, PyData.eqvAll, ih]
    by_cases h : n = m
    · subst h; simp
    · simp [h]
theorem perm_sorted : ∀ {a b : List Int}, a.Pairwise (· ≤ ·) → b.Pairwise (· ≤ ·) → a.Perm b → a = b
  | [], b, _, _, pm => (List.nil_perm.mp pm).symm
  | x :: r, [], _, _, pm => by
    have := pm.length_eq
    simp at this
  | x :: r, y :: s, ha, hb, pm => by
    have e : x = y := by
      by_cases h : x = y
      · exact h
      · have h1 : x ∈ s := (List.mem_cons.mp (pm.mem_iff.mp List.mem_cons_self)).resolve_left h
        have h2 : y ∈ r := (List.mem_cons.mp (pm.mem_iff.mpr List.mem_cons_self)).resolve_left (fun z => h z.symm)
        have q1 := (List.pairwise_cons.mp ha).1 y h2
        have q2 := (List.pairwise_cons.mp hb).1 x h1
        omega
    subst e
    rw [perm_sorted (List.pairwise_cons.mp ha).2 (List.pairwise_cons.mp hb).2 (List.Perm.cons_inv pm)]
/-- numbers with their counters, as they are kept -/
def cntK (cs : List (Nat × Str)) : List (Key × V) := cs.map fun c => ((Sum.inl (c.1 : Int) : Key), V.str c.2)
def askS (cs : List (Nat × Str)) (n : Int) : Option Str := (cs.find? fun c => decide ((c.1 : Int) = n)).map (·.2)
def askV (cs : List (Nat × Str)) (n : Int) : V := ((askS cs n).map V.str).getD .non
theorem ask_val (cs : List (Nat × Str)) (n : Int) : valV (cntK cs) (Sum.inl n) = (askS cs n).map V.str := by
  induction cs with
  | nil => rfl
  | cons c r ih =>
    have e : cntK (c :: r) = ((Sum.inl (c.1 : Int) : Key), V.str c.2) :: cntK r := rfl
    rw [e]
    unfold askS
    rw [List.find?_cons]
    by_cases h : (c.1 : Int) = n
    · rw [decide_eq_true h, valV_pos (by rw [h])]
      rfl
    · rw [decide_eq_false h, valV_neg (fun z => h (Sum.inl.inj z)), ih]
      rfl
def srt (ns : List Int) : Bool := decide (ns.Pairwise (· ≤ ·))
/-- numbers that may be compared -/
def cmpR (ns : List Int) (cs : List (Nat × Str)) : Bool := (srt ns && !(decide (ns.length = 2) && decide (ns.getD 0 0 = ns.getD 1 0))) && ((ns.map (askS cs)).all Option.isSome && decide ((ns.map (askV cs)).head? = (ns.map (askV cs)).getLast?))
/-- compares_right(numbers, counters) -/
def spCr (K : PySem.W.Frag) : Sp := fun vs H Q _ => ∃ (a d : Addr) (ns : List Int) (cs : List (Nat × Str)), vs = [.ref a, .ref d] ∧ SqL K H a (ns.map V.int) ∧ H d = some (.dK (cntK cs)) ∧ ns.length ≤ 10 ∧ ns ≠ [] ∧ ∀ H', Same H H' → Q (.bl (cmpR ns cs)) H'
theorem flat_ask (cs : List (Nat × Str)) : ∀ ns : List Int, (ns.map (askV cs)).all flatV = true
  | [] => rfl
  | n :: r => by
    rw [List.map_cons, List.all_cons, flat_ask cs r]
    unfold askV
    cases askS cs n <;> rfl
theorem in_ask (cs : List (Nat × Str)) : ∀ ns : List Int, inV .non (ns.map (askV cs)) = !(ns.map (askS cs)).all Option.isSome
  | [] => rfl
  | n :: r => by
    have ih := in_ask cs r
    rw [List.map_cons, List.map_cons, List.all_cons]
    show (eqV (askV cs n) .non || inV .non (r.map (askV cs))) = _
    rw [ih]
    unfold askV
    cases askS cs n with
    | none => rfl
    | some z => rfl
theorem seq_rest {t u : TS} {D : Ends} {σ : St} {H : Hp} (W : St → Hp → Prop) (hu : ∀ σ' H', W σ' H' → u D σ' H') (h : (∀ σ' H', W σ' H' → u D σ' H') → tSeq t u D σ H) : tSeq t u D σ H := h hu
section
variable {P : Program} {w : World} {K : PySem.W.Frag} {mg : Str → Option Value} {base : Heap}
theorem ok_cr {f : Addr} {fd : FuncData} (F : Fun K "compares_right" "compares_right" sCr f fd) (z_sorted : mg "sorted" = none) (z_len : mg "len" = none) : FnOk P w K mg base CX0 1 f fd ["numbers", "counters"] (spCr K) := by
  refine F.ok scCr (fun vs H Q E h => ?_) (fun cdv A outer s H vs Q E hr h => ?_)
  · obtain ⟨_, _, _, _, rfl, _⟩ := h
    rfl
  obtain ⟨a, d, ns, cs, rfl, hS, hd, h10, hne, k⟩ := h
  have hu := hu_of hr
  refine ⟨_, (pss_cons (ps_if (PW.pt (pw_or (pt_cmpR (op_neD hr.units) (pv 0) (pe_callB cr_sortedI rfl z_sorted (by decide +kernel) (pa_cons (pv 0) pa_nil)) (nomark _)) (pw_or1 (PW.pt (pw_and (pt_cmpR op_eq (pe_callB call_len_seq rfl z_len (by decide +kernel) (pa_cons (pv 0) pa_nil)) pe_int (nomark _)) (pw_and1 (pt_cmpR op_eq (pe_ix ix_list (pv 0) pe_int (fun _ _ => rfl)) (pe_ix ix_list (pv 0) pe_int (fun _ _ => rfl)) (nomark _)))))))) (pss_one (ps_ret pe_bl)) pss_nil)
  (pss_cons (ps_setLc (i := 2) (own := [("number", 3)]) (g := gName 3) (tt := tYes) rfl scCr.nd rfl rfl (sw_true rfl rfl rfl (by decide +kernel)) (pi_list (pv 0)) (blkOk_by (own := [("number", 3)]) (N := NCr) (sc := defScope sCr) (by decide +kernel)) (fun _ _ _ _ _ => (pg_name (i := 3) scCr.nd rfl (Or.inl rfl))) (fun _ _ _ _ _ => pts_nil) (fun _ _ _ _ _ => (pe_dget1 hu (pv 1) (pv 3) ⟨rfl, rfl, rfl, rfl⟩)))
  (pss_one (ps_ret (pe_and (pe_cmpR op_notIn_seq pe_non (pv 2) (by with_unfolding_all rfl)) (pe_one (pe_cmpR op_eq (pe_ix ix_list (pv 2) pe_int (fun _ _ => rfl)) (pe_ix ix_list (pv 2) (pe_un un_neg pe_int) (fun _ _ => rfl)) (nomark _)))))))), ?_⟩
  obtain ⟨n0, nr, en⟩ := List.exists_cons_of_ne_nil hne
  have hl : (ns.map V.int).length = ns.length := List.length_map ..
  refine seq_first (fun σ H1 => σ = [some (.ref a), some (.ref d), none, none] ∧ Same H H1 ∧ (srt ns && !(decide (ns.length = 2) && decide (ns.getD 0 0 = ns.getD 1 0))) = true) ?after fun after => ?test
  case after =>
    rintro σ H1 ⟨rfl, s1, ec⟩
    have hS1 := Same.seqLx s1 hS
    refine ⟨_, rfl, a, rfl, ⟨_, hS1⟩, fun D hD => ?_⟩
    refine lc_s (walk_list (K := K) (a := a)) (fun x => match x with | .int n => some (askV cs n) | _ => none) hD (by rw [hl]; exact Nat.lt_of_le_of_lt (show _ ≤ 1000 by omega) (by decide)) (fun H' s => Same.seqLx s hS1) ?_ ?_
    · intro x H3 hx s3 OK NO ok no
      obtain ⟨n, hn, rfl⟩ := List.mem_map.mp hx
      refine ⟨rfl, _, rfl, d, rfl, .inl ⟨_, .inl (s3 _ _ (s1 _ _ hd))⟩, _, rfl, _, DGet.k (k := Sum.inl n) (s3 _ _ (s1 _ _ hd)), ?_⟩
      rw [ask_val]
      exact ok _ _ (fun _ _ e => e) rfl
    · intro H3 s3 e3
      have key : ∀ ms : List Int, (ms.map V.int).filterMap (fun x => match x with | .int n => some (askV cs n) | _ => none) = ms.map (askV cs) := fun ms => by
        induction ms with
        | nil => rfl
        | cons x r ih =>
          rw [List.map_cons, List.filterMap_cons, ih]
          rfl
      rw [key] at e3
      have e : cmpR ns cs = ((ns.map (askS cs)).all Option.isSome && decide ((ns.map (askV cs)).head? = (ns.map (askV cs)).getLast?)) := by
        unfold cmpR
        rw [ec, Bool.true_and]
      rw [e] at k
      have kk := k _ (s1.trans s3)
      refine ⟨_, rfl, D, _, rfl, .inl (SqL.of e3), rfl, flat_ask cs ns, _, rfl, ?_⟩
      rw [in_ask, Bool.not_not]
      cases ha : (ns.map (askS cs)).all Option.isSome with
      | false =>
        rw [ha] at kk
        exact ifF rfl kk
      | true =>
        rw [ha] at kk
        refine ifT rfl ?_
        have hall : ∀ n ∈ ns, ∃ z, askS cs n = some z := fun n hn => by
          have q := List.all_eq_true.mp ha _ (List.mem_map_of_mem hn)
          exact Option.isSome_iff_exists.mp q
        obtain ⟨z0, hz0⟩ := hall n0 (by rw [en]; simp)
        obtain ⟨z1, hz1⟩ := hall (ns.getLast hne) (List.getLast_mem hne)
        have hv0 : askV cs n0 = .str z0 := by unfold askV; rw [hz0]; rfl
        have hv1 : askV cs (ns.getLast hne) = .str z1 := by unfold askV; rw [hz1]; rfl
        have hx : (ns.map (askV cs)).head? = some (.str z0) := by rw [en, List.map_cons, List.head?_cons, hv0]
        have hy : (ns.map (askV cs)).getLast? = some (.str z1) := by rw [List.getLast?_map, List.getLast?_eq_some_getLast hne, Option.map_some, hv1]
        have h0 : atI (ns.map (askV cs)) 0 = some (.str z0) := atI_nat (j := 0) (by rw [← List.head?_eq_getElem?]; exact hx)
        have h1 : atI (ns.map (askV cs)) (-1) = some (.str z1) := by
          have e2 : ns.map (askV cs) = (ns.dropLast).map (askV cs) ++ [.str z1] := by
            conv => lhs; rw [← List.dropLast_concat_getLast hne]
            rw [List.map_append, List.map_singleton, hv1]
          rw [e2]
          exact atI_last _ _
        rw [hx, hy] at kk
        refine ⟨_, rfl, D, _, 0, _, rfl, rfl, SqL.of e3, h0, ?_⟩
        refine ⟨_, rfl, 1, rfl, D, _, _, _, rfl, rfl, SqL.of e3, h1, rfl, ?_⟩
        have e4 : decide ((some (V.str z0) : Option V) = some (V.str z1)) = decide (V.str z0 = V.str z1) := by
          by_cases h : V.str z0 = V.str z1 <;> simp [h]
        rw [e4] at kk
        exact kk
  case test =>
    refine ⟨_, rfl, _, rfl, a, ns, rfl, hS, fun ms p pm so hp => ?_⟩
    have s1 : Same H (upd H p (.lst (ms.map V.int))) := Same.new hp
    have ep : (upd H p (.lst (ms.map V.int))) p = some (.lst (ms.map V.int)) := upd_same
    generalize upd H p (.lst (ms.map V.int)) = H1 at s1 ep ⊢
    have hS1 := Same.seqLx s1 hS
    have esrt : decide (ns = ms) = srt ns := by
      unfold srt
      by_cases h : ns.Pairwise (· ≤ ·)
      · rw [decide_eq_true h, decide_eq_true (perm_sorted h so pm.symm)]
      · rw [decide_eq_false h, decide_eq_false (fun e => h (by rw [e]; exact so))]
    refine ⟨.list (ns.map PyData.int), .list (ms.map PyData.int), Dp.lst hS1 (dp_ints ns), Dp.lst (SqL.of ep) (dp_ints ms), PySem.W.ke_shaped_ints ns, PySem.W.ke_shaped_ints ms, _, rfl, ?_⟩
    rw [eqv_ints, esrt]
    cases hs : srt ns with
    | false =>
      have e : cmpR ns cs = false := by
        unfold cmpR
        rw [hs]
        rfl
      have kk := k _ s1
      rw [e] at kk
      exact ifT rfl kk
    | true =>
      refine ifF rfl ?_
      refine ⟨_, rfl, a, _, rfl, .inl hS1, rfl, _, rfl, ?_⟩
      rw [hl]
      by_cases h2 : ns.length = 2
      · refine ifT (decide_eq_true (by rw [h2]; rfl)) ?_
        obtain ⟨x, y, exy⟩ : ∃ x y, ns = [x, y] := by
          match ns, h2 with
          | [x, y], _ => exact ⟨x, y, rfl⟩
        have g0 : atI (ns.map V.int) 0 = some (.int x) := atI_nat (j := 0) (by rw [exy]; rfl)
        have g1 : atI (ns.map V.int) 1 = some (.int y) := atI_nat (j := 1) (by rw [exy]; rfl)
        refine ⟨_, rfl, a, _, 0, _, rfl, rfl, hS1, g0, _, rfl, a, _, 1, _, rfl, rfl, hS1, g1, rfl, _, rfl, ?_⟩
        have e0 : decide (ns.getD 0 0 = ns.getD 1 0) = decide (V.int x = V.int y) := by
          rw [exy]
          show decide (x = y) = _
          by_cases h : x = y
          · subst h; simp
          · rw [decide_eq_false h, decide_eq_false (fun z => h (V.int.inj z))]
        cases hxy : decide (V.int x = V.int y) with
        | true =>
          refine ifT rfl ?_
          have e : cmpR ns cs = false := by
            unfold cmpR
            rw [hs, e0, hxy, decide_eq_true h2]
            rfl
          have kk := k _ s1
          rw [e] at kk
          exact kk
        | false =>
          refine ifF rfl ?_
          refine after _ _ ⟨rfl, s1, ?_⟩
          rw [hs, e0, hxy, Bool.and_false]
          rfl
      · refine ifF (decide_eq_false (fun z => h2 (by have := V.int.inj z; omega))) ?_
        refine after _ _ ⟨rfl, s1, ?_⟩
        rw [hs, decide_eq_false h2]
        rfl
end
end My

set_option Elab.async false
set_option maxRecDepth 100000
set_option maxHeartbeats 4000000
namespace My
open PySem L2
/-- what is_kind_step and its like ask of a value: it stays so in later heaps -/
def KndS (K : PySem.W.Frag) (H : Hp) (x : V) (s i b l t : Bool) : Prop := ∀ H', Same H H' → Knd K H' x s i b l t
/-- a text that is not too long, of signs -/
def TxOk (x : V) : Prop := ∀ z, x = .str z → z.length + 2 ≤ sizeLine ∧ PyData.strOk z = true
def ItOk (K : PySem.W.Frag) (H : Hp) (x : V) : Prop := (∃ s i b l t, KndS K H x s i b l t) ∧ TxOk x
/-- the texts among values -/
def txts : List V → List Str
  | [] => []
  | .str z :: r => z :: txts r
  | _ :: r => txts r
section
variable {P : Program} {w : World} {K : PySem.W.Frag} {mg : Str → Option Value} {base : Heap}
theorem ItOk.keep {H H' : Hp} {x : V} (h : ItOk K H x) (s : Same H H') : ItOk K H' x := by
  obtain ⟨⟨a, b, c, d, e, q⟩, r⟩ := h
  exact ⟨⟨a, b, c, d, e, fun H1 s1 => q H1 (s.trans s1)⟩, r⟩
theorem cbA {r : List V → Hp → VK → Prop} {ta tb : TE} {σ : St} {H : Hp} {Q : VK} (h : ta σ H fun x H1 => r [x] H1 fun y H2 => ∃ c, y = .bl c ∧ if c = true then tb σ H2 Q else Q (.bl false) H2) : tAndV (tCB r (tCons ta tNil)) tb σ H Q := h
theorem txts_map : ∀ xs : List V, (xs.map stepV).all id = true → xs = (txts xs).map V.str
  | [], _ => rfl
  | .str z :: r, h => by
    have q : (stepV (.str z) && (r.map stepV).all id) = true := h
    have q2 := txts_map r (Bool.and_eq_true_iff.mp q).2
    show V.str z :: r = V.str z :: (txts r).map V.str
    rw [← q2]
  | .non :: r, h => by cases h
  | .bl _ :: r, h => by cases h
  | .int _ :: r, h => by cases h
  | .ref _ :: r, h => by cases h
  | .ty _ :: r, h => by cases h
  | .byt _ :: r, h => by cases h
  | .flt _ :: r, h => by cases h
theorem vmap_snoc {xs : List V} {f : V → Bool} {i : Nat} {x : V} (h : xs[i]? = some x) : ((xs.take i).map f).map V.bl ++ [V.bl (f x)] = ((xs.take (i + 1)).map f).map V.bl := by
  rw [List.take_add_one, h, List.map_append, List.map_append]
  rfl
/-- [is_kind_step(text) for text in texts] -/
theorem rd_steps {i j : Nat} {σ : St} {H : Hp} {Q : VK} {a : Addr} {xs : List V} (hv : σ[i]? = some (some (.ref a))) (hj : j < σ.length) (q : SqA K H a xs) (hn : xs.length ≤ 100) (hx : ∀ x ∈ xs, ItOk K H x)
    (k : ∀ (L : Addr) (H' : Hp), Same H H' → H' L = some (.lst ((xs.map stepV).map V.bl)) → Q (.ref L) H') :
    tLc (iLT K (tVar i)) (gName j) tYes (tCall (spStep K) [] E0 (tCons (tVar j) tNil)) [j] σ H Q := by
  refine ilt_of (K := K) hv q fun J G wk kG => ?_
  intro L hL
  refine lc_it wk (fun i H1 => H1 L = some (.lst (((xs.take i).map stepV).map V.bl)) ∧ Same H H1) ⟨upd_same, Same.new hL⟩ (fun _ H1 _ q => kG H1 q.2) ?_ ?_
  · rintro i x H1 H2 hi ⟨a1, s1⟩ ⟨rfl, hxi⟩
    obtain ⟨⟨s, i', b, l, t, hk⟩, ht⟩ := hx x (List.mem_of_getElem? hxi)
    refine ⟨wipe1, ?_⟩
    refine ⟨_, wipe_at hj, x, s, i', b, l, t, rfl, hk _ s1, ht, fun H3 s3 => ?_⟩
    refine ⟨_, s3 _ _ a1, small1000 (by rw [List.length_map, List.length_map, List.length_take]; omega), ?_, fun c o h => ?_⟩
    · rw [upd_same]
      exact congrArg (fun q => some (HO.lst q)) (vmap_snoc hxi)
    · rw [upd_ne (ne_of_none h hL)]
      exact s3 _ _ (s1 _ _ h)
  · rintro H1 ⟨a1, s1⟩
    rw [List.take_length] at a1
    exact k L H1 s1 a1
end
end My

set_option Elab.async false
set_option maxRecDepth 100000
set_option maxHeartbeats 4000000
namespace My
open PySem L2
abbrev sSplit : Stmt := top 17
abbrev sWords : Stmt := top 29
def sHead (z : Str) : List Str := Txt.split (Txt.partition z ": ").1 " "
def sTail (z : Str) : List Str := Txt.split (Txt.partition z ": ").2.2 ", "
def hasCol (z : Str) : Bool := !decide (V.str (Txt.partition z ": ").2.1 = V.str "")
/-- split_script(text) -/
def spSplit (K : PySem.W.Frag) : Sp := fun vs H Q _ => ∃ (x : V) (s i b l t : Bool), vs = [x] ∧ KndS K H x s i b l t ∧ TxOk x ∧
  (∀ H', Same H H' → (s = false ∨ ∃ z, x = .str z ∧ hasCol z = false) → Q .non H') ∧
  (∀ z, x = .str z → hasCol z = true → ∀ (T l1 l2 : Addr) (H' : Hp), Same H H' → H' T = some (.tup [.ref l1, .ref l2]) → H' l1 = some (.lst ((sHead z).map V.str)) → H' l2 = some (.lst ((sTail z).map V.str)) → Q (.ref T) H')
section
variable {P : Program} {w : World} {K : PySem.W.Frag} {mg : Str → Option Value} {base : Heap}
theorem scSplit : FnScope ["text", "head", "colon", "tail"] ["text"] (defScope sSplit) := ⟨rfl, rfl, rfl, by decide +kernel, rfl, by decide +kernel, by decide +kernel⟩
theorem part_le (z y : Str) : (Txt.partition z y).1.length ≤ z.length ∧ (Txt.partition z y).2.2.length ≤ z.length := by
  have q := StrLaws.partition_sum z y
  have e : ((Txt.partition z y).1 ++ (Txt.partition z y).2.1 ++ (Txt.partition z y).2.2).length = z.length := by rw [q]
  rw [Str.length_append, Str.length_append] at e
  omega
theorem part_ok {z y : Str} (h : PyData.strOk z = true) : PyData.strOk (Txt.partition z y).1 = true ∧ PyData.strOk (Txt.partition z y).2.2 = true := by
  have q := StrLaws.partition_sum z y
  rw [← q, ok_app, ok_app] at h
  have h1 := Bool.and_eq_true_iff.mp h
  have h2 := Bool.and_eq_true_iff.mp h1.1
  exact ⟨h2.1, h1.2⟩
theorem ok_splitS {f : Addr} {fd : FuncData} (F : Fun K "split_script" "split_script" sSplit f fd) (B : Bl mg) : FnOk P w K mg base CX0 1 f fd ["text"] (spSplit K) := by
  refine F.ok scSplit (fun vs H Q E h => ?_) (fun cdv A outer s H vs Q E hr h => ?_)
  · obtain ⟨x, _, _, _, _, _, rfl, _⟩ := h
    rfl
  obtain ⟨x, s, i, b, l, t, rfl, kn, hz, kN, kY⟩ := h
  refine ⟨_, pss_cons (ps_if (pt_not (pt_val (pe_callB call_isi rfl B.isi (by decide +kernel) (pa_cons (pv 0) (pa_cons (pe_bltn (v := .ty "str") rfl B.str (by decide +kernel) rfl) pa_nil)))))
      (pss_one (ps_ret pe_non)) pss_nil)
    (pss_cons (ps_asg (pe_partition (pv 0) pe_str) (pg_tup rfl (pgs_cons (pg_name (i := 1) scSplit.nd rfl (Or.inl rfl)) (pgs_cons (pg_name (i := 2) scSplit.nd rfl (Or.inl rfl)) (pgs_cons (pg_name (i := 3) scSplit.nd rfl (Or.inl rfl)) pgs_nil)))))
    (pss_cons (ps_if (pt_cmpR op_eq (pv 2) pe_str (nomark _)) (pss_one (ps_ret pe_non)) pss_nil)
    (pss_one (ps_ret (pe_tup (pa_cons (pe_split (pv 1) pe_str) (pa_cons (pe_split (pv 3) pe_str) pa_nil))))))), ?_⟩
  obtain ⟨T, hT, k1, _⟩ := (kn H (fun _ _ h => h)).ty
  refine ⟨_, rfl, x, .ty "str", T, _, s, rfl, .ty "str", hT, k1, s, rfl, ?_⟩
  cases s with
  | false => exact kN H (fun _ _ h => h) (.inl rfl)
  | true =>
    obtain ⟨z, rfl⟩ := (kn H (fun _ _ h => h)).str rfl
    obtain ⟨hzl, hok⟩ := hz z rfl
    have hp := part_le z ": "
    refine ⟨_, rfl, ⟨z, rfl⟩, z, ": ", rfl, rfl, rfl, by omega, fun p hp1 => ?_⟩
    have s1 : Same H (upd H p (.tup [.str (Txt.partition z ": ").1, .str (Txt.partition z ": ").2.1, .str (Txt.partition z ": ").2.2])) := Same.new hp1
    refine ⟨p, _, rfl, .inl (.inl upd_same), rfl, _, _, rfl, _, _, rfl, _, _, rfl, rfl, ?_⟩
    refine ⟨_, rfl, rfl, _, rfl, ?_⟩
    by_cases hc : V.str (Txt.partition z ": ").2.1 = V.str ""
    · refine ifT (decide_eq_true hc) ?_
      refine kN _ s1 (.inr ⟨z, rfl, ?_⟩)
      show (!decide (V.str (Txt.partition z ": ").2.1 = V.str "")) = false
      rw [decide_eq_true hc]
      rfl
    · refine ifF (decide_eq_false hc) ?_
      refine ⟨_, rfl, ⟨_, rfl⟩, _, " ", rfl, rfl, rfl, by omega, fun l1 h1 => ?_⟩
      refine ⟨_, rfl, ⟨_, rfl⟩, _, ", ", rfl, rfl, rfl, by omega, fun l2 h2 => ?_⟩
      refine ⟨(by show 2 ≤ sizeLine; decide), fun T hT => ?_⟩
      have n12 : l1 ≠ l2 := ne_of_none upd_same h2
      have n2T : l2 ≠ T := ne_of_none upd_same hT
      have n1T : l1 ≠ T := ne_of_none (by rw [upd_ne n12]; exact upd_same) hT
      refine kY z rfl ?_ T l1 l2 _ (((s1.trans (Same.new h1)).trans (Same.new h2)).trans (Same.new hT)) upd_same ?_ ?_
      · show (!decide (V.str (Txt.partition z ": ").2.1 = V.str "")) = true
        rw [decide_eq_false hc]
        rfl
      · rw [upd_ne n1T, upd_ne n12]
        exact upd_same
      · rw [upd_ne n2T]
        exact upd_same
end
end My

set_option Elab.async false
set_option maxRecDepth 100000
set_option maxHeartbeats 4000000
namespace My
open PySem L2
abbrev WDS : List Str := ["once", "again"]
def rwB (z : Str) : Bool := hasCol z && (decide (((sHead z).length : Int) = 3) && (decide (V.str ((sHead z).headD "") = V.str "reader") && (nmV (.str ((sHead z).getD 1 "")) && (inV (.str ((sHead z).getD 2 "")) (WDS.map V.str) && (((sTail z).map V.str).map stepV).all id))))
/-- reader_words(text) -/
def spWords (K : PySem.W.Frag) : Sp := fun vs H Q _ => ∃ (x : V) (s i b l t : Bool), vs = [x] ∧ KndS K H x s i b l t ∧ TxOk x ∧ (∀ z, x = .str z → (sTail z).length ≤ 100) ∧
  (∀ H', Same H H' → (s = false ∨ ∃ z, x = .str z ∧ rwB z = false) → Q .non H') ∧
  (∀ z, x = .str z → rwB z = true → ∀ (T l2 : Addr) (H' : Hp), Same H H' → H' T = some (.tup [.str ((sHead z).getD 1 ""), .ref l2, .str ((sHead z).getD 2 "")]) → H' l2 = some (.lst ((sTail z).map V.str)) → Q (.ref T) H')
theorem ands {a b c d e : Bool} (h : (a && (b && (c && (d && e)))) = true) : a = true ∧ b = true ∧ c = true ∧ d = true ∧ e = true := by
  cases a <;> cases b <;> cases c <;> cases d <;> cases e <;> simp_all
theorem cbN {r : List V → Hp → VK → Prop} {ta : TE} {D : Ends} {σ : St} {H : Hp} {t u : TS} (h : ta σ H fun x H1 => r [x] H1 fun y H2 => ∃ c, y = .bl c ∧ if (!c) = true then t D σ H2 else u D σ H2) : tIfS (tNot (tB (tCB r (tCons ta tNil)))) t u D σ H := h
section
variable {P : Program} {w : World} {K : PySem.W.Frag} {mg : Str → Option Value} {base : Heap}
theorem scWords : FnScope ["text", "told", "head", "texts", "step"] ["text"] (defScope sWords) := ⟨rfl, rfl, rfl, by decide +kernel, rfl, by decide +kernel, by decide +kernel⟩
theorem strs_ok {H : Hp} {zs : List Str} (h : ∀ z ∈ zs, z.length + 2 ≤ sizeLine ∧ PyData.strOk z = true) : ∀ x ∈ zs.map V.str, ItOk K H x := by
  intro x hx
  obtain ⟨z, hz, rfl⟩ := List.mem_map.mp hx
  exact ⟨⟨_, _, _, _, _, fun _ _ => knd_str⟩, fun y hy => by cases hy; exact h z hz⟩
theorem ok_words {f fP fN fS bW : Addr} {fd fdP fdN fdS : FuncData} (F : Fun K "reader_words" "reader_words" sWords f fd) (B : Bl mg) (WM : CmpAt K mg "WORDS" bW WDS)
    (GP : FnOk P w K mg base CX0 1 fP fdP ["text"] (spSplit K)) (bP : Binds K fdP ["text"] []) (kP : PySem.W.keepIn K (.ref fP) = true) (mP : mg "split_script" = some (.ref fP))
    (GN : FnOk P w K mg base CX0 1 fN fdN ["value"] (spName K)) (bN : Binds K fdN ["value"] []) (kN : PySem.W.keepIn K (.ref fN) = true) (mN : mg "is_name" = some (.ref fN))
    (GS : FnOk P w K mg base CX0 4 fS fdS ["text"] (spStep K)) (bS : Binds K fdS ["text"] []) (kS : PySem.W.keepIn K (.ref fS) = true) (mS : mg "is_reader_step" = some (.ref fS)) :
    FnOk P w K mg base CX0 5 f fd ["text"] (spWords K) := by
  refine F.ok scWords (fun vs H Q E h => ?_) (fun cdv A outer s H vs Q E hr h => ?_)
  · obtain ⟨x, _, _, _, _, _, rfl, _⟩ := h
    rfl
  obtain ⟨x, s, i, b, l, t, rfl, kn, hz, h100, kNo, kY⟩ := h
  have hr1 : Room 1 _ := hr.mono (by omega)
  refine ⟨_, pss_cons (ps_set (i := 1) scWords.nd rfl (.inl rfl) (pe_call GP hr1 rfl mP kP bP .nil pass0 (pa_cons (pv 0) pa_nil)))
    (pss_cons (ps_if (pt_cmpR op_isN (pv 1) pe_non (nomark _)) (pss_one (ps_ret pe_non)) pss_nil)
    (pss_cons (ps_asg (pv 1) (pg_tup rfl (pgs_cons (pg_name (i := 2) scWords.nd rfl (Or.inl rfl)) (pgs_cons (pg_name (i := 3) scWords.nd rfl (Or.inl rfl)) pgs_nil))))
    (pss_cons (ps_if (PW.pt (pw_or (pt_cmpR op_ne (pe_callB call_len_seq rfl B.len (by decide +kernel) (pa_cons (pv 2) pa_nil)) pe_int (nomark _))
        (pw_or (pt_cmpR op_ne (pe_ix ix_list (pv 2) pe_int (fun _ _ => rfl)) pe_str (nomark _))
        (pw_or (pt_not (pt_val (pe_call GN hr1 rfl mN kN bN .nil pass0 (pa_cons (pe_ix ix_list (pv 2) pe_int (fun _ _ => rfl)) pa_nil))))
        (pw_or1 (pt_cmpR op_notIn_seq (pe_ix ix_list (pv 2) pe_int (fun _ _ => rfl)) (C8.pe_gc rfl WM.gl) (by with_unfolding_all rfl)))))))
      (pss_one (ps_ret pe_non)) pss_nil)
    (pss_cons (ps_if (pt_not (pt_val (pe_callB (cr_all rfl) rfl B.all (by decide +kernel) (pa_cons (pe_lc (own := [("step", 4)]) (g := gName 4) (tt := tYes) rfl scWords.nd (pi_lt (pv 3))
        (blkOk_by (own := [("step", 4)]) (N := ["text", "told", "head", "texts", "step"]) (sc := defScope sWords) (by decide +kernel)) (fun _ _ _ _ _ => pg_name (i := 4) scWords.nd rfl (Or.inl rfl)) (fun _ _ _ _ _ => pts_nil)
        (fun _ _ _ _ _ => pe_call GS hr rfl mS kS bS .nil pass0 (pa_cons (pv 4) pa_nil))) pa_nil))))
      (pss_one (ps_ret pe_non)) pss_nil)
    (pss_one (ps_ret (pe_tup (pa_cons (pe_ix ix_list (pv 2) pe_int (fun _ _ => rfl)) (pa_cons (pv 3) (pa_cons (pe_ix ix_list (pv 2) pe_int (fun _ _ => rfl)) pa_nil)))))))))), ?_⟩
  refine ⟨_, rfl, x, s, i, b, l, t, rfl, kn, hz, fun H1 s1 hno => ?_, fun z ez hc T l1 l2 H1 s1 hT h1 h2 => ?_⟩
  · refine ⟨_, rfl, rfl, _, rfl, ?_⟩
    refine kNo H1 s1 (hno.elim .inl fun ⟨z, ez, q⟩ => .inr ⟨z, ez, ?_⟩)
    unfold rwB
    rw [q, Bool.false_and]
  · subst ez
    refine ⟨_, rfl, rfl, _, rfl, ?_⟩
    refine ⟨_, rfl, T, _, rfl, .inl (.inl hT), rfl, _, _, rfl, _, _, rfl, rfl, ?_⟩
    have hok : ∀ y ∈ sHead z, y.length + 2 ≤ sizeLine := fun y hy => by
      have q1 := split_le hy
      have q2 := (part_le z ": ").1
      have q3 := (hz z rfl).1
      omega
    refine ⟨_, rfl, l1, _, rfl, .inl (SqL.of h1), rfl, _, rfl, ?_⟩
    by_cases hl : ((sHead z).length : Int) = 3
    · have hb : (!decide (V.int (((sHead z).map V.str).length : Nat) = V.int 3)) = false := by
        rw [List.length_map, hl, decide_eq_true rfl]
        rfl
      refine ifF hb ?_
      obtain ⟨y0, y1, y2, ey⟩ : ∃ y0 y1 y2, sHead z = [y0, y1, y2] := by
        match hh : sHead z with
        | [] => rw [hh] at hl; cases hl
        | [_] => rw [hh] at hl; cases hl
        | [_, _] => rw [hh] at hl; cases hl
        | [a, b, c] => exact ⟨a, b, c, rfl⟩
        | _ :: _ :: _ :: _ :: _ => rw [hh] at hl; simp at hl; omega
      rw [ey] at h1
      have e1 : (sHead z).getD 1 "" = y1 := by rw [ey]; rfl
      have e2 : (sHead z).getD 2 "" = y2 := by rw [ey]; rfl
      have ek0 : rwB z = (decide (V.str y0 = V.str "reader") && (nmV (.str y1) && (inV (.str y2) (WDS.map V.str) && (((sTail z).map V.str).map stepV).all id))) := by
        unfold rwB
        rw [hc, decide_eq_true hl, e1, e2, ey]
        rfl
      refine ⟨_, rfl, l1, _, 0, .str y0, rfl, rfl, SqL.of h1, atI_nat (j := 0) rfl, rfl, _, rfl, ?_⟩
      cases h0 : decide (V.str y0 = V.str "reader") with
      | true =>
        rw [h0, Bool.true_and] at ek0
        refine ifF rfl ?_
        refine ⟨_, rfl, l1, _, 1, .str y1, rfl, rfl, SqL.of h1, atI_nat (j := 1) rfl, ?_⟩
        refine ⟨.str y1, _, _, _, _, _, rfl, knd_str, fun y hy => ?_, fun H2 s2 => ?_⟩
        · cases hy
          have := hok y1 (by rw [ey]; simp)
          omega
        refine ⟨_, rfl, ?_⟩
        cases hn : nmV (.str y1) with
        | false =>
          rw [hn] at ek0
          exact kNo H2 (s1.trans s2) (.inr ⟨z, rfl, ek0⟩)
        | true =>
          rw [hn, Bool.true_and] at ek0
          refine ifF rfl ?_
          refine ⟨_, rfl, l1, _, 2, .str y2, rfl, rfl, SqL.of (s2 _ _ h1), atI_nat (j := 2) rfl, bW, _, rfl, .inr (WM.tu _), rfl, flat_strs WDS, _, rfl, ?_⟩
          show if (!inV (.str y2) (WDS.map V.str)) = true then _ else _
          cases hw2 : inV (.str y2) (WDS.map V.str) with
          | false =>
            rw [hw2] at ek0
            exact kNo H2 (s1.trans s2) (.inr ⟨z, rfl, ek0⟩)
          | true =>
            rw [hw2, Bool.true_and] at ek0
            refine ifF rfl ?_
            have h2' : H2 l2 = some (.lst ((sTail z).map V.str)) := s2 _ _ h2
            refine cbN (rd_steps (K := K) (i := 3) (j := 4) (σ := [some (.str z), some (.ref T), some (.ref l1), some (.ref l2), none]) rfl (by show 4 < 5; decide) (.inl (SqL.of h2')) (by rw [List.length_map]; exact h100 z rfl) (strs_ok fun y hy => ?_) fun L H3 s3 a3 => ?_)
            · have q1 := split_le hy
              have q2 := (part_le z ": ").2
              have q3 := hz z rfl
              exact ⟨by omega, split_ok (part_ok q3.2).2 hy⟩
            refine ⟨L, _, rfl, SqL.of a3, _, rfl, ?_⟩
            cases hs : (((sTail z).map V.str).map stepV).all id with
            | false =>
              rw [hs] at ek0
              exact kNo H3 ((s1.trans s2).trans s3) (.inr ⟨z, rfl, ek0⟩)
            | true =>
              rw [hs] at ek0
              have s23 := s2.trans s3
              refine ⟨_, rfl, l1, _, 1, .str y1, rfl, rfl, SqL.of (s23 _ _ h1), atI_nat (j := 1) rfl, ?_⟩
              refine ⟨_, rfl, _, rfl, l1, _, 2, .str y2, rfl, rfl, SqL.of (s23 _ _ h1), atI_nat (j := 2) rfl, (by show 3 ≤ sizeLine; decide), fun W hW => ?_⟩
              have n1 : l2 ≠ W := ne_of_none (s3 _ _ h2') hW
              refine kY z rfl ek0 W l2 _ ((s1.trans s23).trans (Same.new hW)) ?_ ?_
              · rw [e1, e2]
                exact upd_same
              · rw [upd_ne n1]
                exact s3 _ _ h2'
      | false =>
        rw [h0] at ek0
        exact ifT rfl (kNo H1 s1 (.inr ⟨z, rfl, ek0⟩))
    · have hb : (!decide (V.int (((sHead z).map V.str).length : Nat) = V.int 3)) = true := by
        rw [List.length_map, decide_eq_false (fun q => hl (V.int.inj q))]
        rfl
      refine ifT hb ?_
      refine kNo H1 s1 (.inr ⟨z, rfl, ?_⟩)
      unfold rwB
      rw [decide_eq_false hl, Bool.false_and, Bool.and_false]
end
end My

set_option Elab.async false
set_option maxRecDepth 100000
set_option maxHeartbeats 4000000
namespace My
open PySem L2
/-- a dict's entries: texts and what they tell -/
inductive EntK : List DictEntry → List (Str × V) → Prop
  | nil : EntK [] []
  | cons {e : DictEntry} {es : List DictEntry} {x : Str} {t : Tok} {v : V} {r : List (Str × V)} : e.key = .str x t → L2.RelV v e.val → EntK es r → EntK (e :: es) ((x, v) :: r)
def kvsOf (r : List (Str × V)) : List (Key × V) := r.map fun p => ((Sum.inr p.1 : Key), p.2)
theorem entK_pairs {P : Program} {w : World} {es : List DictEntry} {r : List (Str × V)} (h : EntK es r) : ∃ vs : List (Key × Value), KV (kvsOf r) vs ∧ PySem.Pairs (mixKind P w) es vs ∧ vs.map (·.1) = r.map fun p => (Sum.inr p.1 : Key) := by
  induction h with
  | nil => exact ⟨[], .nil, .nil, rfl⟩
  | @cons e es x t v r h1 h2 h3 ih =>
    obtain ⟨vs, a, b, c⟩ := ih
    refine ⟨((Sum.inr x : Key), e.val) :: vs, .cons ⟨rfl, h2⟩ a, .cons (by rw [h1]; exact keyIs_str x t) rfl b, ?_⟩
    show (Sum.inr x : Key) :: vs.map (·.1) = _
    rw [c]
    rfl
/-- dict(D), D a written dict with texts as keys: a new one -/
theorem call_dictK {X : Cx} {d : Addr} {es : Array DictEntry} {n : Nat} {r : List (Str × V)} (D : KDict X.K X.w d es n) (hr : EntK es.toList r) (nd : (r.map fun p => p.1).Nodup) (hz : r.length ≤ sizeLine) :
    CallR X (.type "dict") (fun xs H Q => xs = [.ref d] ∧ ∀ p, H p = none → Q (.ref p) (upd H p (.dK (kvsOf r)))) := by
  intro pins s σ H xs us Q I rx q
  obtain ⟨ex, q⟩ := q
  subst ex
  obtain ⟨u, eu, r1⟩ := vals1 rx
  subst eu
  cases (show u = Value.ref d from r1)
  obtain ⟨vs, a, b, c⟩ := entK_pairs (P := X.prog) (w := X.w) hr
  have dd : s.heap.DictOf (mixKind X.prog X.w) d vs := ⟨_, es, n, I.kIn _ _ D.at_, ⟨rfl, rfl, rfl⟩, rfl, fun e he => by
    obtain ⟨x, t, e1, e2⟩ := D.lit.all e (Array.mem_toList_iff.mpr he)
    exact ⟨Sum.inr x, by rw [e1]; exact keyIs_str x t, e2⟩, b, by
      rw [c]
      have e : (r.map fun p => (Sum.inr p.1 : Key)) = (r.map fun p => p.1).map Sum.inr := by rw [List.map_map]; rfl
      rw [e]
      exact List.Pairwise.map (R := fun a b : Str => a ≠ b) Sum.inr (fun a b h q => h (Sum.inr.inj q)) nd⟩
  have hl : vs.length ≤ sizeLine := by
    have e := congrArg List.length c
    rw [List.length_map, List.length_map] at e
    omega
  refine kt_call_dict D.low dd hl fun h' d' hs => ?_
  have hm : (s.heap.objs.size == sysModules) = false := beq_eq_false_iff_ne.mpr (Nat.ne_of_gt I.big)
  have hz' : (kvsOf r).length ≤ sizeLine := by unfold kvsOf; rw [List.length_map]; exact hz
  exact ⟨.ref s.heap.objs.size, upd H s.heap.objs.size (.dK (kvsOf r)), I.laid (t' := s.toks) (fun b u e => (hs.2 b (Nat.ne_of_lt (Heap.lt_size e))).trans (Heap.get?_push_of_some _ e)) (Nat.le_refl _)
    (show ObjOk X.prog X.w _ _ _ (.dK (kvsOf r)) from ⟨hz', hm, vs, a, d'⟩), rfl, q _ (I.hok.fresh (Nat.le_refl _))⟩
end My

set_option Elab.async false
set_option maxRecDepth 100000
set_option maxHeartbeats 4000000
namespace My
open PySem L2
abbrev sLot : Stmt := top 16
def addKey (ks : List Str) (k : Str) : List Str := if k ∈ ks then ks else ks ++ [k]
def lotW (role : Str) (ks : List Str) (p : Str × Str) : List Str := if decide (V.str p.2 = V.str role) = true then addKey ks p.1 else ks
def rolesOf (z : Str) : List Str := (formOf (hw z)).getD []
def prs (z : Str) : List (Str × Str) := ((Txt.split z " ").drop 1).zip (rolesOf z)
def lotT (role : Str) (ks : List Str) (z : Str) : List Str := (prs z).foldl (lotW role) ks
def lotS (role : Str) (zs : List Str) : List Str := zs.foldl (lotT role) []
def mk (ks : List Str) : List (Key × V) := ks.map fun k => ((Sum.inr k : Key), V.bl true)
theorem mk_len (ks : List Str) : (mk ks).length = ks.length := by
  unfold mk
  exact List.length_map ..
theorem put_mk (ks : List Str) (k : Str) : putK (mk ks) (Sum.inr k) (V.bl true) = mk (addKey ks k) := by
  unfold putK addKey
  have h1 : ((mk ks).any fun kv => decide (kv.1 = (Sum.inr k : Key))) = decide (k ∈ ks) := by
    unfold mk
    rw [List.any_map]
    induction ks with
    | nil => rfl
    | cons x r ih =>
      rw [List.any_cons, ih]
      show (decide ((Sum.inr x : Key) = Sum.inr k) || _) = _
      rw [key_rr]
      by_cases e : x = k
      · subst e; simp
      · have e2 : k ≠ x := fun q => e q.symm
        simp [e, e2]
  rw [h1]
  by_cases hk : k ∈ ks
  · rw [if_pos (decide_eq_true hk), if_pos hk]
    unfold mk
    rw [List.map_map]
    refine List.map_congr_left fun x _ => ?_
    show (if (Sum.inr x : Key) = Sum.inr k then ((Sum.inr x : Key), V.bl true) else ((Sum.inr x : Key), V.bl true)) = _
    split <;> rfl
  · rw [if_neg (by rw [decide_eq_false hk]; exact Bool.false_ne_true), if_neg hk]
    unfold mk
    rw [List.map_append]
    rfl
/-- what lies in a written table -/
def TabF (K : PySem.W.Frag) (kvs : List (Key × V)) (z : Str) : Prop := ∃ (v : V) (rs : List Str), valV kvs (Sum.inr (hw z)) = some v ∧ formOf (hw z) = some rs ∧ rs.length ≤ 4 ∧ ∀ H : Hp, ∃ b, v = .ref b ∧ SqT K H b (rs.map V.str)
/-- lot_of_role(texts, forms, role) -/
def spLot (K : PySem.W.Frag) : Sp := fun vs H Q _ => ∃ (a fm : Addr) (zs : List Str) (kvs : List (Key × V)) (role : Str), vs = [.ref a, .ref fm, .str role] ∧ SqA K H a (zs.map V.str) ∧ H fm = some (.dK kvs) ∧ (∀ z ∈ zs, z.length + 2 ≤ sizeLine ∧ TabF K kvs z) ∧
  zs.length ≤ 14 ∧ ∀ (T : Addr) (ys : List Str) (H' : Hp), Same H H' → H' T = some (.tup (ys.map V.str)) → ys.Perm (lotS role zs) → PyProof.Rows.sortedS ys = true → Q (.ref T) H'
theorem add_len (ks : List Str) (k : Str) : (addKey ks k).length ≤ ks.length + 1 := by
  unfold addKey
  split
  · omega
  · simp
theorem fold_len (role : Str) : ∀ (ps : List (Str × Str)) (ks : List Str), (ps.foldl (lotW role) ks).length ≤ ks.length + ps.length
  | [], ks => by simp
  | p :: r, ks => by
    have q := fold_len role r (lotW role ks p)
    have q2 : (lotW role ks p).length ≤ ks.length + 1 := by
      unfold lotW
      split
      · exact add_len _ _
      · omega
    simp only [List.foldl_cons, List.length_cons]
    omega
theorem roles_len (z : Str) : (rolesOf z).length ≤ 4 := by
  unfold rolesOf formOf
  repeat' split
  all_goals decide
theorem prs_len (z : Str) : (prs z).length ≤ 4 := by
  unfold prs
  rw [List.length_zip]
  have := roles_len z
  omega
theorem lots_len (role : Str) : ∀ (zs ks : List Str), (zs.foldl (lotT role) ks).length ≤ ks.length + 4 * zs.length
  | [], ks => by simp
  | z :: r, ks => by
    have q := lots_len role r (lotT role ks z)
    have q2 : (lotT role ks z).length ≤ ks.length + (prs z).length := fold_len role (prs z) ks
    have q3 := prs_len z
    simp only [List.foldl_cons, List.length_cons]
    omega
theorem fold_snoc {α β : Type} {f : β → α → β} {xs : List α} {i : Nat} {x : α} {b : β} (h : xs[i]? = some x) : (xs.take (i + 1)).foldl f b = f ((xs.take i).foldl f b) x := by
  rw [List.take_add_one, h, List.foldl_append]
  rfl
theorem ilt_of2 {K : PySem.W.Frag} {i : Nat} {σ : St} {H0 H : Hp} {R : It → Hp → Prop} {a : Addr} {xs : List V} (hv : σ[i]? = some (some (.ref a))) (h : SqA K H0 a xs) (s : Same H0 H)
    (k : ∀ (J : It) (G : Hp → Prop), Walk J xs.length G (YAt xs) → (∀ H', Same H0 H' → G H') → R J H) : iLT K (tVar i) σ H R := by
  rcases h with h | h
  · exact .inl ⟨_, hv, a, rfl, ⟨xs, Same.seqLx s h⟩, k _ _ walk_list fun H' s' => Same.seqLx s' h⟩
  · exact .inr ⟨_, hv, a, rfl, ⟨xs, Same.seqTx s h⟩, k _ _ walk_tup fun H' s' => Same.seqTx s' h⟩
section
variable {P : Program} {w : World} {K : PySem.W.Frag} {mg : Str → Option Value} {base : Heap}
theorem scLot : FnScope ["texts", "forms", "role", "found", "text", "words", "word", "told"] ["texts", "forms", "role"] (defScope sLot) := ⟨rfl, rfl, rfl, by decide +kernel, rfl, by decide +kernel, by decide +kernel⟩
theorem ok_lot {f : Addr} {fd : FuncData} (F : Fun K "lot_of_role" "lot_of_role" sLot f fd) (mz : mg "zip" = none) (mt : mg "tuple" = none) (ms : mg "sorted" = none) : FnOk P w K mg base CX0 1 f fd ["texts", "forms", "role"] (spLot K) := by
  refine F.ok scLot (fun vs H Q E h => ?_) (fun cdv A outer s H vs Q E hr h => ?_)
  · obtain ⟨_, _, _, _, _, rfl, _⟩ := h
    rfl
  obtain ⟨a, fm, zs, kvs, role, rfl, hS, hF, hz, h10, k⟩ := h
  have hu1 := Nat.lt_of_le_of_lt (Nat.add_le_add_left (show 1 ≤ 64 by decide) _) hr.units
  refine ⟨_, pss_cons (ps_set (i := 3) scLot.nd rfl (.inl rfl) pe_dnewK)
    (pss_cons (ps_for PassesOwn.never rfl (pi_lt (pv 0)) (pg_name (i := 4) scLot.nd rfl (Or.inl rfl))
      (pss_cons (ps_set (i := 5) scLot.nd rfl (.inl rfl) (pe_split (pv 4) pe_str))
      (pss_one (ps_for PassesOwn.never rfl (pi_zipM rfl mz (pa_cons (pe_slice sl_list (pv 5) (po_some pe_int) po_none) (pa_cons (pe_dget hu1 (pv 1) (pe_ix ix_list (pv 5) pe_int (fun _ _ => rfl)) (fun _ _ => rfl)) pa_nil)))
        (pg_tup rfl (pgs_cons (pg_name (i := 6) scLot.nd rfl (Or.inl rfl)) (pgs_cons (pg_name (i := 7) scLot.nd rfl (Or.inl rfl)) pgs_nil)))
        (pss_one (ps_if (pt_cmpR op_eq (pv 7) (pv 2) (nomark _)) (pss_one (ps_asg pe_bl (pg_sub (pv 3) (pv 6) (set_dict hu1)))) pss_nil))))))
    (pss_one (ps_ret (pe_callTy call_tuple_of rfl mt (by decide +kernel) (pa_cons (pe_callB (call_sortedD rfl) rfl ms (by decide +kernel) (pa_cons (pv 3) pa_nil)) pa_nil))))), ?_⟩
  refine fun D hD => ?_
  refine ilt_of2 (K := K) (i := 0) (a := a) (xs := zs.map V.str) rfl hS (Same.new hD) fun J G wk kG => ?_
  refine for_it wk (fun i σ H1 => ∃ t u x y : Option V, σ = [some (.ref a), some (.ref fm), some (.str role), some (.ref D), t, u, x, y] ∧ Same H H1 ∧ H1 D = some (.dK (mk ((zs.take i).foldl (lotT role) [])))) ⟨none, none, none, none, rfl, Same.new hD, upd_same⟩
    (fun i σ H1 _ ⟨_, _, _, _, _, s1, _⟩ => kG H1 s1) ?_ ?_
  · rintro i x σ H1 H2 hi ⟨t, u, x', y', rfl, s1, d1⟩ ⟨rfl, hx⟩
    obtain ⟨z, hz1, rfl⟩ := strs_at hx
    obtain ⟨hzl, v, rs, g1, g2, g3, g4⟩ := hz z (List.mem_of_getElem? hz1)
    obtain ⟨w0, wr, ew⟩ := split_ne z " "
    have ehw : hw z = w0 := by
      show (Txt.split z " ").headD "" = w0
      rw [ew]
      rfl
    have erol : rolesOf z = rs := by
      unfold rolesOf
      rw [g2]
      rfl
    refine ⟨_, rfl, ⟨z, rfl⟩, z, " ", rfl, rfl, rfl, hzl, fun p hp => ?_⟩
    have nDp : D ≠ p := ne_of_none d1 hp
    refine ⟨_, rfl, 1, rfl, p, _, rfl, SqL.of upd_same, fun q hq => ?_⟩
    rw [cut_one, ← List.map_drop]
    have npq : p ≠ q := ne_of_none upd_same hq
    have nDq : D ≠ q := ne_of_none (by rw [upd_ne nDp]; exact d1) hq
    have s2 : Same H2 (upd (upd H2 p (.lst ((Txt.split z " ").map V.str))) q (.lst (((Txt.split z " ").drop 1).map V.str))) := (Same.new hp).trans (Same.new hq)
    have s3 := s1.trans s2
    obtain ⟨b, rfl, _⟩ := g4 H
    have hb : ∀ H : Hp, SqT K H b (rs.map V.str) := fun H => by
      obtain ⟨b', e, q⟩ := g4 H
      cases e
      exact q
    refine ⟨_, rfl, _, rfl, p, _, 0, .str w0, rfl, rfl, SqL.of (by rw [upd_ne npq]; exact upd_same), (by rw [ew]; exact atI_nat (j := 0) rfl), fm, .ref b, rfl, ?_, ?_⟩
    · have e := DGet.k (k := Sum.inr w0) (s3 _ _ hF)
      rw [← ehw, g1] at e
      rw [← ehw]
      exact e
    refine ⟨q, b, _, _, rfl, SqL.of upd_same, hb _, ?_⟩
    refine for_it (walk_zipM (K := K) (a := q) (b := b) (xs := ((Txt.split z " ").drop 1).map V.str) (ys := rs.map V.str) rfl)
      (fun j σ H3 => ∃ x y : Option V, σ = [some (.ref a), some (.ref fm), some (.str role), some (.ref D), some (.str z), some (.ref p), x, y] ∧ Same H H3 ∧ H3 q = some (.lst (((Txt.split z " ").drop 1).map V.str)) ∧
        H3 D = some (.dK (mk (((prs z).take j).foldl (lotW role) ((zs.take i).foldl (lotT role) []))))) ⟨x', y', rfl, s3, upd_same, by rw [upd_ne nDq, upd_ne nDp]; exact d1⟩
      (fun j σ H3 _ ⟨_, _, _, _, h, _⟩ => ⟨SqL.of h, hb _⟩) ?_ ?_
    · rintro j v σ H3 H4 hj ⟨x1, y1, rfl, s4, q4, d4⟩ ⟨T, xv, yv, rfl, hT, rfl, hxv, hyv⟩
      obtain ⟨wd, hw1, rfl⟩ := strs_at hxv
      obtain ⟨ro, hr1, rfl⟩ := strs_at hyv
      have nDT : D ≠ T := ne_of_none d4 hT
      have nqT : q ≠ T := ne_of_none q4 hT
      have hpj : (prs z)[j]? = some (wd, ro) := by
        unfold prs
        rw [erol]
        exact (List.getElem?_zip_eq_some (z := (wd, ro))).mpr ⟨hw1, hr1⟩
      have s5 : Same H (upd H3 T (.tup [.str wd, .str ro])) := s4.trans (Same.new hT)
      refine ⟨T, [.str wd, .str ro], rfl, .inl (.inl upd_same), rfl, _, _, rfl, _, _, rfl, rfl, ?_⟩
      refine ⟨_, rfl, _, rfl, rfl, _, rfl, ?_⟩
      have e1 := fold_snoc (f := lotW role) (b := (zs.take i).foldl (lotT role) []) hpj
      by_cases hro : V.str ro = V.str role
      · refine ifT (decide_eq_true hro) ?_
        have e2 : ∀ ks, lotW role ks (wd, ro) = addKey ks wd := fun ks => by
          unfold lotW
          rw [if_pos (decide_eq_true hro)]
        have l1 := fold_len role ((prs z).take j) ((zs.take i).foldl (lotT role) [])
        have l2 := lots_len role (zs.take i) []
        have l3 := prs_len z
        have l4 : ((prs z).take j).length ≤ (prs z).length := by rw [List.length_take]; omega
        have l5 : (zs.take i).length ≤ zs.length := by rw [List.length_take]; omega
        have l6 : ([] : List Str).length = 0 := rfl
        have d5 : (upd H3 T (.tup [.str wd, .str ro])) D = some (.dK (mk (((prs z).take j).foldl (lotW role) ((zs.take i).foldl (lotT role) [])))) := by rw [upd_ne nDT]; exact d4
        refine ⟨_, rfl, _, rfl, D, _, rfl, DPut.k (k := Sum.inr wd) d5 (by rw [mk_len]; exact small1000 (by omega)), ?_⟩
        refine ⟨_, _, rfl, fun c o h => ?_, ?_, ?_⟩
        · rw [upd_ne (ne_of_none h hD)]
          exact s5 _ _ h
        · rw [upd_ne nDq.symm, upd_ne nqT]
          exact q4
        · rw [e1, e2, put_mk]
          exact upd_same
      · refine ifF (decide_eq_false hro) ?_
        have e2 : ∀ ks, lotW role ks (wd, ro) = ks := fun ks => by
          unfold lotW
          rw [if_neg (by rw [decide_eq_false hro]; exact Bool.false_ne_true)]
        refine ⟨_, _, rfl, s5, by rw [upd_ne nqT]; exact q4, ?_⟩
        rw [e1, e2, upd_ne nDT]
        exact d4
    · rintro σ H3 ⟨x1, y1, rfl, s4, q4, d4⟩
      refine ⟨_, _, _, _, rfl, s4, ?_⟩
      rw [fold_snoc hz1, d4]
      have e : (prs z).take (min (((Txt.split z " ").drop 1).map V.str).length (rs.map V.str).length) = prs z := by
        apply List.take_of_length_le
        unfold prs
        rw [erol, List.length_zip, List.length_map, List.length_map]
        exact Nat.le_refl _
      rw [e]
      rfl
  · rintro σ H1 ⟨t, u, x', y', rfl, s1, d1⟩
    rw [List.length_map, List.take_length] at d1
    have l2 := lots_len role zs []
    have l6 : ([] : List Str).length = 0 := rfl
    refine ⟨_, rfl, D, _, lotS role zs, rfl, .inl d1, ?_, by show (zs.foldl (lotT role) []).length < 64; omega, fun ys p hp hs hn => ?_⟩
    · unfold mk lotS
      rw [List.map_map]
      rfl
    refine ⟨p, ys.map V.str, rfl, .inl ⟨SqL.of upd_same, fun T hT => ?_⟩⟩
    exact k T ys _ ((s1.trans (Same.new hn)).trans (Same.new hT)) upd_same hp hs
end
end My

set_option Elab.async false
set_option linter.all false
set_option maxRecDepth 100000
set_option maxHeartbeats 2000000
namespace My
open PySem L2

abbrev sSg : Stmt := top 27
abbrev NSg : List Str := ["texts", "was_read", "counters", "at", "text", "words"]
theorem scSg : FnScope ["texts", "was_read", "counters", "at", "text", "words"] ["texts"] (defScope sSg) := ⟨rfl, rfl, rfl, by decide +kernel, rfl, by decide +kernel, by decide +kernel⟩
/-! ### enumerate of a list or a tuple -/
def iELT (K : PySem.W.Frag) (ta : TA) : TI := fun σ H R => iEnum K ta σ H R ∨ iEnumT K ta σ H R
theorem pi_elt {X : Cx} {e : Expr} {ta : TA} {p pos tpos : Pos} {elts : List Expr} {kk : Nat} (hg : Gl X "enumerate") (hm : X.mg "enumerate" = none) (ha : PA X [e] ta) (hs : starEach [e] X.env = [(false, eval e X.env)] := by rfl) :
    PI X (.Tuple elts kk tpos) (.Call (.Name "enumerate" p) [e] [] pos) (iELT X.K ta) := pi_or (pi_enum hg hm ha hs) (pi_enumT hg hm ha hs)
theorem walk_enumT {K : PySem.W.Frag} {a : Addr} {xs : List V} : Walk (IteT K a) xs.length (fun H => SqT K H a xs) (YPair (fun i => some (.int (i : Nat))) (fun i => xs[i]?)) := by
  refine ⟨fun i _ hi q => ⟨xs, xs[i], q, by simp [hi]⟩, fun _ q => ⟨xs, q, Nat.le_refl _⟩, fun i H v H' _ q y => ?_⟩
  obtain ⟨T, x, h1, h2, h3, h4⟩ := y
  exact ⟨T, .int (i : Nat), x, h1, h2, h3, rfl, h4 xs q⟩
theorem ielt_of {K : PySem.W.Frag} {i : Nat} {σ : St} {H0 H : Hp} {R : It → Hp → Prop} {a : Addr} {xs : List V} (hv : σ[i]? = some (some (.ref a))) (h : SqA K H0 a xs) (s : Same H0 H)
    (k : ∀ (J : It) (G : Hp → Prop), Walk J xs.length G (YPair (fun i => some (.int (i : Nat))) (fun i => xs[i]?)) → (∀ H', Same H0 H' → G H') → R J H) : iELT K (tCons (tVar i) tNil) σ H R := by
  rcases h with h | h
  · exact .inl ⟨_, hv, a, xs, rfl, Same.seqLx s h, k _ _ walk_enum fun H' s' => Same.seqLx s' h⟩
  · exact .inr ⟨_, hv, a, xs, rfl, Same.seqTx s h, k _ _ walk_enumT fun H' s' => Same.seqTx s' h⟩
/-! ### what a step does -/
/-- a word of a step -/
def wd (z : Str) (i : Nat) : Str := (Txt.split z " ").getD i ""
abbrev Rst : Type := List Str × List (Nat × Str)
def rbad (st : Rst) (z : Str) : Bool := (isChk z && !cmpR (numsS z) st.2) || ((decide (V.str (hw z) = V.str "read") && decide (wd z 1 ∈ st.1)) || ((inV (.str (hw z)) [.str "use", .str "look"] && !decide (wd z 1 ∈ st.1)) || (decide (V.str (hw z) = V.str "mark") && !decide (wd z 2 ∈ st.1))))
def rnew (at_ : Nat) (st : Rst) (z : Str) : Rst := (if decide (V.str (hw z) = V.str "read") = true then addKey st.1 (wd z 1) else st.1, if decide (V.str (hw z) = V.str "num") = true then st.2 ++ [(at_, wd z 1)] else st.2)
def rrun : Nat → Rst → List Str → Option Rst
  | _, st, [] => some st
  | n, st, z :: r => if rbad st z = true then none else rrun (n + 1) (rnew n st z) r
def goR (zs : List Str) : Bool := (rrun 0 ([], []) zs).isSome
/-- a step of the right form, with its numbers -/
def StepOk (z : Str) : Prop := z.length + 2 ≤ sizeLine ∧ stepS z = true ∧ NumOk z
/-- steps_go_right(texts) -/
def spSg (K : PySem.W.Frag) : Sp := fun vs H Q _ => ∃ (a : Addr) (zs : List Str), vs = [.ref a] ∧ SqA K H a (zs.map V.str) ∧ (∀ z ∈ zs, StepOk z) ∧ zs.length ≤ 14 ∧ ∀ H', Same H H' → Q (.bl (goR zs)) H'
theorem val_mk (ks : List Str) (k : Str) : (valV (mk ks) (Sum.inr k)).isSome = decide (k ∈ ks) := by
  induction ks with
  | nil => rfl
  | cons x r ih =>
    have e : mk (x :: r) = ((Sum.inr x : Key), V.bl true) :: mk r := rfl
    rw [e]
    by_cases h : x = k
    · subst h
      rw [valV_pos rfl]
      simp
    · rw [valV_neg (fun z => h (Sum.inr.inj z)), ih]
      have h2 : ¬ k = x := fun z => h z.symm
      simp [h2]
theorem put_cnt {cs : List (Nat × Str)} {n : Nat} {y : Str} (h : ∀ c ∈ cs, c.1 < n) : putK (cntK cs) (Sum.inl (n : Int)) (V.str y) = cntK (cs ++ [(n, y)]) := by
  unfold putK
  have h1 : ((cntK cs).any fun kv => decide (kv.1 = (Sum.inl (n : Int) : Key))) = false := by
    rw [List.any_eq_false]
    intro kv hkv
    unfold cntK at hkv
    obtain ⟨c, hc, rfl⟩ := List.mem_map.mp hkv
    have := h c hc
    have q : ¬ ((Sum.inl (c.1 : Int) : Key) = Sum.inl (n : Int)) := fun z => by
      have := Sum.inl.inj z
      omega
    simpa using q
  rw [if_neg (by rw [h1]; exact Bool.false_ne_true)]
  unfold cntK
  rw [List.map_append]
  rfl
theorem step_len {z : Str} (h : stepS z = true) : ∃ rs, formOf (hw z) = some rs ∧ (Txt.split z " ").length = rs.length + 1 := by
  have h : formS (stepW z) (formOf (hw z)) = true := h
  cases hf : formOf (hw z) with
  | none =>
    rw [hf] at h
    cases h
  | some rs =>
    rw [hf, formS_some] at h
    have q := of_decide_eq_true (Bool.and_eq_true_iff.mp h).1
    exact ⟨rs, rfl, by have q : (((Txt.split z " ").length : Nat) : Int) = (rs.length : Int) + 1 := q; omega⟩
theorem len_of {z : Str} {x : Str} {rs : List Str} (h : stepS z = true) (e : hw z = x) (f : formOf x = some rs) : (Txt.split z " ").length = rs.length + 1 := by
  obtain ⟨ts, g1, g2⟩ := step_len h
  rw [e, f] at g1
  cases g1
  exact g2
theorem in2 {y a b : Str} (h : inV (.str y) [.str a, .str b] = true) : y = a ∨ y = b := by
  have h : (eqV (.str a) (.str y) || (eqV (.str b) (.str y) || false)) = true := h
  rw [Bool.or_false] at h
  rcases Bool.or_eq_true_iff.mp h with h | h
  · exact .inl (by have h : (a == y) = true := h; exact (by simpa using h : a = y).symm)
  · exact .inr (by have h : (b == y) = true := h; exact (by simpa using h : b = y).symm)
theorem vstr {y x : Str} (h : decide (V.str y = V.str x) = true) : y = x := by
  have q := of_decide_eq_true h
  injection q
theorem at_wd {z : Str} {i : Nat} (h : i < (Txt.split z " ").length) : atI ((Txt.split z " ").map V.str) (i : Int) = some (.str (wd z i)) := by
  refine atI_nat ?_
  unfold wd
  rw [List.getElem?_map, List.getElem?_eq_getElem h, List.getD_eq_getElem?_getD, List.getElem?_eq_getElem h]
  rfl
theorem at_hw (z : Str) : atI ((Txt.split z " ").map V.str) 0 = some (.str (hw z)) := by
  obtain ⟨w0, wr, ew⟩ := split_ne z " "
  unfold hw
  rw [ew]
  exact atI_nat (j := 0) rfl
theorem chk_nums {z : Str} (h : stepS z = true) (c : isChk z = true) : numsS z ≠ [] ∧ (numsS z).length ≤ 10 := by
  have e : numsS z = ((Txt.split z " ").drop 1).map valS := by
    unfold numsS
    rw [c]
    rfl
  have hl : (Txt.split z " ").length = 2 ∨ (Txt.split z " ").length = 3 := by
    rcases in2 c with q | q
    · exact .inr (len_of h q (rs := ["number", "number"]) (by decide +kernel))
    · exact .inl (len_of h q (rs := ["number"]) (by decide +kernel))
  have hl2 : (numsS z).length = (Txt.split z " ").length - 1 := by rw [e, List.length_map, List.length_drop]
  refine ⟨fun q => ?_, by omega⟩
  rw [q] at hl2
  simp at hl2
  omega
section
variable {P : Program} {w : World} {K : PySem.W.Frag} {mg : Str → Option Value} {base : Heap}
theorem ok_sg {f fNc fCr bC : Addr} {fd fdNc fdCr : FuncData} (F : Fun K "steps_go_right" "steps_go_right" sSg f fd) (z_enumerate : mg "enumerate" = none) (CM : CmpAt K mg "COMPARING" bC CMP)
    (GNc : FnOk P w K mg base CX0 1 fNc fdNc ["text"] (spNc K)) (bNc : Binds K fdNc ["text"] []) (kNc : PySem.W.keepIn K (.ref fNc) = true) (mNc : mg "numbers_in_check" = some (.ref fNc))
    (GCr : FnOk P w K mg base CX0 1 fCr fdCr ["numbers", "counters"] (spCr K)) (bCr : Binds K fdCr ["numbers", "counters"] []) (kCr : PySem.W.keepIn K (.ref fCr) = true) (mCr : mg "compares_right" = some (.ref fCr)) :
    FnOk P w K mg base CX0 2 f fd ["texts"] (spSg K) := by
  refine F.ok scSg (fun vs H Q E h => ?_) (fun cdv A outer s H vs Q E hr h => ?_)
  · obtain ⟨_, _, rfl, _⟩ := h
    rfl
  obtain ⟨a, zs, rfl, hS, hz, h14, k⟩ := h
  have hu := hu_of hr
  refine ⟨_, (pss_cons (ps_set (i := 1) scSg.nd rfl (.inl rfl) pe_dnewK)
  (pss_cons (ps_set (i := 2) scSg.nd rfl (.inl rfl) pe_dnewK)
  (pss_cons (ps_for PassesOwn.never rfl (pi_elt (by rfl) z_enumerate (pa_cons (pv 0) pa_nil)) (pg_tup rfl (pgs_cons (pg_name (i := 3) scSg.nd rfl (.inl rfl)) (pgs_cons (pg_name (i := 4) scSg.nd rfl (.inl rfl)) pgs_nil))) (pss_cons (ps_set (i := 5) scSg.nd rfl (.inl rfl) (pe_split (pv 4) pe_str))
    (pss_cons (ps_if (PW.pt (pw_and (pt_cmpR op_in_seq (pe_ix ix_list (pv 5) pe_int (fun _ _ => rfl)) (C8.pe_gc rfl CM.gl) (by with_unfolding_all rfl)) (pw_and1 (pt_not (pt_val (pe_call GCr (hr.mono (by decide)) rfl mCr kCr bCr .nil pass0 (pa_cons (pe_call GNc (hr.mono (by decide)) rfl mNc kNc bNc .nil pass0 (pa_cons (pv 4) pa_nil)) (pa_cons (pv 2) pa_nil)))))))) (pss_one (ps_ret pe_bl)) pss_nil)
    (pss_cons (ps_if (PW.pt (pw_and (pt_cmpR op_eq (pe_ix ix_list (pv 5) pe_int (fun _ _ => rfl)) pe_str (nomark _)) (pw_and1 (pt_cmp (pc_din hu (pe_ix ix_list (pv 5) pe_int (fun _ _ => rfl)) (pv 1)))))) (pss_one (ps_ret pe_bl)) pss_nil)
    (pss_cons (ps_if (PW.pt (pw_and (pt_cmpR op_in_seq (pe_ix ix_list (pv 5) pe_int (fun _ _ => rfl)) (pe_tup (pa_cons pe_str (pa_cons pe_str pa_nil))) (by with_unfolding_all rfl)) (pw_and1 (pt_cmp (pc_dnotin hu (pe_ix ix_list (pv 5) pe_int (fun _ _ => rfl)) (pv 1)))))) (pss_one (ps_ret pe_bl)) pss_nil)
    (pss_cons (ps_if (PW.pt (pw_and (pt_cmpR op_eq (pe_ix ix_list (pv 5) pe_int (fun _ _ => rfl)) pe_str (nomark _)) (pw_and1 (pt_cmp (pc_dnotin hu (pe_ix ix_list (pv 5) pe_int (fun _ _ => rfl)) (pv 1)))))) (pss_one (ps_ret pe_bl)) pss_nil)
    (pss_cons (ps_if (pt_cmpR op_eq (pe_ix ix_list (pv 5) pe_int (fun _ _ => rfl)) pe_str (nomark _)) (pss_one (ps_dput hu (pv 1) (pe_ix ix_list (pv 5) pe_int (fun _ _ => rfl)) pe_bl rfl)) pss_nil)
    (pss_one (ps_if (pt_cmpR op_eq (pe_ix ix_list (pv 5) pe_int (fun _ _ => rfl)) pe_str (nomark _)) (pss_one (ps_dput hu (pv 2) (pv 3) (pe_ix ix_list (pv 5) pe_int (fun _ _ => rfl)) rfl)) pss_nil)))))))))
  (pss_one (ps_ret pe_bl))))), ?_⟩
  refine fun D1 hD1 => fun D2 hD2 => ?_
  have s00 : Same H (upd (upd H D1 (.dK [])) D2 (.dK [])) := (Same.new hD1).trans (Same.new hD2)
  have n12 : D1 ≠ D2 := ne_of_none upd_same hD2
  refine ielt_of (K := K) (i := 0) (a := a) (xs := zs.map V.str) rfl hS s00 fun J G wk kG => ?_
  refine for_it wk (fun i σ H1 => ∃ (t u v : Option V) (st : Rst), σ = [some (.ref a), some (.ref D1), some (.ref D2), t, u, v] ∧ Same H H1 ∧ H1 D1 = some (.dK (mk st.1)) ∧ H1 D2 = some (.dK (cntK st.2)) ∧ rrun 0 ([], []) zs = rrun i st (zs.drop i) ∧ (∀ c ∈ st.2, c.1 < i) ∧ st.1.length ≤ i ∧ st.2.length ≤ i)
    ⟨none, none, none, ([], []), rfl, s00, by rw [upd_ne n12]; exact upd_same, upd_same, rfl, fun c hc => (by cases hc), Nat.le_refl _, Nat.le_refl _⟩ (fun i σ H1 _ ⟨_, _, _, _, _, s1, _⟩ => kG H1 s1) ?_ ?_
  · rintro i x σ H1 H2 hi ⟨t, u, v, st, rfl, s1, d1, d2, er, hc, l1, l2⟩ ⟨T, x, y, rfl, hT, rfl, hx, hy⟩
    obtain ⟨z, hz1, rfl⟩ := strs_at hy
    have hx : some (V.int (i : Nat)) = some x := hx
    cases hx
    have hi14 : i < 14 := by
      have q := (List.getElem?_eq_some_iff.mp hz1).1
      omega
    obtain ⟨hzl, hst, hnum⟩ := hz z (List.mem_of_getElem? hz1)
    have hd : zs.drop i = z :: zs.drop (i + 1) := by
      obtain ⟨h1, h2⟩ := List.getElem?_eq_some_iff.mp hz1
      rw [List.drop_eq_getElem_cons h1, h2]
    rw [hd] at er
    have er : rrun 0 ([], []) zs = if rbad st z = true then none else rrun (i + 1) (rnew i st z) (zs.drop (i + 1)) := er
    have sT : Same H (upd H1 T (.tup [.int (i : Nat), .str z])) := s1.trans (Same.new hT)
    have dT1 : (upd H1 T (.tup [.int (i : Nat), .str z])) D1 = some (.dK (mk st.1)) := Same.new hT _ _ d1
    have dT2 : (upd H1 T (.tup [.int (i : Nat), .str z])) D2 = some (.dK (cntK st.2)) := Same.new hT _ _ d2
    refine ⟨T, [.int (i : Nat), .str z], rfl, .inl (.inl upd_same), rfl, _, _, rfl, _, _, rfl, rfl, ?_⟩
    generalize upd H1 T (.tup [.int (i : Nat), .str z]) = H2 at sT dT1 dT2 ⊢
    clear s1 d1 d2 hT hy
    refine ⟨_, rfl, ⟨z, rfl⟩, z, " ", rfl, rfl, rfl, hzl, fun p hp => ?_⟩
    have s3 : Same H (upd H2 p (.lst ((Txt.split z " ").map V.str))) := sT.trans (Same.new hp)
    have d31 := Same.new (o := .lst ((Txt.split z " ").map V.str)) hp _ _ dT1
    have d32 := Same.new (o := .lst ((Txt.split z " ").map V.str)) hp _ _ dT2
    have e3 : (upd H2 p (.lst ((Txt.split z " ").map V.str))) p = some (.lst ((Txt.split z " ").map V.str)) := upd_same
    generalize upd H2 p (.lst ((Txt.split z " ").map V.str)) = H3 at s3 d31 d32 e3 ⊢
    clear sT dT1 dT2 hp
    dsimp only [gName]
    have bad : rbad st z = true → ∀ H', Same H H' → Q (.bl false) H' := fun hb H' s' => by
      have q := k H' s'
      unfold goR at q
      rw [er, if_pos hb] at q
      exact q
    -- a check
    refine seq_first (fun σ H4 => σ = [some (.ref a), some (.ref D1), some (.ref D2), some (.int (i : Nat)), some (.str z), some (.ref p)] ∧ Same H H4 ∧ H4 D1 = some (.dK (mk st.1)) ∧ H4 D2 = some (.dK (cntK st.2)) ∧ H4 p = some (.lst ((Txt.split z " ").map V.str)) ∧ (isChk z && !cmpR (numsS z) st.2) = false) ?r1 fun r1 => ?t1
    case t1 =>
      refine ⟨_, rfl, p, _, 0, .str (hw z), rfl, rfl, SqL.of e3, at_hw z, bC, _, rfl, .inr (CM.tu _), rfl, flat_strs CMP, _, rfl, ?_⟩
      show if isChk z = true then _ else _
      refine ite3 (fun hc1 => ?_) (fun hc1 => r1 _ _ ⟨rfl, s3, d31, d32, e3, by rw [hc1]; rfl⟩)
      obtain ⟨q1, q2⟩ := chk_nums hst hc1
      refine ⟨_, rfl, z, rfl, hzl, hnum, fun L H4 s4 n4 e4 => ⟨_, rfl, L, D2, numsS z, st.2, rfl, SqL.of e4, s4 _ _ d32, q2, q1, fun H5 s5 => ⟨_, rfl, ?_⟩⟩⟩
      have s35 := s4.trans s5
      cases hcm : cmpR (numsS z) st.2 with
      | false =>
        refine ifT rfl (bad ?_ _ (s3.trans s35))
        unfold rbad
        rw [hc1, hcm]
        rfl
      | true => exact ifF rfl (r1 _ _ ⟨rfl, s3.trans s35, s35 _ _ d31, s35 _ _ d32, s35 _ _ e3, by rw [hcm, Bool.not_true, Bool.and_false]⟩)
    clear s3 d31 d32 e3
    rintro σ H4 ⟨rfl, s4, d41, d42, e4, c1⟩
    -- read
    refine seq_first (fun σ H5 => σ = [some (.ref a), some (.ref D1), some (.ref D2), some (.int (i : Nat)), some (.str z), some (.ref p)] ∧ Same H H5 ∧ H5 D1 = some (.dK (mk st.1)) ∧ H5 D2 = some (.dK (cntK st.2)) ∧ H5 p = some (.lst ((Txt.split z " ").map V.str)) ∧ (decide (V.str (hw z) = V.str "read") && decide (wd z 1 ∈ st.1)) = false) ?r2 fun r2 => ?t2
    case t2 =>
      refine ⟨_, rfl, p, _, 0, .str (hw z), rfl, rfl, SqL.of e4, at_hw z, rfl, _, rfl, ?_⟩
      refine ite3 (fun h => ?_) (fun h => r2 _ _ ⟨rfl, s4, d41, d42, e4, by rw [h]; rfl⟩)
      have hl := len_of hst (vstr h) (rs := ["slot"]) (by decide +kernel)
      refine ⟨_, rfl, p, _, 1, .str (wd z 1), rfl, rfl, SqL.of e4, at_wd (i := 1) (by rw [hl]; decide), _, rfl, D1, _, rfl, DGet.k (k := Sum.inr (wd z 1)) d41, _, rfl, ?_⟩
      rw [val_mk]
      refine ite3 (fun h2 => ?_) (fun h2 => r2 _ _ ⟨rfl, s4, d41, d42, e4, by rw [h2, Bool.and_false]⟩)
      refine bad ?_ _ s4
      unfold rbad
      rw [h, h2, Bool.true_and, Bool.true_or, Bool.or_true]
    clear s4 d41 d42 e4
    rintro σ H4 ⟨rfl, s4, d41, d42, e4, c2⟩
    -- use, look
    refine seq_first (fun σ H5 => σ = [some (.ref a), some (.ref D1), some (.ref D2), some (.int (i : Nat)), some (.str z), some (.ref p)] ∧ Same H H5 ∧ H5 D1 = some (.dK (mk st.1)) ∧ H5 D2 = some (.dK (cntK st.2)) ∧ H5 p = some (.lst ((Txt.split z " ").map V.str)) ∧ (inV (.str (hw z)) [.str "use", .str "look"] && !decide (wd z 1 ∈ st.1)) = false) ?r3 fun r3 => ?t3
    case t3 =>
      refine ⟨_, rfl, p, _, 0, .str (hw z), rfl, rfl, SqL.of e4, at_hw z, (by show 2 ≤ sizeLine; decide), fun U hU => ?_⟩
      have s5 := Same.new (o := .tup [.str "use", .str "look"]) hU
      refine ⟨U, _, rfl, .inr (.inl (.inl upd_same)), rfl, rfl, _, rfl, ?_⟩
      generalize upd H4 U (.tup [.str "use", .str "look"]) = H5 at s5 ⊢
      show if inV (.str (hw z)) [.str "use", .str "look"] = true then _ else _
      refine ite3 (fun h => ?_) (fun h => r3 _ _ ⟨rfl, s4.trans s5, s5 _ _ d41, s5 _ _ d42, s5 _ _ e4, by rw [h]; rfl⟩)
      have hl : 1 < (Txt.split z " ").length := by
        rcases in2 h with q | q
        · rw [len_of hst q (rs := ["slot", "part"]) (by decide +kernel)]
          decide
        · rw [len_of hst q (rs := ["slot"]) (by decide +kernel)]
          decide
      refine ⟨_, rfl, p, _, 1, .str (wd z 1), rfl, rfl, SqL.of (s5 _ _ e4), at_wd (i := 1) hl, _, rfl, D1, _, rfl, DGet.k (k := Sum.inr (wd z 1)) (s5 _ _ d41), _, rfl, ?_⟩
      rw [val_mk]
      refine ite3 (fun h2 => ?_) (fun h2 => r3 _ _ ⟨rfl, s4.trans s5, s5 _ _ d41, s5 _ _ d42, s5 _ _ e4, by rw [h2, Bool.and_false]⟩)
      refine bad ?_ _ (s4.trans s5)
      unfold rbad
      rw [h, h2, Bool.true_and, Bool.true_or, Bool.or_true, Bool.or_true]
    clear s4 d41 d42 e4
    rintro σ H4 ⟨rfl, s4, d41, d42, e4, c3⟩
    -- mark
    refine seq_first (fun σ H5 => σ = [some (.ref a), some (.ref D1), some (.ref D2), some (.int (i : Nat)), some (.str z), some (.ref p)] ∧ Same H H5 ∧ H5 D1 = some (.dK (mk st.1)) ∧ H5 D2 = some (.dK (cntK st.2)) ∧ H5 p = some (.lst ((Txt.split z " ").map V.str)) ∧ (decide (V.str (hw z) = V.str "mark") && !decide (wd z 2 ∈ st.1)) = false) ?r4 fun r4 => ?t4
    case t4 =>
      refine ⟨_, rfl, p, _, 0, .str (hw z), rfl, rfl, SqL.of e4, at_hw z, rfl, _, rfl, ?_⟩
      refine ite3 (fun h => ?_) (fun h => r4 _ _ ⟨rfl, s4, d41, d42, e4, by rw [h]; rfl⟩)
      have hl := len_of hst (vstr h) (rs := ["mark", "slot"]) (by decide +kernel)
      refine ⟨_, rfl, p, _, 2, .str (wd z 2), rfl, rfl, SqL.of e4, at_wd (i := 2) (by rw [hl]; decide), _, rfl, D1, _, rfl, DGet.k (k := Sum.inr (wd z 2)) d41, _, rfl, ?_⟩
      rw [val_mk]
      refine ite3 (fun h2 => ?_) (fun h2 => r4 _ _ ⟨rfl, s4, d41, d42, e4, by rw [h2, Bool.and_false]⟩)
      refine bad ?_ _ s4
      unfold rbad
      rw [h, h2, Bool.true_and, Bool.or_true, Bool.or_true, Bool.or_true]
    clear s4 d41 d42 e4
    rintro σ H4 ⟨rfl, s4, d41, d42, e4, c4⟩
    have ok : rbad st z = false := by
      unfold rbad
      rw [c1, c2, c3, c4]
      rfl
    rw [if_neg (by rw [ok]; exact Bool.false_ne_true)] at er
    clear bad c1 c2 c3 c4
    -- was_read
    refine seq_first (fun σ H5 => σ = [some (.ref a), some (.ref D1), some (.ref D2), some (.int (i : Nat)), some (.str z), some (.ref p)] ∧ Same H H5 ∧ H5 D1 = some (.dK (mk (rnew i st z).1)) ∧ H5 D2 = some (.dK (cntK st.2)) ∧ H5 p = some (.lst ((Txt.split z " ").map V.str))) ?r5 fun r5 => ?t5
    case t5 =>
      refine ⟨_, rfl, p, _, 0, .str (hw z), rfl, rfl, SqL.of e4, at_hw z, rfl, _, rfl, ?_⟩
      refine ite3 (fun h => ?_) (fun h => r5 _ _ ⟨rfl, s4, by unfold rnew; rw [if_neg (by rw [h]; exact Bool.false_ne_true)]; exact d41, d42, e4⟩)
      have hl := len_of hst (vstr h) (rs := ["slot"]) (by decide +kernel)
      refine ⟨_, rfl, _, rfl, p, _, 1, .str (wd z 1), rfl, rfl, SqL.of e4, at_wd (i := 1) (by rw [hl]; decide), D1, _, rfl, DPut.k (k := Sum.inr (wd z 1)) d41 (by rw [mk_len]; exact small1000 (by omega)), ?_⟩
      have n1p : p ≠ D1 := fun e => by
        rw [e, d41] at e4
        cases e4
      have n0 : H D1 = none := hD1
      refine r5 _ _ ⟨rfl, fun b o h => ?_, ?_, ?_, ?_⟩
      · rw [upd_ne (ne_of_none h hD1)]
        exact s4 _ _ h
      · rw [upd_same, put_mk]
        unfold rnew
        rw [if_pos h]
      · rw [upd_ne n12.symm]
        exact d42
      · rw [upd_ne n1p]
        exact e4
    clear s4 d41 d42 e4
    rintro σ H4 ⟨rfl, s4, d41, d42, e4⟩
    -- counters
    have hD2' : H D2 = none := by rw [upd_ne n12.symm] at hD2; exact hD2
    have la : (rnew i st z).1.length ≤ i + 1 := by
      unfold rnew
      dsimp only
      split
      · exact Nat.le_trans (add_len _ _) (by omega)
      · omega
    refine ⟨_, rfl, p, _, 0, .str (hw z), rfl, rfl, SqL.of e4, at_hw z, rfl, _, rfl, ?_⟩
    refine ite3 (fun h => ?_) (fun h => ?_)
    · have hl := len_of hst (vstr h) (rs := ["counter"]) (by decide +kernel)
      refine ⟨_, rfl, p, _, 1, .str (wd z 1), rfl, rfl, SqL.of e4, at_wd (i := 1) (by rw [hl]; decide), _, rfl, _, rfl, D2, _, rfl, DPut.k (k := Sum.inl (i : Int)) d42 (by unfold cntK; rw [List.length_map]; exact small1000 (by omega)), ?_⟩
      have e2 : (rnew i st z).2 = st.2 ++ [(i, wd z 1)] := by
        unfold rnew
        rw [if_pos h]
      refine ⟨_, _, _, rnew i st z, rfl, fun b o h => ?_, ?_, ?_, er, fun c hcm => ?_, la, ?_⟩
      · rw [upd_ne (ne_of_none h hD2')]
        exact s4 _ _ h
      · rw [upd_ne n12]
        exact d41
      · rw [upd_same, put_cnt hc, e2]
      · rw [e2] at hcm
        rcases List.mem_append.mp hcm with q | q
        · have := hc c q
          omega
        · rw [List.mem_singleton.mp q]
          show i < i + 1
          omega
      · rw [e2, List.length_append]
        show st.2.length + 1 ≤ i + 1
        omega
    · have e2 : (rnew i st z).2 = st.2 := by
        show (if decide (V.str (hw z) = V.str "num") = true then st.2 ++ [(i, wd z 1)] else st.2) = st.2
        rw [if_neg (by rw [h]; exact Bool.false_ne_true)]
      refine ⟨_, _, _, rnew i st z, rfl, s4, d41, by rw [e2]; exact d42, er, fun c hcm => ?_, la, by rw [e2]; omega⟩
      rw [e2] at hcm
      have := hc c hcm
      omega
  · rintro σ H1 ⟨t, u, v, st, rfl, s1, d1, d2, er, hc, l1, l2⟩
    have hd : zs.drop (zs.map V.str).length = [] := by rw [List.length_map]; exact List.drop_length
    rw [hd] at er
    have q := k H1 s1
    unfold goR at q
    rw [er] at q
    exact q
end
end My

set_option Elab.async false
set_option linter.all false
set_option maxRecDepth 100000
set_option maxHeartbeats 4000000
namespace My
open PySem L2
abbrev sScript : Stmt := top 28
theorem sgn_dig {c : Nat} (h : sgn DIG c = true) : 48 ≤ c ∧ c ≤ 57 := by
  have q : sgn DIG c = decide (c ∈ DIG.cps.toList) := StrLaws.found_one DIG c
  rw [q] at h
  have m := of_decide_eq_true h
  have a : DIG.cps.toList.all (fun c => decide (48 ≤ c) && decide (c ≤ 57)) = true := by decide +kernel
  have z := List.all_eq_true.mp a c m
  simp only [Bool.and_eq_true, decide_eq_true_eq] at z
  exact z
theorem dg_num {w : Str} (h : dgS w = true) : PySem.intText? w = some (valS w) ∧ w.length ≤ 640 ∧ 0 ≤ valS w := by
  unfold dgS at h
  have h1 := Bool.and_eq_true_iff.mp h
  have h2 := Bool.and_eq_true_iff.mp h1.2
  have h3 := Bool.and_eq_true_iff.mp h2.2
  have l1 := of_decide_eq_true h1.1
  have l4 := of_decide_eq_true h2.1
  have ad : NumText.AllDigits w.cps.toList := fun c hc => sgn_dig (by
    have q := List.all_eq_true.mp h3.1 _ (List.mem_map_of_mem hc)
    exact q)
  have hne : w.cps.toList ≠ [] := fun z => by
    have q : w.cps.toList.length = w.length := Array.length_toList
    rw [z] at q
    simp at q
    omega
  have e := PySem.intText_digits ad hne (by omega)
  unfold valS
  rw [e]
  exact ⟨rfl, by omega, by simp⟩
theorem num_ok {z : Str} (h : stepS z = true) : NumOk z := fun hc => by
  have hs : formS (Txt.split z " ") (formOf (hw z)) = true := h
  obtain ⟨rs, hf, hl⟩ : ∃ rs : List Str, formOf (hw z) = some rs ∧ (rs = (["number", "number"] : List Str) ∨ rs = (["number"] : List Str)) := by
    rcases in2 hc with q | q
    · exact ⟨["number", "number"], by rw [q]; decide +kernel, .inl rfl⟩
    · exact ⟨["number"], by rw [q]; decide +kernel, .inr rfl⟩
  rw [hf, formS_some] at hs
  have h1 := Bool.and_eq_true_iff.mp hs
  have el := of_decide_eq_true h1.1
  have hnum : ∀ r ∈ rs, r = "number" := fun r hr => by
    rcases hl with q | q <;> rw [q] at hr <;> simp at hr <;> exact hr
  have hlen : ((Txt.split z " ").drop 1).length = rs.length := by
    rw [List.length_drop]
    omega
  refine ⟨fun w hw => ?_, ?_⟩
  · obtain ⟨i, hi, rfl⟩ := List.getElem_of_mem hw
    have hir : i < rs.length := by omega
    have hm : (((Txt.split z " ").drop 1)[i], rs[i]) ∈ ((Txt.split z " ").drop 1).zip rs := by
      refine List.mem_of_getElem? (i := i) ?_
      exact List.getElem?_zip_eq_some.mpr ⟨List.getElem?_eq_getElem hi, List.getElem?_eq_getElem hir⟩
    have q := List.all_eq_true.mp h1.2 _ (List.mem_map_of_mem (f := fun p : Str × Str => fitS p.1 p.2) hm)
    have q : fitS ((Txt.split z " ").drop 1)[i] rs[i] = true := q
    have er : rs[i] = "number" := hnum _ (List.getElem_mem hir)
    rw [er] at q
    have e2 : fitS ((Txt.split z " ").drop 1)[i] "number" = dgS ((Txt.split z " ").drop 1)[i] := by
      unfold fitS
      rw [if_pos (decide_eq_true rfl)]
    rw [e2] at q
    exact ⟨(dg_num q).1, (dg_num q).2.1⟩
  · have : rs.length ≤ 2 := by rcases hl with q | q <;> rw [q] <;> decide
    omega
def scriptS (xs : List V) : Bool := decide ((0 : Int) < xs.length) && ((xs.map stepV).all id && goR (txts xs))
/-- what a value is as a script: no list and no tuple, or one of some values -/
inductive ScX (K : PySem.W.Frag) (H : Hp) : V → Bool → List V → Prop
  | no {x : V} {s i b : Bool} (h : KndS K H x s i b false false) : ScX K H x false []
  | seq {a : Addr} {xs : List V} {s i b l t : Bool} (h : KndS K H (.ref a) s i b l t) (hl : (l || t) = true) (q : SqA K H a xs) (hx : ∀ x ∈ xs, ItOk K H x) (hn : xs.length ≤ 14) : ScX K H (.ref a) (scriptS xs) xs
/-- is_reader_script(texts) -/
def spScript (K : PySem.W.Frag) : Sp := fun vs H Q _ => ∃ (x : V) (r : Bool) (xs : List V), vs = [x] ∧ ScX K H x r xs ∧ ∀ H', Same H H' → Q (.bl r) H'
section
variable {P : Program} {w : World} {K : PySem.W.Frag} {mg : Str → Option Value} {base : Heap}
theorem txts_len : ∀ xs : List V, (txts xs).length ≤ xs.length
  | [] => Nat.le_refl _
  | .str z :: r => Nat.succ_le_succ (txts_len r)
  | .non :: r => Nat.le_succ_of_le (txts_len r)
  | .bl _ :: r => Nat.le_succ_of_le (txts_len r)
  | .int _ :: r => Nat.le_succ_of_le (txts_len r)
  | .ref _ :: r => Nat.le_succ_of_le (txts_len r)
  | .ty _ :: r => Nat.le_succ_of_le (txts_len r)
  | .byt _ :: r => Nat.le_succ_of_le (txts_len r)
  | .flt _ :: r => Nat.le_succ_of_le (txts_len r)
theorem scScript : FnScope ["texts", "text"] ["texts"] (defScope sScript) := ⟨rfl, rfl, rfl, by decide +kernel, rfl, by decide +kernel, by decide +kernel⟩
theorem ok_script {f fQ fS fG : Addr} {fd fdQ fdS fdG : FuncData} (F : Fun K "is_reader_script" "is_reader_script" sScript f fd) (B : Bl mg)
    (GQ : FnOk P w K mg base CX0 1 fQ fdQ ["value"] (spSeq K)) (bQ : Binds K fdQ ["value"] []) (kQ : PySem.W.keepIn K (.ref fQ) = true) (mQ : mg "is_sequence" = some (.ref fQ))
    (GS : FnOk P w K mg base CX0 4 fS fdS ["text"] (spStep K)) (bS : Binds K fdS ["text"] []) (kS : PySem.W.keepIn K (.ref fS) = true) (mS : mg "is_reader_step" = some (.ref fS))
    (GG : FnOk P w K mg base CX0 2 fG fdG ["texts"] (spSg K)) (bG : Binds K fdG ["texts"] []) (kG : PySem.W.keepIn K (.ref fG) = true) (mG : mg "steps_go_right" = some (.ref fG)) :
    FnOk P w K mg base CX0 5 f fd ["texts"] (spScript K) := by
  refine F.ok scScript (fun vs H Q E h => ?_) (fun cdv A outer s H vs Q E hr h => ?_)
  · obtain ⟨x, _, _, rfl, _⟩ := h
    rfl
  obtain ⟨x, r, xs, rfl, sc, k⟩ := h
  have hr1 : Room 1 _ := hr.mono (by omega)
  have hr2 : Room 2 _ := hr.mono (by omega)
  refine ⟨_, pss_one (ps_ret (pe_and (pe_call GQ hr1 rfl mQ kQ bQ .nil pass0 (pa_cons (pv 0) pa_nil))
    (pe_and (pe_cmpR op_gt (pe_callB call_len_seq rfl B.len (by decide +kernel) (pa_cons (pv 0) pa_nil)) pe_int (nomark _))
    (pe_and (pe_callB (cr_all rfl) rfl B.all (by decide +kernel) (pa_cons (pe_lc (own := [("text", 1)]) (g := gName 1) (tt := tYes) rfl scScript.nd (pi_lt (pv 0))
        (blkOk_by (own := [("text", 1)]) (N := ["texts", "text"]) (sc := defScope sScript) (by decide +kernel)) (fun _ _ _ _ _ => pg_name (i := 1) scScript.nd rfl (Or.inl rfl)) (fun _ _ _ _ _ => pts_nil)
        (fun _ _ _ _ _ => pe_call GS hr rfl mS kS bS .nil pass0 (pa_cons (pv 1) pa_nil))) pa_nil))
    (pe_one (pe_call GG hr2 rfl mG kG bG .nil pass0 (pa_cons (pv 0) pa_nil))))))), ?_⟩
  cases sc with
  | @no x s i b h =>
    refine ⟨_, rfl, x, s, i, b, false, false, rfl, h, fun H1 s1 => ?_⟩
    refine ⟨_, rfl, ?_⟩
    exact k H1 s1
  | @seq a xs s i b l t h hl q hx hn =>
    refine ⟨_, rfl, .ref a, s, i, b, l, t, rfl, h, fun H1 s1 => ?_⟩
    refine ⟨_, rfl, ?_⟩
    refine ifT hl ?_
    refine ⟨_, rfl, a, xs, rfl, SqA.keep q s1, ?_⟩
    refine ⟨_, _, rfl, rfl, _, rfl, ?_⟩
    by_cases h0 : (0 : Int) < xs.length
    · refine ifT (decide_eq_true h0) ?_
      refine cbA (rd_steps (K := K) (i := 0) (j := 1) (σ := [some (.ref a), none]) rfl (by show 1 < 2; decide) (SqA.keep q s1) (Nat.le_trans hn (by decide)) (fun x hxx => ItOk.keep (hx x hxx) s1) fun L H2 s2 a2 => ?_)
      refine ⟨L, _, rfl, SqL.of a2, _, rfl, ?_⟩
      have e : scriptS xs = ((xs.map stepV).all id && goR (txts xs)) := by
        unfold scriptS
        rw [decide_eq_true h0, Bool.true_and]
      rw [e] at k
      cases hs : (xs.map stepV).all id with
      | false =>
        rw [hs] at k
        refine ifF rfl ?_
        exact k H2 (s1.trans s2)
      | true =>
        rw [hs] at k
        refine ifT rfl ?_
        refine ⟨_, rfl, a, txts xs, rfl, ?_, fun z hz => ?_, Nat.le_trans (txts_len xs) hn, fun H3 s3 => ?_⟩
        · rw [← txts_map xs hs]
          exact SqA.keep q (s1.trans s2)
        · have hm : V.str z ∈ xs := by
            rw [txts_map xs hs]
            exact List.mem_map_of_mem hz
          have hst : stepS z = true := List.all_eq_true.mp hs (stepV (.str z)) (List.mem_map_of_mem hm)
          exact ⟨((hx _ hm).2 z rfl).1, hst, num_ok hst⟩
        · exact k H3 ((s1.trans s2).trans s3)
    · refine ifF (decide_eq_false h0) ?_
      have e : scriptS xs = false := by
        unfold scriptS
        rw [decide_eq_false h0, Bool.false_and]
      rw [← e]
      exact k H1 s1
end
end My

set_option Elab.async false
set_option linter.all false
set_option maxRecDepth 100000
set_option maxHeartbeats 2000000
namespace My
open PySem L2

abbrev sMv : Stmt := top 30
abbrev NMv : List Str := ["text", "at", "by", "numbers", "moved", "number"]
theorem scMv : FnScope ["text", "at", "by", "numbers", "moved", "number"] ["text", "at", "by"] (defScope sMv) := ⟨rfl, rfl, rfl, by decide +kernel, rfl, by decide +kernel, by decide +kernel⟩
def mvN (at_ by_ n : Int) : Int := if decide (at_ ≤ n) = true then n + by_ else n
def mvW (at_ by_ n : Int) : Str := Str.ofString (toString (mvN at_ by_ n))
/-- a text whose numbers go along -/
def mvT (z : Str) (at_ by_ : Int) : Str := if numsS z = [] then z else Txt.join " " (hw z :: (numsS z).map (mvW at_ by_))
/-- moved_text(text, at, by) -/
def spMv : Sp := fun vs H Q _ => ∃ (z : Str) (at_ by_ : Int), vs = [.str z, .int at_, .int by_] ∧ StepOk z ∧ z.length ≤ 1000 ∧ (∀ n ∈ numsS z, 0 ≤ n ∧ n ≤ 100000) ∧ -1 ≤ by_ ∧ by_ ≤ 1 ∧ ∀ H', Same H H' → Q (.str (mvT z at_ by_)) H'
theorem mvN_small {a b n : Int} (h : 0 ≤ n ∧ n ≤ 100000) (h1 : -1 ≤ b) (h2 : b ≤ 1) : -1 ≤ mvN a b n ∧ mvN a b n ≤ 100001 := by
  unfold mvN
  split <;> omega
theorem log_small {i : Int} (h1 : -1 ≤ i) (h2 : i ≤ 100001) : i.natAbs.log2 < 1920 := by
  by_cases z : i.natAbs = 0
  · rw [z]
    decide
  · have hz : i.natAbs < 2 ^ 24 := by
      have : i.natAbs ≤ 100001 := by omega
      exact Nat.lt_of_le_of_lt this (by decide)
    exact Nat.lt_trans ((Nat.log2_lt z).mpr hz) (by decide)
theorem text_small {i : Int} (h1 : -1 ≤ i) (h2 : i ≤ 100001) : (Str.ofString (toString i)).length ≤ 8 := by
  rw [PySem.ofString_length]
  exact PySem.int_text_length_le10 (k := 7) (by decide) (by omega)
theorem mv_sum {a b : Int} (h1 : -1 ≤ b) (h2 : b ≤ 1) : ∀ ns : List Int, (∀ n ∈ ns, 0 ≤ n ∧ n ≤ 100000) → (((ns.map (mvW a b)).map (·.length)).sum ≤ 8 * ns.length)
  | [], _ => Nat.le_refl _
  | n :: r, h => by
    have ih := mv_sum (a := a) h1 h2 r fun m hm => h m (List.mem_cons_of_mem _ hm)
    obtain ⟨q1, q2⟩ := mvN_small (a := a) (h n List.mem_cons_self) h1 h2
    have q : (mvW a b n).length ≤ 8 := text_small q1 q2
    simp only [List.map_cons, List.sum_cons, List.length_cons]
    omega
theorem hw_le (z : Str) : (hw z).length ≤ z.length := by
  obtain ⟨w0, wr, ew⟩ := split_ne z " "
  have e : hw z = w0 := by
    unfold hw
    rw [ew]
    rfl
  rw [e]
  exact split_le (y := " ") (by rw [ew]; exact List.mem_cons_self)
theorem ge_le (i j : Int) : decide (i ≥ j) = decide (j ≤ i) := rfl
section
variable {P : Program} {w : World} {K : PySem.W.Frag} {mg : Str → Option Value} {base : Heap}
theorem ok_mv {f fNc : Addr} {fd fdNc : FuncData} (F : Fun K "moved_text" "moved_text" sMv f fd) (z_str : mg "str" = none)
    (GNc : FnOk P w K mg base CX0 1 fNc fdNc ["text"] (spNc K)) (bNc : Binds K fdNc ["text"] []) (kNc : PySem.W.keepIn K (.ref fNc) = true) (mNc : mg "numbers_in_check" = some (.ref fNc)) :
    FnOk P w K mg base CX0 2 f fd ["text", "at", "by"] spMv := by
  refine F.ok scMv (fun vs H Q E h => ?_) (fun cdv A outer s H vs Q E hr h => ?_)
  · obtain ⟨_, _, _, rfl, _⟩ := h
    rfl
  obtain ⟨z, at_, by_, rfl, hz, hl, hn, hb1, hb2, k⟩ := h
  refine ⟨_, (pss_cons (ps_set (i := 3) scMv.nd rfl (.inl rfl) (pe_call GNc (hr.mono (by decide)) rfl mNc kNc bNc .nil pass0 (pa_cons (pv 0) pa_nil)))
  (pss_cons (ps_if (pt_cmpR (op_eqD hr.units) (pv 3) (pe_lst pa_nil) (nomark _)) (pss_one (ps_ret (pv 0))) pss_nil)
  (pss_cons (ps_setLc (i := 4) (own := [("number", 5)]) (g := gName 5) (tt := tYes) rfl scMv.nd rfl rfl (sw_true rfl rfl rfl (by decide +kernel)) (pi_list (pv 3)) (blkOk_by (own := [("number", 5)]) (N := NMv) (sc := defScope sMv) (by decide +kernel)) (fun _ _ _ _ _ => (pg_name (i := 5) scMv.nd rfl (Or.inl rfl))) (fun _ _ _ _ _ => pts_nil) (fun _ _ _ _ _ => (pe_callTy call_str_int rfl z_str (by decide +kernel) (pa_cons (pe_ifExp (pt_cmpR op_ge (pv 5) (pv 1) (nomark _)) (pe_op op_add (pv 5) (pv 2)) (pv 5)) pa_nil))))
  (pss_one (ps_ret (pe_join pe_str (pe_lst (pa_cons (pe_ix ix_list (pe_split (pv 0) pe_str) pe_int (fun _ _ => rfl)) (StX.pa_star (pv 4) pa_nil))))))))), ?_⟩
  refine ⟨_, rfl, z, rfl, hz.1, hz.2.2, fun L H1 s1 n1 e1 => ?_⟩
  refine ⟨_, rfl, (by show 0 ≤ sizeLine; decide), fun p hp => ?_⟩
  have s2 : Same H (upd H1 p (.lst [])) := s1.trans (Same.new hp)
  have e2 := Same.new (o := .lst []) hp _ _ e1
  have ep : (upd H1 p (.lst [])) p = some (.lst []) := upd_same
  generalize upd H1 p (.lst []) = H2 at s2 e2 ep ⊢
  refine ⟨.list ((numsS z).map PyData.int), .list (([] : List Int).map PyData.int), Dp.lst (SqL.of e2) (dp_ints _), Dp.lst (SqL.of ep) .nil, PySem.W.ke_shaped_ints _, PySem.W.ke_shaped_ints [], _, rfl, ?_⟩
  rw [eqv_ints]
  refine ite3 (fun h => ?_) (fun h => ?_)
  · have e : mvT z at_ by_ = z := by
      unfold mvT
      rw [if_pos (of_decide_eq_true h)]
    have q := k _ s2
    rw [e] at q
    exact ⟨_, rfl, q⟩
  have hne : numsS z ≠ [] := of_decide_eq_false h
  have hc : isChk z = true := by
    cases hq : isChk z with
    | true => rfl
    | false =>
      refine absurd ?_ hne
      unfold numsS
      rw [hq]
      rfl
  have h10 := (chk_nums hz.2.1 hc).2
  refine ⟨_, rfl, L, rfl, ⟨_, SqL.of e2⟩, fun D hD => ?_⟩
  refine lc_s (walk_list (K := K) (a := L)) (fun x => match x with | .int n => some (.str (mvW at_ by_ n)) | _ => none) hD (by rw [List.length_map]; exact Nat.lt_of_le_of_lt (show _ ≤ 1000 by omega) (by decide)) (fun H' s => SqL.of (s _ _ e2)) ?_ ?_
  · intro x H3 hx s3 OK NO ok no
    obtain ⟨n, hnm, rfl⟩ := List.mem_map.mp hx
    obtain ⟨q1, q2⟩ := mvN_small (a := at_) (hn n hnm) hb1 hb2
    refine ⟨rfl, _, rfl, _, rfl, _, _, rfl, rfl, _, rfl, ?_⟩
    have fin := ok (.str (mvW at_ by_ n)) H3 (fun _ _ e => e) rfl
    unfold mvW at fin
    have em : mvN at_ by_ n = if decide (at_ ≤ n) = true then n + by_ else n := rfl
    refine ite3 (fun h => ?_) (fun h => ?_)
    · have e : mvN at_ by_ n = n + by_ := by rw [em]; exact if_pos h
      rw [e] at fin q1 q2
      exact ⟨_, rfl, _, rfl, _, _, rfl, rfl, _, rfl, log_small q1 q2, fin⟩
    · have e : mvN at_ by_ n = n := by rw [em]; exact if_neg (by rw [show decide (at_ ≤ n) = false from h]; exact Bool.false_ne_true)
      rw [e] at fin q1 q2
      exact ⟨_, rfl, _, rfl, log_small q1 q2, fin⟩
  · intro H3 s3 e3
    have key : ∀ ns : List Int, (ns.map V.int).filterMap (fun x => match x with | .int n => some (V.str (mvW at_ by_ n)) | _ => none) = (ns.map (mvW at_ by_)).map V.str := fun ns => by
      induction ns with
      | nil => rfl
      | cons x r ih =>
        rw [List.map_cons, List.filterMap_cons, ih]
        rfl
    rw [key] at e3
    have s4 := s2.trans s3
    refine ⟨⟨_, rfl⟩, _, rfl, ⟨z, rfl⟩, z, " ", rfl, rfl, rfl, hz.1, fun q hq => ?_⟩
    refine ⟨q, _, 0, .str (hw z), rfl, rfl, SqL.of upd_same, at_hw z, ?_⟩
    have e4 := Same.new (o := .lst ((Txt.split z " ").map V.str)) hq _ _ e3
    have s5 := s4.trans (Same.new (o := .lst ((Txt.split z " ").map V.str)) hq)
    refine ⟨_, rfl, D, _, rfl, .inr (SqL.of e4), ?_⟩
    have hs := mv_sum (a := at_) hb1 hb2 _ hn
    refine ⟨?_, fun R hR => ?_⟩
    · show (V.str (hw z) :: ((numsS z).map (mvW at_ by_)).map V.str ++ []).length ≤ sizeLine
      rw [List.append_nil, List.length_cons, List.length_map, List.length_map]
      exact Nat.le_trans (show _ ≤ 1000 by omega) (by decide)
    · refine ⟨" ", R, hw z :: (numsS z).map (mvW at_ by_), rfl, rfl, .inl (SqL.of ?_), ?_, ?_⟩
      · rw [upd_same, List.append_nil]
        rfl
      · have l1 : (" " : Str).length = 1 := by decide +kernel
        have hh := hw_le z
        simp only [List.map_cons, List.sum_cons, List.length_cons, List.length_map]
        rw [l1]
        omega
      · have e : mvT z at_ by_ = Txt.join " " (hw z :: (numsS z).map (mvW at_ by_)) := by
          unfold mvT
          rw [if_neg hne]
        rw [← e]
        exact k _ (s5.trans (Same.new hR))
end
end My

set_option Elab.async false
set_option maxRecDepth 100000
set_option maxHeartbeats 4000000
namespace My
open PySem PySem.Spec PyProof.Rows L2
section
variable {M : Model} {A : Around} {E : Value → Shared → Prop} {h : Heap} {g : Array GenState} {d : Drawn} {t : Nat} {os : OsState}
variable {nm q : Str} {C N : Addr} {bs bm bmB : List Value} {hdct : Bool} {sn : List Str} {sub : List Value} {ab : Bool} {col : Option Bool} {dd : Option Addr} {k0 k1 k2 k3 k5 : Option Value} {B nw iw : String}
theorem chk_new (F : ExcBaseFacts B nw iw bmB) (hB : bm.contains (.type B) = true) {rest : List Value} {kw : List (Str × Value)} {Q : Unit → Shared → Prop}
    (hC : h.get? C = some (excClassObj nm q C N bs bm hdct sn sub ab col dd k0 k1 k2 k3 k5 nw)) (hq : Q () ⟨h, g, d, t, os⟩) : wpAny M A (checkBuiltinCall nw ⟨.ref C :: rest, kw⟩) Q E ⟨h, g, d, t, os⟩ := by
  have z1 : (Value.ref C :: bm).contains (.type B) = true := by rw [List.contains_cons, hB, Bool.or_true]
  have z2 := F.noStar
  simp only [checkBuiltinCall, F.newKind, F.newSplit, F.newRow]
  repeat (first | refine wpAny_loadPart_at hC ?_ | (refine wpAny_isSubtype_exc hC ?_; rw [z1]) | refine wpAny_staticBase_exc hC ?_ | refine wpAny_madeBy_exc hC ?_ | simp only [bne_self_eq_false, Bool.false_eq_true, if_false] | wp_step)
  exact hq
end
section
variable {prog : Program} {w : World} {A : Around} {E : Value → Shared → Prop} {R : Result → Shared → Prop} {h : Heap} {g : Array GenState} {d : Drawn} {t : Nat} {os : OsState}
variable {nm q : Str} {C N : Addr} {bs bm bmB : List Value} {hdct : Bool} {sn : List Str} {sub : List Value} {ab : Bool} {col : Option Bool} {dd : Option Addr} {k0 k1 k2 k3 k5 : Option Value} {B nw iw : String}
/-- what the class's line of bases says -/
structure XM (bm : List Value) (B : String) : Prop where
  b : bm.contains (.type B) = true
  a : bm.contains (.type "AttributeError") = false
  n : bm.contains (.type "NameError") = false
/-- the exception's object at birth -/
abbrev xob (C t : Addr) : Obj := { cls := .ref C, data := .fields #[.ref t, .none, .none, .none, .bool false, .none] }
abbrev xtp (rest : List Value) : Obj := { cls := .type "tuple", data := .seq rest.toArray }
theorem run_new (F : ExcBaseFacts B nw iw bmB) (Z : XM bm B) {rest : List Value} {kw : List (Str × Value)} (hC : h.get? C = some (excClassObj nm q C N bs bm hdct sn sub ab col dd k0 k1 k2 k3 k5 nw))
    (hz : rest.length ≤ sizeLine) (hq : R (.ok (.ret (.ref (h.objs.size + 1)))) ⟨(h.push (xtp rest)).push (xob C h.objs.size), g, d, t, os⟩) : codeAny (model prog w) A (.builtin nw ⟨.ref C :: rest, kw⟩) R ⟨h, g, d, t, os⟩ := by
  have z0 := F.ends
  have z1 : (Value.ref C :: bm).contains (.type B) = true := by rw [List.contains_cons, Z.b, Bool.or_true]
  have z2 : (Value.ref C :: bm).contains (.type "AttributeError") = false := by rw [List.contains_cons, Z.a]; rfl
  have z3 : (Value.ref C :: bm).contains (.type "NameError") = false := by rw [List.contains_cons, Z.n]; rfl
  refine codeAny_builtinAt F.entry (?_ : PySem.wpAt _ _ _ _ _ _ _)
  unfold Builtin.«BaseException.__new__»
  refine PySem.wpAt_bind (?_ : PySem.wpAt _ _ _ (stack >>= _) _ _ _)
  refine PySem.wpAt_bind (PySem.wpAt_stack fun _ _ => PySem.wpAt_of_wpAny ?_)
  wp_walk
  refine PySem.wpAt_of_wpAny ?_
  rw [F.owner]
  repeat (first | with_reducible refine wpAny_madeHere_exc F.canon hC ?_ | with_reducible refine wpAny_loadPart_at hC ?_ | (with_reducible refine wpAny_isSubtype_exc hC ?_; first | rw [z1] | rw [z2] | rw [z3]) | wp_step)
  show R _ _
  rw [Heap.size_push]
  exact hq
theorem run_type (F : ExcBaseFacts B nw iw bmB) (Z : XM bm B) {rest : List Value} {kw : List (Str × Value)} {fI : Addr} {Q : Fin → Shared → Prop} (hC : h.get? C = some (excClassObj nm q C N bs bm hdct sn sub ab col dd k0 k1 k2 k3 k5 nw))
    (hi : PySem.W.Looks (model prog w) h (typeLookup (.ref C) "__init__") (some (.ref fI))) (hb : ∀ self, PySem.W.Looks (model prog w) h (bindSpecial (.ref fI) self) (.ref fI, [self])) (hz : rest.length ≤ sizeLine)
    (hq : codeAny (model prog w) A (.call (.ref fI) ⟨.ref (h.objs.size + 1) :: rest, kw⟩) (fun r s' => match r with | .ok (.ret v) => v = .none ∧ Q (.done (.ret (.ref (h.objs.size + 1)))) s' | .ok _ => False | .error e => E e s') ⟨(h.push (xtp rest)).push (xob C h.objs.size), g, d, t, os⟩) :
    wpAny (model prog w) A (Builtin.«type.__call__» ⟨.ref C :: rest, kw⟩) Q E ⟨h, g, d, t, os⟩ := by
  repeat (first | with_reducible refine wpAny_loadPart_at hC ?_ | with_reducible refine wpAny_madeBy_exc hC ?_ | wp_step)
  refine codeAny_call_builtin_code (Code.quiet_builtin _ F.quiet) (chk_new F Z.b hC (run_new F Z hC hz (?_ : wpAny _ _ _ _ _ _)))
  have kp : ∀ b o, h.get? b = some o → ((h.push (xtp rest)).push (xob C h.objs.size)).get? b = some o := fun b o e => Heap.get?_push_of_some _ (Heap.get?_push_of_some _ e)
  have c1 := kp _ _ hC
  have e1 : ((h.push (xtp rest)).push (xob C h.objs.size)).get? (h.objs.size + 1) = some (xob C h.objs.size) := by heap_get
  have z4 : (Value.ref C :: bm).contains (.ref C) = true := by simp
  have i1 := hi.keeps kp
  have b1 := (hb (.ref (h.objs.size + 1))).keeps kp
  unfold isInstance
  repeat (first | with_reducible refine wpAny_loadPart_at e1 ?_ | (with_reducible refine wpAny_isSubtype_exc c1 ?_; rw [z4]) | wp_step)
  refine (?_ : wpAny _ _ (typeLookup (.ref C) _) _ _ _)
  refine i1.at (wpAny_holding (wpAny_bind (b1.at (wpAny_bind (wpAny_call (codeAny_mono hq fun r s' z => ?_))))))
  rcases r with e | (v | _ | _ | _) <;> first | exact z | exact z.elim | skip
  obtain ⟨rfl, z⟩ := z
  first | exact wpAny_pure (wpAny_pure z) | (wp_walk; exact z)
theorem run_call (F : ExcBaseFacts B nw iw bmB) (Z : XM bm B) {rest : List Value} {kw : List (Str × Value)} {fI : Addr} (hC : h.get? C = some (excClassObj nm q C N bs bm hdct sn sub ab col dd k0 k1 k2 k3 k5 nw))
    (hi : PySem.W.Looks (model prog w) h (typeLookup (.ref C) "__init__") (some (.ref fI))) (hb : ∀ self, PySem.W.Looks (model prog w) h (bindSpecial (.ref fI) self) (.ref fI, [self])) (hz : rest.length ≤ sizeLine)
    (hq : codeAny (model prog w) (A.under (.builtin "type.__call__" ⟨.ref C :: rest, kw⟩)) (.call (.ref fI) ⟨.ref (h.objs.size + 1) :: rest, kw⟩) (PySem.W.InitBack (h.objs.size + 1) R) ⟨(h.push (xtp rest)).push (xob C h.objs.size), g, d, t, os⟩) :
    codeAny (model prog w) A (.call (.ref C) ⟨rest, kw⟩) R ⟨h, g, d, t, os⟩ := by
  have z1 := tc_lookup
  have z2 := tc_bind (.ref C)
  have z3 : (⟨h, g, d, t, os⟩ : Shared).TypeIs (.ref C) "type" := ⟨_, hC, rfl⟩
  refine codeAny_of_tree (?_ : wpAny _ _ (callAny (.ref C) _) _ _ _)
  repeat (any_goals (first | assumption | with_reducible refine wpAny_loadPart_at hC ?_ | wp_step))
  refine ⟨rfl, codeAny_call_builtin_at (Code.quiet_builtin _ (by decide +kernel)) entry_typeCall (wpAny_check_type_call_sub hC (run_type F Z hC hi hb hz (codeAny_mono hq fun r s' z => ?_)))⟩
  rcases r with e | (v | _ | _ | _) <;> exact z
end
end My

set_option Elab.async false
set_option maxRecDepth 100000
set_option maxHeartbeats 4000000
namespace My
open PySem PySem.Spec PyProof.Rows L2
/-- a class of exceptions of the program: mid is its line of bases behind itself -/
structure XCls (K : PySem.W.Frag) (C : Addr) (B nw : String) (bmB mid : List Value) : Prop where
  lk : ∃ nm q N bs sn sub ab col dd k0 k1 k2 k3 k5, K.lookup C = some (excClassObj nm q C N bs mid true sn sub ab col dd k0 k1 k2 k3 k5 nw)
  tail : PySem.W.excTail bmB mid = true
  m : XM mid B
  be : mid.contains (.type "BaseException") = true
  ob : mid.contains (.type "object") = true
  sa : PySem.W.findIn K (.ref C) "__setattr__" = some (some (.builtin "object.__setattr__"))
  ga : PySem.W.findIn K (.ref C) "__getattribute__" = some (some (.builtin "BaseException.__getattribute__"))
  gg : PySem.W.findIn K (.ref C) "__getattr__" = some none
  kc : PySem.W.findIn K (.ref C) "__class__" = some (some (.builtin "object.__class__"))
  kp : PySem.W.keepIn K (.ref C) = true
/-- the same of the getter of __class__ -/
structure XGet (K : PySem.W.Frag) : Prop where
  hn : PySem.W.specialIn K (.builtin "object.__class__") "__get__" = some (some (.builtin "getset_descriptor.__get__"))
  ht : PySem.W.takesIn K (.builtin "object.__class__") = some true
section
variable {K : PySem.W.Frag} {C D : Addr} {B nw B' nw' : String} {bmB mid bmB' mid' : List Value}
theorem XCls.cl (X : XCls K C B nw bmB mid) : ∃ cd : ClassData, PySem.W.clsIn K C = some cd ∧ cd.mro = .ref C :: mid ∧ cd.hasDict = true := by
  obtain ⟨nm, q, N, bs, sn, sub, ab, col, dd, k0, k1, k2, k3, k5, e⟩ := X.lk
  exact ⟨{ name := nm, bases := bs, mro := .ref C :: mid, ns := N, qualname := q, hasDict := true, slotNames := sn, subclasses := sub, abstract := ab, collection := col, hasDel := false }, by unfold PySem.W.clsIn; rw [e] <;> rfl, rfl, rfl⟩
theorem XCls.sm (X : XCls K C B nw bmB mid) : (PySem.W.clsIn K C).isSome = true := by
  obtain ⟨cd, e, _⟩ := X.cl
  rw [e]
  rfl
theorem XCls.dct (X : XCls K C B nw bmB mid) : PySem.W.hasDictIn K C = true := by
  obtain ⟨cd, e, _, e2⟩ := X.cl
  unfold PySem.W.hasDictIn
  rw [e]
  exact e2
theorem XCls.mro (X : XCls K C B nw bmB mid) (v : Value) : PySem.W.mroIn K C v = some ((Value.ref C :: mid).contains v) := by
  obtain ⟨cd, e, e1, _⟩ := X.cl
  unfold PySem.W.mroIn
  rw [e, Option.bind_some, e1]
  rfl
theorem XCls.over (X : XCls K C B nw bmB mid) : PySem.W.excOver K C bmB = true := by
  obtain ⟨cd, e, e1, _⟩ := X.cl
  unfold PySem.W.excOver
  rw [e]
  show (match cd.mro with | .ref C' :: bm => C' == C && PySem.W.excTail bmB bm | _ => false) = true
  rw [e1]
  show (C == C && PySem.W.excTail bmB mid) = true
  rw [X.tail, beq_self_eq_true]
  rfl
theorem XCls.isT (X : XCls K C B nw bmB mid) : PySem.W.typeIn K (.ref C) = some (.type "type") := by
  obtain ⟨nm, q, N, bs, sn, sub, ab, col, dd, k0, k1, k2, k3, k5, e⟩ := X.lk
  show (K.lookup C).map (·.cls) = _
  rw [e]
  rfl
theorem XCls.base (X : XCls K C B nw bmB mid) : PySem.W.subIn K (.ref C) (.type "BaseException") = some true := by
  show PySem.W.mroIn K C _ = _
  rw [X.mro, List.contains_cons, X.be, Bool.or_true]
theorem XCls.kitO (X : XCls K C B nw bmB mid) (Y : XCls K D B' nw' bmB' mid') : PySem.W.kitOne K (.ref C) (.ref D) = some (decide (D = C) || mid.contains (.ref D)) := by
  unfold PySem.W.kitOne
  by_cases h : D = C
  · subst h
    rw [if_pos (by simp), decide_eq_true rfl, Bool.true_or]
  · rw [if_neg (by simp; exact fun e => h e.symm), decide_eq_false h, Bool.false_or]
    unfold PySem.W.kitCls
    have e2 : ((PySem.W.clsIn K D).isSome && PySem.W.typeIn K (.ref D) == some (.type "type")) = true := by rw [Y.sm, Y.isT]; rfl
    show (if ((PySem.W.clsIn K D).isSome && PySem.W.typeIn K (.ref D) == some (.type "type")) = true then PySem.W.subIn K (.ref C) (.ref D) else none) = _
    rw [if_pos e2]
    show PySem.W.mroIn K C _ = _
    rw [X.mro, List.contains_cons]
    have e3 : (Value.ref D == Value.ref C) = false := by simp; exact h
    rw [e3, Bool.false_or]
theorem XCls.kitT (X : XCls K C B nw bmB mid) {T : String} (hT : PySem.W.kitMeta T = true) : PySem.W.kitOne K (.ref C) (.type T) = some (mid.contains (.type T)) := by
  unfold PySem.W.kitOne
  rw [if_neg (by simp)]
  show (if PySem.W.kitMeta T = true then PySem.W.subIn K (.ref C) (.type T) else none) = _
  rw [if_pos hT]
  show PySem.W.mroIn K C _ = _
  rw [X.mro, List.contains_cons]
  rfl
end
/-- an exception of the class C stands at e, its dict, where it has one, beside it -/
def Exc (H : Hp) (e C : Addr) : Prop := ∃ d, H e = some (exo e C d) ∧ (d = none ∨ ∃ dd fs, d = some dd ∧ H dd = some (exd dd fs))
theorem Exc.keep {H H' : Hp} {e C : Addr} (x : Exc H e C) (s : Same H H') : Exc H' e C := by
  obtain ⟨d, h1, h2⟩ := x
  refine ⟨d, s _ _ h1, ?_⟩
  rcases h2 with h2 | ⟨dd, fs, h2, h3⟩
  · exact .inl h2
  · exact .inr ⟨dd, fs, h2, s _ _ h3⟩
section
variable {X : Cx} {pins : List (Addr × Obj)} {σ : L2.St} {H : Hp} {s : Shared} {C : Addr} {B nw : String} {bmB mid : List Value}
theorem Exc.inst {e : Addr} (x : Exc H e C) (I : Inv X pins σ H s) : ∃ ox od, PySem.W.InstAt s.heap e ox C od := by
  obtain ⟨d, h1, h2⟩ := x
  obtain ⟨t1, g1⟩ := exo_at I.hok h1
  rcases h2 with rfl | ⟨dd, fs, rfl, h3⟩
  · exact ⟨_, none, g1, rfl, rfl, trivial⟩
  · obtain ⟨mA, ⟨o, es, ep, ho, _⟩, _⟩ := exd_at I.hok h3
    exact ⟨_, some o, g1, rfl, rfl, ho⟩
/-- isinstance(e, c) -/
def rIsX (K : PySem.W.Frag) : List V → Hp → VK → Prop := fun xs H Q => ∃ (a C : Addr) (c : V) (cv : Value) (B nw : String) (bmB mid : List Value) (b : Bool), xs = [.ref a, c] ∧ Exc H a C ∧ XCls K C B nw bmB mid ∧ ClsV c cv ∧ PySem.W.kitOne K (.ref C) cv = some b ∧ Q (.bl b) H
theorem call_isX (G : XGet X.K) : CallR X (.builtin "isinstance") (rIsX X.K) := by
  intro pins s σ H xs us Q I r h
  obtain ⟨a, C, c, cv, B, nw, bmB, mid, b, rfl, hx, XC, hc, e, q⟩ := h
  obtain ⟨u1, u2, rfl, r1, r2⟩ := vals2 r
  cases (show u1 = Value.ref a from r1)
  cases hc.eq r2
  obtain ⟨ox, od, J⟩ := hx.inst I
  exact PySem.W.kia_one (PySem.W.kitx_exc (ox := ox) (od := od) XC.sm XC.ga XC.gg XC.base XC.kc G.hn G.ht (by rw [XC.mro, List.contains_cons, XC.ob, Bool.or_true])) I.kIn J e (fun z => nomatch z) fun tk => ⟨.bl b, H, I.tok tk, rfl, q⟩
/-- isinstance(e, (c1, c2, ..)) -/
def rIsXT (K : PySem.W.Frag) : List V → Hp → VK → Prop := fun xs H Q => ∃ (a C tp : Addr) (cs : List V) (cvs : List Value) (B nw : String) (bmB mid : List Value) (b : Bool), xs = [.ref a, .ref tp] ∧ Exc H a C ∧ XCls K C B nw bmB mid ∧ H tp = some (.tup cs) ∧ Paired ClsV cs cvs ∧ PySem.W.kitAny K (.ref C) cvs = some b ∧ Q (.bl b) H
theorem call_isXT (G : XGet X.K) : CallR X (.builtin "isinstance") (rIsXT X.K) := by
  intro pins s σ H xs us Q I r h
  obtain ⟨a, C, tp, cs, cvs, B, nw, bmB, mid, b, rfl, hx, XC, hT, hc, e, q⟩ := h
  obtain ⟨u1, u2, rfl, r1, r2⟩ := vals2 r
  cases (show u1 = Value.ref a from r1)
  cases (show u2 = Value.ref tp from r2)
  obtain ⟨ox, od, J⟩ := hx.inst I
  obtain ⟨_, its, rv, ob, h1, h2, n, h3⟩ := (show ObjOk X.prog X.w H s.heap tp (.tup cs) from I.hok tp _ hT)
  cases ClsV.all hc rv
  obtain ⟨oc, odd, dt, sl⟩ := ob
  simp only at h2 h3
  subst h2 h3
  exact PySem.W.kia_tup (PySem.W.kitx_exc (ox := ox) (od := od) XC.sm XC.ga XC.gg XC.base XC.kc G.hn G.ht (by rw [XC.mro, List.contains_cons, XC.ob, Bool.or_true])) I.kIn J h1 e (fun z => nomatch z) fun tk => ⟨.bl b, H, I.tok tk, rfl, q⟩
/-- e.f, e an exception that holds f -/
def tXat (K : PySem.W.Frag) (f : Str) (te : TE) : TE := fun σ H Q => te σ H fun x H1 => ∃ (a C dd : Addr) (fs : List (Str × V)) (v : V) (B nw : String) (bmB mid : List Value), x = .ref a ∧ XCls K C B nw bmB mid ∧ PySem.W.findIn K (.ref C) f = some none ∧ H1 a = some (exo a C (some dd)) ∧ H1 dd = some (exd dd fs) ∧ fs.lookup f = some v ∧ Q v H1
theorem pe_xat {e : Expr} {te : TE} {pos : Pos} {n : Str} (he : PE X e te) (hb : attributeBase e n X.env (eval e X.env) = eval e X.env := by rfl) : PE X (.Attribute e n pos) (tXat X.K n te) := by
  refine ⟨fun pins s σ H Q I h => attr_of hb (thn (he.run pins s σ H _ I h) fun u s1 hh => ?_)⟩
  obtain ⟨x, H1, I1, rx, a, C, dd, fs, v, B, nw, bmB, mid, rfl, XC, hno, h1, h2, l, q⟩ := hh
  cases (show u = Value.ref a from rx)
  obtain ⟨t1, g1⟩ := exo_at I1.hok h1
  obtain ⟨mA, hns, hr⟩ := exd_at I1.hok h2
  obtain ⟨od, ho, hl⟩ := lookIn_ns hns
  obtain ⟨u, hu, ru⟩ := RelO.some_of (v := v) (o := mA n) (by rw [← l]; exact hr n)
  have J : PySem.W.InstAt s1.heap a _ C (some od) := ⟨g1, rfl, rfl, ho⟩
  exact HandSPX.exc_get I1.kIn J XC.ga XC.gg XC.base (PySem.W.findObj_own XC.dct hno rfl (by rw [hl, hu])) (handed_of ru) ⟨v, H1, I1.tok _, ru, q⟩
end
end My

set_option Elab.async false
set_option maxRecDepth 100000
set_option maxHeartbeats 4000000
namespace My
open PySem PySem.Spec PyProof.Rows L2 Builtin Builtin.ObjectAttr
section
variable {X : Cx} {pins : List (Addr × Obj)} {σ : L2.St} {H : Hp} {s : Shared} {C : Addr} {B nw : String} {bmB mid : List Value}
/-- self.f = y, the first of an exception: its dict is made -/
theorem xst_ok {a : Addr} {f : Str} {y : V} {u : Value} {SB : String} {Q : Unit → Shared → Prop} {E : Value → Shared → Prop} {A : Around} (XC : XCls X.K C B nw bmB mid) (SF : StoreFacts SB bmB "object.__setattr__" "object") (I : Inv X pins σ H s) (e : H a = some (exo a C none))
    (hno : PySem.W.findIn X.K (.ref C) f = some none) (ry : RelV y u)
    (h : ∀ dx s', H dx = none → dx ≠ a → Inv X pins σ (upd (upd (upd H dx (exd dx [])) a (exo a C (some dx))) dx (exd dx [(f, y)])) s' → Q () s') : wpAny (model X.prog X.w) A (setAttr (.ref a) f u) Q E s := by
  obtain ⟨t1, ho⟩ := exo_at I.hok e
  obtain ⟨cd, hc, hm, hd⟩ := XC.cl
  refine PySem.W.set_plain I.kIn (ox := xob C t1) (od := none) ⟨ho, rfl, rfl, trivial⟩ XC.sa ?_
  refine PySem.W.osa_openX (od := none) SF I.kIn ⟨ho, rfl, rfl, trivial⟩ XC.over (r := none) (by unfold PySem.W.takerIn; rw [hno]; rfl) fun b => ?_
  have hnd : H s.heap.objs.size = none := I.hok.fresh (Nat.le_refl _)
  have has : s.heap.objs.size ≠ a := Nat.ne_of_gt (Heap.lt_size ho)
  refine wpAny_bind (wpAny_pure (wpAny_bind (PySem.W.instanceDict_exc (c2 := .none) ho (PySem.W.looks_clsIn I.kIn hc) hd (?_ : wpAny _ _ (storeInDict s.heap.objs.size (.str f _) f u) _ _ _))))
  -- the dict is laid
  have k1 : ∀ b u, s.heap.get? b = some u → (s.heap.push (PySem.W.dictOf [] 0)).get? b = some u := fun b u q => Heap.get?_push_of_some _ q
  have n1 : (s.heap.push (PySem.W.dictOf [] 0)).Ns s.heap.objs.size (fun _ => none) := ⟨_, #[], _, Heap.get?_push_size _ rfl, rfl, fun e he => absurd he (by simp), fun _ => rfl⟩
  have I1 : Inv X pins σ (upd H s.heap.objs.size (exd s.heap.objs.size [])) { s with heap := s.heap.push (PySem.W.dictOf [] 0), toks := s.toks } := I.laid k1 (Nat.le_refl _) (exd_ok (Heap.Ns1.of_empty n1) fun _ => trivial)
  -- the object takes it
  have g2 : ((s.heap.push (PySem.W.dictOf [] 0)).update a fun o => { o with dict := some s.heap.objs.size }).get? a = some { cls := .ref C, dict := some s.heap.objs.size, data := .fields #[.ref t1, .none, .none, .none, .bool false, .none] } := Heap.get?_update_self _ (k1 _ _ ho) rfl
  have I2 := I1.write (t' := s.toks) (x := a) (e := a) (o := exo a C (some s.heap.objs.size)) (by rw [upd_ne has.symm, e]; exact True.intro) (.inl rfl) (fun b u hb q => (Heap.get?_update_other _ _ (Ne.symm hb)).trans q) ⟨_, g2⟩ (exo_ok g2)
  have n2 : ((s.heap.push (PySem.W.dictOf [] 0)).update a fun o => { o with dict := some s.heap.objs.size }).Ns s.heap.objs.size (fun _ => none) := ⟨_, #[], _, (Heap.get?_update_other _ _ has.symm).trans (Heap.get?_push_size _ rfl), rfl, fun e he => absurd he (by simp), fun _ => rfl⟩
  refine HandSPX.store_in_new n2 fun h' tk' hn' hs => ?_
  have g3 : ∃ o, h'.get? s.heap.objs.size = some o := by
    obtain ⟨o, _, _, q, _⟩ := hn'
    exact ⟨o, q⟩
  have I3 := I2.write (h' := h') (t' := tk') (x := s.heap.objs.size) (e := s.heap.objs.size) (o := exd s.heap.objs.size [(f, y)]) (by rw [upd_ne has, upd_same]; exact True.intro) (.inl rfl) (fun b u hb q => (hs.2 b hb).trans q) g3
    (exd_ok hn' (relO_put (fs := []) ry fun _ => trivial))
  exact h _ _ hnd has I3
end
/-- self.f = e -/
def tXst (K : PySem.W.Frag) (f : Str) (to te : TE) : TS := fun D σ H => te σ H fun y H1 => to σ H1 fun x H2 => ∃ (a C : Addr) (B nw SB : String) (bmB mid : List Value), x = .ref a ∧ XCls K C B nw bmB mid ∧ StoreFacts SB bmB "object.__setattr__" "object" ∧ PySem.W.findIn K (.ref C) f = some none ∧
  H2 a = some (exo a C none) ∧ ∀ dx, H2 dx = none → dx ≠ a → D.nx σ (upd (upd (upd H2 dx (exd dx [])) a (exo a C (some dx))) dx (exd dx [(f, y)]))
section
variable {X : Cx} {o e : Expr} {es : List Expr} {to te : TE} {ta tk : TA} {f : Str} {p p' pos : Pos} {kws : List Keyword}
theorem ps_xst (ho : PE X o to) (he : PE X e te) (hs : swapsWith e (some (.Attribute o f p')) pos.line X.env = pure false := by rfl) : PS X (.Assign [.Attribute o f p'] e pos) (tXst X.K f to te) := by
  refine ⟨fun pins s σ H D I h => plainObj_wpAny_Assign_Attribute (thn (he.run pins s σ H _ I h) fun v s1 ⟨y, H1, I1, r1, q1⟩ => thn (ho.run pins s1 σ H1 _ I1 q1) fun u s2 z => ?_) hs⟩
  obtain ⟨x, H2, I2, r2, a, C, B, nw, SB, bmB, mid, rfl, XC, SF, hno, ea, q⟩ := z
  cases (show u = Value.ref a from r2)
  exact xst_ok XC SF I2 ea hno r1 fun dx s' n ne J => ⟨σ, _, J, q dx n ne⟩
/-- C(e, ..), C(k = e): a new exception, then the class's own __init__ -/
def tXmk (C : Addr) (sp : Sp) (t tk : TA) : TE := fun σ H Q => t σ H fun vs H1 => tk σ H1 fun zs H2 => vs.length + zs.length = 1 ∧ ∀ a, H2 a = none → sp (.ref a :: (vs ++ zs)) (upd H2 a (exo a C none)) (fun v H3 => v = .non ∧ Q (.ref a) H3) E0
end
section
variable {X : Cx} {pins : List (Addr × Obj)} {σ : L2.St} {H : Hp} {s : Shared} {C : Addr} {B nw iw : String} {bmB bm0 mid : List Value}
theorem run_xmk {fI : Addr} {k : Nat} {fd : FuncData} {ps : List Str} {sp : Sp} {Q : VK} {us : List Value} {kw : List (Str × Value)} {vs : List V} (XC : XCls X.K C B nw bmB mid) (F : ExcBaseFacts B nw iw bm0) (iC : PySem.W.findIn X.K (.ref C) "__init__" = some (some (.ref fI))) (tI : PySem.W.typeIn X.K (.ref fI) = some (.type "function"))
    (F1 : FnOk X.prog X.w X.K X.mg X.base CX0 k fI fd ps sp) (hr : Room (k + 1) X.A) (I : Inv X pins σ H s) (ws : List Value) (hb : ∀ (s : Shared) (self : Value), X.K.In s.heap → BindsTo s fd ⟨self :: us, kw⟩ (ps.zip (self :: ws))) (hz : us.length ≤ sizeLine) (rv : Vals vs ws)
    (h : ∀ a, H a = none → sp (.ref a :: vs) (upd H a (exo a C none)) (fun v H3 => v = .non ∧ Q (.ref a) H3) E0) : wpAny (model X.prog X.w) X.A (call (.ref C) us kw) (EP X pins σ Q) X.xe s := by
  obtain ⟨nm, q, N, bs, sn, sub, ab, col, dd, k0, k1, k2, k3, k5, hC⟩ := XC.lk
  obtain ⟨hp, g, dr, tk, os⟩ := s
  have hsz : hp.objs.size ≤ hp.objs.size + 1 := Nat.le_succ _
  have kk : ∀ b o, hp.get? b = some o → ((hp.push (xtp us)).push (xob C hp.objs.size)).get? b = some o := fun b o e => Heap.get?_push_of_some _ (Heap.get?_push_of_some _ e)
  have hget : ((hp.push (xtp us)).push (xob C hp.objs.size)).get? (hp.objs.size + 1) = some (xob C hp.objs.size) := by heap_get
  have I2 : Inv X pins σ (upd H (hp.objs.size + 1) (exo (hp.objs.size + 1) C none)) ⟨(hp.push (xtp us)).push (xob C hp.objs.size), g, dr, tk, os⟩ := I.laid (t' := tk) (h' := (hp.push (xtp us)).push (xob C hp.objs.size)) kk hsz (exo_ok hget)
  have hq := h (hp.objs.size + 1) (I.hok.fresh hsz)
  refine wpAny_call (run_call F XC.m (I.kIn _ _ hC) (PySem.W.looks_findIn I.kIn iC) (fun self => PySem.W.bind_fn I.kIn self tI) hz
    (codeAny_mono (F1.run _ X.stack _ _ ⟨Value.ref (hp.objs.size + 1) :: us, kw⟩ (Value.ref (hp.objs.size + 1) :: ws) _ _ E0 (hr.make C us kw) (I2.env0.make C us kw) (hb _ _ I2.kIn) (.cons (show L2.RelV (V.ref (hp.objs.size + 1)) (Value.ref (hp.objs.size + 1)) from rfl) rv) hq) fun r s' hq' => ?_))
  cases r with
  | error er => exact (hq' : False).elim
  | ok fl =>
    cases fl with
    | ret u =>
      obtain ⟨v, H', I3, rv', ev, q3⟩ := I2.after hq'
      subst ev
      exact ⟨rv', ⟨V.ref (hp.objs.size + 1), H', I3, rfl, q3⟩⟩
    | next => exact False.elim hq'
    | brk => exact False.elim hq'
    | cont => exact False.elim hq'
end
end My

set_option Elab.async false
set_option maxRecDepth 100000
set_option maxHeartbeats 4000000
namespace My
open PySem PySem.Spec PyProof.Rows L2
section
variable {X : Cx} {C fI : Addr} {B nw iw : String} {bmB bm0 mid : List Value} {k : Nat} {fd : FuncData} {ps : List Str} {sp : Sp} {x : Str} {p pos : Pos} {e : Expr} {es : List Expr} {kws : List Keyword} {t tk : TA}
/-- C(e), C with its own __init__ -/
def tX1 (C : Addr) (sp : Sp) (t : TA) : TE := fun σ H Q => t σ H fun vs H1 => vs.length ≤ 1000 ∧ ∀ a, H1 a = none → sp (.ref a :: vs) (upd H1 a (exo a C none)) (fun v H3 => v = .non ∧ Q (.ref a) H3) E0
theorem pe_x1 (XC : XCls X.K C B nw bmB mid) (F : ExcBaseFacts B nw iw bm0) (iC : PySem.W.findIn X.K (.ref C) "__init__" = some (some (.ref fI))) (tI : PySem.W.typeIn X.K (.ref fI) = some (.type "function")) (F1 : FnOk X.prog X.w X.K X.mg X.base CX0 k fI fd ps sp) (hr : Room (k + 1) X.A)
    (hb : Binds X.K fd ps []) (hg : Gl X x) (hm : X.mg x = some (.ref C)) (ha : PA X (e :: es) t) (hdb : (x == ("__debug__" : Str)) = false := by decide) (he : starEach (e :: es) X.env = (false, eval e X.env) :: starEach es X.env := by rfl)
    (hpl : (backTo pos (starEach es X.env)).any (·.1) = false := by rfl) : PE X (.Call (.Name x p) (e :: es) [] pos) (tX1 C sp t) := by
  refine ⟨fun pins s σ H Q I h => wpAny_Call_Name_kw (ld_glob I hg hm ?_ hdb)⟩
  refine PySem.W.callWith_K (h₀ := X.base) I.ok.mod.kin XC.kp (thn (ha.run pos pins s σ H _ I h) fun us s1 ⟨vs, H1, I1, r1, hz, q1⟩ => ⟨I1.kIn, (?_ : wpAny _ _ (call (.ref C) us) _ _ _)⟩) he hpl
  refine run_xmk (kw := []) XC F iC tI F1 hr I1 us (fun s self kin => ?_) (by rw [← Paired.length r1, sizeLine_eq]; omega) r1 q1
  have hl : (self :: us).length = ps.length := by
    have z := F1.len _ _ _ _ (q1 s1.heap.objs.size (I1.hok.fresh (Nat.le_refl _)))
    rw [← z, List.length_cons, List.length_cons, Paired.length r1]
  have q := hb s (self :: us) kin (by rw [List.append_nil]; exact hl)
  rw [List.append_nil] at q
  exact q
/-- C(kn = e) -/
theorem pe_xk {kn : Str} {kp : Pos} {te : TE} (XC : XCls X.K C B nw bmB mid) (F : ExcBaseFacts B nw iw bm0) (iC : PySem.W.findIn X.K (.ref C) "__init__" = some (some (.ref fI))) (tI : PySem.W.typeIn X.K (.ref fI) = some (.type "function")) (F1 : FnOk X.prog X.w X.K X.mg X.base CX0 k fI fd ["self", kn] sp) (hr : Room (k + 1) X.A)
    (hb : ∀ (s : Shared) (self v : Value), BindsTo s fd ⟨[self], [(kn, v)]⟩ [("self", self), (kn, v)]) (hg : Gl X x) (hm : X.mg x = some (.ref C)) (ha : PE X e te) (hdb : (x == ("__debug__" : Str)) = false := by decide)
    (hall : (backToKw pos (keywordEach [⟨some kn, e, kp⟩] X.env)).all (·.1.isSome) = true := by rfl) (hks : (backToKw pos (keywordEach [⟨some kn, e, kp⟩] X.env)).filterMap (·.1) = [kn] := by rfl)
    (hpl : (backToKw pos (keywordEach [⟨some kn, e, kp⟩] X.env)).any (·.1.isNone) = false := by rfl) : PE X (.Call (.Name x p) [] [⟨some kn, e, kp⟩] pos) (tX1 C sp (tCons te tNil)) := by
  refine ⟨fun pins s σ H Q I h => wpAny_Call_Name_kw (ld_glob I hg hm ?_ hdb)⟩
  have hkw : PK X [⟨some kn, e, kp⟩] (tCons te tNil) := pk_cons ha pk_nil
  refine PySem.W.callWith_KW0 (h₀ := X.base) I.ok.mod.kin XC.kp hall (thn (hkw.run pos pins s σ H _ I h) fun ws s1 ⟨zs, H1, I1, rz, hz, q1⟩ => ⟨I1.kIn, ?_⟩) hpl
  rw [hks]
  have hl := F1.len _ _ _ _ (q1 s1.heap.objs.size (I1.hok.fresh (Nat.le_refl _)))
  obtain ⟨z, rfl⟩ : ∃ z, zs = [z] := by
    cases zs with
    | nil => simp at hl
    | cons z r =>
      cases r with
      | nil => exact ⟨z, rfl⟩
      | cons z2 r2 => simp at hl
  cases rz with
  | @cons _ w1 _ wr r1 r2 =>
    cases r2
    show wpAny _ _ (call (.ref C) [] [(kn, w1)]) _ _ _
    refine run_xmk (us := []) (kw := [(kn, w1)]) (vs := [z]) XC F iC tI F1 hr I1 [w1] (fun s self _ => ?_) (Nat.zero_le _) (.cons r1 .nil) q1
    exact hb s self w1
/-- C(), C without an __init__ -/
theorem pe_x0 (F : ExcBaseFacts B nw iw bmB) (q : PySem.W.excIn X.K C bmB nw = true) (kC : PySem.W.keepIn X.K (.ref C) = true) (hg : Gl X x) (hm : X.mg x = some (.ref C)) (hdb : (x == ("__debug__" : Str)) = false := by decide) :
    PE X (.Call (.Name x p) [] [] pos) (fun _ H Q => ∀ a, H a = none → Q (.ref a) (upd H a (exo a C none))) := by
  refine ⟨fun pins s σ H Q I h => wpAny_Call_Name_kw (ld_glob I hg hm ?_ hdb)⟩
  refine PySem.W.callWith_K0 I.kIn kC (?_ : wpAny _ _ (call (.ref C) []) _ _ _)
  obtain ⟨bm, N, nm, qn, bs, hdct, sn, sub, ab, col, dd, k0, k1, k2, k3, k5, mN, hC, hN, hni, T⟩ := exc_obj I.kIn q
  refine wpAny_call_exc_subT F T hC hN hni (fun h' a hm' => ?_) (by show 0 ≤ sizeLine; rw [sizeLine_eq]; omega)
  have hn : H a = none := I.hok.gone hm'.new
  obtain ⟨t, ht, _, _⟩ := hm'.there
  exact ⟨.ref a, upd H a (exo a C none), I.laidN hm'.keeps hm'.new hn (exo_ok ht), rfl, h a hn⟩
end
end My

set_option Elab.async false
set_option maxRecDepth 100000
set_option maxHeartbeats 4000000
/-! raise C(e): C with its own __init__, whatever built-in it stands over. -/
namespace My
open PySem PySem.Spec PyProof.Rows L2
section
variable {X : Cx} {C fI : Addr} {B nw iw : String} {bmB bm0 mid : List Value} {k : Nat} {fd : FuncData} {ps : List Str} {sp : Sp} {x : Str} {p pos : Pos} {e : Expr} {es : List Expr} {t : TA}
theorem pmk_x1 (XC : XCls X.K C B nw bmB mid) (F : ExcBaseFacts B nw iw bm0) (iC : PySem.W.findIn X.K (.ref C) "__init__" = some (some (.ref fI))) (tI : PySem.W.typeIn X.K (.ref fI) = some (.type "function")) (F1 : FnOk X.prog X.w X.K X.mg X.base CX0 k fI fd ps sp) (hr : Room (k + 1) X.A)
    (hb : Binds X.K fd ps []) (hg : Gl X x) (hm : X.mg x = some (.ref C)) (ha : PA X (e :: es) t) (hdb : (x == ("__debug__" : Str)) = false := by decide) (he : starEach (e :: es) X.env = (false, eval e X.env) :: starEach es X.env := by rfl)
    (hpl : (backTo pos (starEach es X.env)).any (·.1) = false := by rfl) : PMk X (.Call (.Name x p) (e :: es) [] pos) (tMkO C sp [] t) := by
  intro pins s σ H Q I h
  obtain ⟨nm, q, N, bs, sn, sub, ab, col, dd, k0, k1, k2, k3, k5, hC⟩ := XC.lk
  refine wpAny_Call_Name_kw (ld_glob I hg hm ?_ hdb)
  refine PySem.W.callWith_K (h₀ := X.base) I.ok.mod.kin XC.kp (thn (ha.run pos pins s σ H _ I h) fun us s1 ⟨vs, H1, I1, r1, hz, q1⟩ => ⟨I1.kIn, (?_ : wpAny _ _ (call (.ref C) us) _ _ _)⟩) he hpl
  obtain ⟨hp, g, dr, tk, os⟩ := s1
  have hsz : hp.objs.size ≤ hp.objs.size + 1 := Nat.le_succ _
  have kk : ∀ b o, hp.get? b = some o → ((hp.push (xtp us)).push (xob C hp.objs.size)).get? b = some o := fun b o e => Heap.get?_push_of_some _ (Heap.get?_push_of_some _ e)
  have hget : ((hp.push (xtp us)).push (xob C hp.objs.size)).get? (hp.objs.size + 1) = some (xob C hp.objs.size) := by heap_get
  have I2 : Inv X pins σ (upd H1 (hp.objs.size + 1) (exo (hp.objs.size + 1) C none)) ⟨(hp.push (xtp us)).push (xob C hp.objs.size), g, dr, tk, os⟩ := I1.laid (t' := tk) (h' := (hp.push (xtp us)).push (xob C hp.objs.size)) kk hsz (exo_ok hget)
  have hq := q1 (hp.objs.size + 1) (I1.hok.fresh hsz)
  rw [List.append_nil] at hq
  have hus : us.length ≤ sizeLine := by rw [← Paired.length r1, sizeLine_eq]; omega
  have hl : (Value.ref (hp.objs.size + 1) :: us).length = ps.length := by
    have z := F1.len _ _ _ _ hq
    rw [← z, List.length_cons, List.length_cons, Paired.length r1]
  have hb' : BindsTo ⟨(hp.push (xtp us)).push (xob C hp.objs.size), g, dr, tk, os⟩ fd ⟨Value.ref (hp.objs.size + 1) :: us, []⟩ (ps.zip (Value.ref (hp.objs.size + 1) :: us)) := by
    have q := hb ⟨(hp.push (xtp us)).push (xob C hp.objs.size), g, dr, tk, os⟩ (Value.ref (hp.objs.size + 1) :: us) I2.kIn (by rw [List.append_nil]; exact hl)
    rw [List.append_nil] at q
    exact q
  refine wpAny_call (run_call F XC.m (I1.kIn _ _ hC) (PySem.W.looks_findIn I1.kIn iC) (fun self => PySem.W.bind_fn I1.kIn self tI) hus
    (codeAny_mono (F1.run _ X.stack _ _ ⟨Value.ref (hp.objs.size + 1) :: us, []⟩ (Value.ref (hp.objs.size + 1) :: us) _ _ E0 (hr.make C us []) (I2.env0.make C us []) hb' (.cons (show L2.RelV (V.ref (hp.objs.size + 1)) (Value.ref (hp.objs.size + 1)) from rfl) r1) hq) fun r s' hq' => ?_))
  cases r with
  | error er => exact (hq' : False).elim
  | ok fl =>
    cases fl with
    | ret u =>
      obtain ⟨v, H2, os2, bare2, un2, hok2, rv, ev, d, fs, ea, ed, hd1, q2⟩ := hq'
      subst ev
      obtain ⟨h2, g2, d2, t2, os'⟩ := s'
      exact ⟨rv, mk_end (raises_own XC.base XC.isT) I1 hsz kk un2 hok2 os2 bare2 ea ed hd1 q2⟩
    | next => exact False.elim hq'
    | brk => exact False.elim hq'
    | cont => exact False.elim hq'
end
end My

set_option Elab.async false
set_option maxRecDepth 100000
set_option maxHeartbeats 4000000
/-! Kind(name, texts): refused, or made. -/
namespace My
open PySem L2
abbrev sKI : Stmt := inClass (top 31) 0
/-- __init__(self, v) of an exception: it takes its field -/
def spInit (K : PySem.W.Frag) (C : Addr) (fld : Str) : Sp := fun vs H Q _ => ∃ (a : Addr) (v : V), vs = [.ref a, v] ∧ H a = some (exo a C none) ∧ PySem.W.findIn K (.ref C) fld = some none ∧
  ∀ dx, H dx = none → dx ≠ a → Q .non (upd (upd (upd H dx (exd dx [])) a (exo a C (some dx))) dx (exd dx [(fld, v)]))
/-- such an exception may leave: its class at C, its field, the heap that it leaves behind -/
def Goes (E : XK) (H : Hp) (C : Addr) (fld : Str) (v : V) : Prop := ∀ (d : Addr) (H' : Hp), Same H H' → H' d = some (.xd [(fld, v)]) → E (.ref C) (some d) H'
/-- what stands of a class of exceptions with one field -/
structure InitX (P : Program) (w : World) (K : PySem.W.Frag) (mg : Str → Option Value) (base : Heap) (x : Str) (C : Addr) (fld : Str) : Prop where
  ex : ∃ (B nw iw : String) (bmB bm0 mid : List Value) (fI : Addr) (fdI : FuncData), XCls K C B nw bmB mid ∧ ExcBaseFacts B nw iw bm0 ∧ PySem.W.findIn K (.ref C) "__init__" = some (some (.ref fI)) ∧ PySem.W.typeIn K (.ref fI) = some (.type "function") ∧
    FnOk P w K mg base CX0 1 fI fdI ["self", fld] (spInit K C fld) ∧ Binds K fdI ["self", fld] []
  mg : mg x = some (.ref C)
  no : PySem.W.findIn K (.ref C) fld = some none
section
variable {P : Program} {w : World} {K : PySem.W.Frag} {mg : Str → Option Value} {base : Heap}
/-- raise C(e) -/
theorem ps_raiseX {X : Cx} {x : Str} {C : Addr} {fld : Str} {W : WX} {e : Expr} {es : List Expr} {ta : TA} {p pos pos2 : Pos} (hc : X.calm = true) (I : InitX X.prog X.w X.K X.mg X.base x C fld) (hr : Room 2 X.A) (tk : Takes X W) (hg : Gl X x) (ha : PA X (e :: es) ta)
    (hdb : (x == ("__debug__" : Str)) = false := by decide) (he : starEach (e :: es) X.env = (false, eval e X.env) :: starEach es X.env := by rfl) (hpl : (backTo pos (starEach es X.env)).any (·.1) = false := by rfl) :
    PS X (.Raise (some (.Call (.Name x p) (e :: es) [] pos)) none pos2) (fun _ σ H => tMkO C (spInit X.K C fld) [] ta σ H fun cls d H' => W cls d σ H') := by
  obtain ⟨B, nw, iw, bmB, bm0, mid, fI, fdI, h1, h2, h3, h4, h5, h6⟩ := I.ex
  exact ps_raise hc tk (pmk_x1 h1 h2 h3 h4 h5 hr h6 hg I.mg ha hdb he hpl)
/-- its reading: one value -/
theorem rd_raise {C : Addr} {fld : Str} {v : V} {σ : St} {H H0 : Hp} {E : XK} (hno : PySem.W.findIn K (.ref C) fld = some none) (s0 : Same H0 H) (g : Goes E H0 C fld v) :
    tMkO C (spInit K C fld) [] (tCons (L2.tC v) tNil) σ H (fun cls d H' => E cls d H') := by
  refine ⟨(by show 1 ≤ 1000; decide), fun a ha => ?_⟩
  refine ⟨a, v, rfl, upd_same, hno, fun dx hdx hne => ⟨rfl, dx, [(fld, v)], ?_, upd_same, ?_, ?_⟩⟩
  · rw [upd_ne hne.symm, upd_same]
  · rw [upd_ne hne] at hdx
    exact hdx
  · have hd0 : H dx = none := by
      rw [upd_ne hne] at hdx
      exact hdx
    refine g dx _ (fun b o h => ?_) upd_same
    have h' := s0 _ _ h
    have n1 : b ≠ a := ne_of_none h' ha
    have n2 : b ≠ dx := ne_of_none h' hd0
    rw [upd_ne n2, del_ne n1, upd_ne n2, upd_ne n1, upd_ne n2, upd_ne n1]
    exact h'
end
end My

set_option Elab.async false
set_option maxRecDepth 100000
set_option maxHeartbeats 4000000
namespace My
open PySem L2
def Bx (x : Addr) (H H' : Hp) : Prop := ∀ b o, H b = some o → b ≠ x → H' b = some o
/-- a tuple of a sorted lot -/
def Lot (H : Hp) (T : Addr) (ks : List Str) : Prop := ∃ ys : List Str, H T = some (.tup (ys.map V.str)) ∧ ys.Perm ks ∧ PyProof.Rows.sortedS ys = true
/-- what a kind holds -/
def ReaderAt (K : PySem.W.Frag) (H : Hp) (x C : Addr) (nm wo : V) (zs : List Str) : Prop := ∃ (dx T1 T2 T3 T4 : Addr), H x = some (.ins C dx [("name", nm), ("texts", .ref T1), ("word", wo), ("slots", .ref T2), ("parts", .ref T3), ("counters", .ref T4)]) ∧
  SqT K H T1 (zs.map V.str) ∧ Lot H T2 (lotS "slot" zs) ∧ Lot H T3 (lotS "part" zs) ∧ Lot H T4 (lotS "counter" zs)
def wdV : V → Bool
  | .str z => inV (.str z) (WDS.map V.str)
  | _ => false
/-- Reader.__init__(self, name, texts, word) -/
def spRI (K : PySem.W.Frag) (C CK : Addr) : Sp := fun vs H Q E => ∃ (x dx : Addr) (nm tx wo : V) (s i b l t r s' i' b' l' t' : Bool) (xs : List V), vs = [.ref x, nm, tx, wo] ∧ H x = some (.ins C dx []) ∧ KndS K H nm s i b l t ∧ TxOk nm ∧ ScX K H tx r xs ∧ KndS K H wo s' i' b' l' t' ∧
  (nmV nm = false → Goes E H CK "word" (.str "name")) ∧ (nmV nm = true → r = false → Goes E H CK "word" (.str "texts")) ∧ (nmV nm = true → r = true → wdV wo = false → Goes E H CK "word" (.str "word")) ∧
  (nmV nm = true → r = true → wdV wo = true → ∀ (a : Addr) (zs : List Str) (H' : Hp), tx = .ref a → xs = zs.map V.str → SqA K H a (zs.map V.str) → (∀ z ∈ zs, stepS z = true) → goR zs = true → Bx x H H' → ReaderAt K H' x C nm wo zs → Q .non H')
/-- the table of forms as a list, and what it tells -/
structure TabAt (K : PySem.W.Frag) (w : World) (mg : Str → Option Value) (d : Addr) (es : Array DictEntry) (n : Nat) (tab : List (Str × V)) : Prop where
  gl : ∃ u, mg "FORMS" = some u ∧ RelV (.ref d) u
  kd : KDict K w d es n
  en : EntK es.toList tab
  nd : (tab.map fun p => p.1).Nodup
  sz : tab.length ≤ sizeLine
  get : ∀ (z : Str) (rs : List Str), formOf z = some rs → ∃ v, valV (kvsOf tab) (Sum.inr z) = some v ∧ rs.length ≤ 4 ∧ ∀ H : Hp, ∃ b, v = .ref b ∧ SqT K H b (rs.map V.str)
theorem ScX.keep {K : PySem.W.Frag} {H H' : Hp} {x : V} {r : Bool} {xs : List V} (h : ScX K H x r xs) (s : Same H H') : ScX K H' x r xs := by
  cases h with
  | no h => exact .no fun H1 s1 => h H1 (s.trans s1)
  | seq h hl q hx hn => exact .seq (fun H1 s1 => h H1 (s.trans s1)) hl (SqA.keep q s) (fun x hxx => ItOk.keep (hx x hxx) s) hn
theorem ScX.inv {K : PySem.W.Frag} {H : Hp} {x : V} {r : Bool} {xs : List V} (h : ScX K H x r xs) (e : r = true) : ∃ (a : Addr) (zs : List Str), x = .ref a ∧ xs = zs.map V.str ∧ SqA K H a (zs.map V.str) ∧ zs.length ≤ 14 ∧ (∀ z ∈ zs, stepS z = true ∧ z.length + 2 ≤ sizeLine) ∧ goR zs = true := by
  cases h with
  | no h => cases e
  | @seq a _ _ _ _ _ _ h hl q hx hn =>
    unfold scriptS at e
    have e1 := Bool.and_eq_true_iff.mp e
    have e2 := Bool.and_eq_true_iff.mp e1.2
    have em := txts_map xs e2.1
    refine ⟨a, txts xs, rfl, em, by rw [← em]; exact q, Nat.le_trans (txts_len xs) hn, fun z hz => ?_, e2.2⟩
    have hm : V.str z ∈ xs := by
      rw [em]
      exact List.mem_map_of_mem hz
    refine ⟨?_, ((hx _ hm).2 z rfl).1⟩
    have q := List.all_eq_true.mp e2.1 (stepV (.str z)) (List.mem_map_of_mem hm)
    exact q
theorem step_form {z : Str} (h : stepS z = true) : ∃ rs, formOf (hw z) = some rs := by
  obtain ⟨w0, wr, ew, r', er⟩ := stepW_cons z
  have e1 : hw z = w0 := by
    show (Txt.split z " ").headD "" = w0
    rw [ew]
    rfl
  have e2 : stepS z = formS (stepW z) (formOf w0) := by
    show formS (stepW z) (formOf ((stepW z).headD "")) = _
    rw [er]
    rfl
  rw [e1]
  cases hf : formOf w0 with
  | none =>
    rw [e2, hf] at h
    cases h
  | some rs => exact ⟨rs, rfl⟩
theorem Bx.trans {x : Addr} {H H1 H2 : Hp} (a : Bx x H H1) (b : Bx x H1 H2) : Bx x H H2 := fun c o h n => b c o (a c o h n) n
theorem Bx.of {x : Addr} {H H1 : Hp} {o : HO} (s : Same H H1) : Bx x H (upd H1 x o) := fun c u h n => by rw [upd_ne n]; exact s _ _ h
theorem Bx.sq {K : PySem.W.Frag} {x T C dx : Addr} {H H' : Hp} {xs : List V} {fs : List (Str × V)} (b : Bx x H H') (hx : H x = some (.ins C dx fs)) (h : SqT K H T xs) : SqT K H' T xs := by
  rcases h with (h | ⟨o, h⟩) | h
  · exact .inl (.inl (b _ _ h (fun e => by rw [e, hx] at h; cases h)))
  · exact .inl (.inr ⟨o, b _ _ h (fun e => by rw [e, hx] at h; cases h)⟩)
  · exact .inr h
theorem Bx.sl {K : PySem.W.Frag} {x T C dx : Addr} {H H' : Hp} {xs : List V} {fs : List (Str × V)} (b : Bx x H H') (hx : H x = some (.ins C dx fs)) (h : SqL K H T xs) : SqL K H' T xs := by
  rcases h with (h | ⟨o, h⟩) | h
  · exact .inl (.inl (b _ _ h (fun e => by rw [e, hx] at h; cases h)))
  · exact .inl (.inr ⟨o, b _ _ h (fun e => by rw [e, hx] at h; cases h)⟩)
  · exact .inr h
theorem Bx.sa {K : PySem.W.Frag} {x T C dx : Addr} {H H' : Hp} {xs : List V} {fs : List (Str × V)} (b : Bx x H H') (hx : H x = some (.ins C dx fs)) (h : SqA K H T xs) : SqA K H' T xs := h.elim (fun q => .inl (b.sl hx q)) (fun q => .inr (b.sq hx q))
theorem Bx.lot {x T C dx : Addr} {H H' : Hp} {ks : List Str} {fs : List (Str × V)} (b : Bx x H H') (hx : H x = some (.ins C dx fs)) (h : Lot H T ks) : Lot H' T ks := by
  obtain ⟨ys, h1, h2, h3⟩ := h
  exact ⟨ys, b _ _ h1 (fun e => by rw [e, hx] at h1; cases h1), h2, h3⟩
section
variable {P : Program} {w : World} {K : PySem.W.Frag} {mg : Str → Option Value} {base : Heap}
theorem scKI : FnScope ["self", "name", "texts", "word", "forms"] ["self", "name", "texts", "word"] (defScope sKI) := ⟨rfl, rfl, rfl, by decide +kernel, rfl, by decide +kernel, by decide +kernel⟩
theorem ok_KI {f fN fS fL C CK d bW : Addr} {fd fdN fdS fdL : FuncData} {es : Array DictEntry} {n : Nat} {tab : List (Str × V)} (F : FunD K "__init__" "Reader.__init__" (defArgs sKI) (defBody sKI) (defScope sKI) [.str "once"] [] f fd) (T : TabAt K w mg d es n tab) (B : Bl mg) (md : mg "dict" = none) (mt : mg "tuple" = none) (WM : CmpAt K mg "WORDS" bW WDS)
    (GN : FnOk P w K mg base CX0 1 fN fdN ["value"] (spName K)) (bN : Binds K fdN ["value"] []) (kN : PySem.W.keepIn K (.ref fN) = true) (mN : mg "is_name" = some (.ref fN))
    (GS : FnOk P w K mg base CX0 5 fS fdS ["texts"] (spScript K)) (bS : Binds K fdS ["texts"] []) (kS : PySem.W.keepIn K (.ref fS) = true) (mS : mg "is_reader_script" = some (.ref fS))
    (GL : FnOk P w K mg base CX0 1 fL fdL ["texts", "forms", "role"] (spLot K)) (bL : Binds K fdL ["texts", "forms", "role"] []) (kL : PySem.W.keepIn K (.ref fL) = true) (mL : mg "lot_of_role" = some (.ref fL))
    (IK : InitX P w K mg base "InvalidReader" CK "word") (cl : Cls K C) (na : ∀ f ∈ (["name", "texts", "word", "slots", "parts", "counters"] : List Str), NoAttr K C f) :
    FnOk P w K mg base (L2.CX P w) 6 f fd ["self", "name", "texts", "word"] (spRI K C CK) := by
  refine F.ok scKI (fun vs H Q E h => ?_) (fun cdv A outer s H vs Q E hr h => ?_)
  · obtain ⟨_, _, _, _, _, _, _, _, _, _, _, _, _, _, _, _, _, rfl, _⟩ := h
    rfl
  obtain ⟨x, dx, nm, tx, wo, ks, ki, kb, kl, kt, r, ks', ki', kb', kl', kt', xs, rfl, hx, kn, ht, sc, kw, rN, rT, rW, kY⟩ := h
  have hr1 : Room 1 _ := hr.mono (by omega)
  have hr2 : Room 2 _ := hr.mono (by omega)
  refine ⟨_, pss_cons (ps_if (pt_not (pt_val (pe_call GN hr1 rfl mN kN bN .nil pass0 (pa_cons (pv 1) pa_nil)))) (pss_one (ps_raiseX rfl IK hr2 (takes_of rfl rfl rfl rfl) rfl (pa_cons pe_str pa_nil))) pss_nil)
    (pss_cons (ps_if (pt_not (pt_val (pe_call GS hr rfl mS kS bS .nil pass0 (pa_cons (pv 2) pa_nil)))) (pss_one (ps_raiseX rfl IK hr2 (takes_of rfl rfl rfl rfl) rfl (pa_cons pe_str pa_nil))) pss_nil)
    (pss_cons (ps_if (PW.pt (pw_or (pt_not (pt_val (pe_callB call_isi rfl B.isi (by decide +kernel) (pa_cons (pv 3) (pa_cons (pe_bltn (v := .ty "str") rfl B.str (by decide +kernel) rfl) pa_nil))))) (pw_or1 (pt_cmpR op_notIn_seq (pv 3) (C8.pe_gc rfl WM.gl) (by with_unfolding_all rfl)))))
      (pss_one (ps_raiseX rfl IK hr2 (takes_of rfl rfl rfl rfl) rfl (pa_cons pe_str pa_nil))) pss_nil)
    (pss_cons (ps_fld (pv 0) (pv 1) rfl)
    (pss_cons (ps_fld (pv 0) (pe_callTy call_tuple_of rfl mt (by decide +kernel) (pa_cons (pv 2) pa_nil)) rfl)
    (pss_cons (ps_fld (pv 0) (pv 3) rfl)
    (pss_cons (ps_set (i := 4) scKI.nd rfl (.inl rfl) (pe_callTy (call_dictK T.kd T.en T.nd T.sz) rfl md (by decide +kernel) (pa_cons (C8.pe_gc rfl T.gl) pa_nil)))
    (pss_cons (ps_fld (pv 0) (pe_call GL hr1 rfl mL kL bL .nil pass0 (pa_cons (pv 2) (pa_cons (pv 4) (pa_cons pe_str pa_nil)))) rfl)
    (pss_cons (ps_fld (pv 0) (pe_call GL hr1 rfl mL kL bL .nil pass0 (pa_cons (pv 2) (pa_cons (pv 4) (pa_cons pe_str pa_nil)))) rfl)
    (pss_one (ps_fld (pv 0) (pe_call GL hr1 rfl mL kL bL .nil pass0 (pa_cons (pv 2) (pa_cons (pv 4) (pa_cons pe_str pa_nil)))) rfl)))))))))), ?_⟩
  refine ⟨_, rfl, nm, ks, ki, kb, kl, kt, rfl, kn H (fun _ _ h => h), fun z hz => by have := (ht z hz).1; omega, fun H1 s1 => ?_⟩
  refine ⟨_, rfl, ?_⟩
  cases hn : nmV nm with
  | false =>
    refine ifT rfl ?_
    exact rd_raise IK.no s1 (rN hn)
  | true =>
    refine ifF rfl ?_
    refine ⟨_, rfl, tx, r, xs, rfl, ScX.keep sc s1, fun H2 s2 => ?_⟩
    refine ⟨_, rfl, ?_⟩
    cases hrr : r with
    | false =>
      refine ifT rfl ?_
      exact rd_raise IK.no (s1.trans s2) (rT hn hrr)
    | true =>
      refine ifF rfl ?_
      obtain ⟨a, zs, rfl, exs, hS, h10, hst, hh⟩ := ScX.inv sc hrr
      have s3 := s1.trans s2
      -- the word
      dsimp only [tNext]
      refine seq_first (fun σ H4 => σ = [some (.ref x), some nm, some (.ref a), some wo, none] ∧ Same H H4 ∧ wdV wo = true) ?rest0 fun rest0 => ?word
      case word =>
        obtain ⟨ty, hT, k1, _⟩ := (kw H2 s3).ty
        refine ⟨_, rfl, wo, .ty "str", ty, _, ks', rfl, .ty "str", hT, k1, ks', rfl, ?_⟩
        cases ks' with
        | false =>
          refine ifT rfl ?_
          refine rd_raise IK.no s3 (rW hn hrr ?_)
          cases wo with
          | str z => exact absurd rfl ((kw H2 s3).nstr rfl z)
          | _ => rfl
        | true =>
          obtain ⟨z, rfl⟩ := (kw H2 s3).str rfl
          refine ifF rfl ?_
          refine ⟨_, rfl, bW, _, rfl, .inr (WM.tu _), rfl, flat_strs WDS, _, rfl, ?_⟩
          show if (!inV (.str z) (WDS.map V.str)) = true then _ else _
          cases hw2 : inV (.str z) (WDS.map V.str) with
          | false => exact ifT rfl (rd_raise IK.no s3 (rW hn hrr hw2))
          | true => exact ifF rfl (rest0 _ _ ⟨rfl, s3, hw2⟩)
      clear s3
      rintro σ H2 ⟨rfl, s3, hwo⟩
      have hx2 := s3 _ _ hx
      refine ⟨_, rfl, _, rfl, x, C, dx, [], rfl, hx2, cl, na _ (by simp), (by simp), ?_⟩
      have b3 : Bx x H (upd H2 x (.ins C dx [("name", nm)])) := Bx.of s3
      have hx3 : (upd H2 x (.ins C dx [("name", nm)])) x = some (.ins C dx [("name", nm)]) := upd_same
      dsimp only
      refine seq_first (fun σ H4 => σ = [some (.ref x), some nm, some (.ref a), some wo, none] ∧ Bx x H H4 ∧ ∃ T1, H4 x = some (.ins C dx [("name", nm), ("texts", .ref T1)]) ∧ SqT K H4 T1 (zs.map V.str)) ?rest fun rest => ?first
      case first =>
        have hS3 := b3.sa hx hS
        refine ⟨_, rfl, a, zs.map V.str, rfl, ?_⟩
        rcases hS3 with hL | hT
        · refine .inl ⟨hL, fun T hT => ?_⟩
          have nxT : x ≠ T := ne_of_none hx3 hT
          refine ⟨_, rfl, x, C, dx, [("name", nm)], rfl, by rw [upd_ne nxT]; exact hx3, cl, na _ (by simp), (by simp), ?_⟩
          refine rest _ _ ⟨rfl, b3.trans (Bx.of (Same.new hT)), T, upd_same, .inl (.inl ?_)⟩
          rw [upd_ne nxT.symm]
          exact upd_same
        · refine .inr ⟨hT, ?_⟩
          refine ⟨_, rfl, x, C, dx, [("name", nm)], rfl, hx3, cl, na _ (by simp), (by simp), ?_⟩
          have b4 : Bx x (upd H2 x (.ins C dx [("name", nm)])) (upd (upd H2 x (.ins C dx [("name", nm)])) x (.ins C dx [("name", nm), ("texts", .ref a)])) := Bx.of (fun _ _ h => h)
          exact rest _ _ ⟨rfl, b3.trans b4, a, upd_same, b4.sq hx3 hT⟩
      case rest =>
        rintro σ H4' ⟨rfl, b4', T1, hx4', hT1'⟩
        refine ⟨_, rfl, _, rfl, x, C, dx, _, rfl, hx4', cl, na _ (by simp), (by simp), ?_⟩
        rw [show putF ("word" : Str) wo [("name", nm), ("texts", V.ref T1)] = ([("name", nm), ("texts", V.ref T1), ("word", wo)] : List (Str × V)) from rfl]
        have b40 : Bx x H4' (upd H4' x (.ins C dx [("name", nm), ("texts", .ref T1), ("word", wo)])) := Bx.of (fun _ _ h => h)
        have b4 := b4'.trans b40
        have hT1 := b40.sq hx4' hT1'
        have hx4 : (upd H4' x (.ins C dx [("name", nm), ("texts", .ref T1), ("word", wo)])) x = some (.ins C dx [("name", nm), ("texts", .ref T1), ("word", wo)]) := upd_same
        generalize upd H4' x (.ins C dx [("name", nm), ("texts", .ref T1), ("word", wo)]) = H4 at b4 hT1 hx4 ⊢
        clear b4' hx4' hT1' b40
        refine ⟨rfl, fun fm hfm => ?_⟩
        have tabz : ∀ z ∈ zs, z.length + 2 ≤ sizeLine ∧ TabF K (kvsOf tab) z := fun z hz => by
          obtain ⟨q1, q2⟩ := hst z hz
          obtain ⟨rs, hrs⟩ := step_form q1
          obtain ⟨v, g1, g2, g3⟩ := T.get (hw z) rs hrs
          exact ⟨q2, v, rs, g1, hrs, g2, g3⟩
        have nxf : x ≠ fm := ne_of_none hx4 hfm
        have hx5 : (upd H4 fm (.dK (kvsOf tab))) x = some (.ins C dx [("name", nm), ("texts", .ref T1), ("word", wo)]) := by rw [upd_ne nxf]; exact hx4
        have b5 : Bx x H (upd H4 fm (.dK (kvsOf tab))) := b4.trans (fun c o h _ => Same.new hfm c o h)
        have hf5 : (upd H4 fm (.dK (kvsOf tab))) fm = some (.dK (kvsOf tab)) := upd_same
        have hT5 : SqT K (upd H4 fm (.dK (kvsOf tab))) T1 (zs.map V.str) := Same.seqTx (Same.new hfm) hT1
        -- slots
        refine ⟨_, rfl, _, rfl, a, fm, zs, kvsOf tab, "slot", rfl, b5.sa hx hS, hf5, tabz, h10, fun T2 y2 H6 s6 t2 p2 o2 => ?_⟩
        refine ⟨_, rfl, x, C, dx, _, rfl, s6 _ _ hx5, cl, na _ (by simp), (by simp), ?_⟩
        have b6 : Bx x (upd H4 fm (.dK (kvsOf tab))) (upd H6 x (.ins C dx [("name", nm), ("texts", .ref T1), ("word", wo), ("slots", .ref T2)])) := Bx.of s6
        have l6 : Lot (upd H6 x (.ins C dx [("name", nm), ("texts", .ref T1), ("word", wo), ("slots", .ref T2)])) T2 (lotS "slot" zs) := ⟨y2, by rw [upd_ne (fun e => by rw [e, s6 _ _ hx5] at t2; cases t2)]; exact t2, p2, o2⟩
        have hx6 : (upd H6 x (.ins C dx [("name", nm), ("texts", .ref T1), ("word", wo), ("slots", .ref T2)])) x = some (.ins C dx [("name", nm), ("texts", .ref T1), ("word", wo), ("slots", .ref T2)]) := upd_same
        -- parts
        refine ⟨_, rfl, _, rfl, a, fm, zs, kvsOf tab, "part", rfl, (b5.trans b6).sa hx hS, b6 _ _ hf5 nxf.symm, tabz, h10, fun T3 y3 H7 s7 t3 p3 o3 => ?_⟩
        refine ⟨_, rfl, x, C, dx, _, rfl, s7 _ _ hx6, cl, na _ (by simp), (by simp), ?_⟩
        have b7 : Bx x (upd H6 x (.ins C dx [("name", nm), ("texts", .ref T1), ("word", wo), ("slots", .ref T2)])) (upd H7 x (.ins C dx [("name", nm), ("texts", .ref T1), ("word", wo), ("slots", .ref T2), ("parts", .ref T3)])) := Bx.of s7
        have l7 : Lot (upd H7 x (.ins C dx [("name", nm), ("texts", .ref T1), ("word", wo), ("slots", .ref T2), ("parts", .ref T3)])) T3 (lotS "part" zs) := ⟨y3, by rw [upd_ne (fun e => by rw [e, s7 _ _ hx6] at t3; cases t3)]; exact t3, p3, o3⟩
        have hx7 : (upd H7 x (.ins C dx [("name", nm), ("texts", .ref T1), ("word", wo), ("slots", .ref T2), ("parts", .ref T3)])) x = some (.ins C dx [("name", nm), ("texts", .ref T1), ("word", wo), ("slots", .ref T2), ("parts", .ref T3)]) := upd_same
        -- counters
        refine ⟨_, rfl, _, rfl, a, fm, zs, kvsOf tab, "counter", rfl, ((b5.trans b6).trans b7).sa hx hS, (b6.trans b7) _ _ hf5 nxf.symm, tabz, h10, fun T4 y4 H8 s8 t4 p4 o4 => ?_⟩
        refine ⟨_, rfl, x, C, dx, _, rfl, s8 _ _ hx7, cl, na _ (by simp), (by simp), ?_⟩
        have b8 : Bx x (upd H7 x (.ins C dx [("name", nm), ("texts", .ref T1), ("word", wo), ("slots", .ref T2), ("parts", .ref T3)])) (upd H8 x (.ins C dx [("name", nm), ("texts", .ref T1), ("word", wo), ("slots", .ref T2), ("parts", .ref T3), ("counters", .ref T4)])) := Bx.of s8
        have l8 : Lot (upd H8 x (.ins C dx [("name", nm), ("texts", .ref T1), ("word", wo), ("slots", .ref T2), ("parts", .ref T3), ("counters", .ref T4)])) T4 (lotS "counter" zs) := ⟨y4, by rw [upd_ne (fun e => by rw [e, s8 _ _ hx7] at t4; cases t4)]; exact t4, p4, o4⟩
        refine kY hn hrr hwo a zs _ rfl exs hS (fun z hz => (hst z hz).1) hh (((b5.trans b6).trans b7).trans b8) ⟨dx, T1, T2, T3, T4, upd_same, ?_, ?_, ?_, l8⟩
        · exact ((b6.trans b7).trans b8).sq hx5 hT5
        · exact (b7.trans b8).lot hx6 l6
        · exact b8.lot hx7 l7
end
end My

set_option Elab.async false
set_option maxRecDepth 100000
set_option maxHeartbeats 4000000
namespace My
open PySem L2
abbrev sKLen : Stmt := inClass (top 31) 5
abbrev sKStr : Stmt := inClass (top 31) 6
/-- the text of a reader -/
def readerText (nm wo : Str) (zs : List Str) : Str := ((((Str.empty ++ ("reader " : Str)) ++ nm) ++ (" " : Str)) ++ wo ++ (": " : Str)) ++ Txt.join ", " zs
def spKLen (K : PySem.W.Frag) (C : Addr) : Sp := fun vs H Q _ => ∃ (x : Addr) (nm wo : V) (zs : List Str), vs = [.ref x] ∧ ReaderAt K H x C nm wo zs ∧ Q (.int zs.length) H
def spKStr (K : PySem.W.Frag) (C : Addr) : Sp := fun vs H Q _ => ∃ (x : Addr) (nm wo : Str) (zs : List Str), vs = [.ref x] ∧ ReaderAt K H x C (.str nm) (.str wo) zs ∧ nm.length ≤ 1000 ∧ wo.length ≤ 1000 ∧ zs.length ≤ 100 ∧ (∀ z ∈ zs, z.length ≤ 1000) ∧ Q (.str (readerText nm wo zs)) H
section
variable {P : Program} {w : World} {K : PySem.W.Frag} {mg : Str → Option Value} {base : Heap}
theorem scKLen : FnScope ["self"] ["self"] (defScope sKLen) := ⟨rfl, rfl, rfl, by decide +kernel, rfl, by decide +kernel, by decide +kernel⟩
theorem scKStr : FnScope ["self"] ["self"] (defScope sKStr) := ⟨rfl, rfl, rfl, by decide +kernel, rfl, by decide +kernel, by decide +kernel⟩
theorem ok_KLen {f C : Addr} {fd : FuncData} (F : Fun K "__len__" "Reader.__len__" sKLen f fd) (ml : mg "len" = none) (cl : Cls K C) (na : NoAttr K C "texts") : FnOk P w K mg base CX0 1 f fd ["self"] (spKLen K C) := by
  refine F.ok scKLen (fun vs H Q E h => ?_) (fun cdv A outer s H vs Q E hr h => ?_)
  · obtain ⟨x, _, _, _, rfl, _⟩ := h
    rfl
  obtain ⟨x, nm, wo, zs, rfl, ⟨dx, T1, T2, T3, T4, hx, hT, _⟩, k⟩ := h
  refine ⟨_, pss_one (ps_ret (pe_callB call_len_seq rfl ml (by decide +kernel) (pa_cons (pe_fld (pv 0) rfl) pa_nil))), ?_⟩
  refine ⟨_, rfl, x, C, dx, _, .ref T1, rfl, hx, cl, na, rfl, ?_⟩
  refine ⟨T1, _, rfl, .inr hT, ?_⟩
  rw [List.length_map]
  exact k
theorem sum_le {zs : List Str} {m : Nat} (h : ∀ z ∈ zs, z.length ≤ m) : (zs.map (·.length)).sum ≤ m * zs.length := by
  induction zs with
  | nil => simp
  | cons z r ih =>
    have q1 := h z List.mem_cons_self
    have q2 := ih fun y hy => h y (List.mem_cons_of_mem _ hy)
    simp only [List.map_cons, List.sum_cons, List.length_cons, Nat.mul_succ]
    omega
theorem ok_KStr {f C : Addr} {fd : FuncData} (F : Fun K "__str__" "Reader.__str__" sKStr f fd) (cl : Cls K C) (na : NoAttr K C "name") (nt : NoAttr K C "texts") (nw : NoAttr K C "word") : FnOk P w K mg base CX0 1 f fd ["self"] (spKStr K C) := by
  refine F.ok scKStr (fun vs H Q E h => ?_) (fun cdv A outer s H vs Q E hr h => ?_)
  · obtain ⟨x, _, _, _, rfl, _⟩ := h
    rfl
  obtain ⟨x, nm, wo, zs, rfl, ⟨dx, T1, T2, T3, T4, hx, hT, _⟩, hn, hw, h100, hz, k⟩ := h
  refine ⟨_, pss_one (ps_ret (pe_joined (.cons pe_str (.cons (pe_fmt (pe_fld (pv 0) rfl)) (.cons pe_str (.cons (pe_fmt (pe_fld (pv 0) rfl)) (.cons pe_str (.cons (pe_fmt (pe_join pe_str (pe_fld (pv 0) rfl))) .nil)))))))), ?_⟩
  have hs := sum_le hz
  have hm : 1000 * zs.length ≤ 100000 := by omega
  have hj : (Txt.join ", " zs).length ≤ (zs.map (·.length)).sum + zs.length * 2 := by
    show (Builtin.Str.glued ", " zs).length ≤ _
    rw [StrLaws.glued_eq_join]
    exact StrLaws.join_length_le ", " zs
  have big : ∀ n : Nat, n ≤ 200000 → n ≤ sizeLine := fun n h => Nat.le_trans h (by decide)
  have l5 : ("reader " : Str).length = 7 := by decide +kernel
  have l1 : (" " : Str).length = 1 := by decide +kernel
  have l2 : (": " : Str).length = 2 := by decide +kernel
  have l0 : Str.empty.length = 0 := rfl
  refine ⟨"reader ", rfl, big _ (by rw [Str.length_append]; omega), ?_⟩
  refine ⟨_, rfl, x, C, dx, _, .str nm, rfl, hx, cl, na, rfl, .inl ⟨nm, rfl, big _ (by omega), ?_⟩⟩
  refine ⟨nm, rfl, big _ (by rw [Str.length_append, Str.length_append]; omega), ?_⟩
  refine ⟨" ", rfl, big _ (by rw [Str.length_append, Str.length_append, Str.length_append]; omega), ?_⟩
  refine ⟨_, rfl, x, C, dx, _, .str wo, rfl, hx, cl, nw, rfl, .inl ⟨wo, rfl, big _ (by omega), ?_⟩⟩
  refine ⟨wo, rfl, big _ (by rw [Str.length_append, Str.length_append, Str.length_append, Str.length_append]; omega), ?_⟩
  refine ⟨": ", rfl, big _ (by rw [Str.length_append, Str.length_append, Str.length_append, Str.length_append, Str.length_append]; omega), ?_⟩
  refine ⟨⟨_, rfl⟩, ?_⟩
  refine ⟨_, rfl, x, C, dx, _, .ref T1, rfl, hx, cl, nt, rfl, ?_⟩
  refine ⟨", ", T1, zs, rfl, rfl, .inr hT, ?_, .inl ⟨_, rfl, big _ (by omega), ?_⟩⟩
  · have l3 : (", " : Str).length = 2 := by decide +kernel
    rw [l3]
    omega
  refine ⟨_, rfl, big _ (by rw [Str.length_append, Str.length_append, Str.length_append, Str.length_append, Str.length_append, Str.length_append]; omega), ?_⟩
  exact k
end
end My

set_option Elab.async false
set_option maxRecDepth 100000
set_option maxHeartbeats 4000000
/-! texts with one left out, one put in. -/
namespace My
open PySem L2
abbrev sWith : Stmt := top 18
abbrev sWithout : Stmt := top 19
theorem ix_nat (L n dflt : Nat) : HT.sIx L dflt (some (n : Int)) = min n L := by
  unfold HT.sIx
  simp
  omega
theorem cut_take (xs : List V) (n : Nat) : cutV xs none (some (n : Int)) = xs.take n := by
  unfold cutV
  rw [ix_nat]
  have e : HT.sIx xs.length 0 none = 0 := rfl
  rw [e, List.drop_zero, Nat.sub_zero]
  by_cases h : n ≤ xs.length
  · rw [Nat.min_eq_left h]
  · rw [Nat.min_eq_right (by omega), List.take_length, List.take_of_length_le (by omega)]
theorem cut_drop (xs : List V) (n : Nat) : cutV xs (some (n : Int)) none = xs.drop n := by
  unfold cutV
  rw [ix_nat]
  have e : HT.sIx xs.length xs.length none = xs.length := rfl
  rw [e]
  by_cases h : n ≤ xs.length
  · rw [Nat.min_eq_left h, List.take_of_length_le (by rw [List.length_drop]; omega)]
  · rw [Nat.min_eq_right (by omega), List.drop_length, List.drop_of_length_le (by omega)]
    exact List.take_nil
/-- with_text(texts, at, text) -/
def spWith (K : PySem.W.Frag) : Sp := fun vs H Q _ => ∃ (a : Addr) (xs : List V) (n : Nat) (y : V), vs = [.ref a, .int n, y] ∧ SqL K H a xs ∧ xs.length ≤ 1000 ∧ ∀ (L : Addr) (H' : Hp), Same H H' → H' L = some (.lst (xs.take n ++ (y :: xs.drop n))) → Q (.ref L) H'
/-- without_text(texts, at) -/
def spWithout (K : PySem.W.Frag) : Sp := fun vs H Q _ => ∃ (a : Addr) (xs : List V) (n : Nat), vs = [.ref a, .int n] ∧ SqT K H a xs ∧ xs.length ≤ 1000 ∧ ∀ (L : Addr) (H' : Hp), Same H H' → H' L = some (.lst (xs.take n ++ xs.drop (n + 1))) → Q (.ref L) H'
section
variable {P : Program} {w : World} {K : PySem.W.Frag} {mg : Str → Option Value} {base : Heap}
theorem small2000 {n : Nat} (h : n ≤ 2000) : n < sizeLine := Nat.lt_of_le_of_lt h (by decide)
theorem slA {H : Hp} {Q : VK} {a : Addr} {xs : List V} {lo hi : Option Int} (hS : SqT K H a xs) (k : ∀ (T : Addr) (H' : Hp), Same H H' → SqT K H' T (cutV xs lo hi) → Q (.ref T) H') : rSlA K (.ref a) lo hi H Q := by
  refine ⟨a, xs, rfl, hS, fun ⟨e1, e2⟩ => k a H (fun _ _ h => h) ?_, fun _ p hp => k p _ (Same.new hp) (.inl (.inl upd_same))⟩
  have e : cutV xs lo hi = xs := by
    unfold cutV
    rw [e1, e2, List.drop_zero, Nat.sub_zero, List.take_length]
  rw [e]
  exact hS
theorem scWith : FnScope ["texts", "at", "text"] ["texts", "at", "text"] (defScope sWith) := ⟨rfl, rfl, rfl, by decide +kernel, rfl, by decide +kernel, by decide +kernel⟩
theorem scWithout : FnScope ["texts", "at"] ["texts", "at"] (defScope sWithout) := ⟨rfl, rfl, rfl, by decide +kernel, rfl, by decide +kernel, by decide +kernel⟩
theorem ok_with {f : Addr} {fd : FuncData} (F : Fun K "with_text" "with_text" sWith f fd) : FnOk P w K mg base CX0 1 f fd ["texts", "at", "text"] (spWith K) := by
  refine F.ok scWith (fun vs H Q E h => ?_) (fun cdv A outer s H vs Q E hr h => ?_)
  · obtain ⟨_, _, _, _, rfl, _⟩ := h
    rfl
  obtain ⟨a, xs, n, y, rfl, hS, hl, k⟩ := h
  refine ⟨_, pss_one (ps_ret (pe_lst (StX.pa_star (pe_slice sl_list (pv 0) po_none (po_some (pv 1))) (pa_cons (pv 2) (StX.pa_star (pe_slice sl_list (pv 0) (po_some (pv 1)) po_none) pa_nil))))), ?_⟩
  refine ⟨_, rfl, _, rfl, n, rfl, a, xs, rfl, hS, fun T hT => ?_⟩
  rw [cut_take]
  have s1 : Same H (upd H T (.lst (xs.take n))) := Same.new hT
  refine ⟨T, _, rfl, .inr (SqL.of upd_same), ?_⟩
  refine ⟨_, rfl, ?_⟩
  refine ⟨_, rfl, _, rfl, n, rfl, ?_⟩
  dsimp only [tNoPart]
  refine ⟨a, xs, rfl, Same.seqLx s1 hS, fun T2 hT2 => ?_⟩
  rw [cut_drop]
  have s2 := s1.trans (Same.new (o := .lst (xs.drop n)) hT2)
  refine ⟨T2, _, rfl, .inr (SqL.of upd_same), ?_⟩
  have hle : (xs.take n ++ (y :: (xs.drop n ++ []))).length ≤ sizeLine := by
    rw [List.append_nil, List.length_append, List.length_cons, List.length_take, List.length_drop]
    exact Nat.le_of_lt (small2000 (by omega))
  refine ⟨hle, fun L hL => ?_⟩
  rw [List.append_nil]
  exact k L _ (s2.trans (Same.new hL)) upd_same
theorem ok_without {f : Addr} {fd : FuncData} (F : Fun K "without_text" "without_text" sWithout f fd) : FnOk P w K mg base CX0 1 f fd ["texts", "at"] (spWithout K) := by
  refine F.ok scWithout (fun vs H Q E h => ?_) (fun cdv A outer s H vs Q E hr h => ?_)
  · obtain ⟨_, _, _, rfl, _⟩ := h
    rfl
  obtain ⟨a, xs, n, rfl, hS, hl, k⟩ := h
  refine ⟨_, pss_one (ps_ret (pe_lst (StX.pa_star (pe_slice sl_tupA (pv 0) po_none (po_some (pv 1))) (StX.pa_star (pe_slice sl_tupA (pv 0) (po_some (pe_op op_add (pv 1) pe_int)) po_none) pa_nil)))), ?_⟩
  refine ⟨_, rfl, _, rfl, n, rfl, slA hS fun T H1 s1 q1 => ?_⟩
  rw [cut_take] at q1
  refine ⟨T, _, rfl, .inl q1, ?_⟩
  refine ⟨_, rfl, _, rfl, _, _, rfl, rfl, ((n + 1 : Nat) : Int), rfl, ?_⟩
  dsimp only [tNoPart]
  refine slA (Same.seqTx s1 hS) fun T2 H2 s2 q2 => ?_
  rw [cut_drop] at q2
  refine ⟨T2, _, rfl, .inl q2, ?_⟩
  have hle : (xs.take n ++ (xs.drop (n + 1) ++ [])).length ≤ sizeLine := by
    rw [List.append_nil, List.length_append, List.length_take, List.length_drop]
    exact Nat.le_of_lt (small2000 (by omega))
  refine ⟨hle, fun L hL => ?_⟩
  rw [List.append_nil]
  exact k L _ ((s1.trans s2).trans (Same.new hL)) upd_same
end
end My

set_option Elab.async false
set_option maxRecDepth 100000
set_option maxHeartbeats 4000000
/-! integers, numbers, numbers below. -/
namespace My
open PySem L2
def nuV : V → Bool
  | .int n => decide (0 ≤ n)
  | _ => false
def beV (m : Int) : V → Bool
  | .int n => decide (n < m)
  | _ => false
def spInteger (K : PySem.W.Frag) : Sp := fun vs H Q _ => ∃ (x : V) (s i b l t : Bool), vs = [x] ∧ Knd K H x s i b l t ∧ Q (.bl (i && !b)) H
def spNumber (K : PySem.W.Frag) : Sp := fun vs H Q _ => ∃ (x : V) (s i b l t : Bool), vs = [x] ∧ Knd K H x s i b l t ∧ Q (.bl ((i && !b) && nuV x)) H
def spBelow (K : PySem.W.Frag) : Sp := fun vs H Q _ => ∃ (x : V) (m : Int) (s i b l t : Bool), vs = [x, .int m] ∧ Knd K H x s i b l t ∧ Q (.bl (((i && !b) && nuV x) && beV m x)) H
section
variable {P : Program} {w : World} {K : PySem.W.Frag} {mg : Str → Option Value} {base : Heap}
theorem scInteger : FnScope ["value"] ["value"] (defScope sIsInteger) := ⟨rfl, rfl, rfl, by decide +kernel, rfl, by decide +kernel, by decide +kernel⟩
theorem scNumber : FnScope ["value"] ["value"] (defScope sIsNumber) := ⟨rfl, rfl, rfl, by decide +kernel, rfl, by decide +kernel, by decide +kernel⟩
theorem scBelow : FnScope ["value", "many"] ["value", "many"] (defScope sIsBelow) := ⟨rfl, rfl, rfl, by decide +kernel, rfl, by decide +kernel, by decide +kernel⟩
theorem ok_integer {f : Addr} {fd : FuncData} (F : Fun K "is_integer" "is_integer" sIsInteger f fd) (B : Bl mg) : FnOk P w K mg base CX0 1 f fd ["value"] (spInteger K) := by
  refine F.ok scInteger (fun vs H Q E h => ?_) (fun cdv A outer s H vs Q E hr h => ?_)
  · obtain ⟨x, _, _, _, _, _, rfl, _⟩ := h
    rfl
  obtain ⟨x, s, i, b, l, t, rfl, kn, k⟩ := h
  refine ⟨_, pss_one (ps_ret (pe_and (pe_callB call_isi rfl B.isi (by decide +kernel) (pa_cons (pv 0) (pa_cons (pe_bltn (v := .ty "int") rfl B.int (by decide +kernel) rfl) pa_nil)))
    (pe_one (pe_not (pe_callB call_isi rfl B.isi (by decide +kernel) (pa_cons (pv 0) (pa_cons (pe_bltn (v := .ty "bool") rfl B.bool (by decide +kernel) rfl) pa_nil))))))), ?_⟩
  obtain ⟨T, hT, _, k2, k3, _⟩ := kn.ty
  refine ⟨_, rfl, x, .ty "int", T, _, i, rfl, .ty "int", hT, k2, i, rfl, ?_⟩
  cases i with
  | false => exact ifF rfl k
  | true =>
    refine ifT rfl ?_
    exact ⟨_, rfl, x, .ty "bool", T, _, b, rfl, .ty "bool", hT, k3, b, rfl, k⟩
theorem ok_number {f fI : Addr} {fd fdI : FuncData} (F : Fun K "is_number" "is_number" sIsNumber f fd) (GI : FnOk P w K mg base CX0 1 fI fdI ["value"] (spInteger K)) (bI : Binds K fdI ["value"] []) (kI : PySem.W.keepIn K (.ref fI) = true) (mI : mg "is_integer" = some (.ref fI)) :
    FnOk P w K mg base CX0 2 f fd ["value"] (spNumber K) := by
  refine F.ok scNumber (fun vs H Q E h => ?_) (fun cdv A outer s H vs Q E hr h => ?_)
  · obtain ⟨x, _, _, _, _, _, rfl, _⟩ := h
    rfl
  obtain ⟨x, s, i, b, l, t, rfl, kn, k⟩ := h
  refine ⟨_, pss_one (ps_ret (pe_and (pe_call GI hr rfl mI kI bI .nil pass0 (pa_cons (pv 0) pa_nil)) (pe_one (pe_cmpR op_ge (pv 0) pe_int (nomark _))))), ?_⟩
  refine ⟨_, rfl, x, s, i, b, l, t, rfl, kn, _, rfl, ?_⟩
  cases hi : (i && !b) with
  | false =>
    rw [hi] at k
    exact ifF rfl k
  | true =>
    rw [hi] at k
    refine ifT rfl ?_
    have h1 : i = true := (Bool.and_eq_true_iff.mp hi).1
    have h2 : b = false := by
      have q := (Bool.and_eq_true_iff.mp hi).2
      cases b
      · rfl
      · cases q
    obtain ⟨n, rfl⟩ := kn.int h1 h2
    exact ⟨_, rfl, _, _, rfl, rfl, k⟩
theorem ok_below {f fI : Addr} {fd fdI : FuncData} (F : Fun K "is_number_below" "is_number_below" sIsBelow f fd) (GI : FnOk P w K mg base CX0 2 fI fdI ["value"] (spNumber K)) (bI : Binds K fdI ["value"] []) (kI : PySem.W.keepIn K (.ref fI) = true) (mI : mg "is_number" = some (.ref fI)) :
    FnOk P w K mg base CX0 3 f fd ["value", "many"] (spBelow K) := by
  refine F.ok scBelow (fun vs H Q E h => ?_) (fun cdv A outer s H vs Q E hr h => ?_)
  · obtain ⟨x, _, _, _, _, _, _, rfl, _⟩ := h
    rfl
  obtain ⟨x, m, s, i, b, l, t, rfl, kn, k⟩ := h
  refine ⟨_, pss_one (ps_ret (pe_and (pe_call GI hr rfl mI kI bI .nil pass0 (pa_cons (pv 0) pa_nil)) (pe_one (pe_cmpR op_lt (pv 0) (pv 1) (nomark _))))), ?_⟩
  refine ⟨_, rfl, x, s, i, b, l, t, rfl, kn, _, rfl, ?_⟩
  cases hi : ((i && !b) && nuV x) with
  | false =>
    rw [hi] at k
    exact ifF rfl k
  | true =>
    rw [hi] at k
    refine ifT rfl ?_
    have h0 := (Bool.and_eq_true_iff.mp hi).1
    have h1 : i = true := (Bool.and_eq_true_iff.mp h0).1
    have h2 : b = false := by
      have q := (Bool.and_eq_true_iff.mp h0).2
      cases b
      · rfl
      · cases q
    obtain ⟨n, rfl⟩ := kn.int h1 h2
    exact ⟨_, rfl, _, rfl, _, _, rfl, rfl, k⟩
end
end My

set_option Elab.async false
set_option linter.all false
set_option maxRecDepth 100000
set_option maxHeartbeats 4000000
/-! readers made out of readers: read, without, with_more, with_word; == of readers. -/
namespace My
open PySem L2
abbrev sKRead : Stmt := inClass (top 31) 1
abbrev sKWithout : Stmt := inClass (top 31) 2
abbrev sKMore : Stmt := inClass (top 31) 3
abbrev sKWord : Stmt := inClass (top 31) 4
abbrev sKEq : Stmt := inClass (top 31) 7
/-- a script of texts -/
def scrT (ws : List Str) : Bool := scriptS (ws.map V.str)
/-- texts that are not too long, of signs -/
def TxsOk (ws : List Str) : Prop := ∀ z ∈ ws, z.length ≤ 1000 ∧ PyData.strOk z = true
theorem le1000 {n : Nat} (h : n ≤ 1000) : n + 2 ≤ sizeLine := Nat.le_trans (Nat.add_le_add_right h 2) (by decide)
theorem TxsOk.it {K : PySem.W.Frag} {H : Hp} {ws : List Str} (h : TxsOk ws) : ∀ x ∈ ws.map V.str, ItOk K H x := fun x hx => by
  obtain ⟨z, hz, rfl⟩ := List.mem_map.mp hx
  exact ⟨⟨true, false, false, false, false, fun H' _ => knd_str⟩, fun y hy => by cases hy; exact ⟨le1000 (h z hz).1, (h z hz).2⟩⟩
theorem Goes.mono {E : XK} {H H1 : Hp} {C : Addr} {fld : Str} {v : V} (h : Goes E H C fld v) (s : Same H H1) : Goes E H1 C fld v := fun d H' s1 => h d H' (s.trans s1)
/-- an instance's dict and the instance, new -/
theorem same_ins {H : Hp} {x dx C : Addr} (hx : H x = none) (hd : H dx = none) (hne : dx ≠ x) : Same H (upd (upd H dx (.own x)) x (.ins C dx [])) := by
  refine (Same.new hd).trans (Same.new ?_)
  rw [upd_ne hne.symm]
  exact hx
theorem same_bx {H H1 H2 : Hp} {x : Addr} (hx : H x = none) (s : Same H H1) (b : Bx x H1 H2) : Same H H2 := fun c o h => b c o (s c o h) (ne_of_none h hx)
theorem ix_listK {X : Cx} {K : PySem.W.Frag} (h : X.K = K) : IxR X (rIxL K) := by
  subst h
  exact ix_list
theorem op_in_seqK {X : Cx} {K : PySem.W.Frag} (h : X.K = K) : OpR X (compareOp .In) (rIn K false) := by
  subst h
  exact op_in_seq
theorem flat_ints : ∀ ws : List Int, (ws.map V.int).all flatV = true
  | [] => rfl
  | w :: r => by
    rw [List.map_cons, List.all_cons, flat_ints r]
    rfl
def wdS (wo : Str) : Bool := inV (.str wo) (WDS.map V.str)
theorem knd_sqT {K : PySem.W.Frag} {H : Hp} {a : Addr} {xs : List V} (h : SqT K H a xs) : Knd K H (.ref a) false false false false true := by
  have ty : TyX K H (.ref a) (.type "tuple") := by
    rcases h with (h | ⟨o, h⟩) | ⟨o, its, n, h, c, _⟩
    · exact .base (.tup h)
    · exact .fTuple h
    · exact .kTuple h c
  exact ⟨⟨_, ty, kit_ty (by decide +kernel), kit_ty (by decide +kernel), kit_ty (by decide +kernel), kit_ty (by decide +kernel), kit_ty (by decide +kernel)⟩, nofun, nofun, fun _ _ z => nomatch z⟩
/-- Reader(nm, L, wo): the reading, L a list or tuple of the texts -/
theorem rd_reader {K : PySem.W.Frag} {H : Hp} {C CK L : Addr} {nm wo : Str} {ws : List Str} {s i b l t : Bool} {Q : VK} {E : XK} (hn : nmS nm = true) (tn : TxOk (.str nm)) (hw : wdS wo = true) (kd : KndS K H (.ref L) s i b l t) (hlt : (l || t) = true) (q : SqA K H L (ws.map V.str)) (tw : TxsOk ws) (hl : ws.length ≤ 14)
    (kN : scrT ws = false → Goes E H CK "word" (.str "texts")) (kY : scrT ws = true → ∀ (y : Addr) (H' : Hp), H y = none → Same H H' → ReaderAt K H' y C (.str nm) (.str wo) ws → Q (.ref y) H') (x dx : Addr) (hx : H x = none) (hd : H dx = none) (hne : dx ≠ x) :
    spRI K C CK [.ref x, .str nm, .ref L, .str wo] (upd (upd H dx (.own x)) x (.ins C dx [])) (fun v H3 => v = .non ∧ Q (.ref x) H3) E := by
  have sm := same_ins (C := C) hx hd hne
  refine ⟨x, dx, .str nm, .ref L, .str wo, true, false, false, false, false, scrT ws, true, false, false, false, false, ws.map V.str, rfl, upd_same, fun H' _ => knd_str, tn, ?_, fun H' _ => knd_str, fun h => ?_, fun _ h => ?_, fun _ _ h => ?_, fun _ h _ a zs H' e e2 _ _ _ bx ka => ?_⟩
  · exact .seq (fun H' s' => kd H' (sm.trans s')) hlt (q.keep sm) tw.it (by rw [List.length_map]; exact hl)
  · have h : nmS nm = false := h
    rw [hn] at h
    cases h
  · exact (kN h).mono sm
  · have h : wdS wo = false := h
    rw [hw] at h
    cases h
  · have ez : ws = zs := by
      have inj : Function.Injective V.str := fun a b h => by cases h; rfl
      exact (List.map_inj_right (fun a b h => inj h)).mp e2
    subst ez
    exact ⟨rfl, kY h x H' hx (same_bx hx sm bx) ka⟩
/-- what is asked of a reader that is turned: at x, its name, its word, its texts -/
structure ROk (K : PySem.W.Frag) (H : Hp) (x C : Addr) (nm wo : Str) (zs : List Str) : Prop where
  at_ : ReaderAt K H x C (.str nm) (.str wo) zs
  nmok : nmS nm = true
  tn : TxOk (.str nm)
  wok : wdS wo = true
  wl : wo.length ≤ 1000
  len : zs.length ≤ 13
  tx : TxsOk zs
  st : ∀ z ∈ zs, StepOk z
  num : ∀ z ∈ zs, ∀ n ∈ numsS z, 0 ≤ n ∧ n ≤ 100000
/-- a new reader of the texts ws, or refused -/
def Makes (K : PySem.W.Frag) (C CK : Addr) (H : Hp) (nm wo : Str) (ws : List Str) (Q : VK) (E : XK) : Prop :=
  (scrT ws = false → Goes E H CK "word" (.str "texts")) ∧ (scrT ws = true → ∀ (y : Addr) (H' : Hp), H y = none → Same H H' → ReaderAt K H' y C (.str nm) (.str wo) ws → Q (.ref y) H')
theorem Makes.mono {K : PySem.W.Frag} {C CK : Addr} {H H1 : Hp} {nm wo : Str} {ws : List Str} {Q : VK} {E : XK} (m : Makes K C CK H nm wo ws Q E) (s : Same H H1) : Makes K C CK H1 nm wo ws Q E :=
  ⟨fun h => (m.1 h).mono s, fun h y H' hy s' k => m.2 h y H' (none_of_same s hy) (s.trans s') k⟩
def lessT (zs : List Str) (n : Nat) : List Str := zs.take n ++ zs.drop (n + 1)
def ledT (zs : List Str) (n : Nat) (by_ : Int) : List Str := zs.map fun z => mvT z n by_
def hasN (n : Nat) (z : Str) : Bool := inV (.int (n : Int)) ((numsS z).map V.int)
def spKWo (K : PySem.W.Frag) (C CK : Addr) : Sp := fun vs H Q E => ∃ (x : Addr) (nm wo : Str) (zs : List Str) (n : Nat), vs = [.ref x, .int n] ∧ ROk K H x C nm wo zs ∧ n < zs.length ∧
  ((lessT zs n).any (hasN n) = true → Goes E H CK "word" (.str "texts")) ∧ ((lessT zs n).any (hasN n) = false → TxsOk (ledT (lessT zs n) n (-1)) ∧ Makes K C CK H nm wo (ledT (lessT zs n) n (-1)) Q E)
def moreT (zs : List Str) (n : Nat) (z : Str) : List Str := (ledT zs n 1).take n ++ (z :: (ledT zs n 1).drop n)
def spKMo (K : PySem.W.Frag) (C CK : Addr) : Sp := fun vs H Q E => ∃ (x : Addr) (nm wo z : Str) (zs : List Str) (n : Nat), vs = [.ref x, .int n, .str z] ∧ ROk K H x C nm wo zs ∧ n ≤ zs.length ∧ TxsOk (moreT zs n z) ∧ Makes K C CK H nm wo (moreT zs n z) Q E
def spKWd (K : PySem.W.Frag) (C : Addr) : Sp := fun vs H Q _ => ∃ (x : Addr) (nm wo wo2 : Str) (zs : List Str), vs = [.ref x, .str wo2] ∧ ROk K H x C nm wo zs ∧ wdS wo2 = true ∧ scrT zs = true ∧ (∀ (y : Addr) (H' : Hp), H y = none → Same H H' → ReaderAt K H' y C (.str nm) (.str wo2) zs → Q (.ref y) H')
def spKRd (K : PySem.W.Frag) (C CK : Addr) : Sp := fun vs H Q E => ∃ (z : Str), vs = [.str z] ∧ TxOk (.str z) ∧ (sTail z).length ≤ 14 ∧ rwB z = true ∧ TxsOk (sTail z) ∧ TxOk (.str ((sHead z).getD 1 "")) ∧ Makes K C CK H ((sHead z).getD 1 "") ((sHead z).getD 2 "") (sTail z) Q E
section
variable {P : Program} {w : World} {K : PySem.W.Frag} {mg : Str → Option Value} {base : Heap}
theorem scKRead : FnScope ["text", "told"] ["text"] (defScope sKRead) := ⟨rfl, rfl, rfl, by decide +kernel, rfl, by decide +kernel, by decide +kernel⟩
theorem scKWithout : FnScope ["self", "at", "texts", "text"] ["self", "at"] (defScope sKWithout) := ⟨rfl, rfl, rfl, by decide +kernel, rfl, by decide +kernel, by decide +kernel⟩
theorem scKMore : FnScope ["self", "at", "text", "moved", "step"] ["self", "at", "text"] (defScope sKMore) := ⟨rfl, rfl, rfl, by decide +kernel, rfl, by decide +kernel, by decide +kernel⟩
theorem scKWord : FnScope ["self", "word"] ["self", "word"] (defScope sKWord) := ⟨rfl, rfl, rfl, by decide +kernel, rfl, by decide +kernel, by decide +kernel⟩
theorem scKEq : FnScope ["self", "other"] ["self", "other"] (defScope sKEq) := ⟨rfl, rfl, rfl, by decide +kernel, rfl, by decide +kernel, by decide +kernel⟩
/-- what the methods that make readers call -/
structure KMade (P : Program) (w : World) (K : PySem.W.Frag) (mg : Str → Option Value) (base : Heap) (C CK fI : Addr) (fdI : FuncData) : Prop where
  mkr : Mk K C fI
  gl : mg "Reader" = some (.ref C)
  ok : FnOk P w K mg base (L2.CX P w) 6 fI fdI ["self", "name", "texts", "word"] (spRI K C CK)
  bi : Binds K fdI ["self", "name", "texts", "word"] []
  bi3 : ∃ ds, Vals [V.str "once"] ds ∧ Binds K fdI ["self", "name", "texts", "word"] ds
  cl : Cls K C
  na : ∀ f ∈ (["name", "texts", "word", "slots", "parts", "counters"] : List Str), NoAttr K C f
theorem ok_KRead {f C CK CT fI fW : Addr} {fd fdI fdW : FuncData} (F : Fun K "read" "Reader.read" sKRead f fd) (KM : KMade P w K mg base C CK fI fdI)
    (GW : FnOk P w K mg base CX0 5 fW fdW ["text"] (spWords K)) (bW : Binds K fdW ["text"] []) (kW : PySem.W.keepIn K (.ref fW) = true) (mW : mg "reader_words" = some (.ref fW))
    (IT : InitX P w K mg base "InvalidText" CT "at") : FnOk P w K mg base (L2.CX P w) 8 f fd ["text"] (spKRd K C CK) := by
  refine F.okX scKRead (fun vs H Q E h => ?_) (fun cdv A outer s H vs Q E hr h => ?_)
  · obtain ⟨_, rfl, _⟩ := h
    rfl
  obtain ⟨z, rfl, tz, hl, hk, tw, tn, mk⟩ := h
  have hr2 : Room 2 _ := hr.mono (by omega)
  have hr5 : Room 5 _ := hr.mono (by omega)
  refine ⟨_, pss_cons (ps_set (i := 1) scKRead.nd rfl (.inl rfl) (pe_call GW hr5 rfl mW kW bW .nil pass0 (pa_cons (pv 0) pa_nil)))
    (pss_cons (ps_if (pt_cmpR op_isN (pv 1) pe_non (nomark _)) (pss_one (ps_raiseX rfl IT hr2 (takes_of rfl rfl rfl rfl) rfl (pa_cons pe_int pa_nil))) pss_nil)
    (pss_one (ps_ret (pe_make KM.mkr KM.ok hr rfl KM.gl KM.bi .nil (passes_call (takes_of rfl rfl rfl rfl) fun _ _ _ _ h => h) (pa_cons (pe_ix ix_tup (pv 1) pe_int (fun _ _ => rfl)) (pa_cons (pe_ix ix_tup (pv 1) pe_int (fun _ _ => rfl)) (pa_cons (pe_ix ix_tup (pv 1) pe_int (fun _ _ => rfl)) pa_nil))))))), ?_⟩
  refine ⟨_, rfl, .str z, true, false, false, false, false, rfl, fun H' _ => knd_str, tz, fun y hy => by cases hy; omega, fun H' s' h => ?_, fun y hy hk2 T l2 H1 s1 hT h2 => ?_⟩
  · rcases h with h | ⟨y, hy, h⟩
    · cases h
    · cases hy
      rw [hk] at h
      cases h
  cases hy
  refine ⟨_, rfl, rfl, _, rfl, ?_⟩
  refine ⟨_, rfl, T, _, 0, _, rfl, rfl, .inl (.inl hT), rfl, ?_⟩
  refine ⟨_, rfl, T, _, 1, _, rfl, rfl, .inl (.inl hT), rfl, ?_⟩
  refine ⟨_, rfl, T, _, 2, _, rfl, rfl, .inl (.inl hT), rfl, ?_⟩
  have mk1 := mk.mono s1
  have hk3 := Bool.and_eq_true_iff.mp (Bool.and_eq_true_iff.mp (Bool.and_eq_true_iff.mp hk).2).2
  have hk4 := Bool.and_eq_true_iff.mp hk3.2
  have hk5 := Bool.and_eq_true_iff.mp hk4.2
  exact rd_reader (ws := sTail z) hk4.1 tn hk5.1 (fun H' s' => knd_lst (s' _ _ h2)) rfl (.inl (SqL.of h2)) tw hl mk1.1 mk1.2
theorem ok_KWord {f C CK fI : Addr} {fd fdI : FuncData} (F : Fun K "with_word" "Reader.with_word" sKWord f fd) (KM : KMade P w K mg base C CK fI fdI) : FnOk P w K mg base (L2.CX P w) 8 f fd ["self", "word"] (spKWd K C) := by
  refine F.okX scKWord (fun vs H Q E h => ?_) (fun cdv A outer s H vs Q E hr h => ?_)
  · obtain ⟨_, _, _, _, _, rfl, _⟩ := h
    rfl
  obtain ⟨x, nm, wo, wo2, zs, rfl, ok, hw, hs, k⟩ := h
  refine ⟨_, pss_one (ps_ret (pe_make KM.mkr KM.ok hr rfl KM.gl KM.bi .nil (passes_call (takes_of rfl rfl rfl rfl) fun _ _ _ _ h => h) (pa_cons (pe_fld (pv 0) rfl) (pa_cons (pe_fld (pv 0) rfl) (pa_cons (pv 1) pa_nil))))), ?_⟩
  obtain ⟨dx, T1, T2, T3, T4, hx, hT, _⟩ := ok.at_
  have nt := KM.na "texts" (by simp)
  have nn := KM.na "name" (by simp)
  refine ⟨_, rfl, x, C, dx, _, .str nm, rfl, hx, KM.cl, nn, rfl, ?_⟩
  refine ⟨_, rfl, x, C, dx, _, .ref T1, rfl, hx, KM.cl, nt, rfl, ?_⟩
  refine ⟨_, rfl, ?_⟩
  refine rd_reader (ws := zs) ok.nmok ok.tn hw (s := false) (i := false) (b := false) (l := false) (t := true) ?_ rfl (.inr hT) ok.tx (Nat.le_trans ok.len (by decide)) (fun h => by rw [hs] at h; cases h) (fun _ => k)
  exact fun H' s' => knd_sqT (Same.seqTx s' hT)
theorem ok_KWithout {f C CK CN fI fB fW fNc fMv : Addr} {fd fdI fdB fdW fdNc fdMv : FuncData} (F : Fun K "without" "Reader.without" sKWithout f fd) (KM : KMade P w K mg base C CK fI fdI) (ml : mg "len" = none) (ma : mg "any" = none)
    (GB : FnOk P w K mg base CX0 3 fB fdB ["value", "many"] (spBelow K)) (bB : Binds K fdB ["value", "many"] []) (kB : PySem.W.keepIn K (.ref fB) = true) (mB : mg "is_number_below" = some (.ref fB))
    (GW : FnOk P w K mg base CX0 1 fW fdW ["texts", "at"] (spWithout K)) (bW : Binds K fdW ["texts", "at"] []) (kW : PySem.W.keepIn K (.ref fW) = true) (mW : mg "without_text" = some (.ref fW))
    (GNc : FnOk P w K mg base CX0 1 fNc fdNc ["text"] (spNc K)) (bNc : Binds K fdNc ["text"] []) (kNc : PySem.W.keepIn K (.ref fNc) = true) (mNc : mg "numbers_in_check" = some (.ref fNc))
    (GMv : FnOk P w K mg base CX0 2 fMv fdMv ["text", "at", "by"] spMv) (bMv : Binds K fdMv ["text", "at", "by"] []) (kMv : PySem.W.keepIn K (.ref fMv) = true) (mMv : mg "moved_text" = some (.ref fMv))
    (IN : InitX P w K mg base "NoStep" CN "at") (IK : InitX P w K mg base "InvalidReader" CK "word") : FnOk P w K mg base (L2.CX P w) 8 f fd ["self", "at"] (spKWo K C CK) := by
  refine F.okX scKWithout (fun vs H Q E h => ?_) (fun cdv A outer s H vs Q E hr h => ?_)
  · obtain ⟨_, _, _, _, _, rfl, _⟩ := h
    rfl
  obtain ⟨x, nm, wo, zs, n, rfl, ok, hn, kA, kB'⟩ := h
  have hr1 : Room 1 _ := hr.mono (by omega)
  have hr2 : Room 2 _ := hr.mono (by omega)
  have hr3 : Room 3 _ := hr.mono (by omega)
  refine ⟨_, pss_cons (ps_if (pt_not (pt_val (pe_call GB hr3 rfl mB kB bB .nil pass0 (pa_cons (pv 1) (pa_cons (pe_callB call_len_seq rfl ml (by decide +kernel) (pa_cons (pe_fld (pv 0) rfl) pa_nil)) pa_nil)))))
      (pss_one (ps_raiseX rfl IN hr2 (takes_of rfl rfl rfl rfl) rfl (pa_cons (pv 1) pa_nil))) pss_nil)
    (pss_cons (ps_set (i := 2) scKWithout.nd rfl (.inl rfl) (pe_call GW hr1 rfl mW kW bW .nil pass0 (pa_cons (pe_fld (pv 0) rfl) (pa_cons (pv 1) pa_nil))))
    (pss_cons (ps_if (pt_val (pe_callB (cr_any rfl) rfl ma (by decide +kernel) (pa_cons (pe_lc (own := [("text", 3)]) (g := gName 3) (tt := tYes) rfl scKWithout.nd (pi_list (pv 2)) (blkOk_by (own := [("text", 3)]) (N := ["self", "at", "texts", "text"]) (sc := defScope sKWithout) (by decide +kernel)) (fun _ _ _ _ _ => (pg_name (i := 3) scKWithout.nd rfl (Or.inl rfl))) (fun _ _ _ _ _ => pts_nil)
        (fun _ _ _ _ _ => pe_cmpR (op_in_seqK (K := K) rfl) (pv 1) (pe_call GNc hr1 rfl mNc kNc bNc .nil pass0 (pa_cons (pv 3) pa_nil)) (by with_unfolding_all rfl))) pa_nil)))
      (pss_one (ps_raiseX rfl IK hr2 (takes_of rfl rfl rfl rfl) rfl (pa_cons pe_str pa_nil))) pss_nil)
    (pss_one (ps_ret (pe_make KM.mkr KM.ok hr rfl KM.gl KM.bi .nil (passes_call (takes_of rfl rfl rfl rfl) fun _ _ _ _ h => h) (pa_cons (pe_fld (pv 0) rfl) (pa_cons
        (pe_lc (own := [("text", 3)]) (g := gName 3) (tt := tYes) rfl scKWithout.nd (pi_list (pv 2)) (blkOk_by (own := [("text", 3)]) (N := ["self", "at", "texts", "text"]) (sc := defScope sKWithout) (by decide +kernel)) (fun _ _ _ _ _ => (pg_name (i := 3) scKWithout.nd rfl (Or.inl rfl))) (fun _ _ _ _ _ => pts_nil)
        (fun _ _ _ _ _ => pe_call GMv hr2 rfl mMv kMv bMv .nil pass0 (pa_cons (pv 3) (pa_cons (pv 1) (pa_cons (pe_un un_neg pe_int) pa_nil))))) (pa_cons (pe_fld (pv 0) rfl) pa_nil)))))))), ?_⟩
  obtain ⟨dx, T1, T2, T3, T4, hx, hT, _⟩ := ok.at_
  have nt := KM.na "texts" (by simp)
  have nn := KM.na "name" (by simp)
  have nw := KM.na "word" (by simp)
  have hlt : (((zs.map V.str).length : Nat) : Int) = (zs.length : Int) := by rw [List.length_map]
  refine ⟨_, rfl, _, rfl, x, C, dx, _, .ref T1, rfl, hx, KM.cl, nt, rfl, T1, _, rfl, .inr hT, ?_⟩
  refine ⟨.int n, _, _, _, _, _, _, rfl, knd_int, ?_⟩
  refine ⟨_, rfl, ?_⟩
  have hb : ((true && !false) && nuV (.int (n : Int)) && beV ((zs.map V.str).length : Nat) (.int (n : Int))) = true := by
    have h1 : nuV (.int (n : Int)) = true := by
      show decide ((0 : Int) ≤ n) = true
      exact decide_eq_true (by omega)
    have h2 : beV ((zs.map V.str).length : Nat) (.int (n : Int)) = true := by
      show decide ((n : Int) < ((zs.map V.str).length : Nat)) = true
      exact decide_eq_true (by rw [hlt]; omega)
    rw [h1, h2]
    rfl
  rw [hb]
  refine ifF rfl ?_
  -- texts = without_text(self.texts, at)
  refine ⟨_, rfl, x, C, dx, _, .ref T1, rfl, hx, KM.cl, nt, rfl, ?_⟩
  refine ⟨_, rfl, ?_⟩
  refine ⟨T1, zs.map V.str, n, rfl, hT, by rw [List.length_map]; exact Nat.le_trans ok.len (by decide), fun L H1 s1 hL => ?_⟩
  have e : (zs.map V.str).take n ++ (zs.map V.str).drop (n + 1) = (lessT zs n).map V.str := by
    unfold lessT
    rw [List.map_append, List.map_take, List.map_drop]
  rw [e] at hL
  have sub : ∀ z ∈ lessT zs n, z ∈ zs := fun z hz => by
    unfold lessT at hz
    rcases List.mem_append.mp hz with h | h
    · exact List.mem_of_mem_take h
    · exact List.mem_of_mem_drop h
  have ll : (lessT zs n).length ≤ 13 := by
    unfold lessT
    have := ok.len
    rw [List.length_append, List.length_take, List.length_drop]
    omega
  have small : ((lessT zs n).map V.str).length < sizeLine := by
    rw [List.length_map]
    exact Nat.lt_of_le_of_lt (show _ ≤ 1000 by omega) (by decide)
  -- any
  refine ⟨_, rfl, L, rfl, ⟨_, SqL.of hL⟩, fun D hD => ?_⟩
  refine lc_s (walk_list (K := K) (a := L)) (fun v => match v with | .str z => some (.bl (hasN n z)) | _ => none) hD small (fun H' s => SqL.of (s _ _ hL)) ?_ ?_
  · intro v H3 hv s3 OK NO ok' no
    obtain ⟨z, hz, rfl⟩ := List.mem_map.mp hv
    have sz := ok.st z (sub z hz)
    refine ⟨rfl, _, rfl, _, rfl, z, rfl, sz.1, sz.2.2, fun L3 H4 s4 n4 e4 => ?_⟩
    refine ⟨L3, _, rfl, .inl (SqL.of e4), rfl, flat_ints _, ?_⟩
    exact ok' _ _ s4 rfl
  intro H2 s2 e2
  have key : ∀ ws : List Str, (ws.map V.str).filterMap (fun v => match v with | .str z => some (V.bl (hasN n z)) | _ => none) = (ws.map (hasN n)).map V.bl := fun ws => by
    induction ws with
    | nil => rfl
    | cons y r ih =>
      rw [List.map_cons, List.filterMap_cons, ih]
      rfl
  rw [key] at e2
  have s12 := s1.trans s2
  refine ⟨D, _, rfl, SqL.of e2, _, rfl, ?_⟩
  have eany : ((lessT zs n).map (hasN n)).any id = (lessT zs n).any (hasN n) := by rw [List.any_map]; rfl
  rw [eany]
  refine ite3 (fun h => ?_) (fun h => ?_)
  · exact rd_raise IK.no s12 (kA h)
  obtain ⟨tw, mk⟩ := kB' h
  have hx2 := s12 _ _ hx
  have hL2 := s2 _ _ hL
  refine ⟨_, rfl, x, C, dx, _, .str nm, rfl, hx2, KM.cl, nn, rfl, ?_⟩
  refine ⟨_, rfl, L, rfl, ⟨_, SqL.of hL2⟩, fun D2 hD2 => ?_⟩
  refine lc_s (walk_list (K := K) (a := L)) (fun v => match v with | .str z => some (.str (mvT z n (-1))) | _ => none) hD2 small (fun H' s => SqL.of (s _ _ hL2)) ?_ ?_
  · intro v H3 hv s3 OK NO ok' no
    obtain ⟨z, hz, rfl⟩ := List.mem_map.mp hv
    have sz := ok.st z (sub z hz)
    refine ⟨rfl, _, rfl, _, rfl, 1, rfl, ?_⟩
    exact ⟨z, n, -1, rfl, sz, (ok.tx z (sub z hz)).1, ok.num z (sub z hz), by decide, by decide, fun H4 s4 => ok' _ _ s4 rfl⟩
  intro H3 s3 e3
  have key2 : ∀ ws : List Str, (ws.map V.str).filterMap (fun v => match v with | .str z => some (V.str (mvT z n (-1))) | _ => none) = (ledT ws n (-1)).map V.str := fun ws => by
    unfold ledT
    induction ws with
    | nil => rfl
    | cons y r ih =>
      rw [List.map_cons, List.filterMap_cons, ih]
      rfl
  rw [key2] at e3
  have s13 := s12.trans s3
  refine ⟨_, rfl, x, C, dx, _, .str wo, rfl, s13 _ _ hx, KM.cl, nw, rfl, ?_⟩
  have mk1 := mk.mono s13
  exact rd_reader (ws := ledT (lessT zs n) n (-1)) ok.nmok ok.tn ok.wok (fun H' s' => knd_lst (s' _ _ e3)) rfl (.inl (SqL.of e3)) tw (by unfold ledT; rw [List.length_map]; omega) mk1.1 mk1.2
end
end My

set_option Elab.async false
set_option linter.all false
set_option maxRecDepth 100000
set_option maxHeartbeats 4000000
namespace My
open PySem L2
/-- == of readers: the texts tell it -/
def spKEq (K : PySem.W.Frag) (C : Addr) : Sp := fun vs H Q _ => ∃ (x : Addr) (nm wo : Str) (zs : List Str) (y : V), vs = [.ref x, y] ∧ ROk K H x C nm wo zs ∧ nm.length ≤ 1000 ∧
  ((∃ z, y = .str z ∧ PySem.W.kitOne K (.type "str") (.ref C) = some false ∧ Q (.bl false) H) ∨ (∃ (b : Addr) (nm2 wo2 : Str) (ys : List Str), y = .ref b ∧ ROk K H b C nm2 wo2 ys ∧ nm2.length ≤ 1000 ∧ Q (.bl (decide (readerText nm wo zs = readerText nm2 wo2 ys))) H))
/-- what isinstance(x, Reader) asks of the class -/
structure KIsi (K : PySem.W.Frag) (C : Addr) : Prop where
  ha : PySem.W.findIn K (.ref C) "__class__" = some (some (.builtin "object.__class__"))
  hn : PySem.W.specialIn K (.builtin "object.__class__") "__get__" = some (some (.builtin "getset_descriptor.__get__"))
  htk : PySem.W.takesIn K (.builtin "object.__class__") = some true
  hm : PySem.W.mroIn K C (.type "object") = some true
  one : PySem.W.kitOne K (.ref C) (.ref C) = some true
section
variable {P : Program} {w : World} {K : PySem.W.Frag} {mg : Str → Option Value} {base : Heap}
theorem ok_KMore {f C CK CN fI fB fW fMv : Addr} {fd fdI fdB fdW fdMv : FuncData} (F : Fun K "with_more" "Reader.with_more" sKMore f fd) (KM : KMade P w K mg base C CK fI fdI) (ml : mg "len" = none)
    (GB : FnOk P w K mg base CX0 3 fB fdB ["value", "many"] (spBelow K)) (bB : Binds K fdB ["value", "many"] []) (kB : PySem.W.keepIn K (.ref fB) = true) (mB : mg "is_number_below" = some (.ref fB))
    (GW : FnOk P w K mg base CX0 1 fW fdW ["texts", "at", "text"] (spWith K)) (bW : Binds K fdW ["texts", "at", "text"] []) (kW : PySem.W.keepIn K (.ref fW) = true) (mW : mg "with_text" = some (.ref fW))
    (GMv : FnOk P w K mg base CX0 2 fMv fdMv ["text", "at", "by"] spMv) (bMv : Binds K fdMv ["text", "at", "by"] []) (kMv : PySem.W.keepIn K (.ref fMv) = true) (mMv : mg "moved_text" = some (.ref fMv))
    (IN : InitX P w K mg base "NoStep" CN "at") : FnOk P w K mg base (L2.CX P w) 8 f fd ["self", "at", "text"] (spKMo K C CK) := by
  refine F.okX scKMore (fun vs H Q E h => ?_) (fun cdv A outer s H vs Q E hr h => ?_)
  · obtain ⟨_, _, _, _, _, _, rfl, _⟩ := h
    rfl
  obtain ⟨x, nm, wo, z, zs, n, rfl, ok, hn, tw, mk⟩ := h
  have hr1 : Room 1 _ := hr.mono (by omega)
  have hr2 : Room 2 _ := hr.mono (by omega)
  have hr3 : Room 3 _ := hr.mono (by omega)
  refine ⟨_, pss_cons (ps_if (pt_not (pt_val (pe_call GB hr3 rfl mB kB bB .nil pass0 (pa_cons (pv 1) (pa_cons (pe_op op_add (pe_callB call_len_seq rfl ml (by decide +kernel) (pa_cons (pe_fld (pv 0) rfl) pa_nil)) pe_int) pa_nil)))))
      (pss_one (ps_raiseX rfl IN hr2 (takes_of rfl rfl rfl rfl) rfl (pa_cons (pv 1) pa_nil))) pss_nil)
    (pss_cons (ps_setLc (i := 3) (own := [("step", 4)]) (g := gName 4) (tt := tYes) rfl scKMore.nd rfl rfl (sw_true rfl rfl rfl (by decide +kernel)) (pi_tup (pe_fld (pv 0) rfl)) (blkOk_by (own := [("step", 4)]) (N := ["self", "at", "text", "moved", "step"]) (sc := defScope sKMore) (by decide +kernel)) (fun _ _ _ _ _ => (pg_name (i := 4) scKMore.nd rfl (Or.inl rfl))) (fun _ _ _ _ _ => pts_nil)
        (fun _ _ _ _ _ => pe_call GMv hr2 rfl mMv kMv bMv .nil pass0 (pa_cons (pv 4) (pa_cons (pv 1) (pa_cons pe_int pa_nil)))))
    (pss_one (ps_ret (pe_make KM.mkr KM.ok hr rfl KM.gl KM.bi .nil (passes_call (takes_of rfl rfl rfl rfl) fun _ _ _ _ h => h) (pa_cons (pe_fld (pv 0) rfl) (pa_cons (pe_call GW hr1 rfl mW kW bW .nil pass0 (pa_cons (pv 3) (pa_cons (pv 1) (pa_cons (pv 2) pa_nil)))) (pa_cons (pe_fld (pv 0) rfl) pa_nil))))))), ?_⟩
  obtain ⟨dx, T1, T2, T3, T4, hx, hT, _⟩ := ok.at_
  have nt := KM.na "texts" (by simp)
  have nn := KM.na "name" (by simp)
  have nw := KM.na "word" (by simp)
  have hlt : (((zs.map V.str).length : Nat) : Int) = (zs.length : Int) := by rw [List.length_map]
  refine ⟨_, rfl, _, rfl, x, C, dx, _, .ref T1, rfl, hx, KM.cl, nt, rfl, T1, _, rfl, .inr hT, ?_⟩
  refine ⟨_, _, rfl, rfl, ?_⟩
  refine ⟨.int n, _, _, _, _, _, _, rfl, knd_int, ?_⟩
  refine ⟨_, rfl, ?_⟩
  have hb : ((true && !false) && nuV (.int (n : Int)) && beV (((zs.map V.str).length : Nat) + 1) (.int (n : Int))) = true := by
    have h1 : nuV (.int (n : Int)) = true := by
      show decide ((0 : Int) ≤ n) = true
      exact decide_eq_true (by omega)
    have h2 : beV (((zs.map V.str).length : Nat) + 1) (.int (n : Int)) = true := by
      show decide ((n : Int) < ((zs.map V.str).length : Nat) + 1) = true
      exact decide_eq_true (by rw [hlt]; omega)
    rw [h1, h2]
    rfl
  rw [hb]
  refine ifF rfl ?_
  have small : (zs.map V.str).length < sizeLine := by
    rw [List.length_map]
    exact Nat.lt_of_le_of_lt (Nat.le_trans ok.len (show 13 ≤ 1000 by decide)) (by decide)
  refine ⟨_, rfl, x, C, dx, _, .ref T1, rfl, hx, KM.cl, nt, rfl, T1, rfl, ⟨_, hT⟩, fun D hD => ?_⟩
  refine lc_s (walk_tup (K := K) (a := T1)) (fun v => match v with | .str z => some (.str (mvT z n 1)) | _ => none) hD small (fun H' s => Same.seqTx s hT) ?_ ?_
  · intro v H3 hv s3 OK NO ok' no
    obtain ⟨y, hy, rfl⟩ := List.mem_map.mp hv
    refine ⟨rfl, _, rfl, _, rfl, ?_⟩
    exact ⟨y, n, 1, rfl, ok.st y hy, (ok.tx y hy).1, ok.num y hy, by decide, by decide, fun H4 s4 => ok' _ _ s4 rfl⟩
  intro H3 s3 e3
  have key2 : ∀ ws : List Str, (ws.map V.str).filterMap (fun v => match v with | .str z => some (V.str (mvT z n 1)) | _ => none) = (ledT ws n 1).map V.str := fun ws => by
    unfold ledT
    induction ws with
    | nil => rfl
    | cons y r ih =>
      rw [List.map_cons, List.filterMap_cons, ih]
      rfl
  rw [key2] at e3
  have ll : (ledT zs n 1).length = zs.length := List.length_map ..
  refine ⟨_, rfl, x, C, dx, _, .str nm, rfl, s3 _ _ hx, KM.cl, nn, rfl, ?_⟩
  refine ⟨_, rfl, _, rfl, _, rfl, ?_⟩
  refine ⟨D, (ledT zs n 1).map V.str, n, .str z, rfl, SqL.of e3, by rw [List.length_map, ll]; exact Nat.le_trans ok.len (by decide), fun L H1 s1 hL => ?_⟩
  have e : ((ledT zs n 1).map V.str).take n ++ (V.str z :: ((ledT zs n 1).map V.str).drop n) = (moreT zs n z).map V.str := by
    unfold moreT
    rw [List.map_append, List.map_cons, List.map_take, List.map_drop]
  rw [e] at hL
  have s4 := s3.trans s1
  refine ⟨_, rfl, x, C, dx, _, .str wo, rfl, s4 _ _ hx, KM.cl, nw, rfl, ?_⟩
  have mk1 := mk.mono s4
  exact rd_reader (ws := moreT zs n z) ok.nmok ok.tn ok.wok (fun H' s' => knd_lst (s' _ _ hL)) rfl (.inl (SqL.of hL)) tw (by unfold moreT; have := ok.len; rw [List.length_append, List.length_cons, List.length_take, List.length_drop, ll]; omega) mk1.1 mk1.2
theorem ok_KEq {f C fS : Addr} {fd fdS : FuncData} (F : Fun K "__eq__" "Reader.__eq__" sKEq f fd) (gK : mg "Reader" = some (.ref C)) (mi : mg "isinstance" = none) (ms : mg "str" = none) (cl : Cls K C) (ki : KIsi K C)
    (GS : FnOk P w K mg base CX0 1 fS fdS ["self"] (spKStr K C)) (bS : Binds K fdS ["self"] []) (hs : PySem.W.findIn K (.ref C) "__str__" = some (some (.ref fS))) (hf : PySem.W.isFn K (.ref fS) = true) :
    FnOk P w K mg base CX0 4 f fd ["self", "other"] (spKEq K C) := by
  refine F.ok scKEq (fun vs H Q E h => ?_) (fun cdv A outer s H vs Q E hr h => ?_)
  · obtain ⟨_, _, _, _, _, rfl, _⟩ := h
    rfl
  obtain ⟨x, nm, wo, zs, y, rfl, ok, hn, h⟩ := h
  have G : FnR P w K mg base CX0 1 fS (spKStr K C) := (GS.raw bS .nil).imp fun vs H Q E h => by rw [List.append_nil]; exact h
  refine ⟨_, pss_one (ps_ret (pe_and (pe_callB call_isi rfl mi (by decide +kernel) (pa_cons (pv 1) (pa_cons (C8.pe_gc (v := .ref C) rfl ⟨_, gK, rfl⟩) pa_nil)))
    (pe_one (pe_cmpR op_eq (pe_callTy (call_strI hs hf G hr pass0) rfl ms (by decide +kernel) (pa_cons (pv 0) pa_nil)) (pe_callTy (call_strI hs hf G hr pass0) rfl ms (by decide +kernel) (pa_cons (pv 1) pa_nil)) (nomark _))))), ?_⟩
  rcases h with ⟨z, rfl, hk, k⟩ | ⟨b, nm2, wo2, ys, rfl, ok2, hn2, k⟩
  · refine ⟨_, rfl, .str z, .ref C, .type "str", _, false, rfl, .own C, .base (.str z), hk, false, rfl, ?_⟩
    exact ifF rfl k
  · obtain ⟨dx, T1, T2, T3, T4, hx, hT⟩ := id ok.at_
    obtain ⟨dy, U1, U2, U3, U4, hy, hU⟩ := id ok2.at_
    refine ⟨_, rfl, .ref b, .ref C, .ref C, _, true, rfl, .own C, .base (.ins hy cl ki.ha ki.hn ki.htk ki.hm), ki.one, true, rfl, ?_⟩
    refine ifT rfl ?_
    refine ⟨_, rfl, x, dx, _, rfl, hx, ?_⟩
    refine ⟨x, nm, wo, zs, rfl, ok.at_, hn, ok.wl, Nat.le_trans ok.len (by decide), fun z hz => (ok.tx z hz).1, _, rfl, ?_⟩
    refine ⟨_, rfl, b, dy, _, rfl, hy, ?_⟩
    refine ⟨b, nm2, wo2, ys, rfl, ok2.at_, hn2, ok2.wl, Nat.le_trans ok2.len (by decide), fun z hz => (ok2.tx z hz).1, _, rfl, ?_⟩
    refine ⟨rfl, ?_⟩
    have e : decide (V.str (readerText nm wo zs) = V.str (readerText nm2 wo2 ys)) = decide (readerText nm wo zs = readerText nm2 wo2 ys) := by
      rw [decide_eq_decide]
      exact ⟨fun h => by injection h, fun h => by rw [h]⟩
    rw [e]
    exact k
end
end My

set_option Elab.async false
set_option linter.all false
set_option maxRecDepth 100000
set_option maxHeartbeats 2000000
namespace My
open PySem L2

abbrev sMx : Stmt := top 36
abbrev NMx : List Str := ["deal", "some", "left", "found"]
theorem scMx : FnScope ["deal", "some", "left", "found"] ["deal", "some"] (defScope sMx) := ⟨rfl, rfl, rfl, by decide +kernel, rfl, by decide +kernel, by decide +kernel⟩
theorem eqv_strs (zs : List Str) : PyData.eqv (.list (zs.map PyData.str)) (.list (([] : List Str).map PyData.str)) = decide (zs = []) := by
  cases zs with
  | nil => rfl
  | cons n r => simp [PyData.eqv, PyData.eqvAll]
theorem mixed_perm {α : Type} : ∀ {ls fs : List α} {i : Nat} (h : i < ls.length), ((fs ++ [ls[i]]) ++ ls.eraseIdx i).Perm (fs ++ ls) := fun {ls fs i} h => by
  rw [List.append_assoc]
  refine List.Perm.append_left fs ?_
  show (ls[i] :: ls.eraseIdx i).Perm ls
  induction ls generalizing i with
  | nil => exact absurd h (Nat.not_lt_zero _)
  | cons x r ih =>
    cases i with
    | zero => exact List.Perm.refl _
    | succ i =>
      rw [List.eraseIdx_cons_succ, List.getElem_cons_succ]
      exact (List.Perm.swap x _ _).trans (List.Perm.cons x (ih (Nat.lt_of_succ_lt_succ h)))
theorem erase_mapS : ∀ (ls : List Str) (i : Nat), (ls.map V.str).eraseIdx i = (ls.eraseIdx i).map V.str
  | [], _ => by simp
  | _ :: _, 0 => by simp
  | _ :: r, i + 1 => by simp [erase_mapS r i]
/-- _law_mixed(deal, some): some a list of texts -/
def spMx (K : PySem.W.Frag) : Sp := fun vs H Q _ => ∃ (dl c l : Addr) (zs : List Str), vs = [.ref dl, .ref l] ∧ SqL K H l (zs.map V.str) ∧ zs.length < 1000 ∧ (∀ z ∈ zs, PyData.strOk z = true) ∧ Deal H dl c ∧
  ∀ (L : Addr) (ys : List Str) (H' : Hp), ys.Perm zs → Deal H' dl c → Kp dl c H H' → L ≠ dl → L ≠ c → H' L = some (.lst (ys.map V.str)) → Q (.ref L) H'
section
variable {P : Program} {w : World} {K : PySem.W.Frag} {mg : Str → Option Value} {base : Heap}
theorem ok_mx {f fD : Addr} {fd fdD : FuncData} (F : Fun K "_law_mixed" "_law_mixed" sMx f fd) (z_list : mg "list" = none) (z_len : mg "len" = none)
    (GDraw : FnOk P w K mg base CX0 1 fD fdD ["deal", "wide"] spDraw) (bDraw : Binds K fdD ["deal", "wide"] []) (kDraw : PySem.W.keepIn K (.ref fD) = true) (mDraw : mg "_law_draw" = some (.ref fD)) :
    FnOk P w K mg base CX0 2 f fd ["deal", "some"] (spMx K) := by
  refine F.ok scMx (fun vs H Q E h => ?_) (fun cdv A outer s H vs Q E hr h => ?_)
  · obtain ⟨_, _, _, _, rfl, _⟩ := h
    rfl
  obtain ⟨dl, c, l, zs, rfl, hS, hz, hok, D, k⟩ := h
  refine ⟨_, (pss_cons (ps_par (i := 2) (j := 3) rfl scMx.nd rfl rfl (by decide) rfl rfl (pa_cons (pe_callTy call_list_of rfl z_list (by decide +kernel) (pa_cons (pv 1) pa_nil)) (pa_cons (pe_lst pa_nil) pa_nil)) rfl)
  (pss_cons (ps_while PassesOwn.never (pt_cmpR (op_neD hr.units) (pv 2) (pe_lst pa_nil) (nomark _)) (pss_one (ps_expr (pe_bm PySem.F.plainAttrs_list PySem.F.slot_list_append PySem.F.type_list_append mt_append (pv 3) (pa_cons (pe_bm PySem.F.plainAttrs_list PySem.F.slot_list_pop PySem.F.type_list_pop mt_popAt (pv 2) (pa_cons (pe_call GDraw (hr.mono (by decide)) rfl mDraw kDraw bDraw .nil pass0 (pa_cons (pv 0) (pa_cons (pe_callB call_len_seq rfl z_len (by decide +kernel) (pa_cons (pv 2) pa_nil)) pa_nil))) pa_nil)) pa_nil)))))
  (pss_one (ps_ret (pv 3))))), ?_⟩
  refine ⟨_, rfl, l, _, rfl, .inl hS, fun L0 hL0 => ⟨(by show 0 ≤ sizeLine; decide), fun F0 hF0 => ⟨_, _, rfl, ?_⟩⟩⟩
  have nLF : L0 ≠ F0 := by
    intro e
    rw [← e, upd_same] at hF0
    cases hF0
  have hF0' : H F0 = none := by
    rw [upd_ne nLF.symm] at hF0
    exact hF0
  have D0 := D.keep ((Same.new hL0).trans (Same.new (o := .lst []) hF0))
  have nd : ∀ p, H p = none → p ≠ dl ∧ p ≠ c := fun p hp => by
    obtain ⟨ns, s, kk, h1, h2, _⟩ := D
    exact ⟨(ne_of_none h1 hp).symm, (ne_of_none h2 hp).symm⟩
  have nL := nd L0 hL0
  have nF := nd F0 hF0'
  refine exit_first (fun σ H1 => ∃ fs : List Str, σ = [some (.ref dl), some (.ref l), some (.ref L0), some (.ref F0)] ∧ H1 F0 = some (.lst (fs.map V.str)) ∧ fs.Perm zs ∧ Deal H1 dl c ∧ Kp dl c H H1) ?rest fun rest => ?loop
  case rest =>
    rintro σ H1 ⟨fs, rfl, h1, h2, h3, h4⟩
    exact ⟨_, rfl, k F0 fs H1 h2 h3 h4 nF.1 nF.2 h1⟩
  case loop =>
    refine ⟨fun m σ H1 => ∃ ls fs : List Str, σ = [some (.ref dl), some (.ref l), some (.ref L0), some (.ref F0)] ∧ H1 L0 = some (.lst (ls.map V.str)) ∧ H1 F0 = some (.lst (fs.map V.str)) ∧ (fs ++ ls).Perm zs ∧ Deal H1 dl c ∧ Kp dl c H H1 ∧ m = ls.length, ?_, ?_⟩
    · refine ⟨_, zs, [], rfl, ?_, upd_same, List.Perm.refl _, D0, Kp.same ((Same.new hL0).trans (Same.new hF0)), rfl⟩
      rw [upd_ne nLF]
      exact upd_same
    rintro m σ H1 ⟨ls, fs, rfl, h1, h2, pm, D1, kp, rfl⟩
    have hlen := pm.length_eq
    rw [List.length_append] at hlen
    refine ⟨_, rfl, (by show 0 ≤ sizeLine; decide), fun p hp => ?_⟩
    have sp : Same H1 (upd H1 p (.lst [])) := Same.new hp
    have h1' := sp _ _ h1
    have h2' := sp _ _ h2
    have kp' : Kp dl c H (upd H1 p (.lst [])) := kp.trans (Kp.same sp)
    have D1' := D1.keep sp
    refine ⟨.list (ls.map PyData.str), .list (([] : List Str).map PyData.str), Dp.lst (SqL.of h1') (dp_strs ls), Dp.lst (SqL.of upd_same) .nil, shaped_strs (fun z q => hok z (pm.mem_iff.mp (List.mem_append_right _ q))), shaped_strs (ws := []) (fun z q => by cases q), _, rfl, ?_⟩
    rw [eqv_strs]
    generalize upd H1 p (.lst []) = H2 at h1' h2' kp' D1' ⊢
    by_cases hn : ls = []
    · refine iteY (decide_eq_true hn) ?_
      subst hn
      rw [List.append_nil] at pm
      exact rest _ _ ⟨fs, rfl, h2', pm, D1', kp'⟩
    · refine iteN (decide_eq_false hn) ?_
      have h0 : 0 < ls.length := List.length_pos_iff.mpr hn
      refine ⟨fun σ' H' => ∃ ls' fs' : List Str, σ' = [some (.ref dl), some (.ref l), some (.ref L0), some (.ref F0)] ∧ H' L0 = some (.lst (ls'.map V.str)) ∧ H' F0 = some (.lst (fs'.map V.str)) ∧ (fs' ++ ls').Perm zs ∧ Deal H' dl c ∧ Kp dl c H H' ∧ ls'.length + 1 = ls.length, ?_, ?_⟩
      · rintro σ' H' ⟨a, b, c1, c2, c3, c4, c5, c6, c7⟩
        exact ⟨a.length, by omega, a, b, c1, c2, c3, c4, c5, c6, rfl⟩
      refine ⟨_, rfl, .inl ⟨rfl, _, SqL.of h2'⟩, _, rfl, .inl ⟨rfl, _, SqL.of h1'⟩, _, rfl, _, rfl, L0, _, rfl, .inl (SqL.of h1'), dl, c, _, rfl, (by rw [List.length_map]; omega), (by rw [List.length_map]; omega), D1', fun r H3 r0 r1 D3 k3 => ?_⟩
      rw [List.length_map] at r1
      have h1'' := k3 _ _ h1' nL.1 nL.2
      have h2'' := k3 _ _ h2' nF.1 nF.2
      have rr : r.toNat < ls.length := by omega
      have er : ((r.toNat : Nat) : Int) = r := by omega
      refine ⟨L0, _, r, r.toNat, .str ls[r.toNat], rfl, rfl, h1'', by omega, by omega, ?_, ?_, ?_⟩
      · rw [List.length_map, ← er]
        unfold seqIndex?
        simp
        omega
      · rw [List.getElem?_map, List.getElem?_eq_getElem rr]
        rfl
      refine ⟨F0, fs.map V.str, _, rfl, rfl, by rw [upd_ne nLF.symm]; exact h2'', by rw [List.length_map]; exact Nat.lt_of_lt_of_le (show fs.length < 1000 by omega) (by decide), ?_⟩
      refine ⟨ls.eraseIdx r.toNat, fs ++ [ls[r.toNat]], rfl, ?_, ?_, ?_, ?_, ?_, ?_⟩
      · rw [upd_ne nLF, upd_same, erase_mapS]
      · rw [upd_same, List.map_append]
        rfl
      · exact (mixed_perm rr).trans pm
      · obtain ⟨ns, a, b, q1, q2, q3⟩ := D3
        refine ⟨ns, a, b, ?_, ?_, q3⟩
        · rw [upd_ne nF.1.symm, upd_ne nL.1.symm]
          exact q1
        · rw [upd_ne nF.2.symm, upd_ne nL.2.symm]
          exact q2
      · exact ((kp'.trans k3).upd hL0).upd hF0'
      · rw [List.length_eraseIdx_of_lt rr]
        omega
end
end My

set_option Elab.async false
set_option linter.all false
set_option maxRecDepth 100000
set_option maxHeartbeats 2000000
namespace My
open PySem L2

abbrev sWo : Stmt := top 37
abbrev NWo : List Str := ["deal", "names_here", "found"]
theorem scWo : FnScope ["deal", "names_here", "found"] ["deal"] (defScope sWo) := ⟨rfl, rfl, rfl, by decide +kernel, rfl, by decide +kernel, by decide +kernel⟩
/-- the names that a world is drawn of -/
abbrev NAMES : List Str := ["s", "t", "p", "q", "c", "d", "abcd", "read", "take", "free", "kind", "zz"]
abbrev kSl : Key := Sum.inr "slots"
abbrev kPa : Key := Sum.inr "parts"
abbrev kCo : Key := Sum.inr "counters"
/-- a list of names that stands beside the source of draws -/
structure NmsAt (H : Hp) (A dl c : Addr) (zs : List Str) : Prop where
  at_ : H A = some (.lst (zs.map V.str))
  n1 : A ≠ dl
  n2 : A ≠ c
  nm : ∀ z ∈ zs, z ∈ NAMES
  len : zs.length ≤ 12
/-- the world at W -/
def WorldAt (H : Hp) (W dl c : Addr) : Prop := ∃ (A1 A2 A3 : Addr) (s p k : List Str), H W = some (.dK [(kSl, .ref A1), (kPa, .ref A2), (kCo, .ref A3)]) ∧ W ≠ dl ∧ W ≠ c ∧ NmsAt H A1 dl c s ∧ NmsAt H A2 dl c p ∧ NmsAt H A3 dl c k ∧ 0 < s.length ∧ 0 < p.length
def spWo (K : PySem.W.Frag) : Sp := fun vs H Q _ => ∃ (dl c : Addr), vs = [.ref dl] ∧ Deal H dl c ∧ ∀ (W : Addr) (H' : Hp), Deal H' dl c → Kp dl c H H' → WorldAt H' W dl c → Q (.ref W) H'
theorem cut_strs (zs : List Str) (lo hi : Option Int) : ∃ ms : List Str, cutV (zs.map V.str) lo hi = ms.map V.str ∧ (∀ z ∈ ms, z ∈ zs) ∧ ms.length = (cutV (zs.map V.str) lo hi).length ∧ ms.length ≤ zs.length := by
  refine ⟨(zs.drop (HT.sIx (zs.map V.str).length 0 lo)).take (HT.sIx (zs.map V.str).length (zs.map V.str).length hi - HT.sIx (zs.map V.str).length 0 lo), ?_, fun z h => List.mem_of_mem_drop (List.mem_of_mem_take h), ?_, ?_⟩
  · unfold cutV
    rw [List.map_take, List.map_drop]
  · unfold cutV
    rw [List.length_take, List.length_take, List.length_drop, List.length_drop, List.length_map]
  · rw [List.length_take, List.length_drop]
    omega
theorem NmsAt.keep {H H' : Hp} {A dl c : Addr} {zs : List Str} (h : NmsAt H A dl c zs) (k : Kp dl c H H') : NmsAt H' A dl c zs := ⟨k _ _ h.at_ h.n1 h.n2, h.n1, h.n2, h.nm, h.len⟩
theorem Deal.off {H : Hp} {dl c p : Addr} (d : Deal H dl c) (hp : H p = none) : p ≠ dl ∧ p ≠ c := by
  obtain ⟨ns, s, kk, h1, h2, _⟩ := d
  exact ⟨(ne_of_none h1 hp).symm, (ne_of_none h2 hp).symm⟩
theorem WorldAt.keep {H H' : Hp} {W dl c : Addr} (h : WorldAt H W dl c) (k : Kp dl c H H') : WorldAt H' W dl c := by
  obtain ⟨A1, A2, A3, s, p, q, h1, n1, n2, a1, a2, a3, l1, l2⟩ := h
  exact ⟨A1, A2, A3, s, p, q, k _ _ h1 n1 n2, n1, n2, a1.keep k, a2.keep k, a3.keep k, l1, l2⟩
section
variable {P : Program} {w : World} {K : PySem.W.Frag} {mg : Str → Option Value} {base : Heap}
theorem ok_wo {f fD fM : Addr} {fd fdD fdM : FuncData} (F : Fun K "_law_world" "_law_world" sWo f fd)
    (GDraw : FnOk P w K mg base CX0 1 fD fdD ["deal", "wide"] spDraw) (bDraw : Binds K fdD ["deal", "wide"] []) (kDraw : PySem.W.keepIn K (.ref fD) = true) (mDraw : mg "_law_draw" = some (.ref fD))
    (GMx : FnOk P w K mg base CX0 2 fM fdM ["deal", "some"] (spMx K)) (bMx : Binds K fdM ["deal", "some"] []) (kMx : PySem.W.keepIn K (.ref fM) = true) (mMx : mg "_law_mixed" = some (.ref fM)) :
    FnOk P w K mg base CX0 3 f fd ["deal"] (spWo K) := by
  refine F.ok scWo (fun vs H Q E h => ?_) (fun cdv A outer s H vs Q E hr h => ?_)
  · obtain ⟨_, _, rfl, _⟩ := h
    rfl
  obtain ⟨dl, c, rfl, D, k⟩ := h
  have hu : (A.deeper (PyProof.Rows.envOfC "_law_world" (defScope sWo) s.heap.objs.size f cdv)).units + 1 < cLine := by
    have q := hr.units
    omega
  refine ⟨_, (pss_cons (ps_set (i := 1) scWo.nd rfl (.inl rfl) (pe_call GMx (hr.mono (by decide)) rfl mMx kMx bMx .nil pass0 (pa_cons (pv 0) (pa_cons (pe_lst (pa_cons pe_str (pa_cons pe_str (pa_cons pe_str (pa_cons pe_str (pa_cons pe_str (pa_cons pe_str (pa_cons pe_str (pa_cons pe_str (pa_cons pe_str (pa_cons pe_str (pa_cons pe_str (pa_cons pe_str pa_nil))))))))))))) pa_nil))))
  (pss_cons (ps_set (i := 2) scWo.nd rfl (.inl rfl) (pe_disp (pps_cons pe_str (pe_slice sl_list (pv 1) po_none (po_some (pe_op op_add pe_int (pe_call GDraw (hr.mono (by decide)) rfl mDraw kDraw bDraw .nil pass0 (pa_cons (pv 0) (pa_cons pe_int pa_nil)))))) (pps_cons pe_str (pe_slice sl_list (pv 1) (po_some pe_int) (po_some (pe_op op_add pe_int (pe_call GDraw (hr.mono (by decide)) rfl mDraw kDraw bDraw .nil pass0 (pa_cons (pv 0) (pa_cons pe_int pa_nil)))))) pps_nil)) rfl rfl (fun z => by cases z) (by decide)))
  (pss_cons (ps_dput hu (pv 2) pe_str (pe_slice sl_list (pv 1) (po_some pe_int) (po_some (pe_op op_add pe_int (pe_call GDraw (hr.mono (by decide)) rfl mDraw kDraw bDraw .nil pass0 (pa_cons (pv 0) (pa_cons pe_int pa_nil)))))) rfl)
  (pss_one (ps_ret (pv 2)))))), ?_⟩
  refine ⟨_, rfl, (by show 12 ≤ sizeLine; decide), fun p hp => ⟨dl, c, p, NAMES, rfl, SqL.of upd_same, by decide, by decide +kernel, D.keep (Same.new hp), fun L ys H1 pm D1 k1 n1 n2 hL => ?_⟩⟩
  intro W0 hW0
  have offW := D1.off hW0
  have s1 : Same H1 (upd H1 W0 (.dK [])) := Same.new hW0
  have hW1 : (upd H1 W0 (.dK [])) W0 = some (.dK []) := upd_same
  have kW : Kp dl c H (upd H1 W0 (.dK [])) := ((Kp.new hp).trans k1).trans (Kp.same s1)
  have D2 := D1.keep s1
  have hL2 := s1 _ _ hL
  generalize upd H1 W0 (.dK []) = H2 at hW1 kW D2 hL2 ⊢
  have l12 : ys.length = 12 := pm.length_eq
  have nmY : ∀ z ∈ ys, z ∈ NAMES := fun z hz => pm.mem_iff.mp hz
  refine ⟨_, rfl, _, rfl, dl, c, 2, rfl, by decide, by decide, D2, fun r H3 r0 r1 D3 k3 => ⟨_, _, rfl, rfl, _, rfl, L, _, rfl, SqL.of (k3 _ _ hL2 n1 n2), fun A1 hA1 => ?_⟩⟩
  obtain ⟨m1, e1, w1, z1, b1⟩ := cut_strs ys none (some (1 + r))
  have p1 : 0 < m1.length := by
    have er : (1 : Int) + r = ((1 + r.toNat : Nat) : Int) := by omega
    rw [z1, er, cut_take, List.length_take, List.length_map]
    omega
  rw [e1]
  have off1 := D3.off hA1
  have N1 : NmsAt (upd H3 A1 (.lst (m1.map V.str))) A1 dl c m1 := ⟨upd_same, off1.1, off1.2, fun z hz => nmY z (w1 z hz), by omega⟩
  have k4 : Kp dl c H2 (upd H3 A1 (.lst (m1.map V.str))) := k3.trans (Kp.new hA1)
  have D4 := D3.keep (Same.new (o := .lst (m1.map V.str)) hA1)
  have hW4 := k4 _ _ hW1 offW.1 offW.2
  have hL4 := k4 _ _ hL2 n1 n2
  generalize upd H3 A1 (.lst (m1.map V.str)) = H4 at N1 k4 D4 hW4 hL4 ⊢
  refine ⟨_, rfl, 2, rfl, _, rfl, dl, c, 2, rfl, by decide, by decide, D4, fun r' H5 r0' r1' D5 k5 => ⟨_, _, rfl, rfl, _, rfl, L, _, rfl, SqL.of (k5 _ _ hL4 n1 n2), fun A2 hA2 => ?_⟩⟩
  obtain ⟨m2, e2, w2, z2, b2⟩ := cut_strs ys (some 2) (some (3 + r'))
  have p2 : 0 < m2.length := by
    have er : (3 : Int) + r' = ((3 + r'.toNat : Nat) : Int) := by omega
    rw [z2, er]
    unfold cutV
    rw [ix_nat, show (2 : Int) = ((2 : Nat) : Int) from rfl, ix_nat, List.length_take, List.length_drop, List.length_map]
    omega
  rw [e2]
  have off2 := D5.off hA2
  have N2 : NmsAt (upd H5 A2 (.lst (m2.map V.str))) A2 dl c m2 := ⟨upd_same, off2.1, off2.2, fun z hz => nmY z (w2 z hz), by omega⟩
  have k6 : Kp dl c H4 (upd H5 A2 (.lst (m2.map V.str))) := k5.trans (Kp.new hA2)
  have D6 := D5.keep (Same.new (o := .lst (m2.map V.str)) hA2)
  have hW6 := k6 _ _ hW4 offW.1 offW.2
  have hL6 := k6 _ _ hL4 n1 n2
  have N16 := N1.keep k6
  generalize upd H5 A2 (.lst (m2.map V.str)) = H6 at N2 k6 D6 hW6 hL6 N16 ⊢
  refine ⟨hW6, [(kSl, .ref A1), (kPa, .ref A2)], rfl, (by show 2 ≤ 15; decide), ?_⟩
  have hW7 : (upd H6 W0 (.dK (mergeK [] [(kSl, .ref A1), (kPa, .ref A2)]))) W0 = some (.dK [(kSl, .ref A1), (kPa, .ref A2)]) := upd_same
  have hW00 : H W0 = none := ((Kp.new hp).trans k1).none hW0 offW.1 offW.2
  have K6 : Kp dl c H H6 := (kW.trans k4).trans k6
  have K7 : Kp dl c H (upd H6 W0 (.dK (mergeK [] [(kSl, .ref A1), (kPa, .ref A2)]))) := K6.upd hW00
  have bump : ∀ (H0 : Hp) (o : HO) (A : Addr) (zs : List Str), H0 W0 = some (.dK []) ∨ (∃ q, H0 W0 = some (.dK q)) → NmsAt H0 A dl c zs → NmsAt (upd H0 W0 o) A dl c zs := fun H0 o A zs hw h => by
    have ne : A ≠ W0 := fun e => by
      have q := h.at_
      rw [e] at q
      rcases hw with hw | ⟨_, hw⟩ <;> rw [hw] at q <;> cases q
    exact ⟨by rw [upd_ne ne]; exact h.at_, h.n1, h.n2, h.nm, h.len⟩
  have dup : ∀ (H0 : Hp) (o : HO), Deal H0 dl c → Deal (upd H0 W0 o) dl c := fun H0 o ⟨ns, a, b, q1, q2, q3⟩ => ⟨ns, a, b, by rw [upd_ne offW.1.symm]; exact q1, by rw [upd_ne offW.2.symm]; exact q2, q3⟩
  have N17 := bump _ (.dK (mergeK [] [(kSl, .ref A1), (kPa, .ref A2)])) _ _ (.inl hW6) N16
  have N27 := bump _ (.dK (mergeK [] [(kSl, .ref A1), (kPa, .ref A2)])) _ _ (.inl hW6) N2
  have D7 := dup _ (.dK (mergeK [] [(kSl, .ref A1), (kPa, .ref A2)])) D6
  have hL7 : (upd H6 W0 (.dK (mergeK [] [(kSl, .ref A1), (kPa, .ref A2)]))) L = some (.lst (ys.map V.str)) := by
    have ne : L ≠ W0 := fun e => by
      rw [e, hW6] at hL6
      cases hL6
    rw [upd_ne ne]
    exact hL6
  dsimp only
  generalize upd H6 W0 (.dK (mergeK [] [(kSl, .ref A1), (kPa, .ref A2)])) = H7 at hW7 K7 N17 N27 D7 hL7 ⊢
  refine ⟨_, rfl, 4, rfl, _, rfl, dl, c, 3, rfl, by decide, by decide, D7, fun r8 H8 q0 q1 D8 k8 => ⟨_, _, rfl, rfl, _, rfl, L, _, rfl, SqL.of (k8 _ _ hL7 n1 n2), fun A3 hA3 => ?_⟩⟩
  obtain ⟨m3, e3, w3, z3, b3⟩ := cut_strs ys (some 4) (some (4 + r8))
  rw [e3]
  have off3 := D8.off hA3
  have N3 : NmsAt (upd H8 A3 (.lst (m3.map V.str))) A3 dl c m3 := ⟨upd_same, off3.1, off3.2, fun z hz => nmY z (w3 z hz), by omega⟩
  have k9 : Kp dl c H7 (upd H8 A3 (.lst (m3.map V.str))) := k8.trans (Kp.new hA3)
  have D9 := D8.keep (Same.new (o := .lst (m3.map V.str)) hA3)
  have hW9 := k9 _ _ hW7 offW.1 offW.2
  have N19 := N17.keep k9
  have N29 := N27.keep k9
  have K9 := K7.trans k9
  generalize upd H8 A3 (.lst (m3.map V.str)) = H9 at N3 k9 D9 hW9 N19 N29 K9 ⊢
  refine ⟨_, rfl, W0, _, rfl, .inl ⟨_, kCo, hW9, rfl, (by show 2 < sizeLine; decide), rfl⟩, _, rfl, ?_⟩
  exact k W0 (upd H9 W0 (.dK [(kSl, .ref A1), (kPa, .ref A2), (kCo, .ref A3)])) (dup _ _ D9) (K9.upd hW00) ⟨A1, A2, A3, m1, m2, m3, upd_same, offW.1, offW.2, bump _ _ _ _ (.inr ⟨_, hW9⟩) N19, bump _ _ _ _ (.inr ⟨_, hW9⟩) N29, bump _ _ _ _ (.inr ⟨_, hW9⟩) N3, p1, p2⟩
end
end My

set_option Elab.async false
set_option linter.all false
set_option maxRecDepth 100000
set_option maxHeartbeats 2000000
namespace My
open PySem L2

def rNeE : R2 := fun x y H Q => ∃ a b ks, x = .ref a ∧ y = .ref b ∧ H a = some (.dK ks) ∧ H b = some (.dK []) ∧ Q (.bl (!decide (ks.length = 0))) H
theorem op_ne_empty {X : Cx} (hu : X.A.units < cLine) : OpR X (compareOp .NotEq) rNeE := by
  intro pins s σ H x y v u Q I rx ry h
  obtain ⟨a, b, ks, rfl, rfl, ea, eb, q⟩ := h
  obtain rfl : v = Value.ref a := rx
  obtain rfl : u = Value.ref b := ry
  obtain ⟨_, ya, va, ra, da⟩ := (show ObjOk X.prog X.w H s.heap a (.dK ks) from I.hok a _ ea)
  obtain ⟨_, yb, vb, rb, db⟩ := (show ObjOk X.prog X.w H s.heap b (.dK []) from I.hok b _ eb)
  have l2 : vb.length = 0 := by rw [← rb.length]; rfl
  have l1 : va.length = ks.length := ra.length.symm
  refine PySem.W.keq_ne (knd := mixKind X.prog X.w) (r := true) ya yb da db hu (fun hl => ?_) (fin_bl I q (by rw [l1, l2]; by_cases z : ks.length = 0 <;> simp [z]))
  have z : ks = [] := List.length_eq_zero_iff.mp (by omega)
  subst z
  exact hits_all rb ra (fun p hp => by cases hp)
theorem erase_mapI : ∀ (ls : List Int) (i : Nat), (ls.map V.int).eraseIdx i = (ls.eraseIdx i).map V.int
  | [], _ => by simp
  | _ :: _, 0 => by simp
  | _ :: r, i + 1 => by simp [erase_mapI r i]
/-- _law_mixed(deal, some): some a list of numbers -/
def spMxI (K : PySem.W.Frag) : Sp := fun vs H Q _ => ∃ (dl c l : Addr) (zs : List Int), vs = [.ref dl, .ref l] ∧ SqL K H l (zs.map V.int) ∧ zs.length < 1000 ∧ Deal H dl c ∧
  ∀ (L : Addr) (ys : List Int) (H' : Hp), ys.Perm zs → Deal H' dl c → Kp dl c H H' → L ≠ dl → L ≠ c → H' L = some (.lst (ys.map V.int)) → Q (.ref L) H'
section
variable {P : Program} {w : World} {K : PySem.W.Frag} {mg : Str → Option Value} {base : Heap}
theorem ok_mxI {f fD : Addr} {fd fdD : FuncData} (F : Fun K "_law_mixed" "_law_mixed" sMx f fd) (z_list : mg "list" = none) (z_len : mg "len" = none)
    (GDraw : FnOk P w K mg base CX0 1 fD fdD ["deal", "wide"] spDraw) (bDraw : Binds K fdD ["deal", "wide"] []) (kDraw : PySem.W.keepIn K (.ref fD) = true) (mDraw : mg "_law_draw" = some (.ref fD)) :
    FnOk P w K mg base CX0 2 f fd ["deal", "some"] (spMxI K) := by
  refine F.ok scMx (fun vs H Q E h => ?_) (fun cdv A outer s H vs Q E hr h => ?_)
  · obtain ⟨_, _, _, _, rfl, _⟩ := h
    rfl
  obtain ⟨dl, c, l, zs, rfl, hS, hz, D, k⟩ := h
  refine ⟨_, (pss_cons (ps_par (i := 2) (j := 3) rfl scMx.nd rfl rfl (by decide) rfl rfl (pa_cons (pe_callTy call_list_of rfl z_list (by decide +kernel) (pa_cons (pv 1) pa_nil)) (pa_cons (pe_lst pa_nil) pa_nil)) rfl)
  (pss_cons (ps_while PassesOwn.never (pt_cmpR (op_neD hr.units) (pv 2) (pe_lst pa_nil) (nomark _)) (pss_one (ps_expr (pe_bm PySem.F.plainAttrs_list PySem.F.slot_list_append PySem.F.type_list_append mt_append (pv 3) (pa_cons (pe_bm PySem.F.plainAttrs_list PySem.F.slot_list_pop PySem.F.type_list_pop mt_popAt (pv 2) (pa_cons (pe_call GDraw (hr.mono (by decide)) rfl mDraw kDraw bDraw .nil pass0 (pa_cons (pv 0) (pa_cons (pe_callB call_len_seq rfl z_len (by decide +kernel) (pa_cons (pv 2) pa_nil)) pa_nil))) pa_nil)) pa_nil)))))
  (pss_one (ps_ret (pv 3))))), ?_⟩
  refine ⟨_, rfl, l, _, rfl, .inl hS, fun L0 hL0 => ⟨(by show 0 ≤ sizeLine; decide), fun F0 hF0 => ⟨_, _, rfl, ?_⟩⟩⟩
  have nLF : L0 ≠ F0 := by
    intro e
    rw [← e, upd_same] at hF0
    cases hF0
  have hF0' : H F0 = none := by
    rw [upd_ne nLF.symm] at hF0
    exact hF0
  have D0 := D.keep ((Same.new hL0).trans (Same.new (o := .lst []) hF0))
  have nd : ∀ p, H p = none → p ≠ dl ∧ p ≠ c := fun p hp => by
    obtain ⟨ns, s, kk, h1, h2, _⟩ := D
    exact ⟨(ne_of_none h1 hp).symm, (ne_of_none h2 hp).symm⟩
  have nL := nd L0 hL0
  have nF := nd F0 hF0'
  refine exit_first (fun σ H1 => ∃ fs : List Int, σ = [some (.ref dl), some (.ref l), some (.ref L0), some (.ref F0)] ∧ H1 F0 = some (.lst (fs.map V.int)) ∧ fs.Perm zs ∧ Deal H1 dl c ∧ Kp dl c H H1) ?rest fun rest => ?loop
  case rest =>
    rintro σ H1 ⟨fs, rfl, h1, h2, h3, h4⟩
    exact ⟨_, rfl, k F0 fs H1 h2 h3 h4 nF.1 nF.2 h1⟩
  case loop =>
    refine ⟨fun m σ H1 => ∃ ls fs : List Int, σ = [some (.ref dl), some (.ref l), some (.ref L0), some (.ref F0)] ∧ H1 L0 = some (.lst (ls.map V.int)) ∧ H1 F0 = some (.lst (fs.map V.int)) ∧ (fs ++ ls).Perm zs ∧ Deal H1 dl c ∧ Kp dl c H H1 ∧ m = ls.length, ?_, ?_⟩
    · refine ⟨_, zs, [], rfl, ?_, upd_same, List.Perm.refl _, D0, Kp.same ((Same.new hL0).trans (Same.new hF0)), rfl⟩
      rw [upd_ne nLF]
      exact upd_same
    rintro m σ H1 ⟨ls, fs, rfl, h1, h2, pm, D1, kp, rfl⟩
    have hlen := pm.length_eq
    rw [List.length_append] at hlen
    refine ⟨_, rfl, (by show 0 ≤ sizeLine; decide), fun p hp => ?_⟩
    have sp : Same H1 (upd H1 p (.lst [])) := Same.new hp
    have h1' := sp _ _ h1
    have h2' := sp _ _ h2
    have kp' : Kp dl c H (upd H1 p (.lst [])) := kp.trans (Kp.same sp)
    have D1' := D1.keep sp
    refine ⟨.list (ls.map PyData.int), .list (([] : List Int).map PyData.int), Dp.lst (SqL.of h1') (dp_ints ls), Dp.lst (SqL.of upd_same) .nil, PySem.W.ke_shaped_ints ls, PySem.W.ke_shaped_ints [], _, rfl, ?_⟩
    rw [eqv_ints]
    generalize upd H1 p (.lst []) = H2 at h1' h2' kp' D1' ⊢
    by_cases hn : ls = []
    · refine iteY (decide_eq_true hn) ?_
      subst hn
      rw [List.append_nil] at pm
      exact rest _ _ ⟨fs, rfl, h2', pm, D1', kp'⟩
    · refine iteN (decide_eq_false hn) ?_
      have h0 : 0 < ls.length := List.length_pos_iff.mpr hn
      refine ⟨fun σ' H' => ∃ ls' fs' : List Int, σ' = [some (.ref dl), some (.ref l), some (.ref L0), some (.ref F0)] ∧ H' L0 = some (.lst (ls'.map V.int)) ∧ H' F0 = some (.lst (fs'.map V.int)) ∧ (fs' ++ ls').Perm zs ∧ Deal H' dl c ∧ Kp dl c H H' ∧ ls'.length + 1 = ls.length, ?_, ?_⟩
      · rintro σ' H' ⟨a, b, c1, c2, c3, c4, c5, c6, c7⟩
        exact ⟨a.length, by omega, a, b, c1, c2, c3, c4, c5, c6, rfl⟩
      refine ⟨_, rfl, .inl ⟨rfl, _, SqL.of h2'⟩, _, rfl, .inl ⟨rfl, _, SqL.of h1'⟩, _, rfl, _, rfl, L0, _, rfl, .inl (SqL.of h1'), dl, c, _, rfl, (by rw [List.length_map]; omega), (by rw [List.length_map]; omega), D1', fun r H3 r0 r1 D3 k3 => ?_⟩
      rw [List.length_map] at r1
      have h1'' := k3 _ _ h1' nL.1 nL.2
      have h2'' := k3 _ _ h2' nF.1 nF.2
      have rr : r.toNat < ls.length := by omega
      have er : ((r.toNat : Nat) : Int) = r := by omega
      refine ⟨L0, _, r, r.toNat, .int ls[r.toNat], rfl, rfl, h1'', by omega, by omega, ?_, ?_, ?_⟩
      · rw [List.length_map, ← er]
        unfold seqIndex?
        simp
        omega
      · rw [List.getElem?_map, List.getElem?_eq_getElem rr]
        rfl
      refine ⟨F0, fs.map V.int, _, rfl, rfl, by rw [upd_ne nLF.symm]; exact h2'', by rw [List.length_map]; exact Nat.lt_of_lt_of_le (show fs.length < 1000 by omega) (by decide), ?_⟩
      refine ⟨ls.eraseIdx r.toNat, fs ++ [ls[r.toNat]], rfl, ?_, ?_, ?_, ?_, ?_, ?_⟩
      · rw [upd_ne nLF, upd_same, erase_mapI]
      · rw [upd_same, List.map_append]
        rfl
      · exact (mixed_perm rr).trans pm
      · obtain ⟨ns, a, b, q1, q2, q3⟩ := D3
        refine ⟨ns, a, b, ?_, ?_, q3⟩
        · rw [upd_ne nF.1.symm, upd_ne nL.1.symm]
          exact q1
        · rw [upd_ne nF.2.symm, upd_ne nL.2.symm]
          exact q2
      · exact ((kp'.trans k3).upd hL0).upd hF0'
      · rw [List.length_eraseIdx_of_lt rr]
        omega
end
end My

set_option Elab.async false
set_option linter.all false
set_option maxRecDepth 100000
set_option maxHeartbeats 4000000
/-! the texts that a drawn reader is made of -/
namespace My
open PySem L2
def txN (n : Nat) : Str := Str.ofString (toString ((n : Nat) : Int))
def NUMS : List Nat := List.range 13
def PLAIN : List Str := ["enter", "leave", "fence", "clear h"]
def tRd (n : Str) : Str := ("read " : Str) ++ n
def tLk (n : Str) : Str := ("look " : Str) ++ n
def tMk (n : Str) : Str := ("mark h " : Str) ++ n
def tNm (n : Str) : Str := ("num " : Str) ++ n
def tUs (a b : Str) : Str := (("use " : Str) ++ a ++ (" " : Str)) ++ b
def tEv (k : Nat) : Str := ("even " : Str) ++ txN k
def tSm (j k : Nat) : Str := (("same " : Str) ++ txN j ++ (" " : Str)) ++ txN k
/-- a step of a drawn reader -/
inductive Rs : Str → Prop
  | plain {z : Str} (h : z ∈ PLAIN) : Rs z
  | rd {n : Str} (h : n ∈ NAMES) : Rs (tRd n)
  | lk {n : Str} (h : n ∈ NAMES) : Rs (tLk n)
  | mk {n : Str} (h : n ∈ NAMES) : Rs (tMk n)
  | nm {n : Str} (h : n ∈ NAMES) : Rs (tNm n)
  | us {a b : Str} (ha : a ∈ NAMES) (hb : b ∈ NAMES) : Rs (tUs a b)
  | ev {k : Nat} (h : k ∈ NUMS) : Rs (tEv k)
  | sm {j k : Nat} (hj : j ∈ NUMS) (hk : k ∈ NUMS) : Rs (tSm j k)
def shortS (z : Str) : Bool := PyData.leavesShort 40 (.str z) && decide (z.cps.size ≤ 30)
/-- what is told of each step -/
def goodStep (z : Str) (ws : List Str) (ns : List Int) : Bool :=
  decide (Txt.split z " " = ws) && (stepS z && (PyData.strOk z && (decide (z.length ≤ 20) && (decide (44 ∉ z.cps.toList) && (shortS z && (ws.all shortS && (decide (numsS z = ns) && ns.all (fun n => decide (0 ≤ n) && decide (n ≤ 12)))))))))
theorem good_plain : PLAIN.all (fun z => goodStep z (Txt.split z " ") []) = true := by decide +kernel
theorem good_rd : NAMES.all (fun n => goodStep (tRd n) ["read", n] []) = true := by decide +kernel
theorem good_lk : NAMES.all (fun n => goodStep (tLk n) ["look", n] []) = true := by decide +kernel
theorem good_mk : NAMES.all (fun n => goodStep (tMk n) ["mark", "h", n] []) = true := by decide +kernel
theorem good_nm : NAMES.all (fun n => goodStep (tNm n) ["num", n] []) = true := by decide +kernel
theorem good_us : NAMES.all (fun a => NAMES.all fun b => goodStep (tUs a b) ["use", a, b] []) = true := by decide +kernel
theorem good_ev : NUMS.all (fun k => goodStep (tEv k) ["even", txN k] [(k : Int)]) = true := by decide +kernel
theorem good_sm : NUMS.all (fun j => NUMS.all fun k => goodStep (tSm j k) ["same", txN j, txN k] [(j : Int), (k : Int)]) = true := by decide +kernel
theorem pl_ne : PLAIN.all (fun z => !isChk z && (!decide (V.str (hw z) = V.str "read") && (!inV (.str (hw z)) [.str "use", .str "look"] && (!decide (V.str (hw z) = V.str "mark") && !decide (V.str (hw z) = V.str "num"))))) = true := by decide +kernel
/-- what is told, spelt out -/
structure Good (z : Str) (ws : List Str) (ns : List Int) : Prop where
  sp : Txt.split z " " = ws
  st : stepS z = true
  ok : PyData.strOk z = true
  len : z.length ≤ 20
  com : 44 ∉ z.cps.toList
  sh : shortS z = true
  wsh : ws.all shortS = true
  nums : numsS z = ns
  nsm : ∀ n ∈ ns, 0 ≤ n ∧ n ≤ 12
theorem Good.of {z : Str} {ws : List Str} {ns : List Int} (h : goodStep z ws ns = true) : Good z ws ns := by
  unfold goodStep at h
  simp only [Bool.and_eq_true, decide_eq_true_eq] at h
  obtain ⟨h1, h2, h3, h4, h5, h6, h7, h8, h9⟩ := h
  refine ⟨h1, h2, h3, h4, h5, h6, h7, h8, fun n hn => ?_⟩
  have q := List.all_eq_true.mp h9 n hn
  simp only [Bool.and_eq_true, decide_eq_true_eq] at q
  exact q
theorem Good.hw {z : Str} {w : Str} {ws : List Str} {ns : List Int} (g : Good z (w :: ws) ns) : hw z = w := by
  unfold My.hw
  rw [g.sp]
  rfl
theorem Good.wd {z : Str} {ws : List Str} {ns : List Int} (g : Good z ws ns) (i : Nat) : wd z i = ws.getD i "" := by
  unfold My.wd
  rw [g.sp]
theorem g_plain {z : Str} (h : z ∈ PLAIN) : Good z (Txt.split z " ") [] := Good.of (List.all_eq_true.mp good_plain z h)
theorem g_rd {n : Str} (h : n ∈ NAMES) : Good (tRd n) ["read", n] [] := Good.of (List.all_eq_true.mp good_rd n h)
theorem g_lk {n : Str} (h : n ∈ NAMES) : Good (tLk n) ["look", n] [] := Good.of (List.all_eq_true.mp good_lk n h)
theorem g_mk {n : Str} (h : n ∈ NAMES) : Good (tMk n) ["mark", "h", n] [] := Good.of (List.all_eq_true.mp good_mk n h)
theorem g_nm {n : Str} (h : n ∈ NAMES) : Good (tNm n) ["num", n] [] := Good.of (List.all_eq_true.mp good_nm n h)
theorem g_us {a b : Str} (ha : a ∈ NAMES) (hb : b ∈ NAMES) : Good (tUs a b) ["use", a, b] [] := Good.of (List.all_eq_true.mp (List.all_eq_true.mp good_us a ha) b hb)
theorem g_ev {k : Nat} (h : k ∈ NUMS) : Good (tEv k) ["even", txN k] [(k : Int)] := Good.of (List.all_eq_true.mp good_ev k h)
theorem g_sm {j k : Nat} (hj : j ∈ NUMS) (hk : k ∈ NUMS) : Good (tSm j k) ["same", txN j, txN k] [(j : Int), (k : Int)] := Good.of (List.all_eq_true.mp (List.all_eq_true.mp good_sm j hj) k hk)
theorem Rs.good {z : Str} (h : Rs z) : ∃ ws ns, Good z ws ns := by
  cases h with
  | plain h => exact ⟨_, _, g_plain h⟩
  | rd h => exact ⟨_, _, g_rd h⟩
  | lk h => exact ⟨_, _, g_lk h⟩
  | mk h => exact ⟨_, _, g_mk h⟩
  | nm h => exact ⟨_, _, g_nm h⟩
  | us ha hb => exact ⟨_, _, g_us ha hb⟩
  | ev h => exact ⟨_, _, g_ev h⟩
  | sm hj hk => exact ⟨_, _, g_sm hj hk⟩
def Stp (zs : List Str) : Prop := ∀ z ∈ zs, Rs z
theorem Stp.txs {zs : List Str} (h : Stp zs) : TxsOk zs := fun z hz => by
  obtain ⟨ws, ns, g⟩ := (h z hz).good
  exact ⟨Nat.le_trans g.len (by decide), g.ok⟩
theorem Rs.stepOk {z : Str} (h : Rs z) : StepOk z := by
  obtain ⟨ws, ns, g⟩ := h.good
  exact ⟨le1000 (Nat.le_trans g.len (by decide)), g.st, num_ok g.st⟩
theorem Rs.num {z : Str} (h : Rs z) : ∀ n ∈ numsS z, 0 ≤ n ∧ n ≤ 100000 := fun n hn => by
  obtain ⟨ws, ns, g⟩ := h.good
  rw [g.nums] at hn
  have := g.nsm n hn
  omega
/-- the script of such texts -/
theorem scrT_of {zs : List Str} (h : Stp zs) : scrT zs = (decide (zs ≠ []) && goR zs) := by
  have e1 : ∀ ys : List Str, txts (ys.map V.str) = ys := fun ys => by
    induction ys with
    | nil => rfl
    | cons y r ih =>
      show y :: txts (r.map V.str) = y :: r
      rw [ih]
  have e2 : ((zs.map V.str).map stepV).all id = true := by
    rw [List.all_eq_true]
    intro b hb
    obtain ⟨v, hv, rfl⟩ := List.mem_map.mp hb
    obtain ⟨z, hz, rfl⟩ := List.mem_map.mp hv
    exact (h z hz).stepOk.2.1
  unfold scrT scriptS
  rw [e1, e2, Bool.true_and, List.length_map]
  congr 1
  cases zs with
  | nil => rfl
  | cons z r =>
    have q : decide ((0 : Int) < ((z :: r).length : Nat)) = true := decide_eq_true (by simp)
    rw [q]
    exact (decide_eq_true (by simp)).symm
theorem rrun_snoc : ∀ (n : Nat) (st : Rst) (zs : List Str) (z : Str), rrun n st (zs ++ [z]) = (rrun n st zs).bind fun st' => if rbad st' z = true then none else some (rnew (n + zs.length) st' z)
  | n, st, [], z => by
    show (if rbad st z = true then none else some (rnew n st z)) = _
    rfl
  | n, st, y :: r, z => by
    show (if rbad st y = true then none else rrun (n + 1) (rnew n st y) (r ++ [z])) = (if rbad st y = true then none else rrun (n + 1) (rnew n st y) r).bind _
    split
    · rfl
    · rw [rrun_snoc (n + 1) _ r z]
      have e : n + 1 + r.length = n + (y :: r).length := by rw [List.length_cons]; omega
      rw [e]
end My

set_option Elab.async false
set_option linter.all false
set_option maxRecDepth 100000
set_option maxHeartbeats 2000000
/-! what the steps do, one sort behind another -/
namespace My
open PySem L2
theorem rb_form {z w : Str} {ws : List Str} {ns : List Int} (g : Good z (w :: ws) ns) (st : Rst) : rbad st z = ((inV (.str w) (CMP.map V.str) && !cmpR ns st.2) || ((decide (V.str w = V.str "read") && decide (ws.getD 0 "" ∈ st.1)) || ((inV (.str w) [.str "use", .str "look"] && !decide (ws.getD 0 "" ∈ st.1)) || (decide (V.str w = V.str "mark") && !decide (ws.getD 1 "" ∈ st.1))))) := by
  unfold rbad isChk
  rw [g.hw, g.nums, g.wd, g.wd]
  rfl
theorem rn_form {z w : Str} {ws : List Str} {ns : List Int} (g : Good z (w :: ws) ns) (i : Nat) (st : Rst) : rnew i st z = (if decide (V.str w = V.str "read") = true then addKey st.1 (ws.getD 0 "") else st.1, if decide (V.str w = V.str "num") = true then st.2 ++ [(i, ws.getD 0 "")] else st.2) := by
  unfold rnew
  rw [g.hw, g.wd]
  rfl
def flags (w : Str) : Bool × Bool × Bool × Bool × Bool := (inV (.str w) (CMP.map V.str), decide (V.str w = V.str "read"), inV (.str w) [.str "use", .str "look"], decide (V.str w = V.str "mark"), decide (V.str w = V.str "num"))
theorem fl {w : Str} {a b c d e : Bool} (h : flags w = (a, b, c, d, e)) : inV (.str w) (CMP.map V.str) = a ∧ decide (V.str w = V.str "read") = b ∧ inV (.str w) [.str "use", .str "look"] = c ∧ decide (V.str w = V.str "mark") = d ∧ decide (V.str w = V.str "num") = e := by
  unfold flags at h
  simp only [Prod.mk.injEq] at h
  exact h
theorem f_read : flags "read" = (false, true, false, false, false) := by decide +kernel
theorem f_look : flags "look" = (false, false, true, false, false) := by decide +kernel
theorem f_use : flags "use" = (false, false, true, false, false) := by decide +kernel
theorem f_mark : flags "mark" = (false, false, false, true, false) := by decide +kernel
theorem f_num : flags "num" = (false, false, false, false, true) := by decide +kernel
theorem f_even : flags "even" = (true, false, false, false, false) := by decide +kernel
theorem f_same : flags "same" = (true, false, false, false, false) := by decide +kernel
section
variable {n : Str} {st : Rst}
theorem rb_plain {z : Str} (h : z ∈ PLAIN) : rbad st z = false ∧ ∀ i, rnew i st z = st := by
  have q := List.all_eq_true.mp pl_ne z h
  simp only [Bool.and_eq_true, Bool.not_eq_true'] at q
  obtain ⟨q1, q2, q3, q4, q5⟩ := q
  refine ⟨?_, fun i => ?_⟩
  · unfold rbad
    rw [q1, q2, q3, q4]
    rfl
  · unfold rnew
    rw [q2, q5]
    rfl
theorem rb_rd (h : n ∈ NAMES) : rbad st (tRd n) = decide (n ∈ st.1) ∧ ∀ i, rnew i st (tRd n) = (addKey st.1 n, st.2) := by
  obtain ⟨a, b, c, d, e⟩ := fl f_read
  refine ⟨?_, fun i => ?_⟩
  · rw [rb_form (g_rd h), a, b, c, d]
    simp
  · rw [rn_form (g_rd h), b, e]
    rfl
theorem rb_lk (h : n ∈ NAMES) : rbad st (tLk n) = !decide (n ∈ st.1) ∧ ∀ i, rnew i st (tLk n) = st := by
  obtain ⟨a, b, c, d, e⟩ := fl f_look
  refine ⟨?_, fun i => ?_⟩
  · rw [rb_form (g_lk h), a, b, c, d]
    simp
  · rw [rn_form (g_lk h), b, e]
    rfl
theorem rb_us {m : Str} (h : n ∈ NAMES) (hm : m ∈ NAMES) : rbad st (tUs n m) = !decide (n ∈ st.1) ∧ ∀ i, rnew i st (tUs n m) = st := by
  obtain ⟨a, b, c, d, e⟩ := fl f_use
  refine ⟨?_, fun i => ?_⟩
  · rw [rb_form (g_us h hm), a, b, c, d]
    simp
  · rw [rn_form (g_us h hm), b, e]
    rfl
theorem rb_mk (h : n ∈ NAMES) : rbad st (tMk n) = !decide (n ∈ st.1) ∧ ∀ i, rnew i st (tMk n) = st := by
  obtain ⟨a, b, c, d, e⟩ := fl f_mark
  refine ⟨?_, fun i => ?_⟩
  · rw [rb_form (g_mk h), a, b, c, d]
    simp
  · rw [rn_form (g_mk h), b, e]
    rfl
theorem rb_nm (h : n ∈ NAMES) : rbad st (tNm n) = false ∧ ∀ i, rnew i st (tNm n) = (st.1, st.2 ++ [(i, n)]) := by
  obtain ⟨a, b, c, d, e⟩ := fl f_num
  refine ⟨?_, fun i => ?_⟩
  · rw [rb_form (g_nm h), a, b, c, d]
    simp
  · rw [rn_form (g_nm h), b, e]
    rfl
theorem rb_ev {k : Nat} (h : k ∈ NUMS) : rbad st (tEv k) = !cmpR [(k : Int)] st.2 ∧ ∀ i, rnew i st (tEv k) = st := by
  obtain ⟨a, b, c, d, e⟩ := fl f_even
  refine ⟨?_, fun i => ?_⟩
  · rw [rb_form (g_ev h), a, b, c, d]
    simp
  · rw [rn_form (g_ev h), b, e]
    rfl
theorem rb_sm {j k : Nat} (hj : j ∈ NUMS) (hk : k ∈ NUMS) : rbad st (tSm j k) = !cmpR [(j : Int), (k : Int)] st.2 ∧ ∀ i, rnew i st (tSm j k) = st := by
  obtain ⟨a, b, c, d, e⟩ := fl f_same
  refine ⟨?_, fun i => ?_⟩
  · rw [rb_form (g_sm hj hk), a, b, c, d]
    simp
  · rw [rn_form (g_sm hj hk), b, e]
    rfl
end
theorem cmp_ev {k : Nat} {cs : List (Nat × Str)} : cmpR [(k : Int)] cs = (askS cs k).isSome := by
  unfold cmpR srt
  cases h : askS cs (k : Int) with
  | none => simp [h]
  | some y => simp [h]
theorem cmp_sm {j k : Nat} {cs : List (Nat × Str)} : cmpR [(j : Int), (k : Int)] cs = (decide (j < k) && ((askS cs j).isSome && decide (askS cs j = askS cs k))) := by
  unfold cmpR srt
  by_cases h : j < k
  · have h1 : (j : Int) ≤ k := by omega
    have h2 : ¬ (j : Int) = k := by omega
    cases ha : askS cs (j : Int) with
    | none => simp [h, h1, h2, ha]
    | some y =>
      cases hb : askS cs (k : Int) with
      | none => simp [h, h1, h2, ha, hb]
      | some x =>
        have e1 : askV cs (j : Int) = .str y := by unfold askV; rw [ha]; rfl
        have e2 : askV cs (k : Int) = .str x := by unfold askV; rw [hb]; rfl
        by_cases q : y = x
        · subst q
          simp [h, h1, h2, ha, hb, e1, e2]
        · have q2 : ¬ V.str y = V.str x := fun z => q (by injection z)
          simp [h, h1, h2, ha, hb, e1, e2, q, q2]
  · by_cases h1 : (j : Int) ≤ k
    · have h2 : (j : Int) = k := by omega
      simp [h, h1, h2]
    · simp [h, h1]
end My

set_option Elab.async false
set_option linter.all false
set_option maxRecDepth 100000
set_option maxHeartbeats 2000000
namespace My
open PySem L2

abbrev sRu : Stmt := top 40
abbrev NRu : List Str := ["told_reader"]
theorem scRu : FnScope ["told_reader"] ["told_reader"] (defScope sRu) := ⟨rfl, rfl, rfl, by decide +kernel, rfl, by decide +kernel, by decide +kernel⟩
abbrev sLe : Stmt := top 42
abbrev NLe : List Str := ["text", "spot", "more", "words", "one"]
theorem scLe : FnScope ["text", "spot", "more", "words", "one"] ["text", "spot", "more"] (defScope sLe) := ⟨rfl, rfl, rfl, by decide +kernel, rfl, by decide +kernel, by decide +kernel⟩
/-- _law_reader_text((nm, l, wo)) -/
def spRu (K : PySem.W.Frag) : Sp := fun vs H Q _ => ∃ (T l : Addr) (nm wo : Str) (zs : List Str), vs = [.ref T] ∧ H T = some (.tup [.str nm, .ref l, .str wo]) ∧ SqL K H l (zs.map V.str) ∧ nm.length ≤ 1000 ∧ wo.length ≤ 1000 ∧ zs.length ≤ 100 ∧ (∀ z ∈ zs, z.length ≤ 1000) ∧ Q (.str (readerText nm wo zs)) H
/-- _law_led(text, spot, more) -/
def spLe : Sp := fun vs H Q _ => ∃ (z : Str) (at_ by_ : Int), vs = [.str z, .int at_, .int by_] ∧ Rs z ∧ -1 ≤ by_ ∧ by_ ≤ 1 ∧ ∀ H', Same H H' → Q (.str (mvT z at_ by_)) H'
section
variable {P : Program} {w : World} {K : PySem.W.Frag} {mg : Str → Option Value} {base : Heap}
theorem ok_ru {f : Addr} {fd : FuncData} (F : Fun K "_law_reader_text" "_law_reader_text" sRu f fd) : FnOk P w K mg base CX0 1 f fd ["told_reader"] (spRu K) := by
  refine F.ok scRu (fun vs H Q E h => ?_) (fun cdv A outer s H vs Q E hr h => ?_)
  · obtain ⟨_, _, _, _, _, rfl, _⟩ := h
    rfl
  obtain ⟨T, l, nm, wo, zs, rfl, hT, hl, hn, hwo, h100, hz, k⟩ := h
  have hs := sum_le hz
  have hm : 1000 * zs.length ≤ 100000 := by omega
  have hj : (Txt.join ", " zs).length ≤ (zs.map (·.length)).sum + zs.length * 2 := by
    show (Builtin.Str.glued ", " zs).length ≤ _
    rw [StrLaws.glued_eq_join]
    exact StrLaws.join_length_le ", " zs
  have big : ∀ n : Nat, n ≤ 200000 → n ≤ sizeLine := fun n h => Nat.le_trans h (by decide)
  have l5 : ("reader " : Str).length = 7 := by decide +kernel
  have l1 : (" " : Str).length = 1 := by decide +kernel
  have l2 : (": " : Str).length = 2 := by decide +kernel
  have l3 : (", " : Str).length = 2 := by decide +kernel
  refine ⟨_, (pss_one (ps_ret (pe_op op_add_str (pe_op op_add_str (pe_op op_add_str (pe_op op_add_str (pe_op op_add_str pe_str (pe_ix ix_tup (pv 0) pe_int (fun _ _ => rfl))) pe_str) (pe_ix ix_tup (pv 0) pe_int (fun _ _ => rfl))) pe_str) (pe_join pe_str (pe_ix ix_tup (pv 0) pe_int (fun _ _ => rfl)))))), ?_⟩
  refine ⟨_, rfl, T, _, 0, _, rfl, rfl, .inl (.inl hT), rfl, _, _, rfl, rfl, big _ (by rw [l5]; omega), _, _, rfl, rfl, big _ (by rw [Str.length_append, l5, l1]; omega), ?_⟩
  refine ⟨_, rfl, T, _, 2, _, rfl, rfl, .inl (.inl hT), rfl, _, _, rfl, rfl, big _ (by rw [Str.length_append, Str.length_append, l5, l1]; omega), _, _, rfl, rfl, big _ (by rw [Str.length_append, Str.length_append, Str.length_append, l5, l1, l2]; omega), ⟨_, rfl⟩, _, rfl, T, _, 1, _, rfl, rfl, .inl (.inl hT), rfl, ?_⟩
  refine ⟨", ", l, zs, rfl, rfl, .inl hl, (by rw [l3]; omega), _, _, rfl, rfl, big _ (by rw [Str.length_append, Str.length_append, Str.length_append, Str.length_append, l5, l1, l2]; omega), ?_⟩
  exact k
theorem ok_le {f : Addr} {fd : FuncData} (F : Fun K "_law_led" "_law_led" sLe f fd) (z_str : mg "str" = none) (z_int : mg "int" = none) : FnOk P w K mg base CX0 1 f fd ["text", "spot", "more"] spLe := by
  refine F.ok scLe (fun vs H Q E h => ?_) (fun cdv A outer s H vs Q E hr h => ?_)
  · obtain ⟨_, _, _, rfl, _⟩ := h
    rfl
  obtain ⟨z, at_, by_, rfl, rs, hb1, hb2, k⟩ := h
  have sok := rs.stepOk
  have hn := rs.num
  refine ⟨_, (pss_cons (ps_set (i := 3) scLe.nd rfl (.inl rfl) (pe_split (pv 0) pe_str))
  (pss_cons (ps_if (pt_cmpR op_notIn_seq (pe_ix ix_list (pv 3) pe_int (fun _ _ => rfl)) (pe_tup (pa_cons pe_str (pa_cons pe_str pa_nil))) (by with_unfolding_all rfl)) (pss_one (ps_ret (pv 0))) pss_nil)
  (pss_one (ps_ret (pe_join pe_str (pe_op op_cat (pe_lst (pa_cons (pe_ix ix_list (pv 3) pe_int (fun _ _ => rfl)) pa_nil)) (pe_lc (own := [("one", 4)]) (g := gName 4) (tt := tYes) rfl scLe.nd (pi_list (pe_slice sl_list (pv 3) (po_some pe_int) po_none)) (blkOk_by (own := [("one", 4)]) (N := NLe) (sc := defScope sLe) (by decide +kernel)) (fun _ _ _ _ _ => (pg_name (i := 4) scLe.nd rfl (Or.inl rfl))) (fun _ _ _ _ _ => pts_nil) (fun _ _ _ _ _ => (pe_callTy call_str_int rfl z_str (by decide +kernel) (pa_cons (pe_ifExp (pt_cmpR op_ge (pe_callTy call_int_str rfl z_int (by decide +kernel) (pa_cons (pv 4) pa_nil)) (pv 1) (nomark _)) (pe_op op_add (pe_callTy call_int_str rfl z_int (by decide +kernel) (pa_cons (pv 4) pa_nil)) (pv 2)) (pe_callTy call_int_str rfl z_int (by decide +kernel) (pa_cons (pv 4) pa_nil))) pa_nil)))))))))), ?_⟩
  refine ⟨_, rfl, ⟨z, rfl⟩, z, " ", rfl, rfl, rfl, sok.1, fun p hp => ?_⟩
  have s0 : Same H (upd H p (.lst ((Txt.split z " ").map V.str))) := Same.new hp
  have ep : (upd H p (.lst ((Txt.split z " ").map V.str))) p = some (.lst ((Txt.split z " ").map V.str)) := upd_same
  generalize upd H p (.lst ((Txt.split z " ").map V.str)) = H1 at s0 ep ⊢
  refine ⟨_, rfl, p, _, 0, .str (hw z), rfl, rfl, SqL.of ep, at_hw z, (by show 2 ≤ sizeLine; decide), fun U hU => ?_⟩
  have s1 := s0.trans (Same.new (o := .tup [.str "same", .str "even"]) hU)
  have ep1 := Same.new (o := .tup [.str "same", .str "even"]) hU _ _ ep
  refine ⟨U, _, rfl, .inr (.inl (.inl upd_same)), rfl, rfl, _, rfl, ?_⟩
  generalize upd H1 U (.tup [.str "same", .str "even"]) = H2 at s1 ep1 ⊢
  show if (!isChk z) = true then _ else _
  cases hc : isChk z with
  | false =>
    have e : mvT z at_ by_ = z := by
      unfold mvT
      rw [if_pos (by unfold numsS; rw [hc]; rfl)]
    have q := k _ s1
    rw [e] at q
    exact ifT rfl ⟨_, rfl, q⟩
  | true =>
    refine ifF rfl ?_
    obtain ⟨hne, h10⟩ := chk_nums sok.2.1 hc
    obtain ⟨hw1, _⟩ := sok.2.2 hc
    have en : numsS z = ((Txt.split z " ").drop 1).map valS := by
      unfold numsS
      rw [hc]
      rfl
    have hl : (Txt.split z " ").length ≤ 11 := by
      have q := congrArg List.length en
      rw [List.length_map, List.length_drop] at q
      omega
    refine ⟨⟨_, rfl⟩, _, rfl, p, _, 0, .str (hw z), rfl, rfl, SqL.of ep1, at_hw z, (by show 1 ≤ sizeLine; decide), fun L hL => ?_⟩
    have s2 := s1.trans (Same.new (o := .lst [.str (hw z)]) hL)
    have ep2 := Same.new (o := .lst [.str (hw z)]) hL _ _ ep1
    have eL : (upd H2 L (.lst [.str (hw z)])) L = some (.lst [.str (hw z)]) := upd_same
    generalize upd H2 L (.lst [.str (hw z)]) = H3 at s2 ep2 eL ⊢
    refine ⟨_, rfl, 1, rfl, p, _, rfl, SqL.of ep2, fun q hq => ?_⟩
    rw [cut_one, ← List.map_drop]
    have s3 := s2.trans (Same.new (o := .lst (((Txt.split z " ").drop 1).map V.str)) hq)
    have eL3 := Same.new (o := .lst (((Txt.split z " ").drop 1).map V.str)) hq _ _ eL
    have eq : (upd H3 q (.lst (((Txt.split z " ").drop 1).map V.str))) q = some (.lst (((Txt.split z " ").drop 1).map V.str)) := upd_same
    generalize upd H3 q (.lst (((Txt.split z " ").drop 1).map V.str)) = H4 at s3 eL3 eq ⊢
    refine ⟨q, rfl, ⟨_, SqL.of eq⟩, fun D hD => ?_⟩
    refine lc_s (walk_list (K := K) (a := q)) (fun x => match x with | .str w => some (.str (mvW at_ by_ (valS w))) | _ => none) hD (by rw [List.length_map, List.length_drop]; exact Nat.lt_of_le_of_lt (show _ ≤ 1000 by omega) (by decide)) (fun H' s => SqL.of (s _ _ eq)) ?_ ?_
    · intro x H5 hx s5 OK NO ok no
      obtain ⟨wd, hwd, rfl⟩ := List.mem_map.mp hx
      obtain ⟨a1, a2⟩ := hw1 wd hwd
      have hm : valS wd ∈ numsS z := by rw [en]; exact List.mem_map_of_mem hwd
      obtain ⟨q1, q2⟩ := mvN_small (a := at_) (hn _ hm) hb1 hb2
      have fin := ok (.str (mvW at_ by_ (valS wd))) H5 (fun _ _ e => e) rfl
      unfold mvW at fin
      have em : mvN at_ by_ (valS wd) = if decide (at_ ≤ valS wd) = true then valS wd + by_ else valS wd := rfl
      refine ⟨rfl, _, rfl, wd, valS wd, rfl, a1, a2, _, rfl, _, _, rfl, rfl, _, rfl, ?_⟩
      refine ite3 (fun h => ?_) (fun h => ?_)
      · have e : mvN at_ by_ (valS wd) = valS wd + by_ := by rw [em]; exact if_pos h
        rw [e] at fin q1 q2
        exact ⟨_, rfl, wd, valS wd, rfl, a1, a2, _, rfl, _, _, rfl, rfl, _, rfl, log_small q1 q2, fin⟩
      · have e : mvN at_ by_ (valS wd) = valS wd := by rw [em]; exact if_neg (by rw [show decide (at_ ≤ valS wd) = false from h]; exact Bool.false_ne_true)
        rw [e] at fin q1 q2
        exact ⟨_, rfl, wd, valS wd, rfl, a1, a2, _, rfl, log_small q1 q2, fin⟩
    · intro H5 s5 e5
      have key : ∀ ws : List Str, (ws.map V.str).filterMap (fun x => match x with | .str w => some (V.str (mvW at_ by_ (valS w))) | _ => none) = ((ws.map valS).map (mvW at_ by_)).map V.str := fun ws => by
        induction ws with
        | nil => rfl
        | cons x r ih =>
          rw [List.map_cons, List.filterMap_cons, ih]
          rfl
      rw [key, ← en] at e5
      have hs := mv_sum (a := at_) hb1 hb2 _ hn
      refine ⟨L, D, _, _, rfl, rfl, s5 _ _ eL3, e5, ?_, fun R hR => ?_⟩
      · rw [List.length_map, List.length_map]
        show 1 + (numsS z).length ≤ sizeLine
        exact Nat.le_trans (show _ ≤ 1000 by omega) (by decide)
      refine ⟨" ", R, hw z :: (numsS z).map (mvW at_ by_), rfl, rfl, .inl (SqL.of ?_), ?_, ?_⟩
      · rw [upd_same]
        rfl
      · have l1 : (" " : Str).length = 1 := by decide +kernel
        have hh := hw_le z
        obtain ⟨ws, ns, g⟩ := rs.good
        have := g.len
        simp only [List.map_cons, List.sum_cons, List.length_cons, List.length_map]
        rw [l1]
        omega
      · have e : mvT z at_ by_ = Txt.join " " (hw z :: (numsS z).map (mvW at_ by_)) := by
          unfold mvT
          rw [if_neg hne]
        rw [← e]
        exact k _ ((s3.trans s5).trans (Same.new hR))
end
end My

set_option Elab.async false
set_option linter.all false
set_option maxRecDepth 100000
set_option maxHeartbeats 2000000
namespace My
open PySem L2

abbrev sLo : Stmt := top 41
abbrev NLo : List Str := ["texts", "words", "spot", "found", "text", "word"]
theorem scLo : FnScope ["texts", "words", "spot", "found", "text", "word"] ["texts", "words", "spot"] (defScope sLo) := ⟨rfl, rfl, rfl, by decide +kernel, rfl, by decide +kernel, by decide +kernel⟩
/-- the words at sp of the texts whose first word is one of ws -/
def wordsAt (ws : List Str) (sp : Nat) (zs : List Str) : List Str := (zs.filter fun z => inV (.str (hw z)) (ws.map V.str)).map fun z => (Txt.split z " ").getD sp ""
/-- _law_lot(texts, words, spot) -/
def spLo (K : PySem.W.Frag) : Sp := fun vs H Q _ => ∃ (a t : Addr) (zs ws : List Str) (sp : Nat), vs = [.ref a, .ref t, .int sp] ∧ SqA K H a (zs.map V.str) ∧ H t = some (.tup (ws.map V.str)) ∧ zs.length < 64 ∧ Stp zs ∧
  (∀ z ∈ zs, inV (.str (hw z)) (ws.map V.str) = true → sp < (Txt.split z " ").length) ∧
  ∀ (T : Addr) (ys : List Str) (H' : Hp), Same H H' → H' T = some (.tup (ys.map V.str)) → PyProof.Rows.sortedS ys = true → ys.Nodup → (∀ y, y ∈ ys ↔ y ∈ wordsAt ws sp zs) → ys.length ≤ zs.length → Q (.ref T) H'
section
variable {P : Program} {w : World} {K : PySem.W.Frag} {mg : Str → Option Value} {base : Heap}
theorem ok_lo {f : Addr} {fd : FuncData} (F : Fun K "_law_lot" "_law_lot" sLo f fd) (z_str : mg "str" = none) (z_set : mg "set" = none) (z_sorted : mg "sorted" = none) (z_tuple : mg "tuple" = none) : FnOk P w K mg base CX0 1 f fd ["texts", "words", "spot"] (spLo K) := by
  refine F.ok scLo (fun vs H Q E h => ?_) (fun cdv A outer s H vs Q E hr h => ?_)
  · obtain ⟨_, _, _, _, _, rfl, _⟩ := h
    rfl
  obtain ⟨a, t, zs, ws, sp, rfl, hS, hT, h64, hst, hsp, k⟩ := h
  refine ⟨_, (pss_cons (ps_setLc (i := 3) (own := [("text", 4)]) (g := gName 4) rfl scLo.nd rfl rfl (sw_true rfl rfl rfl (by decide +kernel)) (pi_lt (pv 0)) (blkOk_by (own := [("text", 4)]) (N := NLo) (sc := defScope sLo) (by decide +kernel)) (fun _ _ _ _ _ => (pg_name (i := 4) scLo.nd rfl (Or.inl rfl))) (fun _ _ _ _ _ => (pts_one (pt_cmpR (op_in_seqK (K := K) rfl) (pe_ix (ix_listK (K := K) rfl) (pe_split (pv 4) pe_str) pe_int (fun _ _ => rfl)) (pv 1) (by with_unfolding_all rfl)))) (fun _ _ _ _ _ => (pe_ix (ix_listK (K := K) rfl) (pe_split (pv 4) pe_str) (pv 2) (fun _ _ => rfl))))
  (pss_one (ps_ret (pe_callTy call_tupleD rfl z_tuple (by decide +kernel) (pa_cons (pe_callB (cr_sortedSS rfl) rfl z_sorted (by decide +kernel) (pa_cons (pe_callTy (cr_setOfS rfl) rfl z_set (by decide +kernel) (pa_cons (pe_lc (own := [("word", 5)]) (g := gName 5) (tt := tYes) rfl scLo.nd (pi_list (pv 3)) (blkOk_by (own := [("word", 5)]) (N := NLo) (sc := defScope sLo) (by decide +kernel)) (fun _ _ _ _ _ => (pg_name (i := 5) scLo.nd rfl (Or.inl rfl))) (fun _ _ _ _ _ => pts_nil) (fun _ _ _ _ _ => (pe_callTy SkE.call_str_str rfl z_str (by decide +kernel) (pa_cons (pv 5) pa_nil)))) pa_nil)) pa_nil)) pa_nil))))), ?_⟩
  refine ilt_of (K := K) (i := 0) (a := a) (xs := zs.map V.str) rfl hS fun J G wk kG => ?_
  intro D0 hD0
  refine lc_s wk (fun x => match x with | .str z => if inV (.str (hw z)) (ws.map V.str) = true then some (.str ((Txt.split z " ").getD sp "")) else none | _ => none) hD0 (by rw [List.length_map]; exact Nat.lt_of_lt_of_le h64 (by decide)) kG ?_ ?_
  · intro x H1 hx s1 OK NO ok no
    obtain ⟨z, hz, rfl⟩ := List.mem_map.mp hx
    have hzl : z.length + 2 ≤ sizeLine := le1000 (hst.txs z hz).1
    obtain ⟨w0, wr, ew⟩ := split_ne z " "
    have ehw : hw z = w0 := by
      show (Txt.split z " ").headD "" = w0
      rw [ew]
      rfl
    refine ⟨rfl, ⟨_, rfl, ⟨z, rfl⟩, z, " ", rfl, rfl, rfl, hzl, fun p hp => ?_⟩⟩
    refine ⟨p, _, 0, .str w0, rfl, rfl, SqL.of upd_same, by rw [ew]; exact atI_nat (j := 0) rfl, ?_⟩
    have s2 : Same H1 (upd H1 p (.lst ((Txt.split z " ").map V.str))) := Same.new hp
    generalize upd H1 p (.lst ((Txt.split z " ").map V.str)) = H2 at s2 ⊢
    refine ⟨_, rfl, t, _, rfl, .inr (SqT.of (s2 _ _ (s1 _ _ hT))), rfl, flat_strs ws, _, rfl, ?_⟩
    rw [← ehw]
    show if inV (.str (hw z)) (ws.map V.str) = true then _ else _
    refine ite3 (fun hin => ?_) (fun hin => ?_)
    · have hlen := hsp z hz hin
      refine ⟨_, rfl, ⟨z, rfl⟩, z, " ", rfl, rfl, rfl, hzl, fun p2 hp2 => ?_⟩
      refine ⟨_, rfl, p2, _, sp, .str ((Txt.split z " ").getD sp ""), rfl, rfl, SqL.of upd_same, atI_nat (by rw [List.getElem?_map, List.getElem?_eq_getElem hlen, List.getD_eq_getElem?_getD, List.getElem?_eq_getElem hlen]; rfl), ?_⟩
      exact ok _ _ (s2.trans (Same.new hp2)) (if_pos hin)
    · exact no _ s2 (if_neg (by rw [hin]; exact Bool.false_ne_true))
  intro H1 s1 e1
  have ew : (zs.map V.str).filterMap (fun x => match x with | .str z => if inV (.str (hw z)) (ws.map V.str) = true then some (V.str ((Txt.split z " ").getD sp "")) else none | _ => none) = (wordsAt ws sp zs).map V.str := by
    unfold wordsAt
    clear e1 k hsp hst h64 hS wk kG hD0
    induction zs with
    | nil => rfl
    | cons z r ih =>
      rw [List.map_cons, List.filterMap_cons, List.filter_cons, ih]
      by_cases h : inV (.str (hw z)) (ws.map V.str) = true
      · rw [if_pos h]
        simp only [if_pos h, List.map_cons]
      · rw [if_neg h]
        simp only [if_neg h]
  rw [ew] at e1
  have wl : (wordsAt ws sp zs).length ≤ zs.length := by
    unfold wordsAt
    rw [List.length_map]
    exact List.length_filter_le ..
  refine ⟨_, rfl, D0, rfl, ⟨_, SqL.of e1⟩, ?_⟩
  intro D2 hD2
  refine lc_s (walk_list (K := K) (a := D0)) (fun x => some x) hD2 (by rw [List.length_map]; exact Nat.lt_of_le_of_lt wl (Nat.lt_of_lt_of_le h64 (by decide))) (fun H' s => SqL.of (s _ _ e1)) ?_ ?_
  · intro x H2 hx s2 OK NO ok no
    obtain ⟨y, _, rfl⟩ := List.mem_map.mp hx
    exact ⟨rfl, _, rfl, y, rfl, ok _ _ (fun _ _ e => e) rfl⟩
  intro H2 s2 e2
  rw [List.filterMap_some] at e2
  refine ⟨D2, wordsAt ws sp zs, rfl, SqL.of e2, by omega, fun a2 c2 h2 mem len => ?_⟩
  refine ⟨a2, c2, rfl, upd_same, by omega, fun nd ys p pm so hp => ?_⟩
  refine ⟨p, _, rfl, .inl ⟨SqL.of upd_same, fun T hT' => ?_⟩⟩
  refine k T ys _ ((((s1.trans s2).trans (Same.new h2)).trans (Same.new hp)).trans (Same.new hT')) upd_same so (pm.nodup_iff.mpr nd) (fun y => by rw [pm.mem_iff, mem y]) (by rw [pm.length_eq]; omega)
end
end My

set_option Elab.async false
set_option linter.all false
set_option maxRecDepth 100000
set_option maxHeartbeats 2000000
namespace My
open PySem L2

abbrev sCt : Stmt := top 39
abbrev NCt : List Str := ["deal", "nums", "steps_here", "two"]
theorem scCt : FnScope ["deal", "nums", "steps_here", "two"] ["deal", "nums"] (defScope sCt) := ⟨rfl, rfl, rfl, by decide +kernel, rfl, by decide +kernel, by decide +kernel⟩
def natI (l : List Nat) : List Int := l.map fun (n : Nat) => ((n : Nat) : Int)
abbrev NE : Type := Str × Addr × List Nat
def numK (es : List NE) : List (Key × V) := es.map fun e => ((Sum.inr e.1 : Key), V.ref e.2.1)
/-- a counter's steps so far, as they are kept -/
structure NeOk (H : Hp) (dl c : Addr) (e : NE) : Prop where
  at_ : H e.2.1 = some (.lst ((natI e.2.2).map V.int))
  n1 : e.2.1 ≠ dl
  n2 : e.2.1 ≠ c
  ne : e.2.2 ≠ []
  len : e.2.2.length ≤ 12
  nd : e.2.2.Nodup
  nm : ∀ k ∈ e.2.2, k ∈ NUMS
structure NumsAt (H : Hp) (d dl c : Addr) (es : List NE) : Prop where
  at_ : H d = some (.dK (numK es))
  n1 : d ≠ dl
  n2 : d ≠ c
  ls : ∀ e ∈ es, NeOk H dl c e
  few : es.length ≤ 12
theorem NeOk.keep {H H' : Hp} {dl c : Addr} {e : NE} (h : NeOk H dl c e) (k : Kp dl c H H') : NeOk H' dl c e := ⟨k _ _ h.at_ h.n1 h.n2, h.n1, h.n2, h.ne, h.len, h.nd, h.nm⟩
theorem NumsAt.keep {H H' : Hp} {d dl c : Addr} {es : List NE} (h : NumsAt H d dl c es) (k : Kp dl c H H') : NumsAt H' d dl c es := ⟨k _ _ h.at_ h.n1 h.n2, h.n1, h.n2, fun e he => (h.ls e he).keep k, h.few⟩
theorem num_val {es : List NE} {y : Str} (h : y ∈ es.map (·.1)) : ∃ e ∈ es, e.1 = y ∧ valV (numK es) (Sum.inr y) = some (.ref e.2.1) := by
  induction es with
  | nil => cases h
  | cons e r ih =>
    have en : numK (e :: r) = ((Sum.inr e.1 : Key), V.ref e.2.1) :: numK r := rfl
    by_cases q : e.1 = y
    · exact ⟨e, List.mem_cons_self, q, by rw [en, valV_pos (by rw [q])]⟩
    · have h2 : y ∈ r.map (·.1) := by
        rcases List.mem_cons.mp h with z | z
        · exact absurd z.symm q
        · exact z
      obtain ⟨e', a, b, c⟩ := ih h2
      exact ⟨e', List.mem_cons_of_mem _ a, b, by rw [en, valV_neg (fun z => q (Sum.inr.inj z)), c]⟩
/-- a check of such steps -/
def ChkOf (es : List NE) (z : Str) : Prop := ∃ e ∈ es, (∃ k ∈ e.2.2, z = tEv k) ∨ (∃ j ∈ e.2.2, ∃ k ∈ e.2.2, j < k ∧ z = tSm j k)
/-- _law_check_text(deal, nums) -/
def spCt : Sp := fun vs H Q _ => ∃ (dl c d : Addr) (es : List NE), vs = [.ref dl, .ref d] ∧ Deal H dl c ∧ NumsAt H d dl c es ∧ es ≠ [] ∧ ∀ (z : Str) (H' : Hp), ChkOf es z → Deal H' dl c → Kp dl c H H' → Q (.str z) H'
theorem nums_le {k : Nat} (h : k ∈ NUMS) : k ≤ 12 := by
  have q := List.mem_range.mp h
  omega
theorem log_nat {k : Nat} (h : k ≤ 100) : ((k : Nat) : Int).natAbs.log2 < 1920 := log_small (by omega) (by omega)
theorem txN_len {k : Nat} (h : k ≤ 100) : (txN k).length ≤ 8 := text_small (by omega) (by omega)
section
variable {P : Program} {w : World} {K : PySem.W.Frag} {mg : Str → Option Value} {base : Heap}
theorem ok_ct {f fD fP fM : Addr} {fd fdD fdP fdM : FuncData} (F : Fun K "_law_check_text" "_law_check_text" sCt f fd) (z_len : mg "len" = none) (z_sorted : mg "sorted" = none) (z_str : mg "str" = none)
    (GDraw : FnOk P w K mg base CX0 1 fD fdD ["deal", "wide"] spDraw) (bDraw : Binds K fdD ["deal", "wide"] []) (kDraw : PySem.W.keepIn K (.ref fD) = true) (mDraw : mg "_law_draw" = some (.ref fD))
    (GPick : FnOk P w K mg base CX0 2 fP fdP ["deal", "some"] (spPick K)) (bPick : Binds K fdP ["deal", "some"] []) (kPick : PySem.W.keepIn K (.ref fP) = true) (mPick : mg "_law_pick" = some (.ref fP))
    (GMxI : FnOk P w K mg base CX0 2 fM fdM ["deal", "some"] (spMxI K)) (bMx : Binds K fdM ["deal", "some"] []) (kMx : PySem.W.keepIn K (.ref fM) = true) (mMx : mg "_law_mixed" = some (.ref fM)) :
    FnOk P w K mg base CX0 3 f fd ["deal", "nums"] spCt := by
  refine F.ok scCt (fun vs H Q E h => ?_) (fun cdv A outer s H vs Q E hr h => ?_)
  · obtain ⟨_, _, _, _, rfl, _⟩ := h
    rfl
  obtain ⟨dl, c, d, es, rfl, D, N, hne, k⟩ := h
  have hu := hu_of hr
  refine ⟨_, (pss_cons (ps_set (i := 2) scCt.nd rfl (.inl rfl) (pe_dget hu (pv 1) (pe_call GPick (hr.mono (by decide)) rfl mPick kPick bPick .nil pass0 (pa_cons (pv 0) (pa_cons (pe_callB (call_sortedD rfl) rfl z_sorted (by decide +kernel) (pa_cons (pv 1) pa_nil)) pa_nil))) (fun _ _ => rfl)))
  (pss_cons (ps_if (PW.pt (pw_or (pt_cmpR op_eq (pe_callB call_len_seq rfl z_len (by decide +kernel) (pa_cons (pv 2) pa_nil)) pe_int (nomark _)) (pw_or1 (pt_cmpR op_eq (pe_call GDraw (hr.mono (by decide)) rfl mDraw kDraw bDraw .nil pass0 (pa_cons (pv 0) (pa_cons pe_int pa_nil))) pe_int (nomark _))))) (pss_one (ps_ret (pe_op op_add_str pe_str (pe_callTy call_str_int rfl z_str (by decide +kernel) (pa_cons (pe_call GPick (hr.mono (by decide)) rfl mPick kPick bPick .nil pass0 (pa_cons (pv 0) (pa_cons (pv 2) pa_nil))) pa_nil))))) pss_nil)
  (pss_cons (ps_set (i := 3) scCt.nd rfl (.inl rfl) (pe_callB cr_sortedI rfl z_sorted (by decide +kernel) (pa_cons (pe_slice sl_list (pe_call GMxI (hr.mono (by decide)) rfl mMx kMx bMx .nil pass0 (pa_cons (pv 0) (pa_cons (pv 2) pa_nil))) po_none (po_some pe_int)) pa_nil)))
  (pss_one (ps_ret (pe_op op_add_str (pe_op op_add_str (pe_op op_add_str pe_str (pe_callTy call_str_int rfl z_str (by decide +kernel) (pa_cons (pe_ix ix_list (pv 3) pe_int (fun _ _ => rfl)) pa_nil))) pe_str) (pe_callTy call_str_int rfl z_str (by decide +kernel) (pa_cons (pe_ix ix_list (pv 3) pe_int (fun _ _ => rfl)) pa_nil)))))))), ?_⟩
  have keys : (numK es).map (·.1) = (es.map (·.1)).map Sum.inr := by
    unfold numK
    rw [List.map_map, List.map_map]
    rfl
  refine ⟨_, rfl, _, rfl, _, rfl, d, numK es, es.map (·.1), rfl, .inl N.at_, keys, by rw [List.length_map]; have := N.few; omega, fun ys p pm so hp => ?_⟩
  have offp := D.off hp
  have s1 : Same H (upd H p (.lst (ys.map V.str))) := Same.new hp
  have D1 := D.keep s1
  have N1 := N.keep (Kp.same s1)
  have yl : ys.length = es.length := by rw [pm.length_eq, List.length_map]
  have e0 : 0 < es.length := List.length_pos_iff.mpr hne
  refine ⟨dl, c, p, _, rfl, SqL.of upd_same, offp.1, offp.2, by rw [List.length_map]; omega, by rw [List.length_map]; have := N.few; omega, D1, fun x H2 hx D2 k2 => ?_⟩
  obtain ⟨y, hy, rfl⟩ := List.mem_map.mp hx
  obtain ⟨e, he, ey, ev⟩ := num_val (pm.mem_iff.mp hy)
  have N2 := N1.keep k2
  have K2 : Kp dl c H H2 := (Kp.same s1).trans k2
  clear s1 D1 N1 hx hp
  refine ⟨d, .ref e.2.1, rfl, by have q := DGet.k (k := Sum.inr y) N2.at_; rw [ev] at q; exact q, ?_⟩
  obtain ⟨l1, l2, l3, l4, l5, l6, l7⟩ := N2.ls e he
  have nl : ((natI e.2.2).map V.int).length = e.2.2.length := by unfold natI; rw [List.length_map, List.length_map]
  have n0 : 0 < e.2.2.length := List.length_pos_iff.mpr l4
  -- len(steps_here) == 1 or draw == 0
  dsimp only [tNext]
  refine seq_first (fun σ H3 => σ = [some (.ref dl), some (.ref d), some (.ref e.2.1), none] ∧ Deal H3 dl c ∧ Kp dl c H H3 ∧ NeOk H3 dl c e ∧ e.2.2.length ≠ 1) ?rest fun rest => ?test
  case test =>
    have ret : ∀ H3, Deal H3 dl c → Kp dl c H H3 → NeOk H3 dl c e → ∀ (x : V) (H4 : Hp), x ∈ (natI e.2.2).map V.int → Deal H4 dl c → Kp dl c H3 H4 → ∃ (i : Int), ([x] : List V) = [.int i] ∧ i.natAbs.log2 < 1920 ∧ ∃ (a b : Str), V.str ("even " : Str) = .str a ∧ V.str (Str.ofString (toString i)) = .str b ∧ a.length + b.length ≤ sizeLine ∧ Q (.str (a ++ b)) H4 := fun H3 D3 K3 O3 x H4 hx D4 k4 => by
      obtain ⟨i, hi, rfl⟩ := List.mem_map.mp hx
      unfold natI at hi
      obtain ⟨n, hn, rfl⟩ := List.mem_map.mp hi
      have n12 := nums_le (O3.nm n hn)
      refine ⟨(n : Int), rfl, log_nat (by omega), "even ", txN n, rfl, rfl, ?_, ?_⟩
      · have a1 : ("even " : Str).length = 5 := by decide +kernel
        have a2 := txN_len (k := n) (by omega)
        rw [a1]
        exact Nat.le_trans (show _ ≤ 1000 by omega) (by decide)
      · exact k (tEv n) H4 ⟨e, he, .inl ⟨n, hn, rfl⟩⟩ D4 (K3.trans k4)
    refine ⟨_, rfl, e.2.1, _, rfl, .inl (SqL.of l1), rfl, _, rfl, ?_⟩
    rw [nl]
    refine ite3 (fun h1 => ?_) (fun h1 => ?_)
    · refine ⟨_, rfl, _, rfl, dl, c, e.2.1, _, rfl, SqL.of l1, l2, l3, by rw [nl]; exact n0, by rw [nl]; omega, D2, fun x H4 hx D4 k4 => ?_⟩
      exact ret H2 D2 K2 (N2.ls e he) x H4 hx D4 k4
    · have ne1 : e.2.2.length ≠ 1 := fun z => of_decide_eq_false h1 (by rw [z]; rfl)
      refine ⟨_, rfl, dl, c, 4, rfl, by decide, by decide, D2, fun r H3 r0 r1 D3 k3 => ⟨rfl, _, rfl, ?_⟩⟩
      have O3 := (N2.ls e he).keep k3
      have K3 := K2.trans k3
      refine ite3 (fun h2 => ?_) (fun h2 => rest _ _ ⟨rfl, D3, K3, O3, ne1⟩)
      refine ⟨_, rfl, _, rfl, dl, c, e.2.1, _, rfl, SqL.of O3.at_, l2, l3, by rw [nl]; exact n0, by rw [nl]; omega, D3, fun x H4 hx D4 k4 => ?_⟩
      exact ret H3 D3 K3 O3 x H4 hx D4 k4
  rintro σ H3 ⟨rfl, D3, K3, O3, ne1⟩
  have nl2 : (natI e.2.2).length = e.2.2.length := by unfold natI; rw [List.length_map]
  refine ⟨_, rfl, _, rfl, dl, c, e.2.1, natI e.2.2, rfl, SqL.of O3.at_, by rw [nl2]; omega, D3, fun L ys2 H4 pm2 D4 k4 nL1 nL2 hL => ?_⟩
  have yl2 : ys2.length = e.2.2.length := by rw [pm2.length_eq, nl2]
  obtain ⟨a, b, r, eab⟩ : ∃ a b r, ys2 = a :: b :: r := by
    match ys2, yl2 with
    | [], z => simp at z; omega
    | [_], z => simp at z; omega
    | a :: b :: r, _ => exact ⟨a, b, r, rfl⟩
  refine ⟨2, rfl, L, _, rfl, SqL.of hL, fun q hq => ?_⟩
  rw [cut_to2, eab]
  have s4 : Same H4 (upd H4 q (.lst ((a :: b :: r).map V.int |>.take 2))) := Same.new hq
  have D5 := D4.keep s4
  have K5 := (K3.trans k4).trans (Kp.same s4)
  refine ⟨q, [a, b], rfl, SqL.of upd_same, fun ms p2 pm3 so2 hp2 => ?_⟩
  obtain ⟨x, y2, exy⟩ : ∃ x y2, ms = [x, y2] := by
    have q := pm3.length_eq
    match ms, q with
    | [x, y2], _ => exact ⟨x, y2, rfl⟩
  subst exy
  have s5 := Same.new (o := .lst (([x, y2] : List Int).map V.int)) hp2
  have hN : ∀ i : Int, i ∈ ([x, y2] : List Int) → ∃ n : Nat, i = n ∧ n ∈ e.2.2 := fun i hi => by
    have q1 := pm3.mem_iff.mp hi
    have q2 : i ∈ ys2 := by
      rw [eab]
      rcases List.mem_cons.mp q1 with z | z
      · rw [z]; simp
      · rw [List.mem_singleton.mp z]; simp
    have q3 := pm2.mem_iff.mp q2
    unfold natI at q3
    obtain ⟨n, hn, e'⟩ := List.mem_map.mp q3
    exact ⟨n, e'.symm, hn⟩
  obtain ⟨j, rfl, hj⟩ := hN x (by simp)
  obtain ⟨m, rfl, hm⟩ := hN y2 (by simp)
  have ndI : (natI e.2.2).Nodup := by
    unfold natI
    exact List.Pairwise.map _ (fun a b h => by intro z; exact h (by omega)) l6
  have hne2 : j ≠ m := fun z => by
    have q1 : ys2.Nodup := pm2.nodup_iff.mpr ndI
    rw [eab] at q1
    have q2 : ([a, b] : List Int).Nodup := by
      have q3 := List.nodup_cons.mp q1
      have q4 : b ≠ a := fun z2 => q3.1 (by rw [z2]; simp)
      simp [Ne.symm q4]
    have q5 := pm3.nodup_iff.mpr q2
    subst z
    simp at q5
  have hle : (j : Int) ≤ m := by
    have q := List.pairwise_cons.mp so2
    exact q.1 _ (by simp)
  have hlt : j < m := by omega
  have j12 := nums_le (l7 j hj)
  have m12 := nums_le (l7 m hm)
  have eP : (upd (upd H4 q (.lst ((a :: b :: r).map V.int |>.take 2))) p2 (.lst (([(j : Int), (m : Int)] : List Int).map V.int))) p2 = some (.lst (([(j : Int), (m : Int)] : List Int).map V.int)) := upd_same
  have a1 : ("same " : Str).length = 5 := by decide +kernel
  have a0 : (" " : Str).length = 1 := by decide +kernel
  have a2 := txN_len (k := j) (by omega)
  have a3 := txN_len (k := m) (by omega)
  have big : ∀ n : Nat, n ≤ 1000 → n ≤ sizeLine := fun n h => Nat.le_trans h (by decide)
  refine ⟨_, rfl, p2, _, 0, .int (j : Nat), rfl, rfl, SqL.of eP, atI_nat (j := 0) rfl, (j : Int), rfl, log_nat (by omega), "same ", txN j, rfl, rfl, big _ (by rw [a1]; omega), _, _, rfl, rfl, big _ (by rw [Str.length_append, a1, a0]; omega), ?_⟩
  refine ⟨_, rfl, p2, _, 1, .int (m : Nat), rfl, rfl, SqL.of eP, atI_nat (j := 1) rfl, (m : Int), rfl, log_nat (by omega), _, txN m, rfl, rfl, big _ (by rw [Str.length_append, Str.length_append, a1, a0]; omega), ?_⟩
  exact k (tSm j m) _ ⟨e, he, .inr ⟨j, hj, m, hm, hlt, rfl⟩⟩ (D5.keep s5) (K5.trans (Kp.same s5))
end
end My

set_option Elab.async false
set_option linter.all false
set_option maxRecDepth 100000
set_option maxHeartbeats 2000000
/-! how a drawn reader grows -/
namespace My
open PySem L2
theorem ask_app {cs : List (Nat × Str)} {i : Nat} {y : Str} (h : ∀ c ∈ cs, c.1 < i) (k : Nat) : askS (cs ++ [(i, y)]) (k : Int) = if k = i then some y else askS cs k := by
  unfold askS
  rw [List.find?_append]
  by_cases q : k = i
  · subst q
    rw [if_pos rfl]
    have e : cs.find? (fun c => decide ((c.1 : Int) = (k : Int))) = none := by
      rw [List.find?_eq_none]
      intro c hc
      have := h c hc
      simp
      omega
    rw [e]
    simp
  · rw [if_neg q]
    have e : ([(i, y)] : List (Nat × Str)).find? (fun c => decide ((c.1 : Int) = (k : Int))) = none := by
      have q2 : ¬ (i : Int) = (k : Int) := by omega
      simp [q2]
    rw [e]
    cases cs.find? (fun c => decide ((c.1 : Int) = (k : Int))) <;> rfl
/-- what holds of the texts so far, the slots that are read, the numbers that are kept -/
structure RtInv (i : Nat) (zs rs : List Str) (es : List NE) : Prop where
  stp : Stp zs
  len : zs.length = i
  run : ∃ st : Rst, rrun 0 ([], []) zs = some st ∧ (∀ s, s ∈ st.1 ↔ s ∈ rs) ∧ (∀ e ∈ es, e.1 ∈ NAMES ∧ ∀ k ∈ e.2.2, k < i ∧ askS st.2 (k : Int) = some e.1) ∧ ∀ c ∈ st.2, c.1 < i
  rn : ∀ s ∈ rs, s ∈ NAMES
  rl : rs.length ≤ i
  kn : (es.map (·.1)).Nodup
  kl : es.length ≤ i
  el : ∀ e ∈ es, e.2.2.length ≤ i
theorem inv_go {i : Nat} {zs rs rs' : List Str} {es es' : List NE} {z : Str} (I : RtInv i zs rs es) (hz : Rs z)
    (h : ∀ st : Rst, rrun 0 ([], []) zs = some st → (∀ s, s ∈ st.1 ↔ s ∈ rs) → (∀ e ∈ es, e.1 ∈ NAMES ∧ ∀ k ∈ e.2.2, k < i ∧ askS st.2 (k : Int) = some e.1) → (∀ c ∈ st.2, c.1 < i) →
      rbad st z = false ∧ (∀ s, s ∈ (rnew i st z).1 ↔ s ∈ rs') ∧ (∀ e ∈ es', e.1 ∈ NAMES ∧ ∀ k ∈ e.2.2, k < i + 1 ∧ askS (rnew i st z).2 (k : Int) = some e.1) ∧ ∀ c ∈ (rnew i st z).2, c.1 < i + 1)
    (h1 : ∀ s ∈ rs', s ∈ NAMES) (h2 : rs'.length ≤ i + 1) (h3 : (es'.map (·.1)).Nodup) (h4 : es'.length ≤ i + 1) (h5 : ∀ e ∈ es', e.2.2.length ≤ i + 1) : RtInv (i + 1) (zs ++ [z]) rs' es' := by
  obtain ⟨st, r1, r2, r3, r4⟩ := I.run
  obtain ⟨q1, q2, q3, q4⟩ := h st r1 r2 r3 r4
  refine ⟨fun y hy => ?_, by rw [List.length_append, I.len]; rfl, ⟨rnew i st z, ?_, q2, q3, q4⟩, h1, h2, h3, h4, h5⟩
  · rcases List.mem_append.mp hy with q | q
    · exact I.stp y q
    · rw [List.mem_singleton.mp q]
      exact hz
  · rw [rrun_snoc, r1]
    show (if rbad st z = true then none else some (rnew (0 + zs.length) st z)) = _
    rw [if_neg (by rw [q1]; exact Bool.false_ne_true), Nat.zero_add, I.len]
/-- a step that leaves the kept things as they are -/
theorem inv_keep {i : Nat} {zs rs : List Str} {es : List NE} {z : Str} (I : RtInv i zs rs es) (hz : Rs z) (h : ∀ st : Rst, (∀ s, s ∈ st.1 ↔ s ∈ rs) → (∀ e ∈ es, e.1 ∈ NAMES ∧ ∀ k ∈ e.2.2, k < i ∧ askS st.2 (k : Int) = some e.1) → rbad st z = false ∧ ∀ j, rnew j st z = st) : RtInv (i + 1) (zs ++ [z]) rs es := by
  refine inv_go I hz (fun st r1 r2 r3 r4 => ?_) I.rn (Nat.le_succ_of_le I.rl) I.kn (Nat.le_succ_of_le I.kl) (fun e he => Nat.le_succ_of_le (I.el e he))
  obtain ⟨q1, q2⟩ := h st r2 r3
  rw [q2]
  exact ⟨q1, r2, fun e he => ⟨(r3 e he).1, fun k hk => ⟨Nat.lt_succ_of_lt ((r3 e he).2 k hk).1, ((r3 e he).2 k hk).2⟩⟩, fun c hc => Nat.lt_succ_of_lt (r4 c hc)⟩
theorem inv_plain {i : Nat} {zs rs : List Str} {es : List NE} {z : Str} (I : RtInv i zs rs es) (hz : z ∈ PLAIN) : RtInv (i + 1) (zs ++ [z]) rs es := inv_keep I (.plain hz) fun _ _ _ => rb_plain hz
theorem inv_use {i : Nat} {zs rs : List Str} {es : List NE} {s p : Str} (I : RtInv i zs rs es) (hs : s ∈ rs) (hp : p ∈ NAMES) : RtInv (i + 1) (zs ++ [tUs s p]) rs es := inv_keep I (.us (I.rn s hs) hp) fun st r _ => by
  obtain ⟨a, b⟩ := rb_us (st := st) (I.rn s hs) hp
  refine ⟨?_, b⟩
  rw [a, decide_eq_true ((r s).mpr hs)]
  rfl
theorem inv_look {i : Nat} {zs rs : List Str} {es : List NE} {s : Str} (I : RtInv i zs rs es) (hs : s ∈ rs) : RtInv (i + 1) (zs ++ [tLk s]) rs es := inv_keep I (.lk (I.rn s hs)) fun st r _ => by
  obtain ⟨a, b⟩ := rb_lk (st := st) (I.rn s hs)
  refine ⟨?_, b⟩
  rw [a, decide_eq_true ((r s).mpr hs)]
  rfl
theorem inv_mark {i : Nat} {zs rs : List Str} {es : List NE} {s : Str} (I : RtInv i zs rs es) (hs : s ∈ rs) : RtInv (i + 1) (zs ++ [tMk s]) rs es := inv_keep I (.mk (I.rn s hs)) fun st r _ => by
  obtain ⟨a, b⟩ := rb_mk (st := st) (I.rn s hs)
  refine ⟨?_, b⟩
  rw [a, decide_eq_true ((r s).mpr hs)]
  rfl
theorem inv_chk {i : Nat} {zs rs : List Str} {es : List NE} {z : Str} (I : RtInv i zs rs es) (hi : i ≤ 12) (hz : ChkOf es z) : RtInv (i + 1) (zs ++ [z]) rs es := by
  have inN : ∀ e ∈ es, ∀ k ∈ e.2.2, k ∈ NUMS := fun e he k hk => by
    obtain ⟨st, _, _, r3, _⟩ := I.run
    have := ((r3 e he).2 k hk).1
    exact List.mem_range.mpr (by omega)
  obtain ⟨e, he, h⟩ := hz
  rcases h with ⟨k, hk, rfl⟩ | ⟨j, hj, k, hk, hlt, rfl⟩
  · refine inv_keep I (.ev (inN e he k hk)) fun st _ r3 => ?_
    obtain ⟨a, b⟩ := rb_ev (st := st) (inN e he k hk)
    refine ⟨?_, b⟩
    rw [a, cmp_ev, ((r3 e he).2 k hk).2]
    rfl
  · refine inv_keep I (.sm (inN e he j hj) (inN e he k hk)) fun st _ r3 => ?_
    obtain ⟨a, b⟩ := rb_sm (st := st) (inN e he j hj) (inN e he k hk)
    refine ⟨?_, b⟩
    rw [a, cmp_sm, ((r3 e he).2 j hj).2, ((r3 e he).2 k hk).2, decide_eq_true hlt]
    simp
theorem mem_addKey {ks : List Str} {k y : Str} : y ∈ addKey ks k ↔ y ∈ ks ∨ y = k := by
  unfold addKey
  by_cases h : k ∈ ks
  · rw [if_pos h]
    exact ⟨.inl, fun z => z.elim id fun e => e ▸ h⟩
  · rw [if_neg h, List.mem_append, List.mem_singleton]
theorem inv_read {i : Nat} {zs rs : List Str} {es : List NE} {s : Str} (I : RtInv i zs rs es) (hs : s ∈ NAMES) (hn : s ∉ rs) : RtInv (i + 1) (zs ++ [tRd s]) (rs ++ [s]) es := by
  refine inv_go I (.rd hs) (fun st r1 r2 r3 r4 => ?_) (fun y hy => ?_) (by rw [List.length_append]; exact Nat.succ_le_succ I.rl) I.kn (Nat.le_succ_of_le I.kl) (fun e he => Nat.le_succ_of_le (I.el e he))
  · obtain ⟨a, b⟩ := rb_rd (st := st) hs
    rw [b, a]
    refine ⟨decide_eq_false (fun z => hn ((r2 s).mp z)), fun y => ?_, fun e he => ⟨(r3 e he).1, fun k hk => ⟨Nat.lt_succ_of_lt ((r3 e he).2 k hk).1, ((r3 e he).2 k hk).2⟩⟩, fun c hc => Nat.lt_succ_of_lt (r4 c hc)⟩
    rw [mem_addKey, r2 y, List.mem_append, List.mem_singleton]
  · rcases List.mem_append.mp hy with q | q
    · exact I.rn y q
    · rw [List.mem_singleton.mp q]
      exact hs
/-- the numbers with one more -/
def setE (es : List NE) (y : Str) (L : Addr) (i : Nat) : List NE := if y ∈ es.map (·.1) then es.map (fun e => if e.1 = y then (y, L, e.2.2 ++ [i]) else e) else es ++ [(y, L, [i])]
theorem setE_mem {es : List NE} {y : Str} {L : Addr} {i : Nat} {e' : NE} (h : e' ∈ setE es y L i) : (e' ∈ es ∧ e'.1 ≠ y) ∨ (∃ e ∈ es, e.1 = y ∧ e' = (y, L, e.2.2 ++ [i])) ∨ (y ∉ es.map (·.1) ∧ e' = (y, L, [i])) := by
  unfold setE at h
  by_cases q : y ∈ es.map (·.1)
  · rw [if_pos q] at h
    obtain ⟨e, he, rfl⟩ := List.mem_map.mp h
    by_cases z : e.1 = y
    · exact .inr (.inl ⟨e, he, z, by rw [if_pos z]⟩)
    · rw [if_neg z]
      exact .inl ⟨he, z⟩
  · rw [if_neg q] at h
    rcases List.mem_append.mp h with z | z
    · exact .inl ⟨z, fun e => q (by rw [← e]; exact List.mem_map_of_mem z)⟩
    · exact .inr (.inr ⟨q, List.mem_singleton.mp z⟩)
theorem setE_keys {es : List NE} {y : Str} {L : Addr} {i : Nat} : (setE es y L i).map (·.1) = if y ∈ es.map (·.1) then es.map (·.1) else es.map (·.1) ++ [y] := by
  unfold setE
  by_cases q : y ∈ es.map (·.1)
  · rw [if_pos q, if_pos q, List.map_map]
    refine List.map_congr_left fun e _ => ?_
    show (if e.1 = y then (y, L, e.2.2 ++ [i]) else e).1 = e.1
    by_cases z : e.1 = y
    · rw [if_pos z, z]
    · rw [if_neg z]
  · rw [if_neg q, if_neg q, List.map_append]
    rfl
theorem setE_num {es : List NE} {y : Str} {L : Addr} {i : Nat} : putK (numK es) (Sum.inr y) (V.ref L) = numK (setE es y L i) := by
  unfold putK setE
  have h1 : ((numK es).any fun kv => decide (kv.1 = (Sum.inr y : Key))) = decide (y ∈ es.map (·.1)) := by
    unfold numK
    rw [List.any_map]
    induction es with
    | nil => rfl
    | cons x r ih =>
      rw [List.any_cons, ih]
      show (decide ((Sum.inr x.1 : Key) = Sum.inr y) || _) = _
      rw [key_rr]
      by_cases e : x.1 = y
      · simp [e]
      · have e2 : ¬ y = x.1 := fun q => e q.symm
        simp [e, e2]
  rw [h1]
  by_cases hk : y ∈ es.map (·.1)
  · rw [if_pos (decide_eq_true hk), if_pos hk]
    unfold numK
    rw [List.map_map, List.map_map]
    refine List.map_congr_left fun x _ => ?_
    show (if (Sum.inr x.1 : Key) = Sum.inr y then ((Sum.inr x.1 : Key), V.ref L) else ((Sum.inr x.1 : Key), V.ref x.2.1)) = _
    by_cases z : x.1 = y
    · rw [if_pos (by rw [z])]
      show _ = ((Sum.inr (if x.1 = y then (y, L, x.2.2 ++ [i]) else x).1 : Key), V.ref (if x.1 = y then (y, L, x.2.2 ++ [i]) else x).2.1)
      rw [if_pos z, z]
    · rw [if_neg (fun q => z (Sum.inr.inj q))]
      show _ = ((Sum.inr (if x.1 = y then (y, L, x.2.2 ++ [i]) else x).1 : Key), V.ref (if x.1 = y then (y, L, x.2.2 ++ [i]) else x).2.1)
      rw [if_neg z]
  · rw [if_neg (by rw [decide_eq_false hk]; exact Bool.false_ne_true), if_neg hk]
    unfold numK
    rw [List.map_append]
    rfl
theorem inv_num {i : Nat} {zs rs : List Str} {es : List NE} {y : Str} {L : Addr} (I : RtInv i zs rs es) (hy : y ∈ NAMES) : RtInv (i + 1) (zs ++ [tNm y]) rs (setE es y L i) := by
  refine inv_go I (.nm hy) (fun st r1 r2 r3 r4 => ?_) I.rn (Nat.le_succ_of_le I.rl) ?_ ?_ (fun e' he' => ?_)
  · obtain ⟨a, b⟩ := rb_nm (st := st) hy
    rw [b, a]
    refine ⟨rfl, r2, fun e' he' => ?_, fun c hc => ?_⟩
    · have old : ∀ e ∈ es, ∀ k ∈ e.2.2, k < i + 1 ∧ askS (st.2 ++ [(i, y)]) (k : Int) = some e.1 := fun e he k hk => by
        obtain ⟨q1, q2⟩ := (r3 e he).2 k hk
        refine ⟨by omega, ?_⟩
        rw [ask_app r4, if_neg (by omega)]
        exact q2
      have new : i < i + 1 ∧ askS (st.2 ++ [(i, y)]) (i : Int) = some y := ⟨by omega, by rw [ask_app r4, if_pos rfl]⟩
      rcases setE_mem he' with ⟨q, _⟩ | ⟨e, he, q1, rfl⟩ | ⟨_, rfl⟩
      · exact ⟨(r3 e' q).1, old e' q⟩
      · refine ⟨hy, fun k hk => ?_⟩
        rcases List.mem_append.mp hk with z | z
        · have := old e he k z
          rw [q1] at this
          exact this
        · rw [List.mem_singleton.mp z]
          exact new
      · refine ⟨hy, fun k hk => ?_⟩
        rw [List.mem_singleton.mp hk]
        exact new
    · rcases List.mem_append.mp hc with q | q
      · exact Nat.lt_succ_of_lt (r4 c q)
      · rw [List.mem_singleton.mp q]
        exact Nat.lt_succ_self i
  · rw [setE_keys]
    split
    · exact I.kn
    · rename_i q
      exact List.nodup_append.mpr ⟨I.kn, by simp, fun a ha b hb e => by rw [List.mem_singleton.mp hb] at e; exact q (e ▸ ha)⟩
  · unfold setE
    split
    · rw [List.length_map]
      exact Nat.le_succ_of_le I.kl
    · rw [List.length_append]
      exact Nat.succ_le_succ I.kl
  · rcases setE_mem he' with ⟨q, _⟩ | ⟨e, he, q1, rfl⟩ | ⟨_, rfl⟩
    · exact Nat.le_succ_of_le (I.el e' q)
    · rw [List.length_append]
      exact Nat.succ_le_succ (I.el e he)
    · exact Nat.succ_le_succ (Nat.zero_le i)
end My

set_option Elab.async false
set_option linter.all false
set_option maxRecDepth 100000
set_option maxHeartbeats 2000000
namespace My
open PySem L2

abbrev sRt : Stmt := top 38
abbrev NRt : List Str := ["deal", "world", "most", "found", "nums", "reads", "turn", "slot", "form", "left", "part", "some", "counter"]
theorem scRt : FnScope ["deal", "world", "most", "found", "nums", "reads", "turn", "slot", "form", "left", "part", "some", "counter"] ["deal", "world", "most"] (defScope sRt) := ⟨rfl, rfl, rfl, by decide +kernel, rfl, by decide +kernel, by decide +kernel⟩
/-- _law_reader_texts(deal, world, most) -/
def spRt (K : PySem.W.Frag) : Sp := fun vs H Q _ => ∃ (dl c W : Addr) (m : Int), vs = [.ref dl, .ref W, .int m] ∧ 0 < m ∧ m ≤ 12 ∧ Deal H dl c ∧ WorldAt H W dl c ∧
  ∀ (L : Addr) (zs : List Str) (H' : Hp), Stp zs → goR zs = true → 0 < zs.length → (zs.length : Int) ≤ m → Deal H' dl c → Kp dl c H H' → L ≠ dl → L ≠ c → H L = none → H' L = some (.lst (zs.map V.str)) → Q (.ref L) H'
/-- how far the texts are drawn -/
structure RtAt (H0 H : Hp) (F0 N0 R0 dl c : Addr) (zs rs : List Str) (es : List NE) : Prop where
  f : H F0 = some (.lst (zs.map V.str))
  r : H R0 = some (.lst (rs.map V.str))
  n : NumsAt H N0 dl c es
  fr : F0 ≠ R0
  f1 : F0 ≠ dl
  f2 : F0 ≠ c
  r1 : R0 ≠ dl
  r2 : R0 ≠ c
  ap : ∀ e ∈ es, e.2.1 ≠ F0 ∧ e.2.1 ≠ R0
  d : Deal H dl c
  kp : Kp dl c H0 H
  nf : H0 F0 = none
  nr : H0 R0 = none
  nn : H0 N0 = none
section
variable {H0 H H' : Hp} {F0 N0 R0 dl c : Addr} {zs rs : List Str} {es : List NE}
theorem RtAt.go (a : RtAt H0 H F0 N0 R0 dl c zs rs es) (D : Deal H' dl c) (k : Kp dl c H H') : RtAt H0 H' F0 N0 R0 dl c zs rs es :=
  ⟨k _ _ a.f a.f1 a.f2, k _ _ a.r a.r1 a.r2, a.n.keep k, a.fr, a.f1, a.f2, a.r1, a.r2, a.ap, D, a.kp.trans k, a.nf, a.nr, a.nn⟩
theorem RtAt.same (a : RtAt H0 H F0 N0 R0 dl c zs rs es) (s : Same H H') : RtAt H0 H' F0 N0 R0 dl c zs rs es := a.go (a.d.keep s) (Kp.same s)
theorem deal_lst {p : Addr} {o : HO} (d : Deal H dl c) (n1 : p ≠ dl) (n2 : p ≠ c) : Deal (upd H p o) dl c := by
  obtain ⟨ns, a, b, q1, q2, q3⟩ := d
  exact ⟨ns, a, b, by rw [upd_ne n1.symm]; exact q1, by rw [upd_ne n2.symm]; exact q2, q3⟩
theorem RtAt.nF (a : RtAt H0 H F0 N0 R0 dl c zs rs es) : N0 ≠ F0 := fun e => by
  have q := a.n.at_
  rw [e, a.f] at q
  cases q
theorem RtAt.nR (a : RtAt H0 H F0 N0 R0 dl c zs rs es) : N0 ≠ R0 := fun e => by
  have q := a.n.at_
  rw [e, a.r] at q
  cases q
theorem RtAt.appF (a : RtAt H0 H F0 N0 R0 dl c zs rs es) (z : Str) : RtAt H0 (upd H F0 (.lst (zs.map V.str ++ [V.str z]))) F0 N0 R0 dl c (zs ++ [z]) rs es := by
  refine ⟨by rw [upd_same, List.map_append]; rfl, by rw [upd_ne a.fr.symm]; exact a.r, ⟨by rw [upd_ne a.nF]; exact a.n.at_, a.n.n1, a.n.n2, fun e he => ?_, a.n.few⟩, a.fr, a.f1, a.f2, a.r1, a.r2, a.ap, deal_lst a.d a.f1 a.f2, a.kp.upd a.nf, a.nf, a.nr, a.nn⟩
  have q := a.n.ls e he
  exact ⟨by rw [upd_ne (a.ap e he).1]; exact q.at_, q.n1, q.n2, q.ne, q.len, q.nd, q.nm⟩
theorem RtAt.appR (a : RtAt H0 H F0 N0 R0 dl c zs rs es) (z : Str) : RtAt H0 (upd H R0 (.lst (rs.map V.str ++ [V.str z]))) F0 N0 R0 dl c zs (rs ++ [z]) es := by
  refine ⟨by rw [upd_ne a.fr]; exact a.f, by rw [upd_same, List.map_append]; rfl, ⟨by rw [upd_ne a.nR]; exact a.n.at_, a.n.n1, a.n.n2, fun e he => ?_, a.n.few⟩, a.fr, a.f1, a.f2, a.r1, a.r2, a.ap, deal_lst a.d a.r1 a.r2, a.kp.upd a.nr, a.nf, a.nr, a.nn⟩
  have q := a.n.ls e he
  exact ⟨by rw [upd_ne (a.ap e he).2]; exact q.at_, q.n1, q.n2, q.ne, q.len, q.nd, q.nm⟩
end
theorem num_none {es : List NE} {y : Str} (h : y ∉ es.map (·.1)) : valV (numK es) (Sum.inr y) = none := by
  induction es with
  | nil => rfl
  | cons e r ih =>
    have en : numK (e :: r) = ((Sum.inr e.1 : Key), V.ref e.2.1) :: numK r := rfl
    rw [en, valV_neg (fun z => h (by rw [← Sum.inr.inj z]; simp)), ih (fun z => h (List.mem_cons_of_mem _ z))]
theorem key_uniq : ∀ {es : List NE}, (es.map (·.1)).Nodup → ∀ {a b : NE}, a ∈ es → b ∈ es → a.1 = b.1 → a = b
  | e :: r, nd, a, b, ha, hb, h => by
    have q := List.nodup_cons.mp nd
    rcases List.mem_cons.mp ha with x | x <;> rcases List.mem_cons.mp hb with y | y
    · rw [x, y]
    · rw [x] at h
      exact absurd (show e.1 ∈ r.map (·.1) by rw [h]; exact List.mem_map_of_mem y) q.1
    · rw [y] at h
      exact absurd (show e.1 ∈ r.map (·.1) by rw [← h]; exact List.mem_map_of_mem x) q.1
    · exact key_uniq q.2 x y h
theorem RtAt.put {H0 H : Hp} {F0 N0 R0 dl c : Addr} {zs rs : List Str} {es : List NE} {i : Nat} (a : RtAt H0 H F0 N0 R0 dl c zs rs es) (I : RtInv i zs rs es) (hi : i < 12) {y : Str} {L : Addr} {ls : List Nat} (hL : H L = some (.lst ((natI (ls ++ [i])).map V.int)))
    (n1 : L ≠ F0) (n2 : L ≠ R0) (n3 : L ≠ dl) (n4 : L ≠ c) (hls : (∃ e ∈ es, e.1 = y ∧ ls = e.2.2) ∨ (y ∉ es.map (·.1) ∧ ls = [])) : RtAt H0 (upd H N0 (.dK (putK (numK es) (Sum.inr y) (.ref L)))) F0 N0 R0 dl c zs rs (setE es y L i) := by
  obtain ⟨st, _, _, r3, _⟩ := I.run
  have nN : ∀ {b : Addr} {xs : List V}, H b = some (.lst xs) → b ≠ N0 := fun {b xs} h z => by
    have q := a.n.at_
    rw [← z, h] at q
    cases q
  have nums : ∀ e ∈ es, ∀ k ∈ e.2.2, k < i := fun e he k hk => ((r3 e he).2 k hk).1
  have new : ∀ ms : List Nat, ms.length ≤ i → ms.Nodup → (∀ k ∈ ms, k < i) → ls = ms → NeOk (upd H N0 (.dK (putK (numK es) (Sum.inr y) (.ref L)))) dl c (y, L, ms ++ [i]) := fun ms h1 h2 h3 h4 => by
    subst h4
    refine ⟨by show (upd H N0 _) L = _; rw [upd_ne (nN hL)]; exact hL, n3, n4, by simp, by show (ls ++ [i]).length ≤ 12; rw [List.length_append]; show ls.length + 1 ≤ 12; omega, ?_, fun k hk => ?_⟩
    · exact List.nodup_append.mpr ⟨h2, by simp, fun x hx b hb e => by rw [List.mem_singleton.mp hb] at e; have := h3 x hx; omega⟩
    · rcases List.mem_append.mp hk with q | q
      · have := h3 k q
        exact List.mem_range.mpr (by omega)
      · rw [List.mem_singleton.mp q]
        exact List.mem_range.mpr (by omega)
  refine ⟨by rw [upd_ne a.nF.symm]; exact a.f, by rw [upd_ne a.nR.symm]; exact a.r, ⟨by rw [upd_same, setE_num], a.n.n1, a.n.n2, fun e' he' => ?_, ?_⟩, a.fr, a.f1, a.f2, a.r1, a.r2, fun e' he' => ?_, deal_lst a.d a.n.n1 a.n.n2, a.kp.upd a.nn, a.nf, a.nr, a.nn⟩
  · rcases setE_mem he' with ⟨q, _⟩ | ⟨e, he, q1, rfl⟩ | ⟨q1, rfl⟩
    · have o := a.n.ls e' q
      exact ⟨by rw [upd_ne (nN o.at_)]; exact o.at_, o.n1, o.n2, o.ne, o.len, o.nd, o.nm⟩
    · refine new e.2.2 (I.el e he) (a.n.ls e he).nd (nums e he) ?_
      rcases hls with ⟨e0, he0, q2, q3⟩ | ⟨q2, _⟩
      · rw [q3, key_uniq I.kn he0 he (by rw [q2, q1])]
      · exact absurd (by rw [← q1]; exact List.mem_map_of_mem he) q2
    · refine new [] (Nat.zero_le _) List.nodup_nil (fun k hk => (by cases hk)) ?_
      rcases hls with ⟨e0, he0, q2, q3⟩ | ⟨_, q3⟩
      · exact absurd (by rw [← q2]; exact List.mem_map_of_mem he0) q1
      · exact q3
  · have kl := I.kl
    unfold setE
    split
    · rw [List.length_map]
      omega
    · rw [List.length_append]
      show es.length + 1 ≤ 12
      omega
  · rcases setE_mem he' with ⟨q, _⟩ | ⟨e, he, q1, rfl⟩ | ⟨q1, rfl⟩
    · exact a.ap e' q
    · exact ⟨n1, n2⟩
    · exact ⟨n1, n2⟩
abbrev PLAIN4 : List Str := ["enter", "leave", "fence", "clear h"]
theorem if_rest {c : TT} {t u : TS} {D : Ends} {σ : St} {H : Hp} {Pp : Prop} (hu : Pp → u D σ H) (h : (Pp → u D σ H) → tIfS c t u D σ H) : tIfS c t u D σ H := h hu
theorem if_restS {c : TT} {t u : TS} {D : Ends} {σ : St} {H : Hp} {Pp : Hp → Prop} (hu : ∀ H', Pp H' → u D σ H') (h : (∀ H', Pp H' → u D σ H') → tIfS c t u D σ H) : tIfS c t u D σ H := h hu
theorem op_notIn_seqK {X : Cx} {K : PySem.W.Frag} (h : X.K = K) : OpR X (compareOp .NotIn) (rIn K true) := by
  subst h
  exact op_notIn_seq
theorem in_strs (z : Str) : ∀ rs : List Str, inV (.str z) (rs.map V.str) = decide (z ∈ rs)
  | [] => rfl
  | x :: r => by
    have ih := in_strs z r
    show ((x == z) || inV (.str z) (r.map V.str)) = _
    rw [ih]
    by_cases h : x = z
    · subst h
      simp
    · have h2 : ¬ z = x := fun q => h q.symm
      have h3 : (x == z) = false := by simpa using h
      rw [h3]
      simp [h2]
theorem nle {z : Str} (h : z ∈ NAMES) : z.length ≤ 4 := by
  have q : NAMES.all (fun z => decide (z.length ≤ 4)) = true := by decide +kernel
  exact of_decide_eq_true (List.all_eq_true.mp q z h)
theorem nok {z : Str} (h : z ∈ NAMES) : PyData.strOk z = true := by
  have q : NAMES.all (fun z => PyData.strOk z) = true := by decide +kernel
  exact List.all_eq_true.mp q z h
section
variable {P : Program} {w : World} {K : PySem.W.Frag} {mg : Str → Option Value} {base : Heap}
theorem ok_rt {f fD fP fC : Addr} {fd fdD fdP fdC : FuncData} (F : Fun K "_law_reader_texts" "_law_reader_texts" sRt f fd) (z_len : mg "len" = none) (z_range : mg "range" = none)
    (GDraw : FnOk P w K mg base CX0 1 fD fdD ["deal", "wide"] spDraw) (bDraw : Binds K fdD ["deal", "wide"] []) (kDraw : PySem.W.keepIn K (.ref fD) = true) (mDraw : mg "_law_draw" = some (.ref fD))
    (GPick : FnOk P w K mg base CX0 2 fP fdP ["deal", "some"] (spPick K)) (bPick : Binds K fdP ["deal", "some"] []) (kPick : PySem.W.keepIn K (.ref fP) = true) (mPick : mg "_law_pick" = some (.ref fP))
    (GCt : FnOk P w K mg base CX0 3 fC fdC ["deal", "nums"] spCt) (bCt : Binds K fdC ["deal", "nums"] []) (kCt : PySem.W.keepIn K (.ref fC) = true) (mCt : mg "_law_check_text" = some (.ref fC)) :
    FnOk P w K mg base CX0 4 f fd ["deal", "world", "most"] (spRt K) := by
  refine F.ok scRt (fun vs H Q E h => ?_) (fun cdv A outer s H vs Q E hr h => ?_)
  · obtain ⟨_, _, _, _, rfl, _⟩ := h
    rfl
  obtain ⟨dl, c, W, m, rfl, m0, m1, D, wat, k⟩ := h
  have hu := hu_of hr
  have hu0 : (A.deeper (PyProof.Rows.envOfC "_law_reader_texts" (defScope sRt) s.heap.objs.size f cdv)).units < cLine := by omega
  refine ⟨_, (pss_cons (ps_asg (pe_tup (pa_cons (pe_lst pa_nil) (pa_cons pe_dnewK (pa_cons (pe_lst pa_nil) pa_nil)))) (pg_tup rfl (pgs_cons (pg_name (i := 3) scRt.nd rfl (.inl rfl)) (pgs_cons (pg_name (i := 4) scRt.nd rfl (.inl rfl)) (pgs_cons (pg_name (i := 5) scRt.nd rfl (.inr rfl)) pgs_nil)))))
  (pss_cons (ps_for PassesOwn.never rfl (pi_range1 rfl z_range (pa_cons (pe_op op_add pe_int (pe_call GDraw (hr.mono (by decide)) rfl mDraw kDraw bDraw .nil pass0 (pa_cons (pv 0) (pa_cons (pv 2) pa_nil)))) pa_nil)) (pg_name (i := 6) scRt.nd rfl (.inl rfl)) (pss_cons (ps_par (i := 8) (j := 9) rfl scRt.nd rfl rfl (by decide) rfl rfl (pa_cons (pe_call GDraw (hr.mono (by decide)) rfl mDraw kDraw bDraw .nil pass0 (pa_cons (pv 0) (pa_cons pe_int pa_nil))) (pa_cons (pe_lc (own := [("slot", 7)]) (g := gName 7) rfl scRt.nd (pi_list (pe_dget hu (pv 1) pe_str (fun _ _ => rfl))) (blkOk_by (own := [("slot", 7)]) (N := NRt) (sc := defScope sRt) (by decide +kernel)) (fun _ _ _ _ _ => (pg_name (i := 7) scRt.nd rfl (Or.inl rfl))) (fun _ _ _ _ _ => (pts_one (pt_cmpR (op_notIn_seqK (K := K) rfl) (pv 7) (pv 5) (by with_unfolding_all rfl)))) (fun _ _ _ _ _ => (pv 7))) pa_nil)) rfl)
    (pss_one (ps_if (PW.pt (pw_and (pt_cmpR op_lt (pv 8) pe_int (nomark _)) (pw_and1 (pt_cmpR (op_neD hr.units) (pv 9) (pe_lst pa_nil) (nomark _))))) (pss_cons (ps_expr (pe_bm PySem.F.plainAttrs_list PySem.F.slot_list_append PySem.F.type_list_append mt_append (pv 5) (pa_cons (pe_call GPick (hr.mono (by decide)) rfl mPick kPick bPick .nil pass0 (pa_cons (pv 0) (pa_cons (pv 9) pa_nil))) pa_nil)))
      (pss_one (ps_expr (pe_bm PySem.F.plainAttrs_list PySem.F.slot_list_append PySem.F.type_list_append mt_append (pv 3) (pa_cons (pe_op op_add_str pe_str (pe_ix ix_list (pv 5) (pe_un un_neg pe_int) (fun _ _ => rfl))) pa_nil))))) (pss_one (ps_if (PW.pt (pw_and (pt_cmpR op_lt (pv 8) pe_int (nomark _)) (pw_and1 (pt_cmpR (op_neD hr.units) (pv 5) (pe_lst pa_nil) (nomark _))))) (pss_cons (ps_par (i := 7) (j := 10) rfl scRt.nd rfl rfl (by decide) rfl rfl (pa_cons (pe_call GPick (hr.mono (by decide)) rfl mPick kPick bPick .nil pass0 (pa_cons (pv 0) (pa_cons (pv 5) pa_nil))) (pa_cons (pe_call GPick (hr.mono (by decide)) rfl mPick kPick bPick .nil pass0 (pa_cons (pv 0) (pa_cons (pe_dget hu (pv 1) pe_str (fun _ _ => rfl)) pa_nil))) pa_nil)) rfl)
        (pss_cons (ps_set (i := 11) scRt.nd rfl (.inl rfl) (pe_lst (pa_cons (pe_op op_add_str (pe_op op_add_str (pe_op op_add_str pe_str (pv 7)) pe_str) (pv 10)) (pa_cons (pe_op op_add_str pe_str (pv 7)) (pa_cons (pe_op op_add_str pe_str (pv 7)) (pa_cons (pe_op op_add_str (pe_op op_add_str (pe_op op_add_str pe_str (pv 7)) pe_str) (pv 10)) pa_nil))))))
        (pss_one (ps_expr (pe_bm PySem.F.plainAttrs_list PySem.F.slot_list_append PySem.F.type_list_append mt_append (pv 3) (pa_cons (pe_call GPick (hr.mono (by decide)) rfl mPick kPick bPick .nil pass0 (pa_cons (pv 0) (pa_cons (pv 11) pa_nil))) pa_nil)))))) (pss_one (ps_if (PW.pt (pw_and (pt_cmpR op_lt (pv 8) pe_int (nomark _)) (pw_and1 (pt_cmpR (op_neD hr.units) (pe_dget hu (pv 1) pe_str (fun _ _ => rfl)) (pe_lst pa_nil) (nomark _))))) (pss_cons (ps_set (i := 12) scRt.nd rfl (.inl rfl) (pe_call GPick (hr.mono (by decide)) rfl mPick kPick bPick .nil pass0 (pa_cons (pv 0) (pa_cons (pe_dget hu (pv 1) pe_str (fun _ _ => rfl)) pa_nil))))
          (pss_cons (ps_dput hu (pv 4) (pv 12) (pe_op op_cat (pe_dget2 hu (pv 4) (pv 12) (pe_lst pa_nil) ⟨rfl, rfl, rfl, rfl⟩) (pe_lst (pa_cons (pe_callB call_len_seq rfl z_len (by decide +kernel) (pa_cons (pv 3) pa_nil)) pa_nil))) rfl)
          (pss_one (ps_expr (pe_bm PySem.F.plainAttrs_list PySem.F.slot_list_append PySem.F.type_list_append mt_append (pv 3) (pa_cons (pe_op op_add_str pe_str (pv 12)) pa_nil)))))) (pss_one (ps_if (PW.pt (pw_and (pt_cmpR op_lt (pv 8) pe_int (nomark _)) (pw_and1 (pt_cmpR (op_ne_empty hu0) (pv 4) pe_dnewK (nomark _))))) (pss_one (ps_expr (pe_bm PySem.F.plainAttrs_list PySem.F.slot_list_append PySem.F.type_list_append mt_append (pv 3) (pa_cons (pe_call GCt (hr.mono (by decide)) rfl mCt kCt bCt .nil pass0 (pa_cons (pv 0) (pa_cons (pv 4) pa_nil))) pa_nil)))) (pss_one (ps_expr (pe_bm PySem.F.plainAttrs_list PySem.F.slot_list_append PySem.F.type_list_append mt_append (pv 3) (pa_cons (pe_call GPick (hr.mono (by decide)) rfl mPick kPick bPick .nil pass0 (pa_cons (pv 0) (pa_cons (pe_lst (pa_cons pe_str (pa_cons pe_str (pa_cons pe_str (pa_cons pe_str pa_nil))))) pa_nil))) pa_nil))))))))))))))
  (pss_one (ps_ret (pv 3))))), ?_⟩
  refine ⟨(by show 0 ≤ sizeLine; decide), fun F0 hF0 => fun N0 hN0 => ⟨(by show 0 ≤ sizeLine; decide), fun R0 hR0 => ⟨(by show 3 ≤ sizeLine; decide), fun T hT => ?_⟩⟩⟩
  have s1 : Same H (upd H F0 (.lst [])) := Same.new hF0
  have s2 := s1.trans (Same.new (o := .dK []) hN0)
  have s3 := s2.trans (Same.new (o := .lst []) hR0)
  have s4 := s3.trans (Same.new (o := .tup [.ref F0, .ref N0, .ref R0]) hT)
  have nFN : F0 ≠ N0 := ne_of_none upd_same hN0
  have nNR : N0 ≠ R0 := ne_of_none upd_same hR0
  have nFR : F0 ≠ R0 := ne_of_none (by rw [upd_ne nFN]; exact upd_same) hR0
  have hN0' : H N0 = none := none_of_same s1 hN0
  have hR0' : H R0 = none := none_of_same s2 hR0
  have offF := D.off hF0
  have offN := D.off hN0'
  have offR := D.off hR0'
  have a0 : RtAt H (upd (upd (upd (upd H F0 (.lst [])) N0 (.dK [])) R0 (.lst [])) T (.tup [.ref F0, .ref N0, .ref R0])) F0 N0 R0 dl c [] [] [] := by
    have w1 : (upd (upd (upd H F0 (.lst [])) N0 (.dK [])) R0 (.lst [])) F0 = some (.lst []) := by rw [upd_ne nFR, upd_ne nFN]; exact upd_same
    have w2 : (upd (upd (upd H F0 (.lst [])) N0 (.dK [])) R0 (.lst [])) N0 = some (.dK []) := by rw [upd_ne nNR]; exact upd_same
    have w3 : (upd (upd (upd H F0 (.lst [])) N0 (.dK [])) R0 (.lst [])) R0 = some (.lst []) := upd_same
    exact ⟨Same.new hT _ _ w1, Same.new hT _ _ w3, ⟨Same.new hT _ _ w2, offN.1, offN.2, fun e he => (by cases he), Nat.zero_le _⟩, nFR, offF.1, offF.2, offR.1, offR.2, fun e he => (by cases he), D.keep s4, Kp.same s4, hF0, hR0', hN0'⟩
  refine ⟨T, [.ref F0, .ref N0, .ref R0], rfl, .inl (.inl upd_same), rfl, _, _, rfl, _, _, rfl, _, _, rfl, rfl, ?_⟩
  generalize upd (upd (upd (upd H F0 (.lst [])) N0 (.dK [])) R0 (.lst [])) T (.tup [.ref F0, .ref N0, .ref R0]) = H1 at a0 ⊢
  clear s1 s2 s3 s4 hN0 hR0 hT
  have i0 : RtInv 0 [] [] [] := ⟨fun z h => (by cases h), rfl, ⟨([], []), rfl, fun s => Iff.rfl, fun e he => (by cases he), fun c hc => (by cases hc)⟩, fun z h => (by cases h), Nat.le_refl _, List.nodup_nil, Nat.le_refl _, fun e he => (by cases he)⟩
  refine ⟨_, rfl, _, rfl, dl, c, m, rfl, m0, by omega, a0.d, fun r H2 r0 r1 D2 k2 => ⟨_, _, rfl, rfl, 1 + r, rfl, by omega, by omega, ?_⟩⟩
  have a2 := a0.go D2 k2
  have nn : (((1 + r).toNat : Nat) : Int) = 1 + r := by omega
  refine for_range (lo := 0) (n := (1 + r).toNat) (fun i σ H3 => ∃ (zs rs : List Str) (es : List NE) (v6 v7 v8 v9 v10 v11 v12 : Option V), σ = [some (.ref dl), some (.ref W), some (.int m), some (.ref F0), some (.ref N0), some (.ref R0), v6, v7, v8, v9, v10, v11, v12] ∧ RtAt H H3 F0 N0 R0 dl c zs rs es ∧ RtInv i zs rs es) ⟨[], [], [], none, none, none, none, none, none, none, rfl, a2, i0⟩ ?turn ?last
  case last =>
    rintro σ H3 ⟨zs, rs, es, v6, v7, v8, v9, v10, v11, v12, rfl, a3, I⟩
    obtain ⟨st, hrun, _⟩ := I.run
    have hg : goR zs = true := by
      unfold goR
      rw [hrun]
      rfl
    have hl := I.len
    exact ⟨_, rfl, k F0 zs H3 I.stp hg (by omega) (by omega) a3.d a3.kp offF.1 offF.2 hF0 a3.f⟩
  case turn =>
    rintro i σ H3 hi ⟨zs, rs, es, v6, v7, v8, v9, v10, v11, v12, rfl, a3, I⟩
    have hi12 : i < 12 := by omega
    have fin : ∀ (z : Str) (rs' : List Str) (es' : List NE) (Hk : Hp) (v6 v7 v8 v9 v10 v11 v12 : Option V), RtAt H Hk F0 N0 R0 dl c zs rs' es' → RtInv (i + 1) (zs ++ [z]) rs' es' →
        ∃ (ys qs : List Str) (ds : List NE) (w6 w7 w8 w9 w10 w11 w12 : Option V), [some (V.ref dl), some (.ref W), some (.int m), some (.ref F0), some (.ref N0), some (.ref R0), v6, v7, v8, v9, v10, v11, v12] = [some (V.ref dl), some (.ref W), some (.int m), some (.ref F0), some (.ref N0), some (.ref R0), w6, w7, w8, w9, w10, w11, w12] ∧ RtAt H (upd Hk F0 (.lst (zs.map V.str ++ [V.str z]))) F0 N0 R0 dl c ys qs ds ∧ RtInv (i + 1) ys qs ds :=
      fun z rs' es' Hk v6 v7 v8 v9 v10 v11 v12 a I' => ⟨zs ++ [z], rs', es', v6, v7, v8, v9, v10, v11, v12, rfl, a.appF z, I'⟩
    have z100 : (zs.map V.str).length < sizeLine := by
      rw [List.length_map, I.len]
      exact Nat.lt_of_lt_of_le hi12 (by decide)
    -- form, left = ..
    obtain ⟨A1, A2, A3, ss, ps, cs, hW0, w1, w2, N1, N2, N3, p1, p2⟩ := wat.keep a3.kp
    refine ⟨_, rfl, dl, c, 14, rfl, by decide, by decide, a3.d, fun fm H4 f1 f2 D4 k4 => ?_⟩
    have a4 := a3.go D4 k4
    have hW4 := k4 _ _ hW0 w1 w2
    have N14 := N1.keep k4
    refine ⟨_, rfl, W, _, rfl, .inl ⟨_, kSl, .inl hW4, rfl, rfl⟩, A1, rfl, ⟨_, SqL.of N14.at_⟩, fun L hL => ?_⟩
    have smallS : (ss.map V.str).length < sizeLine := by
      rw [List.length_map]
      exact Nat.lt_of_le_of_lt N1.len (by decide)
    refine lc_s (walk_list (K := K) (a := A1)) (fun x => match x with | .str z => if (!inV (.str z) (rs.map V.str)) = true then some (.str z) else none | _ => none) hL smallS (fun H' s => SqL.of (s _ _ N14.at_)) ?_ ?_
    · intro x H5 hx s5 OK NO ok no
      obtain ⟨z, hz, rfl⟩ := List.mem_map.mp hx
      refine ⟨rfl, _, rfl, _, rfl, R0, _, rfl, .inl (SqL.of (s5 _ _ a4.r)), rfl, flat_strs rs, _, rfl, ?_⟩
      show if (!inV (.str z) (rs.map V.str)) = true then _ else _
      refine ite3 (fun h => ?_) (fun h => ?_)
      · exact ⟨_, rfl, ok _ _ (fun _ _ e => e) (if_pos h)⟩
      · exact no _ (fun _ _ e => e) (if_neg (by rw [h]; exact Bool.false_ne_true))
    intro H5 s5 e5
    obtain ⟨lf, elf, hlf⟩ : ∃ lf : List Str, (ss.map V.str).filterMap (fun x => match x with | .str z => if (!inV (.str z) (rs.map V.str)) = true then some (V.str z) else none | _ => none) = lf.map V.str ∧ (∀ z ∈ lf, z ∈ NAMES ∧ z ∉ rs) ∧ lf.length ≤ ss.length := by
      have hN := N1.nm
      clear e5 smallS N14 N1 p1
      induction ss with
      | nil => exact ⟨[], rfl, fun z h => (by cases h), Nat.le_refl _⟩
      | cons y r ih =>
        obtain ⟨lf, e1, e2, e3⟩ := ih (fun z hz => hN z (List.mem_cons_of_mem _ hz))
        by_cases h : (!inV (.str y) (rs.map V.str)) = true
        · refine ⟨y :: lf, ?_, fun z hz => ?_, Nat.succ_le_succ e3⟩
          · rw [List.map_cons, List.filterMap_cons, e1]
            simp only [if_pos h]
            rfl
          · rcases List.mem_cons.mp hz with q | q
            · rw [q]
              refine ⟨hN y List.mem_cons_self, fun z2 => ?_⟩
              rw [in_strs, decide_eq_true z2] at h
              cases h
            · exact e2 z q
        · refine ⟨lf, ?_, e2, Nat.le_succ_of_le e3⟩
          rw [List.map_cons, List.filterMap_cons, e1]
          simp only [if_neg h]
    rw [elf] at e5
    have a5 := a4.same s5
    have hW5 := s5 _ _ hW4
    have offL := a4.d.off hL
    have K45 : Kp dl c H3 H5 := k4.trans (Kp.same s5)
    have N25 := N2.keep K45
    have N35 := N3.keep K45
    clear k4 a4 a3 D4 hW4 N14 s5 hW0
    refine ⟨_, _, rfl, ?_⟩
    have l1 : (" " : Str).length = 1 := by decide +kernel
    have l5 : ("read " : Str).length = 5 := by decide +kernel
    have l5l : ("look " : Str).length = 5 := by decide +kernel
    have l4 : ("use " : Str).length = 4 := by decide +kernel
    have l4n : ("num " : Str).length = 4 := by decide +kernel
    have l7 : ("mark h " : Str).length = 7 := by decide +kernel
    have big : ∀ n : Nat, n ≤ 1000 → n ≤ sizeLine := fun n h => Nat.le_trans h (by decide)
    have rl := I.rl
    dsimp only
    -- if form < 3 and left != []
    refine if_restS (Pp := fun H' => Same H5 H') (fun H6 s6 => ?els1) fun e1 => ?c1
    case c1 =>
      refine ⟨_, rfl, _, _, rfl, rfl, _, rfl, ite3 (fun h1 => ?_) (fun h1 => ifF rfl (e1 _ (fun _ _ e => e)))⟩
      refine ⟨_, rfl, (by show 0 ≤ sizeLine; decide), fun p hp => ?_⟩
      have s6 : Same H5 (upd H5 p (.lst [])) := Same.new hp
      refine ⟨.list (lf.map PyData.str), .list (([] : List Str).map PyData.str), Dp.lst (SqL.of (s6 _ _ e5)) (dp_strs lf), Dp.lst (SqL.of upd_same) .nil, shaped_strs (fun z hz => nok (hlf.1 z hz).1), shaped_strs (ws := []) (fun z q => by cases q), _, rfl, ?_⟩
      rw [eqv_strs]
      generalize upd H5 p (.lst []) = H6 at s6 ⊢
      by_cases hne : lf = []
      · exact ifF (by rw [decide_eq_true hne]; rfl) (e1 H6 s6)
      refine ifT (by rw [decide_eq_false hne]; rfl) ?_
      have a6 := a5.same s6
      have lf0 : 0 < lf.length := List.length_pos_iff.mpr hne
      have lf12 := N1.len
      refine ⟨_, rfl, .inl ⟨rfl, _, SqL.of a6.r⟩, _, rfl, _, rfl, dl, c, L, _, rfl, SqL.of (s6 _ _ e5), offL.1, offL.2, by rw [List.length_map]; exact lf0, by rw [List.length_map]; omega, a6.d, fun x H8 hx D8 k8 => ?_⟩
      obtain ⟨sl, hsl, rfl⟩ := List.mem_map.mp hx
      obtain ⟨sN, sR⟩ := hlf.1 sl hsl
      have a8 := a6.go D8 k8
      refine ⟨R0, _, _, rfl, rfl, a8.r, by rw [List.length_map]; exact Nat.lt_of_le_of_lt (show rs.length ≤ 1000 by omega) (by decide), ?_⟩
      have a9 := a8.appR sl
      have eR := a9.r
      have hz := nle sN
      refine ⟨_, rfl, .inl ⟨rfl, _, SqL.of a9.f⟩, _, rfl, 1, rfl, R0, _, _, _, rfl, rfl, SqL.of upd_same, atI_last _ _, "read ", sl, rfl, rfl, big _ (by rw [l5]; omega), F0, _, _, rfl, rfl, a9.f, z100, ?_⟩
      exact fin (tRd sl) _ _ _ _ _ _ _ _ _ _ a9 (inv_read I sN sR)
    have a6 := a5.same s6
    have hW6 := s6 _ _ hW5
    have N26 := N25.keep (Kp.same s6)
    have N36 := N35.keep (Kp.same s6)
    clear a5 hW5 N25 N35 s6 e5
    -- elif form < 6 and reads != []
    refine if_restS (Pp := fun H' => Same H6 H') (fun H7 s7 => ?els2) fun e2 => ?c2
    case c2 =>
      refine ⟨_, rfl, _, _, rfl, rfl, _, rfl, ite3 (fun h1 => ?_) (fun h1 => ifF rfl (e2 _ (fun _ _ e => e)))⟩
      refine ⟨_, rfl, (by show 0 ≤ sizeLine; decide), fun p hp => ?_⟩
      have s7 : Same H6 (upd H6 p (.lst [])) := Same.new hp
      refine ⟨.list (rs.map PyData.str), .list (([] : List Str).map PyData.str), Dp.lst (SqL.of (s7 _ _ a6.r)) (dp_strs rs), Dp.lst (SqL.of upd_same) .nil, shaped_strs (fun z hz => nok (I.rn z hz)), shaped_strs (ws := []) (fun z q => by cases q), _, rfl, ?_⟩
      rw [eqv_strs]
      generalize upd H6 p (.lst []) = H7 at s7 ⊢
      by_cases hne : rs = []
      · exact ifF (by rw [decide_eq_true hne]; rfl) (e2 H7 s7)
      refine ifT (by rw [decide_eq_false hne]; rfl) ?_
      have a7 := a6.same s7
      have rs0 : 0 < rs.length := List.length_pos_iff.mpr hne
      refine ⟨_, rfl, _, rfl, dl, c, R0, _, rfl, SqL.of a7.r, a7.r1, a7.r2, by rw [List.length_map]; exact rs0, by rw [List.length_map]; omega, a7.d, fun x H8 hx D8 k8 => ?_⟩
      obtain ⟨sl, hsl, rfl⟩ := List.mem_map.mp hx
      have a8 := a7.go D8 k8
      have K68 : Kp dl c H6 H8 := (Kp.same s7).trans k8
      have N28 := N26.keep K68
      refine ⟨_, rfl, _, rfl, W, _, rfl, .inl ⟨_, kPa, .inl (K68 _ _ hW6 w1 w2), rfl, rfl⟩, dl, c, A2, _, rfl, SqL.of N28.at_, N28.n1, N28.n2, by rw [List.length_map]; exact p2, by rw [List.length_map]; exact Nat.lt_of_le_of_lt N28.len (by decide), D8, fun x2 H9 hx2 D9 k9 => ⟨_, _, rfl, ?_⟩⟩
      obtain ⟨pt, hpt, rfl⟩ := List.mem_map.mp hx2
      have a9 := a8.go D9 k9
      have hs := nle (I.rn sl hsl)
      have hpN := N2.nm pt hpt
      have hp4 := nle hpN
      refine ⟨_, rfl, "use ", sl, rfl, rfl, big _ (by rw [l4]; omega), _, _, rfl, rfl, big _ (by rw [Str.length_append, l4, l1]; omega), _, rfl, _, _, rfl, rfl, big _ (by rw [Str.length_append, Str.length_append, l4, l1]; omega), ?_⟩
      refine ⟨_, rfl, "look ", sl, rfl, rfl, big _ (by rw [l5l]; omega), _, rfl, "mark h ", sl, rfl, rfl, big _ (by rw [l7]; omega), ?_⟩
      refine ⟨_, rfl, "use ", sl, rfl, rfl, big _ (by rw [l4]; omega), _, _, rfl, rfl, big _ (by rw [Str.length_append, l4, l1]; omega), _, rfl, _, _, rfl, rfl, big _ (by rw [Str.length_append, Str.length_append, l4, l1]; omega), (by show 4 ≤ sizeLine; decide), fun S hS => ?_⟩
      have eS : (upd H9 S (.lst ([V.str (tUs sl pt), V.str (tLk sl), V.str (tMk sl), V.str (tUs sl pt)]))) S = some (.lst ([V.str (tUs sl pt), V.str (tLk sl), V.str (tMk sl), V.str (tUs sl pt)])) := upd_same
      have a10 := a9.same (Same.new (o := .lst ([V.str (tUs sl pt), V.str (tLk sl), V.str (tMk sl), V.str (tUs sl pt)])) hS)
      have offS := a9.d.off hS
      refine ⟨_, rfl, .inl ⟨rfl, _, SqL.of a10.f⟩, _, rfl, _, rfl, dl, c, S, _, rfl, SqL.of eS, offS.1, offS.2, by show 0 < 4; decide, by show 4 < 1000; decide, a10.d, fun x3 H11 hx3 D11 k11 => ?_⟩
      have a11 := a10.go D11 k11
      obtain ⟨z, rfl, I'⟩ : ∃ z, x3 = V.str z ∧ RtInv (i + 1) (zs ++ [z]) rs es := by
        simp only [List.mem_cons, List.mem_nil_iff, or_false] at hx3
        rcases hx3 with q | q | q | q
        · exact ⟨_, q, inv_use I hsl hpN⟩
        · exact ⟨_, q, inv_look I hsl⟩
        · exact ⟨_, q, inv_mark I hsl⟩
        · exact ⟨_, q, inv_use I hsl hpN⟩
      exact ⟨F0, _, _, rfl, rfl, a11.f, z100, fin z _ _ _ _ _ _ _ _ _ _ a11 I'⟩
    have a7 := a6.same s7
    have hW7 := s7 _ _ hW6
    have N37 := N36.keep (Kp.same s7)
    clear a6 hW6 N26 N36 s7
    -- elif form < 10 and world['counters'] != []
    refine if_restS (Pp := fun H' => Same H7 H') (fun H8 s8 => ?els3) fun e3 => ?c3
    case c3 =>
      refine ⟨_, rfl, _, _, rfl, rfl, _, rfl, ite3 (fun h1 => ?_) (fun h1 => ifF rfl (e3 _ (fun _ _ e => e)))⟩
      refine ⟨_, rfl, W, .ref A3, rfl, .inl ⟨_, kCo, .inl hW7, rfl, rfl⟩, (by show 0 ≤ sizeLine; decide), fun p hp => ?_⟩
      have s8 : Same H7 (upd H7 p (.lst [])) := Same.new hp
      refine ⟨.list (cs.map PyData.str), .list (([] : List Str).map PyData.str), Dp.lst (SqL.of (s8 _ _ N37.at_)) (dp_strs cs), Dp.lst (SqL.of upd_same) .nil, shaped_strs (fun z hz => nok (N3.nm z hz)), shaped_strs (ws := []) (fun z q => by cases q), _, rfl, ?_⟩
      rw [eqv_strs]
      generalize upd H7 p (.lst []) = H8 at s8 ⊢
      by_cases hne : cs = []
      · exact ifF (by rw [decide_eq_true hne]; rfl) (e3 H8 s8)
      refine ifT (by rw [decide_eq_false hne]; rfl) ?_
      have a8 := a7.same s8
      have N38 := N37.keep (Kp.same s8)
      refine ⟨_, rfl, _, rfl, W, _, rfl, .inl ⟨_, kCo, .inl (s8 _ _ hW7), rfl, rfl⟩, dl, c, A3, _, rfl, SqL.of N38.at_, N38.n1, N38.n2, by rw [List.length_map]; exact List.length_pos_iff.mpr hne, by rw [List.length_map]; exact Nat.lt_of_le_of_lt N38.len (by decide), a8.d, fun x H9 hx D9 k9 => ?_⟩
      obtain ⟨y, hy, rfl⟩ := List.mem_map.mp hx
      have yN := N3.nm y hy
      have a9 := a8.go D9 k9
      dsimp only [gName]
      -- nums[counter] = nums.get(counter, []) + [len(found)]
      refine ⟨_, rfl, N0, rfl, .inl ⟨_, .inl a9.n.at_⟩, _, rfl, (by show 0 ≤ sizeLine; decide), fun p hp => ?_⟩
      have s10 : Same H9 (upd H9 p (.lst [])) := Same.new hp
      have e10 : (upd H9 p (.lst [])) p = some (.lst []) := upd_same
      have a10 := a9.same s10
      generalize upd H9 p (.lst []) = H10 at s10 e10 a10 ⊢
      refine ⟨_, DGet.k (k := Sum.inr y) a10.n.at_, ?_⟩
      obtain ⟨b, ls, eb, hb, hls⟩ : ∃ (b : Addr) (ls : List Nat), (valV (numK es) (Sum.inr y)).getD (.ref p) = V.ref b ∧ H10 b = some (.lst ((natI ls).map V.int)) ∧ ((∃ e ∈ es, e.1 = y ∧ ls = e.2.2) ∨ (y ∉ es.map (·.1) ∧ ls = [])) := by
        by_cases q : y ∈ es.map (·.1)
        · obtain ⟨e, he, ey, ev⟩ := num_val q
          exact ⟨e.2.1, e.2.2, by rw [ev]; rfl, (a10.n.ls e he).at_, .inl ⟨e, he, ey, rfl⟩⟩
        · exact ⟨p, [], by rw [num_none q]; rfl, e10, .inr ⟨q, rfl⟩⟩
      rw [eb]
      have lsl : ls.length ≤ i := by
        rcases hls with ⟨e, he, _, rfl⟩ | ⟨_, rfl⟩
        · exact I.el e he
        · exact Nat.zero_le _
      refine ⟨_, rfl, F0, _, rfl, .inl (SqL.of a10.f), (by show 1 ≤ sizeLine; decide), fun q hq => ?_⟩
      have eZ : (((zs.map V.str).length : Nat) : Int) = (i : Int) := by rw [List.length_map, I.len]
      rw [eZ]
      have s11 : Same H10 (upd H10 q (.lst [.int (i : Nat)])) := Same.new hq
      have e11 : (upd H10 q (.lst [.int (i : Nat)])) q = some (.lst [.int (i : Nat)]) := upd_same
      have a11 := a10.same s11
      generalize upd H10 q (.lst [.int (i : Nat)]) = H11 at s11 e11 a11 ⊢
      have nl : ((natI ls).map V.int).length = ls.length := by unfold natI; rw [List.length_map, List.length_map]
      refine ⟨b, q, _, _, rfl, rfl, s11 _ _ hb, e11, by rw [nl]; show ls.length + 1 ≤ sizeLine; exact big _ (by omega), fun L2 hL2 => ?_⟩
      have eL2 : (natI ls).map V.int ++ [V.int (i : Nat)] = (natI (ls ++ [i])).map V.int := by
        unfold natI
        rw [List.map_append, List.map_append]
        rfl
      rw [eL2]
      have s12 : Same H11 (upd H11 L2 (.lst ((natI (ls ++ [i])).map V.int))) := Same.new hL2
      have e12 : (upd H11 L2 (.lst ((natI (ls ++ [i])).map V.int))) L2 = some (.lst ((natI (ls ++ [i])).map V.int)) := upd_same
      have a12 := a11.same s12
      have o12 := a11.d.off hL2
      have nF2 : L2 ≠ F0 := (ne_of_none a11.f hL2).symm
      have nR2 : L2 ≠ R0 := (ne_of_none a11.r hL2).symm
      generalize upd H11 L2 (.lst ((natI (ls ++ [i])).map V.int)) = H12 at s12 e12 a12 ⊢
      have kl := I.kl
      refine ⟨_, rfl, _, rfl, N0, _, rfl, DPut.k (k := Sum.inr y) a12.n.at_ (by unfold numK; rw [List.length_map]; exact Nat.lt_of_le_of_lt (show es.length ≤ 1000 by omega) (by decide)), ?_⟩
      have a13 := a12.put I hi12 e12 nF2 nR2 o12.1 o12.2 hls
      have hy4 := nle yN
      refine ⟨_, rfl, .inl ⟨rfl, _, SqL.of a13.f⟩, _, rfl, "num ", y, rfl, rfl, big _ (by rw [l4n]; omega), F0, _, _, rfl, rfl, a13.f, z100, ?_⟩
      exact fin (tNm y) _ _ _ _ _ _ _ _ _ _ a13 (inv_num I yN)
    have a8 := a7.same s8
    clear a7 hW7 N37 s8
    -- elif form < 13 and nums != {}
    refine if_restS (Pp := fun H' => Same H8 H') (fun H9 s9 => ?els4) fun e4 => ?c4
    case c4 =>
      refine ⟨_, rfl, _, _, rfl, rfl, _, rfl, ite3 (fun h1 => ?_) (fun h1 => ifF rfl (e4 _ (fun _ _ e => e)))⟩
      refine ⟨_, rfl, fun q hq => ?_⟩
      have s9 : Same H8 (upd H8 q (.dK [])) := Same.new hq
      have e9 : (upd H8 q (.dK [])) q = some (.dK []) := upd_same
      have a9 := a8.same s9
      generalize upd H8 q (.dK []) = H9 at s9 e9 a9 ⊢
      refine ⟨N0, q, numK es, rfl, rfl, a9.n.at_, e9, _, rfl, ?_⟩
      have nk : (numK es).length = es.length := by unfold numK; rw [List.length_map]
      rw [nk]
      by_cases hne : es = []
      · exact ifF (by rw [hne]; rfl) (e4 H9 s9)
      have e0 : es.length ≠ 0 := fun z => hne (List.length_eq_zero_iff.mp z)
      refine ifT (by rw [decide_eq_false e0]; rfl) ?_
      refine ⟨_, rfl, .inl ⟨rfl, _, SqL.of a9.f⟩, _, rfl, _, rfl, dl, c, N0, es, rfl, a9.d, a9.n, hne, fun z H10 hz D10 k10 => ?_⟩
      have a10 := a9.go D10 k10
      refine ⟨F0, _, _, rfl, rfl, a10.f, z100, ?_⟩
      exact fin z _ _ _ _ _ _ _ _ _ _ a10 (inv_chk I (by omega) hz)
    have a9 := a8.same s9
    refine ⟨_, rfl, .inl ⟨rfl, _, SqL.of a9.f⟩, _, rfl, (by show 4 ≤ sizeLine; decide), fun S hS => ?_⟩
    have s10 : Same H9 (upd H9 S (.lst (PLAIN4.map V.str))) := Same.new hS
    have eS : (upd H9 S (.lst (PLAIN4.map V.str))) S = some (.lst (PLAIN4.map V.str)) := upd_same
    have a10 := a9.same s10
    have offS := a9.d.off hS
    refine ⟨dl, c, S, _, rfl, SqL.of eS, offS.1, offS.2, by show 0 < 4; decide, by show 4 < 1000; decide, a10.d, fun x3 H11 hx3 D11 k11 => ?_⟩
    have a11 := a10.go D11 k11
    obtain ⟨z, hz, rfl⟩ := List.mem_map.mp hx3
    refine ⟨F0, _, _, rfl, rfl, a11.f, z100, ?_⟩
    exact fin z _ _ _ _ _ _ _ _ _ _ a11 (inv_plain I (by
      have q : PLAIN4.all (fun z => decide (z ∈ PLAIN)) = true := by decide +kernel
      exact of_decide_eq_true (List.all_eq_true.mp q z hz)))
end
end My

set_option Elab.async false
set_option linter.all false
set_option maxRecDepth 100000
set_option maxHeartbeats 2000000
/-! what a run knows, told by the texts ahead -/
namespace My
open PySem L2
def readOf (z : Str) : Option Str := if decide (V.str (hw z) = V.str "read") = true then some (wd z 1) else none
def numOf (z : Str) : Option Str := if decide (V.str (hw z) = V.str "num") = true then some (wd z 1) else none
theorem run_inv : ∀ (zs : List Str) (st : Rst), rrun 0 ([], []) zs = some st → (∀ s, s ∈ st.1 ↔ ∃ z ∈ zs, readOf z = some s) ∧ (∀ n : Nat, askS st.2 (n : Int) = (zs[n]?).bind numOf) ∧ ∀ c ∈ st.2, c.1 < zs.length := by
  intro zs
  generalize hl : zs.length = l
  induction l generalizing zs with
  | zero =>
    intro st h
    have e : zs = [] := List.length_eq_zero_iff.mp hl
    subst e
    have h : some (([], []) : Rst) = some st := h
    cases h
    exact ⟨fun s => by simp, fun n => by simp [askS], fun c hc => by cases hc⟩
  | succ l ih =>
    intro st h
    have hne : zs ≠ [] := fun e => by rw [e] at hl; cases hl
    have e := List.dropLast_concat_getLast hne
    generalize hz : zs.getLast hne = z at e
    generalize hy : zs.dropLast = ys at e
    have ly : ys.length = l := by
      have q := congrArg List.length e
      rw [List.length_append] at q
      simp at q
      omega
    rw [← e, rrun_snoc] at h
    cases hr : rrun 0 ([], []) ys with
    | none =>
      rw [hr] at h
      cases h
    | some st' =>
      rw [hr] at h
      have h : (if rbad st' z = true then none else some (rnew (0 + ys.length) st' z)) = some st := h
      split at h
      · cases h
      · have h := Option.some.inj h
        rw [Nat.zero_add] at h
        obtain ⟨i1, i2, i3⟩ := ih ys ly st' hr
        rw [← e]
        refine ⟨fun s => ?_, fun n => ?_, fun c hc => ?_⟩
        · rw [← h]
          unfold rnew
          have ex : (∃ y ∈ ys ++ [z], readOf y = some s) ↔ (∃ y ∈ ys, readOf y = some s) ∨ readOf z = some s := by
            constructor
            · rintro ⟨y, hy, q⟩
              rcases List.mem_append.mp hy with m | m
              · exact .inl ⟨y, m, q⟩
              · rw [List.mem_singleton.mp m] at q
                exact .inr q
            · rintro (⟨y, m, q⟩ | q)
              · exact ⟨y, List.mem_append_left _ m, q⟩
              · exact ⟨z, by simp, q⟩
          rw [ex, ← i1 s]
          unfold readOf
          by_cases q : decide (V.str (hw z) = V.str "read") = true
          · rw [if_pos q, if_pos q, mem_addKey]
            constructor
            · rintro (a | a)
              · exact .inl a
              · exact .inr (by rw [a])
            · rintro (a | a)
              · exact .inl a
              · exact .inr (Option.some.inj a).symm
          · rw [if_neg q, if_neg q]
            simp
        · rw [← h]
          unfold rnew
          rw [List.getElem?_append]
          by_cases q : decide (V.str (hw z) = V.str "num") = true
          · show askS (if decide (V.str (hw z) = V.str "num") = true then st'.2 ++ [(ys.length, wd z 1)] else st'.2) (n : Int) = _
            rw [if_pos q, ask_app (fun c hc => by rw [ly]; exact i3 c hc), i2 n]
            by_cases hn : n = ys.length
            · rw [if_pos hn, if_neg (by omega), hn, Nat.sub_self]
              show some (wd z 1) = numOf z
              unfold numOf
              rw [if_pos q]
            · rw [if_neg hn]
              by_cases hlt : n < ys.length
              · rw [if_pos hlt]
              · rw [if_neg hlt, List.getElem?_eq_none (by omega), List.getElem?_eq_none (by simp; omega)]
          · show askS (if decide (V.str (hw z) = V.str "num") = true then st'.2 ++ [(ys.length, wd z 1)] else st'.2) (n : Int) = _
            rw [if_neg q, i2 n]
            by_cases hlt : n < ys.length
            · rw [if_pos hlt]
            · rw [if_neg hlt, List.getElem?_eq_none (by omega)]
              have e0 : numOf z = none := by
                unfold numOf
                rw [if_neg q]
              cases hm : n - ys.length with
              | zero => exact e0.symm
              | succ m => simp
        · rw [← h] at hc
          unfold rnew at hc
          have hc : c ∈ (if decide (V.str (hw z) = V.str "num") = true then st'.2 ++ [(ys.length, wd z 1)] else st'.2) := hc
          split at hc
          · rcases List.mem_append.mp hc with q | q
            · have := i3 c q
              omega
            · rw [List.mem_singleton.mp q]
              show ys.length < l + 1
              omega
          · have := i3 c hc
            omega
/-- the first four signs -/
def isNum4 (z : Str) : Bool := decide (V.str (cutS z none (some 4)) = V.str "num ")
def notNum (z : Str) : Bool := !isNum4 z && (!decide (V.str (hw z) = V.str "num"))
def notRead (z : Str) : Bool := !decide (V.str (hw z) = V.str "read")
theorem q_plain : PLAIN.all (fun z => notNum z && notRead z) = true := by decide +kernel
theorem q_rd : NAMES.all (fun n => notNum (tRd n)) = true := by decide +kernel
theorem q_lk : NAMES.all (fun n => notNum (tLk n) && notRead (tLk n)) = true := by decide +kernel
theorem q_mk : NAMES.all (fun n => notNum (tMk n) && notRead (tMk n)) = true := by decide +kernel
theorem q_nm : NAMES.all (fun n => isNum4 (tNm n) && notRead (tNm n)) = true := by decide +kernel
theorem q_us : NAMES.all (fun a => NAMES.all fun b => notNum (tUs a b) && notRead (tUs a b)) = true := by decide +kernel
theorem q_ev : NUMS.all (fun k => notNum (tEv k) && notRead (tEv k)) = true := by decide +kernel
theorem q_sm : NUMS.all (fun j => NUMS.all fun k => notNum (tSm j k) && notRead (tSm j k)) = true := by decide +kernel
theorem q_nil : isNum4 "" = false := by decide +kernel
theorem numOf_nm {n : Str} (h : n ∈ NAMES) : numOf (tNm n) = some n := by
  unfold numOf
  rw [(g_nm h).hw, (g_nm h).wd]
  rfl
theorem readOf_rd {n : Str} (h : n ∈ NAMES) : readOf (tRd n) = some n := by
  unfold readOf
  rw [(g_rd h).hw, (g_rd h).wd]
  rfl
theorem nn {z : Str} (h : notNum z = true) : isNum4 z = false ∧ numOf z = none := by
  unfold notNum at h
  have q := Bool.and_eq_true_iff.mp h
  have q1 : isNum4 z = false := by simpa using q.1
  have q2 : decide (V.str (hw z) = V.str "num") = false := by simpa using q.2
  exact ⟨q1, by unfold numOf; rw [q2]; rfl⟩
theorem nr {z : Str} (h : notRead z = true) : readOf z = none := by
  unfold notRead at h
  have q2 : decide (V.str (hw z) = V.str "read") = false := by simpa using h
  unfold readOf
  rw [q2]
  rfl
/-- what a drawn step is, asked by its first signs -/
theorem rs_num {z : Str} (h : Rs z) : (isNum4 z = false ∧ numOf z = none) ∨ ∃ n ∈ NAMES, z = tNm n ∧ isNum4 z = true ∧ numOf z = some n := by
  cases h with
  | plain h => exact .inl (nn (Bool.and_eq_true_iff.mp (List.all_eq_true.mp q_plain _ h)).1)
  | @rd n h => exact .inl (nn (List.all_eq_true.mp q_rd _ h))
  | @lk n h => exact .inl (nn (Bool.and_eq_true_iff.mp (List.all_eq_true.mp q_lk n h)).1)
  | @mk n h => exact .inl (nn (Bool.and_eq_true_iff.mp (List.all_eq_true.mp q_mk n h)).1)
  | @nm n h => exact .inr ⟨n, h, rfl, (Bool.and_eq_true_iff.mp (List.all_eq_true.mp q_nm n h)).1, numOf_nm h⟩
  | @us a b ha hb => exact .inl (nn (Bool.and_eq_true_iff.mp (List.all_eq_true.mp (List.all_eq_true.mp q_us a ha) b hb)).1)
  | @ev k h => exact .inl (nn (Bool.and_eq_true_iff.mp (List.all_eq_true.mp q_ev k h)).1)
  | @sm j k hj hk => exact .inl (nn (Bool.and_eq_true_iff.mp (List.all_eq_true.mp (List.all_eq_true.mp q_sm j hj) k hk)).1)
theorem rs_read {z : Str} (h : Rs z) : readOf z = none ∨ ∃ n ∈ NAMES, z = tRd n ∧ readOf z = some n := by
  cases h with
  | plain h => exact .inl (nr (Bool.and_eq_true_iff.mp (List.all_eq_true.mp q_plain _ h)).2)
  | @rd n h => exact .inr ⟨n, h, rfl, readOf_rd h⟩
  | @lk n h => exact .inl (nr (Bool.and_eq_true_iff.mp (List.all_eq_true.mp q_lk n h)).2)
  | @mk n h => exact .inl (nr (Bool.and_eq_true_iff.mp (List.all_eq_true.mp q_mk n h)).2)
  | @nm n h => exact .inl (nr (Bool.and_eq_true_iff.mp (List.all_eq_true.mp q_nm n h)).2)
  | @us a b ha hb => exact .inl (nr (Bool.and_eq_true_iff.mp (List.all_eq_true.mp (List.all_eq_true.mp q_us a ha) b hb)).2)
  | @ev k h => exact .inl (nr (Bool.and_eq_true_iff.mp (List.all_eq_true.mp q_ev k h)).2)
  | @sm j k hj hk => exact .inl (nr (Bool.and_eq_true_iff.mp (List.all_eq_true.mp (List.all_eq_true.mp q_sm j hj) k hk)).2)
theorem mem_read {zs : List Str} {st : Rst} (hst : Stp zs) (hr : rrun 0 ([], []) zs = some st) {s : Str} (hs : s ∈ NAMES) : s ∈ st.1 ↔ tRd s ∈ zs := by
  rw [(run_inv zs st hr).1 s]
  constructor
  · rintro ⟨z, hz, q⟩
    rcases rs_read (hst z hz) with e | ⟨n, hn, e1, e2⟩
    · rw [e] at q
      cases q
    · rw [e2] at q
      rw [← Option.some.inj q, ← e1]
      exact hz
  · intro h
    exact ⟨_, h, readOf_rd hs⟩
/-- the text at a number ahead -/
def lookN (zs : List Str) (i : Nat) (n : Int) : Str := if decide (n < i) = true then zs.getD n.toNat "" else ""
theorem look_ask {zs : List Str} {i : Nat} {st : Rst} (hst : Stp zs) (hi : i ≤ zs.length) (hr : rrun 0 ([], []) (zs.take i) = some st) {n : Int} (h0 : 0 ≤ n) :
    (isNum4 (lookN zs i n) = false ∧ askS st.2 n = none) ∨ ∃ c ∈ NAMES, lookN zs i n = tNm c ∧ isNum4 (lookN zs i n) = true ∧ askS st.2 n = some c := by
  have ri := (run_inv _ st hr).2.1 n.toNat
  have en : ((n.toNat : Nat) : Int) = n := by omega
  rw [en] at ri
  by_cases h : n < i
  · have hl : n.toNat < zs.length := by omega
    have e1 : lookN zs i n = zs[n.toNat] := by
      unfold lookN
      rw [if_pos (decide_eq_true h), List.getD_eq_getElem?_getD, List.getElem?_eq_getElem hl]
      rfl
    have e2 : askS st.2 n = numOf zs[n.toNat] := by
      rw [ri, List.getElem?_take, if_pos (by omega), List.getElem?_eq_getElem hl]
      rfl
    rw [e1, e2]
    rcases rs_num (hst _ (List.getElem_mem hl)) with q | ⟨c, hc, q1, q2, q3⟩
    · exact .inl q
    · exact .inr ⟨c, hc, q1, q2, q3⟩
  · have e1 : lookN zs i n = "" := by
      unfold lookN
      rw [if_neg (by rw [decide_eq_false h]; exact Bool.false_ne_true)]
    have e2 : askS st.2 n = none := by
      rw [ri, List.getElem?_take, if_neg (by omega)]
      rfl
    rw [e1, e2]
    exact .inl ⟨q_nil, rfl⟩
theorem nm_inj {a b : Str} (ha : a ∈ NAMES) (hb : b ∈ NAMES) (h : tNm a = tNm b) : a = b := by
  have q := numOf_nm ha
  rw [h, numOf_nm hb] at q
  exact (Option.some.inj q).symm
/-- the law's word on a check -/
def chkBad (zs : List Str) (i : Nat) (ns : List Int) : Bool := (ns.map (lookN zs i)).any (fun y => !isNum4 y) || (!decide (V.str ((ns.map (lookN zs i)).headD "") = V.str ((ns.map (lookN zs i)).getLastD "")) || (decide (ns.length = 2) && decide (ns.getD 1 0 ≤ ns.getD 0 0)))
theorem chk_ev {zs : List Str} {i : Nat} {st : Rst} (hst : Stp zs) (hi : i ≤ zs.length) (hr : rrun 0 ([], []) (zs.take i) = some st) (k : Nat) : chkBad zs i [(k : Int)] = !cmpR [(k : Int)] st.2 := by
  rw [cmp_ev]
  unfold chkBad
  rcases look_ask hst hi hr (n := (k : Int)) (by omega) with ⟨q1, q2⟩ | ⟨c, hc, q0, q1, q2⟩
  · simp [q1, q2]
  · simp [q1, q2]
theorem chk_sm {zs : List Str} {i : Nat} {st : Rst} (hst : Stp zs) (hi : i ≤ zs.length) (hr : rrun 0 ([], []) (zs.take i) = some st) (j k : Nat) : chkBad zs i [(j : Int), (k : Int)] = !cmpR [(j : Int), (k : Int)] st.2 := by
  rw [cmp_sm]
  unfold chkBad
  have ejk : decide (([(j : Int), (k : Int)] : List Int).getD 1 0 ≤ ([(j : Int), (k : Int)] : List Int).getD 0 0) = !decide (j < k) := by
    show decide ((k : Int) ≤ j) = _
    by_cases h : j < k
    · rw [decide_eq_true h, decide_eq_false (by omega)]
      rfl
    · rw [decide_eq_false h, decide_eq_true (by omega)]
      rfl
  rw [ejk]
  rcases look_ask hst hi hr (n := (j : Int)) (by omega) with ⟨q1, q2⟩ | ⟨c, hc, q0, q1, q2⟩
  · simp [q1, q2]
  · rcases look_ask hst hi hr (n := (k : Int)) (by omega) with ⟨r1, r2⟩ | ⟨d, hd, r0, r1, r2⟩
    · simp [q1, q2, r1, r2]
    · have e : decide (V.str (tNm c) = V.str (tNm d)) = decide (c = d) := by
        by_cases h : c = d
        · subst h
          simp
        · rw [decide_eq_false h, decide_eq_false (fun z => h (nm_inj hc hd (by injection z)))]
      have h1 : (([(j : Int), (k : Int)] : List Int).map (lookN zs i)).headD "" = tNm c := q0
      have h2 : (([(j : Int), (k : Int)] : List Int).map (lookN zs i)).getLastD "" = tNm d := r0
      rw [h1, h2, e]
      simp [q1, q2, r1, r2]
      by_cases hcd : c = d <;> by_cases hjk : j < k <;> simp [hcd, hjk]
end My

set_option Elab.async false
set_option linter.all false
set_option maxRecDepth 100000
set_option maxHeartbeats 2000000
namespace My
open PySem L2

abbrev sIr : Stmt := top 43
abbrev NIr : List Str := ["texts", "spot", "text", "words", "ahead", "some", "one"]
theorem scIr : FnScope ["texts", "spot", "text", "words", "ahead", "some", "one"] ["texts"] (defScope sIr) := ⟨rfl, rfl, rfl, by decide +kernel, rfl, by decide +kernel, by decide +kernel⟩
/-- _law_is_reader(texts) -/
def spIr (K : PySem.W.Frag) : Sp := fun vs H Q _ => ∃ (a : Addr) (zs : List Str), vs = [.ref a] ∧ SqL K H a (zs.map V.str) ∧ zs.length ≤ 14 ∧ Stp zs ∧ ∀ H', Same H H' → Q (.bl (scrT zs)) H'
theorem go_bad {zs : List Str} {i : Nat} {z : Str} {st : Rst} (hz : zs[i]? = some z) (hr : rrun 0 ([], []) (zs.take i) = some st) (hb : rbad st z = true) : goR zs = false := by
  have key : ∀ (ys : List Str) (n : Nat) (s : Rst) (i : Nat), ys[i]? = some z → rrun n s (ys.take i) = some st → rrun n s ys = none := by
    intro ys
    induction ys with
    | nil => intro n s i h; cases h
    | cons y r ih =>
      intro n s i h hr
      cases i with
      | zero =>
        have h : some y = some z := h
        cases h
        have hr : some s = some st := hr
        cases hr
        exact if_pos hb
      | succ i =>
        have hr : (if rbad s y = true then none else rrun (n + 1) (rnew n s y) (r.take i)) = some st := hr
        show (if rbad s y = true then none else rrun (n + 1) (rnew n s y) r) = none
        split at hr
        · cases hr
        · rename_i q
          rw [if_neg q]
          exact ih (n + 1) _ i h hr
  unfold goR
  rw [key zs 0 ([], []) i hz hr]
  rfl
theorem run_take {zs : List Str} {i : Nat} {z : Str} {st : Rst} (hz : zs[i]? = some z) (hr : rrun 0 ([], []) (zs.take i) = some st) (hb : rbad st z = false) : rrun 0 ([], []) (zs.take (i + 1)) = some (rnew i st z) := by
  have hl : i < zs.length := (List.getElem?_eq_some_iff.mp hz).1
  rw [List.take_add_one, hz]
  show rrun 0 ([], []) (zs.take i ++ [z]) = _
  rw [rrun_snoc, hr]
  show (if rbad st z = true then none else some (rnew (0 + (zs.take i).length) st z)) = _
  rw [if_neg (by rw [hb]; exact Bool.false_ne_true), Nat.zero_add, List.length_take, Nat.min_eq_left (by omega)]
/-- what the words of a drawn step say -/
theorem rs_words {z : Str} (h : Rs z) : (decide (V.str (hw z) = V.str "read") = true → ∃ n ∈ NAMES, z = tRd n ∧ wd z 1 = n) ∧ (inV (.str (hw z)) [.str "use", .str "look"] = true → wd z 1 ∈ NAMES ∧ 1 < (Txt.split z " ").length) ∧ (decide (V.str (hw z) = V.str "mark") = true → wd z 2 ∈ NAMES ∧ 2 < (Txt.split z " ").length) ∧
    (isChk z = true → (∃ k, k ∈ NUMS ∧ z = tEv k) ∨ ∃ j k, j ∈ NUMS ∧ k ∈ NUMS ∧ z = tSm j k) := by
  have key : ∀ {w : Str} {ws : List Str} {ns : List Int} {a b c d e : Bool}, Good z (w :: ws) ns → flags w = (a, b, c, d, e) → decide (V.str (hw z) = V.str "read") = b ∧ inV (.str (hw z)) [.str "use", .str "look"] = c ∧ decide (V.str (hw z) = V.str "mark") = d ∧ isChk z = a := fun g hf => by
    obtain ⟨q1, q2, q3, q4, _⟩ := fl hf
    unfold isChk
    rw [g.hw]
    exact ⟨q2, q3, q4, q1⟩
  cases h with
  | plain h =>
    have q := List.all_eq_true.mp pl_ne z h
    simp only [Bool.and_eq_true, Bool.not_eq_true'] at q
    obtain ⟨q1, q2, q3, q4, q5⟩ := q
    rw [q1, q2, q3, q4]
    exact ⟨nofun, nofun, nofun, nofun⟩
  | @rd n h =>
    obtain ⟨q1, q2, q3, q4⟩ := key (g_rd h) f_read
    rw [q2, q3, q4]
    exact ⟨fun _ => ⟨n, h, rfl, (g_rd h).wd 1⟩, nofun, nofun, nofun⟩
  | @lk n h =>
    obtain ⟨q1, q2, q3, q4⟩ := key (g_lk h) f_look
    rw [q1, q3, q4]
    exact ⟨nofun, fun _ => ⟨by rw [(g_lk h).wd 1]; exact h, by rw [(g_lk h).sp]; show 1 < 2; decide⟩, nofun, nofun⟩
  | @mk n h =>
    obtain ⟨q1, q2, q3, q4⟩ := key (g_mk h) f_mark
    rw [q1, q2, q4]
    exact ⟨nofun, nofun, fun _ => ⟨by rw [(g_mk h).wd 2]; exact h, by rw [(g_mk h).sp]; show 2 < 3; decide⟩, nofun⟩
  | @nm n h =>
    obtain ⟨q1, q2, q3, q4⟩ := key (g_nm h) f_num
    rw [q1, q2, q3, q4]
    exact ⟨nofun, nofun, nofun, nofun⟩
  | @us a b ha hb =>
    obtain ⟨q1, q2, q3, q4⟩ := key (g_us ha hb) f_use
    rw [q1, q3, q4]
    exact ⟨nofun, fun _ => ⟨by rw [(g_us ha hb).wd 1]; exact ha, by rw [(g_us ha hb).sp]; show 1 < 3; decide⟩, nofun, nofun⟩
  | @ev k h =>
    obtain ⟨q1, q2, q3, q4⟩ := key (g_ev h) f_even
    rw [q1, q2, q3]
    exact ⟨nofun, nofun, nofun, fun _ => .inl ⟨k, h, rfl⟩⟩
  | @sm j k hj hk =>
    obtain ⟨q1, q2, q3, q4⟩ := key (g_sm hj hk) f_same
    rw [q1, q2, q3]
    exact ⟨nofun, nofun, nofun, fun _ => .inr ⟨j, k, hj, hk, rfl⟩⟩
theorem chk_is {zs : List Str} {i : Nat} {z : Str} {st : Rst} (hst : Stp zs) (hi : i ≤ zs.length) (hr : rrun 0 ([], []) (zs.take i) = some st) (hz : Rs z) (hc : isChk z = true) : chkBad zs i (numsS z) = !cmpR (numsS z) st.2 := by
  rcases (rs_words hz).2.2.2 hc with ⟨k, hk, rfl⟩ | ⟨j, k, hj, hk, rfl⟩
  · rw [(g_ev hk).nums]
    exact chk_ev hst hi hr k
  · rw [(g_sm hj hk).nums]
    exact chk_sm hst hi hr j k
section
variable {P : Program} {w : World} {K : PySem.W.Frag} {mg : Str → Option Value} {base : Heap}
theorem ok_ir {f : Addr} {fd : FuncData} (F : Fun K "_law_is_reader" "_law_is_reader" sIr f fd) (z_enumerate : mg "enumerate" = none) (z_int : mg "int" = none) (z_len : mg "len" = none) :
    FnOk P w K mg base CX0 1 f fd ["texts"] (spIr K) := by
  refine F.ok scIr (fun vs H Q E h => ?_) (fun cdv A outer s H vs Q E hr h => ?_)
  · obtain ⟨_, _, rfl, _⟩ := h
    rfl
  obtain ⟨a, zs, rfl, hS, h14, hst, k⟩ := h
  have hl14 : (zs.map V.str).length = zs.length := List.length_map ..
  refine ⟨_, (pss_cons (ps_for PassesOwn.never rfl (pi_enum (by rfl) z_enumerate (pa_cons (pv 0) pa_nil)) (pg_tup rfl (pgs_cons (pg_name (i := 1) scIr.nd rfl (.inr rfl)) (pgs_cons (pg_name (i := 2) scIr.nd rfl (.inl rfl)) pgs_nil))) (pss_cons (ps_asg (pe_tup (pa_cons (pe_split (pv 2) pe_str) (pa_cons (pe_slice sl_list (pv 0) po_none (po_some (pv 1))) pa_nil))) (pg_tup rfl (pgs_cons (pg_name (i := 3) scIr.nd rfl (.inl rfl)) (pgs_cons (pg_name (i := 4) scIr.nd rfl (.inr rfl)) pgs_nil))))
    (pss_cons (ps_if (PW.pt (pw_and (pt_cmpR op_eq (pe_ix ix_list (pv 3) pe_int (fun _ _ => rfl)) pe_str (nomark _)) (pw_and1 (pt_cmpR op_in_seq (pv 2) (pv 4) (by with_unfolding_all rfl))))) (pss_one (ps_ret pe_bl)) pss_nil)
    (pss_cons (ps_if (PW.pt (pw_and (pt_cmpR op_in_seq (pe_ix ix_list (pv 3) pe_int (fun _ _ => rfl)) (pe_tup (pa_cons pe_str (pa_cons pe_str pa_nil))) (by with_unfolding_all rfl)) (pw_and1 (pt_cmpR op_notIn_seq (pe_op op_add_str pe_str (pe_ix ix_list (pv 3) pe_int (fun _ _ => rfl))) (pv 4) (by with_unfolding_all rfl))))) (pss_one (ps_ret pe_bl)) pss_nil)
    (pss_cons (ps_if (PW.pt (pw_and (pt_cmpR op_eq (pe_ix ix_list (pv 3) pe_int (fun _ _ => rfl)) pe_str (nomark _)) (pw_and1 (pt_cmpR op_notIn_seq (pe_op op_add_str pe_str (pe_ix ix_list (pv 3) pe_int (fun _ _ => rfl))) (pv 4) (by with_unfolding_all rfl))))) (pss_one (ps_ret pe_bl)) pss_nil)
    (pss_one (ps_if (pt_cmpR op_in_seq (pe_ix ix_list (pv 3) pe_int (fun _ _ => rfl)) (pe_tup (pa_cons pe_str (pa_cons pe_str pa_nil))) (by with_unfolding_all rfl)) (pss_cons (ps_setLc (i := 5) (own := [("one", 6)]) (g := gName 6) (tt := tYes) rfl scIr.nd rfl rfl (sw_true rfl rfl rfl (by decide +kernel)) (pi_list (pe_slice sl_list (pv 3) (po_some pe_int) po_none)) (blkOk_by (own := [("one", 6)]) (N := NIr) (sc := defScope sIr) (by decide +kernel)) (fun _ _ _ _ _ => (pg_name (i := 6) scIr.nd rfl (Or.inl rfl))) (fun _ _ _ _ _ => pts_nil) (fun _ _ _ _ _ => (pe_ifExp (pt_cmpR op_lt (pe_callTy call_int_str rfl z_int (by decide +kernel) (pa_cons (pv 6) pa_nil)) (pv 1) (nomark _)) (pe_ix (ix_listK (K := K) rfl) (pv 4) (pe_callTy call_int_str rfl z_int (by decide +kernel) (pa_cons (pv 6) pa_nil)) (fun _ _ => rfl)) pe_str)))
      (pss_cons (ps_if (PW.pt (pw_or (pt_cmpR (op_neD hr.units) (pe_lc (own := [("one", 6)]) (g := gName 6) rfl scIr.nd (pi_list (pv 5)) (blkOk_by (own := [("one", 6)]) (N := NIr) (sc := defScope sIr) (by decide +kernel)) (fun _ _ _ _ _ => (pg_name (i := 6) scIr.nd rfl (Or.inl rfl))) (fun _ _ _ _ _ => (pts_one (pt_cmpR op_ne (pe_slice sl_str (pv 6) po_none (po_some pe_int)) pe_str (nomark _)))) (fun _ _ _ _ _ => pe_int)) (pe_lst pa_nil) (nomark _)) (pw_or1 (pt_cmpR op_ne (pe_ix ix_list (pv 5) pe_int (fun _ _ => rfl)) (pe_ix ix_list (pv 5) (pe_un un_neg pe_int) (fun _ _ => rfl)) (nomark _))))) (pss_one (ps_ret pe_bl)) pss_nil)
      (pss_one (ps_if (PW.pt (pw_and (pt_cmpR op_eq (pe_callB call_len_seq rfl z_len (by decide +kernel) (pa_cons (pv 3) pa_nil)) pe_int (nomark _)) (pw_and1 (pt_cmpR op_ge (pe_callTy call_int_str rfl z_int (by decide +kernel) (pa_cons (pe_ix ix_list (pv 3) pe_int (fun _ _ => rfl)) pa_nil)) (pe_callTy call_int_str rfl z_int (by decide +kernel) (pa_cons (pe_ix ix_list (pv 3) pe_int (fun _ _ => rfl)) pa_nil)) (nomark _))))) (pss_one (ps_ret pe_bl)) pss_nil)))) pss_nil)))))))
  (pss_one (ps_ret (pe_cmpR (op_neD hr.units) (pv 0) (pe_lst pa_nil) (nomark _))))), ?_⟩
  refine ⟨_, rfl, a, zs.map V.str, rfl, hS, ?_⟩
  refine for_it (walk_enum (K := K) (a := a) (xs := zs.map V.str)) (fun i σ H1 => ∃ (v1 v2 v3 v4 v5 v6 : Option V) (st : Rst), σ = [some (.ref a), v1, v2, v3, v4, v5, v6] ∧ Same H H1 ∧ rrun 0 ([], []) (zs.take i) = some st) ⟨none, none, none, none, none, none, ([], []), rfl, fun _ _ h => h, rfl⟩
    (fun i σ H1 _ ⟨_, _, _, _, _, _, _, _, s1, _⟩ => Same.seqLx s1 hS) ?_ ?_
  · rintro i x σ H1 H2 hi ⟨v1, v2, v3, v4, v5, v6, st, rfl, s1, er⟩ ⟨T, x, y, rfl, hT, rfl, hx, hy⟩
    obtain ⟨z, hz1, rfl⟩ := strs_at hy
    have hx : some (V.int (i : Nat)) = some x := hx
    cases hx
    have hil : i < zs.length := (List.getElem?_eq_some_iff.mp hz1).1
    have hzs : Rs z := hst z (List.mem_of_getElem? hz1)
    have sok := hzs.stepOk
    have hzl := sok.1
    obtain ⟨wR, wU, wM, wC⟩ := rs_words hzs
    have stt : Stp (zs.take i) := fun y hy => hst y (List.mem_of_mem_take hy)
    have sT : Same H (upd H1 T (.tup [.int (i : Nat), .str z])) := s1.trans (Same.new hT)
    refine ⟨T, [.int (i : Nat), .str z], rfl, .inl (.inl upd_same), rfl, _, _, rfl, _, _, rfl, rfl, ?_⟩
    generalize upd H1 T (.tup [.int (i : Nat), .str z]) = H2 at sT ⊢
    clear s1 hT hy
    refine ⟨_, rfl, ⟨z, rfl⟩, z, " ", rfl, rfl, rfl, hzl, fun p hp => ?_⟩
    have s3 : Same H (upd H2 p (.lst ((Txt.split z " ").map V.str))) := sT.trans (Same.new hp)
    have e3 : (upd H2 p (.lst ((Txt.split z " ").map V.str))) p = some (.lst ((Txt.split z " ").map V.str)) := upd_same
    generalize upd H2 p (.lst ((Txt.split z " ").map V.str)) = H3 at s3 e3 ⊢
    refine ⟨_, rfl, _, rfl, i, rfl, a, _, rfl, Same.seqLx s3 hS, fun q hq => ?_⟩
    rw [cut_take, ← List.map_take]
    have s4 := s3.trans (Same.new (o := .lst ((zs.take i).map V.str)) hq)
    have e4 := Same.new (o := .lst ((zs.take i).map V.str)) hq _ _ e3
    have q4 : (upd H3 q (.lst ((zs.take i).map V.str))) q = some (.lst ((zs.take i).map V.str)) := upd_same
    generalize upd H3 q (.lst ((zs.take i).map V.str)) = H4 at s4 e4 q4 ⊢
    clear s3 e3 sT
    refine ⟨(by show 2 ≤ sizeLine; decide), fun U hU => ?_⟩
    have s5 := s4.trans (Same.new (o := .tup [.ref p, .ref q]) hU)
    have e5 := Same.new (o := .tup [.ref p, .ref q]) hU _ _ e4
    have q5 := Same.new (o := .tup [.ref p, .ref q]) hU _ _ q4
    refine ⟨U, [.ref p, .ref q], rfl, .inl (.inl upd_same), rfl, _, _, rfl, _, _, rfl, rfl, ?_⟩
    generalize upd H4 U (.tup [.ref p, .ref q]) = H5 at s5 e5 q5 ⊢
    clear s4 e4 q4 hp hq hU
    dsimp only
    have bad : rbad st z = true → ∀ H', Same H H' → Q (.bl false) H' := fun hb H' s' => by
      have q := k H' s'
      rw [scrT_of hst, go_bad hz1 er hb, Bool.and_false] at q
      exact q
    -- read
    refine seq_first (fun σ H6 => σ = [some (.ref a), some (.int (i : Nat)), some (.str z), some (.ref p), some (.ref q), v5, v6] ∧ Same H H6 ∧ H6 p = some (.lst ((Txt.split z " ").map V.str)) ∧ H6 q = some (.lst ((zs.take i).map V.str)) ∧ (decide (V.str (hw z) = V.str "read") && decide (wd z 1 ∈ st.1)) = false) ?r2 fun r2 => ?t2
    case t2 =>
      refine ⟨_, rfl, p, _, 0, .str (hw z), rfl, rfl, SqL.of e5, at_hw z, rfl, _, rfl, ?_⟩
      refine ite3 (fun h => ?_) (fun h => ifF rfl (r2 _ _ ⟨rfl, s5, e5, q5, by rw [h]; rfl⟩))
      obtain ⟨n, hn, ezn, ewn⟩ := wR h
      refine ⟨_, rfl, _, rfl, q, _, rfl, .inl (SqL.of q5), rfl, flat_strs _, _, rfl, ?_⟩
      show if inV (.str z) ((zs.take i).map V.str) = true then _ else _
      rw [in_strs]
      have em : decide (z ∈ zs.take i) = decide (wd z 1 ∈ st.1) := by
        rw [ewn, ezn]
        exact decide_eq_decide.mpr (mem_read stt er hn).symm
      rw [em]
      refine ite3 (fun h2 => ?_) (fun h2 => r2 _ _ ⟨rfl, s5, e5, q5, by rw [h2, Bool.and_false]⟩)
      refine bad ?_ _ s5
      unfold rbad
      rw [h, h2, Bool.true_and, Bool.true_or, Bool.or_true]
    clear s5 e5 q5
    rintro σ H5 ⟨rfl, s5, e5, q5, c2⟩
    have text : ∀ n : Str, n ∈ NAMES → decide (tRd n ∈ zs.take i) = decide (n ∈ st.1) := fun n hn => decide_eq_decide.mpr (mem_read stt er hn).symm
    have big : ∀ n : Nat, n ≤ 1000 → n ≤ sizeLine := fun n h => Nat.le_trans h (by decide)
    have l5 : ("read " : Str).length = 5 := by decide +kernel
    -- use, look
    refine seq_first (fun σ H6 => σ = [some (.ref a), some (.int (i : Nat)), some (.str z), some (.ref p), some (.ref q), v5, v6] ∧ Same H H6 ∧ H6 p = some (.lst ((Txt.split z " ").map V.str)) ∧ H6 q = some (.lst ((zs.take i).map V.str)) ∧ (inV (.str (hw z)) [.str "use", .str "look"] && !decide (wd z 1 ∈ st.1)) = false) ?r3 fun r3 => ?t3
    case t3 =>
      refine ⟨_, rfl, p, _, 0, .str (hw z), rfl, rfl, SqL.of e5, at_hw z, (by show 2 ≤ sizeLine; decide), fun U hU => ?_⟩
      have s6 := Same.new (o := .tup [.str "use", .str "look"]) hU
      refine ⟨U, _, rfl, .inr (.inl (.inl upd_same)), rfl, rfl, _, rfl, ?_⟩
      generalize upd H5 U (.tup [.str "use", .str "look"]) = H6 at s6 ⊢
      show if inV (.str (hw z)) [.str "use", .str "look"] = true then _ else _
      refine ite3 (fun h => ?_) (fun h => ifF rfl (r3 _ _ ⟨rfl, s5.trans s6, s6 _ _ e5, s6 _ _ q5, by rw [h]; rfl⟩))
      obtain ⟨hn, hl⟩ := wU h
      have hn4 := nle hn
      refine ⟨_, rfl, p, _, 1, .str (wd z 1), rfl, rfl, SqL.of (s6 _ _ e5), at_wd (i := 1) hl, "read ", wd z 1, rfl, rfl, big _ (by rw [l5]; omega), _, rfl, q, _, rfl, .inl (SqL.of (s6 _ _ q5)), rfl, flat_strs _, _, rfl, ?_⟩
      show if (!inV (.str (tRd (wd z 1))) ((zs.take i).map V.str)) = true then _ else _
      rw [in_strs, text _ hn]
      refine ite3 (fun h2 => ?_) (fun h2 => r3 _ _ ⟨rfl, s5.trans s6, s6 _ _ e5, s6 _ _ q5, by rw [h2, Bool.and_false]⟩)
      refine bad ?_ _ (s5.trans s6)
      unfold rbad
      rw [h, h2, Bool.true_and, Bool.true_or, Bool.or_true, Bool.or_true]
    clear s5 e5 q5
    rintro σ H5 ⟨rfl, s5, e5, q5, c3⟩
    -- mark
    refine seq_first (fun σ H6 => σ = [some (.ref a), some (.int (i : Nat)), some (.str z), some (.ref p), some (.ref q), v5, v6] ∧ Same H H6 ∧ H6 p = some (.lst ((Txt.split z " ").map V.str)) ∧ H6 q = some (.lst ((zs.take i).map V.str)) ∧ (decide (V.str (hw z) = V.str "mark") && !decide (wd z 2 ∈ st.1)) = false) ?r4 fun r4 => ?t4
    case t4 =>
      refine ⟨_, rfl, p, _, 0, .str (hw z), rfl, rfl, SqL.of e5, at_hw z, rfl, _, rfl, ?_⟩
      refine ite3 (fun h => ?_) (fun h => ifF rfl (r4 _ _ ⟨rfl, s5, e5, q5, by rw [h]; rfl⟩))
      obtain ⟨hn, hl⟩ := wM h
      have hn4 := nle hn
      refine ⟨_, rfl, p, _, 2, .str (wd z 2), rfl, rfl, SqL.of e5, at_wd (i := 2) hl, "read ", wd z 2, rfl, rfl, big _ (by rw [l5]; omega), _, rfl, q, _, rfl, .inl (SqL.of q5), rfl, flat_strs _, _, rfl, ?_⟩
      show if (!inV (.str (tRd (wd z 2))) ((zs.take i).map V.str)) = true then _ else _
      rw [in_strs, text _ hn]
      refine ite3 (fun h2 => ?_) (fun h2 => r4 _ _ ⟨rfl, s5, e5, q5, by rw [h2, Bool.and_false]⟩)
      refine bad ?_ _ s5
      unfold rbad
      rw [h, h2, Bool.true_and, Bool.or_true, Bool.or_true, Bool.or_true]
    clear s5 e5 q5
    rintro σ H5 ⟨rfl, s5, e5, q5, c4⟩
    clear wR wU wM text
    refine ⟨_, rfl, p, _, 0, .str (hw z), rfl, rfl, SqL.of e5, at_hw z, (by show 2 ≤ sizeLine; decide), fun U hU => ?_⟩
    have s6 := s5.trans (Same.new (o := .tup [.str "same", .str "even"]) hU)
    have e6 := Same.new (o := .tup [.str "same", .str "even"]) hU _ _ e5
    have q6 := Same.new (o := .tup [.str "same", .str "even"]) hU _ _ q5
    refine ⟨U, _, rfl, .inr (.inl (.inl upd_same)), rfl, rfl, _, rfl, ?_⟩
    generalize upd H5 U (.tup [.str "same", .str "even"]) = H6 at s6 e6 q6 ⊢
    clear s5 e5 q5 hU
    show if isChk z = true then _ else _
    refine ite3 (fun hc => ?_) (fun hc => ?_)
    rotate_left
    · have ok : rbad st z = false := by
        unfold rbad
        rw [hc, c2, c3, c4]
        rfl
      exact ⟨_, _, _, _, _, _, rnew i st z, rfl, s6, run_take hz1 er ok⟩
    have hbad := chk_is hst (Nat.le_of_lt hil) er hzs hc
    have rb : rbad st z = chkBad zs i (numsS z) := by
      unfold rbad
      rw [hc, c2, c3, c4, hbad, Bool.or_false, Bool.or_false, Bool.or_false, Bool.true_and]
    have rb : rbad st z = ((((numsS z).map (lookN zs i)).any (fun y => !isNum4 y)) || (!decide (V.str (((numsS z).map (lookN zs i)).headD "") = V.str (((numsS z).map (lookN zs i)).getLastD "")) || (decide ((numsS z).length = 2) && decide ((numsS z).getD 1 0 ≤ (numsS z).getD 0 0)))) := rb
    obtain ⟨nne, n10⟩ := chk_nums sok.2.1 hc
    obtain ⟨hw1, hw10⟩ := sok.2.2 hc
    have nns := hzs.num
    have en : numsS z = ((Txt.split z " ").drop 1).map valS := by
      unfold numsS
      rw [hc]
      rfl
    have lz : ∀ n : Int, (lookN zs i n).length ≤ 20 := fun n => by
      unfold lookN
      by_cases h : n < i
      · rw [if_pos (decide_eq_true h)]
        by_cases h2 : n.toNat < zs.length
        · rw [List.getD_eq_getElem?_getD, List.getElem?_eq_getElem h2]
          obtain ⟨ws, ns, g⟩ := (hst _ (List.getElem_mem h2)).good
          exact g.len
        · rw [List.getD_eq_getElem?_getD, List.getElem?_eq_none (by omega)]
          decide +kernel
      · rw [if_neg (by rw [decide_eq_false h]; exact Bool.false_ne_true)]
        decide +kernel
    -- some = ..
    refine ⟨_, rfl, 1, rfl, p, _, rfl, SqL.of e6, fun q2 hq2 => ?_⟩
    rw [cut_one, ← List.map_drop]
    have s7 := s6.trans (Same.new (o := .lst (((Txt.split z " ").drop 1).map V.str)) hq2)
    have e7 := Same.new (o := .lst (((Txt.split z " ").drop 1).map V.str)) hq2 _ _ e6
    have q7 := Same.new (o := .lst (((Txt.split z " ").drop 1).map V.str)) hq2 _ _ q6
    have w7 : (upd H6 q2 (.lst (((Txt.split z " ").drop 1).map V.str))) q2 = some (.lst (((Txt.split z " ").drop 1).map V.str)) := upd_same
    generalize upd H6 q2 (.lst (((Txt.split z " ").drop 1).map V.str)) = H7 at s7 e7 q7 w7 ⊢
    clear s6 e6 q6 hq2
    refine ⟨q2, rfl, ⟨_, SqL.of w7⟩, fun D hD => ?_⟩
    refine lc_s (walk_list (K := K) (a := q2)) (fun x => match x with | .str w => some (.str (lookN zs i (valS w))) | _ => none) hD (by rw [List.length_map, List.length_drop]; exact Nat.lt_of_le_of_lt (show _ ≤ 1000 by omega) (by decide)) (fun H' s => SqL.of (s _ _ w7)) ?_ ?_
    · intro x H8 hx s8 OK NO ok no
      obtain ⟨wd0, hwd, rfl⟩ := List.mem_map.mp hx
      obtain ⟨a1, a2⟩ := hw1 wd0 hwd
      have hm : valS wd0 ∈ numsS z := by rw [en]; exact List.mem_map_of_mem hwd
      obtain ⟨p0, p1⟩ := nns _ hm
      have fin := ok (.str (lookN zs i (valS wd0))) H8 (fun _ _ e => e) rfl
      refine ⟨rfl, _, rfl, wd0, valS wd0, rfl, a1, a2, _, rfl, _, _, rfl, rfl, _, rfl, ?_⟩
      refine ite3 (fun h => ?_) (fun h => ?_)
      · have h : valS wd0 < i := of_decide_eq_true h
        have hl2 : (valS wd0).toNat < zs.length := by omega
        have e : lookN zs i (valS wd0) = zs[(valS wd0).toNat] := by
          unfold lookN
          rw [if_pos (decide_eq_true h), List.getD_eq_getElem?_getD, List.getElem?_eq_getElem hl2]
          rfl
        rw [e] at fin
        refine ⟨_, rfl, _, rfl, wd0, valS wd0, rfl, a1, a2, q, _, valS wd0, .str zs[(valS wd0).toNat], rfl, rfl, SqL.of (s8 _ _ q7), ?_, fin⟩
        have q8 := atI_nat (xs := (zs.take i).map V.str) (j := (valS wd0).toNat) (v := V.str zs[(valS wd0).toNat]) (by rw [List.getElem?_map, List.getElem?_take, if_pos (by omega), List.getElem?_eq_getElem hl2]; rfl)
        have ej : (((valS wd0).toNat : Nat) : Int) = valS wd0 := by omega
        rw [ej] at q8
        exact q8
      · have e : lookN zs i (valS wd0) = "" := by
          unfold lookN
          rw [if_neg (by rw [show decide (valS wd0 < (i : Int)) = false from h]; exact Bool.false_ne_true)]
        rw [e] at fin
        exact fin
    intro H8 s8 e8
    have key : ∀ ws : List Str, (ws.map V.str).filterMap (fun x => match x with | .str w => some (V.str (lookN zs i (valS w))) | _ => none) = ((ws.map valS).map (lookN zs i)).map V.str := fun ws => by
      induction ws with
      | nil => rfl
      | cons x r ih =>
        rw [List.map_cons, List.filterMap_cons, ih]
        rfl
    rw [key, ← en] at e8
    generalize hsm : (numsS z).map (lookN zs i) = sm at e8 rb
    have sml : sm.length = (numsS z).length := by rw [← hsm, List.length_map]
    have smz : ∀ y ∈ sm, y.length ≤ 20 := fun y hy => by
      rw [← hsm] at hy
      obtain ⟨n, _, rfl⟩ := List.mem_map.mp hy
      exact lz n
    have smne : sm ≠ [] := fun z2 => by
      rw [z2] at sml
      exact nne (List.length_eq_zero_iff.mp sml.symm)
    have s9 := s7.trans s8
    have e9 := s8 _ _ e7
    clear s7 s8 e7 q7 w7 hD key lz hw1 c2 c3 c4
    dsimp only
    -- if [1 for ..] != [] or some[0] != some[-1]
    refine seq_first (fun σ H10 => σ = [some (.ref a), some (.int (i : Nat)), some (.str z), some (.ref p), some (.ref q), some (.ref D), v6] ∧ Same H H10 ∧ H10 p = some (.lst ((Txt.split z " ").map V.str)) ∧ sm.any (fun y => !isNum4 y) = false ∧ (!decide (V.str (sm.headD "") = V.str (sm.getLastD ""))) = false) ?r5 fun r5 => ?t5
    case t5 =>
      refine ⟨_, rfl, D, rfl, ⟨_, SqL.of e8⟩, fun D2 hD2 => ?_⟩
      refine lc_s (walk_list (K := K) (a := D)) (fun x => match x with | .str y => if (!isNum4 y) = true then some (.int 1) else none | _ => none) hD2 (by rw [List.length_map]; exact Nat.lt_of_le_of_lt (show sm.length ≤ 1000 by omega) (by decide)) (fun H' s => SqL.of (s _ _ e8)) ?_ ?_
      · intro x H10 hx s10 OK NO ok no
        obtain ⟨y, hy, rfl⟩ := List.mem_map.mp hx
        refine ⟨rfl, _, rfl, 4, rfl, y, rfl, big _ (Nat.le_trans (smz y hy) (by decide)), rfl, _, rfl, ?_⟩
        show if (!isNum4 y) = true then _ else _
        refine ite3 (fun h => ?_) (fun h => ?_)
        · exact ok _ _ (fun _ _ e => e) (if_pos h)
        · exact no _ (fun _ _ e => e) (if_neg (by rw [h]; exact Bool.false_ne_true))
      intro H10 s10 e10
      obtain ⟨ones, eo, ho⟩ : ∃ ones : List Int, (sm.map V.str).filterMap (fun x => match x with | .str y => if (!isNum4 y) = true then some (V.int 1) else none | _ => none) = ones.map V.int ∧ decide (ones = []) = !sm.any (fun y => !isNum4 y) := by
        clear smne smz sml e8 rb hsm r5 e10
        induction sm with
        | nil => exact ⟨[], rfl, rfl⟩
        | cons y r ih =>
          obtain ⟨ones, e1, e2⟩ := ih
          by_cases h : (!isNum4 y) = true
          · refine ⟨1 :: ones, ?_, ?_⟩
            · rw [List.map_cons, List.filterMap_cons, e1]
              simp only [if_pos h]
              rfl
            · rw [List.any_cons, h]
              rfl
          · refine ⟨ones, ?_, ?_⟩
            · rw [List.map_cons, List.filterMap_cons, e1]
              simp only [if_neg h]
            · have h2 : (!isNum4 y) = false := by simpa using h
              rw [List.any_cons, h2, e2]
              rfl
      rw [eo] at e10
      refine ⟨(by show 0 ≤ sizeLine; decide), fun p3 hp3 => ?_⟩
      have s11 := s10.trans (Same.new (o := .lst []) hp3)
      have e11 := Same.new (o := .lst []) hp3 _ _ e10
      have z11 : (upd H10 p3 (.lst [])) p3 = some (.lst []) := upd_same
      generalize upd H10 p3 (.lst []) = H11 at s11 e11 z11 ⊢
      refine ⟨.list (ones.map PyData.int), .list (([] : List Int).map PyData.int), Dp.lst (SqL.of e11) (dp_ints _), Dp.lst (SqL.of z11) .nil, PySem.W.ke_shaped_ints _, PySem.W.ke_shaped_ints [], _, rfl, ?_⟩
      rw [eqv_ints, ho, Bool.not_not]
      refine ite3 (fun h => ?_) (fun h => ?_)
      · refine bad ?_ _ (s9.trans s11)
        rw [rb, h]
        rfl
      obtain ⟨y0, yr, e0⟩ := List.exists_cons_of_ne_nil smne
      have h0 : atI (sm.map V.str) 0 = some (.str (sm.headD "")) := by rw [e0]; exact atI_nat (j := 0) rfl
      have h1 : atI (sm.map V.str) (-1) = some (.str (sm.getLastD "")) := by
        have e2 : sm.map V.str = (sm.dropLast).map V.str ++ [.str (sm.getLast smne)] := by
          conv => lhs; rw [← List.dropLast_concat_getLast smne]
          rw [List.map_append, List.map_singleton]
        have e3 : sm.getLastD "" = sm.getLast smne := by
          rw [List.getLastD_eq_getLast?, List.getLast?_eq_some_getLast smne]
          rfl
        rw [e2, e3]
        exact atI_last _ _
      refine ⟨_, rfl, D, _, 0, _, rfl, rfl, SqL.of (s11 _ _ e8), h0, ?_⟩
      refine ⟨_, rfl, 1, rfl, D, _, _, _, rfl, rfl, SqL.of (s11 _ _ e8), h1, rfl, _, rfl, ?_⟩
      refine ite3 (fun h2 => ?_) (fun h2 => r5 _ _ ⟨rfl, s9.trans s11, s11 _ _ e9, h, h2⟩)
      refine bad ?_ _ (s9.trans s11)
      rw [rb, h2, Bool.true_or, Bool.or_true]
    clear s9 e9 e8
    rintro σ H10 ⟨rfl, s10, e10, b1, b2⟩
    rw [b1, b2, Bool.false_or, Bool.false_or] at rb
    have nl : (numsS z).length = (Txt.split z " ").length - 1 := by rw [en, List.length_map, List.length_drop]
    -- if len(words) == 3 and ..
    refine ⟨_, rfl, p, _, rfl, .inl (SqL.of e10), rfl, _, rfl, ?_⟩
    have el : decide (V.int (((Txt.split z " ").map V.str).length : Nat) = V.int 3) = decide ((numsS z).length = 2) := by
      rw [List.length_map, nl]
      have h1 : 0 < (Txt.split z " ").length := by
        obtain ⟨w0, wr, ew⟩ := split_ne z " "
        rw [ew]
        simp
      by_cases h : (Txt.split z " ").length = 3
      · rw [h]
        rfl
      · rw [decide_eq_false (fun z2 => h (by have := V.int.inj z2; omega)), decide_eq_false (by omega)]
    rw [el]
    refine ite3 (fun h => ?_) (fun h => ?_)
    · have h2 := of_decide_eq_true h
      have l3 : (Txt.split z " ").length = 3 := by omega
      obtain ⟨x0, x1, x2, ex⟩ : ∃ x0 x1 x2, Txt.split z " " = [x0, x1, x2] := by
        match hh : Txt.split z " ", l3 with
        | [x0, x1, x2], _ => exact ⟨x0, x1, x2, rfl⟩
      have en2 : numsS z = [valS x1, valS x2] := by rw [en, ex]; rfl
      have hw1' := (sok.2.2 hc).1
      rw [ex] at hw1'
      obtain ⟨a1, a2⟩ := hw1' x1 (by simp)
      obtain ⟨b1', b2'⟩ := hw1' x2 (by simp)
      have at1 : atI ((Txt.split z " ").map V.str) 1 = some (.str x1) := by rw [ex]; exact atI_nat (j := 1) rfl
      have at2 : atI ((Txt.split z " ").map V.str) 2 = some (.str x2) := by rw [ex]; exact atI_nat (j := 2) rfl
      refine ⟨_, rfl, p, _, 1, _, rfl, rfl, SqL.of e10, at1, x1, valS x1, rfl, a1, a2, ?_⟩
      refine ⟨_, rfl, p, _, 2, _, rfl, rfl, SqL.of e10, at2, x2, valS x2, rfl, b1', b2', _, _, rfl, rfl, _, rfl, ?_⟩
      have e3 : rbad st z = decide (valS x2 ≤ valS x1) := by
        rw [rb, h, en2]
        rfl
      refine ite3 (fun h3 => ?_) (fun h3 => ?_)
      · exact bad (e3.trans h3) _ s10
      · exact ⟨_, _, _, _, _, _, rnew i st z, rfl, s10, run_take hz1 er (e3.trans h3)⟩
    · refine ⟨_, _, _, _, _, _, rnew i st z, rfl, s10, run_take hz1 er ?_⟩
      rw [rb, h]
      rfl
  · rintro σ H1 ⟨v1, v2, v3, v4, v5, v6, st, rfl, s1, er⟩
    rw [hl14, List.take_length] at er
    have hg : goR zs = true := by
      unfold goR
      rw [er]
      rfl
    refine ⟨_, rfl, (by show 0 ≤ sizeLine; decide), fun p hp => ?_⟩
    have s2 : Same H (upd H1 p (.lst [])) := s1.trans (Same.new hp)
    refine ⟨.list (zs.map PyData.str), .list (([] : List Str).map PyData.str), Dp.lst (Same.seqLx s2 hS) (dp_strs zs), Dp.lst (SqL.of upd_same) .nil, shaped_strs (fun z hz => (hst.txs z hz).2), shaped_strs (ws := []) (fun z q => by cases q), ?_⟩
    rw [eqv_strs]
    have q := k _ s2
    rw [scrT_of hst, hg, Bool.and_true] at q
    have e3 : (!decide (zs = [])) = decide (zs ≠ []) := by
      by_cases h : zs = [] <;> simp [h]
    rw [e3]
    exact q
end
end My

set_option Elab.async false
set_option linter.all false
set_option maxRecDepth 100000
set_option maxHeartbeats 2000000
namespace My
open PySem L2

abbrev sHe : Stmt := top 44
abbrev NHe : List Str := ["work", "found", "e"]
theorem scHe : FnScope NHe ["work"] (defScope sHe) := ⟨rfl, rfl, rfl, by decide +kernel, rfl, by decide +kernel, by decide +kernel⟩
/-- _law_heard(work): the text of the kind that work gives, or the word of its refusal -/
def THe (K : PySem.W.Frag) (C CK : Addr) : (XK → Hp → VK → Prop) → Hp → VK → Prop := fun tl H Q => ∃ R : V → Hp → Prop,
  (∀ v H', R v H' → ∃ x nm wo zs, v = .ref x ∧ ROk K H' x C nm wo zs ∧ nm.length ≤ 1000 ∧ Q (.str (readerText nm wo zs)) H') ∧
  ∀ Q' : VK, (∀ v H', R v H' → Q' v H') → tl (fun cls d H' => cls = .ref CK ∧ ∃ dd z, d = some dd ∧ H' dd = some (.xd [("word", .str z)]) ∧ Q (.str z) H') H Q'
theorem pss_len {X : Cx} {ss : List Stmt} {t : TS} (h : PSs X ss t) : PSs X ss (fun D σ H => σ.length = X.N.length → t D σ H) := ⟨fun pins s σ H D I q => h.run pins s σ H D I (q I.len)⟩
section
variable {X : Cx}
theorem heard_gives {C CK fS g : Addr} {fdS : FuncData} {cdg : Value} {q : Str} (hr : Room 4 X.A) (mK : X.mg "InvalidReader" = some (.ref CK)) (ms : X.mg "str" = none)
    (GS : FnOk X.prog X.w X.K X.mg X.base CX0 1 fS fdS ["self"] (spKStr X.K C)) (bS : Binds X.K fdS ["self"] []) (hs : PySem.W.findIn X.K (.ref C) "__str__" = some (some (.ref fS))) (hf : PySem.W.isFn X.K (.ref fS) = true)
    (one : PySem.W.exmOne X.K (.ref CK) (.ref CK) = some true) (xf : XfC X.K CK) (no : PySem.W.findIn X.K (.ref CK) "word" = some none) :
    LamX.GivesTo X NHe "_law_heard" (defScope sHe) g cdg (defBody sHe) "work" q (THe X.K C CK) := by
  intro f c' s H Q tl act hc h
  have G : FnR X.prog X.w X.K X.mg X.base CX0 1 fS (spKStr X.K C) := (GS.raw bS .nil).imp fun vs H Q E h => by rw [List.append_nil]; exact h
  have hr1 : Room 3 (X.A.deeper (PyProof.Rows.envOfC "_law_heard" (defScope sHe) s.heap.objs.size g cdg)) := hr.deeper _
  refine ⟨_, pss_cons (ps_set (i := 1) scHe.nd rfl (.inl rfl) pe_non)
    (pss_cons (ps_try_as (i := 2) (c := .ref CK) rfl rfl scHe.nd rfl rfl ⟨rfl, by decide, .inl mK⟩ LamX.takes0 (tb := fun W => tAsg (tCB (rStrI C (spKStr X.K C) E0) (tCons (fun σ H Q => ∃ Ech : XK, (∀ cls d σ' H', Ech cls d H' → W cls d σ' H') ∧ σ[0]? = some (some (.ref f)) ∧ H c' = some (LamX.CodeO c' q) ∧ tl Ech H Q) tNil)) (gName 1))
      (ts := fun a cls d D σ H => σ.length = 3 → tAsg (tXf a cls d CK "word" (tVar 2)) (gName 1) D σ H)
      (fun W pn xe tk _ => pss_one (ps_set (i := 1) scHe.nd rfl (.inl rfl) (pe_callTy (call_strI hs hf G hr1 pass0) rfl ms (by decide +kernel) (pa_cons ⟨fun pins s' σ H' Q I h' => ?_⟩ pa_nil)))) (fun a oe cls d pn zc hv => pss_len (pss_one (ps_set (i := 1) scHe.nd rfl (.inl rfl) (pe_xf xf no zc hv (pv 2))))))
    (pss_one (ps_ret (pv 1)))), ?_⟩
  · obtain ⟨Ech, hW, h1, h2, h3⟩ := h'
    exact (act W pn xe Ech _ _ tk hW).run pins s' σ H' Q I ⟨h1, h2, h3⟩
  · refine ⟨fun cls d H' => cls = .ref CK ∧ ∃ dd z, d = some dd ∧ H' dd = some (.xd [("word", .str z)]) ∧ Q (.str z) H', fun cls d σ' H' hh => ?_, rfl, hc, ?_⟩
    · obtain ⟨rfl, dd, z, rfl, hd, hq⟩ := hh
      refine ⟨true, one, fun _ a ha hl => ?_, fun z => by cases z⟩
      rw [List.length_set] at hl
      match σ', hl with
      | [x0, x1, x2], _ => exact ⟨_, rfl, rfl, rfl, dd, _, .str z, rfl, hd, rfl, _, rfl, hq⟩
    · obtain ⟨R, h1, h2⟩ := h
      refine h2 _ fun v H' hv => ?_
      obtain ⟨x, nm, wo, zs, rfl, ok, hn, hq⟩ := h1 v H' hv
      obtain ⟨dx, T1, T2, T3, T4, hx, _⟩ := id ok.at_
      exact ⟨x, dx, _, rfl, hx, x, nm, wo, zs, rfl, ok.at_, hn, ok.wl, Nat.le_trans ok.len (by decide), fun z hz => (ok.tx z hz).1, _, rfl, _, rfl, hq⟩
end
end My

set_option Elab.async false
set_option linter.all false
set_option maxRecDepth 100000
set_option maxHeartbeats 2000000
/-! steps whose numbers go along -/
namespace My
open PySem L2
theorem ev_join : NUMS.all (fun k => decide (Txt.join " " ["even", txN k] = tEv k)) = true := by decide +kernel
theorem sm_join : NUMS.all (fun j => NUMS.all fun k => decide (Txt.join " " ["same", txN j, txN k] = tSm j k)) = true := by decide +kernel
theorem txn_inj : NUMS.all (fun j => NUMS.all fun k => decide (eqV (.str (txN j)) (.str (txN k)) = decide (j = k))) = true := by decide +kernel
theorem chk_pl : PLAIN.all (fun z => !isChk z) = true := by decide +kernel
theorem ev0 : tEv 0 = "even 0" := by decide +kernel
theorem sm01 : tSm 0 1 = "same 0 1" := by decide +kernel
theorem mem_nums {k : Nat} : k ∈ NUMS ↔ k ≤ 12 := by
  unfold NUMS
  rw [List.mem_range]
  omega
theorem run_app : ∀ (ys : List Str) (z : Str) (st : Rst), rrun 0 ([], []) (ys ++ [z]) = some st → ∃ st', rrun 0 ([], []) ys = some st' ∧ rbad st' z = false := fun ys z st h => by
  rw [rrun_snoc] at h
  cases hr : rrun 0 ([], []) ys with
  | none =>
    rw [hr] at h
    cases h
  | some st' =>
    rw [hr] at h
    have h : (if rbad st' z = true then none else some (rnew (0 + ys.length) st' z)) = some st := h
    refine ⟨st', rfl, ?_⟩
    cases hb : rbad st' z with
    | false => rfl
    | true =>
      rw [if_pos hb] at h
      cases h
/-- the numbers of a step tell steps ahead of it -/
theorem nums_lt : ∀ (zs : List Str), Stp zs → ∀ st, rrun 0 ([], []) zs = some st → ∀ (i : Nat) (z : Str), zs[i]? = some z → ∀ n ∈ numsS z, 0 ≤ n ∧ n < (i : Int) := by
  intro zs
  generalize hl : zs.length = l
  induction l generalizing zs with
  | zero =>
    intro _ st _ i z hz
    have e : zs = [] := List.length_eq_zero_iff.mp hl
    subst e
    cases hz
  | succ l ih =>
    intro hs st h i z hz n hn
    have hne : zs ≠ [] := fun e => by rw [e] at hl; cases hl
    have e := List.dropLast_concat_getLast hne
    generalize zs.getLast hne = z' at e
    generalize zs.dropLast = ys at e
    have ly : ys.length = l := by
      have q := congrArg List.length e
      rw [List.length_append] at q
      simp at q
      omega
    rw [← e] at h hz
    obtain ⟨st', r1, r2⟩ := run_app ys z' st h
    have sy : Stp ys := fun y hy => hs y (by rw [← e]; exact List.mem_append_left _ hy)
    by_cases hi : i < ys.length
    · rw [List.getElem?_append_left hi] at hz
      exact ih ys ly sy st' r1 i z hz n hn
    · rw [List.getElem?_append_right (by omega)] at hz
      have hi2 : i - ys.length = 0 := by
        cases hq : i - ys.length with
        | zero => rfl
        | succ k =>
          rw [hq] at hz
          cases hz
      rw [hi2] at hz
      have hz : some z' = some z := hz
      cases hz
      have rz : Rs z := hs z (by rw [← e]; simp)
      have hpos := (rz.num n hn).1
      refine ⟨hpos, ?_⟩
      cases hc : isChk z with
      | false =>
        unfold numsS at hn
        rw [hc] at hn
        cases hn
      | true =>
        have hb : cmpR (numsS z) st'.2 = true := by
          unfold rbad at r2
          rw [hc, Bool.true_and] at r2
          cases q : cmpR (numsS z) st'.2 with
          | true => rfl
          | false =>
            rw [q] at r2
            cases r2
        unfold cmpR at hb
        have hb2 := (Bool.and_eq_true_iff.mp (Bool.and_eq_true_iff.mp hb).2).1
        have q := List.all_eq_true.mp hb2 _ (List.mem_map_of_mem hn)
        obtain ⟨_, i2, _⟩ := run_inv ys st' r1
        obtain ⟨m, rfl⟩ : ∃ m : Nat, n = m := ⟨n.toNat, by omega⟩
        rw [i2 m] at q
        by_cases hm : m < ys.length
        · omega
        · rw [List.getElem?_eq_none (by omega)] at q
          cases q
theorem goR_run {zs : List Str} (h : goR zs = true) : ∃ st, rrun 0 ([], []) zs = some st := Option.isSome_iff_exists.mp h
theorem nums_go {zs : List Str} (hs : Stp zs) (h : goR zs = true) : ∀ (i : Nat) (z : Str), zs[i]? = some z → ∀ n ∈ numsS z, 0 ≤ n ∧ n < (i : Int) := by
  obtain ⟨st, h1⟩ := goR_run h
  exact nums_lt zs hs st h1
theorem nums_top {zs : List Str} (hs : Stp zs) (h : goR zs = true) (hl : zs.length ≤ 12) : ∀ z ∈ zs, ∀ n ∈ numsS z, 0 ≤ n ∧ n ≤ 11 := fun z hz n hn => by
  obtain ⟨i, hi, e⟩ := List.mem_iff_getElem.mp hz
  have := nums_go hs h i z (by rw [List.getElem?_eq_getElem hi, e]) n hn
  omega
theorem mv_ev {k : Nat} {a b : Int} (hk : k ∈ NUMS) {m : Nat} (hm : m ∈ NUMS) (e : mvN a b k = m) : mvT (tEv k) a b = tEv m := by
  have g := g_ev hk
  unfold mvT
  rw [g.nums, if_neg (by simp), g.hw, List.map_cons, List.map_nil]
  unfold mvW
  rw [e]
  exact of_decide_eq_true (List.all_eq_true.mp ev_join m hm)
theorem mv_sm {j k : Nat} {a b : Int} (hj : j ∈ NUMS) (hk : k ∈ NUMS) {l m : Nat} (hl : l ∈ NUMS) (hm : m ∈ NUMS) (e1 : mvN a b j = l) (e : mvN a b k = m) : mvT (tSm j k) a b = tSm l m := by
  have g := g_sm hj hk
  unfold mvT
  rw [g.nums, if_neg (by simp), g.hw, List.map_cons, List.map_cons, List.map_nil]
  unfold mvW
  rw [e, e1]
  exact of_decide_eq_true (List.all_eq_true.mp (List.all_eq_true.mp sm_join l hl) m hm)
theorem mv_none {z : Str} {a b : Int} (h : numsS z = []) : mvT z a b = z := by
  unfold mvT
  rw [if_pos h]
/-- a step whose numbers go along stays a drawn step -/
theorem rs_mv {z : Str} {a b : Int} (h : Rs z) (hn : ∀ n ∈ numsS z, ∃ m : Nat, m ≤ 12 ∧ mvN a b n = m) : Rs (mvT z a b) := by
  cases h with
  | plain h =>
    rw [mv_none (g_plain h).nums]
    exact .plain h
  | rd h =>
    rw [mv_none (g_rd h).nums]
    exact .rd h
  | lk h =>
    rw [mv_none (g_lk h).nums]
    exact .lk h
  | mk h =>
    rw [mv_none (g_mk h).nums]
    exact .mk h
  | nm h =>
    rw [mv_none (g_nm h).nums]
    exact .nm h
  | us ha hb =>
    rw [mv_none (g_us ha hb).nums]
    exact .us ha hb
  | @ev k h =>
    have e := (g_ev h).nums
    rw [e] at hn
    obtain ⟨m, m1, m2⟩ := hn k (by simp)
    rw [mv_ev h (mem_nums.mpr m1) m2]
    exact .ev (mem_nums.mpr m1)
  | @sm j k hj hk =>
    have e := (g_sm hj hk).nums
    rw [e] at hn
    obtain ⟨l, l1, l2⟩ := hn j (by simp)
    obtain ⟨m, m1, m2⟩ := hn k (by simp)
    rw [mv_sm hj hk (mem_nums.mpr l1) (mem_nums.mpr m1) l2 m2]
    exact .sm (mem_nums.mpr l1) (mem_nums.mpr m1)
theorem rs_up {z : Str} {a : Int} (h : Rs z) (hn : ∀ n ∈ numsS z, 0 ≤ n ∧ n ≤ 11) : Rs (mvT z a 1) := rs_mv h fun n q => by
  obtain ⟨h0, h1⟩ := hn n q
  by_cases g : a ≤ n
  · exact ⟨(n + 1).toNat, by omega, by unfold mvN; rw [if_pos (decide_eq_true g)]; omega⟩
  · exact ⟨n.toNat, by omega, by unfold mvN; rw [if_neg (by simpa using g)]; omega⟩
theorem has_ne {z : Str} {k : Nat} (h : hasN k z = false) : ∀ n ∈ numsS z, n ≠ (k : Int) := by
  unfold hasN at h
  revert h
  generalize numsS z = ns
  intro h n hn e
  subst e
  induction ns with
  | nil => cases hn
  | cons x r ih =>
    have h : (eqV (.int x) (.int (k : Int)) || inV (.int (k : Int)) (r.map V.int)) = false := h
    obtain ⟨h1, h2⟩ := Bool.or_eq_false_iff.mp h
    rcases List.mem_cons.mp hn with q | q
    · subst q
      have : eqV (.int (k : Int)) (.int (k : Int)) = true := by
        show decide ((k : Int) = k) = true
        exact decide_eq_true rfl
      rw [this] at h1
      cases h1
    · exact ih h2 q
theorem rs_dn {z : Str} {k : Nat} (h : Rs z) (hn : hasN k z = false) : Rs (mvT z k (-1)) := rs_mv h fun n q => by
  obtain ⟨ws, ns, g⟩ := h.good
  have q1 := q
  rw [g.nums] at q1
  obtain ⟨h0, h1⟩ := g.nsm n q1
  have ne := has_ne hn n q
  by_cases g : (k : Int) ≤ n
  · exact ⟨(n - 1).toNat, by omega, by unfold mvN; rw [if_pos (decide_eq_true g)]; omega⟩
  · exact ⟨n.toNat, by omega, by unfold mvN; rw [if_neg (by simpa using g)]; omega⟩
/-- a text names a number -/
theorem has_text {z : Str} {n : Nat} (h : Rs z) (hn : n ≤ 12) : (isChk z && inV (.str (txN n)) (((Txt.split z " ").drop 1).map V.str)) = hasN n z := by
  have hnN := mem_nums.mpr hn
  have inj : ∀ k ∈ NUMS, eqV (.str (txN k)) (.str (txN n)) = decide (k = n) := fun k hk => of_decide_eq_true (List.all_eq_true.mp (List.all_eq_true.mp txn_inj k hk) n hnN)
  have no : ∀ {ws : List Str} {w : Str}, Good z (w :: ws) [] → isChk z = false → (isChk z && inV (.str (txN n)) (((Txt.split z " ").drop 1).map V.str)) = hasN n z := fun g hc => by
    unfold hasN
    rw [hc, g.nums]
    rfl
  have ck : ∀ {w : Str} {ws : List Str} {ns : List Int}, Good z (w :: ws) ns → isChk z = (flags w).1 := fun g => by
    unfold isChk flags
    rw [g.hw]
  have di : ∀ k m : Nat, decide ((k : Int) = (m : Int)) = decide (k = m) := fun k m => by
    by_cases e : k = m
    · subst e; simp
    · have e2 : ¬ (k : Int) = m := by omega
      simp [e, e2]
  cases h with
  | plain h =>
    have q := List.all_eq_true.mp chk_pl z h
    have hc : isChk z = false := by simpa using q
    unfold hasN
    rw [hc, (g_plain h).nums]
    rfl
  | rd h => exact no (g_rd h) (by rw [ck (g_rd h), f_read])
  | lk h => exact no (g_lk h) (by rw [ck (g_lk h), f_look])
  | mk h => exact no (g_mk h) (by rw [ck (g_mk h), f_mark])
  | nm h => exact no (g_nm h) (by rw [ck (g_nm h), f_num])
  | us ha hb => exact no (g_us ha hb) (by rw [ck (g_us ha hb), f_use])
  | @ev k h =>
    have g := g_ev h
    unfold hasN
    rw [ck g, f_even, g.nums, g.sp]
    show (true && (eqV (.str (txN k)) (.str (txN n)) || false)) = (eqV (.int (k : Int)) (.int (n : Int)) || false)
    rw [inj k h]
    show (true && (decide (k = n) || false)) = (decide ((k : Int) = (n : Int)) || false)
    rw [di]
    rfl
  | @sm j k hj hk =>
    have g := g_sm hj hk
    unfold hasN
    rw [ck g, f_same, g.nums, g.sp]
    show (true && (eqV (.str (txN j)) (.str (txN n)) || (eqV (.str (txN k)) (.str (txN n)) || false))) = (eqV (.int (j : Int)) (.int (n : Int)) || (eqV (.int (k : Int)) (.int (n : Int)) || false))
    rw [inj j hj, inj k hk]
    show (true && (decide (j = n) || (decide (k = n) || false))) = (decide ((j : Int) = (n : Int)) || (decide ((k : Int) = (n : Int)) || false))
    rw [di, di]
    rfl
/-- what is looked for behind a spot is looked for among all -/
theorem less_any {zs : List Str} {n : Nat} (hs : Stp zs) (h : goR zs = true) (hn : n < zs.length) : (lessT zs n).any (hasN n) = zs.any (hasN n) := by
  have e : zs = zs.take n ++ zs[n] :: zs.drop (n + 1) := by
    rw [← List.drop_eq_getElem_cons hn, List.take_append_drop]
  have hz : hasN n zs[n] = false := by
    cases q : hasN n zs[n] with
    | false => rfl
    | true =>
      exfalso
      unfold hasN at q
      have lt := nums_go hs h n zs[n] (List.getElem?_eq_getElem hn)
      revert q lt
      generalize numsS zs[n] = ns
      intro q lt
      induction ns with
      | nil => cases q
      | cons x r ih =>
        have q : (eqV (.int x) (.int (n : Int)) || inV (.int (n : Int)) (r.map V.int)) = true := q
        rcases Bool.or_eq_true_iff.mp q with z | z
        · have z : decide (x = (n : Int)) = true := z
          have := of_decide_eq_true z
          have := lt x List.mem_cons_self
          omega
        · exact ih z fun m hm => lt m (List.mem_cons_of_mem _ hm)
  have e2 : zs.any (hasN n) = (zs.take n ++ zs[n] :: zs.drop (n + 1)).any (hasN n) := congrArg (fun l => l.any (hasN n)) e
  rw [e2]
  unfold lessT
  rw [List.any_append, List.any_append, List.any_cons, hz, Bool.false_or]
theorem more_eq {zs : List Str} {n : Nat} {z : Str} : (zs.take n).map (fun y => mvT y n 1) ++ (z :: (zs.drop n).map fun y => mvT y n 1) = moreT zs n z := by
  unfold moreT ledT
  rw [List.map_take, List.map_drop]
theorem stp_more {zs : List Str} {n : Nat} {z : Str} (hs : Stp zs) (h : goR zs = true) (hl : zs.length ≤ 12) (hz : Rs z) : Stp (moreT zs n z) := fun y hy => by
  rw [← more_eq] at hy
  have go : ∀ y ∈ zs, Rs (mvT y n 1) := fun y q => rs_up (hs y q) (nums_top hs h hl y q)
  rcases List.mem_append.mp hy with q | q
  · obtain ⟨x, hx, rfl⟩ := List.mem_map.mp q
    exact go x (List.mem_of_mem_take hx)
  · rcases List.mem_cons.mp q with q | q
    · rw [q]
      exact hz
    · obtain ⟨x, hx, rfl⟩ := List.mem_map.mp q
      exact go x (List.mem_of_mem_drop hx)
theorem stp_less {zs : List Str} {n : Nat} (hs : Stp zs) : Stp (lessT zs n) := fun z hz => by
  unfold lessT at hz
  rcases List.mem_append.mp hz with q | q
  · exact hs z (List.mem_of_mem_take q)
  · exact hs z (List.mem_of_mem_drop q)
theorem stp_led {zs : List Str} {n : Nat} (hs : Stp zs) (h : zs.any (hasN n) = false) : Stp (ledT zs n (-1)) := fun z hz => by
  unfold ledT at hz
  obtain ⟨y, hy, rfl⟩ := List.mem_map.mp hz
  refine rs_dn (hs y hy) ?_
  cases q : hasN n y with
  | false => rfl
  | true =>
    rw [List.any_eq_true.mpr ⟨y, hy, q⟩] at h
    cases h
theorem less_len {zs : List Str} {n : Nat} (h : n < zs.length) : (lessT zs n).length + 1 = zs.length := by
  unfold lessT
  rw [List.length_append, List.length_take, List.length_drop]
  omega
theorem more_len {zs : List Str} {n : Nat} {z : Str} (h : n ≤ zs.length) : (moreT zs n z).length = zs.length + 1 := by
  rw [← more_eq, List.length_append, List.length_cons, List.length_map, List.length_map, List.length_take, List.length_drop]
  omega
end My

set_option Elab.async false
set_option linter.all false
set_option maxRecDepth 100000
set_option maxHeartbeats 2000000
namespace My
open PySem L2

abbrev sTr : Stmt := top 45
abbrev NTr : List Str := ["deal", "world", "made", "texts", "told_reader", "less", "looked", "due", "wide", "more", "spot", "text"]
theorem scTr : FnScope ["deal", "world", "made", "texts", "told_reader", "less", "looked", "due", "wide", "more", "spot", "text"] ["deal", "world", "made", "texts"] (defScope sTr) := ⟨rfl, rfl, rfl, by decide +kernel, rfl, by decide +kernel, by decide +kernel⟩
/-- a def of the text whose code object stands at c -/
structure FunC (K : PySem.W.Frag) (x qual : Str) (st : Stmt) (f : Addr) (fd : FuncData) (c : Addr) : Prop where
  ex : ∃ (oc : Value) (od : Option Addr) (kV doc pm : Value) (an : Option Addr) (ct : Value) (osl : Array (Option Value)),
    fd = PySem.W.fnOf x qual (defArgs st) (defBody st) (defScope st) .none kV doc pm an (.ref c) ct ∧ K.lookup f = some ⟨oc, od, .func fd, osl⟩ ∧ PySem.W.codeIn K (.ref c) qual = true
theorem FunC.ok {P : Program} {w : World} {K : PySem.W.Frag} {mg : Str → Option Value} {base : Heap} {x qual : Str} {st : Stmt} {f c : Addr} {fd : FuncData} {N ps : List Str} {k : Nat} {sp : Sp} (F : FunC K x qual st f fd c) (S : FnScope N ps (defScope st)) (len : ∀ vs H Q E, sp vs H Q E → vs.length = ps.length)
    (hbody : ∀ (A : Around) (outer : List Env) (s : Shared) (H : Hp) (vs : List V) (Q : VK) (E : XK), Room k (A.deeper (PyProof.Rows.envOfC qual (defScope st) s.heap.objs.size f (.ref c))) → sp vs H Q E →
      ∃ t, PSs (cxOf CX0 P w K mg base N qual (defScope st) f (.ref c) A outer s H E).nox (defBody st) t ∧ t { nx := fun _ H' => Q .non H', rt := Q } (L2.start N vs) H) : FnOk P w K mg base CX0 (k + 1) f fd ps sp := by
  obtain ⟨oc, od, kV, doc, pm, an, ct, osl, rfl, lk, hcd⟩ := F.ex
  refine fn_of lk hcd S len fun A outer s H vs Q E hr hsp => ?_
  obtain ⟨t, h, q⟩ := hbody A outer s H vs Q E hr hsp
  exact ⟨t, h.nox, q⟩
/-- the lambdas' name -/
abbrev lamQ : Str := (PyProof.Rows.envOfC "_law_turned_right" (defScope sTr) 0 0 .none).qual ++ "<lambda>"
abbrev TL (Pt : Addr) : List (Addr × Str) := [(Pt, lamQ)]
theorem TL_u (Pt : Addr) : ∀ p ∈ TL Pt, p.1 = Pt → p.2 = lamQ := fun p hp _ => by
  rw [List.mem_singleton.mp hp]
/-- all stands as it was but the source of draws and the tables -/
def KpN (x y : Addr) (H H' : Hp) : Prop := ∀ b o, H b = some o → b ≠ x → b ≠ y → (∀ ps, o ≠ .tbl ps) → H' b = some o
theorem KpN.of {x y : Addr} {H H' : Hp} (k : Kp x y H H') : KpN x y H H' := fun b o h n m _ => k b o h n m
theorem KpN.ext {x y : Addr} {H H' : Hp} (k : LamX.ExtN H H') : KpN x y H H' := fun b o h _ _ t => k b o h t
theorem KpN.trans {x y : Addr} {H H1 H2 : Hp} (a : KpN x y H H1) (b : KpN x y H1 H2) : KpN x y H H2 := fun c o h n m t => b c o (a c o h n m t) n m t
theorem deal_ext {H H' : Hp} {dl c : Addr} (d : Deal H dl c) (e : LamX.ExtN H H') : Deal H' dl c := by
  obtain ⟨ns, a, b, q1, q2, q3⟩ := d
  exact ⟨ns, a, b, e _ _ q1 (fun ps z => by cases z), e _ _ q2 (fun ps z => by cases z), q3⟩
theorem Lot.kpn {H H' : Hp} {T dl c : Addr} {ks : List Str} (h : Lot H T ks) (D : Deal H dl c) (k : KpN dl c H H') : Lot H' T ks := by
  obtain ⟨ys, h1, h2, h3⟩ := h
  obtain ⟨ns, a, b, q1, q2, _⟩ := D
  exact ⟨ys, k _ _ h1 (fun e => by rw [e, q1] at h1; cases h1) (fun e => by rw [e, q2] at h1; cases h1) (fun ps z => by cases z), h2, h3⟩
theorem SqT.kpn {K : PySem.W.Frag} {H H' : Hp} {T dl c : Addr} {xs : List V} (h : SqT K H T xs) (D : Deal H dl c) (k : KpN dl c H H') : SqT K H' T xs := by
  obtain ⟨ns, a, b, q1, q2, _⟩ := D
  rcases h with (h | ⟨o, h⟩) | h
  · exact .inl (.inl (k _ _ h (fun e => by rw [e, q1] at h; cases h) (fun e => by rw [e, q2] at h; cases h) (fun ps z => by cases z)))
  · exact .inl (.inr ⟨o, k _ _ h (fun e => by rw [e, q1] at h; cases h) (fun e => by rw [e, q2] at h; cases h) (fun ps z => by cases z)⟩)
  · exact .inr h
theorem ROk.kpn {K : PySem.W.Frag} {H H' : Hp} {x C dl c : Addr} {nm wo : Str} {zs : List Str} (h : ROk K H x C nm wo zs) (D : Deal H dl c) (k : KpN dl c H H') : ROk K H' x C nm wo zs := by
  obtain ⟨dx, T1, T2, T3, T4, h1, h2, h3, h4, h5⟩ := h.at_
  obtain ⟨ns, a, b, q1, q2, q3⟩ := id D
  exact ⟨⟨dx, T1, T2, T3, T4, k _ _ h1 (fun e => by rw [e, q1] at h1; cases h1) (fun e => by rw [e, q2] at h1; cases h1) (fun ps z => by cases z), SqT.kpn h2 D k, h3.kpn D k, h4.kpn D k, h5.kpn D k⟩, h.nmok, h.tn, h.wok, h.wl, h.len, h.tx, h.st, h.num⟩
theorem tabs_kp {T : List (Addr × Str)} {H H' : Hp} {dl c : Addr} (D : Deal H dl c) (t : LamX.Tabs T H) (k : Kp dl c H H') (n : ∀ p ∈ T, p.1 ≠ dl ∧ p.1 ≠ c) : LamX.Tabs T H' := fun p hp => by
  obtain ⟨ps, h1, h2, h3⟩ := t p hp
  obtain ⟨ns, a, b, q1, q2, _⟩ := D
  refine ⟨ps, k _ _ h1 (n p hp).1 (n p hp).2, h2, fun pos cv hc => ?_⟩
  obtain ⟨c1, e1, e2⟩ := h3 pos cv hc
  refine ⟨c1, e1, k _ _ e2 (fun e => ?_) fun e => ?_⟩
  · rw [e, q1] at e2
    unfold LamX.CodeO at e2
    cases e2
  · rw [e, q2] at e2
    unfold LamX.CodeO at e2
    cases e2
theorem sl_listK {X : Cx} {K : PySem.W.Frag} (h : X.K = K) : SlR X (rSlL K) := by
  subst h
  exact sl_list
theorem WorldAt.kpn {H H' : Hp} {W dl c : Addr} (h : WorldAt H W dl c) (k : KpN dl c H H') : WorldAt H' W dl c := by
  obtain ⟨A1, A2, A3, s, p, q, h1, n1, n2, a1, a2, a3, l1, l2⟩ := h
  have go : ∀ {A : Addr} {ys : List Str}, NmsAt H A dl c ys → NmsAt H' A dl c ys := fun {A ys} h => ⟨k _ _ h.at_ h.n1 h.n2 (fun ps z => by cases z), h.n1, h.n2, h.nm, h.len⟩
  exact ⟨A1, A2, A3, s, p, q, k _ _ h1 n1 n2 (fun ps z => by cases z), n1, n2, go a1, go a2, go a3, l1, l2⟩
abbrev MORE2 : List Str := ["even 0", "same 0 1"]
/-- where a turn stands -/
structure Trn (H0 H : Hp) (dl c Pt : Addr) : Prop where
  dl_ : Deal H dl c
  kn : KpN dl c H0 H
  tb : LamX.Tabs (TL Pt) H
theorem Trn.go {H0 H H' : Hp} {dl c Pt : Addr} (t : Trn H0 H dl c Pt) (n1 : Pt ≠ dl) (n2 : Pt ≠ c) (D : Deal H' dl c) (k : Kp dl c H H') : Trn H0 H' dl c Pt :=
  ⟨D, t.kn.trans (KpN.of k), tabs_kp t.dl_ t.tb k fun p hp => by rw [List.mem_singleton.mp hp]; exact ⟨n1, n2⟩⟩
theorem Trn.same {H0 H H' : Hp} {dl c Pt : Addr} (t : Trn H0 H dl c Pt) (s : Same H H') : Trn H0 H' dl c Pt := ⟨t.dl_.keep s, t.kn.trans (KpN.of (Kp.same s)), t.tb.ext s⟩
theorem Trn.ext {H0 H H' : Hp} {dl c Pt : Addr} (t : Trn H0 H dl c Pt) (e : LamX.ExtN H H') (tb : LamX.Tabs (TL Pt) H') : Trn H0 H' dl c Pt := ⟨deal_ext t.dl_ e, t.kn.trans (KpN.ext e), tb⟩
def dueOf (nm wo : Str) (ws : List Str) : Str := if scrT ws = true then readerText nm wo ws else "texts"
def dueL (nm wo : Str) (zs : List Str) (n : Nat) : Str := if zs.any (hasN n) = true then "texts" else dueOf nm wo (ledT (lessT zs n) n (-1))
theorem the_of {K : PySem.W.Frag} {C CK : Addr} {tl : XK → Hp → VK → Prop} {H1 : Hp} {nm wo : Str} {ws : List Str} {Q : VK} (hn : nmS nm = true) (tn : TxOk (.str nm)) (hw : wdS wo = true) (wl : wo.length ≤ 1000) (hl : ws.length ≤ 13) (st : Stp ws) (hnm : nm.length ≤ 1000)
    (key : ∀ H', Same H1 H' → Q (.str (dueOf nm wo ws)) H') (run : ∀ (E : XK) (Q' : VK), Makes K C CK H1 nm wo ws Q' E → tl E H1 Q') : THe K C CK tl H1 Q := by
  refine ⟨fun v H' => scrT ws = true ∧ Same H1 H' ∧ ∃ y, v = .ref y ∧ ReaderAt K H' y C (.str nm) (.str wo) ws, ?_, fun Q' hQ => run _ Q' ⟨fun hN d H' s hd => ?_, fun hY y H' hy s ka => hQ _ _ ⟨hY, s, y, rfl, ka⟩⟩⟩
  · rintro v H' ⟨hs, s, y, rfl, ka⟩
    have q := key H' s
    unfold dueOf at q
    rw [if_pos hs] at q
    exact ⟨y, nm, wo, ws, rfl, ⟨ka, hn, tn, hw, wl, hl, st.txs, fun z hz => (st z hz).stepOk, fun z hz => (st z hz).num⟩, hnm, q⟩
  · have q := key H' s
    unfold dueOf at q
    rw [if_neg (by rw [hN]; exact Bool.false_ne_true)] at q
    exact ⟨rfl, d, "texts", rfl, hd, q⟩
theorem the_no {K : PySem.W.Frag} {C CK : Addr} {tl : XK → Hp → VK → Prop} {H1 : Hp} {Q : VK}
    (key : ∀ H', Same H1 H' → Q (.str "texts") H') (run : ∀ (E : XK) (Q' : VK), Goes E H1 CK "word" (.str "texts") → tl E H1 Q') : THe K C CK tl H1 Q := by
  refine ⟨fun v H' => False, fun v H' h => h.elim, fun Q' hQ => run _ Q' fun d H' s hd => ?_⟩
  exact ⟨rfl, d, "texts", rfl, hd, key H' s⟩
theorem the_wo {K : PySem.W.Frag} {C CK : Addr} {tl : XK → Hp → VK → Prop} {H1 : Hp} {nm wo : Str} {zs : List Str} {n : Nat} {Q : VK} (hn : nmS nm = true) (tn : TxOk (.str nm)) (hw : wdS wo = true) (wl : wo.length ≤ 1000) (hl : zs.length ≤ 12) (hst : Stp zs) (hgo : goR zs = true) (hnl : n < zs.length) (hnm : nm.length ≤ 1000)
    (key : ∀ H', Same H1 H' → Q (.str (dueL nm wo zs n)) H')
    (run : ∀ (E : XK) (Q' : VK), (((lessT zs n).any (hasN n) = true → Goes E H1 CK "word" (.str "texts")) ∧ ((lessT zs n).any (hasN n) = false → TxsOk (ledT (lessT zs n) n (-1)) ∧ Makes K C CK H1 nm wo (ledT (lessT zs n) n (-1)) Q' E)) → tl E H1 Q') : THe K C CK tl H1 Q := by
  have eany := less_any hst hgo hnl
  rw [eany] at run
  cases hany : zs.any (hasN n) with
  | true =>
    rw [show dueL nm wo zs n = "texts" by unfold dueL; rw [hany]; rfl] at key
    exact the_no key fun E Q' g => run E Q' (And.intro (fun _ => g) fun h => by rw [hany] at h; cases h)
  | false =>
    rw [show dueL nm wo zs n = dueOf nm wo (ledT (lessT zs n) n (-1)) by unfold dueL; rw [hany]; rfl] at key
    have ll : (ledT (lessT zs n) n (-1)).length + 1 = zs.length := by unfold ledT; rw [List.length_map]; exact less_len hnl
    have st : Stp (ledT (lessT zs n) n (-1)) := stp_led (stp_less hst) (by rw [eany]; exact hany)
    exact the_of hn tn hw wl (by omega) st hnm key fun E Q' m => run E Q' (And.intro (fun h => by rw [hany] at h; cases h) fun _ => ⟨st.txs, m⟩)
/-- _law_turned_right(deal, world, made, texts) -/
def spTr (K : PySem.W.Frag) (C Pt : Addr) : Sp := fun vs H Q _ => ∃ (dl c W x a : Addr) (nm wo : Str) (zs : List Str), vs = [.ref dl, .ref W, .ref x, .ref a] ∧ Deal H dl c ∧ WorldAt H W dl c ∧ ROk K H x C nm wo zs ∧ nm.length ≤ 1000 ∧ H a = some (.lst (zs.map V.str)) ∧ a ≠ dl ∧ a ≠ c ∧
  0 < zs.length ∧ zs.length ≤ 12 ∧ Stp zs ∧ goR zs = true ∧ LamX.Tabs (TL Pt) H ∧ Pt ≠ dl ∧ Pt ≠ c ∧ ∀ H', Deal H' dl c → KpN dl c H H' → LamX.Tabs (TL Pt) H' → Q (.bl true) H'
theorem fm_led {n : Nat} {b : Int} : ∀ ws : List Str, (ws.map V.str).filterMap (fun x => match x with | .str z => some (V.str (mvT z n b)) | _ => none) = (ws.map fun z => mvT z n b).map V.str := fun ws => by
  induction ws with
  | nil => rfl
  | cons x r ih =>
    rw [List.map_cons, List.filterMap_cons, ih]
    rfl
theorem fm_has {n : Nat} : ∀ ws : List Str, (ws.map V.str).filterMap (fun x => match x with | .str z => if hasN n z = true then some (V.str z) else none | _ => none) = (ws.filter (hasN n)).map V.str := fun ws => by
  induction ws with
  | nil => rfl
  | cons x r ih =>
    rw [List.map_cons, List.filterMap_cons, ih, List.filter_cons]
    cases h : hasN n x with
    | true => simp only [h, if_pos, List.map_cons]
    | false => simp [h]
theorem filt_nil {zs : List Str} {n : Nat} : decide (zs.filter (hasN n) = []) = !zs.any (hasN n) := by
  cases h : zs.any (hasN n) with
  | true =>
    refine decide_eq_false fun e => ?_
    obtain ⟨z, hz, q⟩ := List.any_eq_true.mp h
    have : z ∈ zs.filter (hasN n) := List.mem_filter.mpr ⟨hz, q⟩
    rw [e] at this
    cases this
  | false =>
    refine decide_eq_true ?_
    rw [List.filter_eq_nil_iff]
    intro z hz q
    rw [List.any_eq_true.mpr ⟨z, hz, q⟩] at h
    cases h
section
variable {P : Program} {w : World} {K : PySem.W.Frag} {mg : Str → Option Value} {base : Heap}
theorem ok_tr {f fD fP fRt fIr fRu fLe fHe fS fWo fMo C CK c0 Pt : Addr} {fd fdD fdP fdRt fdIr fdRu fdLe fdS fdWo fdMo : FuncData} {oc od kV doc pm an cdH ctH osl}
    (F : FunC K "_law_turned_right" "_law_turned_right" sTr f fd c0) (z_len : mg "len" = none) (z_str : mg "str" = none)
    (GDraw : FnOk P w K mg base CX0 1 fD fdD ["deal", "wide"] spDraw) (bDraw : Binds K fdD ["deal", "wide"] []) (kDraw : PySem.W.keepIn K (.ref fD) = true) (mDraw : mg "_law_draw" = some (.ref fD))
    (GPick : FnOk P w K mg base CX0 2 fP fdP ["deal", "some"] (spPick K)) (bPick : Binds K fdP ["deal", "some"] []) (kPick : PySem.W.keepIn K (.ref fP) = true) (mPick : mg "_law_pick" = some (.ref fP))
    (GRt : FnOk P w K mg base CX0 4 fRt fdRt ["deal", "world", "most"] (spRt K)) (bRt : Binds K fdRt ["deal", "world", "most"] []) (kRt : PySem.W.keepIn K (.ref fRt) = true) (mRt : mg "_law_reader_texts" = some (.ref fRt))
    (GIr : FnOk P w K mg base CX0 1 fIr fdIr ["texts"] (spIr K)) (bIr : Binds K fdIr ["texts"] []) (kIr : PySem.W.keepIn K (.ref fIr) = true) (mIr : mg "_law_is_reader" = some (.ref fIr))
    (GRu : FnOk P w K mg base CX0 1 fRu fdRu ["told_reader"] (spRu K)) (bRu : Binds K fdRu ["told_reader"] []) (kRu : PySem.W.keepIn K (.ref fRu) = true) (mRu : mg "_law_reader_text" = some (.ref fRu))
    (GLe : FnOk P w K mg base CX0 1 fLe fdLe ["text", "spot", "more"] spLe) (bLe : Binds K fdLe ["text", "spot", "more"] []) (kLe : PySem.W.keepIn K (.ref fLe) = true) (mLe : mg "_law_led" = some (.ref fLe))
    (lkHe : K.lookup fHe = some ⟨oc, od, .func (PySem.W.fnOf "_law_heard" "_law_heard" (defArgs sHe) (defBody sHe) (defScope sHe) .none kV doc pm an cdH ctH), osl⟩) (cdHe : PySem.W.codeIn K cdH "_law_heard" = true) (bHe : Binds K (PySem.W.fnOf "_law_heard" "_law_heard" (defArgs sHe) (defBody sHe) (defScope sHe) .none kV doc pm an cdH ctH) ["work"] []) (kHe : PySem.W.keepIn K (.ref fHe) = true) (mHe : mg "_law_heard" = some (.ref fHe))
    (mIK : mg "InvalidReader" = some (.ref CK)) (xmK : PySem.W.exmOne K (.ref CK) (.ref CK) = some true) (xfK : XfC K CK) (noK : PySem.W.findIn K (.ref CK) "word" = some none)
    (GStr : FnOk P w K mg base CX0 1 fS fdS ["self"] (spKStr K C)) (bStr : Binds K fdS ["self"] []) (sStr : PySem.W.findIn K (.ref C) "__str__" = some (some (.ref fS))) (fStr : PySem.W.isFn K (.ref fS) = true)
    (cl : Cls K C) (nn : NoAttr K C "name") (nw : NoAttr K C "word") (mWo_ : Meth K C "without" fWo) (GWo_ : FnOk P w K mg base (L2.CX P w) 8 fWo fdWo ["self", "at"] (spKWo K C CK)) {gWo : List Value → List Value → List Value} (kbWo_ : KBn K fdWo ["self", "at"] 1 ["at"] gWo (fun vs zs => vs ++ zs))
    (mMo_ : Meth K C "with_more" fMo) (GMo_ : FnOk P w K mg base (L2.CX P w) 8 fMo fdMo ["self", "at", "text"] (spKMo K C CK)) {gMo : List Value → List Value → List Value} (kbMo_ : KBn K fdMo ["self", "at", "text"] 1 ["text", "at"] gMo (fun vs zs => vs ++ zs.reverse))
    (TB : LamX.TabB base mg c0 Pt) :
    FnOk P w K mg base CX0 13 f fd ["deal", "world", "made", "texts"] (spTr K C Pt) := by
  refine F.ok scTr (fun vs H Q E h => ?_) (fun A outer s H vs Q E hr h => ?_)
  · obtain ⟨_, _, _, _, _, _, _, _, rfl, _⟩ := h
    rfl
  obtain ⟨dl, c, W, x, a, nm, wo, zs, rfl, D, wat, ok, hnm, ha, na1, na2, z0, z12, hst, hgo, tabs, np1, np2, k⟩ := h
  have GStrR : FnR P w K mg base CX0 1 fS (spKStr K C) := (GStr.raw bStr .nil).imp fun vs H Q E h => by rw [List.append_nil]; exact h
  refine ⟨_, (pss_cons (ps_asg (pe_tup (pa_cons (pe_tup (pa_cons (pe_fld (pv 2) rfl) (pa_cons (pv 3) (pa_cons (pe_fld (pv 2) rfl) pa_nil)))) (pa_cons (pe_call GDraw (hr.mono (by decide)) rfl mDraw kDraw bDraw .nil pass0 (pa_cons (pv 0) (pa_cons (pe_callB call_len_seq rfl z_len (by decide +kernel) (pa_cons (pv 3) pa_nil)) pa_nil))) pa_nil))) (pg_tup rfl (pgs_cons (pg_name (i := 4) scTr.nd rfl (.inl rfl)) (pgs_cons (pg_name (i := 10) scTr.nd rfl (.inr rfl)) pgs_nil))))
  (pss_cons (ps_setLc (i := 5) (own := [("text", 11)]) (g := gName 11) (tt := tYes) rfl scTr.nd rfl rfl (sw_true rfl rfl rfl (by decide +kernel)) (pi_list (pe_op op_cat (pe_slice sl_list (pv 3) po_none (po_some (pv 10))) (pe_slice sl_list (pv 3) (po_some (pe_op op_add (pv 10) pe_int)) po_none))) (blkOk_by (own := [("text", 11)]) (N := NTr) (sc := defScope sTr) (by decide +kernel)) (fun _ _ _ _ _ => (pg_name (i := 11) scTr.nd rfl (Or.inl rfl))) (fun _ _ _ _ _ => pts_nil) (fun _ _ _ _ _ => (pe_call GLe (hr.mono (by decide)) rfl mLe kLe bLe .nil pass0 (pa_cons (pv 11) (pa_cons (pv 10) (pa_cons (pe_op op_sub pe_int pe_int) pa_nil))))))
  (pss_cons (ps_setLc (i := 6) (own := [("text", 11)]) (g := gName 11) rfl scTr.nd rfl rfl (sw_true rfl rfl rfl (by decide +kernel)) (pi_list (pv 3)) (blkOk_by (own := [("text", 11)]) (N := NTr) (sc := defScope sTr) (by decide +kernel)) (fun _ _ _ _ _ => (pg_name (i := 11) scTr.nd rfl (Or.inl rfl))) (fun _ _ _ _ _ => (pts_one (PW.pt (pw_and (pt_cmpR (op_in_seqK (K := K) rfl) (pe_ix (ix_listK (K := K) rfl) (pe_split (pv 11) pe_str) pe_int (fun _ _ => rfl)) (pe_tup (pa_cons pe_str (pa_cons pe_str pa_nil))) (by with_unfolding_all rfl)) (pw_and1 (pt_cmpR (op_in_seqK (K := K) rfl) (pe_callTy call_str_int rfl z_str (by decide +kernel) (pa_cons (pv 10) pa_nil)) (pe_slice (sl_listK (K := K) rfl) (pe_split (pv 11) pe_str) (po_some pe_int) po_none) (by with_unfolding_all rfl))))))) (fun _ _ _ _ _ => (pv 11)))
  (pss_cons (ps_set (i := 7) scTr.nd rfl (.inl rfl) (pe_ifExp (PW.pt (pw_and (pt_cmpR (op_eqD hr.units) (pv 6) (pe_lst pa_nil) (nomark _)) (pw_and1 (pt_val (pe_call GIr (hr.mono (by decide)) rfl mIr kIr bIr .nil pass0 (pa_cons (pv 5) pa_nil)))))) (pe_call GRu (hr.mono (by decide)) rfl mRu kRu bRu .nil pass0 (pa_cons (pe_tup (pa_cons (pe_fld (pv 2) rfl) (pa_cons (pv 5) (pa_cons (pe_fld (pv 2) rfl) pa_nil)))) pa_nil)) pe_str))
  (pss_cons (ps_if (pt_cmpR op_ne (LamX.pe_lamcall (k := 8) (T := TL Pt) rfl mHe kHe lkHe cdHe bHe scHe rfl (.inl rfl) (heard_gives (hr.mono (by decide)) mIK z_str GStr bStr sStr fStr xmK xfK noK) TB rfl (List.mem_singleton.mpr rfl) (TL_u Pt) (hr.mono (by decide)) (LamX.lamS_by (sc := defScope sTr) (by decide +kernel)) rfl (fun _ _ _ _ _ => rfl) (fun A2 outer2 s2 H2 E2 f2 c2 hr8 => (pe_methK (pv 2) cl mWo_ GWo_ hr8 kbWo_ (passes_call (takes_of rfl rfl rfl rfl) fun _ _ _ _ h => h) (pk_cons (pv 10) pk_nil)))) (pv 7) (nomark _)) (pss_one (ps_ret pe_bl)) pss_nil)
  (pss_cons (ps_set (i := 9) scTr.nd rfl (.inr rfl) (pe_call GPick (hr.mono (by decide)) rfl mPick kPick bPick .nil pass0 (pa_cons (pv 0) (pa_cons (pe_op op_cat (pe_call GRt (hr.mono (by decide)) rfl mRt kRt bRt .nil pass0 (pa_cons (pv 0) (pa_cons (pv 1) (pa_cons pe_int pa_nil)))) (pe_lst (pa_cons pe_str (pa_cons pe_str pa_nil)))) pa_nil))))
  (pss_cons (ps_set (i := 10) scTr.nd rfl (.inr rfl) (pe_call GDraw (hr.mono (by decide)) rfl mDraw kDraw bDraw .nil pass0 (pa_cons (pv 0) (pa_cons (pe_op op_add (pe_callB call_len_seq rfl z_len (by decide +kernel) (pa_cons (pv 3) pa_nil)) pe_int) pa_nil))))
  (pss_cons (ps_set (i := 8) scTr.nd rfl (.inl rfl) (pe_op op_cat (pe_lc (own := [("text", 11)]) (g := gName 11) (tt := tYes) rfl scTr.nd (pi_list (pe_slice sl_list (pv 3) po_none (po_some (pv 10)))) (blkOk_by (own := [("text", 11)]) (N := NTr) (sc := defScope sTr) (by decide +kernel)) (fun _ _ _ _ _ => (pg_name (i := 11) scTr.nd rfl (Or.inl rfl))) (fun _ _ _ _ _ => pts_nil) (fun _ _ _ _ _ => (pe_call GLe (hr.mono (by decide)) rfl mLe kLe bLe .nil pass0 (pa_cons (pv 11) (pa_cons (pv 10) (pa_cons pe_int pa_nil)))))) (pe_lst (pa_cons (pv 9) pa_nil))))
  (pss_cons (ps_set (i := 8) scTr.nd rfl (.inl rfl) (pe_op op_cat (pv 8) (pe_lc (own := [("text", 11)]) (g := gName 11) (tt := tYes) rfl scTr.nd (pi_list (pe_slice sl_list (pv 3) (po_some (pv 10)) po_none)) (blkOk_by (own := [("text", 11)]) (N := NTr) (sc := defScope sTr) (by decide +kernel)) (fun _ _ _ _ _ => (pg_name (i := 11) scTr.nd rfl (Or.inl rfl))) (fun _ _ _ _ _ => pts_nil) (fun _ _ _ _ _ => (pe_call GLe (hr.mono (by decide)) rfl mLe kLe bLe .nil pass0 (pa_cons (pv 11) (pa_cons (pv 10) (pa_cons pe_int pa_nil))))))))
  (pss_cons (ps_set (i := 7) scTr.nd rfl (.inl rfl) (pe_ifExp (pt_val (pe_call GIr (hr.mono (by decide)) rfl mIr kIr bIr .nil pass0 (pa_cons (pv 8) pa_nil))) (pe_call GRu (hr.mono (by decide)) rfl mRu kRu bRu .nil pass0 (pa_cons (pe_tup (pa_cons (pe_fld (pv 2) rfl) (pa_cons (pv 8) (pa_cons (pe_fld (pv 2) rfl) pa_nil)))) pa_nil)) pe_str))
  (pss_one (ps_ret (pe_and (pe_cmpR op_eq (LamX.pe_lamcall (k := 8) (T := TL Pt) rfl mHe kHe lkHe cdHe bHe scHe rfl (.inl rfl) (heard_gives (hr.mono (by decide)) mIK z_str GStr bStr sStr fStr xmK xfK noK) TB rfl (List.mem_singleton.mpr rfl) (TL_u Pt) (hr.mono (by decide)) (LamX.lamS_by (sc := defScope sTr) (by decide +kernel)) rfl (fun _ _ _ _ _ => rfl) (fun A2 outer2 s2 H2 E2 f2 c2 hr8 => (pe_methK (pv 2) cl mMo_ GMo_ hr8 kbMo_ (passes_call (takes_of rfl rfl rfl rfl) fun _ _ _ _ h => h) (pk_cons (pv 9) (pk_cons (pv 10) pk_nil))))) (pv 7) (nomark _)) (pe_one (pe_cmpR op_eq (pe_callTy (call_strI sStr fStr GStrR (hr.mono (by decide)) pass0) rfl z_str (by decide +kernel) (pa_cons (pv 2) pa_nil)) (pe_call GRu (hr.mono (by decide)) rfl mRu kRu bRu .nil pass0 (pa_cons (pv 4) pa_nil)) (nomark _)))))))))))))))), ?_⟩
  have t0 : Trn H H dl c Pt := ⟨D, fun _ _ h _ _ _ => h, tabs⟩
  have hlen : (zs.map V.str).length = zs.length := List.length_map ..
  have big : ∀ m : Nat, m ≤ 1000 → m ≤ sizeLine := fun m h => Nat.le_trans h (by decide)
  have bigl : ∀ m : Nat, m ≤ 1000 → m < sizeLine := fun m h => Nat.lt_of_le_of_lt h (by decide)
  have tt : ∀ H', Trn H H' dl c Pt → H' a = some (.lst (zs.map V.str)) := fun H' t => t.kn _ _ ha na1 na2 (fun ps z => by cases z)
  have kk : ∀ H', Trn H H' dl c Pt → ROk K H' x C nm wo zs := fun H' t => ok.kpn D t.kn
  -- told_reader, spot = ..
  obtain ⟨dx, T1, T2, T3, T4, hx, _⟩ := id ok.at_
  refine ⟨_, rfl, x, C, dx, _, .str nm, rfl, hx, cl, nn, rfl, _, rfl, _, rfl, x, C, dx, _, .str wo, rfl, hx, cl, nw, rfl, (by show 3 ≤ sizeLine; decide), fun Y hY => ?_⟩
  have t1 := t0.same (Same.new (o := .tup [.str nm, .ref a, .str wo]) hY)
  have y1 : (upd H Y (.tup [.str nm, .ref a, .str wo])) Y = some (.tup [.str nm, .ref a, .str wo]) := upd_same
  have nY : Y ≠ dl ∧ Y ≠ c := D.off hY
  generalize upd H Y (.tup [.str nm, .ref a, .str wo]) = H1 at t1 y1 ⊢
  refine ⟨_, rfl, _, rfl, a, _, rfl, .inl (SqL.of (tt _ t1)), dl, c, _, rfl, (by rw [hlen]; omega), (by rw [hlen]; omega), t1.dl_, fun r H2 r0 r1 D2 k2 => ?_⟩
  rw [hlen] at r1
  have t2 := t1.go np1 np2 D2 k2
  have y2 := k2 _ _ y1 nY.1 nY.2
  obtain ⟨n, rfl⟩ : ∃ n : Nat, r = n := ⟨r.toNat, by omega⟩
  have hn : n < zs.length := by omega
  refine ⟨(by show 2 ≤ sizeLine; decide), fun T hT => ⟨T, _, rfl, .inl (.inl upd_same), rfl, _, _, rfl, _, _, rfl, rfl, ?_⟩⟩
  have t3 := t2.same (Same.new (o := .tup [.ref Y, .int (n : Int)]) hT)
  have y3 := Same.new (o := .tup [.ref Y, .int (n : Int)]) hT _ _ y2
  generalize upd H2 T (.tup [.ref Y, .int (n : Int)]) = H3 at t3 y3 ⊢
  clear hT k2 D2 y1 y2 hx
  -- less = ..
  refine ⟨_, rfl, _, rfl, _, rfl, a, _, rfl, SqL.of (tt _ t3), fun S1 hS1 => ?_⟩
  rw [show cutV (zs.map V.str) none (some (n : Int)) = (zs.take n).map V.str by rw [cut_take, List.map_take]]
  have t5 := t3.same (Same.new (o := .lst ((zs.take n).map V.str)) hS1)
  have y5 := Same.new (o := .lst ((zs.take n).map V.str)) hS1 _ _ y3
  have g1 : (upd H3 S1 (.lst ((zs.take n).map V.str))) S1 = some (.lst ((zs.take n).map V.str)) := upd_same
  generalize upd H3 S1 (.lst ((zs.take n).map V.str)) = H5 at t5 y5 g1 ⊢
  refine ⟨_, rfl, _, rfl, _, _, rfl, rfl, _, rfl, a, _, rfl, SqL.of (tt _ t5), fun S2 hS2 => ?_⟩
  rw [show cutV (zs.map V.str) (some ((n : Int) + 1)) none = (zs.drop (n + 1)).map V.str by rw [show (n : Int) + 1 = ((n + 1 : Nat) : Int) from rfl, cut_drop, List.map_drop]]
  have t6 := t5.same (Same.new (o := .lst ((zs.drop (n + 1)).map V.str)) hS2)
  have y6 := Same.new (o := .lst ((zs.drop (n + 1)).map V.str)) hS2 _ _ y5
  have g1' := Same.new (o := .lst ((zs.drop (n + 1)).map V.str)) hS2 _ _ g1
  have g2 : (upd H5 S2 (.lst ((zs.drop (n + 1)).map V.str))) S2 = some (.lst ((zs.drop (n + 1)).map V.str)) := upd_same
  generalize upd H5 S2 (.lst ((zs.drop (n + 1)).map V.str)) = H6 at t6 y6 g1' g2 ⊢
  refine ⟨S1, S2, _, _, rfl, rfl, g1', g2, big _ (by rw [List.length_map, List.length_map, List.length_take, List.length_drop]; omega), fun L1 hL1 => ?_⟩
  have t7 := t6.same (Same.new (o := .lst ((zs.take n).map V.str ++ (zs.drop (n + 1)).map V.str)) hL1)
  have y7 := Same.new (o := .lst ((zs.take n).map V.str ++ (zs.drop (n + 1)).map V.str)) hL1 _ _ y6
  have g3 : (upd H6 L1 (.lst ((zs.take n).map V.str ++ (zs.drop (n + 1)).map V.str))) L1 = some (.lst ((lessT zs n).map V.str)) := by rw [upd_same]; unfold lessT; rw [List.map_append]
  generalize upd H6 L1 (.lst ((zs.take n).map V.str ++ (zs.drop (n + 1)).map V.str)) = H7 at t7 y7 g3 ⊢
  clear g1 g1' g2 hS1 hS2 hL1 t5 t6 y5 y6 y3 t3
  have sl := stp_less (n := n) hst
  have ll := less_len hn
  refine ⟨L1, rfl, ⟨_, SqL.of g3⟩, fun D1 hD1 => ?_⟩
  refine lc_s (walk_list (K := K) (a := L1)) (fun x => match x with | .str z => some (V.str (mvT z n (-1))) | _ => none) hD1 (by rw [List.length_map]; exact bigl _ (by omega)) (fun H' s => SqL.of (s _ _ g3)) ?_ ?_
  · intro v H' hv s' OK NO ok' no
    obtain ⟨z, hz, rfl⟩ := List.mem_map.mp hv
    refine ⟨rfl, _, rfl, _, rfl, _, _, rfl, rfl, z, n, -1, rfl, sl z hz, by decide, by decide, fun H'' s'' => ?_⟩
    exact ok' _ _ s'' rfl
  intro H8 s8 e8
  rw [fm_led] at e8
  have t8 := t7.same s8
  have y8 := s8 _ _ y7
  clear g3 s8 t7 y7
  -- looked = ..
  refine ⟨_, rfl, a, rfl, ⟨_, SqL.of (tt _ t8)⟩, fun D2 hD2 => ?_⟩
  refine lc_s (walk_list (K := K) (a := a)) (fun x => match x with | .str z => if hasN n z = true then some (V.str z) else none | _ => none) hD2 (by rw [List.length_map]; exact bigl _ (by omega)) (fun H' s => SqL.of (s _ _ (tt _ t8))) ?_ ?_
  · intro v H' hv s' OK NO ok' no
    obtain ⟨z, hz, rfl⟩ := List.mem_map.mp hv
    have rz := hst z hz
    have hsz := rz.stepOk.1
    have ht := has_text (n := n) rz (by omega)
    refine ⟨rfl, ⟨_, rfl, ⟨z, rfl⟩, z, " ", rfl, rfl, rfl, hsz, fun p hp => ?_⟩⟩
    have sp := Same.new (o := .lst ((Txt.split z " ").map V.str)) hp
    refine ⟨p, _, 0, .str (hw z), rfl, rfl, SqL.of upd_same, at_hw z, (by show 2 ≤ sizeLine; decide), fun U hU => ?_⟩
    have sU := sp.trans (Same.new (o := .tup [.str "same", .str "even"]) hU)
    refine ⟨U, _, rfl, .inr (.inl (.inl upd_same)), rfl, rfl, _, rfl, ?_⟩
    generalize upd (upd H' p (.lst ((Txt.split z " ").map V.str))) U (.tup [.str "same", .str "even"]) = H'' at sU ⊢
    show if isChk z = true then _ else _
    cases hc : isChk z with
    | false =>
      rw [hc] at ht
      exact ifF rfl (no _ sU (if_neg (by rw [← ht]; exact Bool.false_ne_true)))
    | true =>
      refine ifT rfl ?_
      rw [hc, Bool.true_and] at ht
      refine ⟨_, rfl, (n : Int), rfl, log_small (by omega) (by omega), ?_⟩
      refine ⟨_, rfl, ⟨z, rfl⟩, z, " ", rfl, rfl, rfl, hsz, fun p2 hp2 => ?_⟩
      have s2 := sU.trans (Same.new (o := .lst ((Txt.split z " ").map V.str)) hp2)
      refine ⟨1, rfl, p2, _, rfl, SqL.of upd_same, fun q hq => ?_⟩
      rw [cut_one, ← List.map_drop]
      have s3 := s2.trans (Same.new (o := .lst (((Txt.split z " ").drop 1).map V.str)) hq)
      refine ⟨q, _, rfl, .inl (SqL.of upd_same), rfl, flat_strs _, _, rfl, ?_⟩
      show if inV (.str (txN n)) (((Txt.split z " ").drop 1).map V.str) = true then _ else _
      rw [ht]
      refine ite3 (fun h => ?_) (fun h => ?_)
      · exact ⟨_, rfl, ok' _ _ s3 (if_pos h)⟩
      · exact no _ s3 (if_neg (by rw [h]; exact Bool.false_ne_true))
  intro H9 s9 e9
  rw [fm_has] at e9
  have t9 := t8.same s9
  have y9 := s9 _ _ y8
  have d9 := s9 _ _ e8
  clear s9 e8 t8 y8
  have sok : ∀ z ∈ zs.filter (hasN n), PyData.strOk z = true := fun z hz => (hst.txs z ((List.mem_filter.mp hz).1)).2
  have ede : (lessT zs n).map (fun z => mvT z n (-1)) = ledT (lessT zs n) n (-1) := rfl
  rw [ede] at d9
  have lled : (ledT (lessT zs n) n (-1)).length + 1 = zs.length := by unfold ledT; rw [List.length_map]; exact ll
  have eany := less_any hst hgo hn
  have sled : zs.any (hasN n) = false → Stp (ledT (lessT zs n) n (-1)) := fun h => stp_led sl (by rw [eany]; exact h)
  dsimp only [gName]
  -- due = ..
  refine seq_first (fun σ H' => σ = [some (.ref dl), some (.ref W), some (.ref x), some (.ref a), some (.ref Y), some (.ref D1), some (.ref D2), some (.str (dueL nm wo zs n)), none, none, some (.int n), none] ∧ Same H9 H') ?rest fun rest => ?due
  case due =>
    refine ⟨_, rfl, (by show 0 ≤ sizeLine; decide), fun p hp => ?_⟩
    have sp : Same H9 (upd H9 p (.lst [])) := Same.new hp
    refine ⟨.list ((zs.filter (hasN n)).map PyData.str), .list (([] : List Str).map PyData.str), Dp.lst (SqL.of (sp _ _ e9)) (dp_strs _), Dp.lst (SqL.of upd_same) .nil, shaped_strs sok, shaped_strs (ws := []) (fun z q => by cases q), _, rfl, ?_⟩
    rw [eqv_strs, filt_nil]
    generalize upd H9 p (.lst []) = HA at sp ⊢
    cases hany : zs.any (hasN n) with
    | true =>
      refine ifF rfl (rest _ _ ⟨?_, sp⟩)
      rw [show dueL nm wo zs n = "texts" by unfold dueL; rw [hany]; rfl]
      rfl
    | false =>
      have edl : dueL nm wo zs n = dueOf nm wo (ledT (lessT zs n) n (-1)) := by
        unfold dueL
        rw [hany]
        rfl
      refine ifT rfl ⟨_, rfl, D1, _, rfl, SqL.of (sp _ _ d9), by omega, sled hany, fun HB sB => ⟨_, rfl, ?_⟩⟩
      have sAB := sp.trans sB
      refine ite3 (fun h => ?_) (fun h => ?_)
      · obtain ⟨dx, T1, T2, T3, T4, hx, _⟩ := (kk _ (t9.same sAB)).at_
        refine ⟨_, rfl, x, C, dx, _, .str nm, rfl, hx, cl, nn, rfl, _, rfl, _, rfl, x, C, dx, _, .str wo, rfl, hx, cl, nw, rfl, (by show 3 ≤ sizeLine; decide), fun T2' hT2 => ?_⟩
        refine ⟨T2', D1, nm, wo, ledT (lessT zs n) n (-1), rfl, upd_same, SqL.of (Same.new hT2 _ _ (sAB _ _ d9)), hnm, ok.wl, by omega, fun z hz => ((sled hany).txs z hz).1, ?_⟩
        refine rest _ _ ⟨?_, sAB.trans (Same.new hT2)⟩
        rw [edl, show dueOf nm wo (ledT (lessT zs n) n (-1)) = readerText nm wo (ledT (lessT zs n) n (-1)) from if_pos h]
        rfl
      · refine rest _ _ ⟨?_, sAB⟩
        rw [edl, show dueOf nm wo (ledT (lessT zs n) n (-1)) = "texts" from if_neg (by rw [h]; exact Bool.false_ne_true)]
        rfl
  rintro σ HA ⟨rfl, sA⟩
  have tA := t9.same sA
  have yA := sA _ _ y9
  clear t9 y9 sA e9 d9 sok
  -- if _law_heard(lambda: made.without(at=spot)) != due
  refine ⟨tA.tb, fun HB eN TB' => ?_⟩
  have tB := tA.ext eN TB'
  have yB := eN _ _ yA (fun ps z => by cases z)
  have okB := kk _ tB
  clear tA yA
  refine the_wo ok.nmok ok.tn ok.wok ok.wl z12 hst hgo hn hnm (fun HC sC => ?key) fun E1 Q1 mk => ?run
  case run =>
    obtain ⟨dx, T1, T2, T3, T4, hx, _⟩ := id okB.at_
    exact ⟨_, rfl, x, dx, _, rfl, hx, rfl, _, rfl, rfl, x, nm, wo, zs, n, rfl, okB, hn, mk⟩
  case key =>
    have tC := tB.same sC
    have yC := sC _ _ yB
    clear tB yB sC okB
    refine ⟨_, rfl, rfl, _, rfl, ?_⟩
    rw [decide_eq_true rfl]
    refine ifF rfl ?_
    -- more = ..
    refine ⟨_, rfl, _, rfl, _, rfl, dl, c, W, 4, rfl, by decide, by decide, tC.dl_, wat.kpn tC.kn, fun L ys HD sy gy y0 y4 D5 k5 nL1 nL2 nLn hL => ?_⟩
    have tD := tC.go np1 np2 D5 k5
    have yD := k5 _ _ yC nY.1 nY.2
    refine ⟨(by show 2 ≤ sizeLine; decide), fun M hM => ?_⟩
    have tE := tD.same (Same.new (o := .lst [.str "even 0", .str "same 0 1"]) hM)
    have yE := Same.new (o := .lst [.str "even 0", .str "same 0 1"]) hM _ _ yD
    have lE := Same.new (o := .lst [.str "even 0", .str "same 0 1"]) hM _ _ hL
    have mE : (upd HD M (.lst [.str "even 0", .str "same 0 1"])) M = some (.lst [.str "even 0", .str "same 0 1"]) := upd_same
    generalize upd HD M (.lst [.str "even 0", .str "same 0 1"]) = HE at tE yE lE mE ⊢
    refine ⟨L, M, _, _, rfl, rfl, lE, mE, big _ (by rw [List.length_map]; show _ + 2 ≤ 1000; omega), fun N hN => ?_⟩
    have tF := tE.same (Same.new (o := .lst (ys.map V.str ++ [.str "even 0", .str "same 0 1"])) hN)
    have yF := Same.new (o := .lst (ys.map V.str ++ [.str "even 0", .str "same 0 1"])) hN _ _ yE
    have nF : (upd HE N (.lst (ys.map V.str ++ [.str "even 0", .str "same 0 1"]))) N = some (.lst ((ys ++ MORE2).map V.str)) := by
      rw [upd_same, List.map_append]
      rfl
    have nN := tE.dl_.off hN
    generalize upd HE N (.lst (ys.map V.str ++ [.str "even 0", .str "same 0 1"])) = HF at tF yF nF ⊢
    have syy : Stp (ys ++ MORE2) := fun z hz => by
      rcases List.mem_append.mp hz with q | q
      · exact sy z q
      · rcases List.mem_cons.mp q with q | q
        · rw [q, ← ev0]
          exact .ev (mem_nums.mpr (by decide))
        · rw [List.mem_singleton.mp q, ← sm01]
          exact .sm (mem_nums.mpr (by decide)) (mem_nums.mpr (by decide))
    refine ⟨dl, c, N, _, rfl, SqL.of nF, nN.1, nN.2, (by rw [List.length_map, List.length_append]; show 0 < _ + 2; omega), (by rw [List.length_map, List.length_append]; show ys.length + 2 < 1000; omega), tF.dl_, fun xm HG hxm D6 k6 => ?_⟩
    obtain ⟨mz, hmz, rfl⟩ := List.mem_map.mp hxm
    have hmS := syy mz hmz
    have tG := tF.go np1 np2 D6 k6
    have yG := k6 _ _ yF nY.1 nY.2
    clear tC tD tE tF yC yD yE yF k5 k6 D5 D6 hxm hmz nF nN hN hM mE lE hL
    -- spot = ..
    refine ⟨_, rfl, _, rfl, a, _, rfl, .inl (SqL.of (tt _ tG)), _, _, rfl, rfl, dl, c, _, rfl, (by rw [hlen]; omega), (by rw [hlen]; omega), tG.dl_, fun r2 HH q0 q1 D7 k7 => ?_⟩
    rw [hlen] at q1
    have tH := tG.go np1 np2 D7 k7
    have yH := k7 _ _ yG nY.1 nY.2
    obtain ⟨m, rfl⟩ : ∃ m : Nat, r2 = m := ⟨r2.toNat, by omega⟩
    have hm : m ≤ zs.length := by omega
    clear tG yG D7 k7
    -- wide = .. + [more]
    refine ⟨_, rfl, _, rfl, _, rfl, a, _, rfl, SqL.of (tt _ tH), fun S1 hS1 => ?_⟩
    rw [show cutV (zs.map V.str) none (some (m : Int)) = (zs.take m).map V.str by rw [cut_take, List.map_take]]
    have t1' := tH.same (Same.new (o := .lst ((zs.take m).map V.str)) hS1)
    have y1' := Same.new (o := .lst ((zs.take m).map V.str)) hS1 _ _ yH
    have g1 : (upd HH S1 (.lst ((zs.take m).map V.str))) S1 = some (.lst ((zs.take m).map V.str)) := upd_same
    generalize upd HH S1 (.lst ((zs.take m).map V.str)) = I1 at t1' y1' g1 ⊢
    have stk : ∀ z ∈ zs.take m, Rs z := fun z q => hst z (List.mem_of_mem_take q)
    have sdr : ∀ z ∈ zs.drop m, Rs z := fun z q => hst z (List.mem_of_mem_drop q)
    refine ⟨S1, rfl, ⟨_, SqL.of g1⟩, fun E1 hE1 => ?_⟩
    refine lc_s (walk_list (K := K) (a := S1)) (fun x => match x with | .str z => some (V.str (mvT z m 1)) | _ => none) hE1 (by rw [List.length_map, List.length_take]; exact bigl _ (by omega)) (fun H' s => SqL.of (s _ _ g1)) ?_ ?_
    · intro v H' hv s' OK NO ok' no
      obtain ⟨z, hz, rfl⟩ := List.mem_map.mp hv
      exact ⟨rfl, _, rfl, _, rfl, z, m, 1, rfl, stk z hz, by decide, by decide, fun H'' s'' => ok' _ _ s'' rfl⟩
    intro I2 s2 e2
    rw [fm_led] at e2
    have t2' := t1'.same s2
    have y2' := s2 _ _ y1'
    clear g1 s2 t1' y1' tH yH
    refine ⟨_, rfl, (by show 1 ≤ sizeLine; decide), fun S3 hS3 => ?_⟩
    have t3' := t2'.same (Same.new (o := .lst [V.str mz]) hS3)
    have y3' := Same.new (o := .lst [V.str mz]) hS3 _ _ y2'
    have e3 := Same.new (o := .lst [V.str mz]) hS3 _ _ e2
    have g3 : (upd I2 S3 (.lst [V.str mz])) S3 = some (.lst [V.str mz]) := upd_same
    generalize upd I2 S3 (.lst [V.str mz]) = I3 at t3' y3' e3 g3 ⊢
    refine ⟨E1, S3, _, _, rfl, rfl, e3, g3, big _ (by rw [List.length_map, List.length_map, List.length_take]; show _ + 1 ≤ 1000; omega), fun L4 hL4 => ?_⟩
    have t4' := t3'.same (Same.new (o := .lst (((zs.take m).map fun z => mvT z m 1).map V.str ++ [V.str mz])) hL4)
    have y4' := Same.new (o := .lst (((zs.take m).map fun z => mvT z m 1).map V.str ++ [V.str mz])) hL4 _ _ y3'
    have e4 : (upd I3 L4 (.lst (((zs.take m).map fun z => mvT z m 1).map V.str ++ [V.str mz]))) L4 = some (.lst (((zs.take m).map fun z => mvT z m 1).map V.str ++ [V.str mz])) := upd_same
    generalize upd I3 L4 (.lst (((zs.take m).map fun z => mvT z m 1).map V.str ++ [V.str mz])) = I4 at t4' y4' e4 ⊢
    clear t2' t3' y2' y3' e2 e3 g3
    -- wide = wide + ..
    refine ⟨_, rfl, _, rfl, _, rfl, _, rfl, a, _, rfl, SqL.of (tt _ t4'), fun S5 hS5 => ?_⟩
    rw [show cutV (zs.map V.str) (some (m : Int)) none = (zs.drop m).map V.str by rw [cut_drop, List.map_drop]]
    have t5' := t4'.same (Same.new (o := .lst ((zs.drop m).map V.str)) hS5)
    have y5' := Same.new (o := .lst ((zs.drop m).map V.str)) hS5 _ _ y4'
    have e5 := Same.new (o := .lst ((zs.drop m).map V.str)) hS5 _ _ e4
    have g5 : (upd I4 S5 (.lst ((zs.drop m).map V.str))) S5 = some (.lst ((zs.drop m).map V.str)) := upd_same
    generalize upd I4 S5 (.lst ((zs.drop m).map V.str)) = I5 at t5' y5' e5 g5 ⊢
    refine ⟨S5, rfl, ⟨_, SqL.of g5⟩, fun E2 hE2 => ?_⟩
    refine lc_s (walk_list (K := K) (a := S5)) (fun x => match x with | .str z => some (V.str (mvT z m 1)) | _ => none) hE2 (by rw [List.length_map, List.length_drop]; exact bigl _ (by omega)) (fun H' s => SqL.of (s _ _ g5)) ?_ ?_
    · intro v H' hv s' OK NO ok' no
      obtain ⟨z, hz, rfl⟩ := List.mem_map.mp hv
      exact ⟨rfl, _, rfl, _, rfl, z, m, 1, rfl, sdr z hz, by decide, by decide, fun H'' s'' => ok' _ _ s'' rfl⟩
    intro I6 s6 e6
    rw [fm_led] at e6
    have t6' := t5'.same s6
    have y6' := s6 _ _ y5'
    have e7 := s6 _ _ e5
    clear g5 s6 t5' y5' t4' y4' e4 e5
    refine ⟨L4, E2, _, _, rfl, rfl, e7, e6, big _ (by rw [List.length_append, List.length_map, List.length_map, List.length_map, List.length_map, List.length_take, List.length_drop]; show _ + 1 + _ ≤ 1000; omega), fun L5 hL5 => ?_⟩
    have t7' := t6'.same (Same.new (o := .lst (((zs.take m).map fun z => mvT z m 1).map V.str ++ [V.str mz] ++ ((zs.drop m).map fun z => mvT z m 1).map V.str)) hL5)
    have y7' := Same.new (o := .lst (((zs.take m).map fun z => mvT z m 1).map V.str ++ [V.str mz] ++ ((zs.drop m).map fun z => mvT z m 1).map V.str)) hL5 _ _ y6'
    have g7 : (upd I6 L5 (.lst (((zs.take m).map fun z => mvT z m 1).map V.str ++ [V.str mz] ++ ((zs.drop m).map fun z => mvT z m 1).map V.str))) L5 = some (.lst ((moreT zs m mz).map V.str)) := by
      rw [upd_same, ← more_eq, List.map_append, List.map_cons, List.append_assoc]
      rfl
    generalize upd I6 L5 (.lst (((zs.take m).map fun z => mvT z m 1).map V.str ++ [V.str mz] ++ ((zs.drop m).map fun z => mvT z m 1).map V.str)) = I7 at t7' y7' g7 ⊢
    clear e6 e7 t6' y6' hE1 hE2 hS1 hS3 hS5 hL4 hL5
    have smo := stp_more (n := m) hst hgo z12 hmS
    have lmo := more_len (z := mz) hm
    generalize hmo : moreT zs m mz = wd at g7 smo lmo
    dsimp only [gName]
    refine seq_first (fun σ H' => σ = [some (.ref dl), some (.ref W), some (.ref x), some (.ref a), some (.ref Y), some (.ref D1), some (.ref D2), some (.str (dueOf nm wo wd)), some (.ref L5), some (.str mz), some (.int m), none] ∧ Same I7 H') ?rest2 fun rest2 => ?due2
    case due2 =>
      refine ⟨_, rfl, L5, wd, rfl, SqL.of g7, by omega, smo, fun H' s' => ⟨_, rfl, ite3 (fun h => ?_) (fun h => ?_)⟩⟩
      · obtain ⟨dx, T1, T2, T3, T4, hx, _⟩ := (kk _ (t7'.same s')).at_
        refine ⟨_, rfl, x, C, dx, _, .str nm, rfl, hx, cl, nn, rfl, _, rfl, _, rfl, x, C, dx, _, .str wo, rfl, hx, cl, nw, rfl, (by show 3 ≤ sizeLine; decide), fun T2' hT2 => ?_⟩
        refine ⟨T2', L5, nm, wo, wd, rfl, upd_same, SqL.of (Same.new hT2 _ _ (s' _ _ g7)), hnm, ok.wl, by omega, fun z hz => (smo.txs z hz).1, ?_⟩
        refine rest2 _ _ ⟨?_, s'.trans (Same.new hT2)⟩
        rw [show dueOf nm wo wd = readerText nm wo wd from if_pos h]
        rfl
      · refine rest2 _ _ ⟨?_, s'⟩
        rw [show dueOf nm wo wd = "texts" from if_neg (by rw [h]; exact Bool.false_ne_true)]
        rfl
    case rest2 =>
      rintro σ I8 ⟨rfl, s8⟩
      have t8' := t7'.same s8
      have y8' := s8 _ _ y7'
      clear t7' y7' g7 s8
      refine ⟨t8'.tb, fun I9 eN2 T9 => ?_⟩
      have t9' := t8'.ext eN2 T9
      have y9' := eN2 _ _ y8' (fun ps z => by cases z)
      have ok9 := kk _ t9'
      refine the_of (nm := nm) (wo := wo) (ws := wd) ok.nmok ok.tn ok.wok ok.wl (by omega) smo hnm (fun J1 sJ1 => ?key2) fun E3 Q3 mk => ?run2
      case run2 =>
        obtain ⟨dx, T1, T2, T3, T4, hx, _⟩ := id ok9.at_
        subst hmo
        exact ⟨_, rfl, x, dx, _, rfl, hx, rfl, _, rfl, _, rfl, rfl, x, nm, wo, mz, zs, m, rfl, ok9, hm, smo.txs, mk⟩
      case key2 =>
        have tJ := t9'.same sJ1
        have yJ := sJ1 _ _ y9'
        have okJ := kk _ tJ
        refine ⟨_, rfl, rfl, _, rfl, ?_⟩
        rw [decide_eq_true rfl]
        refine ifT rfl ?_
        obtain ⟨dx, T1, T2, T3, T4, hx, hT⟩ := id okJ.at_
        refine ⟨_, rfl, x, dx, _, rfl, hx, x, nm, wo, zs, rfl, okJ.at_, hnm, ok.wl, by omega, fun z hz => (hst.txs z hz).1, _, rfl, ?_⟩
        refine ⟨_, rfl, Y, a, nm, wo, zs, rfl, yJ, SqL.of (tt _ tJ), hnm, ok.wl, by omega, fun z hz => (hst.txs z hz).1, rfl, ?_⟩
        rw [decide_eq_true rfl]
        exact k _ tJ.dl_ tJ.kn tJ.tb
end
end My

set_option Elab.async false
set_option linter.all false
set_option maxRecDepth 100000
set_option maxHeartbeats 4000000
/-! a reader's text read again -/
namespace My
open PySem L2
abbrev WORDR : List Str := ["a", "r", "read", "once"]
abbrev WAYS : List Str := ["once", "again"]
def hdR (nm wo : Str) : Str := (((Str.empty ++ ("reader " : Str)) ++ nm) ++ (" " : Str)) ++ wo
theorem w4 : WORDR.all (fun nm => nmS nm && PyData.strOk nm && decide (nm.length ≤ 4) && shortS nm) = true := by decide +kernel
theorem w2 : WAYS.all (fun wo => wdS wo && PyData.strOk wo && decide (wo.length ≤ 5) && shortS wo) = true := by decide +kernel
theorem wh : WORDR.all (fun nm => WAYS.all fun wo => decide (Txt.split (hdR nm wo) " " = ([("reader" : Str), nm, wo] : List Str)) && decide (58 ∉ (hdR nm wo).cps.toList)) = true := by decide +kernel
theorem w4_of {nm : Str} (h : nm ∈ WORDR) : nmS nm = true ∧ PyData.strOk nm = true ∧ nm.length ≤ 4 ∧ shortS nm = true := by
  have q := List.all_eq_true.mp w4 nm h
  simp only [Bool.and_eq_true, decide_eq_true_eq] at q
  exact ⟨q.1.1.1, q.1.1.2, q.1.2, q.2⟩
theorem w2_of {wo : Str} (h : wo ∈ WAYS) : wdS wo = true ∧ PyData.strOk wo = true ∧ wo.length ≤ 5 ∧ shortS wo = true := by
  have q := List.all_eq_true.mp w2 wo h
  simp only [Bool.and_eq_true, decide_eq_true_eq] at q
  exact ⟨q.1.1.1, q.1.1.2, q.1.2, q.2⟩
theorem read_back {nm wo : Str} {zs : List Str} (hn : nm ∈ WORDR) (hw : wo ∈ WAYS) (hst : Stp zs) (hz : zs ≠ []) : sHead (readerText nm wo zs) = [("reader" : Str), nm, wo] ∧ sTail (readerText nm wo zs) = zs ∧ rwB (readerText nm wo zs) = true := by
  have q := List.all_eq_true.mp (List.all_eq_true.mp wh nm hn) wo hw
  simp only [Bool.and_eq_true, decide_eq_true_eq] at q
  obtain ⟨q1, q2⟩ := q
  obtain ⟨n1, n2, n3, n4⟩ := w4_of hn
  obtain ⟨v1, v2, v3, v4⟩ := w2_of hw
  have e1 : Txt.partition (readerText nm wo zs) ": " = ((hdR nm wo, (": " : Str), Txt.join ", " zs) : Str × Str × Str) := by
    unfold readerText
    exact TL.partition_app (s := 58) (S := [32]) (by decide +kernel) q2
  have e2 : Txt.split (Txt.join ", " zs) ", " = zs := TL.split_join (s := 44) (S := [32]) (by decide +kernel) (by decide +kernel) hz fun p hp => by
    obtain ⟨ws, ns, g⟩ := (hst p hp).good
    exact g.com
  have h1 : sHead (readerText nm wo zs) = [("reader" : Str), nm, wo] := by
    unfold sHead
    rw [e1]
    exact q1
  have h2 : sTail (readerText nm wo zs) = zs := by
    unfold sTail
    rw [e1]
    exact e2
  refine ⟨h1, h2, ?_⟩
  unfold rwB hasCol
  rw [e1, h1, h2]
  have a1 : (!decide (V.str (": " : Str) = V.str "")) = true := by decide +kernel
  have a2 : ((zs.map V.str).map stepV).all id = true := by
    rw [List.all_eq_true]
    intro b hb
    obtain ⟨v, hv, rfl⟩ := List.mem_map.mp hb
    obtain ⟨z, hz, rfl⟩ := List.mem_map.mp hv
    exact (hst z hz).stepOk.2.1
  have a3 : nmV (.str (([("reader" : Str), nm, wo] : List Str).getD 1 "")) = true := n1
  have a6 : inV (.str (([("reader" : Str), nm, wo] : List Str).getD 2 "")) (WDS.map V.str) = true := v1
  have a4 : decide (((([("reader" : Str), nm, wo] : List Str).length : Nat) : Int) = 3) = true := rfl
  have a5 : decide (V.str (([("reader" : Str), nm, wo] : List Str).headD "") = V.str "reader") = true := by
    show decide (V.str ("reader" : Str) = V.str "reader") = true
    exact decide_eq_true rfl
  show ((!decide (V.str (": " : Str) = V.str "")) && (decide (((([("reader" : Str), nm, wo] : List Str).length : Nat) : Int) = 3) && (decide (V.str (([("reader" : Str), nm, wo] : List Str).headD "") = V.str "reader") && (nmV (.str (([("reader" : Str), nm, wo] : List Str).getD 1 "")) && (inV (.str (([("reader" : Str), nm, wo] : List Str).getD 2 "")) (WDS.map V.str) && ((zs.map V.str).map stepV).all id))))) = true
  rw [a1, a2, a3, a4, a5, a6]
  rfl
/-! a reader's text is made of signs, and short -/
theorem ok_list (x : Str) : PyData.strOk x = (TL.tl x).all (fun c => decide (c < 0x110000)) := by
  unfold PyData.strOk
  exact (Array.all_toList ..).symm
theorem joinL_all {S : List Nat} (hS : S.all (fun c => decide (c < 0x110000)) = true) : ∀ ps : List (List Nat), (∀ p ∈ ps, p.all (fun c => decide (c < 0x110000)) = true) → (TL.joinL S ps).all (fun c => decide (c < 0x110000)) = true
  | [], _ => rfl
  | [p], h => h p (by simp)
  | p :: q :: r, h => by
    show (p ++ (S ++ TL.joinL S (q :: r))).all _ = true
    rw [List.all_append, List.all_append, h p (by simp), hS, joinL_all hS (q :: r) fun z hz => h z (List.mem_cons_of_mem _ hz)]
    rfl
theorem ok_readerText {nm wo : Str} {zs : List Str} (hn : PyData.strOk nm = true) (hw : PyData.strOk wo = true) (hz : ∀ z ∈ zs, PyData.strOk z = true) : PyData.strOk (readerText nm wo zs) = true := by
  have j : PyData.strOk (Txt.join ", " zs) = true := by
    rw [ok_list, TL.join_eq, TL.tl_join]
    refine joinL_all (by decide +kernel) _ fun p hp => ?_
    obtain ⟨z, hzz, rfl⟩ := List.mem_map.mp hp
    have q := hz z hzz
    rw [ok_list] at q
    exact q
  have e : PyData.strOk (Str.empty ++ ("reader " : Str)) = true := by decide +kernel
  have e2 : PyData.strOk (": " : Str) = true := by decide +kernel
  have e3 : PyData.strOk (" " : Str) = true := by decide +kernel
  rw [ok_list] at j e e2 e3 hn hw ⊢
  unfold readerText
  rw [TL.tl_append, TL.tl_append, TL.tl_append, TL.tl_append, TL.tl_append, List.all_append, List.all_append, List.all_append, List.all_append, List.all_append, e, hn, e3, hw, e2, j]
  rfl
theorem len_readerText {nm wo : Str} {zs : List Str} (hn : nm.length ≤ 1000) (hw : wo.length ≤ 1000) (h100 : zs.length ≤ 100) (hz : ∀ z ∈ zs, z.length ≤ 1000) : (readerText nm wo zs).length + 2 ≤ sizeLine := by
  have hs := sum_le hz
  have hm : 1000 * zs.length ≤ 100000 := by omega
  have hj : (Txt.join ", " zs).length ≤ (zs.map (·.length)).sum + zs.length * 2 := by
    show (Builtin.Str.glued ", " zs).length ≤ _
    rw [StrLaws.glued_eq_join]
    exact StrLaws.join_length_le ", " zs
  have l5 : (Str.empty ++ ("reader " : Str)).length = 7 := by decide +kernel
  have l2 : (": " : Str).length = 2 := by decide +kernel
  have l1 : (" " : Str).length = 1 := by decide +kernel
  unfold readerText
  rw [Str.length_append, Str.length_append, Str.length_append, Str.length_append, Str.length_append, l5, l2, l1]
  have : 7 + nm.length + 1 + wo.length + 2 + (Txt.join ", " zs).length + 2 ≤ 200000 := by omega
  exact Nat.le_trans this (by decide)
end My

set_option Elab.async false
set_option linter.all false
set_option maxRecDepth 100000
set_option maxHeartbeats 4000000
/-! the lots of a kind, told by the words of its texts -/
namespace My
open PySem L2
theorem nodup_addKey {ks : List Str} {k : Str} (h : ks.Nodup) : (addKey ks k).Nodup := by
  unfold addKey
  by_cases hk : k ∈ ks
  · rw [if_pos hk]
    exact h
  · rw [if_neg hk]
    refine List.nodup_append.mpr ⟨h, by simp, fun a ha b hb e => ?_⟩
    rw [List.mem_singleton.mp hb] at e
    exact hk (e ▸ ha)
/-- the words of a role in a step -/
def stepWs (role : Str) (ps : List (Str × Str)) : List Str := (ps.filter fun p => decide (V.str p.2 = V.str role)).map (·.1)
theorem lotW_fold (role : Str) : ∀ (ps : List (Str × Str)) (ks : List Str), (∀ y, y ∈ ps.foldl (lotW role) ks ↔ y ∈ ks ∨ y ∈ stepWs role ps) ∧ (ks.Nodup → (ps.foldl (lotW role) ks).Nodup)
  | [], ks => ⟨fun y => by simp [stepWs], id⟩
  | p :: r, ks => by
    obtain ⟨h1, h2⟩ := lotW_fold role r (lotW role ks p)
    refine ⟨fun y => ?_, fun h => h2 ?_⟩
    · rw [List.foldl_cons, h1 y]
      unfold stepWs
      rw [List.filter_cons]
      unfold lotW
      by_cases h : decide (V.str p.2 = V.str role) = true
      · rw [if_pos h, if_pos h, mem_addKey, List.map_cons, List.mem_cons, or_assoc]
      · rw [if_neg h, if_neg h]
    · unfold lotW
      split
      · exact nodup_addKey h
      · exact h
theorem lot_fold (role : Str) : ∀ (zs ks : List Str), (∀ y, y ∈ zs.foldl (lotT role) ks ↔ y ∈ ks ∨ ∃ z ∈ zs, y ∈ stepWs role (prs z)) ∧ (ks.Nodup → (zs.foldl (lotT role) ks).Nodup)
  | [], ks => ⟨fun y => by simp, id⟩
  | z :: r, ks => by
    obtain ⟨h1, h2⟩ := lot_fold role r (lotT role ks z)
    obtain ⟨g1, g2⟩ := lotW_fold role (prs z) ks
    refine ⟨fun y => ?_, fun h => h2 (g2 h)⟩
    rw [List.foldl_cons, h1 y]
    unfold lotT
    rw [g1 y, or_assoc]
    simp
theorem mem_words {ws : List Str} {sp : Nat} {zs : List Str} {y : Str} : y ∈ wordsAt ws sp zs ↔ ∃ z ∈ zs, inV (.str (hw z)) (ws.map V.str) = true ∧ y = (Txt.split z " ").getD sp "" := by
  unfold wordsAt
  rw [List.mem_map]
  constructor
  · rintro ⟨z, hz, rfl⟩
    obtain ⟨a, b⟩ := List.mem_filter.mp hz
    exact ⟨z, a, b, rfl⟩
  · rintro ⟨z, a, b, rfl⟩
    exact ⟨z, List.mem_filter.mpr ⟨a, b⟩, rfl⟩
def oneW (ws : List Str) (sp : Nat) (z : Str) : List Str := if inV (.str (hw z)) (ws.map V.str) = true then [(Txt.split z " ").getD sp ""] else []
theorem mem_one {ws : List Str} {sp : Nat} {z y : Str} : y ∈ oneW ws sp z ↔ inV (.str (hw z)) (ws.map V.str) = true ∧ y = (Txt.split z " ").getD sp "" := by
  unfold oneW
  by_cases h : inV (.str (hw z)) (ws.map V.str) = true
  · rw [if_pos h, List.mem_singleton]
    exact ⟨fun q => ⟨h, q⟩, fun q => q.2⟩
  · rw [if_neg h]
    simp [h]
/-- what a step tells of slots, parts, counters; the slot that it reads -/
def lotsB (z : Str) (s p c r : List Str) : Bool := decide (stepWs "slot" (prs z) = s) && (decide (stepWs "part" (prs z) = p) && (decide (stepWs "counter" (prs z) = c) && (decide (oneW ["read"] 1 z = r) && (decide (oneW ["use"] 2 z = p) && (decide (oneW ["num"] 1 z = c) &&
  ((!inV (.str (hw z)) ((["read"] : List Str).map V.str) || decide (1 < (Txt.split z " ").length)) && ((!inV (.str (hw z)) ((["use"] : List Str).map V.str) || decide (2 < (Txt.split z " ").length)) && (!inV (.str (hw z)) ((["num"] : List Str).map V.str) || decide (1 < (Txt.split z " ").length)))))))))
theorem lb_plain : PLAIN.all (fun z => lotsB z [] [] [] []) = true := by decide +kernel
theorem lb_rd : NAMES.all (fun n => lotsB (tRd n) [n] [] [] [n]) = true := by decide +kernel
theorem lb_lk : NAMES.all (fun n => lotsB (tLk n) [n] [] [] []) = true := by decide +kernel
theorem lb_mk : NAMES.all (fun n => lotsB (tMk n) [n] [] [] []) = true := by decide +kernel
theorem lb_nm : NAMES.all (fun n => lotsB (tNm n) [] [] [n] []) = true := by decide +kernel
theorem lb_us : NAMES.all (fun a => NAMES.all fun b => lotsB (tUs a b) [a] [b] [] []) = true := by decide +kernel
theorem lb_ev : NUMS.all (fun k => lotsB (tEv k) [] [] [] []) = true := by decide +kernel
theorem lb_sm : NUMS.all (fun j => NUMS.all fun k => lotsB (tSm j k) [] [] [] []) = true := by decide +kernel
structure LotsZ (z : Str) (s p c r : List Str) : Prop where
  sl : stepWs "slot" (prs z) = s
  pa : stepWs "part" (prs z) = p
  co : stepWs "counter" (prs z) = c
  rd : oneW ["read"] 1 z = r
  us : oneW ["use"] 2 z = p
  nm : oneW ["num"] 1 z = c
  l1 : inV (.str (hw z)) ((["read"] : List Str).map V.str) = true → 1 < (Txt.split z " ").length
  l2 : inV (.str (hw z)) ((["use"] : List Str).map V.str) = true → 2 < (Txt.split z " ").length
  l3 : inV (.str (hw z)) ((["num"] : List Str).map V.str) = true → 1 < (Txt.split z " ").length
theorem LotsZ.of {z : Str} {s p c r : List Str} (h : lotsB z s p c r = true) : LotsZ z s p c r := by
  unfold lotsB at h
  simp only [Bool.and_eq_true, Bool.or_eq_true, Bool.not_eq_true', decide_eq_true_eq] at h
  obtain ⟨h1, h2, h3, h4, h5, h6, h7, h8, h9⟩ := h
  exact ⟨h1, h2, h3, h4, h5, h6, fun q => h7.resolve_left (by rw [q]; simp), fun q => h8.resolve_left (by rw [q]; simp), fun q => h9.resolve_left (by rw [q]; simp)⟩
/-- a step that is behind those it stands on -/
theorem run_at : ∀ (zs : List Str) (st : Rst), rrun 0 ([], []) zs = some st → ∀ z ∈ zs, ∃ ys st', (∀ y ∈ ys, y ∈ zs) ∧ rrun 0 ([], []) ys = some st' ∧ rbad st' z = false := by
  intro zs
  generalize hl : zs.length = l
  induction l generalizing zs with
  | zero =>
    intro st _ z hz
    have e : zs = [] := List.length_eq_zero_iff.mp hl
    subst e
    cases hz
  | succ l ih =>
    intro st h z hz
    have hne : zs ≠ [] := fun e => by rw [e] at hl; cases hl
    have e := List.dropLast_concat_getLast hne
    generalize zs.getLast hne = z' at e
    generalize zs.dropLast = ys at e
    have ly : ys.length = l := by
      have q := congrArg List.length e
      rw [List.length_append] at q
      simp at q
      omega
    rw [← e] at h hz ⊢
    obtain ⟨st', r1, r2⟩ := run_app ys z' st h
    rcases List.mem_append.mp hz with q | q
    · obtain ⟨xs, st2, g1, g2, g3⟩ := ih ys ly st' r1 z q
      exact ⟨xs, st2, fun y hy => List.mem_append_left _ (g1 y hy), g2, g3⟩
    · rw [List.mem_singleton.mp q]
      exact ⟨ys, st', fun y hy => List.mem_append_left _ hy, r1, r2⟩
theorem rd_mem {zs : List Str} {st : Rst} (h : rrun 0 ([], []) zs = some st) {z n : Str} (hz : z ∈ zs) (hb : ∀ st : Rst, rbad st z = !decide (n ∈ st.1)) : ∃ y ∈ zs, readOf y = some n := by
  obtain ⟨ys, st', g1, g2, g3⟩ := run_at zs st h z hz
  rw [hb st'] at g3
  have hm : n ∈ st'.1 := by
    cases q : decide (n ∈ st'.1) with
    | true => exact of_decide_eq_true q
    | false =>
      rw [q] at g3
      cases g3
  obtain ⟨y, hy, e⟩ := ((run_inv ys st' g2).1 n).mp hm
  exact ⟨y, g1 y hy, e⟩
theorem read_one {z y : Str} (h : readOf z = some y) : y ∈ oneW ["read"] 1 z := by
  unfold readOf at h
  by_cases q : decide (V.str (hw z) = V.str "read") = true
  · rw [if_pos q] at h
    rw [mem_one]
    have e := vstr q
    refine ⟨by rw [e]; decide +kernel, ?_⟩
    exact (Option.some.inj h).symm
  · rw [if_neg q] at h
    cases h
/-- what is told of each drawn step -/
theorem Rs.lots {z : Str} (h : Rs z) : ∃ s p c r, LotsZ z s p c r ∧ (∀ y ∈ r, y ∈ s) ∧ (s = r ∨ ∃ n, s = [n] ∧ ∀ st : Rst, rbad st z = !decide (n ∈ st.1)) := by
  cases h with
  | plain h => exact ⟨_, _, _, _, LotsZ.of (List.all_eq_true.mp lb_plain z h), fun y q => q, .inl rfl⟩
  | @rd n h => exact ⟨_, _, _, _, LotsZ.of (List.all_eq_true.mp lb_rd n h), fun y q => q, .inl rfl⟩
  | @lk n h => exact ⟨_, _, _, _, LotsZ.of (List.all_eq_true.mp lb_lk n h), fun y q => (by cases q), .inr ⟨n, rfl, fun st => (rb_lk h).1⟩⟩
  | @mk n h => exact ⟨_, _, _, _, LotsZ.of (List.all_eq_true.mp lb_mk n h), fun y q => (by cases q), .inr ⟨n, rfl, fun st => (rb_mk h).1⟩⟩
  | @nm n h => exact ⟨_, _, _, _, LotsZ.of (List.all_eq_true.mp lb_nm n h), fun y q => q, .inl rfl⟩
  | @us a b ha hb => exact ⟨_, _, _, _, LotsZ.of (List.all_eq_true.mp (List.all_eq_true.mp lb_us a ha) b hb), fun y q => (by cases q), .inr ⟨a, rfl, fun st => (rb_us ha hb).1⟩⟩
  | @ev k h => exact ⟨_, _, _, _, LotsZ.of (List.all_eq_true.mp lb_ev k h), fun y q => q, .inl rfl⟩
  | @sm j k hj hk => exact ⟨_, _, _, _, LotsZ.of (List.all_eq_true.mp (List.all_eq_true.mp lb_sm j hj) k hk), fun y q => q, .inl rfl⟩
theorem lots_of {zs : List Str} (hst : Stp zs) (hgo : goR zs = true) : ((lotS "slot" zs).Nodup ∧ ∀ y, y ∈ lotS "slot" zs ↔ y ∈ wordsAt ["read"] 1 zs) ∧ ((lotS "part" zs).Nodup ∧ ∀ y, y ∈ lotS "part" zs ↔ y ∈ wordsAt ["use"] 2 zs) ∧ ((lotS "counter" zs).Nodup ∧ ∀ y, y ∈ lotS "counter" zs ↔ y ∈ wordsAt ["num"] 1 zs) := by
  obtain ⟨st0, hrun⟩ := goR_run hgo
  refine ⟨⟨(lot_fold "slot" zs []).2 List.nodup_nil, fun y => ?_⟩, ⟨(lot_fold "part" zs []).2 List.nodup_nil, fun y => ?_⟩, ⟨(lot_fold "counter" zs []).2 List.nodup_nil, fun y => ?_⟩⟩
  · unfold lotS
    rw [(lot_fold "slot" zs []).1 y, mem_words]
    constructor
    · rintro (h | ⟨z, hz, h⟩)
      · cases h
      · obtain ⟨s, p, c, r, L, sub, e⟩ := (hst z hz).lots
        rw [L.sl] at h
        rcases e with e | ⟨n, e, hb⟩
        · rw [e, ← L.rd, mem_one] at h
          exact ⟨z, hz, h⟩
        · rw [e] at h
          rw [List.mem_singleton.mp h]
          obtain ⟨x, hx, q⟩ := rd_mem hrun hz hb
          exact ⟨x, hx, mem_one.mp (read_one q)⟩
    · rintro ⟨z, hz, h⟩
      obtain ⟨s, p, c, r, L, sub, e⟩ := (hst z hz).lots
      refine .inr ⟨z, hz, ?_⟩
      rw [L.sl]
      refine sub y ?_
      rw [← L.rd, mem_one]
      exact h
  · unfold lotS
    rw [(lot_fold "part" zs []).1 y, mem_words]
    constructor
    · rintro (h | ⟨z, hz, h⟩)
      · cases h
      · obtain ⟨s, p, c, r, L, sub, e⟩ := (hst z hz).lots
        rw [L.pa, ← L.us, mem_one] at h
        exact ⟨z, hz, h⟩
    · rintro ⟨z, hz, h⟩
      obtain ⟨s, p, c, r, L, sub, e⟩ := (hst z hz).lots
      refine .inr ⟨z, hz, ?_⟩
      rw [L.pa, ← L.us, mem_one]
      exact h
  · unfold lotS
    rw [(lot_fold "counter" zs []).1 y, mem_words]
    constructor
    · rintro (h | ⟨z, hz, h⟩)
      · cases h
      · obtain ⟨s, p, c, r, L, sub, e⟩ := (hst z hz).lots
        rw [L.co, ← L.nm, mem_one] at h
        exact ⟨z, hz, h⟩
    · rintro ⟨z, hz, h⟩
      obtain ⟨s, p, c, r, L, sub, e⟩ := (hst z hz).lots
      refine .inr ⟨z, hz, ?_⟩
      rw [L.co, ← L.nm, mem_one]
      exact h
theorem spot_ok {zs : List Str} (hst : Stp zs) : (∀ z ∈ zs, inV (.str (hw z)) ((["read"] : List Str).map V.str) = true → 1 < (Txt.split z " ").length) ∧ (∀ z ∈ zs, inV (.str (hw z)) ((["use"] : List Str).map V.str) = true → 2 < (Txt.split z " ").length) ∧
    (∀ z ∈ zs, inV (.str (hw z)) ((["num"] : List Str).map V.str) = true → 1 < (Txt.split z " ").length) := by
  refine ⟨fun z hz => ?_, fun z hz => ?_, fun z hz => ?_⟩
  · obtain ⟨s, p, c, r, L, _⟩ := (hst z hz).lots
    exact L.l1
  · obtain ⟨s, p, c, r, L, _⟩ := (hst z hz).lots
    exact L.l2
  · obtain ⟨s, p, c, r, L, _⟩ := (hst z hz).lots
    exact L.l3
end My

set_option Elab.async false
set_option linter.all false
set_option maxRecDepth 100000
set_option maxHeartbeats 4000000
/-! sorted texts, each once: told by their members -/
namespace My
open PySem L2
open PyProof.Rows PySem PySem.Spec
theorem len_le : ∀ {m l : List Str}, m.Nodup → (∀ x ∈ m, x ∈ l) → m.length ≤ l.length
  | [], _, _, _ => Nat.zero_le _
  | x :: m, l, nd, sub => by
    obtain ⟨n1, n2⟩ := List.nodup_cons.mp nd
    have hx : x ∈ l := sub x List.mem_cons_self
    have pm := (List.perm_cons_erase hx).length_eq
    rw [List.length_cons] at pm
    have := len_le (l := l.erase x) n2 fun y hy => (List.mem_erase_of_ne (fun e : y = x => n1 (by rw [← e]; exact hy))).mpr (sub y (List.mem_cons_of_mem _ hy))
    rw [List.length_cons]
    omega
def leS (a b : Str) : Prop := ¬ (b.cps.toList < a.cps.toList)
theorem leS_trans {a b c : Str} (h : leS a b) (g : leS b c) : leS a c := by
  unfold leS at *
  rw [List.not_lt] at *
  exact List.le_trans h g
theorem leS_anti {a b : Str} (h : leS a b) (g : leS b a) : a = b := by
  unfold leS at *
  rw [List.not_lt] at *
  have e := List.le_antisymm h g
  cases a
  cases b
  congr
  exact Array.toList_inj.mp e
theorem rising_pair : ∀ (l : List Str) (p : Str), risingS p l = true → (p :: l).Pairwise leS
  | [], p, _ => List.pairwise_singleton ..
  | x :: r, p, h => by
    have h' : (!ltCps x.cps.toList p.cps.toList && risingS x r) = true := h
    obtain ⟨h1, h2⟩ := Bool.and_eq_true_iff.mp h'
    have ih := rising_pair r x h2
    have px : leS p x := fun z => by
      rw [PyProof.Rows.ltCps_eq, decide_eq_true z] at h1
      cases h1
    refine List.pairwise_cons.mpr ⟨fun y hy => ?_, ih⟩
    rcases List.mem_cons.mp hy with e | hy
    · rw [e]
      exact px
    · exact leS_trans px ((List.pairwise_cons.mp ih).1 y hy)
theorem sorted_pair : ∀ (l : List Str), sortedS l = true → l.Pairwise leS
  | [], _ => List.Pairwise.nil
  | x :: r, h => rising_pair r x h
theorem uniq : ∀ {a b : List Str}, a.Pairwise leS → b.Pairwise leS → a.Perm b → a = b
  | [], b, _, _, pm => (List.nil_perm.mp pm).symm
  | x :: r, [], _, _, pm => by
    have := pm.length_eq
    simp at this
  | x :: r, y :: s, ha, hb, pm => by
    have e : x = y := by
      by_cases h : x = y
      · exact h
      · have h1 : x ∈ s := (List.mem_cons.mp (pm.mem_iff.mp List.mem_cons_self)).resolve_left h
        have h2 : y ∈ r := (List.mem_cons.mp (pm.mem_iff.mpr List.mem_cons_self)).resolve_left (fun z => h z.symm)
        exact leS_anti ((List.pairwise_cons.mp ha).1 y h2) ((List.pairwise_cons.mp hb).1 x h1)
    subst e
    rw [uniq (List.pairwise_cons.mp ha).2 (List.pairwise_cons.mp hb).2 (List.Perm.cons_inv pm)]
theorem sorted_uniq {a b : List Str} (ha : sortedS a = true) (hb : sortedS b = true) (na : a.Nodup) (nb : b.Nodup) (h : ∀ y, y ∈ a ↔ y ∈ b) : a = b :=
  uniq (sorted_pair a ha) (sorted_pair b hb) (perm_of_sub nb (fun x hx => (h x).mpr hx) (len_le na fun x hx => (h x).mp hx))
end My

set_option Elab.async false
set_option linter.all false
set_option maxRecDepth 100000
set_option maxHeartbeats 4000000
/-! rows of texts as they are shown -/
namespace My
open PySem L2
theorem shortS.l {z : Str} (h : shortS z = true) : PyData.leavesShort 40 (.str z) = true ∧ z.cps.size ≤ 30 := by
  unfold shortS at h
  simp only [Bool.and_eq_true, decide_eq_true_eq] at h
  exact h
theorem dep_strs' : ∀ zs : List Str, PyData.depthAll (zs.map PyData.str) = 0
  | [] => by simp [PyData.depthAll]
  | n :: r => by simp [PyData.depthAll, PyData.depth, dep_strs' r]
theorem short_strs : ∀ zs : List Str, (∀ z ∈ zs, shortS z = true) → PyData.leavesShortAll 40 (zs.map .str) = true ∧ PyData.showableAll (zs.map .str) = true ∧ PyData.bulkAll (zs.map .str) ≤ 31 * zs.length ∧ PyData.hasDictAll (zs.map .str) = false
  | [], _ => ⟨rfl, rfl, Nat.le_refl _, rfl⟩
  | z :: r, h => by
    obtain ⟨h1, h2, h3, h4⟩ := short_strs r fun y hy => h y (List.mem_cons_of_mem _ hy)
    obtain ⟨hz, hz2⟩ := shortS.l (h z List.mem_cons_self)
    refine ⟨?_, ?_, ?_, ?_⟩
    · simp only [List.map_cons, PyData.leavesShortAll, h1, Bool.and_true, hz]
    · simp only [List.map_cons, PyData.showableAll, h2, Bool.and_true, PyData.showable]
    · simp only [List.map_cons, PyData.bulkAll, PyData.bulk, List.length_cons]
      omega
    · simp only [List.map_cons, PyData.hasDictAll, PyData.hasDict, h4, Bool.or_false]
/-- a row of texts as a tuple -/
abbrev dS (zs : List Str) : PyData := .tuple (zs.map .str)
theorem show_dS {zs : List Str} (h : ∀ z ∈ zs, shortS z = true) (hl : zs.length ≤ 1000) : (dS zs).showable = true ∧ (dS zs).hasDict = false ∧ (dS zs).depth ≤ 60 ∧ (dS zs).shown.length ≤ sizeLine := by
  obtain ⟨b1, b2, b3, b4⟩ := short_strs zs h
  refine ⟨?_, ?_, ?_, ?_⟩
  · simp only [PyData.showable, b2]
  · simp only [PyData.hasDict, b4]
  · simp [PyData.depth, dep_strs']
  · refine Nat.le_trans (PySem.PyData.shown_le_bulk 40 (by decide) (dS zs) (by simp only [PyData.leavesShort, b1])) ?_
    simp only [PyData.bulk]
    rw [sizeLine_eq]
    omega
/-- two rows -/
abbrev dP (zs ys : List Str) : PyData := .tuple [dS zs, dS ys]
theorem show_dP {zs ys : List Str} (h : ∀ z ∈ zs, shortS z = true) (hl : zs.length ≤ 1000) (g : ∀ z ∈ ys, shortS z = true) (gl : ys.length ≤ 1000) : (dP zs ys).showable = true ∧ (dP zs ys).hasDict = false ∧ (dP zs ys).depth ≤ 60 ∧ (dP zs ys).shown.length ≤ sizeLine := by
  obtain ⟨b1, b2, b3, b4⟩ := short_strs zs h
  obtain ⟨c1, c2, c3, c4⟩ := short_strs ys g
  refine ⟨?_, ?_, ?_, ?_⟩
  · simp only [PyData.showable, PyData.showableAll, b2, c2, Bool.and_true]
  · simp [PyData.hasDict, PyData.hasDictAll, b4, c4]
  · simp [PyData.depth, PyData.depthAll, dep_strs']
  · refine Nat.le_trans (PySem.PyData.shown_le_bulk 40 (by decide) (dP zs ys) ?_) ?_
    · have q1 : PyData.leavesShort 40 (dS zs) = true := by simp only [PyData.leavesShort, b1]
      have q2 : PyData.leavesShort 40 (dS ys) = true := by simp only [PyData.leavesShort, c1]
      show PyData.leavesShortAll 40 [dS zs, dS ys] = true
      simp only [PyData.leavesShortAll]
      rw [q1, q2]
      rfl
    · simp only [PyData.bulk, PyData.bulkAll]
      rw [sizeLine_eq]
      omega
/-- (name, texts, word, how many) -/
abbrev dM (nm wo : Str) (zs : List Str) : PyData := .tuple [.str nm, dS zs, .str wo, .int (zs.length : Nat)]
theorem show_dM {nm wo : Str} {zs : List Str} (hn : shortS nm = true) (hw : shortS wo = true) (h : ∀ z ∈ zs, shortS z = true) (hl : zs.length ≤ 1000) : (dM nm wo zs).showable = true ∧ (dM nm wo zs).hasDict = false ∧ (dM nm wo zs).depth ≤ 60 ∧ (dM nm wo zs).shown.length ≤ sizeLine := by
  obtain ⟨b1, b2, b3, b4⟩ := short_strs zs h
  have e : (toString (((zs.length : Nat) : Int))).length ≤ 8 := PySem.int_text_length_le10 (k := 7) (by decide) (by omega)
  obtain ⟨hn', hn2⟩ := shortS.l hn
  obtain ⟨hw', hw2⟩ := shortS.l hw
  have hi : PyData.leavesShort 40 (.int (zs.length : Nat)) = true := by
    simp only [PyData.leavesShort, PyData.shown]
    exact decide_eq_true (by rw [PySem.ofString_length]; omega)
  have hi2 : PyData.showable (.int (zs.length : Nat)) = true := by
    simp only [PyData.showable, decide_eq_true_eq]
    show (Int.natAbs ((zs.length : Nat) : Int)).log2 < 1920
    rw [Int.natAbs_natCast]
    by_cases z : zs.length = 0
    · rw [z]
      decide
    · have hz : zs.length < 2 ^ 24 := Nat.lt_of_le_of_lt hl (by decide)
      exact Nat.lt_trans ((Nat.log2_lt z).mpr hz) (by decide)
  refine ⟨?_, ?_, ?_, ?_⟩
  · simp only [PyData.showable, PyData.showableAll, b2, Bool.and_true, Bool.true_and]
    simpa only [PyData.showable] using hi2
  · simp [PyData.hasDict, PyData.hasDictAll, b4]
  · simp [PyData.depth, PyData.depthAll, dep_strs']
  · refine Nat.le_trans (PySem.PyData.shown_le_bulk 40 (by decide) (dM nm wo zs) ?_) ?_
    · have q1 : PyData.leavesShort 40 (dS zs) = true := by simp only [PyData.leavesShort, b1]
      show PyData.leavesShortAll 40 [.str nm, dS zs, .str wo, .int (zs.length : Nat)] = true
      simp only [PyData.leavesShortAll]
      rw [hn', q1, hw', hi]
      rfl
    · simp only [PyData.bulk, PyData.bulkAll]
      rw [sizeLine_eq]
      omega
theorem stp_short {zs : List Str} (h : Stp zs) : ∀ z ∈ zs, shortS z = true := fun z hz => by
  obtain ⟨ws, ns, g⟩ := (h z hz).good
  exact g.sh
theorem words_short {zs : List Str} {ws : List Str} {sp : Nat} (h : Stp zs) (hs : ∀ z ∈ zs, inV (.str (hw z)) (ws.map V.str) = true → sp < (Txt.split z " ").length) : ∀ y ∈ wordsAt ws sp zs, shortS y = true := fun y hy => by
  obtain ⟨z, hz, hi, rfl⟩ := mem_words.mp hy
  obtain ⟨vs, ns, g⟩ := (h z hz).good
  have q := g.wsh
  rw [← g.sp] at q
  have hl := hs z hz hi
  rw [List.getD_eq_getElem?_getD, List.getElem?_eq_getElem hl]
  exact List.all_eq_true.mp q _ (List.getElem_mem hl)
theorem dp_dS {K : PySem.W.Frag} {H : Hp} {T : Addr} {zs : List Str} (h : SqT K H T (zs.map V.str)) : Dp K H (.ref T) (dS zs) := .tup h (dp_strs zs)
end My

set_option Elab.async false
set_option linter.all false
set_option maxRecDepth 100000
set_option maxHeartbeats 2000000
/-! what is kept of the kinds of former turns -/
namespace My
open PySem L2
/-- all stands as it was but lists and tables -/
def NL (H H' : Hp) : Prop := ∀ b o, H b = some o → (∀ xs, o ≠ .lst xs) → (∀ ps, o ≠ .tbl ps) → H' b = some o
theorem NL.refl (H : Hp) : NL H H := fun _ _ h _ _ => h
theorem NL.trans {H H1 H2 : Hp} (a : NL H H1) (b : NL H1 H2) : NL H H2 := fun c o h n m => b c o (a c o h n m) n m
theorem NL.same {H H' : Hp} (s : Same H H') : NL H H' := fun b o h _ _ => s b o h
theorem NL.kpn {H H' : Hp} {dl c : Addr} (D : Deal H dl c) (k : KpN dl c H H') : NL H H' := fun b o h n m => by
  obtain ⟨ns, s, kk, q1, q2, _⟩ := D
  exact k b o h (fun e => by rw [e, q1] at h; exact n _ (Option.some.inj h).symm) (fun e => by rw [e, q2] at h; exact n _ (Option.some.inj h).symm) m
theorem NL.kp {H H' : Hp} {dl c : Addr} (D : Deal H dl c) (k : Kp dl c H H') : NL H H' := NL.kpn D (KpN.of k)
theorem NL.lst {H : Hp} {p : Addr} {xs : List V} {o : HO} (h : H p = some (.lst xs)) : NL H (upd H p o) := fun b u e n _ => by
  have nb : b ≠ p := fun z => by
    rw [z, h] at e
    exact n _ (Option.some.inj e).symm
  rw [upd_ne nb]
  exact e
theorem NL.sqT {K : PySem.W.Frag} {H H' : Hp} {T : Addr} {xs : List V} (k : NL H H') (h : SqT K H T xs) : SqT K H' T xs := by
  rcases h with (h | ⟨o, h⟩) | h
  · exact .inl (.inl (k _ _ h (fun _ z => by cases z) (fun _ z => by cases z)))
  · exact .inl (.inr ⟨o, k _ _ h (fun _ z => by cases z) (fun _ z => by cases z)⟩)
  · exact .inr h
theorem NL.lot {H H' : Hp} {T : Addr} {ks : List Str} (k : NL H H') (h : Lot H T ks) : Lot H' T ks := by
  obtain ⟨ys, h1, h2, h3⟩ := h
  exact ⟨ys, k _ _ h1 (fun _ z => by cases z) (fun _ z => by cases z), h2, h3⟩
theorem NL.readerAt {K : PySem.W.Frag} {H H' : Hp} {x C : Addr} {nm wo : V} {zs : List Str} (k : NL H H') (h : ReaderAt K H x C nm wo zs) : ReaderAt K H' x C nm wo zs := by
  obtain ⟨dx, T1, T2, T3, T4, h1, h2, h3, h4, h5⟩ := h
  exact ⟨dx, T1, T2, T3, T4, k _ _ h1 (fun _ z => by cases z) (fun _ z => by cases z), k.sqT h2, k.lot h3, k.lot h4, k.lot h5⟩
theorem NL.rOk {K : PySem.W.Frag} {H H' : Hp} {x C : Addr} {nm wo : Str} {zs : List Str} (k : NL H H') (h : ROk K H x C nm wo zs) : ROk K H' x C nm wo zs := ⟨k.readerAt h.at_, h.nmok, h.tn, h.wok, h.wl, h.len, h.tx, h.st, h.num⟩
/-- a kept pair: its tuple, its kind, the kind's name and texts -/
abbrev Ent : Type := Addr × Addr × Str × Str × List Str
structure EntOk (K : PySem.W.Frag) (C : Addr) (H : Hp) (e : Ent) : Prop where
  tup : H e.1 = some (.tup [.str (readerText e.2.2.1 e.2.2.2.1 e.2.2.2.2), .ref e.2.1])
  rok : ROk K H e.2.1 C e.2.2.1 e.2.2.2.1 e.2.2.2.2
  nml : e.2.2.1.length ≤ 1000
theorem NL.ent {K : PySem.W.Frag} {C : Addr} {H H' : Hp} {e : Ent} (k : NL H H') (h : EntOk K C H e) : EntOk K C H' e := ⟨k _ _ h.tup (fun _ z => by cases z) (fun _ z => by cases z), k.rOk h.rok, h.nml⟩
theorem tab_off {H : Hp} {Pt p : Addr} {xs : List V} (t : LamX.Tabs (TL Pt) H) (h : H p = some (.lst xs)) : Pt ≠ p := fun e => by
  obtain ⟨ps, h1, _⟩ := t (Pt, lamQ) (List.mem_singleton.mpr rfl)
  have h1 : H Pt = some (.tbl ps) := h1
  rw [e, h] at h1
  cases h1
theorem deal_off {H : Hp} {Pt dl c : Addr} (t : LamX.Tabs (TL Pt) H) (D : Deal H dl c) : Pt ≠ dl ∧ Pt ≠ c := by
  obtain ⟨ns, s, kk, q1, q2, _⟩ := D
  exact ⟨tab_off t q1, tab_off t q2⟩
/-- the tables under a change of a list -/
theorem tabs_lst {T : List (Addr × Str)} {H : Hp} {p : Addr} {xs : List V} {o : HO} (t : LamX.Tabs T H) (h : H p = some (.lst xs)) : LamX.Tabs T (upd H p o) := fun q hq => by
  obtain ⟨ps, h1, h2, h3⟩ := t q hq
  have n1 : q.1 ≠ p := fun e => by
    rw [e, h] at h1
    cases h1
  refine ⟨ps, by rw [upd_ne n1]; exact h1, h2, fun pos cv hc => ?_⟩
  obtain ⟨c1, e1, e2⟩ := h3 pos cv hc
  refine ⟨c1, e1, ?_⟩
  have n2 : c1 ≠ p := fun e => by
    rw [e, h] at e2
    unfold LamX.CodeO at e2
    cases e2
  rw [upd_ne n2]
  exact e2
theorem spRI_mono {K : PySem.W.Frag} {C CK : Addr} {vs : List V} {H : Hp} {Q Q' : VK} {E : XK} (h : spRI K C CK vs H Q E) (m : ∀ v H', Q v H' → Q' v H') : spRI K C CK vs H Q' E := by
  obtain ⟨x, dx, nm, tx, wo, s, i, b, l, t, r, s', i', b', l', t', xs, h1, h2, h3, h4, h5, h6, g1, g2, g3, g4⟩ := h
  exact ⟨x, dx, nm, tx, wo, s, i, b, l, t, r, s', i', b', l', t', xs, h1, h2, h3, h4, h5, h6, g1, g2, g3, fun a1 a2 a3 a zs H' e1 e2 e3 e4 e5 e6 e7 => m _ _ (g4 a1 a2 a3 a zs H' e1 e2 e3 e4 e5 e6 e7)⟩
/-- a reader that is made for sure -/
theorem reader_made {K : PySem.W.Frag} {C CK L : Addr} {H : Hp} {nm wo : Str} {ws : List Str} {s i b l t : Bool} {E : XK} (hn : nmS nm = true) (tn : TxOk (.str nm)) (hw : wdS wo = true) (kd : KndS K H (.ref L) s i b l t) (hlt : (l || t) = true) (q : SqA K H L (ws.map V.str)) (tw : TxsOk ws) (hl : ws.length ≤ 14) (hs : scrT ws = true)
    (x dx : Addr) (hx : H x = none) (hd : H dx = none) (hne : dx ≠ x) :
    spRI K C CK [.ref x, .str nm, .ref L, .str wo] (upd (upd H dx (.own x)) x (.ins C dx [])) (fun v H3 => v = .non ∧ Same H H3 ∧ ReaderAt K H3 x C (.str nm) (.str wo) ws) E :=
  spRI_mono (rd_reader (Q := fun v H3 => ∃ y, v = .ref y ∧ Same H H3 ∧ ReaderAt K H3 y C (.str nm) (.str wo) ws) hn tn hw kd hlt q tw hl (fun h => by rw [hs] at h; cases h) (fun _ y H' _ s' k => ⟨y, rfl, s', k⟩) x dx hx hd hne) fun v H' ⟨e, y, e2, s', k⟩ => by
    cases e2
    exact ⟨e, s', k⟩
end My

set_option Elab.async false
set_option linter.all false
set_option maxRecDepth 100000
set_option maxHeartbeats 2000000
namespace My
open PySem L2

abbrev sLa : Stmt := top 46
abbrev NLa : List Str := ["script", "deal", "kept", "turn", "world", "texts", "word", "way", "handed", "due", "made", "text", "other"]
theorem scLa : FnScope ["script", "deal", "kept", "turn", "world", "texts", "word", "way", "handed", "due", "made", "text", "other"] ["script"] (defScope sLa) := ⟨rfl, rfl, rfl, by decide +kernel, rfl, by decide +kernel, by decide +kernel⟩
theorem op_eqIK {X : Cx} {CX : CXT} {C g : Addr} {n : Nat} {sp : Sp} {E : XK} {K : PySem.W.Frag} (h : X.K = K) (hs : PySem.W.findIn K (.ref C) "__eq__" = some (some (.ref g))) (hf : PySem.W.isFn K (.ref g) = true) (F : FnR X.prog X.w K X.mg X.base CX n g sp) (hr : Room n X.A) (hx : Passes CX X E) : OpR X (compareOp .Eq) (rOwnI K C false sp E) := by
  subst h
  exact op_eqI hs hf F hr hx
def spLa (K : PySem.W.Frag) (Pt : Addr) : Sp := fun vs H Q _ => ∃ (a : Addr) (ns : List Int), vs = [.ref a] ∧ SqL K H a (ns.map V.int) ∧ ns.length ≤ 63 ∧ LamX.Tabs (TL Pt) H ∧ ∀ H', Q (.bl true) H'
theorem big1000 {n : Nat} (h : n ≤ 1000) : n ≤ sizeLine := Nat.le_trans h (by decide)
theorem wlen {ws : List Str} {sp : Nat} {zs : List Str} : (wordsAt ws sp zs).length ≤ zs.length := by
  unfold wordsAt
  rw [List.length_map]
  exact List.length_filter_le ..
theorem r_eq {a b : Str} : decide (V.str a = V.str b) = decide (a = b) := by
  rw [decide_eq_decide]
  exact ⟨fun h => by injection h, fun h => by rw [h]⟩
section
variable {P : Program} {w : World} {K : PySem.W.Frag} {mg : Str → Option Value} {base : Heap}
theorem ok_la {f fDl fWo fRt fP fRu fLo fTr fS fI fLen fEq fRd fWd C CK Pt pRd : Addr} {fd fdDl fdWo fdRt fdP fdRu fdLo fdTr fdS fdI fdLen fdEq fdRd fdWd : FuncData} {mc : Value}
    (F : Fun K "law" "law" sLa f fd) (z_range : mg "range" = none) (z_list : mg "list" = none) (z_repr : mg "repr" = none) (z_len : mg "len" = none) (z_tuple : mg "tuple" = none) (z_str : mg "str" = none)
    (GDeal : FnOk P w K mg base CX0 1 fDl fdDl ["script", "base"] (spDeal K)) (bDeal : Binds K fdDl ["script", "base"] []) (kDeal : PySem.W.keepIn K (.ref fDl) = true) (mDeal : mg "_law_deal" = some (.ref fDl))
    (GWo : FnOk P w K mg base CX0 3 fWo fdWo ["deal"] (spWo K)) (bWo : Binds K fdWo ["deal"] []) (kWo : PySem.W.keepIn K (.ref fWo) = true) (mWo : mg "_law_world" = some (.ref fWo))
    (GRt : FnOk P w K mg base CX0 4 fRt fdRt ["deal", "world", "most"] (spRt K)) (bRt : Binds K fdRt ["deal", "world", "most"] []) (kRt : PySem.W.keepIn K (.ref fRt) = true) (mRt : mg "_law_reader_texts" = some (.ref fRt))
    (GPick : FnOk P w K mg base CX0 2 fP fdP ["deal", "some"] (spPick K)) (bPick : Binds K fdP ["deal", "some"] []) (kPick : PySem.W.keepIn K (.ref fP) = true) (mPick : mg "_law_pick" = some (.ref fP))
    (GRu : FnOk P w K mg base CX0 1 fRu fdRu ["told_reader"] (spRu K)) (bRu : Binds K fdRu ["told_reader"] []) (kRu : PySem.W.keepIn K (.ref fRu) = true) (mRu : mg "_law_reader_text" = some (.ref fRu))
    (GLo : FnOk P w K mg base CX0 1 fLo fdLo ["texts", "words", "spot"] (spLo K)) (bLo : Binds K fdLo ["texts", "words", "spot"] []) (kLo : PySem.W.keepIn K (.ref fLo) = true) (mLo : mg "_law_lot" = some (.ref fLo))
    (GTr : FnOk P w K mg base CX0 13 fTr fdTr ["deal", "world", "made", "texts"] (spTr K C Pt)) (bTr : Binds K fdTr ["deal", "world", "made", "texts"] []) (kTr : PySem.W.keepIn K (.ref fTr) = true) (mTr : mg "_law_turned_right" = some (.ref fTr))
    (KM : KMade P w K mg base C CK fI fdI) {gKi : List Value → List Value → List Value} (kbKi : KBn K fdI ["self", "name", "texts", "word"] 1 ["word", "texts", "name"] gKi (fun vs zs => vs ++ zs.reverse))
    (GStrR : FnR P w K mg base CX0 1 fS (spKStr K C)) (sStr : PySem.W.findIn K (.ref C) "__str__" = some (some (.ref fS))) (fStr : PySem.W.isFn K (.ref fS) = true)
    (GLenR : FnR P w K mg base CX0 1 fLen (spKLen K C)) (lenK : PySem.W.findIn K (.ref C) "__len__" = some (some (.ref fLen))) (lenF : PySem.W.isFn K (.ref fLen) = true)
    (GEqR : FnR P w K mg base CX0 4 fEq (spKEq K C)) (eqK : PySem.W.findIn K (.ref C) "__eq__" = some (some (.ref fEq))) (eqF : PySem.W.isFn K (.ref fEq) = true) (neK : PySem.W.findIn K (.ref C) "__ne__" = some (some (.builtin "object.__ne__"))) (obK : PySem.W.subIn K (.ref C) (.type "object") = some true)
    (sbK : PySem.W.subIn K (.type "str") (.ref C) = some false) (koK : PySem.W.kitOne K (.type "str") (.ref C) = some false)
    (rdK : ClX.CRead K C mc) (smK : SMet K C mc "read" pRd fRd) (GRd : FnOk P w K mg base (L2.CX P w) 8 fRd fdRd ["text"] (spKRd K C CK)) {gRd : List Value → List Value → List Value} (kbRd : KBn K fdRd ["text"] 0 ["text"] gRd (fun vs zs => vs ++ zs))
    (mWd : Meth K C "with_word" fWd) (GWd : FnOk P w K mg base (L2.CX P w) 8 fWd fdWd ["self", "word"] (spKWd K C)) (bWd : Binds K fdWd ["self", "word"] []) {gWd : List Value → List Value → List Value} (kbWd : KBn K fdWd ["self", "word"] 1 ["word"] gWd (fun vs zs => vs ++ zs)) :
    FnG P w K mg base CX0 21 f fd ["script"] (spLa K Pt) := by
  obtain ⟨ds3, vd3, bi3⟩ := KM.bi3
  refine fng_of F scLa (fun vs H Q E h => ?_) (fun cdv A outer s H vs Q E ns hr h => ?_)
  · obtain ⟨_, _, rfl, _⟩ := h
    rfl
  obtain ⟨a, nums, rfl, hS, h63, tabs, k⟩ := h
  refine ⟨_, (pss_cons (ps_set (i := 1) scLa.nd rfl (.inl rfl) (pe_call GDeal (hr.mono (by decide)) rfl mDeal kDeal bDeal .nil pass0 (pa_cons (pv 0) (pa_cons pe_int pa_nil))))
  (pss_cons (ps_set (i := 2) scLa.nd rfl (.inl rfl) (pe_lst pa_nil))
  (pss_cons (ps_for PassesOwn.never rfl (pi_range1 rfl z_range (pa_cons pe_int pa_nil)) (pg_name (i := 3) scLa.nd rfl (.inl rfl)) (pss_cons (ps_set (i := 4) scLa.nd rfl (.inl rfl) (pe_call GWo (hr.mono (by decide)) rfl mWo kWo bWo .nil pass0 (pa_cons (pv 1) pa_nil)))
    (pss_cons (ps_par (i := 5) (j := 6) rfl scLa.nd rfl rfl (by decide) rfl rfl (pa_cons (pe_call GRt (hr.mono (by decide)) rfl mRt kRt bRt .nil pass0 (pa_cons (pv 1) (pa_cons (pv 4) (pa_cons pe_int pa_nil)))) (pa_cons (pe_call GPick (hr.mono (by decide)) rfl mPick kPick bPick .nil pass0 (pa_cons (pv 1) (pa_cons (pe_lst (pa_cons pe_str (pa_cons pe_str (pa_cons pe_str (pa_cons pe_str pa_nil))))) pa_nil))) pa_nil)) rfl)
    (pss_cons (ps_par (i := 7) (j := 8) rfl scLa.nd rfl rfl (by decide) rfl rfl (pa_cons (pe_call GPick (hr.mono (by decide)) rfl mPick kPick bPick .nil pass0 (pa_cons (pv 1) (pa_cons (pe_lst (pa_cons pe_str (pa_cons pe_str pa_nil))) pa_nil))) (pa_cons (pe_callTy call_list_of rfl z_list (by decide +kernel) (pa_cons (pv 5) pa_nil)) pa_nil)) rfl)
    (pss_cons (ps_asg (pe_tup (pa_cons (pe_call GRu (hr.mono (by decide)) rfl mRu kRu bRu .nil pass0 (pa_cons (pe_tup (pa_cons (pv 6) (pa_cons (pv 5) (pa_cons (pv 7) pa_nil)))) pa_nil)) (pa_cons (pe_make KM.mkr KM.ok (hr.mono (by decide)) rfl KM.gl KM.bi .nil (passes_call LamX.takes0 fun _ _ _ _ h => h) (pa_cons (pv 6) (pa_cons (pv 8) (pa_cons (pv 7) pa_nil)))) pa_nil))) (pg_tup rfl (pgs_cons (pg_name (i := 9) scLa.nd rfl (.inr rfl)) (pgs_cons (pg_name (i := 10) scLa.nd rfl (.inr rfl)) pgs_nil))))
    (pss_cons (ps_expr (pe_bm PySem.F.plainAttrs_list PySem.F.slot_list_append PySem.F.type_list_append mt_append (pv 8) (pa_cons pe_str pa_nil)))
    (pss_cons (ps_if (pt_cmpR op_ne (pe_callB (call_reprD ns hr.units) rfl z_repr (by decide +kernel) (pa_cons (pe_tup (pa_cons (pe_fld (pv 10) rfl) (pa_cons (pe_fld (pv 10) rfl) (pa_cons (pe_fld (pv 10) rfl) (pa_cons (pe_callB (call_lenI lenK lenF GLenR (hr.mono (by decide)) pass0) rfl z_len (by decide +kernel) (pa_cons (pv 10) pa_nil)) pa_nil))))) pa_nil)) (pe_callB (call_reprD ns hr.units) rfl z_repr (by decide +kernel) (pa_cons (pe_tup (pa_cons (pv 6) (pa_cons (pe_callTy call_tupleD rfl z_tuple (by decide +kernel) (pa_cons (pv 5) pa_nil)) (pa_cons (pv 7) (pa_cons (pe_callB call_len_seq rfl z_len (by decide +kernel) (pa_cons (pv 5) pa_nil)) pa_nil))))) pa_nil)) (nomark _)) (pss_one (ps_ret pe_bl)) pss_nil)
    (pss_cons (ps_if (pt_cmpR op_ne (pe_callB (call_reprD ns hr.units) rfl z_repr (by decide +kernel) (pa_cons (pe_tup (pa_cons (pe_fld (pv 10) rfl) (pa_cons (pe_fld (pv 10) rfl) pa_nil))) pa_nil)) (pe_callB (call_reprD ns hr.units) rfl z_repr (by decide +kernel) (pa_cons (pe_tup (pa_cons (pe_call GLo (hr.mono (by decide)) rfl mLo kLo bLo .nil pass0 (pa_cons (pv 5) (pa_cons (pe_tup (pa_cons pe_str pa_nil)) (pa_cons pe_int pa_nil)))) (pa_cons (pe_call GLo (hr.mono (by decide)) rfl mLo kLo bLo .nil pass0 (pa_cons (pv 5) (pa_cons (pe_tup (pa_cons pe_str pa_nil)) (pa_cons pe_int pa_nil)))) pa_nil))) pa_nil)) (nomark _)) (pss_one (ps_ret pe_bl)) pss_nil)
    (pss_cons (ps_if (PW.pt (pw_or (pt_cmpR op_ne (pe_callB (call_reprD ns hr.units) rfl z_repr (by decide +kernel) (pa_cons (pe_fld (pv 10) rfl) pa_nil)) (pe_callB (call_reprD ns hr.units) rfl z_repr (by decide +kernel) (pa_cons (pe_call GLo (hr.mono (by decide)) rfl mLo kLo bLo .nil pass0 (pa_cons (pv 5) (pa_cons (pe_tup (pa_cons pe_str pa_nil)) (pa_cons pe_int pa_nil)))) pa_nil)) (nomark _)) (pw_or1 (pt_cmpR op_ne (pe_callTy (call_strI sStr fStr GStrR (hr.mono (by decide)) pass0) rfl z_str (by decide +kernel) (pa_cons (pv 10) pa_nil)) (pv 9) (nomark _))))) (pss_one (ps_ret pe_bl)) pss_nil)
    (pss_cons (ps_if (PW.pt (pw_or (pt_cmpR (op_neI eqK eqF neK obK GEqR (hr.mono (by decide)) pass0) (pe_smethK (C8.pe_gc (v := .ref C) rfl ⟨_, KM.gl, rfl⟩) rdK smK GRd (hr.mono (by decide)) kbRd (passes_call LamX.takes0 fun _ _ _ _ h => h) (pk_cons (pv 9) pk_nil)) (pv 10) (nomark _)) (pw_or (pt_cmpR (op_neI eqK eqF neK obK GEqR (hr.mono (by decide)) pass0) (pe_makeK0 KM.mkr KM.ok (hr.mono (by decide)) rfl KM.gl kbKi (passes_call LamX.takes0 fun _ _ _ _ h => h) (pk_cons (pv 7) (pk_cons (pe_callTy call_tupleD rfl z_tuple (by decide +kernel) (pa_cons (pv 5) pa_nil)) (pk_cons (pv 6) pk_nil)))) (pv 10) (nomark _)) (pw_or1 (pt_cmpR (op_eqI eqK eqF GEqR (hr.mono (by decide)) pass0) (pv 10) (pv 9) (nomark _)))))) (pss_one (ps_ret pe_bl)) pss_nil)
    (pss_cons (ps_if (pt_cmpR op_ne (pe_callTy (call_strI sStr fStr GStrR (hr.mono (by decide)) pass0) rfl z_str (by decide +kernel) (pa_cons (pe_methK (pv 10) KM.cl mWd GWd (hr.mono (by decide)) kbWd (passes_call LamX.takes0 fun _ _ _ _ h => h) (pk_cons pe_str pk_nil)) pa_nil)) (pe_call GRu (hr.mono (by decide)) rfl mRu kRu bRu .nil pass0 (pa_cons (pe_tup (pa_cons (pv 6) (pa_cons (pv 5) (pa_cons pe_str pa_nil)))) pa_nil)) (nomark _)) (pss_one (ps_ret pe_bl)) pss_nil)
    (pss_cons (ps_if (PW.pt (pw_or (pt_not (pt_val (pe_call GTr (hr.mono (by decide)) rfl mTr kTr bTr .nil pass0 (pa_cons (pv 1) (pa_cons (pv 4) (pa_cons (pv 10) (pa_cons (pv 5) pa_nil))))))) (pw_or1 (pt_cmpR (op_neI eqK eqF neK obK GEqR (hr.mono (by decide)) pass0) (pe_make KM.mkr KM.ok (hr.mono (by decide)) rfl KM.gl bi3 vd3 (passes_call LamX.takes0 fun _ _ _ _ h => h) (pa_cons (pv 6) (pa_cons (pv 5) pa_nil))) (pe_meth (pv 10) KM.cl mWd GWd (hr.mono (by decide)) bWd .nil (passes_call LamX.takes0 fun _ _ _ _ h => h) (pa_cons pe_str pa_nil)) (nomark _))))) (pss_one (ps_ret pe_bl)) pss_nil)
    (pss_one (ps_expr (pe_bm PySem.F.plainAttrs_list PySem.F.slot_list_append PySem.F.type_list_append mt_append (pv 2) (pa_cons (pe_tup (pa_cons (pv 9) (pa_cons (pv 10) pa_nil))) pa_nil))))))))))))))))
  (pss_cons (ps_for PassesOwn.never rfl (pi_list (pv 2)) (pg_tup rfl (pgs_cons (pg_name (i := 9) scLa.nd rfl (.inr rfl)) (pgs_cons (pg_name (i := 10) scLa.nd rfl (.inr rfl)) pgs_nil))) (pss_one (ps_if (pt_cmpR (op_neD hr.units) (pe_lc (own := [("text", 11), ("other", 12)]) (g := gTup _ 2 (gCons (gName 11) (gCons (gName 12) gNil))) rfl scLa.nd (pi_list (pv 2)) (blkOk_by (own := [("text", 11), ("other", 12)]) (N := NLa) (sc := defScope sLa) (by decide +kernel)) (fun _ _ _ _ _ => (pg_tup rfl (pgs_cons (pg_name (i := 11) scLa.nd rfl (Or.inl rfl)) (pgs_cons (pg_name (i := 12) scLa.nd rfl (Or.inl rfl)) pgs_nil)))) (fun _ _ _ _ _ => (pts_one (pt_cmpR op_ne (pe_cmpR (op_eqIK (K := K) rfl eqK eqF GEqR (hr.mono (by decide)) pass0) (pv 10) (pv 12) (nomark _)) (pe_cmpR op_eq (pv 9) (pv 11) (nomark _)) (nomark _)))) (fun _ _ _ _ _ => pe_int)) (pe_lst pa_nil) (nomark _)) (pss_one (ps_ret pe_bl)) pss_nil)))
  (pss_one (ps_ret pe_bl)))))), ?_⟩
  refine ⟨_, rfl, a, nums, 0, rfl, hS, h63, fun dl c H1 s1 D1 hdl hcc => ⟨(by show 0 ≤ sizeLine; decide), fun Kp0 hKp => ?_⟩⟩
  have offK := D1.off hKp
  have tabs1 : LamX.Tabs (TL Pt) (upd H1 Kp0 (.lst [])) := (tabs.ext s1).ext (Same.new hKp)
  have D1' := D1.keep (Same.new (o := .lst []) hKp)
  refine ⟨3, rfl, by decide, by decide, for_range (lo := 0) (n := 3) (fun i σ H2 => ∃ (es : List Ent) (v3 v4 v5 v6 v7 v8 v9 v10 v11 v12 : Option V), σ = [some (.ref a), some (.ref dl), some (.ref Kp0), v3, v4, v5, v6, v7, v8, v9, v10, v11, v12] ∧
    Deal H2 dl c ∧ LamX.Tabs (TL Pt) H2 ∧ H2 Kp0 = some (.lst (es.map fun e => V.ref e.1)) ∧ (∀ e ∈ es, EntOk K C H2 e) ∧ es.length = i) ⟨[], none, none, none, none, none, none, none, none, none, none, rfl, D1', tabs1, upd_same, fun e he => (by cases he), rfl⟩ ?turn ?last⟩
  case last =>
    rintro σ H2 ⟨es, v3, v4, v5, v6, v7, v8, v9, v10, v11, v12, rfl, D2, T2, hK2, E2, hl⟩
    have lK : (es.map fun e => V.ref e.1).length = 3 := by rw [List.length_map, hl]
    refine ⟨_, rfl, Kp0, rfl, ⟨_, SqL.of hK2⟩, for_list (K := K) (a := Kp0) (xs := es.map fun e => V.ref e.1) (fun i σ H3 => ∃ (w3 w4 w5 w6 w7 w8 w9 w10 w11 w12 : Option V), σ = [some (.ref a), some (.ref dl), some (.ref Kp0), w3, w4, w5, w6, w7, w8, w9, w10, w11, w12] ∧ Same H2 H3) ⟨_, _, _, _, _, _, _, _, _, _, rfl, fun _ _ h => h⟩ (fun i σ H3 _ hh => ?keeps) ?step ?done⟩
    case keeps =>
      obtain ⟨_, _, _, _, _, _, _, _, _, _, _, s3⟩ := hh
      exact SqL.of (s3 _ _ hK2)
    case done =>
      rintro σ H3 ⟨w3, w4, w5, w6, w7, w8, w9, w10, w11, w12, rfl, s3⟩
      exact k _
    case step =>
      rintro i xv σ H3 hxi ⟨w3, w4, w5, w6, w7, w8, w9, w10, w11, w12, rfl, s3⟩
      obtain ⟨e, he, rfl⟩ := List.mem_map.mp (List.mem_of_getElem? hxi)
      have E3 := (NL.same s3).ent (E2 e he)
      refine ⟨e.1, _, rfl, SqT.of E3.tup, rfl, _, _, rfl, _, _, rfl, rfl, ?_⟩
      refine ⟨_, rfl, Kp0, rfl, ⟨_, SqL.of (s3 _ _ hK2)⟩, ?_⟩
      intro D0 hD0
      refine lc_s (walk_list (K := K) (a := Kp0)) (fun _ => none) hD0 (by rw [lK]; decide) (fun H' s => SqL.of (s _ _ (s3 _ _ hK2))) ?_ ?_
      · intro x4 H4 hx4 s4 OK NO ok no
        obtain ⟨e2, he2, rfl⟩ := List.mem_map.mp hx4
        have s34 := s3.trans s4
        have E4 := (NL.same s34).ent (E2 e he)
        have F4 := (NL.same s34).ent (E2 e2 he2)
        refine ⟨e2.1, _, rfl, SqT.of F4.tup, rfl, _, _, rfl, _, _, rfl, rfl, rfl, ?_⟩
        obtain ⟨fx, X1, X2, X3, X4, hx, _⟩ := id E4.rok.at_
        obtain ⟨fy, Y1, Y2, Y3, Y4, hy, _⟩ := id F4.rok.at_
        refine ⟨_, rfl, _, rfl, e.2.1, fx, _, rfl, hx, .inl ⟨e2.2.1, fy, _, rfl, hy⟩, e.2.1, _, _, _, _, rfl, E4.rok, E4.nml, .inr ⟨e2.2.1, _, _, _, rfl, F4.rok, F4.nml, _, rfl, ?_⟩⟩
        refine ⟨_, rfl, _, rfl, rfl, rfl, _, rfl, ?_⟩
        rw [r_eq, Bool.false_xor, decide_eq_true rfl]
        exact no _ (fun _ _ h => h) rfl
      · intro H4 s4 e4
        have e4' : H4 D0 = some (.lst []) := by
          rw [e4]
          congr 2
          exact List.filterMap_eq_nil_iff.mpr fun _ _ => rfl
        refine ⟨(by show 0 ≤ sizeLine; decide), fun p hp => ?_⟩
        refine ⟨.list (([] : List Str).map PyData.str), .list (([] : List Str).map PyData.str), Dp.lst (SqL.of (Same.new hp _ _ e4')) .nil, Dp.lst (SqL.of upd_same) .nil, shaped_strs (ws := []) (fun z q => by cases q), shaped_strs (ws := []) (fun z q => by cases q), _, rfl, ?_⟩
        rw [eqv_strs, decide_eq_true rfl]
        refine ifF rfl ?_
        exact ⟨_, _, _, _, _, _, _, _, _, _, rfl, (s3.trans s4).trans (Same.new hp)⟩
  case turn =>
    rintro i σ H2 hi ⟨es, v3, v4, v5, v6, v7, v8, v9, v10, v11, v12, rfl, D2, T2, hK2, E2, hl⟩
    obtain ⟨np1, np2⟩ := deal_off T2 D2
    have tk : ∀ {Ha Hb : Hp}, Deal Ha dl c → LamX.Tabs (TL Pt) Ha → Kp dl c Ha Hb → LamX.Tabs (TL Pt) Hb := fun D t k => tabs_kp D t k fun p hp => by rw [List.mem_singleton.mp hp]; exact ⟨np1, np2⟩
    -- world
    refine ⟨_, rfl, dl, c, rfl, D2, fun W H3 D3 k3 wat => ?_⟩
    have T3 := tk D2 T2 k3
    have hK3 := k3 _ _ hK2 offK.1 offK.2
    have N3 : NL H2 H3 := NL.kp D2 k3
    -- texts, word
    refine ⟨_, rfl, _, rfl, dl, c, W, 12, rfl, by decide, by decide, D3, wat, fun L zs H4 sz gz z0 z8 D4 k4 nL1 nL2 nLn hL => ?_⟩
    have T4 := tk D3 T3 k4
    have hK4 := k4 _ _ hK3 offK.1 offK.2
    have N4 := N3.trans (NL.kp D3 k4)
    have wat4 := wat.keep k4
    have nKL : Kp0 ≠ L := fun e => by
      rw [e, nLn] at hK3
      cases hK3
    refine ⟨_, rfl, (by show 4 ≤ sizeLine; decide), fun Wl hWl => ?_⟩
    have offW := D4.off hWl
    have s5 : Same H4 (upd H4 Wl (.lst (WORDR.map V.str))) := Same.new hWl
    refine ⟨dl, c, Wl, WORDR.map V.str, rfl, SqL.of upd_same, offW.1, offW.2, by decide, by decide, D4.keep s5, fun xw H5 hxw D5 k5 => ⟨_, _, rfl, ?_⟩⟩
    obtain ⟨nm, hnm, rfl⟩ := List.mem_map.mp hxw
    have K5 : Kp dl c H4 H5 := (Kp.same s5).trans k5
    have T5 := tk D4 T4 K5
    have hK5 := K5 _ _ hK4 offK.1 offK.2
    have N5 := N4.trans (NL.kp D4 K5)
    have wat5 := wat4.keep K5
    have hL5 := K5 _ _ hL nL1 nL2
    obtain ⟨wn, wo1, wl, ws⟩ := w4_of hnm
    have wl1000 : nm.length ≤ 1000 := Nat.le_trans wl (by decide)
    have tn : TxOk (.str nm) := fun z hz => by
      cases hz
      exact ⟨le1000 wl1000, wo1⟩
    have z12 : zs.length ≤ 12 := by omega
    have zt : ∀ z ∈ zs, z.length ≤ 1000 := fun z q => (sz.txs z q).1
    have hscr : scrT zs = true := by
      rw [scrT_of sz, gz, decide_eq_true (List.ne_nil_of_length_pos z0)]
      rfl
    clear hxw hWl s5 k5 D4 D3 D2 K5 hL hK4 hK3 hK2 T4 T3 T2 wat wat4 N3 N4
    -- way, handed
    refine ⟨_, rfl, (by show 2 ≤ sizeLine; decide), fun Wl2 hWl2 => ?_⟩
    have offW2 := D5.off hWl2
    have s6 : Same H5 (upd H5 Wl2 (.lst (WAYS.map V.str))) := Same.new hWl2
    refine ⟨dl, c, Wl2, WAYS.map V.str, rfl, SqL.of upd_same, offW2.1, offW2.2, by decide, by decide, D5.keep s6, fun xw H6 hxw D6 k6 => ?_⟩
    obtain ⟨wo, hwo, rfl⟩ := List.mem_map.mp hxw
    have K6 : Kp dl c H5 H6 := (Kp.same s6).trans k6
    have T6 := tk D5 T5 K6
    have hK6 := K6 _ _ hK5 offK.1 offK.2
    have N6 := N5.trans (NL.kp D5 K6)
    have wat6 := wat5.keep K6
    have hL6 := K6 _ _ hL5 nL1 nL2
    obtain ⟨yn, yo1, yl, ys⟩ := w2_of hwo
    have yl1000 : wo.length ≤ 1000 := Nat.le_trans yl (by decide)
    clear hxw hWl2 s6 k6 K6 hL5 hK5 T5 wat5 N5 D5
    -- handed, due
    refine ⟨_, rfl, L, _, rfl, .inl (SqL.of hL6), fun Hd hHd => ⟨_, _, rfl, ?_⟩⟩
    have s6 : Same H6 (upd H6 Hd (.lst (zs.map V.str))) := Same.new hHd
    have e6 : (upd H6 Hd (.lst (zs.map V.str))) Hd = some (.lst (zs.map V.str)) := upd_same
    generalize upd H6 Hd (.lst (zs.map V.str)) = H6' at s6 e6 ⊢
    refine ⟨_, rfl, _, rfl, _, rfl, (by show 3 ≤ sizeLine; decide), fun A2 hA2 => ?_⟩
    have s7 := s6.trans (Same.new (o := .tup [.str nm, .ref L, .str wo]) hA2)
    have e7 := Same.new (o := .tup [.str nm, .ref L, .str wo]) hA2 _ _ e6
    refine ⟨A2, L, nm, wo, zs, rfl, upd_same, SqL.of (s7 _ _ hL6), wl1000, yl1000, by omega, zt, ?_⟩
    generalize upd H6' A2 (.tup [.str nm, .ref L, .str wo]) = H7 at s7 e7 ⊢
    -- made = Reader(word, handed, way)
    refine ⟨_, rfl, _, rfl, _, rfl, fun x dx hx hdx hne => spRI_mono (reader_made (s := false) (i := false) (b := false) (l := true) (t := false) wn tn yn (fun H' s' => knd_lst (s' _ _ e7)) rfl (.inl (SqL.of e7)) sz.txs (by omega) hscr x dx hx hdx hne) fun v H8 hv => ?_⟩
    obtain ⟨rfl, s8, ka⟩ := hv
    refine ⟨rfl, ?_⟩
    refine ⟨(by show 2 ≤ sizeLine; decide), fun A3 hA3 => ⟨A3, _, rfl, .inl (.inl upd_same), rfl, _, _, rfl, _, _, rfl, rfl, ?_⟩⟩
    have s89 : Same H8 (upd H8 A3 (.tup [.str (readerText nm wo zs), .ref x])) := Same.new hA3
    generalize upd H8 A3 (.tup [.str (readerText nm wo zs), .ref x]) = H9 at s89 ⊢
    have ka := (NL.same s89).readerAt ka
    have s9' := (s7.trans s8).trans s89
    have e9 := s89 _ _ (s8 _ _ e7)
    have D9 := D6.keep s9'
    have T9 := T6.ext s9'
    have hK9 := s9' _ _ hK6
    have hL9 := s9' _ _ hL6
    have N9 := N6.trans (NL.same s9')
    have nHd : Hd ≠ dl ∧ Hd ≠ c := D6.off hHd
    have nHdK : Kp0 ≠ Hd := fun e => by
      rw [← e, hK6] at hHd
      cases hHd
    have nHdL : L ≠ Hd := fun e => by
      rw [← e, hL6] at hHd
      cases hHd
    -- handed.append('enter')
    refine ⟨_, rfl, .inl ⟨rfl, _, SqL.of e9⟩, Hd, _, _, rfl, rfl, e9, (by rw [List.length_map]; exact Nat.lt_of_le_of_lt (show zs.length ≤ 12 by omega) (by decide)), ?_⟩
    have DA := deal_lst (o := .lst (zs.map V.str ++ [V.str "enter"])) D9 nHd.1 nHd.2
    have TA := tabs_lst (o := .lst (zs.map V.str ++ [V.str "enter"])) T9 e9
    have NA := N9.trans (NL.lst (o := .lst (zs.map V.str ++ [V.str "enter"])) e9)
    have kA := (NL.lst (o := .lst (zs.map V.str ++ [V.str "enter"])) e9).readerAt ka
    have hKA : (upd H9 Hd (.lst (zs.map V.str ++ [V.str "enter"]))) Kp0 = some (.lst (es.map fun e => V.ref e.1)) := by rw [upd_ne nHdK]; exact hK9
    have hLA : (upd H9 Hd (.lst (zs.map V.str ++ [V.str "enter"]))) L = some (.lst (zs.map V.str)) := by rw [upd_ne nHdL]; exact hL9
    have wA : WorldAt (upd H9 Hd (.lst (zs.map V.str ++ [V.str "enter"]))) W dl c := by
      obtain ⟨A1, A2, A3, ss, ps, cs, g1, g2, g3, n1, n2, n3, l1, l2⟩ := wat6
      have go : ∀ {A : Addr} {ys : List Str}, NmsAt H6 A dl c ys → NmsAt (upd H9 Hd (.lst (zs.map V.str ++ [V.str "enter"]))) A dl c ys := fun {A ys} h => by
        have ne : A ≠ Hd := ne_of_none h.at_ hHd
        exact ⟨by rw [upd_ne ne]; exact s9' _ _ h.at_, h.n1, h.n2, h.nm, h.len⟩
      exact ⟨A1, A2, A3, ss, ps, cs, by rw [upd_ne (ne_of_none g1 hHd)]; exact s9' _ _ g1, g2, g3, go n1, go n2, go n3, l1, l2⟩
    generalize upd H9 Hd (.lst (zs.map V.str ++ [V.str "enter"])) = HA at DA TA NA kA hKA hLA wA ⊢
    have okA : ROk K HA x C nm wo zs := ⟨kA, wn, tn, yn, yl1000, by omega, sz.txs, fun z hz => (sz z hz).stepOk, fun z hz => (sz z hz).num⟩
    clear D9 T9 hK9 hL9 N9 wat6 e9 s9' ka hx hdx hne s7 e7 s6 e6 hHd hA2 hA3 s89 s8 D6 T6 N6 hK6 hL6
    -- if repr((made.name, made.texts, made.word, len(made))) != ..
    obtain ⟨fx, X1, X2, X3, X4, hx, hX1, hX2, hX3, hX4⟩ := id kA
    have nn := KM.na "name" (by simp)
    have nt := KM.na "texts" (by simp)
    have nw := KM.na "word" (by simp)
    have nS := KM.na "slots" (by simp)
    have nP := KM.na "parts" (by simp)
    have nC := KM.na "counters" (by simp)
    obtain ⟨m1, m2, m3, m4⟩ := show_dM (nm := nm) (wo := wo) (zs := zs) ws ys (stp_short sz) (by omega)
    refine ⟨_, rfl, x, C, fx, _, .str nm, rfl, hx, KM.cl, nn, rfl, _, rfl, x, C, fx, _, .ref X1, rfl, hx, KM.cl, nt, rfl, _, rfl, x, C, fx, _, .str wo, rfl, hx, KM.cl, nw, rfl, _, rfl, x, fx, _, rfl, hx, x, .str nm, .str wo, zs, rfl, kA, zs.length, rfl, by omega, (by show 4 ≤ sizeLine; decide), fun Tp hTp => ?_⟩
    have sB := Same.new (o := .tup [.str nm, .ref X1, .str wo, .int (zs.length : Nat)]) hTp
    refine ⟨Tp, dM nm wo zs, rfl, .tup (SqT.of upd_same) (.cons (.str nm) (.cons (dp_dS (Same.seqTx sB hX1)) (.cons (.str wo) (.cons (.int _) .nil)))), m1, m2, m3, m4, ?_⟩
    generalize upd HA Tp (.tup [.str nm, .ref X1, .str wo, .int (zs.length : Nat)]) = HB at sB ⊢
    refine ⟨_, rfl, _, rfl, L, _, rfl, .inl ⟨SqL.of (sB _ _ hLA), fun T5 hT5 => ?_⟩⟩
    have sC := sB.trans (Same.new (o := .tup (zs.map V.str)) hT5)
    have eC : (upd HB T5 (.tup (zs.map V.str))) T5 = some (.tup (zs.map V.str)) := upd_same
    generalize upd HB T5 (.tup (zs.map V.str)) = HC at sC eC ⊢
    refine ⟨_, rfl, _, rfl, L, _, rfl, .inl (SqL.of (sC _ _ hLA)), (by show 4 ≤ sizeLine; decide), fun T6 hT6 => ?_⟩
    rw [List.length_map]
    have sD0 := Same.new (o := .tup [.str nm, .ref T5, .str wo, .int (zs.length : Nat)]) hT6
    refine ⟨T6, dM nm wo zs, rfl, .tup (SqT.of upd_same) (.cons (.str nm) (.cons (dp_dS (SqT.of (sD0 _ _ eC))) (.cons (.str wo) (.cons (.int _) .nil)))), m1, m2, m3, m4, ?_⟩
    have sD := sC.trans sD0
    generalize upd HC T6 (.tup [.str nm, .ref T5, .str wo, .int (zs.length : Nat)]) = HD at sD ⊢
    clear sB sC eC hTp hT5 hT6 sD0
    refine ⟨rfl, _, rfl, ?_⟩
    rw [decide_eq_true rfl]
    refine ifF rfl ?_
    -- slots, parts
    obtain ⟨⟨l1n, l1m⟩, ⟨l2n, l2m⟩, ⟨l3n, l3m⟩⟩ := lots_of sz gz
    obtain ⟨o1, o2, o3⟩ := spot_ok sz
    obtain ⟨yS, xS, pS, rS⟩ := hX2
    obtain ⟨yP, xP, pP, rP⟩ := hX3
    obtain ⟨yC, xC, pC, rC⟩ := hX4
    have shS : ∀ y ∈ yS, shortS y = true := fun y hy => words_short sz o1 y ((l1m y).mp (pS.mem_iff.mp hy))
    have lnS : yS.length ≤ 1000 := by
      have q := len_le (pS.nodup_iff.mpr l1n) (l := wordsAt ["read"] 1 zs) (fun y hy => (l1m y).mp (pS.mem_iff.mp hy))
      have q2 : (wordsAt ["read"] 1 zs).length ≤ zs.length := wlen
      omega
    have shP : ∀ y ∈ yP, shortS y = true := fun y hy => words_short sz o2 y ((l2m y).mp (pP.mem_iff.mp hy))
    have lnP : yP.length ≤ 1000 := by
      have q := len_le (pP.nodup_iff.mpr l2n) (l := wordsAt ["use"] 2 zs) (fun y hy => (l2m y).mp (pP.mem_iff.mp hy))
      have q2 : (wordsAt ["use"] 2 zs).length ≤ zs.length := wlen
      omega
    obtain ⟨q1, q2, q3, q4⟩ := show_dP shS lnS shP lnP
    refine ⟨_, rfl, x, C, fx, _, .ref X2, rfl, sD _ _ hx, KM.cl, nS, rfl, _, rfl, x, C, fx, _, .ref X3, rfl, sD _ _ hx, KM.cl, nP, rfl, (by show 2 ≤ sizeLine; decide), fun T7 hT7 => ?_⟩
    have sE := sD.trans (Same.new (o := .tup [.ref X2, .ref X3]) hT7)
    refine ⟨T7, dP yS yP, rfl, .tup (SqT.of upd_same) (.cons (dp_dS (SqT.of (sE _ _ xS))) (.cons (dp_dS (SqT.of (sE _ _ xP))) .nil)), q1, q2, q3, q4, ?_⟩
    generalize upd HD T7 (.tup [.ref X2, .ref X3]) = HE at sE ⊢
    refine ⟨_, rfl, (by show 1 ≤ sizeLine; decide), fun Tq hTq => ?_⟩
    have sF := sE.trans (Same.new (o := .tup [.str "read"]) hTq)
    refine ⟨L, Tq, zs, ["read"], 1, rfl, .inl (SqL.of (sF _ _ hLA)), upd_same, by omega, sz, o1, fun Tr1 yy HF s' eT1 so nd mem le => ?_⟩
    have sG := sF.trans s'
    have ey : yy = yS := sorted_uniq so rS nd (pS.nodup_iff.mpr l1n) fun y => by rw [mem y, ← l1m y, pS.mem_iff]
    subst ey
    refine ⟨_, rfl, (by show 1 ≤ sizeLine; decide), fun Tq2 hTq2 => ?_⟩
    have sG2 := sG.trans (Same.new (o := .tup [.str "use"]) hTq2)
    have eT1' := Same.new (o := .tup [.str "use"]) hTq2 _ _ eT1
    refine ⟨L, Tq2, zs, ["use"], 2, rfl, .inl (SqL.of (sG2 _ _ hLA)), upd_same, by omega, sz, o2, fun Tr2 yo HI s2' eT2 so2 nd2 mem2 le2 => ?_⟩
    have sI := sG2.trans s2'
    have eT1'' := s2' _ _ eT1'
    have ey2 : yo = yP := sorted_uniq so2 rP nd2 (pP.nodup_iff.mpr l2n) fun y => by rw [mem2 y, ← l2m y, pP.mem_iff]
    subst ey2
    refine ⟨(by show 2 ≤ sizeLine; decide), fun T8 hT8 => ?_⟩
    have sJ0 := Same.new (o := .tup [.ref Tr1, .ref Tr2]) hT8
    refine ⟨T8, dP yy yo, rfl, .tup (SqT.of upd_same) (.cons (dp_dS (SqT.of (sJ0 _ _ eT1''))) (.cons (dp_dS (SqT.of (sJ0 _ _ eT2))) .nil)), q1, q2, q3, q4, rfl, _, rfl, ?_⟩
    have sJ := sI.trans sJ0
    generalize upd HI T8 (.tup [.ref Tr1, .ref Tr2]) = HJ at sJ ⊢
    rw [decide_eq_true rfl]
    refine ifF rfl ?_
    clear sE sF sG sG2 sI sJ0 s' s2' eT1 eT1' eT1'' eT2 hTq hTq2 hT7 hT8 so nd mem le so2 nd2 mem2 le2 q1 q2 q3 q4 lnP shP lnS shS sD
    -- counters
    have shC : ∀ y ∈ yC, shortS y = true := fun y hy => words_short sz o3 y ((l3m y).mp (pC.mem_iff.mp hy))
    have lnC : yC.length ≤ 1000 := by
      have q := len_le (pC.nodup_iff.mpr l3n) (l := wordsAt ["num"] 1 zs) (fun y hy => (l3m y).mp (pC.mem_iff.mp hy))
      have q2 : (wordsAt ["num"] 1 zs).length ≤ zs.length := wlen
      omega
    obtain ⟨q1, q2, q3, q4⟩ := show_dS shC lnC
    refine ⟨_, rfl, x, C, fx, _, .ref X4, rfl, sJ _ _ hx, KM.cl, nC, rfl, X4, dS yC, rfl, dp_dS (SqT.of (sJ _ _ xC)), q1, q2, q3, q4, ?_⟩
    refine ⟨_, rfl, (by show 1 ≤ sizeLine; decide), fun Tq hTq => ?_⟩
    have sL := sJ.trans (Same.new (o := .tup [.str "num"]) hTq)
    refine ⟨L, Tq, zs, ["num"], 1, rfl, .inl (SqL.of (sL _ _ hLA)), upd_same, by omega, sz, o3, fun Tr3 yy3 HM s' eT3 so3 nd3 mem3 le3 => ?_⟩
    have sM := sL.trans s'
    have ey : yy3 = yC := sorted_uniq so3 rC nd3 (pC.nodup_iff.mpr l3n) fun y => by rw [mem3 y, ← l3m y, pC.mem_iff]
    subst ey
    refine ⟨Tr3, dS yy3, rfl, dp_dS (SqT.of eT3), q1, q2, q3, q4, rfl, _, rfl, ?_⟩
    rw [decide_eq_true rfl]
    refine ifF rfl ?_
    clear sJ sL s' eT3 hTq so3 nd3 mem3 le3 q1 q2 q3 q4 lnC shC
    -- str(made) != due
    refine ⟨_, rfl, x, fx, _, rfl, sM _ _ hx, x, nm, wo, zs, rfl, (NL.same sM).readerAt kA, wl1000, yl1000, by omega, zt, _, rfl, _, rfl, rfl, _, rfl, ?_⟩
    rw [decide_eq_true rfl]
    refine ifF rfl ?_
    -- if Reader.read(text=due) != made or ..
    have zne : zs ≠ [] := List.ne_nil_of_length_pos z0
    obtain ⟨b1, b2, b3⟩ := read_back hnm hwo sz zne
    have tkt : TxOk (.str (readerText nm wo zs)) := fun z hz => by
      cases hz
      exact ⟨len_readerText wl1000 yl1000 (by omega) zt, ok_readerText wo1 yo1 fun z q => (sz.txs z q).2⟩
    have okOf : ∀ {HX : Hp} {y : Addr} {wz : Str}, wdS wz = true → wz.length ≤ 1000 → ReaderAt K HX y C (.str nm) (.str wz) zs → ROk K HX y C nm wz zs := fun q1 q2 q => ⟨q, wn, tn, q1, q2, by omega, sz.txs, fun z hz => (sz z hz).stepOk, fun z hz => (sz z hz).num⟩
    refine ⟨rfl, _, rfl, rfl, readerText nm wo zs, rfl, tkt, by rw [b2]; omega, b3, by rw [b2]; exact sz.txs, by rw [b1]; exact tn, ?_⟩
    rw [b1, b2]
    refine ⟨fun h => (by rw [hscr] at h; cases h), fun _ y1 HN hy1 sN kN => ?_⟩
    have sN' := sM.trans sN
    have okN : ROk K HN x C nm wo zs := (NL.same sN').rOk okA
    have okY : ROk K HN y1 C nm wo zs := okOf yn yl1000 kN
    obtain ⟨fy, Y1, Y2, Y3, Y4, hyy, _⟩ := id kN
    refine ⟨_, rfl, y1, fy, _, rfl, hyy, .inl ⟨x, fx, _, rfl, sN' _ _ hx⟩, y1, nm, wo, zs, .ref x, rfl, okY, wl1000, .inr ⟨x, nm, wo, zs, rfl, okN, wl1000, _, rfl, ?_⟩⟩
    rw [decide_eq_true rfl]
    refine ⟨_, rfl, ifF rfl ?_⟩
    -- Reader(word=way, texts=tuple(texts), name=word) != made
    refine ⟨_, rfl, _, rfl, L, _, rfl, .inl ⟨SqL.of (sN' _ _ hLA), fun T9 hT9 => ?_⟩⟩
    have sO := sN'.trans (Same.new (o := .tup (zs.map V.str)) hT9)
    have eO : (upd HN T9 (.tup (zs.map V.str))) T9 = some (.tup (zs.map V.str)) := upd_same
    generalize upd HN T9 (.tup (zs.map V.str)) = HO' at sO eO ⊢
    refine ⟨_, rfl, rfl, rfl, fun y2 dy2 hy2 hdy2 hne2 => spRI_mono (reader_made (s := false) (i := false) (b := false) (l := false) (t := true) wn tn yn (fun H' s' => knd_tup (s' _ _ eO)) rfl (.inr (SqT.of eO)) sz.txs (by omega) hscr y2 dy2 hy2 hdy2 hne2) fun v HP hv => ?_⟩
    obtain ⟨rfl, sP, kP⟩ := hv
    refine ⟨rfl, ?_⟩
    have sP' := sO.trans sP
    have okP : ROk K HP x C nm wo zs := (NL.same sP').rOk okA
    have okZ : ROk K HP y2 C nm wo zs := okOf yn yl1000 kP
    obtain ⟨fz, Z1, Z2, Z3, Z4, hzz, _⟩ := id kP
    refine ⟨_, rfl, y2, fz, _, rfl, hzz, .inl ⟨x, fx, _, rfl, sP' _ _ hx⟩, y2, nm, wo, zs, .ref x, rfl, okZ, wl1000, .inr ⟨x, nm, wo, zs, rfl, okP, wl1000, _, rfl, ?_⟩⟩
    rw [decide_eq_true rfl]
    refine ⟨_, rfl, ifF rfl ?_⟩
    -- made == due
    refine ⟨_, rfl, _, rfl, x, fx, _, rfl, sP' _ _ hx, .inr ⟨_, rfl, sbK⟩, x, nm, wo, zs, _, rfl, okP, wl1000, .inl ⟨_, rfl, koK, _, rfl, ?_⟩⟩
    refine ⟨_, rfl, ifF rfl ?_⟩
    -- str(made.with_word(word='again')) != ..
    have aw : wdS "again" = true ∧ PyData.strOk "again" = true ∧ ("again" : Str).length ≤ 5 ∧ shortS "again" = true := w2_of (by decide +kernel)
    have on : wdS "once" = true ∧ PyData.strOk "once" = true ∧ ("once" : Str).length ≤ 5 ∧ shortS "once" = true := w2_of (by decide +kernel)
    have aw1000 : ("again" : Str).length ≤ 1000 := Nat.le_trans aw.2.2.1 (by decide)
    have on1000 : ("once" : Str).length ≤ 1000 := Nat.le_trans on.2.2.1 (by decide)
    refine ⟨_, rfl, x, fx, _, rfl, sP' _ _ hx, rfl, rfl, x, nm, wo, "again", zs, rfl, okP, aw.1, hscr, fun y3 HS hy3 sS kS => ?_⟩
    have sS' := sP'.trans sS
    obtain ⟨fs, S1, S2, S3, S4, hss, _⟩ := id kS
    refine ⟨y3, fs, _, rfl, hss, y3, nm, "again", zs, rfl, kS, wl1000, aw1000, by omega, zt, ?_⟩
    refine ⟨_, rfl, _, rfl, _, rfl, (by show 3 ≤ sizeLine; decide), fun T10 hT10 => ?_⟩
    have sT := sS'.trans (Same.new (o := .tup [.str nm, .ref L, .str "again"]) hT10)
    refine ⟨T10, L, nm, "again", zs, rfl, upd_same, SqL.of (sT _ _ hLA), wl1000, aw1000, by omega, zt, rfl, _, rfl, ?_⟩
    generalize upd HS T10 (.tup [.str nm, .ref L, .str "again"]) = HT at sT ⊢
    rw [decide_eq_true rfl]
    refine ifF rfl ?_
    clear sS sS' hT10 kS hy3 hss
    -- if not _law_turned_right(deal, world, made, texts)
    have okT : ROk K HT x C nm wo zs := (NL.same sT).rOk okA
    have DT := DA.keep sT
    have TT := TA.ext sT
    have wT := wA.keep (Kp.same sT)
    have hKT := sT _ _ hKA
    have hLT := sT _ _ hLA
    refine ⟨_, rfl, _, rfl, _, rfl, _, rfl, dl, c, W, x, L, nm, wo, zs, rfl, DT, wT, okT, wl1000, hLT, nL1, nL2, z0, z12, sz, gz, TT, np1, np2, fun HQ DQ kQ TQ => ?_⟩
    refine ⟨_, rfl, ifF rfl ?_⟩
    have NQ := (NL.same sT).trans (NL.kpn DT kQ)
    have hKQ := kQ _ _ hKT offK.1 offK.2 (fun _ z => by cases z)
    have hLQ := kQ _ _ hLT nL1 nL2 (fun _ z => by cases z)
    have okQ : ROk K HQ x C nm wo zs := NQ.rOk okA
    -- Reader(word, texts) != made.with_word('once')
    refine ⟨_, rfl, _, rfl, fun y4 dy4 hy4 hdy4 hne4 => spRI_mono (reader_made (wo := "once") (s := false) (i := false) (b := false) (l := true) (t := false) wn tn on.1 (fun H' s' => knd_lst (s' _ _ hLQ)) rfl (.inl (SqL.of hLQ)) sz.txs (by omega) hscr y4 dy4 hy4 hdy4 hne4) fun v HU hv => ?_⟩
    obtain ⟨rfl, sU, kU⟩ := hv
    refine ⟨rfl, ?_⟩
    have okU : ROk K HU x C nm wo zs := (NL.same sU).rOk okQ
    obtain ⟨fu, U1, U2, U3, U4, hxu, _⟩ := id okU.at_
    refine ⟨_, rfl, x, fu, _, rfl, hxu, rfl, x, nm, wo, "once", zs, rfl, okU, on.1, hscr, fun y5 HV hy5 sV kV => ?_⟩
    have kU' := (NL.same sV).readerAt kU
    obtain ⟨f4, P1, P2, P3, P4, h4x, _⟩ := id kU'
    obtain ⟨f5, Q1, Q2, Q3, Q4, h5x, _⟩ := id kV
    refine ⟨y4, f4, _, rfl, h4x, .inl ⟨y5, f5, _, rfl, h5x⟩, y4, nm, "once", zs, .ref y5, rfl, okOf on.1 on1000 kU', wl1000, .inr ⟨y5, nm, "once", zs, rfl, okOf on.1 on1000 kV, wl1000, _, rfl, ?_⟩⟩
    rw [decide_eq_true rfl]
    refine ⟨_, rfl, ifF rfl ?_⟩
    have sUV := sU.trans sV
    have NV := NQ.trans (NL.same sUV)
    have hKV := sUV _ _ hKQ
    have DV := DQ.keep sUV
    have TV := TQ.ext sUV
    clear NQ okQ okU kU kU' kV hKQ hLQ DQ TQ sU sV
    -- kept.append((due, made))
    refine ⟨_, rfl, .inl ⟨rfl, _, SqL.of hKV⟩, _, rfl, _, rfl, (by show 2 ≤ sizeLine; decide), fun Te hTe => ?_⟩
    have sR := Same.new (o := .tup [.str (readerText nm wo zs), .ref x]) hTe
    have eR : (upd HV Te (.tup [.str (readerText nm wo zs), .ref x])) Te = some (.tup [.str (readerText nm wo zs), .ref x]) := upd_same
    have DR := DV.keep sR
    have TR := TV.ext sR
    have hKR := sR _ _ hKV
    have NR := NV.trans (NL.same sR)
    generalize upd HV Te (.tup [.str (readerText nm wo zs), .ref x]) = HR at sR eR DR TR hKR NR ⊢
    refine ⟨Kp0, _, _, rfl, rfl, hKR, (by rw [List.length_map]; exact Nat.lt_of_le_of_lt (show es.length ≤ 3 by omega) (by decide)), ?_⟩
    have NS := NR.trans (NL.lst (o := .lst ((es.map fun e => V.ref e.1) ++ [V.ref Te])) hKR)
    refine ⟨es ++ [(Te, x, nm, wo, zs)], _, _, _, _, _, _, _, _, _, _, rfl, deal_lst DR offK.1 offK.2, tabs_lst TR hKR, by rw [upd_same, List.map_append]; rfl, fun e he => ?_, by rw [List.length_append, hl]; rfl⟩
    rcases List.mem_append.mp he with h | h
    · exact (NA.trans NS).ent (E2 e h)
    · rw [List.mem_singleton.mp h]
      exact ⟨NL.lst (o := .lst ((es.map fun e => V.ref e.1) ++ [V.ref Te])) hKR _ _ eR (fun _ z => by cases z) (fun _ z => by cases z), NS.rOk okA, wl1000⟩
end
end My

set_option Elab.async false
set_option linter.all false
set_option maxRecDepth 100000
set_option maxHeartbeats 2000000
/-! A written table of roles: a dict with text keys whose values are written tuples of texts. -/
namespace My
open PySem PySem.Spec PyProof.Rows L2
def txOf : Value → Option Str
  | .str x _ => some x
  | _ => none
theorem vals_tx : ∀ {us : List Value} {rs : List Str}, us.map txOf = rs.map some → Vals (rs.map V.str) us
  | [], [], _ => .nil
  | [], _ :: _, h => by cases h
  | _ :: _, [], h => by cases h
  | u :: us, r :: rs, h => by
    have h : txOf u :: us.map txOf = some r :: rs.map some := h
    injection h with h1 h2
    refine .cons ?_ (vals_tx h2)
    unfold txOf at h1
    split at h1
    · cases h1
      exact ⟨_, rfl⟩
    · cases h1
/-- v is a written tuple of the texts rs -/
def tupB (K : PySem.W.Frag) (v : V) (rs : List Str) : Bool := match v with
  | .ref b => (match K.lookup b with
    | some ⟨.type c, _, .seq vs _, _⟩ => decide (c = "tuple") && (decide (vs.size ≤ 4) && decide (vs.toList.map txOf = rs.map some))
    | _ => false)
  | _ => false
theorem tupB_ok {K : PySem.W.Frag} {v : V} {rs : List Str} (h : tupB K v rs = true) : ∃ b, v = .ref b ∧ rs.length ≤ 4 ∧ ∀ H, SqT K H b (rs.map V.str) := by
  unfold tupB at h
  split at h
  · rename_i b
    split at h
    · rename_i c od vs n sl hk
      have h1 := Bool.and_eq_true_iff.mp h
      have h2 := Bool.and_eq_true_iff.mp h1.2
      have e1 : c = "tuple" := of_decide_eq_true h1.1
      subst e1
      have e2 : vs.size ≤ 4 := of_decide_eq_true h2.1
      have e3 : vs.toList.map txOf = rs.map some := of_decide_eq_true h2.2
      have l : rs.length = vs.size := by
        have q := congrArg List.length e3
        rw [List.length_map, List.length_map] at q
        rw [← q]
        exact Array.length_toList
      exact ⟨b, rfl, by omega, fun H => .inr ⟨_, vs, n, hk, rfl, rfl, Nat.le_trans e2 (by decide), vals_tx e3⟩⟩
    · cases h
  · cases h
theorem entK_find {es : List DictEntry} {tab : List (Str × V)} (h : EntK es tab) (z : Str) :
    (∀ v, tab.lookup z = some v → ∃ e, es.find? (·.key.isStr z) = some e ∧ RelV v e.val) ∧ (tab.lookup z = none → es.find? (·.key.isStr z) = none ∧ es.any (·.refKey) = false) := by
  induction h with
  | nil => exact ⟨fun v e => (by cases e), fun _ => ⟨rfl, rfl⟩⟩
  | @cons e es x t v r h1 h2 h3 ih =>
    have hk : e.key.isStr z = (x == z) := by
      rw [h1, PySem.W.isStr_of]
      rfl
    by_cases q : x = z
    · subst q
      have hb : (x == x) = true := by simp
      rw [hb] at hk
      refine ⟨fun w hw => ?_, fun hn => ?_⟩
      · rw [List.lookup_cons, hb] at hw
        injection hw with hw
        subst hw
        exact ⟨e, by rw [List.find?_cons, hk], h2⟩
      · rw [List.lookup_cons, hb] at hn
        cases hn
    · have hb : (x == z) = false := by simpa using q
      have hb2 : (z == x) = false := by simpa using fun q2 : z = x => q q2.symm
      rw [hb] at hk
      refine ⟨fun w hw => ?_, fun hn => ?_⟩
      · rw [List.lookup_cons, hb2] at hw
        obtain ⟨e', a, b⟩ := ih.1 w hw
        exact ⟨e', by rw [List.find?_cons, hk]; exact a, b⟩
      · rw [List.lookup_cons, hb2] at hn
        obtain ⟨a, b⟩ := ih.2 hn
        refine ⟨by rw [List.find?_cons, hk]; exact a, ?_⟩
        rw [List.any_cons, b]
        unfold DictEntry.refKey
        rw [h1]
        rfl
theorem lookup_valV (z : Str) : ∀ tab : List (Str × V), valV (kvsOf tab) (Sum.inr z) = tab.lookup z
  | [] => rfl
  | (x, v) :: r => by
    have e : kvsOf ((x, v) :: r) = ((Sum.inr x : Key), v) :: kvsOf r := rfl
    rw [e, List.lookup_cons]
    by_cases q : x = z
    · subst q
      rw [valV_pos rfl]
      simp
    · have hb2 : (z == x) = false := by simpa using fun q2 : z = x => q q2.symm
      rw [hb2, valV_neg (fun e => q (Sum.inr.inj e))]
      exact lookup_valV z r
/-- the table of written entries -/
def entTab : List DictEntry → List (Str × V)
  | [] => []
  | e :: r => (match e.key, e.val with
    | .str x _, .ref a => (x, V.ref a)
    | _, _ => (Str.empty, V.non)) :: entTab r
def entB : List DictEntry → Bool
  | [] => true
  | e :: r => (match e.key, e.val with
    | .str _ _, .ref _ => true
    | _, _ => false) && entB r
theorem entK_of : ∀ {es : List DictEntry}, entB es = true → EntK es (entTab es)
  | [], _ => .nil
  | e :: r, h => by
    unfold entB at h
    have h1 := Bool.and_eq_true_iff.mp h
    have ih := entK_of h1.2
    have h2 := h1.1
    unfold entTab
    split at h2
    · rename_i x t a hk hv
      refine .cons hk ?_ ih
      rw [hv]
      rfl
    · cases h2
/-- all that the table tells is what fo says -/
def tabB (K : PySem.W.Frag) (fo : Str → Option (List Str)) (tab : List (Str × V)) : Bool := tab.all fun p => match fo p.1 with
  | some rs => tupB K p.2 rs
  | none => false
theorem tab_get {K : PySem.W.Frag} {fo : Str → Option (List Str)} {tab : List (Str × V)} (h : tabB K fo tab = true) {z : Str} {v : V} (e : tab.lookup z = some v) : ∃ rs, fo z = some rs ∧ tupB K v rs = true := by
  have m : (z, v) ∈ tab := by
    clear h
    induction tab with
    | nil => cases e
    | cons p r ih =>
      rw [List.lookup_cons] at e
      cases q : z == p.1 with
      | true =>
        rw [q] at e
        injection e with e
        have q : z = p.1 := by simpa using q
        rw [q, ← e]
        exact List.mem_cons_self
      | false =>
        rw [q] at e
        exact List.mem_cons_of_mem _ (ih e)
  have q := List.all_eq_true.mp h _ m
  dsimp only at q
  cases f : fo z with
  | none =>
    rw [f] at q
    cases q
  | some rs =>
    rw [f] at q
    exact ⟨rs, rfl, q⟩
theorem tab_has {tab : List (Str × V)} {z : Str} (h : z ∈ tab.map (·.1)) : ∃ v, tab.lookup z = some v := by
  induction tab with
  | nil => cases h
  | cons p r ih =>
    rw [List.lookup_cons]
    cases q : z == p.1 with
    | true => exact ⟨_, rfl⟩
    | false =>
      rcases List.mem_cons.mp h with h | h
      · rw [h] at q
        simp at q
      · exact ih h
theorem nsIn_of {K : PySem.W.Frag} {d : Addr} {es : Array DictEntry} {n : Nat} (l : K.lookup d = some ⟨.type "dict", none, .dict es n, #[]⟩) (z : Str) :
    PySem.W.nsIn K d z = (match es.toList.find? (·.key.isStr z) with
      | some e => some (some e.val)
      | none => if es.toList.any (·.refKey) then none else some none) := by
  unfold PySem.W.nsIn
  rw [l]
  rfl
/-- what the table gives -/
theorem tab_ns {K : PySem.W.Frag} {fo : Str → Option (List Str)} {d : Addr} {es : Array DictEntry} {n : Nat} {tab : List (Str × V)} (l : K.lookup d = some ⟨.type "dict", none, .dict es n, #[]⟩) (en : EntK es.toList tab) (hb : tabB K fo tab = true) (hk : ∀ z, fo z ≠ none → z ∈ tab.map (·.1)) (z : Str) :
    ∃ (r : Option Value) (v : V), PySem.W.nsIn K d z = some r ∧ RelV v (r.getD .none) ∧ ∀ H : Hp, RoleV K H v (fo z) := by
  obtain ⟨a, b⟩ := entK_find en z
  cases q : tab.lookup z with
  | none =>
    obtain ⟨b1, b2⟩ := b q
    refine ⟨none, .non, ?_, rfl, fun H => ?_⟩
    · rw [nsIn_of l, b1, b2]
      rfl
    · cases f : fo z with
      | none => rfl
      | some rs =>
        obtain ⟨v, hv⟩ := tab_has (hk z (by rw [f]; exact Option.some_ne_none rs))
        rw [q] at hv
        cases hv
  | some v =>
    obtain ⟨e, a1, a2⟩ := a v q
    obtain ⟨rs, f, t⟩ := tab_get hb q
    obtain ⟨b, e1, e2, e3⟩ := tupB_ok t
    refine ⟨some e.val, v, ?_, a2, fun H => ?_⟩
    · rw [nsIn_of l, a1]
    · rw [f]
      exact ⟨b, e1, e3 H, Nat.le_trans e2 (by decide)⟩
theorem tab_v {K : PySem.W.Frag} {fo : Str → Option (List Str)} {tab : List (Str × V)} (hb : tabB K fo tab = true) (hk : ∀ z, fo z ≠ none → z ∈ tab.map (·.1)) (z : Str) (rs : List Str) (f : fo z = some rs) :
    ∃ v, valV (kvsOf tab) (Sum.inr z) = some v ∧ rs.length ≤ 4 ∧ ∀ H : Hp, ∃ b, v = .ref b ∧ SqT K H b (rs.map V.str) := by
  obtain ⟨v, hv⟩ := tab_has (hk z (by rw [f]; exact Option.some_ne_none rs))
  obtain ⟨rs', f', t⟩ := tab_get hb hv
  rw [f] at f'
  cases f'
  obtain ⟨b, e1, e2, e3⟩ := tupB_ok t
  exact ⟨v, by rw [lookup_valV]; exact hv, e2, fun H => ⟨b, e1, e3 H⟩⟩
abbrev FKEYS : List Str := ["enter", "leave", "mark", "clear", "fence", "read", "use", "num", "look", "same", "even"]
theorem formOf_key (z : Str) (h : formOf z ≠ none) : z ∈ FKEYS := by
  unfold formOf at h
  simp only [List.mem_cons, List.mem_nil_iff, or_false]
  split at h
  · rename_i q
    rcases q with q | q | q <;> simp [q]
  · split at h
    · rename_i q
      simp [q]
    · split at h
      · rename_i q
        simp [q]
      · split at h
        · rename_i q
          rcases q with q | q <;> simp [q]
        · split at h
          · rename_i q
            simp [q]
          · split at h
            · rename_i q
              simp [q]
            · split at h
              · rename_i q
                simp [q]
              · split at h
                · rename_i q
                  simp [q]
                · exact absurd rfl h
end My

set_option Elab.async false
set_option linter.all false
set_option maxRecDepth 100000
set_option maxHeartbeats 4000000
namespace My
open PySem PySem.Spec PyProof.Rows L2
abbrev VE : List Value := [.type "ValueError", .type "Exception", .type "BaseException", .type "object"]
abbrev IEt : List Value := [.type "IndexError", .type "LookupError", .type "Exception", .type "BaseException", .type "object"]
theorem xm_VE {CL : Addr} : XM (.ref CL :: VE) "ValueError" := ⟨rfl, rfl, rfl⟩
theorem xm_IE : XM IEt "IndexError" := ⟨by decide +kernel, by decide +kernel, by decide +kernel⟩
abbrev sXK : Stmt := inClass (top 2) 0
theorem scXK : FnScope ["self", "word"] ["self", "word"] (defScope sXK) := ⟨rfl, rfl, rfl, by decide +kernel, rfl, by decide +kernel, by decide +kernel⟩
theorem ok_XK {P : Program} {w : World} {K : PySem.W.Frag} {mg : Str → Option Value} {base : Heap} {f C : Addr} {fd : FuncData} {B nw SB : String} {bmB mid : List Value} (F : Fun K "__init__" "InvalidReader.__init__" sXK f fd) (X : XCls K C B nw bmB mid) (SF : StoreFacts SB bmB "object.__setattr__" "object") : FnOk P w K mg base CX0 1 f fd ["self", "word"] (spInit K C "word") := by
  refine F.ok scXK (fun vs H Q E ⟨a, v, e, _⟩ => by rw [e]; rfl) (fun cdv A outer s H vs Q E hr ⟨a, v, e, h1, h2, k⟩ => ?_)
  subst e
  exact ⟨_, pss_one (ps_xst (pv 0) (pv 1)), _, rfl, _, rfl, a, C, B, nw, SB, bmB, mid, rfl, X, SF, h2, h1, fun dx n m => k dx n m⟩
abbrev sXT : Stmt := inClass (top 3) 0
theorem scXT : FnScope ["self", "at"] ["self", "at"] (defScope sXT) := ⟨rfl, rfl, rfl, by decide +kernel, rfl, by decide +kernel, by decide +kernel⟩
theorem ok_XT {P : Program} {w : World} {K : PySem.W.Frag} {mg : Str → Option Value} {base : Heap} {f C : Addr} {fd : FuncData} {B nw SB : String} {bmB mid : List Value} (F : Fun K "__init__" "InvalidText.__init__" sXT f fd) (X : XCls K C B nw bmB mid) (SF : StoreFacts SB bmB "object.__setattr__" "object") : FnOk P w K mg base CX0 1 f fd ["self", "at"] (spInit K C "at") := by
  refine F.ok scXT (fun vs H Q E ⟨a, v, e, _⟩ => by rw [e]; rfl) (fun cdv A outer s H vs Q E hr ⟨a, v, e, h1, h2, k⟩ => ?_)
  subst e
  exact ⟨_, pss_one (ps_xst (pv 0) (pv 1)), _, rfl, _, rfl, a, C, B, nw, SB, bmB, mid, rfl, X, SF, h2, h1, fun dx n m => k dx n m⟩
abbrev sXS : Stmt := inClass (top 4) 0
theorem scXS : FnScope ["self", "at"] ["self", "at"] (defScope sXS) := ⟨rfl, rfl, rfl, by decide +kernel, rfl, by decide +kernel, by decide +kernel⟩
theorem ok_XS {P : Program} {w : World} {K : PySem.W.Frag} {mg : Str → Option Value} {base : Heap} {f C : Addr} {fd : FuncData} {B nw SB : String} {bmB mid : List Value} (F : Fun K "__init__" "NoStep.__init__" sXS f fd) (X : XCls K C B nw bmB mid) (SF : StoreFacts SB bmB "object.__setattr__" "object") : FnOk P w K mg base CX0 1 f fd ["self", "at"] (spInit K C "at") := by
  refine F.ok scXS (fun vs H Q E ⟨a, v, e, _⟩ => by rw [e]; rfl) (fun cdv A outer s H vs Q E hr ⟨a, v, e, h1, h2, k⟩ => ?_)
  subst e
  exact ⟨_, pss_one (ps_xst (pv 0) (pv 1)), _, rfl, _, rfl, a, C, B, nw, SB, bmB, mid, rfl, X, SF, h2, h1, fun dx n m => k dx n m⟩
theorem kbn_rev {K : PySem.W.Frag} {fd : FuncData} {n x y : Str} {ps : List Str} {u0 : Unit} (hps : ps = [n, x, y]) (h : ∀ (s : Shared) (u a b : Value), K.In s.heap → BindsTo s fd ⟨[u], [(y, a), (x, b)]⟩ [(n, u), (x, b), (y, a)]) : KBn K fd ps 1 [y, x] (fun us ws => us ++ ws.reverse) (fun vs zs => vs ++ zs.reverse) := by
  subst hps
  refine ⟨fun s us ws X l1 l2 => ?_, fun a b => a.append b.reverse⟩
  match us, ws, l1, l2 with
  | [u], [a, b], _, _ => exact h s u a b X
theorem kbn_one {K : PySem.W.Frag} {fd : FuncData} {n x : Str} {ps : List Str} (hps : ps = [n, x]) (h : ∀ (s : Shared) (u a : Value), K.In s.heap → BindsTo s fd ⟨[u], [(x, a)]⟩ [(n, u), (x, a)]) : KBn K fd ps 1 [x] (fun us ws => us ++ ws) (fun vs zs => vs ++ zs) := by
  subst hps
  refine ⟨fun s us ws X l1 l2 => ?_, fun a b => a.append b⟩
  match us, ws, l1, l2 with
  | [u], [a], _, _ => exact h s u a X
theorem kbn_sol {K : PySem.W.Frag} {fd : FuncData} {x : Str} {ps : List Str} (hps : ps = [x]) (h : ∀ (s : Shared) (a : Value), K.In s.heap → BindsTo s fd ⟨[], [(x, a)]⟩ [(x, a)]) : KBn K fd ps 0 [x] (fun us ws => us ++ ws) (fun vs zs => vs ++ zs) := by
  subst hps
  refine ⟨fun s us ws X l1 l2 => ?_, fun a b => a.append b⟩
  match us, ws, l1, l2 with
  | [], [a], _, _ => exact h s a X
theorem kbn_dfl {K : PySem.W.Frag} {fd : FuncData} {x y z n : Str} {ps : List Str} {T : Addr} {o : Obj} {its : Array Value} {nn : Nat} (hps : ps = [n, x, y, z]) (lT : K.lookup T = some o) (oT : o.data = .seq its nn)
    (h : ∀ (u a b c : Value), ∃ k, bindArgs fd ⟨[u], [(z, a), (y, b), (x, c)]⟩ = seqItems? (.ref T) >>= k ∧ k (some its) = pure [(n, u), (x, c), (y, b), (z, a)]) : KBn K fd ps 1 [z, y, x] (fun us ws => us ++ ws.reverse) (fun vs zs => vs ++ zs.reverse) := by
  subst hps
  refine ⟨fun s us ws X l1 l2 => ?_, fun a b => a.append b.reverse⟩
  match us, ws, l1, l2 with
  | [u], [a, b, c], _, _ =>
    obtain ⟨k, e1, e2⟩ := h u a b c
    refine BindsTo.of_looks fun M => ?_
    have q := looks_items (M := M) X lT oT (.of_pure e2)
    rw [← e1] at q
    exact q
theorem all_mk {l : PySem.W.OpenLaw} {w : World} {K : PySem.W.Frag} {h : Heap} {mg : Str → Option Value} {fa fII fIU fIB fIN fID fIQ fFR fHF fLR fSP fWT fWO fKS fNc fCr fSg fKC fKW fMv fDeal fDraw fPick fMx fWo fRt fCt fRu fLo fLe fIr fHe fTr fLa fMI fMR fMW fMM fMV fML fMS fME fXK fXT fXS C CL CK CT CS pRd dF bW bC TMI c0 Pt : Addr} (X : K.In h) (G : h.Ns mainGlobals mg) (hfa : mg "law" = some (.ref fa))
    {odII anII odIU anIU odIB anIB odIN anIN odID anID odIQ anIQ odFR anFR odHF anHF odLR anLR odSP anSP odWT anWT odWO anWO odKS anKS odNc anNc odCr anCr odSg anSg odKC anKC odKW anKW odMv anMv odDeal anDeal odDraw anDraw odPick anPick odMx anMx odWo anWo odRt anRt odCt anCt odRu anRu odLo anLo odLe anLe odIr anIr odHe anHe odTr anTr odLa anLa odMI anMI odMR anMR odMW anMW odMM anMM odMV anMV odML anML odMS anMS odME anME odXK anXK odXT anXT odXS anXS : Option Addr} {slII slIU slIB slIN slID slIQ slFR slHF slLR slSP slWT slWO slKS slNc slCr slSg slKC slKW slMv slDeal slDraw slPick slMx slWo slRt slCt slRu slLo slLe slIr slHe slTr slLa slMI slMR slMW slMM slMV slML slMS slME slXK slXT slXS : Array (Option Value)} {ocII kVII dcII pmII cdII ctII ocIU kVIU dcIU pmIU cdIU ctIU ocIB kVIB dcIB pmIB cdIB ctIB ocIN kVIN dcIN pmIN cdIN ctIN ocID kVID dcID pmID cdID ctID ocIQ kVIQ dcIQ pmIQ cdIQ ctIQ ocFR kVFR dcFR pmFR cdFR ctFR ocHF kVHF dcHF pmHF cdHF ctHF ocLR kVLR dcLR pmLR cdLR ctLR ocSP kVSP dcSP pmSP cdSP ctSP ocWT kVWT dcWT pmWT cdWT ctWT ocWO kVWO dcWO pmWO cdWO ctWO ocKS kVKS dcKS pmKS cdKS ctKS ocNc kVNc dcNc pmNc cdNc ctNc ocCr kVCr dcCr pmCr cdCr ctCr ocSg kVSg dcSg pmSg cdSg ctSg ocKC kVKC dcKC pmKC cdKC ctKC ocKW kVKW dcKW pmKW cdKW ctKW ocMv kVMv dcMv pmMv cdMv ctMv ocDeal kVDeal dcDeal pmDeal cdDeal ctDeal ocDraw kVDraw dcDraw pmDraw cdDraw ctDraw ocPick kVPick dcPick pmPick cdPick ctPick ocMx kVMx dcMx pmMx cdMx ctMx ocWo kVWo dcWo pmWo cdWo ctWo ocRt kVRt dcRt pmRt cdRt ctRt ocCt kVCt dcCt pmCt cdCt ctCt ocRu kVRu dcRu pmRu cdRu ctRu ocLo kVLo dcLo pmLo cdLo ctLo ocLe kVLe dcLe pmLe cdLe ctLe ocIr kVIr dcIr pmIr cdIr ctIr ocHe kVHe dcHe pmHe cdHe ctHe ocTr kVTr dcTr pmTr  ctTr ocLa kVLa dcLa pmLa cdLa ctLa ocMI kVMI dcMI pmMI cdMI ctMI ocMR kVMR dcMR pmMR cdMR ctMR ocMW kVMW dcMW pmMW cdMW ctMW ocMM kVMM dcMM pmMM cdMM ctMM ocMV kVMV dcMV pmMV cdMV ctMV ocML kVML dcML pmML cdML ctML ocMS kVMS dcMS pmMS cdMS ctMS ocME kVME dcME pmME cdME ctME ocXK kVXK dcXK pmXK cdXK ctXK ocXT kVXT dcXT pmXT cdXT ctXT ocXS kVXS dcXS pmXS cdXS ctXS uLet uDig : Value} {restR : List Value} {ocT : Value} {odT : Option Addr} {vsT : Array Value} {nT : Nat} {slT : Array (Option Value)} {esF : Array DictEntry} {nF : Nat}
    {qmK qqK qmT qqT qmS qqS : Str} {qNK qNT qNS : Addr} {qbK qsK qbT qsT qbS qsS : List Value} {qnK qnT qnS : List Str} {qaK qaT qaS : Bool} {qcK qcT qcS : Option Bool} {qdK qdT qdS : Option Addr} {k0K k1K k2K k3K k5K k0T k1T k2T k3T k5T k0S k1S k2S k3S k5S : Option Value}
    (aII : PySem.W.nsIn K mainGlobals "is_integer" = some (some (.ref fII)))
    (lII : K.lookup fII = some ⟨ocII, odII, .func (PySem.W.fnOf "is_integer" "is_integer" (defArgs sIsInteger) (defBody sIsInteger) (defScope sIsInteger) .none kVII dcII pmII anII cdII ctII), slII⟩)
    (cII : PySem.W.codeIn K cdII "is_integer" = true)
    (kII : PySem.W.keepIn K (.ref fII) = true)
    (aIU : PySem.W.nsIn K mainGlobals "is_number" = some (some (.ref fIU)))
    (lIU : K.lookup fIU = some ⟨ocIU, odIU, .func (PySem.W.fnOf "is_number" "is_number" (defArgs sIsNumber) (defBody sIsNumber) (defScope sIsNumber) .none kVIU dcIU pmIU anIU cdIU ctIU), slIU⟩)
    (cIU : PySem.W.codeIn K cdIU "is_number" = true)
    (kIU : PySem.W.keepIn K (.ref fIU) = true)
    (aIB : PySem.W.nsIn K mainGlobals "is_number_below" = some (some (.ref fIB)))
    (lIB : K.lookup fIB = some ⟨ocIB, odIB, .func (PySem.W.fnOf "is_number_below" "is_number_below" (defArgs sIsBelow) (defBody sIsBelow) (defScope sIsBelow) .none kVIB dcIB pmIB anIB cdIB ctIB), slIB⟩)
    (cIB : PySem.W.codeIn K cdIB "is_number_below" = true)
    (kIB : PySem.W.keepIn K (.ref fIB) = true)
    (aIN : PySem.W.nsIn K mainGlobals "is_name" = some (some (.ref fIN)))
    (lIN : K.lookup fIN = some ⟨ocIN, odIN, .func (PySem.W.fnOf "is_name" "is_name" (defArgs sIsName) (defBody sIsName) (defScope sIsName) .none kVIN dcIN pmIN anIN cdIN ctIN), slIN⟩)
    (cIN : PySem.W.codeIn K cdIN "is_name" = true)
    (kIN : PySem.W.keepIn K (.ref fIN) = true)
    (aID : PySem.W.nsIn K mainGlobals "is_digits" = some (some (.ref fID)))
    (lID : K.lookup fID = some ⟨ocID, odID, .func (PySem.W.fnOf "is_digits" "is_digits" (defArgs sIsDigits) (defBody sIsDigits) (defScope sIsDigits) .none kVID dcID pmID anID cdID ctID), slID⟩)
    (cID : PySem.W.codeIn K cdID "is_digits" = true)
    (kID : PySem.W.keepIn K (.ref fID) = true)
    (aIQ : PySem.W.nsIn K mainGlobals "is_sequence" = some (some (.ref fIQ)))
    (lIQ : K.lookup fIQ = some ⟨ocIQ, odIQ, .func (PySem.W.fnOf "is_sequence" "is_sequence" (defArgs sIsSeq) (defBody sIsSeq) (defScope sIsSeq) .none kVIQ dcIQ pmIQ anIQ cdIQ ctIQ), slIQ⟩)
    (cIQ : PySem.W.codeIn K cdIQ "is_sequence" = true)
    (kIQ : PySem.W.keepIn K (.ref fIQ) = true)
    (aFR : PySem.W.nsIn K mainGlobals "fits_role" = some (some (.ref fFR)))
    (lFR : K.lookup fFR = some ⟨ocFR, odFR, .func (PySem.W.fnOf "fits_role" "fits_role" (defArgs sFits) (defBody sFits) (defScope sFits) .none kVFR dcFR pmFR anFR cdFR ctFR), slFR⟩)
    (cFR : PySem.W.codeIn K cdFR "fits_role" = true)
    (kFR : PySem.W.keepIn K (.ref fFR) = true)
    (aHF : PySem.W.nsIn K mainGlobals "has_form" = some (some (.ref fHF)))
    (lHF : K.lookup fHF = some ⟨ocHF, odHF, .func (PySem.W.fnOf "has_form" "has_form" (defArgs sHasForm) (defBody sHasForm) (defScope sHasForm) .none kVHF dcHF pmHF anHF cdHF ctHF), slHF⟩)
    (cHF : PySem.W.codeIn K cdHF "has_form" = true)
    (kHF : PySem.W.keepIn K (.ref fHF) = true)
    (aLR : PySem.W.nsIn K mainGlobals "lot_of_role" = some (some (.ref fLR)))
    (lLR : K.lookup fLR = some ⟨ocLR, odLR, .func (PySem.W.fnOf "lot_of_role" "lot_of_role" (defArgs sLot) (defBody sLot) (defScope sLot) .none kVLR dcLR pmLR anLR cdLR ctLR), slLR⟩)
    (cLR : PySem.W.codeIn K cdLR "lot_of_role" = true)
    (kLR : PySem.W.keepIn K (.ref fLR) = true)
    (aSP : PySem.W.nsIn K mainGlobals "split_script" = some (some (.ref fSP)))
    (lSP : K.lookup fSP = some ⟨ocSP, odSP, .func (PySem.W.fnOf "split_script" "split_script" (defArgs sSplit) (defBody sSplit) (defScope sSplit) .none kVSP dcSP pmSP anSP cdSP ctSP), slSP⟩)
    (cSP : PySem.W.codeIn K cdSP "split_script" = true)
    (kSP : PySem.W.keepIn K (.ref fSP) = true)
    (aWT : PySem.W.nsIn K mainGlobals "with_text" = some (some (.ref fWT)))
    (lWT : K.lookup fWT = some ⟨ocWT, odWT, .func (PySem.W.fnOf "with_text" "with_text" (defArgs sWith) (defBody sWith) (defScope sWith) .none kVWT dcWT pmWT anWT cdWT ctWT), slWT⟩)
    (cWT : PySem.W.codeIn K cdWT "with_text" = true)
    (kWT : PySem.W.keepIn K (.ref fWT) = true)
    (aWO : PySem.W.nsIn K mainGlobals "without_text" = some (some (.ref fWO)))
    (lWO : K.lookup fWO = some ⟨ocWO, odWO, .func (PySem.W.fnOf "without_text" "without_text" (defArgs sWithout) (defBody sWithout) (defScope sWithout) .none kVWO dcWO pmWO anWO cdWO ctWO), slWO⟩)
    (cWO : PySem.W.codeIn K cdWO "without_text" = true)
    (kWO : PySem.W.keepIn K (.ref fWO) = true)
    (aKS : PySem.W.nsIn K mainGlobals "is_reader_step" = some (some (.ref fKS)))
    (lKS : K.lookup fKS = some ⟨ocKS, odKS, .func (PySem.W.fnOf "is_reader_step" "is_reader_step" (defArgs sIsStep) (defBody sIsStep) (defScope sIsStep) .none kVKS dcKS pmKS anKS cdKS ctKS), slKS⟩)
    (cKS : PySem.W.codeIn K cdKS "is_reader_step" = true)
    (kKS : PySem.W.keepIn K (.ref fKS) = true)
    (aNc : PySem.W.nsIn K mainGlobals "numbers_in_check" = some (some (.ref fNc)))
    (lNc : K.lookup fNc = some ⟨ocNc, odNc, .func (PySem.W.fnOf "numbers_in_check" "numbers_in_check" (defArgs sNc) (defBody sNc) (defScope sNc) .none kVNc dcNc pmNc anNc cdNc ctNc), slNc⟩)
    (cNc : PySem.W.codeIn K cdNc "numbers_in_check" = true)
    (kNc : PySem.W.keepIn K (.ref fNc) = true)
    (aCr : PySem.W.nsIn K mainGlobals "compares_right" = some (some (.ref fCr)))
    (lCr : K.lookup fCr = some ⟨ocCr, odCr, .func (PySem.W.fnOf "compares_right" "compares_right" (defArgs sCr) (defBody sCr) (defScope sCr) .none kVCr dcCr pmCr anCr cdCr ctCr), slCr⟩)
    (cCr : PySem.W.codeIn K cdCr "compares_right" = true)
    (kCr : PySem.W.keepIn K (.ref fCr) = true)
    (aSg : PySem.W.nsIn K mainGlobals "steps_go_right" = some (some (.ref fSg)))
    (lSg : K.lookup fSg = some ⟨ocSg, odSg, .func (PySem.W.fnOf "steps_go_right" "steps_go_right" (defArgs sSg) (defBody sSg) (defScope sSg) .none kVSg dcSg pmSg anSg cdSg ctSg), slSg⟩)
    (cSg : PySem.W.codeIn K cdSg "steps_go_right" = true)
    (kSg : PySem.W.keepIn K (.ref fSg) = true)
    (aKC : PySem.W.nsIn K mainGlobals "is_reader_script" = some (some (.ref fKC)))
    (lKC : K.lookup fKC = some ⟨ocKC, odKC, .func (PySem.W.fnOf "is_reader_script" "is_reader_script" (defArgs sScript) (defBody sScript) (defScope sScript) .none kVKC dcKC pmKC anKC cdKC ctKC), slKC⟩)
    (cKC : PySem.W.codeIn K cdKC "is_reader_script" = true)
    (kKC : PySem.W.keepIn K (.ref fKC) = true)
    (aKW : PySem.W.nsIn K mainGlobals "reader_words" = some (some (.ref fKW)))
    (lKW : K.lookup fKW = some ⟨ocKW, odKW, .func (PySem.W.fnOf "reader_words" "reader_words" (defArgs sWords) (defBody sWords) (defScope sWords) .none kVKW dcKW pmKW anKW cdKW ctKW), slKW⟩)
    (cKW : PySem.W.codeIn K cdKW "reader_words" = true)
    (kKW : PySem.W.keepIn K (.ref fKW) = true)
    (aMv : PySem.W.nsIn K mainGlobals "moved_text" = some (some (.ref fMv)))
    (lMv : K.lookup fMv = some ⟨ocMv, odMv, .func (PySem.W.fnOf "moved_text" "moved_text" (defArgs sMv) (defBody sMv) (defScope sMv) .none kVMv dcMv pmMv anMv cdMv ctMv), slMv⟩)
    (cMv : PySem.W.codeIn K cdMv "moved_text" = true)
    (kMv : PySem.W.keepIn K (.ref fMv) = true)
    (aDeal : PySem.W.nsIn K mainGlobals "_law_deal" = some (some (.ref fDeal)))
    (lDeal : K.lookup fDeal = some ⟨ocDeal, odDeal, .func (PySem.W.fnOf "_law_deal" "_law_deal" (defArgs sDeal) (defBody sDeal) (defScope sDeal) .none kVDeal dcDeal pmDeal anDeal cdDeal ctDeal), slDeal⟩)
    (cDeal : PySem.W.codeIn K cdDeal "_law_deal" = true)
    (kDeal : PySem.W.keepIn K (.ref fDeal) = true)
    (aDraw : PySem.W.nsIn K mainGlobals "_law_draw" = some (some (.ref fDraw)))
    (lDraw : K.lookup fDraw = some ⟨ocDraw, odDraw, .func (PySem.W.fnOf "_law_draw" "_law_draw" (defArgs sDraw) (defBody sDraw) (defScope sDraw) .none kVDraw dcDraw pmDraw anDraw cdDraw ctDraw), slDraw⟩)
    (cDraw : PySem.W.codeIn K cdDraw "_law_draw" = true)
    (kDraw : PySem.W.keepIn K (.ref fDraw) = true)
    (aPick : PySem.W.nsIn K mainGlobals "_law_pick" = some (some (.ref fPick)))
    (lPick : K.lookup fPick = some ⟨ocPick, odPick, .func (PySem.W.fnOf "_law_pick" "_law_pick" (defArgs sPick) (defBody sPick) (defScope sPick) .none kVPick dcPick pmPick anPick cdPick ctPick), slPick⟩)
    (cPick : PySem.W.codeIn K cdPick "_law_pick" = true)
    (kPick : PySem.W.keepIn K (.ref fPick) = true)
    (aMx : PySem.W.nsIn K mainGlobals "_law_mixed" = some (some (.ref fMx)))
    (lMx : K.lookup fMx = some ⟨ocMx, odMx, .func (PySem.W.fnOf "_law_mixed" "_law_mixed" (defArgs sMx) (defBody sMx) (defScope sMx) .none kVMx dcMx pmMx anMx cdMx ctMx), slMx⟩)
    (cMx : PySem.W.codeIn K cdMx "_law_mixed" = true)
    (kMx : PySem.W.keepIn K (.ref fMx) = true)
    (aWo : PySem.W.nsIn K mainGlobals "_law_world" = some (some (.ref fWo)))
    (lWo : K.lookup fWo = some ⟨ocWo, odWo, .func (PySem.W.fnOf "_law_world" "_law_world" (defArgs sWo) (defBody sWo) (defScope sWo) .none kVWo dcWo pmWo anWo cdWo ctWo), slWo⟩)
    (cWo : PySem.W.codeIn K cdWo "_law_world" = true)
    (kWo : PySem.W.keepIn K (.ref fWo) = true)
    (aRt : PySem.W.nsIn K mainGlobals "_law_reader_texts" = some (some (.ref fRt)))
    (lRt : K.lookup fRt = some ⟨ocRt, odRt, .func (PySem.W.fnOf "_law_reader_texts" "_law_reader_texts" (defArgs sRt) (defBody sRt) (defScope sRt) .none kVRt dcRt pmRt anRt cdRt ctRt), slRt⟩)
    (cRt : PySem.W.codeIn K cdRt "_law_reader_texts" = true)
    (kRt : PySem.W.keepIn K (.ref fRt) = true)
    (aCt : PySem.W.nsIn K mainGlobals "_law_check_text" = some (some (.ref fCt)))
    (lCt : K.lookup fCt = some ⟨ocCt, odCt, .func (PySem.W.fnOf "_law_check_text" "_law_check_text" (defArgs sCt) (defBody sCt) (defScope sCt) .none kVCt dcCt pmCt anCt cdCt ctCt), slCt⟩)
    (cCt : PySem.W.codeIn K cdCt "_law_check_text" = true)
    (kCt : PySem.W.keepIn K (.ref fCt) = true)
    (aRu : PySem.W.nsIn K mainGlobals "_law_reader_text" = some (some (.ref fRu)))
    (lRu : K.lookup fRu = some ⟨ocRu, odRu, .func (PySem.W.fnOf "_law_reader_text" "_law_reader_text" (defArgs sRu) (defBody sRu) (defScope sRu) .none kVRu dcRu pmRu anRu cdRu ctRu), slRu⟩)
    (cRu : PySem.W.codeIn K cdRu "_law_reader_text" = true)
    (kRu : PySem.W.keepIn K (.ref fRu) = true)
    (aLo : PySem.W.nsIn K mainGlobals "_law_lot" = some (some (.ref fLo)))
    (lLo : K.lookup fLo = some ⟨ocLo, odLo, .func (PySem.W.fnOf "_law_lot" "_law_lot" (defArgs sLo) (defBody sLo) (defScope sLo) .none kVLo dcLo pmLo anLo cdLo ctLo), slLo⟩)
    (cLo : PySem.W.codeIn K cdLo "_law_lot" = true)
    (kLo : PySem.W.keepIn K (.ref fLo) = true)
    (aLe : PySem.W.nsIn K mainGlobals "_law_led" = some (some (.ref fLe)))
    (lLe : K.lookup fLe = some ⟨ocLe, odLe, .func (PySem.W.fnOf "_law_led" "_law_led" (defArgs sLe) (defBody sLe) (defScope sLe) .none kVLe dcLe pmLe anLe cdLe ctLe), slLe⟩)
    (cLe : PySem.W.codeIn K cdLe "_law_led" = true)
    (kLe : PySem.W.keepIn K (.ref fLe) = true)
    (aIr : PySem.W.nsIn K mainGlobals "_law_is_reader" = some (some (.ref fIr)))
    (lIr : K.lookup fIr = some ⟨ocIr, odIr, .func (PySem.W.fnOf "_law_is_reader" "_law_is_reader" (defArgs sIr) (defBody sIr) (defScope sIr) .none kVIr dcIr pmIr anIr cdIr ctIr), slIr⟩)
    (cIr : PySem.W.codeIn K cdIr "_law_is_reader" = true)
    (kIr : PySem.W.keepIn K (.ref fIr) = true)
    (aHe : PySem.W.nsIn K mainGlobals "_law_heard" = some (some (.ref fHe)))
    (lHe : K.lookup fHe = some ⟨ocHe, odHe, .func (PySem.W.fnOf "_law_heard" "_law_heard" (defArgs sHe) (defBody sHe) (defScope sHe) .none kVHe dcHe pmHe anHe cdHe ctHe), slHe⟩)
    (cHe : PySem.W.codeIn K cdHe "_law_heard" = true)
    (kHe : PySem.W.keepIn K (.ref fHe) = true)
    (aTr : PySem.W.nsIn K mainGlobals "_law_turned_right" = some (some (.ref fTr)))
    (lTr : K.lookup fTr = some ⟨ocTr, odTr, .func (PySem.W.fnOf "_law_turned_right" "_law_turned_right" (defArgs sTr) (defBody sTr) (defScope sTr) .none kVTr dcTr pmTr anTr (.ref c0) ctTr), slTr⟩)
    (cTr : PySem.W.codeIn K (.ref c0) "_law_turned_right" = true)
    (kTr : PySem.W.keepIn K (.ref fTr) = true)
    (aLa : PySem.W.nsIn K mainGlobals "law" = some (some (.ref fLa)))
    (lLa : K.lookup fLa = some ⟨ocLa, odLa, .func (PySem.W.fnOf "law" "law" (defArgs sLa) (defBody sLa) (defScope sLa) .none kVLa dcLa pmLa anLa cdLa ctLa), slLa⟩)
    (cLa : PySem.W.codeIn K cdLa "law" = true)
    (kLa : PySem.W.keepIn K (.ref fLa) = true)
    (gC : PySem.W.nsIn K mainGlobals "Reader" = some (some (.ref C)))
    (aMI : PySem.W.findIn K (.ref C) "__init__" = some (some (.ref fMI)))
    (iMI : PySem.W.isFn K (.ref fMI) = true)
    (lMI : K.lookup fMI = some ⟨ocMI, odMI, .func (PySem.W.fnOf "__init__" "Reader.__init__" (defArgs sKI) (defBody sKI) (defScope sKI) (.ref TMI) kVMI dcMI pmMI anMI cdMI ctMI), slMI⟩)
    (lTM : K.lookup TMI = some ⟨ocT, odT, .seq vsT nT, slT⟩)
    (vTM : vsT.toList.map txOf = ([("once" : Str)] : List Str).map some)
    (cMI : PySem.W.codeIn K cdMI "Reader.__init__" = true)
    (kMI : PySem.W.keepIn K (.ref fMI) = true)
    (aMR : PySem.W.findCls K (.ref C) (.type "type") "read" = some (.get (.builtin "staticmethod.__get__") (.ref pRd) .none (.ref C)))
    (rMR : PySem.W.recIn K pRd "staticmethod" = some (.ref fMR :: restR))
    (lMR : K.lookup fMR = some ⟨ocMR, odMR, .func (PySem.W.fnOf "read" "Reader.read" (defArgs sKRead) (defBody sKRead) (defScope sKRead) .none kVMR dcMR pmMR anMR cdMR ctMR), slMR⟩)
    (cMR : PySem.W.codeIn K cdMR "Reader.read" = true)
    (kMR : PySem.W.keepIn K (.ref fMR) = true)
    (aMW : PySem.W.findIn K (.ref C) "without" = some (some (.ref fMW)))
    (iMW : PySem.W.isFn K (.ref fMW) = true)
    (lMW : K.lookup fMW = some ⟨ocMW, odMW, .func (PySem.W.fnOf "without" "Reader.without" (defArgs sKWithout) (defBody sKWithout) (defScope sKWithout) .none kVMW dcMW pmMW anMW cdMW ctMW), slMW⟩)
    (cMW : PySem.W.codeIn K cdMW "Reader.without" = true)
    (kMW : PySem.W.keepIn K (.ref fMW) = true)
    (aMM : PySem.W.findIn K (.ref C) "with_more" = some (some (.ref fMM)))
    (iMM : PySem.W.isFn K (.ref fMM) = true)
    (lMM : K.lookup fMM = some ⟨ocMM, odMM, .func (PySem.W.fnOf "with_more" "Reader.with_more" (defArgs sKMore) (defBody sKMore) (defScope sKMore) .none kVMM dcMM pmMM anMM cdMM ctMM), slMM⟩)
    (cMM : PySem.W.codeIn K cdMM "Reader.with_more" = true)
    (kMM : PySem.W.keepIn K (.ref fMM) = true)
    (aMV : PySem.W.findIn K (.ref C) "with_word" = some (some (.ref fMV)))
    (iMV : PySem.W.isFn K (.ref fMV) = true)
    (lMV : K.lookup fMV = some ⟨ocMV, odMV, .func (PySem.W.fnOf "with_word" "Reader.with_word" (defArgs sKWord) (defBody sKWord) (defScope sKWord) .none kVMV dcMV pmMV anMV cdMV ctMV), slMV⟩)
    (cMV : PySem.W.codeIn K cdMV "Reader.with_word" = true)
    (kMV : PySem.W.keepIn K (.ref fMV) = true)
    (aML : PySem.W.findIn K (.ref C) "__len__" = some (some (.ref fML)))
    (iML : PySem.W.isFn K (.ref fML) = true)
    (lML : K.lookup fML = some ⟨ocML, odML, .func (PySem.W.fnOf "__len__" "Reader.__len__" (defArgs sKLen) (defBody sKLen) (defScope sKLen) .none kVML dcML pmML anML cdML ctML), slML⟩)
    (cML : PySem.W.codeIn K cdML "Reader.__len__" = true)
    (kML : PySem.W.keepIn K (.ref fML) = true)
    (aMS : PySem.W.findIn K (.ref C) "__str__" = some (some (.ref fMS)))
    (iMS : PySem.W.isFn K (.ref fMS) = true)
    (lMS : K.lookup fMS = some ⟨ocMS, odMS, .func (PySem.W.fnOf "__str__" "Reader.__str__" (defArgs sKStr) (defBody sKStr) (defScope sKStr) .none kVMS dcMS pmMS anMS cdMS ctMS), slMS⟩)
    (cMS : PySem.W.codeIn K cdMS "Reader.__str__" = true)
    (kMS : PySem.W.keepIn K (.ref fMS) = true)
    (aME : PySem.W.findIn K (.ref C) "__eq__" = some (some (.ref fME)))
    (iME : PySem.W.isFn K (.ref fME) = true)
    (lME : K.lookup fME = some ⟨ocME, odME, .func (PySem.W.fnOf "__eq__" "Reader.__eq__" (defArgs sKEq) (defBody sKEq) (defScope sKEq) .none kVME dcME pmME anME cdME ctME), slME⟩)
    (cME : PySem.W.codeIn K cdME "Reader.__eq__" = true)
    (kME : PySem.W.keepIn K (.ref fME) = true)
    (rdC : PySem.W.readsIn K C (.type "type") = true)
    (gaC : PySem.W.specialIn K (.ref C) "__getattribute__" = some (some (.builtin "type.__getattribute__")))
    (pgC : PySem.W.plainGet K C Str.empty = true)
    (hdC : PySem.W.hasDictIn K C = true)
    (poC : PySem.W.plainOver K C = true)
    (saC : PySem.W.findIn K (.ref C) "__setattr__" = some (some (.builtin "object.__setattr__")))
    (mkC : PySem.W.makesIn K C = true)
    (kpC : PySem.W.keepIn K (.ref C) = true)
    (no_name : PySem.W.findIn K (.ref C) "name" = some none)
    (no_texts : PySem.W.findIn K (.ref C) "texts" = some none)
    (no_word : PySem.W.findIn K (.ref C) "word" = some none)
    (no_slots : PySem.W.findIn K (.ref C) "slots" = some none)
    (no_parts : PySem.W.findIn K (.ref C) "parts" = some none)
    (no_counters : PySem.W.findIn K (.ref C) "counters" = some none)
    (neC : PySem.W.findIn K (.ref C) "__ne__" = some (some (.builtin "object.__ne__")))
    (obC : PySem.W.subIn K (.ref C) (.type "object") = some true)
    (sbC : PySem.W.subIn K (.type "str") (.ref C) = some false)
    (koC : PySem.W.kitOne K (.type "str") (.ref C) = some false)
    (clC : PySem.W.findIn K (.ref C) "__class__" = some (some (.builtin "object.__class__")))
    (hnC : PySem.W.specialIn K (.builtin "object.__class__") "__get__" = some (some (.builtin "getset_descriptor.__get__")))
    (htC : PySem.W.takesIn K (.builtin "object.__class__") = some true)
    (hmC : PySem.W.mroIn K C (.type "object") = some true)
    (oneC : PySem.W.kitOne K (.ref C) (.ref C) = some true)
    (gL : PySem.W.nsIn K mainGlobals "LookError" = some (some (.ref CL)))
    (gK : PySem.W.nsIn K mainGlobals "InvalidReader" = some (some (.ref CK)))
    (jK : K.lookup CK = some (excClassObj qmK qqK CK qNK qbK (.ref CL :: VE) true qnK qsK qaK qcK qdK k0K k1K k2K k3K k5K "ValueError.__new__"))
    (saK : PySem.W.findIn K (.ref CK) "__setattr__" = some (some (.builtin "object.__setattr__")))
    (gaK : PySem.W.findIn K (.ref CK) "__getattribute__" = some (some (.builtin "BaseException.__getattribute__")))
    (ggK : PySem.W.findIn K (.ref CK) "__getattr__" = some none)
    (kcK : PySem.W.findIn K (.ref CK) "__class__" = some (some (.builtin "object.__class__")))
    (kpK : PySem.W.keepIn K (.ref CK) = true)
    (noK : PySem.W.findIn K (.ref CK) "word" = some none)
    (aXK : PySem.W.findIn K (.ref CK) "__init__" = some (some (.ref fXK)))
    (tXK : PySem.W.typeIn K (.ref fXK) = some (.type "function"))
    (lXK : K.lookup fXK = some ⟨ocXK, odXK, .func (PySem.W.fnOf "__init__" "InvalidReader.__init__" (defArgs sXK) (defBody sXK) (defScope sXK) .none kVXK dcXK pmXK anXK cdXK ctXK), slXK⟩)
    (cXK : PySem.W.codeIn K cdXK "InvalidReader.__init__" = true)
    (kXK : PySem.W.keepIn K (.ref fXK) = true)
    (gT : PySem.W.nsIn K mainGlobals "InvalidText" = some (some (.ref CT)))
    (jT : K.lookup CT = some (excClassObj qmT qqT CT qNT qbT (.ref CL :: VE) true qnT qsT qaT qcT qdT k0T k1T k2T k3T k5T "ValueError.__new__"))
    (saT : PySem.W.findIn K (.ref CT) "__setattr__" = some (some (.builtin "object.__setattr__")))
    (gaT : PySem.W.findIn K (.ref CT) "__getattribute__" = some (some (.builtin "BaseException.__getattribute__")))
    (ggT : PySem.W.findIn K (.ref CT) "__getattr__" = some none)
    (kcT : PySem.W.findIn K (.ref CT) "__class__" = some (some (.builtin "object.__class__")))
    (kpT : PySem.W.keepIn K (.ref CT) = true)
    (noT : PySem.W.findIn K (.ref CT) "at" = some none)
    (aXT : PySem.W.findIn K (.ref CT) "__init__" = some (some (.ref fXT)))
    (tXT : PySem.W.typeIn K (.ref fXT) = some (.type "function"))
    (lXT : K.lookup fXT = some ⟨ocXT, odXT, .func (PySem.W.fnOf "__init__" "InvalidText.__init__" (defArgs sXT) (defBody sXT) (defScope sXT) .none kVXT dcXT pmXT anXT cdXT ctXT), slXT⟩)
    (cXT : PySem.W.codeIn K cdXT "InvalidText.__init__" = true)
    (kXT : PySem.W.keepIn K (.ref fXT) = true)
    (gS : PySem.W.nsIn K mainGlobals "NoStep" = some (some (.ref CS)))
    (jS : K.lookup CS = some (excClassObj qmS qqS CS qNS qbS IEt true qnS qsS qaS qcS qdS k0S k1S k2S k3S k5S "IndexError.__new__"))
    (saS : PySem.W.findIn K (.ref CS) "__setattr__" = some (some (.builtin "object.__setattr__")))
    (gaS : PySem.W.findIn K (.ref CS) "__getattribute__" = some (some (.builtin "BaseException.__getattribute__")))
    (ggS : PySem.W.findIn K (.ref CS) "__getattr__" = some none)
    (kcS : PySem.W.findIn K (.ref CS) "__class__" = some (some (.builtin "object.__class__")))
    (kpS : PySem.W.keepIn K (.ref CS) = true)
    (noS : PySem.W.findIn K (.ref CS) "at" = some none)
    (aXS : PySem.W.findIn K (.ref CS) "__init__" = some (some (.ref fXS)))
    (tXS : PySem.W.typeIn K (.ref fXS) = some (.type "function"))
    (lXS : K.lookup fXS = some ⟨ocXS, odXS, .func (PySem.W.fnOf "__init__" "NoStep.__init__" (defArgs sXS) (defBody sXS) (defScope sXS) .none kVXS dcXS pmXS anXS cdXS ctXS), slXS⟩)
    (cXS : PySem.W.codeIn K cdXS "NoStep.__init__" = true)
    (kXS : PySem.W.keepIn K (.ref fXS) = true)
    (xmK : PySem.W.exmOne K (.ref CK) (.ref CK) = some true)
    (sbK : PySem.W.subIn K (.ref CK) (.type "BaseException") = some true)
    (hdK : PySem.W.hasDictIn K CK = true)
    (y_int : PySem.W.nsIn K mainGlobals "int" = some none)
    (y_abs : PySem.W.nsIn K mainGlobals "abs" = some none)
    (y_len : PySem.W.nsIn K mainGlobals "len" = some none)
    (y_range : PySem.W.nsIn K mainGlobals "range" = some none)
    (y_tuple : PySem.W.nsIn K mainGlobals "tuple" = some none)
    (y_list : PySem.W.nsIn K mainGlobals "list" = some none)
    (y_sorted : PySem.W.nsIn K mainGlobals "sorted" = some none)
    (y_set : PySem.W.nsIn K mainGlobals "set" = some none)
    (y_all : PySem.W.nsIn K mainGlobals "all" = some none)
    (y_any : PySem.W.nsIn K mainGlobals "any" = some none)
    (y_isinstance : PySem.W.nsIn K mainGlobals "isinstance" = some none)
    (y_str : PySem.W.nsIn K mainGlobals "str" = some none)
    (y_bool : PySem.W.nsIn K mainGlobals "bool" = some none)
    (y_zip : PySem.W.nsIn K mainGlobals "zip" = some none)
    (y_dict : PySem.W.nsIn K mainGlobals "dict" = some none)
    (y_repr : PySem.W.nsIn K mainGlobals "repr" = some none)
    (y_enumerate : PySem.W.nsIn K mainGlobals "enumerate" = some none)
    (gLet : PySem.W.nsIn K mainGlobals "LETTERS" = some (some uLet))
    (rLet : RelV (.str LET) uLet)
    (gDig : PySem.W.nsIn K mainGlobals "DIGITS" = some (some uDig))
    (rDig : RelV (.str DIG) uDig)
    (gFm : PySem.W.nsIn K mainGlobals "FORMS" = some (some (.ref dF)))
    (lFm : K.lookup dF = some ⟨.type "dict", none, .dict esF nF, #[]⟩)
    (litF : PySem.W.KeysLit w.params esF.toList)
    (ebF : entB esF.toList = true)
    (tbF : tabB K formOf (entTab esF.toList) = true)
    (kyF : (entTab esF.toList).map (·.1) = FKEYS)
    (lowF : (dF == sysModules) = false)
    (gWd : PySem.W.nsIn K mainGlobals "WORDS" = some (some (.ref bW)))
    (tWd : tupB K (.ref bW) WDS = true)
    (gCm : PySem.W.nsIn K mainGlobals "COMPARING" = some (some (.ref bC)))
    (tCm : tupB K (.ref bC) CMP = true)
    (tTr : PySem.W.tabIn K "_law_turned_right" = some (c0, Pt))
    (hcTr : PySem.W.codeHdIn K c0 Pt = true)
    (nPt : K.lookup Pt = none)
    (hPt : h.get? Pt = some (PySem.W.tabObj #[])) :
    LawAtG l w K 21 63 "script" mg fa h := by
  have e := hfa.symm.trans (PySem.W.mg_of X G aLa)
  cases e
  have FII := fun_mk (st := sIsInteger) lII cII kII
  have bII := FII.binds (ps := ["value"]) fun _ _ _ _ _ _ us hl => match us, hl with | [_], _ => rfl
  have mII := PySem.W.mg_of X G aII
  have FIU := fun_mk (st := sIsNumber) lIU cIU kIU
  have bIU := FIU.binds (ps := ["value"]) fun _ _ _ _ _ _ us hl => match us, hl with | [_], _ => rfl
  have mIU := PySem.W.mg_of X G aIU
  have FIB := fun_mk (st := sIsBelow) lIB cIB kIB
  have bIB := FIB.binds (ps := ["value", "many"]) fun _ _ _ _ _ _ us hl => match us, hl with | [_, _], _ => rfl
  have mIB := PySem.W.mg_of X G aIB
  have FIN := fun_mk (st := sIsName) lIN cIN kIN
  have bIN := FIN.binds (ps := ["value"]) fun _ _ _ _ _ _ us hl => match us, hl with | [_], _ => rfl
  have mIN := PySem.W.mg_of X G aIN
  have FID := fun_mk (st := sIsDigits) lID cID kID
  have bID := FID.binds (ps := ["text"]) fun _ _ _ _ _ _ us hl => match us, hl with | [_], _ => rfl
  have mID := PySem.W.mg_of X G aID
  have FIQ := fun_mk (st := sIsSeq) lIQ cIQ kIQ
  have bIQ := FIQ.binds (ps := ["value"]) fun _ _ _ _ _ _ us hl => match us, hl with | [_], _ => rfl
  have mIQ := PySem.W.mg_of X G aIQ
  have FFR := fun_mk (st := sFits) lFR cFR kFR
  have bFR := FFR.binds (ps := ["word", "role"]) fun _ _ _ _ _ _ us hl => match us, hl with | [_, _], _ => rfl
  have mFR := PySem.W.mg_of X G aFR
  have FHF := fun_mk (st := sHasForm) lHF cHF kHF
  have bHF := FHF.binds (ps := ["words", "roles"]) fun _ _ _ _ _ _ us hl => match us, hl with | [_, _], _ => rfl
  have mHF := PySem.W.mg_of X G aHF
  have FLR := fun_mk (st := sLot) lLR cLR kLR
  have bLR := FLR.binds (ps := ["texts", "forms", "role"]) fun _ _ _ _ _ _ us hl => match us, hl with | [_, _, _], _ => rfl
  have mLR := PySem.W.mg_of X G aLR
  have FSP := fun_mk (st := sSplit) lSP cSP kSP
  have bSP := FSP.binds (ps := ["text"]) fun _ _ _ _ _ _ us hl => match us, hl with | [_], _ => rfl
  have mSP := PySem.W.mg_of X G aSP
  have FWT := fun_mk (st := sWith) lWT cWT kWT
  have bWT := FWT.binds (ps := ["texts", "at", "text"]) fun _ _ _ _ _ _ us hl => match us, hl with | [_, _, _], _ => rfl
  have mWT := PySem.W.mg_of X G aWT
  have FWO := fun_mk (st := sWithout) lWO cWO kWO
  have bWO := FWO.binds (ps := ["texts", "at"]) fun _ _ _ _ _ _ us hl => match us, hl with | [_, _], _ => rfl
  have mWO := PySem.W.mg_of X G aWO
  have FKS := fun_mk (st := sIsStep) lKS cKS kKS
  have bKS := FKS.binds (ps := ["text"]) fun _ _ _ _ _ _ us hl => match us, hl with | [_], _ => rfl
  have mKS := PySem.W.mg_of X G aKS
  have FNc := fun_mk (st := sNc) lNc cNc kNc
  have bNc := FNc.binds (ps := ["text"]) fun _ _ _ _ _ _ us hl => match us, hl with | [_], _ => rfl
  have mNc := PySem.W.mg_of X G aNc
  have FCr := fun_mk (st := sCr) lCr cCr kCr
  have bCr := FCr.binds (ps := ["numbers", "counters"]) fun _ _ _ _ _ _ us hl => match us, hl with | [_, _], _ => rfl
  have mCr := PySem.W.mg_of X G aCr
  have FSg := fun_mk (st := sSg) lSg cSg kSg
  have bSg := FSg.binds (ps := ["texts"]) fun _ _ _ _ _ _ us hl => match us, hl with | [_], _ => rfl
  have mSg := PySem.W.mg_of X G aSg
  have FKC := fun_mk (st := sScript) lKC cKC kKC
  have bKC := FKC.binds (ps := ["texts"]) fun _ _ _ _ _ _ us hl => match us, hl with | [_], _ => rfl
  have mKC := PySem.W.mg_of X G aKC
  have FKW := fun_mk (st := sWords) lKW cKW kKW
  have bKW := FKW.binds (ps := ["text"]) fun _ _ _ _ _ _ us hl => match us, hl with | [_], _ => rfl
  have mKW := PySem.W.mg_of X G aKW
  have FMv := fun_mk (st := sMv) lMv cMv kMv
  have bMv := FMv.binds (ps := ["text", "at", "by"]) fun _ _ _ _ _ _ us hl => match us, hl with | [_, _, _], _ => rfl
  have mMv := PySem.W.mg_of X G aMv
  have FDeal := fun_mk (st := sDeal) lDeal cDeal kDeal
  have bDeal := FDeal.binds (ps := ["script", "base"]) fun _ _ _ _ _ _ us hl => match us, hl with | [_, _], _ => rfl
  have mDeal := PySem.W.mg_of X G aDeal
  have FDraw := fun_mk (st := sDraw) lDraw cDraw kDraw
  have bDraw := FDraw.binds (ps := ["deal", "wide"]) fun _ _ _ _ _ _ us hl => match us, hl with | [_, _], _ => rfl
  have mDraw := PySem.W.mg_of X G aDraw
  have FPick := fun_mk (st := sPick) lPick cPick kPick
  have bPick := FPick.binds (ps := ["deal", "some"]) fun _ _ _ _ _ _ us hl => match us, hl with | [_, _], _ => rfl
  have mPick := PySem.W.mg_of X G aPick
  have FMx := fun_mk (st := sMx) lMx cMx kMx
  have bMx := FMx.binds (ps := ["deal", "some"]) fun _ _ _ _ _ _ us hl => match us, hl with | [_, _], _ => rfl
  have mMx := PySem.W.mg_of X G aMx
  have FWo := fun_mk (st := sWo) lWo cWo kWo
  have bWo := FWo.binds (ps := ["deal"]) fun _ _ _ _ _ _ us hl => match us, hl with | [_], _ => rfl
  have mWo := PySem.W.mg_of X G aWo
  have FRt := fun_mk (st := sRt) lRt cRt kRt
  have bRt := FRt.binds (ps := ["deal", "world", "most"]) fun _ _ _ _ _ _ us hl => match us, hl with | [_, _, _], _ => rfl
  have mRt := PySem.W.mg_of X G aRt
  have FCt := fun_mk (st := sCt) lCt cCt kCt
  have bCt := FCt.binds (ps := ["deal", "nums"]) fun _ _ _ _ _ _ us hl => match us, hl with | [_, _], _ => rfl
  have mCt := PySem.W.mg_of X G aCt
  have FRu := fun_mk (st := sRu) lRu cRu kRu
  have bRu := FRu.binds (ps := ["told_reader"]) fun _ _ _ _ _ _ us hl => match us, hl with | [_], _ => rfl
  have mRu := PySem.W.mg_of X G aRu
  have FLo := fun_mk (st := sLo) lLo cLo kLo
  have bLo := FLo.binds (ps := ["texts", "words", "spot"]) fun _ _ _ _ _ _ us hl => match us, hl with | [_, _, _], _ => rfl
  have mLo := PySem.W.mg_of X G aLo
  have FLe := fun_mk (st := sLe) lLe cLe kLe
  have bLe := FLe.binds (ps := ["text", "spot", "more"]) fun _ _ _ _ _ _ us hl => match us, hl with | [_, _, _], _ => rfl
  have mLe := PySem.W.mg_of X G aLe
  have FIr := fun_mk (st := sIr) lIr cIr kIr
  have bIr := FIr.binds (ps := ["texts"]) fun _ _ _ _ _ _ us hl => match us, hl with | [_], _ => rfl
  have mIr := PySem.W.mg_of X G aIr
  have FHe := fun_mk (st := sHe) lHe cHe kHe
  have bHe := FHe.binds (ps := ["work"]) fun _ _ _ _ _ _ us hl => match us, hl with | [_], _ => rfl
  have mHe := PySem.W.mg_of X G aHe
  have FTr : FunC K "_law_turned_right" "_law_turned_right" sTr fTr _ c0 := ⟨⟨_, _, _, _, _, _, _, _, rfl, lTr, cTr⟩⟩
  have FTr0 := fun_mk (st := sTr) lTr cTr kTr
  have bTr := FTr0.binds (ps := ["deal", "world", "made", "texts"]) fun _ _ _ _ _ _ us hl => match us, hl with | [_, _, _, _], _ => rfl
  have mTr := PySem.W.mg_of X G aTr
  have FLa := fun_mk (st := sLa) lLa cLa kLa
  obtain ⟨v0, rfl⟩ : ∃ v0, vsT = #[v0] := by
    obtain ⟨l⟩ := vsT
    have q := congrArg List.length vTM
    rw [List.length_map] at q
    match l, q with
    | [v0], _ => exact ⟨v0, rfl⟩
  have rTM : Vals [V.str "once"] (#[v0] : Array Value).toList := vals_tx (rs := ["once"]) vTM
  have FMI : FunD K "__init__" "Reader.__init__" (defArgs sKI) (defBody sKI) (defScope sKI) [.str "once"] [] fMI _ := ⟨⟨_, _, _, _, _, _, _, _, _, _, rfl, lMI, cMI, .inr ⟨by simp, TMI, _, (#[v0] : Array Value).toList, nT, rfl, lTM, rfl, rTM⟩, .inl rfl⟩, kMI⟩
  obtain ⟨ds0, vd0, bMI0⟩ := FMI.binds1 (ps := ["self", "name", "texts", "word"]) 4 1 (by simp) rfl fun _ _ _ _ _ _ _ us its hu hi => match us, hu, its, hi with | [_, _, _, _], _, [_], _ => ⟨_, rfl, rfl⟩
  have bMI : Binds K (PySem.W.fnOf "__init__" "Reader.__init__" (defArgs sKI) (defBody sKI) (defScope sKI) (.ref TMI) kVMI dcMI pmMI anMI cdMI ctMI) ["self", "name", "texts", "word"] [] := by
    cases vd0
    exact bMI0
  have bMI3 := FMI.binds1 (ps := ["self", "name", "texts", "word"]) 3 0 (by simp) rfl fun _ _ _ _ _ _ _ us its hu hi => match us, hu, its, hi with | [_, _, _], _, [_], _ => ⟨_, rfl, rfl⟩
  have FMR := fun_mk (st := sKRead) lMR cMR kMR
  have bMR := FMR.binds (ps := ["text"]) fun _ _ _ _ _ _ us hl => match us, hl with | [_], _ => rfl
  have FMW := fun_mk (st := sKWithout) lMW cMW kMW
  have bMW := FMW.binds (ps := ["self", "at"]) fun _ _ _ _ _ _ us hl => match us, hl with | [_, _], _ => rfl
  have FMM := fun_mk (st := sKMore) lMM cMM kMM
  have bMM := FMM.binds (ps := ["self", "at", "text"]) fun _ _ _ _ _ _ us hl => match us, hl with | [_, _, _], _ => rfl
  have FMV := fun_mk (st := sKWord) lMV cMV kMV
  have bMV := FMV.binds (ps := ["self", "word"]) fun _ _ _ _ _ _ us hl => match us, hl with | [_, _], _ => rfl
  have FML := fun_mk (st := sKLen) lML cML kML
  have bML := FML.binds (ps := ["self"]) fun _ _ _ _ _ _ us hl => match us, hl with | [_], _ => rfl
  have FMS := fun_mk (st := sKStr) lMS cMS kMS
  have bMS := FMS.binds (ps := ["self"]) fun _ _ _ _ _ _ us hl => match us, hl with | [_], _ => rfl
  have FME := fun_mk (st := sKEq) lME cME kME
  have bME := FME.binds (ps := ["self", "other"]) fun _ _ _ _ _ _ us hl => match us, hl with | [_, _], _ => rfl
  have YK : XCls K CK "ValueError" "ValueError.__new__" VE (.ref CL :: VE) := ⟨⟨_, _, _, _, _, _, _, _, _, _, _, _, _, _, jK⟩, rfl, xm_VE, rfl, rfl, saK, gaK, ggK, kcK, kpK⟩
  have FXK := fun_mk (st := sXK) lXK cXK kXK
  have bXK := FXK.binds (ps := ["self", "word"]) fun _ _ _ _ _ _ us hl => match us, hl with | [_, _], _ => rfl
  have YT : XCls K CT "ValueError" "ValueError.__new__" VE (.ref CL :: VE) := ⟨⟨_, _, _, _, _, _, _, _, _, _, _, _, _, _, jT⟩, rfl, xm_VE, rfl, rfl, saT, gaT, ggT, kcT, kpT⟩
  have FXT := fun_mk (st := sXT) lXT cXT kXT
  have bXT := FXT.binds (ps := ["self", "at"]) fun _ _ _ _ _ _ us hl => match us, hl with | [_, _], _ => rfl
  have YS : XCls K CS "IndexError" "IndexError.__new__" IEt IEt := ⟨⟨_, _, _, _, _, _, _, _, _, _, _, _, _, _, jS⟩, rfl, xm_IE, rfl, rfl, saS, gaS, ggS, kcS, kpS⟩
  have FXS := fun_mk (st := sXS) lXS cXS kXS
  have bXS := FXS.binds (ps := ["self", "at"]) fun _ _ _ _ _ _ us hl => match us, hl with | [_, _], _ => rfl
  have z_int := PySem.W.mg_none_of X G y_int
  have z_abs := PySem.W.mg_none_of X G y_abs
  have z_len := PySem.W.mg_none_of X G y_len
  have z_range := PySem.W.mg_none_of X G y_range
  have z_tuple := PySem.W.mg_none_of X G y_tuple
  have z_list := PySem.W.mg_none_of X G y_list
  have z_sorted := PySem.W.mg_none_of X G y_sorted
  have z_set := PySem.W.mg_none_of X G y_set
  have z_all := PySem.W.mg_none_of X G y_all
  have z_any := PySem.W.mg_none_of X G y_any
  have z_isinstance := PySem.W.mg_none_of X G y_isinstance
  have z_str := PySem.W.mg_none_of X G y_str
  have z_bool := PySem.W.mg_none_of X G y_bool
  have z_zip := PySem.W.mg_none_of X G y_zip
  have z_dict := PySem.W.mg_none_of X G y_dict
  have z_repr := PySem.W.mg_none_of X G y_repr
  have z_enumerate := PySem.W.mg_none_of X G y_enumerate
  have B : Bl mg := ⟨z_isinstance, z_str, z_int, z_bool, z_list, z_tuple, z_len, z_all, z_zip, ⟨_, PySem.W.mg_of X G gLet, rLet⟩, ⟨_, PySem.W.mg_of X G gDig, rDig⟩⟩
  have ky : ∀ z, formOf z ≠ none → z ∈ (entTab esF.toList).map (·.1) := fun z hz => by rw [kyF]; exact formOf_key z hz
  have KD : KDict K w dF esF nF := ⟨lFm, litF, lowF⟩
  have FO : FormsAt K w mg dF esF nF := ⟨⟨_, PySem.W.mg_of X G gFm, rfl⟩, KD, tab_ns lFm (entK_of ebF) tbF ky⟩
  have T : TabAt K w mg dF esF nF (entTab esF.toList) := ⟨⟨_, PySem.W.mg_of X G gFm, rfl⟩, KD, entK_of ebF, by rw [kyF]; decide +kernel, by
    have q := congrArg List.length kyF
    rw [List.length_map] at q
    rw [q]
    decide, tab_v tbF ky⟩
  have cl : Cls K C := ⟨pgC, hdC, poC, saC⟩
  have na : ∀ f ∈ (["name", "texts", "word", "slots", "parts", "counters"] : List Str), NoAttr K C f := fun f hf => by
    simp only [List.mem_cons, List.mem_nil_iff, or_false] at hf
    rcases hf with rfl | rfl | rfl | rfl | rfl | rfl
    · exact no_name
    · exact no_texts
    · exact no_word
    · exact no_slots
    · exact no_parts
    · exact no_counters
  have kbKi : KBn K (PySem.W.fnOf "__init__" "Reader.__init__" (defArgs sKI) (defBody sKI) (defScope sKI) (.ref TMI) kVMI dcMI pmMI anMI cdMI ctMI) ["self", "name", "texts", "word"] 1 ["word", "texts", "name"] _ _ := kbn_dfl rfl lTM rfl (fun u a b c => ⟨_, rfl, rfl⟩)
  have kbMo_ : KBn K (PySem.W.fnOf "with_more" "Reader.with_more" (defArgs sKMore) (defBody sKMore) (defScope sKMore) .none kVMM dcMM pmMM anMM cdMM ctMM) ["self", "at", "text"] 1 ["text", "at"] _ _ := kbn_rev (u0 := ()) rfl (fun s u a b _ => .of_eq rfl)
  have kbWo_ : KBn K (PySem.W.fnOf "without" "Reader.without" (defArgs sKWithout) (defBody sKWithout) (defScope sKWithout) .none kVMW dcMW pmMW anMW cdMW ctMW) ["self", "at"] 1 ["at"] _ _ := kbn_one rfl (fun s u a _ => .of_eq rfl)
  have kbWd : KBn K (PySem.W.fnOf "with_word" "Reader.with_word" (defArgs sKWord) (defBody sKWord) (defScope sKWord) .none kVMV dcMV pmMV anMV cdMV ctMV) ["self", "word"] 1 ["word"] _ _ := kbn_one rfl (fun s u a _ => .of_eq rfl)
  have kbRd : KBn K (PySem.W.fnOf "read" "Reader.read" (defArgs sKRead) (defBody sKRead) (defScope sKRead) .none kVMR dcMR pmMR anMR cdMR ctMR) ["text"] 0 ["text"] _ _ := kbn_sol rfl (fun s a _ => .of_eq rfl)
  have WM : CmpAt K mg "WORDS" bW WDS := ⟨⟨_, PySem.W.mg_of X G gWd, rfl⟩, fun H => by
    obtain ⟨b, e, _, q⟩ := tupB_ok tWd
    cases e
    exact q H⟩
  have CM : CmpAt K mg "COMPARING" bC CMP := ⟨⟨_, PySem.W.mg_of X G gCm, rfl⟩, fun H => by
    obtain ⟨b, e, _, q⟩ := tupB_ok tCm
    cases e
    exact q H⟩
  refine ⟨PySem.W.fnOf "law" "law" (defArgs sLa) (defBody sLa) (defScope sLa) .none kVLa dcLa pmLa anLa cdLa ctLa, c0, Pt, spLa K Pt, hPt, nPt, PySem.W.codeHd_of_K X hcTr, fun s u => .of_eq rfl, fun H a ns hl hP hS => ⟨a, ns, rfl, hS, hl, fun p hp => by rw [List.mem_singleton.mp hp]; exact LamX.TabS.nil hP, fun _ => rfl⟩, fun base _ _ TB => ?_⟩
  have IK : InitX l.prog w K mg base "InvalidReader" CK "word" := ⟨⟨_, _, _, _, _, _, fXK, _, YK, PySem.F.excBase_ValueError, aXK, tXK, ok_XK FXK YK PySem.F.store_ValueError, bXK⟩, PySem.W.mg_of X G gK, noK⟩
  have IT : InitX l.prog w K mg base "InvalidText" CT "at" := ⟨⟨_, _, _, _, _, _, fXT, _, YT, PySem.F.excBase_ValueError, aXT, tXT, ok_XT FXT YT PySem.F.store_ValueError, bXT⟩, PySem.W.mg_of X G gT, noT⟩
  have IS : InitX l.prog w K mg base "NoStep" CS "at" := ⟨⟨_, _, _, _, _, _, fXS, _, YS, PySem.F.excBase_IndexError, aXS, tXS, ok_XS FXS YS PySem.F.store_IndexError, bXS⟩, PySem.W.mg_of X G gS, noS⟩
  have DII : FnOk l.prog w K mg base CX0 1 fII _ ["value"] (spInteger K) := ok_integer FII B
  have DIU : FnOk l.prog w K mg base CX0 2 fIU _ ["value"] (spNumber K) := ok_number FIU DII bII kII mII
  have DIB : FnOk l.prog w K mg base CX0 3 fIB _ ["value", "many"] (spBelow K) := ok_below FIB DIU bIU kIU mIU
  have DIN : FnOk l.prog w K mg base CX0 1 fIN _ ["value"] (spName K) := ok_name FIN B
  have DID : FnOk l.prog w K mg base CX0 1 fID _ ["text"] spDigits := ok_digits FID B
  have DIQ : FnOk l.prog w K mg base CX0 1 fIQ _ ["value"] (spSeq K) := ok_seq FIQ B
  have DFR : FnOk l.prog w K mg base CX0 2 fFR _ ["word", "role"] spFits := ok_fits FFR DID bID kID mID DIN bIN kIN mIN
  have DHF : FnOk l.prog w K mg base CX0 3 fHF _ ["words", "roles"] (spForm K) := ok_form FHF B DFR bFR kFR mFR
  have DLR : FnOk l.prog w K mg base CX0 1 fLR _ ["texts", "forms", "role"] (spLot K) := ok_lot FLR z_zip z_tuple z_sorted
  have DSP : FnOk l.prog w K mg base CX0 1 fSP _ ["text"] (spSplit K) := ok_splitS FSP B
  have DWT : FnOk l.prog w K mg base CX0 1 fWT _ ["texts", "at", "text"] (spWith K) := ok_with FWT
  have DWO : FnOk l.prog w K mg base CX0 1 fWO _ ["texts", "at"] (spWithout K) := ok_without FWO
  have DKS : FnOk l.prog w K mg base CX0 4 fKS _ ["text"] (spStep K) := ok_step FKS B FO DHF bHF kHF mHF
  have DNc : FnOk l.prog w K mg base CX0 1 fNc _ ["text"] (spNc K) := ok_nc FNc z_int CM
  have DCr : FnOk l.prog w K mg base CX0 1 fCr _ ["numbers", "counters"] (spCr K) := ok_cr FCr z_sorted z_len
  have DSg : FnOk l.prog w K mg base CX0 2 fSg _ ["texts"] (spSg K) := ok_sg FSg z_enumerate CM DNc bNc kNc mNc DCr bCr kCr mCr
  have DKC : FnOk l.prog w K mg base CX0 5 fKC _ ["texts"] (spScript K) := ok_script FKC B DIQ bIQ kIQ mIQ DKS bKS kKS mKS DSg bSg kSg mSg
  have DKW : FnOk l.prog w K mg base CX0 5 fKW _ ["text"] (spWords K) := ok_words FKW B WM DSP bSP kSP mSP DIN bIN kIN mIN DKS bKS kKS mKS
  have DMv : FnOk l.prog w K mg base CX0 2 fMv _ ["text", "at", "by"] spMv := ok_mv FMv z_str DNc bNc kNc mNc
  have DMI : FnOk l.prog w K mg base (L2.CX l.prog w) 6 fMI _ ["self", "name", "texts", "word"] (spRI K C CK) := ok_KI FMI T B z_dict z_tuple WM DIN bIN kIN mIN DKC bKC kKC mKC DLR bLR kLR mLR IK cl na
  have KM : KMade l.prog w K mg base C CK fMI _ := ⟨⟨mkC, aMI, iMI, kpC⟩, PySem.W.mg_of X G gC, DMI, bMI, bMI3, cl, na⟩
  have DMR : FnOk l.prog w K mg base (L2.CX l.prog w) 8 fMR _ ["text"] (spKRd K C CK) := ok_KRead FMR KM DKW bKW kKW mKW IT
  have DMW : FnOk l.prog w K mg base (L2.CX l.prog w) 8 fMW _ ["self", "at"] (spKWo K C CK) := ok_KWithout FMW KM z_len z_any DIB bIB kIB mIB DWO bWO kWO mWO DNc bNc kNc mNc DMv bMv kMv mMv IS IK
  have DMM : FnOk l.prog w K mg base (L2.CX l.prog w) 8 fMM _ ["self", "at", "text"] (spKMo K C CK) := ok_KMore FMM KM z_len DIB bIB kIB mIB DWT bWT kWT mWT DMv bMv kMv mMv IS
  have DMV : FnOk l.prog w K mg base (L2.CX l.prog w) 8 fMV _ ["self", "word"] (spKWd K C) := ok_KWord FMV KM
  have DML : FnOk l.prog w K mg base CX0 1 fML _ ["self"] (spKLen K C) := ok_KLen FML z_len cl no_texts
  have DMS : FnOk l.prog w K mg base CX0 1 fMS _ ["self"] (spKStr K C) := ok_KStr FMS cl no_name no_texts no_word
  have DME : FnOk l.prog w K mg base CX0 4 fME _ ["self", "other"] (spKEq K C) := ok_KEq FME (PySem.W.mg_of X G gC) z_isinstance z_str cl ⟨clC, hnC, htC, hmC, oneC⟩ DMS bMS aMS iMS
  have RML : FnR l.prog w K mg base CX0 1 fML (spKLen K C) := (DML.raw bML .nil).imp fun vs H Q E h => by rw [List.append_nil]; exact h
  have RMS : FnR l.prog w K mg base CX0 1 fMS (spKStr K C) := (DMS.raw bMS .nil).imp fun vs H Q E h => by rw [List.append_nil]; exact h
  have RME : FnR l.prog w K mg base CX0 4 fME (spKEq K C) := (DME.raw bME .nil).imp fun vs H Q E h => by rw [List.append_nil]; exact h
  have DDeal : FnOk l.prog w K mg base CX0 1 fDeal _ ["script", "base"] (spDeal K) := ok_deal FDeal z_int z_abs
  have DDraw : FnOk l.prog w K mg base CX0 1 fDraw _ ["deal", "wide"] spDraw := ok_draw FDraw z_int
  have DPick : FnOk l.prog w K mg base CX0 2 fPick _ ["deal", "some"] (spPick K) := ok_pick FPick DDraw bDraw kDraw mDraw z_len
  have DMx : FnOk l.prog w K mg base CX0 2 fMx _ ["deal", "some"] (spMx K) := ok_mx FMx z_list z_len DDraw bDraw kDraw mDraw
  have DMxI : FnOk l.prog w K mg base CX0 2 fMx _ ["deal", "some"] (spMxI K) := ok_mxI FMx z_list z_len DDraw bDraw kDraw mDraw
  have DWo : FnOk l.prog w K mg base CX0 3 fWo _ ["deal"] (spWo K) := ok_wo FWo DDraw bDraw kDraw mDraw DMx bMx kMx mMx
  have DCt : FnOk l.prog w K mg base CX0 3 fCt _ ["deal", "nums"] spCt := ok_ct FCt z_len z_sorted z_str DDraw bDraw kDraw mDraw DPick bPick kPick mPick DMxI bMx kMx mMx
  have DRt : FnOk l.prog w K mg base CX0 4 fRt _ ["deal", "world", "most"] (spRt K) := ok_rt FRt z_len z_range DDraw bDraw kDraw mDraw DPick bPick kPick mPick DCt bCt kCt mCt
  have DRu : FnOk l.prog w K mg base CX0 1 fRu _ ["told_reader"] (spRu K) := ok_ru FRu
  have DLo : FnOk l.prog w K mg base CX0 1 fLo _ ["texts", "words", "spot"] (spLo K) := ok_lo FLo z_str z_set z_sorted z_tuple
  have DLe : FnOk l.prog w K mg base CX0 1 fLe _ ["text", "spot", "more"] spLe := ok_le FLe z_str z_int
  have DIr : FnOk l.prog w K mg base CX0 1 fIr _ ["texts"] (spIr K) := ok_ir FIr z_enumerate z_int z_len
  have DTr : FnOk l.prog w K mg base CX0 13 fTr _ ["deal", "world", "made", "texts"] (spTr K C Pt) := ok_tr FTr z_len z_str DDraw bDraw kDraw mDraw DPick bPick kPick mPick DRt bRt kRt mRt DIr bIr kIr mIr DRu bRu kRu mRu DLe bLe kLe mLe lHe cHe bHe kHe mHe (PySem.W.mg_of X G gK) xmK ⟨gaK, ggK, sbK, hdK⟩ noK DMS bMS aMS iMS cl no_name no_word ⟨aMW, iMW, kMW⟩ DMW kbWo_ ⟨aMM, iMM, kMM⟩ DMM kbMo_ TB
  exact ok_la (fdS := (PySem.W.fnOf "__str__" "Reader.__str__" (defArgs sKStr) (defBody sKStr) (defScope sKStr) .none kVMS dcMS pmMS anMS cdMS ctMS)) (fdLen := (PySem.W.fnOf "__str__" "Reader.__str__" (defArgs sKStr) (defBody sKStr) (defScope sKStr) .none kVMS dcMS pmMS anMS cdMS ctMS)) (fdEq := (PySem.W.fnOf "__str__" "Reader.__str__" (defArgs sKStr) (defBody sKStr) (defScope sKStr) .none kVMS dcMS pmMS anMS cdMS ctMS)) FLa z_range z_list z_repr z_len z_tuple z_str DDeal bDeal kDeal mDeal DWo bWo kWo mWo DRt bRt kRt mRt DPick bPick kPick mPick DRu bRu kRu mRu DLo bLo kLo mLo DTr bTr kTr mTr KM kbKi RMS aMS iMS RML aML iML RME aME iME neC obC sbC koC ⟨rdC, gaC⟩ ⟨aMR, ⟨_, rMR⟩, kMR⟩ DMR kbRd ⟨aMV, iMV, kMV⟩ DMV bMV kbWd
end My
open PySem PySem.W PyProof.Rows
set_option maxRecDepth 100000 in
set_option maxHeartbeats 0 in
theorem PySem.Challenge.cw_unfooled_k04_readers_made_and_their_text_holds : PySem.Challenge.rw_unfooled_k04_readers_made_and_their_text.Holds := by
  w_on; o_law; k_head; (case hw => w_witness2)
  k_fill
  refine My.walk_ofGT (l := PySem.Challenge.rw_unfooled_k04_readers_made_and_their_text) (n := 63) (k := 21) (x := "script") rfl (by decide) rfl ⟨rfl, by decide, by decide⟩ (fun w h Y => PySem.W.km_in_of Y) ?F
  case F =>
    intro w mg fa h Y KX G hmg
    refine' My.all_mk KX G hmg ?aII ?lII ?cII ?kII ?aIU ?lIU ?cIU ?kIU ?aIB ?lIB ?cIB ?kIB ?aIN ?lIN ?cIN ?kIN ?aID ?lID ?cID ?kID ?aIQ ?lIQ ?cIQ ?kIQ ?aFR ?lFR ?cFR ?kFR ?aHF ?lHF ?cHF ?kHF ?aLR ?lLR ?cLR ?kLR ?aSP ?lSP ?cSP ?kSP ?aWT ?lWT ?cWT ?kWT ?aWO ?lWO ?cWO ?kWO ?aKS ?lKS ?cKS ?kKS ?aNc ?lNc ?cNc ?kNc ?aCr ?lCr ?cCr ?kCr ?aSg ?lSg ?cSg ?kSg ?aKC ?lKC ?cKC ?kKC ?aKW ?lKW ?cKW ?kKW ?aMv ?lMv ?cMv ?kMv ?aDeal ?lDeal ?cDeal ?kDeal ?aDraw ?lDraw ?cDraw ?kDraw ?aPick ?lPick ?cPick ?kPick ?aMx ?lMx ?cMx ?kMx ?aWo ?lWo ?cWo ?kWo ?aRt ?lRt ?cRt ?kRt ?aCt ?lCt ?cCt ?kCt ?aRu ?lRu ?cRu ?kRu ?aLo ?lLo ?cLo ?kLo ?aLe ?lLe ?cLe ?kLe ?aIr ?lIr ?cIr ?kIr ?aHe ?lHe ?cHe ?kHe ?aTr ?lTr ?cTr ?kTr ?aLa ?lLa ?cLa ?kLa ?gC ?aMI ?iMI ?lMI ?lTM ?vTM ?cMI ?kMI ?aMR ?rMR ?lMR ?cMR ?kMR ?aMW ?iMW ?lMW ?cMW ?kMW ?aMM ?iMM ?lMM ?cMM ?kMM ?aMV ?iMV ?lMV ?cMV ?kMV ?aML ?iML ?lML ?cML ?kML ?aMS ?iMS ?lMS ?cMS ?kMS ?aME ?iME ?lME ?cME ?kME ?rdC ?gaC ?pgC ?hdC ?poC ?saC ?mkC ?kpC ?no_name ?no_texts ?no_word ?no_slots ?no_parts ?no_counters ?neC ?obC ?sbC ?koC ?clC ?hnC ?htC ?hmC ?oneC ?gL ?gK ?jK ?saK ?gaK ?ggK ?kcK ?kpK ?noK ?aXK ?tXK ?lXK ?cXK ?kXK ?gT ?jT ?saT ?gaT ?ggT ?kcT ?kpT ?noT ?aXT ?tXT ?lXT ?cXT ?kXT ?gS ?jS ?saS ?gaS ?ggS ?kcS ?kpS ?noS ?aXS ?tXS ?lXS ?cXS ?kXS ?xmK ?sbK ?hdK ?y_int ?y_abs ?y_len ?y_range ?y_tuple ?y_list ?y_sorted ?y_set ?y_all ?y_any ?y_isinstance ?y_str ?y_bool ?y_zip ?y_dict ?y_repr ?y_enumerate ?gLet ?rLet ?gDig ?rDig ?gFm ?lFm ?litF ?ebF ?tbF ?kyF ?lowF ?gWd ?tWd ?gCm ?tCm ?tTr ?hcTr ?nPt ?hPt
    (case aII => k_is)
    (case lII => k_is)
    (case cII => k_is)
    (case kII => k_is)
    (case aIU => k_is)
    (case lIU => k_is)
    (case cIU => k_is)
    (case kIU => k_is)
    (case aIB => k_is)
    (case lIB => k_is)
    (case cIB => k_is)
    (case kIB => k_is)
    (case aIN => k_is)
    (case lIN => k_is)
    (case cIN => k_is)
    (case kIN => k_is)
    (case aID => k_is)
    (case lID => k_is)
    (case cID => k_is)
    (case kID => k_is)
    (case aIQ => k_is)
    (case lIQ => k_is)
    (case cIQ => k_is)
    (case kIQ => k_is)
    (case aFR => k_is)
    (case lFR => k_is)
    (case cFR => k_is)
    (case kFR => k_is)
    (case aHF => k_is)
    (case lHF => k_is)
    (case cHF => k_is)
    (case kHF => k_is)
    (case aLR => k_is)
    (case lLR => k_is)
    (case cLR => k_is)
    (case kLR => k_is)
    (case aSP => k_is)
    (case lSP => k_is)
    (case cSP => k_is)
    (case kSP => k_is)
    (case aWT => k_is)
    (case lWT => k_is)
    (case cWT => k_is)
    (case kWT => k_is)
    (case aWO => k_is)
    (case lWO => k_is)
    (case cWO => k_is)
    (case kWO => k_is)
    (case aKS => k_is)
    (case lKS => k_is)
    (case cKS => k_is)
    (case kKS => k_is)
    (case aNc => k_is)
    (case lNc => k_is)
    (case cNc => k_is)
    (case kNc => k_is)
    (case aCr => k_is)
    (case lCr => k_is)
    (case cCr => k_is)
    (case kCr => k_is)
    (case aSg => k_is)
    (case lSg => k_is)
    (case cSg => k_is)
    (case kSg => k_is)
    (case aKC => k_is)
    (case lKC => k_is)
    (case cKC => k_is)
    (case kKC => k_is)
    (case aKW => k_is)
    (case lKW => k_is)
    (case cKW => k_is)
    (case kKW => k_is)
    (case aMv => k_is)
    (case lMv => k_is)
    (case cMv => k_is)
    (case kMv => k_is)
    (case aDeal => k_is)
    (case lDeal => k_is)
    (case cDeal => k_is)
    (case kDeal => k_is)
    (case aDraw => k_is)
    (case lDraw => k_is)
    (case cDraw => k_is)
    (case kDraw => k_is)
    (case aPick => k_is)
    (case lPick => k_is)
    (case cPick => k_is)
    (case kPick => k_is)
    (case aMx => k_is)
    (case lMx => k_is)
    (case cMx => k_is)
    (case kMx => k_is)
    (case aWo => k_is)
    (case lWo => k_is)
    (case cWo => k_is)
    (case kWo => k_is)
    (case aRt => k_is)
    (case lRt => k_is)
    (case cRt => k_is)
    (case kRt => k_is)
    (case aCt => k_is)
    (case lCt => k_is)
    (case cCt => k_is)
    (case kCt => k_is)
    (case aRu => k_is)
    (case lRu => k_is)
    (case cRu => k_is)
    (case kRu => k_is)
    (case aLo => k_is)
    (case lLo => k_is)
    (case cLo => k_is)
    (case kLo => k_is)
    (case aLe => k_is)
    (case lLe => k_is)
    (case cLe => k_is)
    (case kLe => k_is)
    (case aIr => k_is)
    (case lIr => k_is)
    (case cIr => k_is)
    (case kIr => k_is)
    (case aHe => k_is)
    (case lHe => k_is)
    (case cHe => k_is)
    (case kHe => k_is)
    (case aTr => k_is)
    (case lTr => k_is)
    (case cTr => k_is)
    (case kTr => k_is)
    (case aLa => k_is)
    (case lLa => k_is)
    (case cLa => k_is)
    (case kLa => k_is)
    (case gC => k_is)
    (case aMI => k_is)
    (case iMI => k_is)
    (case lMI => k_is)
    (case lTM => k_is)
    (case vTM => kernel_rfl)
    (case cMI => k_is)
    (case kMI => k_is)
    (case aMR => k_is)
    (case rMR => k_is)
    (case lMR => k_is)
    (case cMR => k_is)
    (case kMR => k_is)
    (case aMW => k_is)
    (case iMW => k_is)
    (case lMW => k_is)
    (case cMW => k_is)
    (case kMW => k_is)
    (case aMM => k_is)
    (case iMM => k_is)
    (case lMM => k_is)
    (case cMM => k_is)
    (case kMM => k_is)
    (case aMV => k_is)
    (case iMV => k_is)
    (case lMV => k_is)
    (case cMV => k_is)
    (case kMV => k_is)
    (case aML => k_is)
    (case iML => k_is)
    (case lML => k_is)
    (case cML => k_is)
    (case kML => k_is)
    (case aMS => k_is)
    (case iMS => k_is)
    (case lMS => k_is)
    (case cMS => k_is)
    (case kMS => k_is)
    (case aME => k_is)
    (case iME => k_is)
    (case lME => k_is)
    (case cME => k_is)
    (case kME => k_is)
    (case rdC => k_is)
    (case gaC => k_is)
    (case pgC => k_is)
    (case hdC => k_is)
    (case poC => k_is)
    (case saC => k_is)
    (case mkC => k_is)
    (case kpC => k_is)
    (case no_name => k_is)
    (case no_texts => k_is)
    (case no_word => k_is)
    (case no_slots => k_is)
    (case no_parts => k_is)
    (case no_counters => k_is)
    (case neC => k_is)
    (case obC => k_is)
    (case sbC => k_is)
    (case koC => kernel_rfl)
    (case clC => k_is)
    (case hnC => k_is)
    (case htC => k_is)
    (case hmC => k_is)
    (case oneC => kernel_rfl)
    (case gL => k_is)
    (case gK => k_is)
    (case jK => k_is)
    (case saK => k_is)
    (case gaK => k_is)
    (case ggK => k_is)
    (case kcK => k_is)
    (case kpK => k_is)
    (case noK => k_is)
    (case aXK => k_is)
    (case tXK => k_is)
    (case lXK => k_is)
    (case cXK => k_is)
    (case kXK => k_is)
    (case gT => k_is)
    (case jT => k_is)
    (case saT => k_is)
    (case gaT => k_is)
    (case ggT => k_is)
    (case kcT => k_is)
    (case kpT => k_is)
    (case noT => k_is)
    (case aXT => k_is)
    (case tXT => k_is)
    (case lXT => k_is)
    (case cXT => k_is)
    (case kXT => k_is)
    (case gS => k_is)
    (case jS => k_is)
    (case saS => k_is)
    (case gaS => k_is)
    (case ggS => k_is)
    (case kcS => k_is)
    (case kpS => k_is)
    (case noS => k_is)
    (case aXS => k_is)
    (case tXS => k_is)
    (case lXS => k_is)
    (case cXS => k_is)
    (case kXS => k_is)
    (case xmK => kernel_rfl)
    (case sbK => k_is)
    (case hdK => k_is)
    (case y_int => k_is)
    (case y_abs => k_is)
    (case y_len => k_is)
    (case y_range => k_is)
    (case y_tuple => k_is)
    (case y_list => k_is)
    (case y_sorted => k_is)
    (case y_set => k_is)
    (case y_all => k_is)
    (case y_any => k_is)
    (case y_isinstance => k_is)
    (case y_str => k_is)
    (case y_bool => k_is)
    (case y_zip => k_is)
    (case y_dict => k_is)
    (case y_repr => k_is)
    (case y_enumerate => k_is)
    (case gLet => k_is)
    (case rLet => exact ⟨_, rfl⟩)
    (case gDig => k_is)
    (case rDig => exact ⟨_, rfl⟩)
    (case gFm => k_is)
    (case lFm => k_is)
    (case litF => repeat (first | exact True.intro | refine And.intro ⟨_, _, rfl, rfl⟩ ?_))
    (case ebF => kernel_rfl)
    (case tbF => kernel_rfl)
    (case kyF => kernel_rfl)
    (case lowF => kernel_rfl)
    (case gWd => k_is)
    (case tWd => kernel_rfl)
    (case gCm => k_is)
    (case tCm => kernel_rfl)
    (case tTr => kernel_rfl)
    (case hcTr => kernel_rfl)
    (case nPt => kernel_rfl)
    (case hPt => exact PySem.W.km_tabs_of Y _ (by k_mem))

