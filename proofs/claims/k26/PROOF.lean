import PyProof.Rows.All
import Wide.All
import OpenK.AllK
import Wide.FinOn
import PyProof.ReprRoads
import HandS.ForMost
import HandS.ForExc
import HandS.Property
import HandS.ClsMeth
import HandS.Defaults
import HandS.IsInst
import HandS.Wide
import HandS.WideBits
import HandS.Ends
import HandS.HeadEnd
import HandS.Head0
import HandS.Head1
import HandS.Head2
import HandS.HeadHook1
import HandS.HeadHook2
import HandS.Flow
import HandS.Style
import PyProof.LongRange
import HandS.ExcInit
import HandS.ExcField
import HandS.ExcIs
import HandS.TryOnly
import HandS.OwnEq
import PyProof.Rows.SetFrom
import HandS.TupSets
import PyProof.InstNe
import HandS.More
import KE.KExcInit
import PyProof.ExcBaseAll.ArithmeticError
import PyProof.ExcBaseAll.LookupError
import PyProof.ExcBaseAll.RuntimeError
import HandS.TryMany
import HandS.EndTab
import PyProof.EqKinds
import HandS.FStr
import HandS.CallLocal
import HandS.ExcInitHot
import HandS.SuiteRaise
import HandS.RaiseFrom
import KE.KStateDown
import Lean
import KE.KNestM
import HandS.DictComp
import HandS.Iter
import HandS.Walk
import HandS.Comp
import HandS.GenYield
import HandS.SortRule
import HandS.CallSlots
import PyProof.GenComp
import PyProof.ForAny
import HandS.GenList
import HandS.HotCalls
import KE.KTryMore
import HandS.List
import HandS.SetFor
import HandS.Lambda
import HandS.Dict
import KE.GoesComp
import KE.GoesRaise
import HandS.Star
import PySem.Challenge.RW_exactroom_k26_layout_errors
set_option Elab.async false
set_option linter.all false
set_option maxRecDepth 100000
set_option maxHeartbeats 4000000
/-! Own layer: defs that are called where no repr is under way (the guards are known to be none), so that repr of data can be walked. -/
namespace Gu
open PySem PySem.Spec PyProof.Rows L2
structure RoomG (k : Nat) (A : Around) : Prop where
  r : Room k A
  g : A.guards = some []
theorem RoomG.mono {j k : Nat} {A : Around} (x : RoomG k A) (h : j ≤ k) : RoomG j A := ⟨x.r.mono h, x.g⟩
theorem RoomG.down {k : Nat} {A : Around} (x : RoomG (k + 1) A) (env : Env) : RoomG k (A.deeper env) := ⟨x.r.deeper env, x.g⟩
structure FnG (P : Program) (w : World) (K : PySem.W.Frag) (mg : Str → Option Value) (base : Heap) (CX : CXT) (k : Nat) (f : Addr) (fd : FuncData) (ps : List Str) (sp : Sp) : Prop where
  len : ∀ vs H Q E, sp vs H Q E → vs.length = ps.length
  run : ∀ (A : Around) (outer : List Env) (s : Shared) (H : Hp) (args : Args) (us : List Value) (vs : List V) (Q : VK) (E : XK),
    RoomG k A → Env0 P w K mg base A outer s H → BindsTo s fd args (ps.zip us) → Vals vs us → sp vs H Q E →
    codeAny (model P w) A (.call (.ref f) args) (CR CX outer P w H s Q E) s
section
variable {P : Program} {w : World} {K : PySem.W.Frag} {mg : Str → Option Value} {base : Heap} {CX : CXT} {k : Nat} {f : Addr} {fd : FuncData} {ps : List Str} {sp : Sp}
theorem FnG.of (F : FnOk P w K mg base CX k f fd ps sp) : FnG P w K mg base CX k f fd ps sp :=
  ⟨F.len, fun A outer s H args us vs Q E hr => F.run A outer s H args us vs Q E hr.r⟩
/-- a def by its body -/
theorem okG {x qual : Str} {params : Arguments} {body : List Stmt} {scope : Scope} {dvs : List V} {kws : List (Str × V)} {N : List Str}
    (F : FunD K x qual params body scope dvs kws f fd) (S : FnScope N ps scope) (len : ∀ vs H Q E, sp vs H Q E → vs.length = ps.length)
    (hbody : ∀ (cdv : Value) (A : Around) (outer : List Env) (s : Shared) (H : Hp) (vs : List V) (Q : VK) (E : XK),
      RoomG k (A.deeper (envOfC qual scope s.heap.objs.size f cdv)) → sp vs H Q E →
      ∃ t, PSs (cxOf CX P w K mg base N qual scope f cdv A outer s H E) body t ∧ t { nx := fun _ H' => Q .non H', rt := Q } (start N vs) H) :
    FnG P w K mg base CX (k + 1) f fd ps sp := by
  obtain ⟨oc, od, dV, kV, doc, pm, an, cdv, ct, osl, rfl, lk, hcd, _, _⟩ := F.ex
  refine ⟨len, fun A outer s H args us vs Q E hr e0 hb rv hsp => ?_⟩
  have KX : K.In s.heap := e0.mod.kin.keeps fun b o e => (e0.bs b o e).1
  have hkinds : ∀ y ∈ ps.zip us, scope.names.lookup y.1 = some .local ∨
      (scope.names.lookup y.1 = some .cell ∧ ((cellsFrom (s.heap.objs.size + 1) scope.names []).lookup y.1).isSome = true) := by
    rintro ⟨n, v⟩ hy
    rcases S.par n (List.of_mem_zip hy).1 with q | q
    · exact .inl q
    · exact .inr ⟨q, PySem.W.cellsFrom_some _ _ _ (.inl q)⟩
  refine codeAny_call_function hr.r.depth (KX _ _ lk) rfl S.co S.gen rfl (PySem.W.codeRec_of KX hcd) (hb _ _ _ _ ?_)
  refine wpAny_newFunctionEnv_cells S.kind hkinds fun env he s1 x => ?_
  subst he
  refine ⟨(e0.mod.nolimit.keeps fun b o e => (e0.bs b o e).1).keeps x.toInCall.keep, codeAny_func ?_⟩
  obtain ⟨t, ht, hq⟩ := hbody cdv A outer s H vs Q E (hr.down _) hsp
  have I := inv_start (CX := CX) (E := E) (N := N) (qual := qual) (f := f) (cd := cdv) S hr.r.hd e0 (len _ _ _ _ hsp) rv x
  refine wpAny_mono (ht.run [] s1 (start N vs) H _ I hq) (fun fl s' hs => ?_) fun e s' hs => hs
  cases fl with
  | ret u =>
    obtain ⟨v, σ', H', J, rv', q⟩ := hs
    exact ⟨v, H', J.os, J.bare, J.base, J.hok, rv', q⟩
  | next =>
    obtain ⟨σ', H', J, q⟩ := hs
    exact ⟨V.non, H', J.os, J.bare, J.base, J.hok, rfl, q⟩
  | brk => exact hs.elim fun _ z => z.elim fun _ z => z.2.elim
  | cont => exact hs.elim fun _ z => z.elim fun _ z => z.2.elim
end
section
variable {X : Cx} {CX : CXT} {k : Nat} {f : Addr} {fd : FuncData} {ps : List Str} {sp : Sp} {dvs : List V} {ds : List Value} {E : XK} {x : Str} {p pos : Pos} {e : Expr} {es : List Expr} {t : TA}
theorem runG {pins : List (Addr × Obj)} {σ : L2.St} {H : Hp} {s : Shared} {Q : VK} {us : List Value} {vs : List V} (F : FnG X.prog X.w X.K X.mg X.base CX k f fd ps sp)
    (hr : RoomG k X.A) (hb : Binds X.K fd ps ds) (hd : Vals dvs ds) (hx : Passes CX X E) (I : Inv X pins σ H s) (r : Vals vs us) (h : sp (vs ++ dvs) H Q E) :
    wpAny (model X.prog X.w) X.A (call (.ref f) us) (EP X pins σ Q) X.xe s := by
  have r2 := r.append hd
  have hl : (us ++ ds).length = ps.length := r2.length.symm.trans (F.len _ _ _ _ h)
  refine wpAny_call (codeAny_mono (F.run X.A X.stack s H ⟨us, []⟩ _ _ Q E hr I.env0 (hb s us I.kIn hl) r2 h) fun r s' hq => ?_)
  match r, hq with
  | .error e, hq => exact hx pins σ H s e s' I hq
  | .ok (.ret u), hq => exact I.after hq
/-- f(e, ..) -/
theorem pe_callG (F : FnG X.prog X.w X.K X.mg X.base CX k f fd ps sp) (hr : RoomG k X.A) (hg : Gl X x) (hm : X.mg x = some (.ref f)) (hk : PySem.W.keepIn X.K (.ref f) = true)
    (hb : Binds X.K fd ps ds) (hd : Vals dvs ds) (hx : Passes CX X E) (ha : PA X (e :: es) t) (hdb : (x == ("__debug__" : Str)) = false := by decide)
    (he : starEach (e :: es) X.env = (false, eval e X.env) :: starEach es X.env := by rfl) (hpl : (backTo pos (starEach es X.env)).any (·.1) = false := by rfl) :
    PE X (.Call (.Name x p) (e :: es) [] pos) (tCall sp dvs E t) :=
  ⟨fun pins s σ H Q I h => wpAny_Call_Name_kw (ld_glob I hg hm (PySem.W.callWith_K (h₀ := X.base) I.ok.mod.kin hk
    (thn (ha.run pos pins s σ H _ I h) fun us s1 ⟨vs, H1, I1, r, q⟩ => ⟨I1.kIn, runG F hr hb hd hx I1 r q⟩) he hpl) hdb)⟩
/-- repr of a list or a tuple of data -/
def rReprD (K : PySem.W.Frag) : List V → Hp → VK → Prop := fun xs H Q => ∃ (a : Addr) (d : PyData), xs = [.ref a] ∧ Dp K H (.ref a) d ∧ d.showable = true ∧ d.hasDict = false ∧ d.depth ≤ 60 ∧ d.shown.length ≤ sizeLine ∧ Q (.str d.shown) H
theorem call_reprD (hr : RoomG k X.A) : CallR X (.builtin "repr") (rReprD X.K) := by
  intro pins s σ H xs us Q I r h
  obtain ⟨a, d, rfl, hd, hs, hn, hdep, hz, q⟩ := h
  obtain ⟨u, rfl, ru⟩ := vals1 r
  obtain rfl : u = Value.ref a := ru
  obtain ⟨as, rd⟩ := Dp.reads I d (.ref a) (.ref a) hd rfl
  have hu := hr.r.units
  exact repr_of_reads' rd hs (PyData.noDict_hsm hn) hr.g (by omega) (fun _ _ e => e) (fun h' u tk hk => ⟨.str d.shown, H, I.kept hk, ⟨u, rfl⟩, q⟩) hz
end
/-- the law's call, from its promise where no repr is under way -/
theorem law_go {P : Program} {w : World} {K : PySem.W.Frag} {mg mb : Str → Option Value} {CX : CXT} {k : Nat} {fa a : Addr} {fd : FuncData} {x : Str} {sp : Sp} {s₁ : Shared} {vs : List Value} {H : Hp}
    (KX : K.In s₁.heap) (hns : s₁.heap.Ns mainGlobals mg) (hb : s₁.heap.Ns builtinsNs mb) (hbb : ∀ x : Str, x ≠ "__name__" → mb x = bootBuiltins x) (hlim : s₁.heap.NoLimit) (hg : s₁.gens = #[])
    (ha : s₁.heap.get? a = some { cls := .type "list", data := .seq vs.toArray }) (hr : RoomG k callerA)
    (F : ∀ base : Heap, K.In base → base.Ns mainGlobals mg → FnG P w K mg base CX k fa fd [x] sp) (hbind : ∀ (s : Shared) (u : Value), BindsTo s fd ⟨[u], []⟩ [(x, u)])
    (hsp : sp [.ref a] H (fun v _ => v = .bl true) fun _ _ _ => False) (hCX : ∀ e s', CX [] H s₁ (fun _ _ _ => False) e s' → False)
    (hO : Only H) (hok : HOk P w H s₁.heap) (hA : ∀ b, H b ≠ none → b = a) (hK : H a ≠ none → K.lookup a = none) :
    codeAny (model P w) callerA (.call (.ref fa) ⟨[.ref a], []⟩) (fun r s' => r = .ok (.ret (.bool true)) ∧ OldK s₁.heap s'.heap ∧ s'.os = s₁.os ∧ AllBare s'.gens) s₁ := by
  have free : ∀ {b : Addr} {o : Obj}, s₁.heap.get? b = some o → (b = a → False) → (hidT s₁.heap H).get? b = some o := fun {b o} e n => hidT_get e (by
    cases q : H b with
    | none => rfl
    | some u => exact (n (hA b (by rw [q]; exact fun z => nomatch z))).elim)
  have nsK : ∀ {b : Addr} {m : Str → Option Value}, s₁.heap.Ns b m → (hidT s₁.heap H).Ns b m := fun {b m} ⟨o, es, ep, e, d, r⟩ => ⟨o, es, ep, free e (fun z => by
    rw [z, ha] at e
    have e' := Option.some.inj e
    rw [← e'] at d
    exact nomatch d), d, r⟩
  have hKb : K.In (hidT s₁.heap H) := fun b o e => hidT_get (KX b o e) (by
    cases q : H b with
    | none => rfl
    | some u =>
      have z : b = a := hA b (by rw [q]; exact fun z => nomatch z)
      rw [z] at e q
      rw [hK (by rw [q]; exact fun z => nomatch z)] at e
      exact nomatch e)
  obtain ⟨mc, l1, l2⟩ := hlim
  have e0 : Env0 P w K mg (hidT s₁.heap H) callerA [] s₁ H :=
    ⟨rfl, ⟨hKb, nsK hns, ⟨mb, nsK hb, hbb⟩, ⟨mc, nsK l1, l2⟩⟩, fun b o e => of_hidT e, Nat.le_of_eq (hidT_size _ _), trivial, fun b hb => absurd (show b ∈ ([] : List Addr) from hb) List.not_mem_nil, hok, .of_eq hg⟩
  refine codeAny_mono ((F _ hKb (nsK hns)).run callerA [] s₁ H ⟨[.ref a], []⟩ [.ref a] [.ref a] _ _ hr e0 (hbind s₁ (.ref a)) (.cons rfl .nil) hsp) fun r s' h => ?_
  match r, h with
  | .error e, h => exact (hCX e s' h).elim
  | .ok (.ret u), h =>
    obtain ⟨v, H', os, bare, un, hok', r', q⟩ := h
    obtain rfl : v = .bl true := q
    obtain rfl : u = Value.bool true := r'
    refine ⟨rfl, OldK.of_keep fun b o e => ?_, os, bare⟩
    cases q : H b with
    | none => exact un.keep b o e q (fun z => absurd (show b ∈ ([] : List Addr) from z) List.not_mem_nil) (fun z => absurd (show b ∈ ([] : List Addr) from z) List.not_mem_nil)
    | some u =>
      rcases hO b with z | ⟨ob, xs, z⟩
      · rw [q] at z
        exact nomatch z
      · obtain ⟨e1, _⟩ := hok b _ z
        obtain ⟨e2, _⟩ := hok' b _ (un.frzs b ob _ z)
        rw [e] at e1
        rw [Option.some.inj e1]
        exact e2
theorem law_callG {P : Program} {w : World} {K : PySem.W.Frag} {mg mb : Str → Option Value} {CX : CXT} {k : Nat} {fa a : Addr} {fd : FuncData} {x : Str} {sp : Sp} {s₁ : Shared} {vs : List Value} {ns : List Int}
    (KX : K.In s₁.heap) (hns : s₁.heap.Ns mainGlobals mg) (hb : s₁.heap.Ns builtinsNs mb) (hbb : ∀ x : Str, x ≠ "__name__" → mb x = bootBuiltins x) (hlim : s₁.heap.NoLimit) (hg : s₁.gens = #[])
    (ha : s₁.heap.get? a = some { cls := .type "list", data := .seq vs.toArray }) (hi : IntsAre vs ns) (hl : ns.length ≤ sizeLine) (hr : RoomG k callerA)
    (F : ∀ base : Heap, K.In base → base.Ns mainGlobals mg → FnG P w K mg base CX k fa fd [x] sp) (hbind : ∀ (s : Shared) (u : Value), BindsTo s fd ⟨[u], []⟩ [(x, u)])
    (hsp : ∀ H : Hp, Only H → SqL K H a (ns.map V.int) → sp [.ref a] H (fun v _ => v = .bl true) fun _ _ _ => False) (hCX : ∀ H e s', CX [] H s₁ (fun _ _ _ => False) e s' → False) :
    codeAny (model P w) callerA (.call (.ref fa) ⟨[.ref a], []⟩) (fun r s' => r = .ok (.ret (.bool true)) ∧ OldK s₁.heap s'.heap ∧ s'.os = s₁.os ∧ AllBare s'.gens) s₁ := by
  have rv := vals_ints hi
  have lenV := hi.length
  cases hk : K.lookup a with
  | some o =>
    have e := (KX a o hk).symm.trans ha
    obtain rfl := Option.some.inj e
    have hO : Only (fun _ => none) := fun _ => .inl rfl
    exact law_go (H := fun _ => none) KX hns hb hbb hlim hg ha hr F hbind
      (hsp _ hO (.inr ⟨_, vs.toArray, _, hk, rfl, rfl, rfl, by rw [List.size_toArray, lenV]; exact hl, by simpa using rv⟩)) (hCX _) hO
      (fun b u z => nomatch (show (none : Option HO) = some u from z)) (fun b z => (z rfl).elim) (fun z => (z rfl).elim)
  | none =>
    let H0 : Hp := fun b => if b = a then some (.frz { cls := .type "list", data := .seq vs.toArray } (.lst (ns.map V.int))) else none
    have at_ : H0 a = some (.frz { cls := .type "list", data := .seq vs.toArray } (.lst (ns.map V.int))) := if_pos rfl
    have off : ∀ b, b ≠ a → H0 b = none := fun b h => if_neg h
    have hO : Only H0 := fun b => by
      by_cases h : b = a
      · rw [h]
        exact .inr ⟨_, _, at_⟩
      · exact .inl (off b h)
    refine law_go (H := H0) KX hns hb hbb hlim hg ha hr F hbind (hsp _ hO (.inl (.inr ⟨_, at_⟩))) (hCX _) hO (fun b u z => ?_) (fun b z => ?_) (fun _ => hk)
    · by_cases h : b = a
      · rw [h, at_] at z
        obtain rfl := Option.some.inj z
        rw [h]
        exact ⟨ha, by rw [List.length_map]; exact hl, vs, _, rv, ha⟩
      · rw [off b h] at z
        exact nomatch z
    · by_cases h : b = a
      · exact h
      · exact (z (off b h)).elim
/-- the end of a law, over a head by facts -/
theorem walkG {l : PySem.W.OpenLaw} {n k : Nat} {q : Program} {loose : List Str} {XP : (Str → Option Value) → Heap → Prop} {YP : World → Heap → Prop} {d : DefRec} {CX : CXT} {x : Str}
    (hn : l.most = some n) (hn2 : n ≤ sizeLine) (hdf : d.params.defaults = []) (hr : RoomG k callerA)
    (F : ∀ (w : World) (mg : Str → Option Value) (fa : Addr) (h : Heap), YP w h → h.Ns mainGlobals mg → mg d.name = some (.ref fa) →
      ∃ (K : PySem.W.Frag) (fd : FuncData) (sp : Sp), K.In h ∧ (∀ (s : Shared) (u : Value), BindsTo s fd ⟨[u], []⟩ [(x, u)]) ∧
        (∀ (H : Hp) (a : Addr) (ns : List Int), ns.length ≤ n → Only H → SqL K H a (ns.map V.int) → sp [.ref a] H (fun v _ => v = .bl true) fun _ _ _ => False) ∧
        ∀ base : Heap, K.In base → base.Ns mainGlobals mg → FnG l.prog w K mg base CX k fa fd [x] sp)
    (hCX : ∀ (H : Hp) (s : Shared) (e : Value) (s' : Shared), CX [] H s (fun _ _ _ => False) e s' → False) :
    PySem.W.WalkO q loose XP YP l.row.toRowW d [] (fun f vs => PySem.call f vs) := by
  refine Att.attach_call hn hdf fun w s₀ s₁ mg mb fa o pm cd doc a vs ns G Y ho hd hcd hmg hobj hints hlen hg => ?_
  obtain ⟨K, fd, sp, KX, hb, hsp, hF⟩ := F w mg fa _ Y G.T.g hmg
  exact law_callG KX G.T.g G.T.b G.T.builtins G.T.nolimit hg hobj hints (Nat.le_trans hlen hn2) hr hF hb (fun H hO hS => hsp H a ns hlen hO hS) fun H e s' => hCX H s₁ e s'
end Gu

set_option Elab.async false
set_option linter.all false
set_option maxRecDepth 100000
set_option maxHeartbeats 4000000
/-! Own layer: defs, methods, makers and properties by their names. -/
namespace Ex
open PySem PySem.Spec PyProof.Rows L2 Gu
section
variable (P : Program) (w : World) (K : PySem.W.Frag) (mg : Str → Option Value) (base : Heap)
/-- the module's def x keeps sp -/
structure Df (k : Nat) (x : Str) (ps : List Str) (sp : Sp) : Prop where
  ex : ∃ fd, FnOk P w K mg base CX0 k (He.ga K x) fd ps sp ∧ Binds K fd ps []
  gl : mg x = some (.ref (He.ga K x))
  kp : PySem.W.keepIn K (.ref (He.ga K x)) = true
structure DfG (k : Nat) (x : Str) (ps : List Str) (sp : Sp) : Prop where
  ex : ∃ fd, FnG P w K mg base CX0 k (He.ga K x) fd ps sp ∧ Binds K fd ps []
  gl : mg x = some (.ref (He.ga K x))
  kp : PySem.W.keepIn K (.ref (He.ga K x)) = true
/-- .. called by keywords ks alone; j: the places of the parameters among the keywords -/
structure DfK (k : Nat) (x : Str) (ps ks : List Str) (j : List Nat) (sp : Sp) : Prop where
  ex : ∃ fd, FnOk P w K mg base CX0 k (He.ga K x) fd ps sp ∧ ∀ (s : Shared) (ws : List Value), ws.length = ks.length → BindsTo s fd ⟨[], ks.zip ws⟩ (ps.zip (j.filterMap fun i => ws[i]?))
  gl : mg x = some (.ref (He.ga K x))
  kp : PySem.W.keepIn K (.ref (He.ga K x)) = true
structure Mf (k : Nat) (c m : Str) (ps : List Str) (sp : Sp) : Prop where
  ex : ∃ fd, FnOk P w K mg base CX0 k (He.ma K (He.ga K c) m) fd ps sp ∧ Binds K fd ps []
  cl : Cls K (He.ga K c)
  me : Meth K (He.ga K c) m (He.ma K (He.ga K c) m)
structure Pf (k : Nat) (c m : Str) (sp : Sp) : Prop where
  cl : Cls K (He.ga K c)
  ex : ∃ (p g : Addr) (fd : FuncData), PropOf K (He.ga K c) m p g ∧ FnOk P w K mg base CX0 k g fd ["self"] sp ∧ Binds K fd ["self"] []
structure Kf (k : Nat) (c : Str) (ps : List Str) (sp : Sp) : Prop where
  ex : ∃ fd, FnOk P w K mg base CX0 k (He.ma K (He.ga K c) "__init__") fd ps sp ∧ Binds K fd ps []
  gl : mg c = some (.ref (He.ga K c))
  mkr : Mk K (He.ga K c) (He.ma K (He.ga K c) "__init__")
end
section
variable {X : Cx} {k j : Nat} {x c m : Str} {ps ks : List Str} {ji : List Nat} {sp : Sp} {p pos apos : Pos} {e o : Expr} {es : List Expr} {kws : List Keyword} {t tk : TA} {ta : TE}
theorem pcall (D : Df X.prog X.w X.K X.mg X.base k x ps sp) (hr : Room j X.A) (ha : PA X (e :: es) t) (hj : k ≤ j := by decide) (hg : Gl X x := by rfl) (hdb : (x == ("__debug__" : Str)) = false := by decide)
    (he : starEach (e :: es) X.env = (false, eval e X.env) :: starEach es X.env := by rfl) (hpl : (backTo pos (starEach es X.env)).any (·.1) = false := by rfl) :
    PE X (.Call (.Name x p) (e :: es) [] pos) (tCall sp [] E0 t) := by
  obtain ⟨fd, F, b⟩ := D.ex
  exact pe_call F (hr.mono hj) hg D.gl D.kp b .nil pass0 ha hdb he hpl
theorem pcallG (D : DfG X.prog X.w X.K X.mg X.base k x ps sp) (hr : RoomG j X.A) (ha : PA X (e :: es) t) (hj : k ≤ j := by decide) (hg : Gl X x := by rfl) (hdb : (x == ("__debug__" : Str)) = false := by decide)
    (he : starEach (e :: es) X.env = (false, eval e X.env) :: starEach es X.env := by rfl) (hpl : (backTo pos (starEach es X.env)).any (·.1) = false := by rfl) :
    PE X (.Call (.Name x p) (e :: es) [] pos) (tCall sp [] E0 t) := by
  obtain ⟨fd, F, b⟩ := D.ex
  exact pe_callG F (hr.mono hj) hg D.gl D.kp b .nil pass0 ha hdb he hpl
def tKw (sp : Sp) (n : Nat) (j : List Nat) (tk : TA) : TE := fun σ H Q => tk σ H fun zs H2 => zs.length = n ∧ sp (j.filterMap fun i => zs[i]?) H2 Q E0
theorem vals_pick {zs : List V} {ws : List Value} (r : Vals zs ws) : ∀ j : List Nat, Vals (j.filterMap fun i => zs[i]?) (j.filterMap fun i => ws[i]?)
  | [] => .nil
  | i :: j => by
    rw [List.filterMap_cons, List.filterMap_cons]
    cases e : zs[i]? with
    | none =>
      rw [r.none_of e]
      exact vals_pick r j
    | some z =>
      obtain ⟨u, hu, ru⟩ := r.get e
      rw [hu]
      exact .cons ru (vals_pick r j)
theorem pcallK (D : DfK X.prog X.w X.K X.mg X.base k x ps ks ji sp) (hr : Room j X.A) (hkw : PK X kws tk) (hj : k ≤ j := by decide) (hg : Gl X x := by rfl)
    (hall : (backToKw pos (keywordEach kws X.env)).all (·.1.isSome) = true := by rfl) (hks : (backToKw pos (keywordEach kws X.env)).filterMap (·.1) = ks := by rfl)
    (hdb : (x == ("__debug__" : Str)) = false := by decide)
    (hpl : ((backTo pos (starEach [] X.env)).any (·.1) || (backToKw pos (keywordEach kws X.env)).any (·.1.isNone)) = false := by rfl) :
    PE X (.Call (.Name x p) [] kws pos) (tKw sp ks.length ji tk) := by
  obtain ⟨fd, F, b⟩ := D.ex
  refine ⟨fun pins s σ H Q I h => wpAny_Call_Name_kw (ld_glob I hg D.gl ?_ hdb)⟩
  refine PySem.W.callWith_KW0 (h₀ := X.base) I.ok.mod.kin D.kp hall (thn (hkw.run pos pins s σ H _ I h) fun ws s2 ⟨zs, H2, I2, rz, l2, q2⟩ => ⟨I2.kIn, ?_⟩) hpl
  rw [hks]
  refine wpAny_call (codeAny_mono (F.run X.A X.stack s2 H2 ⟨[], ks.zip ws⟩ _ _ Q E0 (hr.mono hj) I2.env0 (b s2 ws (rz.length.symm.trans l2)) (vals_pick rz ji) q2) fun r s' hq => ?_)
  match r, hq with
  | .ok (.ret u), hq => exact I2.after hq
theorem pmeth {pl : Sem Bool} (D : Mf X.prog X.w X.K X.mg X.base k c m ps sp) (hr : Room j X.A) (he : PE X o ta) (ha : PA X (e :: es) t) (hj : k ≤ j := by decide)
    (hst : starEach (e :: es) X.env = (false, eval e X.env) :: starEach es X.env := by rfl) (hpl : (backTo pos (starEach es X.env)).any (·.1) = false := by rfl)
    (ht : eval (.Call (.Attribute o m apos) (e :: es) [] pos) X.env = (do
      let ov ← eval o X.env
      standAt apos.atName
      let (f, first) ← holding [ov] (getMethod ov m pl)
      callWith pos f first (backTo pos (starEach (e :: es) X.env)) (backToKw pos (keywordEach [] X.env))) := by rfl) :
    PE X (.Call (.Attribute o m apos) (e :: es) [] pos) (tMeth (He.ga X.K c) m sp [] E0 ta t) := by
  obtain ⟨fd, F, b⟩ := D.ex
  exact pe_meth he D.cl D.me F (hr.mono hj) b .nil pass0 ha hst hpl ht
theorem pmeth0 {pl : Sem Bool} (D : Mf X.prog X.w X.K X.mg X.base k c m ps sp) (hr : Room j X.A) (he : PE X o ta) (hj : k ≤ j := by decide)
    (ht : eval (.Call (.Attribute o m apos) [] [] pos) X.env = (do
      let ov ← eval o X.env
      standAt apos.atName
      let (f, first) ← holding [ov] (getMethod ov m pl)
      callWith pos f first (backTo pos (starEach [] X.env)) (backToKw pos (keywordEach [] X.env))) := by rfl) :
    PE X (.Call (.Attribute o m apos) [] [] pos) (tMeth (He.ga X.K c) m sp [] E0 ta tNil) := by
  obtain ⟨fd, F, b⟩ := D.ex
  exact pe_meth0 he D.cl D.me F (hr.mono hj) b .nil pass0 ht
theorem pprop (D : Pf X.prog X.w X.K X.mg X.base k c m sp) (hr : Room j X.A) (he : PE X o ta) (hj : k + 1 ≤ j := by decide) (hab : attributeBase o m X.env (eval o X.env) = eval o X.env := by rfl) :
    PE X (.Attribute o m pos) (tProp (He.ga X.K c) sp [] E0 ta) := by
  obtain ⟨p, g, fd, hp, F, b⟩ := D.ex
  exact pe_prop he D.cl hp F (hr.mono hj) b .nil pass0 hab
theorem pmake (D : Kf X.prog X.w X.K X.mg X.base k c ps sp) (hr : Room j X.A) (ha : PA X (e :: es) t) (hj : k + 1 ≤ j := by decide) (hg : Gl X c := by rfl) (hdb : (c == ("__debug__" : Str)) = false := by decide)
    (he : starEach (e :: es) X.env = (false, eval e X.env) :: starEach es X.env := by rfl) (hpl : (backTo pos (starEach es X.env)).any (·.1) = false := by rfl) :
    PE X (.Call (.Name c p) (e :: es) [] pos) (tMake (He.ga X.K c) sp [] E0 t) := by
  obtain ⟨fd, F, b⟩ := D.ex
  exact pe_make D.mkr F (hr.mono hj) hg D.gl b .nil pass0 ha hdb he hpl
end
end Ex

set_option Elab.async false
set_option linter.all false
set_option maxRecDepth 100000
set_option maxHeartbeats 4000000
/-! Own layer: range(a, b) of any whole numbers (walked by one or the other iterator of the machine). -/
namespace Ex
open PySem PySem.Spec PyProof.Rows L2 Gu
theorem turn_long {P : Program} {w : World} {K : PySem.W.Frag} {tg : Expr} (it : Addr) (lo : Int) (n : Nat) :
    Turn P w K tg (Itr lo n) [it] it (fun i h => IsLongIter h it (lo + (i : Nat) * 1) ((n : Int) - (i : Nat)) 1) where
  mem := List.mem_singleton.mpr rfl
  obj := fun i h st b hb => by
    obtain rfl := List.mem_singleton.mp hb
    exact ⟨_, st, fun v z => nomatch (show Data.fields _ = Data.cell v from z)⟩
  keep := fun i h h' st k => k it (List.mem_singleton.mpr rfl) _ st
  item := by
    rintro X rfl rfl rfl hc i pins s σ H E I hf st hg
    obtain ⟨f0, f1, f2, f3, f4, f5⟩ := hf it (List.mem_singleton.mpr rfl)
    refine (Walks.longrange (prog := X.prog) (w := X.w) (I.ok.hd hc) it lo 1 n).item i s _ _ hg st fun v h' tk hv st' kk => ?_
    obtain ⟨t, rfl⟩ := hv
    have J : Inv X pins σ H { s with heap := h', toks := tk } := I.turned (fun b o hb e => kk b o (fun z => hb (List.mem_singleton.mp z)) e) f0 f1 f3 f4 f5
    refine ⟨_, rfl, go_of (s := { s with heap := h', toks := tk }) (n := "longrange_iterator") st' rfl rfl (by decide) ⟨.int (lo + i), H, J, ⟨t, ?_⟩, ⟨rfl, rfl⟩, st', fun b hb => (hf b hb).1⟩⟩
    rw [Int.mul_one]
  done := by
    rintro X rfl rfl rfl hc i pins s σ H E I hf st hg
    obtain ⟨f0, f1, f2, f3, f4, f5⟩ := hf it (List.mem_singleton.mpr rfl)
    have hn : n ≤ i := hg
    exact wpAny_pyNext_long_end (I.ok.hd hc) st (by omega) fun h' eb => ⟨rfl, I.turned (t' := s.toks) (fun b o hb e => eb b o hb e) f0 f1 f3 f4 f5⟩
  self := fun _ _ _ _ _ st h => wpAny_pyIter_longiter st h
section
variable {X : Cx} {tg : Expr}
theorem range_any {pins : List (Addr × Obj)} {σ : L2.St} {H : Hp} {s : Shared} {R : It → Hp → Prop} {E : Value → Shared → Prop} {lo hi : Int} {t u v : Tok} {tk : Nat} (I : Inv X pins σ H s) (q : R (Itr lo (hi - lo).toNat) H) :
    wpAny (model X.prog X.w) X.A (pyIter (.ref s.heap.objs.size)) (PIE X pins σ tg R) E { s with heap := s.heap.push { cls := .type "range", data := .fields #[.int lo t, .int hi u, .int 1 v] }, toks := tk } := by
  have J : Inv X pins σ H { s with heap := s.heap.push { cls := .type "range", data := .fields #[.int lo t, .int hi u, .int 1 v] }, toks := tk } := I.kept fun b o e => Heap.get?_push_of_some _ e
  have e1 : lo + ((0 : Nat) : Int) * 1 = lo := by simp
  have e2 : (((hi - lo).toNat : Nat) : Int) - ((0 : Nat) : Int) = Builtin.Range.rangeSize lo hi 1 := by rw [rangeSize_one]; split <;> omega
  have fr : ∀ b ∈ [(s.heap.push { cls := .type "range", data := .fields #[.int lo t, .int hi u, .int 1 v] }).objs.size], _ := fun b hb => by
    obtain rfl := List.mem_singleton.mp hb
    exact J.fpOk (Nat.le_refl _) (J.hok.fresh (Nat.le_refl _))
  cases hs : Builtin.Range.small lo hi 1 with
  | true =>
    refine wpAny_pyIter_range (IsRange.new ..) hs ⟨_, [_], _, _, H, rfl, J.kept (t' := tk) fun b o e => Heap.get?_push_of_some _ e, turn_range _ lo (hi - lo).toNat, ?_, fr, q⟩
    show IsRangeIter _ _ (lo + ((0 : Nat) : Int) * 1) ((((hi - lo).toNat : Nat) : Int) - ((0 : Nat) : Int)) 1
    rw [e1, e2]
    exact Heap.get?_push_size _ rfl
  | false =>
    refine wpAny_pyIter_longrange (IsRange.new ..) hs ⟨_, [_], _, _, H, rfl, J.kept (t' := tk) fun b o e => Heap.get?_push_of_some _ e, turn_long _ lo (hi - lo).toNat, ?_, fr, q⟩
    show IsLongIter _ _ (lo + ((0 : Nat) : Int) * 1) ((((hi - lo).toNat : Nat) : Int) - ((0 : Nat) : Int)) 1
    rw [e1, e2]
    exact Heap.get?_push_size _ rfl
def iRngA (ta : TA) : TI := fun σ H R => ta σ H fun vs H1 => ∃ i j : Int, vs = [.int i, .int j] ∧ R (Itr i (j - i).toNat) H1
theorem pi_rangeA {a b : Expr} {ta : TA} {p pos : Pos} (hg : Gl X "range") (hm : X.mg "range" = none) (ha : PA X [a, b] ta) (hs : starEach [a, b] X.env = [(false, eval a X.env), (false, eval b X.env)] := by rfl)
    (hs2 : starEach [b] X.env = [(false, eval b X.env)] := by rfl) : PI X tg (.Call (.Name "range" p) [a, b] [] pos) (iRngA ta) := by
  refine ⟨fun pins s σ H R I h => Call_ (ld_blt I hg hm boot_range (PyProof.Rows.callWith_type1 (thn (ha.run pos pins s σ H _ I h) fun us s1 ⟨vs, H1, I1, r1, q1⟩ => ?_) (by rw [hs, hs2]) (by rw [hs2]; rfl)))⟩
  obtain ⟨i, j, rfl, q⟩ := q1
  obtain ⟨u, z, rfl, ⟨t, rfl⟩, ⟨t', rfl⟩⟩ := vals2 r1
  exact call_range_2 (range_any I1 q)
end
end Ex

set_option Elab.async false
set_option linter.all false
set_option maxRecDepth 100000
set_option maxHeartbeats 4000000
/-! Own layer: data of any depth, dicts among it, as repr shows it. -/
namespace Ex
open PySem PySem.Spec PyProof.Rows L2 Gu
mutual
inductive Dq (K : PySem.W.Frag) (H : Hp) : V → PyData → Prop
  | non : Dq K H .non .none
  | bl (b : Bool) : Dq K H (.bl b) (.bool b)
  | int (i : Int) : Dq K H (.int i) (.int i)
  | str (x : Str) : Dq K H (.str x) (.str x)
  | lst {a : Addr} {xs : List V} {ds : List PyData} : SqL K H a xs → DqAll K H xs ds → Dq K H (.ref a) (.list ds)
  | tup {a : Addr} {xs : List V} {ds : List PyData} : SqT K H a xs → DqAll K H xs ds → Dq K H (.ref a) (.tuple ds)
  | dct {a : Addr} {kvs : List (Key × V)} {ds : List (PyData × PyData)} : H a = some (.dK kvs) → DqAll K H (kvs.map fun p => kV p.1) (ds.map (·.1)) → DqAll K H (kvs.map (·.2)) (ds.map (·.2)) → Dq K H (.ref a) (.dict ds)
inductive DqAll (K : PySem.W.Frag) (H : Hp) : List V → List PyData → Prop
  | nil : DqAll K H [] []
  | cons {v : V} {vs : List V} {d : PyData} {ds : List PyData} : Dq K H v d → DqAll K H vs ds → DqAll K H (v :: vs) (d :: ds)
end
/-- the table of modules stands in the written part: no list lies there -/
def SysOk (K : PySem.W.Frag) : Prop := ∃ o, K.lookup sysModules = some o ∧ o.cls ≠ .type "list"
section
variable {X : Cx} {pins : List (Addr × Obj)} {σ : L2.St} {H : Hp} {s : Shared}
theorem key_rel {k : Key} {v : Value} (h : keyIs k v = true) : RelV (kV k) v := by
  rcases keyIs_shape h with ⟨i, t, rfl, rfl⟩ | ⟨x, t, rfl, rfl⟩
  · exact ⟨t, rfl⟩
  · exact ⟨t, rfl⟩
theorem not_sys {a : Addr} {o : Obj} (hs : SysOk X.K) (I : Inv X pins σ H s) (ho : s.heap.get? a = some o) (hc : o.cls = .type "list") : a ≠ sysModules := fun z => by
  obtain ⟨u, e, n⟩ := hs
  have h2 := I.kIn _ _ e
  rw [z, h2] at ho
  rw [Option.some.inj ho] at n
  exact n hc
theorem pairs_rel {es : List DictEntry} {vs : List (Key × Value)} (h : Pairs (mixKind X.prog X.w) es vs) : ∀ {kvs : List (Key × V)}, KV kvs vs → Vals (kvs.map fun p => kV p.1) (es.map (·.key)) ∧ Vals (kvs.map (·.2)) (es.map (·.val)) := by
  induction h with
  | nil =>
    intro kvs r
    cases r
    exact ⟨.nil, .nil⟩
  | @cons e kv es vs h1 h2 h3 ih =>
    intro kvs r
    cases r with
    | @cons p _ l _ r1 r2 =>
      obtain ⟨i1, i2⟩ := ih r2
      have k1 : RelV (kV p.1) e.key := by
        rw [r1.1]
        exact key_rel h1
      have k2 : RelV p.2 e.val := by
        rw [h2]
        exact r1.2
      exact ⟨.cons k1 i1, .cons k2 i2⟩
mutual
theorem Dq.reads (hs : SysOk X.K) (I : Inv X pins σ H s) : ∀ {v : V} {d : PyData}, Dq X.K H v d → ∀ u, RelV v u → ∃ as, Reads s.heap u d as ∧ sysModules ∉ as
  | _, _, .non, u, r => by
    cases r
    exact ⟨_, Reads.none, List.not_mem_nil⟩
  | _, _, .bl b, u, r => by
    cases r
    exact ⟨_, Reads.bool b, List.not_mem_nil⟩
  | _, _, .int i, u, r => by
    obtain ⟨t, rfl⟩ := r
    exact ⟨_, Reads.int i t, List.not_mem_nil⟩
  | _, _, .str x, u, r => by
    obtain ⟨t, rfl⟩ := r
    exact ⟨_, Reads.str x t, List.not_mem_nil⟩
  | _, _, .lst (a := a) hq ha, u, r => by
    cases r
    obtain ⟨its, rv, ⟨o, n, ho, hc, _, hd⟩, _⟩ := I.list hq
    obtain ⟨as, hr, na⟩ := Dq.readsAll hs I ha its rv
    refine ⟨_, Reads.list ho hc hd hr, fun hm => ?_⟩
    rcases List.mem_cons.mp hm with z | z
    · exact not_sys hs I ho hc z.symm
    · exact na z
  | _, _, .tup (a := a) hq ha, u, r => by
    cases r
    obtain ⟨its, rv, ⟨o, ho, hc, n, hd⟩, _⟩ := I.tuple hq
    obtain ⟨as, hr, na⟩ := Dq.readsAll hs I ha its rv
    exact ⟨_, Reads.tuple ho hc hd hr, na⟩
  | _, _, .dct (a := a) (kvs := kvs) hq h1 h2, u, r => by
    cases r
    obtain ⟨_, ns, vs, rk, o, es, ep, ho, hx, hd, _, hp, _⟩ := (show ObjOk X.prog X.w H s.heap a (.dK kvs) from I.hok a _ hq)
    obtain ⟨r1, r2⟩ := pairs_rel hp rk
    obtain ⟨as, q1, n1⟩ := Dq.readsAll hs I h1 _ r1
    obtain ⟨bs, q2, n2⟩ := Dq.readsAll hs I h2 _ r2
    refine ⟨_, Reads.dict ho hx.1 hd q1 q2, fun hm => ?_⟩
    rcases List.mem_append.mp hm with z | z
    · rcases List.mem_cons.mp z with z | z
      · rw [← z, beq_self_eq_true] at ns
        cases ns
      · exact n1 z
    · exact n2 z
theorem Dq.readsAll (hs : SysOk X.K) (I : Inv X pins σ H s) : ∀ {vs : List V} {ds : List PyData}, DqAll X.K H vs ds → ∀ us : List Value, Vals vs us → ∃ as, ReadsAll s.heap us ds as ∧ sysModules ∉ as
  | _, _, .nil, us, r => by
    cases r
    exact ⟨_, ReadsAll.nil, List.not_mem_nil⟩
  | _, _, .cons h1 h2, us, r => by
    cases r with
    | cons r1 r2 =>
      obtain ⟨as, q1, n1⟩ := Dq.reads hs I h1 _ r1
      obtain ⟨bs, q2, n2⟩ := Dq.readsAll hs I h2 _ r2
      refine ⟨_, ReadsAll.cons q1 q2, fun hm => ?_⟩
      rcases List.mem_append.mp hm with z | z
      · exact n1 z
      · exact n2 z
end
end
section
variable {X : Cx} {k : Nat}
/-- repr of any data -/
def rReprQ (K : PySem.W.Frag) : List V → Hp → VK → Prop := fun xs H Q => ∃ (v : V) (d : PyData), xs = [v] ∧ Dq K H v d ∧ d.showable = true ∧ d.depth ≤ 60 ∧ d.shown.length ≤ sizeLine ∧ Q (.str d.shown) H
theorem call_reprQ (hr : RoomG k X.A) (hs : SysOk X.K) : CallR X (.builtin "repr") (rReprQ X.K) := by
  intro pins s σ H xs us Q I r h
  obtain ⟨v, d, rfl, hd, hsh, hdep, hz, q⟩ := h
  obtain ⟨u, rfl, ru⟩ := vals1 r
  obtain ⟨as, rd, na⟩ := Dq.reads hs I hd u ru
  have hu := hr.r.units
  cases hd with
  | non =>
    cases ru
    exact PySem.P.repr_of_none ⟨.str _, H, I.tok _, ⟨_, rfl⟩, by simpa only [PyData.shown] using q⟩
  | bl b =>
    cases ru
    exact PySem.P.repr_of_bool ⟨.str _, H, I.tok _, ⟨_, rfl⟩, by simpa only [PyData.shown] using q⟩
  | int i =>
    obtain ⟨t, rfl⟩ := ru
    exact PySem.P.repr_of_int (by simpa [PyData.showable] using hsh) ⟨.str _, H, I.tok _, ⟨_, rfl⟩, by simpa only [PyData.shown] using q⟩
  | str x =>
    obtain ⟨t, rfl⟩ := ru
    exact PySem.P.repr_of_str ⟨.str _, H, I.tok _, ⟨_, rfl⟩, by simpa only [PyData.shown] using q⟩ (by simpa only [PyData.shown] using hz)
  | @lst a xs ds hq ha =>
    obtain rfl : u = Value.ref a := ru
    exact repr_of_reads' rd hsh (fun _ => na) hr.g (by omega) (fun _ _ e => e) (fun h' u tk hk => ⟨.str _, H, I.kept hk, ⟨u, rfl⟩, q⟩) hz
  | @tup a xs ds hq ha =>
    obtain rfl : u = Value.ref a := ru
    exact repr_of_reads' rd hsh (fun _ => na) hr.g (by omega) (fun _ _ e => e) (fun h' u tk hk => ⟨.str _, H, I.kept hk, ⟨u, rfl⟩, q⟩) hz
  | @dct a kvs ds hq h1 h2 =>
    obtain rfl : u = Value.ref a := ru
    exact repr_of_reads' rd hsh (fun _ => na) hr.g (by omega) (fun _ _ e => e) (fun h' u tk hk => ⟨.str _, H, I.kept hk, ⟨u, rfl⟩, q⟩) hz
/-- x is not True, x is not False, of any scalar -/
def rNotBA : R2 := fun x y H Q => ∃ b : Bool, y = .bl b ∧ ((∃ a : Bool, x = .bl a ∧ Q (.bl (!decide (a = b))) H) ∨ (∃ i : Int, x = .int i ∧ Q (.bl true) H))
theorem op_notBA : OpR X (compareOp .IsNot) rNotBA := by
  intro pins s σ H x y v u Q I rx ry h
  obtain ⟨b, rfl, h⟩ := h
  rcases h with ⟨a, rfl, q⟩ | ⟨i, rfl, q⟩
  · exact op_notBl pins s σ H _ _ v u Q I rx ry ⟨a, b, rfl, rfl, q⟩
  · cases (show u = Value.bool b from ry)
    obtain ⟨t, rfl⟩ := (show ∃ t, v = Value.int i t from rx)
    exact wpAny_isNot_other rfl (fun z => nomatch z) ⟨.bl true, H, I, rfl, q⟩
end
end Ex

set_option Elab.async false
set_option linter.all false
set_option maxRecDepth 100000
set_option maxHeartbeats 4000000
/-! Own layer: isinstance of a caught error that has a dict of its own; errors with fields, raised. -/
namespace Ex
open PySem PySem.Spec PySem.Calls PyProof.Rows L2 Gu
section
variable {prog : Program} {w : World} {A : Around} {E : Value → Shared → Prop} {s : Shared} {K : PySem.W.Frag} {x D : Addr} {ox od : Obj}
theorem class_of_exc {Q : Option Value → Shared → Prop} (c : ExcC K D) (X : K.In s.heap) (I : PySem.W.InstAt s.heap x ox D (some od)) (h : Q (some (.ref D)) { s with toks := s.toks + 1 }) :
    wpAny (model prog w) A (getAttr? (.ref x) "__class__") Q E s := by
  have found : PySem.W.findObj K D (some od) "__class__" = some (.bind (.builtin "getset_descriptor.__get__") (.builtin "object.__class__")) :=
    PySem.W.findObj_data (by obtain ⟨cd, e, _⟩ := PySem.W.any_some c.hd; rw [e]; rfl) c.ha c.hn c.ht
  obtain ⟨hp, g, d, t, os⟩ := s
  have lt := I.type (M := model prog w)
  have lg := PySem.W.looks_findIn (M := model prog w) X c.hg
  have lk := PySem.W.looks_findIn (M := model prog w) X c.hk
  have lf := PySem.W.looks_find (M := model prog w) X I found
  have other : (onTheHeap (Value.ref D) && Value.builtin "BaseException.__getattribute__" == Value.builtin "object.__getattribute__") = false := by
    rw [show (Value.builtin "BaseException.__getattribute__" == Value.builtin "object.__getattribute__") = false by decide +kernel]
    rfl
  unfold getAttr? getAttrBy? getAttrBy
  refine wpAny_bind (wpAny_mkText (wpAny_bind (wpAny_attempt (wpAny_holding (wpAny_bind (lt.at (wpAny_bind (lg.at ?own))))))))
  case own =>
    show wpAny _ _ (if (onTheHeap (Value.ref D) && Value.builtin "BaseException.__getattribute__" == Value.builtin "object.__getattribute__") = true then _ else _) _ _ _
    rw [other, if_neg Bool.false_ne_true]
    unfold getAttrByItsOwn hookBefore
    refine wpAny_bind ?_
    rw [if_pos (show onTheHeap (Value.ref D) = true from rfl)]
    refine lk.at (wpAny_bind (wpAny_attempt (wpAny_holding ?_)))
    unfold callGetattribute
    rw [show (false && onTheHeap (Value.builtin "BaseException.__getattribute__")) = false from rfl, if_neg Bool.false_ne_true]
    unfold boundAndCalled
    rw [PySem.F.excAttr_ValueError.ga.bind (.ref x)]
    refine wpAny_bind (wpAny_pure ?_)
    show wpAny _ _ (call (.builtin "BaseException.__getattribute__") [.ref x, .str "__class__" t]) _ _ _
    refine wpAny_call (codeAny_call_builtin PySem.F.excAttr_ValueError.ga.plain PySem.F.entry_bexc_ga
      (@PySem.W.check_slot (model prog w) _ _ ⟨hp, g, d, t + 1, os⟩ "BaseException.__getattribute__" "BaseException" "__getattribute__" (.ref x) [.str "__class__" t] [] _
        (by decide +kernel) (by decide +kernel) (lt.andThen (PySem.W.looks_subIn X c.hs)) (PySem.F.args_bexc_ga (.ref x) (.str "__class__" t)) ?_))
    unfold Builtin.«object.__getattribute__»
    refine wpAny_bind (wpAny_of_eq (a := ((Value.ref x : Value), [Value.str "__class__" t])) (by first | rfl | (simp only [slotArgs]; rfl)) (wpAny_bind (wpAny_pure (wpAny_bind (lt.at (wpAny_bind (lf.at ?_)))))))
    show wpAny _ _ (holding [Value.builtin "object.__class__"] (call (.builtin "getset_descriptor.__get__") [.builtin "object.__class__", .ref x, .ref D]) >>= ret) _ _ _
    refine wpAny_bind (wpAny_holding (wpAny_call (PySem.W.class_get (s := ⟨hp, g, d, t + 1, os⟩) (ox := ox) (od := some od) X I c.hm (wpAny_pure ?_))))
    show wpAny _ _ (handedOut (.ref D)) _ _ _
    rw [PySem.W.handedOut_of (v := .ref D) rfl]
    first
      | exact wpAny_pure (wpAny_pure h)
      | exact wpAny_pure h
      | exact wpAny_pure (wpAny_bind (wpAny_pure (wpAny_pure h)))
theorem kitx_exc (c : ExcC K D) : PySem.W.KitX K (.ref x) (.ref D) (fun h => PySem.W.InstAt h x ox D (some od)) where
  ty := fun _ _ _ I => I.type
  it := fun _ _ X _ => by
    obtain ⟨cd, e, _⟩ := PySem.W.any_some c.hd
    unfold PySem.W.clsIn at e
    split at e
    · rename_i ho
      exact fun A' Q' E' s' k q => by
        unfold isType loadHead
        exact wpAny_bind (wpAny_loadPart (k _ _ (X _ _ ho)) (wpAny_pure q))
    · cases e
  ne := fun h tp dd its n sl X htp => by
    obtain ⟨cd, e, _⟩ := PySem.W.any_some c.hd
    cases q : (Value.ref D == Value.ref tp) with
    | false => rfl
    | true =>
      have z : D = tp := Value.ref.inj (beq_iff_eq.mp q)
      rw [← z] at htp
      unfold PySem.W.clsIn at e
      split at e
      · rename_i ho
        have y := (X _ _ ho).symm.trans htp
        cases y
      · cases e
  ca := fun X I k => class_of_exc c X I k
end
section
variable {X : Cx} {a D : Addr} {oe : Obj} {d : Addr} {pn : List (Addr × Obj)}
/-- the caught error as the machine sees it -/
theorem inst_exc {pins : List (Addr × Obj)} {σ : L2.St} {H : Hp} {s : Shared} {fs : List (Str × V)} (I : Inv (X.suite a ((a, oe) :: pn)) pins σ H s) (hz : Zc (.ref D) (some d) oe) (hf : ∃ vs, oe.data = .fields vs) (hd : H d = some (.xd fs)) :
    ∃ od, PySem.W.InstAt s.heap a oe D (some od) := by
  obtain ⟨hget, _⟩ := I.pin (a, oe) (List.mem_append_left _ List.mem_cons_self)
  obtain ⟨vs, hv⟩ := hf
  obtain ⟨mA, hns, _⟩ := (show ObjOk X.prog X.w H s.heap d (.xd fs) from I.hok d _ hd)
  obtain ⟨od, ho, _⟩ := lookIn_ns hns
  exact ⟨od, hget, hz.1, by unfold PySem.W.notCls; rw [hv] <;> rfl, by rw [hz.2]; exact ho⟩
/-- isinstance(e, c) -/
def rIsX (K : PySem.W.Frag) (D a : Addr) (cls : Value) (d : Option Addr) : List V → Hp → VK → Prop := fun xs H Q => ∃ (c : V) (u : Value) (b : Bool) (dd : Addr) (fs : List (Str × V)), xs = [.ref a, c] ∧ cls = .ref D ∧ d = some dd ∧ ClsV c u ∧ H dd = some (.xd fs) ∧ PySem.W.kitOne K (.ref D) u = some b ∧ Q (.bl b) H
theorem call_isX {cls : Value} {d : Option Addr} (c : ExcC X.K D) (hz : Zc cls d oe) (hf : ∃ vs, oe.data = .fields vs) : CallR (X.suite a ((a, oe) :: pn)) (.builtin "isinstance") (rIsX X.K D a cls d) := by
  intro pins s σ H xs us Q I r h
  obtain ⟨cv, u, b, dd, fs, rfl, rfl, rfl, k, hd, e, q⟩ := h
  obtain ⟨u1, u2, rfl, r1, r2⟩ := vals2 r
  obtain rfl : u1 = Value.ref a := r1
  have e2 := k.eq r2
  subst e2
  obtain ⟨od, J⟩ := inst_exc I hz hf hd
  exact PySem.W.kia_one (kitx_exc c) I.kIn J e (fun z => nomatch z) fun tk => ⟨.bl b, H, I.tok tk, rfl, q⟩
/-- isinstance(e, (c1, c2, ..)) -/
def rIsXT (K : PySem.W.Frag) (D a : Addr) (cls : Value) (d : Option Addr) : List V → Hp → VK → Prop := fun xs H Q => ∃ (tp : Addr) (cs : List V) (us : List Value) (b : Bool) (dd : Addr) (fs : List (Str × V)), xs = [.ref a, .ref tp] ∧ cls = .ref D ∧ d = some dd ∧
  H tp = some (.tup cs) ∧ Paired ClsV cs us ∧ H dd = some (.xd fs) ∧ PySem.W.kitAny K (.ref D) us = some b ∧ Q (.bl b) H
theorem call_isXT {cls : Value} {d : Option Addr} (c : ExcC X.K D) (hz : Zc cls d oe) (hf : ∃ vs, oe.data = .fields vs) : CallR (X.suite a ((a, oe) :: pn)) (.builtin "isinstance") (rIsXT X.K D a cls d) := by
  intro pins s σ H xs us Q I r h
  obtain ⟨tp, cs, ws, b, dd, fs, rfl, rfl, rfl, hT, k, hd, e, q⟩ := h
  obtain ⟨u1, u2, rfl, r1, r2⟩ := vals2 r
  obtain rfl : u1 = Value.ref a := r1
  obtain rfl : u2 = Value.ref tp := r2
  obtain ⟨od, J⟩ := inst_exc I hz hf hd
  obtain ⟨_, its, rv, o, h1, h2, n, h3⟩ := (show ObjOk X.prog X.w H s.heap tp (.tup cs) from I.hok tp _ hT)
  have e3 := ClsV.all k rv
  subst e3
  obtain ⟨oc, odd, dt, sl⟩ := o
  simp only at h2 h3
  subst h2 h3
  exact PySem.W.kia_tup (kitx_exc c) I.kIn J h1 e (fun z => nomatch z) fun tk => ⟨.bl b, H, I.tok tk, rfl, q⟩
end
section
variable {X : Cx}
/-- repr of any data, also while an error is handled -/
theorem call_reprH (hg : X.A.guards = some []) (hu : X.A.units + 64 < cLine) (hs : SysOk X.K) : CallR X (.builtin "repr") (rReprQ X.K) := by
  intro pins s σ H xs us Q I r h
  obtain ⟨v, d, rfl, hd, hsh, hdep, hz, q⟩ := h
  obtain ⟨u, rfl, ru⟩ := vals1 r
  obtain ⟨as, rd, na⟩ := Dq.reads hs I hd u ru
  have viaRef : ∀ {a : Addr}, u = Value.ref a → wpAny (model X.prog X.w) X.A (call (.builtin "repr") [u]) (EP X pins σ Q) X.xe s := fun {a} e => by
    subst e
    exact repr_of_reads' rd hsh (fun _ => na) hg (by omega) (fun _ _ e => e) (fun h' u tk hk => ⟨.str _, H, I.kept hk, ⟨u, rfl⟩, q⟩) hz
  cases hd with
  | non =>
    cases ru
    exact PySem.P.repr_of_none ⟨.str _, H, I.tok _, ⟨_, rfl⟩, by simpa only [PyData.shown] using q⟩
  | bl b =>
    cases ru
    exact PySem.P.repr_of_bool ⟨.str _, H, I.tok _, ⟨_, rfl⟩, by simpa only [PyData.shown] using q⟩
  | int i =>
    obtain ⟨t, rfl⟩ := ru
    exact PySem.P.repr_of_int (by simpa [PyData.showable] using hsh) ⟨.str _, H, I.tok _, ⟨_, rfl⟩, by simpa only [PyData.shown] using q⟩
  | str x =>
    obtain ⟨t, rfl⟩ := ru
    exact PySem.P.repr_of_str ⟨.str _, H, I.tok _, ⟨_, rfl⟩, by simpa only [PyData.shown] using q⟩ (by simpa only [PyData.shown] using hz)
  | lst hq ha => exact viaRef ru
  | tup hq ha => exact viaRef ru
  | dct hq h1 h2 => exact viaRef ru
end
end Ex

set_option Elab.async false
set_option linter.all false
set_option maxRecDepth 100000
set_option maxHeartbeats 4000000
/-! Own layer: len(o) by an own __len__; what repr shows, within bounds; both law-free. -/
namespace Ex
open PySem PySem.Spec PySem.Calls PyProof.Rows L2 Gu
section
variable {X : Cx} {k j : Nat} {c : Str} {ps : List Str} {sp : Sp}
/-- len(o) by the class's own __len__ -/
def rLenO (C : Addr) (sp : Sp) : List V → Hp → VK → Prop := fun xs H Q => ∃ (a dx : Addr) (fs : List (Str × V)), xs = [.ref a] ∧ H a = some (.ins C dx fs) ∧ sp [.ref a] H (fun v H' => ∃ n : Nat, v = .int n ∧ n ≤ sizeLine ∧ Q (.int n) H') E0
theorem call_lenO (D : Mf X.prog X.w X.K X.mg X.base k c "__len__" ps sp) (hr : Room j X.A) (hj : k + 1 ≤ j := by decide) : CallR X (.builtin "len") (rLenO (He.ga X.K c) sp) := by
  intro pins s σ H xs us Q I r h
  obtain ⟨a, dx, fs, rfl, ha, hq⟩ := h
  obtain ⟨u, rfl, ru⟩ := vals1 r
  obtain rfl : u = Value.ref a := ru
  obtain ⟨fd, F, b⟩ := D.ex
  obtain ⟨mA, J, _⟩ := ins_get I.hok ha
  obtain ⟨od, J, _⟩ := J.look
  have rm : Room k X.A.in1 := (hr.mono hj).in1
  refine Calls.call_function_entry kind_len plain_len entry_len (args_len1 _) ?_
  unfold Builtin.«len»
  refine wpAny_bind (m := oneArg "len" _) (wpAny_pure ?_)
  refine wpAny_bind (m := callSpecial? (.ref a) (Str.ofString "__len__")) (PySem.W.special_fn (name := Str.ofString "__len__") (args := []) I.kIn J D.me.at_ (beq_iff_eq.mp D.me.fn) ?_)
  have e0 : Env0 X.prog X.w X.K X.mg X.base X.A.in1 X.stack s H := by
    have e := I.env0
    exact ⟨e.frames, e.mod, e.bs, e.bsz, e.funs, e.frf, e.hok, e.bare⟩
  have hl := F.len _ _ _ _ hq
  refine wpAny_call (codeAny_mono (F.run X.A.in1 X.stack s H ⟨[.ref a], []⟩ [.ref a] [.ref a] _ E0 rm e0 (by
    have := b s [.ref a] I.kIn (by simpa using hl)
    simpa using this) (.cons rfl .nil) hq) fun r s' hq' => ?_)
  match r, hq' with
  | .ok (.ret u), hq' =>
    obtain ⟨v, H', I', rv, n, rfl, hn, q⟩ := I.after hq'
    obtain ⟨t, rfl⟩ := rv
    have hs : sizeLine = 16777216 := sizeLine_eq
    refine wpAny_bind (wpAny_holding (wpAny_pure ?_))
    refine wpAny_bind (wpAny_letGo ?_)
    show wpAny _ _ (if ((n : Nat) : Int) < 0 then _ else _) _ _ _
    rw [if_neg (by omega)]
    show wpAny _ _ (if ((n : Nat) : Int) ≥ 2 ^ 63 then _ else _) _ _ _
    rw [if_neg (by omega)]
    exact wpAny_bind (wpAny_mkInt (wpAny_pure ⟨_, rfl, ⟨.int n, H', I'.tok _, ⟨_, rfl⟩, q⟩⟩))
end
theorem seqT {K : PySem.W.Frag} {H H' : Hp} {a : Addr} {xs : List V} (e : Same H H') (h : SqT K H a xs) : SqT K H' a xs := by
  rcases h with (h | ⟨o, h⟩) | h
  · exact .inl (.inl (e _ _ h))
  · exact .inl (.inr ⟨o, e _ _ h⟩)
  · exact .inr h
mutual
theorem dq_same {K : PySem.W.Frag} {H H' : Hp} (e : Same H H') : ∀ {v : V} {d : PyData}, Dq K H v d → Dq K H' v d
  | _, _, .non => .non
  | _, _, .bl b => .bl b
  | _, _, .int i => .int i
  | _, _, .str x => .str x
  | _, _, .lst hq ha => .lst (e.seq hq) (dqAll_same e ha)
  | _, _, .tup hq ha => .tup (seqT e hq) (dqAll_same e ha)
  | _, _, .dct hq h1 h2 => .dct (e _ _ hq) (dqAll_same e h1) (dqAll_same e h2)
theorem dqAll_same {K : PySem.W.Frag} {H H' : Hp} (e : Same H H') : ∀ {vs : List V} {ds : List PyData}, DqAll K H vs ds → DqAll K H' vs ds
  | _, _, .nil => .nil
  | _, _, .cons h1 h2 => .cons (dq_same e h1) (dqAll_same e h2)
end
/-- a value as repr shows it: nested at most n deep, at most m signs -/
structure Tq (K : PySem.W.Frag) (H : Hp) (v : V) (d : PyData) (n m : Nat) : Prop where
  dq : Dq K H v d
  sh : d.showable = true
  dp : d.depth ≤ n
  ln : d.shown.length ≤ m
structure TqAll (K : PySem.W.Frag) (H : Hp) (xs : List V) (ds : List PyData) (n m : Nat) : Prop where
  dq : DqAll K H xs ds
  sh : PyData.showableAll ds = true
  dp : PyData.depthAll ds ≤ n
  ln : ((PyData.shownAll ds).map (·.length)).sum + 2 * (PyData.shownAll ds).length ≤ xs.length * (m + 2)
section
variable {K : PySem.W.Frag} {H H' : Hp} {n m : Nat}
theorem Tq.same {v : V} {d : PyData} (t : Tq K H v d n m) (e : Same H H') : Tq K H' v d n m := ⟨dq_same e t.dq, t.sh, t.dp, t.ln⟩
theorem Tq.mono {v : V} {d : PyData} {n' m' : Nat} (t : Tq K H v d n m) (h1 : n ≤ n') (h2 : m ≤ m') : Tq K H v d n' m' := ⟨t.dq, t.sh, Nat.le_trans t.dp h1, Nat.le_trans t.ln h2⟩
theorem TqAll.same {xs : List V} {ds : List PyData} (t : TqAll K H xs ds n m) (e : Same H H') : TqAll K H' xs ds n m := ⟨dqAll_same e t.dq, t.sh, t.dp, t.ln⟩
theorem tq_all : ∀ {xs : List V}, (∀ v ∈ xs, ∃ d, Tq K H v d n m) → ∃ ds, TqAll K H xs ds n m
  | [], _ => ⟨[], .nil, rfl, Nat.zero_le _, Nat.zero_le _⟩
  | v :: xs, h => by
    obtain ⟨d, t⟩ := h v List.mem_cons_self
    obtain ⟨ds, a, b, c, e⟩ := tq_all (xs := xs) fun u hu => h u (List.mem_cons_of_mem _ hu)
    refine ⟨d :: ds, .cons t.dq a, ?_, ?_, ?_⟩
    · show (d.showable && PyData.showableAll ds) = true
      rw [t.sh, b]
      rfl
    · show max d.depth (PyData.depthAll ds) ≤ n
      have := t.dp
      omega
    · show (d.shown.length + ((PyData.shownAll ds).map (·.length)).sum) + 2 * ((PyData.shownAll ds).length + 1) ≤ (xs.length + 1) * (m + 2)
      have := t.ln
      rw [Nat.add_mul, Nat.one_mul]
      omega
theorem TqAll.lst {a : Addr} {xs : List V} {ds : List PyData} (t : TqAll K H xs ds n m) (h : H a = some (.lst xs)) : Tq K H (.ref a) (.list ds) (n + 1) (xs.length * (m + 2) + 3) := by
  refine ⟨.lst (SqL.of h) t.dq, t.sh, ?_, ?_⟩
  · show PyData.depthAll ds + 1 ≤ n + 1
    have := t.dp
    omega
  · have e := listText_len_le (PyData.shownAll ds)
    show (listText (PyData.shownAll ds)).length ≤ _
    have := t.ln
    omega
theorem TqAll.tup {a : Addr} {xs : List V} {ds : List PyData} (t : TqAll K H xs ds n m) (h : H a = some (.tup xs)) : Tq K H (.ref a) (.tuple ds) (n + 1) (xs.length * (m + 2) + 3) := by
  refine ⟨.tup (SqT.of h) t.dq, t.sh, ?_, ?_⟩
  · show PyData.depthAll ds + 1 ≤ n + 1
    have := t.dp
    omega
  · have e := tupleText_len_le (PyData.shownAll ds)
    show (tupleText (PyData.shownAll ds)).length ≤ _
    have := t.ln
    omega
theorem tq_non : Tq K H .non .none 0 41 := ⟨.non, rfl, Nat.le_refl _, by decide +kernel⟩
theorem tq_bl (b : Bool) : Tq K H (.bl b) (.bool b) 0 41 := ⟨.bl b, rfl, Nat.le_refl _, by cases b <;> decide +kernel⟩
theorem tq_int {i : Int} (h1 : -(10 ^ 39) ≤ i) (h2 : i ≤ 10 ^ 39) : Tq K H (.int i) (.int i) 0 41 := by
  have b39 : (10 : Int) ^ 39 = 1000000000000000000000000000000000000000 := by decide
  have e : i.natAbs < 10 ^ 40 := by
    have z : (10 : Nat) ^ 40 = 10000000000000000000000000000000000000000 := by decide
    omega
  have a : i.natAbs.log2 < 1920 := Nat.lt_of_lt_of_le (PySem.Flt.log2_lt_of (k := 200) (by decide) (Nat.lt_trans e (by decide))) (by decide)
  refine ⟨.int i, decide_eq_true a, Nat.le_refl _, ?_⟩
  have z := int_text_length_le10 (k := 40) (by decide) e
  show (Str.ofString (toString i)).length ≤ 41
  rw [PySem.ofString_length]
  exact z
theorem tq_text (z : String) (h : (reprText (Str.ofString z)).length ≤ 41) : Tq K H (.str (Str.ofString z)) (.str (Str.ofString z)) 0 41 := ⟨.str _, rfl, Nat.le_refl _, h⟩
theorem tq_dct {a : Addr} (h : H a = some (.dK [])) : Tq K H (.ref a) (.dict []) 1 41 := ⟨.dct h .nil .nil, rfl, by decide, by decide +kernel⟩
end
theorem code_lt {z : String} {c : Nat} (hc : c ∈ (Str.ofString z).cps.toList) : c < 1114112 := by
  have hc2 : c ∈ z.toList.map Char.toNat := by
    rw [← cpsOfBytes_string]
    simpa [Str.ofString] using hc
  obtain ⟨ch, _, rfl⟩ := List.mem_map.mp hc2
  have v : ch.val.toNat < 55296 ∨ (57343 < ch.val.toNat ∧ ch.val.toNat < 1114112) := ch.valid
  show ch.val.toNat < 1114112
  omega
/-- repr of such a value -/
theorem repr_tq {K : PySem.W.Frag} {H : Hp} {v : V} {d : PyData} {n m : Nat} {Q : VK} (t : Tq K H v d n m) (q : Q (.str d.shown) H) (hn : n ≤ 60 := by decide) (hm : m ≤ sizeLine := by decide) : rReprQ K [v] H Q :=
  ⟨v, d, rfl, t.dq, t.sh, Nat.le_trans t.dp hn, Nat.le_trans t.ln hm, q⟩
end Ex

set_option Elab.async false
set_option linter.all false
set_option maxRecDepth 100000
set_option maxHeartbeats 4000000
/-! Own layer: a == b by an own __eq__ that answers True or False; len(set(xs)) of ints that may be equal. -/
namespace Ex
open PySem PySem.Spec PySem.Calls PyProof.Rows L2 Gu
/-- a class's own == -/
structure EqOf (P : Program) (w : World) (K : PySem.W.Frag) (mg : Str → Option Value) (base : Heap) (k : Nat) (c : Str) (sp : Sp) : Prop where
  ex : ∃ fd, FnOk P w K mg base CX0 k (He.ma K (He.ga K c) "__eq__") fd ["self", "other"] sp ∧ Binds K fd ["self", "other"] []
  at_ : PySem.W.findIn K (.ref (He.ga K c)) "__eq__" = some (some (.ref (He.ma K (He.ga K c) "__eq__")))
  fn : PySem.W.isFn K (.ref (He.ma K (He.ga K c) "__eq__")) = true
/-- what isinstance asks of an own class, and that it knows itself -/
structure InsOk (K : PySem.W.Frag) (C : Addr) : Prop where
  cl : Cls K C
  ha : PySem.W.findIn K (.ref C) "__class__" = some (some (.builtin "object.__class__"))
  hn : PySem.W.specialIn K (.builtin "object.__class__") "__get__" = some (some (.builtin "getset_descriptor.__get__"))
  ht : PySem.W.takesIn K (.builtin "object.__class__") = some true
  hm : PySem.W.mroIn K C (.type "object") = some true
  ki : PySem.W.kitOne K (.ref C) (.ref C) = some true
def insB (K : PySem.W.Frag) (C : Addr) : Bool := He.eqO (PySem.W.findIn K (.ref C) "__class__") (some (some (.builtin "object.__class__"))) && (He.eqO (PySem.W.specialIn K (.builtin "object.__class__") "__get__") (some (some (.builtin "getset_descriptor.__get__"))) &&
  (decide (PySem.W.takesIn K (.builtin "object.__class__") = some true) && (decide (PySem.W.mroIn K C (.type "object") = some true) && decide (PySem.W.kitOne K (.ref C) (.ref C) = some true))))
theorem insB_ok {K : PySem.W.Frag} {C : Addr} (cl : Cls K C) (h : insB K C = true) : InsOk K C := by
  obtain ⟨h1, h⟩ := He.ba h
  obtain ⟨h2, h⟩ := He.ba h
  obtain ⟨h3, h⟩ := He.ba h
  obtain ⟨h4, h5⟩ := He.ba h
  exact ⟨cl, He.eqO_ok h1, He.eqO_ok h2, of_decide_eq_true h3, of_decide_eq_true h4, of_decide_eq_true h5⟩
theorem InsOk.ty {K : PySem.W.Frag} {C a dx : Addr} {fs : List (Str × V)} {H : Hp} (i : InsOk K C) (e : H a = some (.ins C dx fs)) : TyX K H (.ref a) (.ref C) := .base (.ins e i.cl i.ha i.hn i.ht i.hm)
/-- the facts of an own == by one Bool -/
def eqB (K : PySem.W.Frag) (C : Addr) : Bool := He.eqO (PySem.W.findIn K (.ref C) "__eq__") (some (some (.ref (He.ma K C "__eq__")))) && PySem.W.isFn K (.ref (He.ma K C "__eq__"))
theorem eqB_ok {K : PySem.W.Frag} {C : Addr} (h : eqB K C = true) : PySem.W.findIn K (.ref C) "__eq__" = some (some (.ref (He.ma K C "__eq__"))) ∧ PySem.W.isFn K (.ref (He.ma K C "__eq__")) = true := by
  obtain ⟨h1, h2⟩ := He.ba h
  exact ⟨He.eqO_ok h1, h2⟩
def rOwnEq (C : Addr) (sp : Sp) : R2 := fun x y H Q => ∃ a b dx dy fs gs, x = .ref a ∧ y = .ref b ∧ H a = some (.ins C dx fs) ∧ H b = some (.ins C dy gs) ∧ sp [.ref a, .ref b] H (fun v H' => (∃ t, v = .bl t) ∧ Q v H') E0
section
variable {X : Cx} {k j : Nat} {c : Str} {sp : Sp}
theorem op_own (D : EqOf X.prog X.w X.K X.mg X.base k c sp) (hr : Room j X.A) (hj : k ≤ j := by decide) : OpR X (compareOp .Eq) (rOwnEq (He.ga X.K c) sp) := by
  intro pins s σ H x y u v Q I rx ry ⟨a, b, dx, dy, fs, gs, ex, ey, ha, hb, hsp⟩
  subst ex ey
  obtain rfl : u = Value.ref a := rx
  obtain rfl : v = Value.ref b := ry
  obtain ⟨fd, F, bi⟩ := D.ex
  have hr' := hr.mono hj
  obtain ⟨mA, J, _⟩ := ins_get I.hok ha
  obtain ⟨mB, J', _⟩ := ins_get I.hok hb
  obtain ⟨od, J, _⟩ := J.look
  obtain ⟨od', J', _⟩ := J'.look
  obtain ⟨m, hF⟩ := I.fr
  show wpAny (model X.prog X.w) X.A (richCompare .Eq (.ref a) (.ref b)) (EP X pins σ Q) X.xe s
  refine PySem.W.cmp_K (op := .Eq) (tb := .ref (He.ga X.K c)) hr'.units0 hF I.ok.mod.kin J J'.type (by simp [PySem.W.notFirst]) D.at_ D.fn ?_
  have r2 : Vals [V.ref a, V.ref b] [Value.ref a, Value.ref b] := .cons rfl (.cons rfl .nil)
  have bb := bi s [.ref a, .ref b] I.kIn rfl
  refine wpAny_call (codeAny_mono (F.run X.A X.stack s H ⟨[.ref a, .ref b], []⟩ [.ref a, .ref b] [.ref a, .ref b] _ E0 hr' I.env0 (by simpa using bb) r2 hsp) fun r s' hq => ?_)
  match r, hq with
  | .ok (.ret w), hq =>
    obtain ⟨z, H', I', rz, ⟨t, ez⟩, q⟩ := I.after hq
    subst ez
    cases rz
    exact ⟨.bl t, H', I', rfl, q⟩
/-- how many different ones -/
def diff (ns : List Int) : Nat := (ns.foldl step_dedup []).length
theorem range_get (ns : List Int) : (List.range ns.length).map (fun i => ns.getD i 0) = ns := by
  apply List.ext_getElem?
  intro i
  by_cases h : i < ns.length
  · rw [List.getElem?_map, List.getElem?_range h, List.getElem?_eq_getElem h]
    simp [h]
  · rw [List.getElem?_eq_none (by rw [List.length_map, List.length_range]; omega), List.getElem?_eq_none (by omega)]
def tLenSetD (K : PySem.W.Frag) (ta : TE) : TE := fun σ H Q => ta σ H fun x H1 => ∃ (l : Addr) (ns : List Int), x = V.ref l ∧ SqL K H1 l (ns.map V.int) ∧ ns.length < 64 ∧ Q (.int (diff ns : Nat)) H1
theorem pe_lenSetD {a : Expr} {ta : TE} {p p2 q pos : Pos} (hc : X.calm = true) (hg : Gl X "len") (hm : X.mg "len" = none) (hg2 : Gl X "set") (hm2 : X.mg "set" = none) (ha : PE X a ta)
    (na : starEach [a] X.env = (false, eval a X.env) :: starEach [] X.env := by rfl) : PE X (.Call (.Name "len" p) [.Call (.Name "set" p2) [a] [] q] [] pos) (tLenSetD X.K ta) := by
  refine ⟨fun pins s σ H Q I h => Call_ (ld_blt I hg hm PySem.boot_len (PyProof.Rows.callWith_builtin1 (PyProof.Rows.args_cons (Call_ (ld_blt I hg2 hm2 PyProof.Rows.boot_set ?_)) rfl) rfl rfl))⟩
  refine PyProof.Rows.callWith_type1 (PyProof.Rows.args_cons (thn (ha.run pins s σ H _ I h) fun v s1 ⟨x, H1, I1, r1, l, ns, ex, hq, h1, q1⟩ => PyProof.Rows.args_nil ?_) na) na rfl
  subst ex
  obtain rfl : v = Value.ref l := r1
  obtain ⟨its, r, pl, hz⟩ := I1.list hq
  have hl : its.toArray.size = ns.length := by rw [List.size_toArray, ← r.length, List.length_map]
  refine call_set_list (I1.ok.hd hc) pl.isList (ns := ns) (by simpa using r.ints) (by unfold scanBound; omega) fun h' tk hS hk => PyProof.Rows.args_nil ?_
  have ed : (PyProof.Rows.firstMet (fun i => ns.getD i 0) its.toArray.size).length = diff ns := by
    unfold PyProof.Rows.firstMet diff
    rw [hl, range_get]
  have le : diff ns ≤ ns.length := by
    rw [← ed, ← hl]
    exact PyProof.Rows.firstMet_length_le _ _
  obtain ⟨o, es, ep, t, ho, hex, hd, _, _, _, hf, hn⟩ := hS
  rw [ed] at hn
  exact call_len_set ho hex hd hf (by rw [hn] <;> omega) ⟨.int (diff ns : Nat), H1, (I1.kept fun b o e => hk b o (Heap.lt_size e) e).tok _, ⟨_, by rw [hn]⟩, q1⟩
end
end Ex

set_option Elab.async false
set_option linter.all false
set_option maxRecDepth 100000
set_option maxHeartbeats 4000000
/-! Own layer: a != b by an own __eq__ and object's __ne__. -/
namespace HN
open PySem PySem.Spec PyProof.Rows PySem.SeqAt
section
variable {prog : Program} {w : World} {A : Around} {E : Value → Shared → Prop} {s : Shared} {K : PySem.W.Frag} {x C f : Addr} {b tb : Value} {ox : Obj} {od : Option Obj}
theorem objNe_entry {Q : Fin → Shared → Prop} (X : K.In s.heap) (I : PySem.W.InstAt s.heap x ox C od) (hs : PySem.W.findIn K (.ref C) "__eq__" = some (some (.ref f))) (hf : PySem.W.isFn K (.ref f) = true) (hu : A.units < cLine)
    (hcall : wpAny (model prog w) A (call (.ref f) [.ref x, b]) (fun v s' => ∃ t, v = .bool t ∧ Q (.done (.ret (.bool (!t)))) s') E s) :
    wpAny (model prog w) A (Builtin.«object.__ne__» ⟨[.ref x, b], []⟩) Q E s := by
  unfold Builtin.«object.__ne__»
  repeat (first
    | with_reducible refine wpAny_cRoomFor hu ?_
    | (refine wpAny_bind (m := callSpecialIfBound? (.ref x) (Str.ofString "__eq__") [b])
        (PySem.W.ifBound_K X I hs hf (wpAny_mono hcall (fun r s' hr => by
          obtain ⟨t, rfl, hq⟩ := hr
          repeat (first | exact hq | exact wpAny_pure hq | exact wpAny_truthy_bool hq | (refine wpAny_bind (m := truthy (.bool _)) (wpAny_truthy_bool ?_)) | wp_step)) fun _ _ e => e)))
    | wp_step)
theorem call_objNe {Q : Value → Shared → Prop} (X : K.In s.heap) (I : PySem.W.InstAt s.heap x ox C od) (hm : PySem.W.mroIn K C (.type "object") = some true) (hs : PySem.W.findIn K (.ref C) "__eq__" = some (some (.ref f))) (hf : PySem.W.isFn K (.ref f) = true) (hu : A.in1.units < cLine)
    (hcall : wpAny (model prog w) A.in1 (call (.ref f) [.ref x, b]) (fun v s' => ∃ t, v = .bool t ∧ Q (.bool (!t)) s') E s) :
    wpAny (model prog w) A (call (.builtin "object.__ne__") [.ref x, b]) Q E s :=
  wpAny_call (codeAny_call_builtin F.cmp_object.ne.plain F.cmpEntry_ne (PySem.W.check_slot F.cmpKind_ne F.cmpSplit_ne (I.type.andThen (PySem.W.looks_mroIn X hm)) (F.cmpArgs_ne _ _) (objNe_entry X I hs hf hu hcall)))
theorem ifBound_objNe {args : List Value} {Q : Option Value → Shared → Prop} {M : Model} (X : K.In s.heap) (I : PySem.W.InstAt s.heap x ox C od) (hs : PySem.W.findIn K (.ref C) "__ne__" = some (some (.builtin "object.__ne__")))
    (h : wpAny M A (call (.builtin "object.__ne__") (.ref x :: args)) (fun v => Q (some v)) E s) : wpAny M A (callSpecialIfBound? (.ref x) "__ne__" args) Q E s := by
  simp only [callSpecialIfBound?, bindSpecialIfBound?]
  refine wpAny_holding (wpAny_bind (wpAny_bind (wpAny_bind (I.type.here ((PySem.W.looks_findIn X hs).here ?_)))))
  refine wpAny_bind (wpAny_askSetting (wpAny_ite ?_))
  have fin : wpAny M A (call (.builtin "object.__ne__") ([.ref x] ++ args) >>= fun v => pure (some v)) Q E s := wpAny_bind (wpAny_mono h (fun v s' h' => wpAny_pure h') fun _ _ h' => h')
  split
  · exact wpAny_bind (wpAny_of_eq (F.cmp_object.ne.bind _) (wpAny_pure (by exact fin)))
  · exact wpAny_tryCatch (wpAny_bind (wpAny_of_eq (F.cmp_object.ne.bind _) (wpAny_pure (by exact fin))))
theorem ne_K {Q : Value → Shared → Prop} (hu : A.units < cLine) (hu1 : A.in1.units < cLine) (X : K.In s.heap) (I : PySem.W.InstAt s.heap x ox C od) (hb : PySem.W.Looks (model prog w) s.heap (typeOf b) (.ref C)) (hm : PySem.W.mroIn K C (.type "object") = some true)
    (hn : PySem.W.findIn K (.ref C) "__ne__" = some (some (.builtin "object.__ne__"))) (hs : PySem.W.findIn K (.ref C) "__eq__" = some (some (.ref f))) (hf : PySem.W.isFn K (.ref f) = true)
    (hcall : wpAny (model prog w) A.in1 (call (.ref f) [.ref x, b]) (fun v s' => ∃ t, v = .bool t ∧ Q (.bool (!t)) s') E s) : wpAny (model prog w) A (richCompare .NotEq (.ref x) b) Q E s := by
  have one : wpAny (model prog w) A (tryCompare (.ref x) "__ne__" b) (fun r s' => ∃ v, r = some v ∧ Q v s') E s := by
    unfold tryCompare
    refine wpAny_bind (ifBound_objNe X I hn (call_objNe X I hm hs hf hu1 (wpAny_mono hcall (fun v s' hv => ?_) fun _ _ e => e)))
    obtain ⟨t, rfl, q⟩ := hv
    exact ⟨t, rfl, wpAny_pure ⟨_, rfl, q⟩⟩
  simp only [richCompare, cmpInfo_NotEq, oneThing_ref]
  refine wpAny_holding (wpAny_bind (wpAny_cRoomFor hu ?_))
  refine wpAny_bind (I.type.here (wpAny_bind (hb.here ?_)))
  rw [show (Value.ref C != Value.ref C) = false from by simp]
  simp only [Bool.false_eq_true, if_false]
  refine wpAny_bind (wpAny_pure ?_)
  simp only [Bool.false_eq_true, if_false]
  refine wpAny_bind (wpAny_mono one (fun r s' z => ?_) fun _ _ e => e)
  obtain ⟨v, rfl, hq⟩ := z
  exact wpAny_pure hq
end
end HN
namespace Ex
open PySem PySem.Spec PySem.Calls PyProof.Rows L2 Gu
structure NeOk (K : PySem.W.Frag) (C : Addr) : Prop where
  ne : PySem.W.findIn K (.ref C) "__ne__" = some (some (.builtin "object.__ne__"))
  hm : PySem.W.mroIn K C (.type "object") = some true
def neB (K : PySem.W.Frag) (C : Addr) : Bool := He.eqO (PySem.W.findIn K (.ref C) "__ne__") (some (some (.builtin "object.__ne__"))) && decide (PySem.W.mroIn K C (.type "object") = some true)
theorem neB_ok {K : PySem.W.Frag} {C : Addr} (h : neB K C = true) : NeOk K C := by
  obtain ⟨h1, h2⟩ := He.ba h
  exact ⟨He.eqO_ok h1, of_decide_eq_true h2⟩
def rOwnNe (C : Addr) (sp : Sp) : R2 := fun x y H Q => ∃ a b dx dy fs gs, x = .ref a ∧ y = .ref b ∧ H a = some (.ins C dx fs) ∧ H b = some (.ins C dy gs) ∧ sp [.ref a, .ref b] H (fun v H' => ∃ t, v = .bl t ∧ Q (.bl (!t)) H') E0
section
variable {X : Cx} {k j : Nat} {c : Str} {sp : Sp}
theorem op_ownN (D : EqOf X.prog X.w X.K X.mg X.base k c sp) (N : NeOk X.K (He.ga X.K c)) (hr : Room j X.A) (hj : k + 1 ≤ j := by decide) : OpR X (compareOp .NotEq) (rOwnNe (He.ga X.K c) sp) := by
  intro pins s σ H x y u v Q I rx ry ⟨a, b, dx, dy, fs, gs, ex, ey, ha, hb, hsp⟩
  subst ex ey
  obtain rfl : u = Value.ref a := rx
  obtain rfl : v = Value.ref b := ry
  obtain ⟨fd, F, bi⟩ := D.ex
  have hr' := hr.mono hj
  obtain ⟨mA, J, _⟩ := ins_get I.hok ha
  obtain ⟨mB, J', _⟩ := ins_get I.hok hb
  obtain ⟨od, J, _⟩ := J.look
  obtain ⟨od', J', _⟩ := J'.look
  show wpAny (model X.prog X.w) X.A (richCompare .NotEq (.ref a) (.ref b)) (EP X pins σ Q) X.xe s
  refine HN.ne_K hr'.units0 hr'.in1.units0 I.kIn J J'.type N.hm N.ne D.at_ D.fn ?_
  have r2 : Vals [V.ref a, V.ref b] [Value.ref a, Value.ref b] := .cons rfl (.cons rfl .nil)
  have bb := bi s [.ref a, .ref b] I.kIn rfl
  refine wpAny_call (codeAny_mono (F.run X.A.in1 X.stack s H ⟨[.ref a, .ref b], []⟩ [.ref a, .ref b] [.ref a, .ref b] _ E0 hr'.in1 I.env0.in1 (by simpa using bb) r2 hsp) fun r s' hq => ?_)
  match r, hq with
  | .ok (.ret w), hq =>
    obtain ⟨z, H', I', rz, ⟨t, ez, q⟩⟩ := I.after hq
    subst ez
    cases rz
    exact ⟨t, rfl, .bl (!t), H', I', rfl, q⟩
end
end Ex

set_option Elab.async false
set_option linter.all false
set_option maxRecDepth 100000
set_option maxHeartbeats 4000000
/-! Own layer: errors with a field over any built-in base (ArithmeticError, LookupError, RuntimeError, ValueError), made and raised. -/
namespace Ex
open PySem PySem.Spec PySem.Calls PyProof.Rows L2 Gu
/-- own classes, then the mro of a built-in base -/
def refsB (tl : List Value) : List Value → Bool
  | .ref _ :: r => refsB tl r
  | l => l == tl
theorem refsB_two (tl : List Value) (l : List Value) (e : refsB tl l = true) : (∃ c r, l = .ref c :: r ∧ refsB tl r = true) ∨ l = tl := by
  cases l with
  | nil => exact .inr (beq_iff_eq.mp e)
  | cons v r => cases v with
    | ref c => exact .inl ⟨c, r, rfl, e⟩
    | _ => exact .inr (beq_iff_eq.mp e)
/-- a built-in base of errors -/
structure BaseE (B : String) (tl : List Value) : Prop where
  ex : ExcBaseFacts B (B ++ ".__new__") (B ++ ".__init__") tl
  pa : ∀ self : Value, refuseLoop self "__setattr__" tl = pure ()
  ob : tl.contains (.type "object") = true
  ne : tl.isEmpty = false
abbrev tailE (B : String) : List Value := [.type B, .type "Exception", .type "BaseException", .type "object"]
theorem base_AE : BaseE "ArithmeticError" (tailE "ArithmeticError") := ⟨F.excBase_ArithmeticError, F.store_ArithmeticError.passes, by decide +kernel, rfl⟩
theorem base_LE : BaseE "LookupError" (tailE "LookupError") := ⟨F.excBase_LookupError, F.store_LookupError.passes, by decide +kernel, rfl⟩
theorem base_RE : BaseE "RuntimeError" (tailE "RuntimeError") := ⟨F.excBase_RuntimeError, F.store_RuntimeError.passes, by decide +kernel, rfl⟩
theorem base_VE : BaseE "ValueError" (tailE "ValueError") := ⟨F.excBase_ValueError, F.store_ValueError.passes, by decide +kernel, rfl⟩
section
variable {B : String} {tl : List Value}
theorem BaseE.pass (b : BaseE B tl) (self : Value) : ∀ l, refsB tl l = true → refuseLoop self "__setattr__" l = pure ()
  | [], e => by
    have z : ([] : List Value) = tl := beq_iff_eq.mp e
    have n := b.ne
    rw [← z] at n
    cases n
  | v :: r, e => by
    rcases refsB_two tl _ e with ⟨c, r', q, h⟩ | q
    · cases q
      rw [refuseLoop_ref]
      exact b.pass self r h
    · rw [q]
      exact b.pa self
theorem BaseE.has (b : BaseE B tl) (Y : String) : ∀ l, refsB tl l = true → l.contains (.type Y) = tl.contains (.type Y)
  | [], e => by
    have z : ([] : List Value) = tl := beq_iff_eq.mp e
    rw [z]
  | v :: r, e => by
    rcases refsB_two tl _ e with ⟨c, r', q, h⟩ | q
    · cases q
      rw [List.contains_cons, b.has Y r h]
      rfl
    · rw [q]
theorem BaseE.some (b : BaseE B tl) {l : List Value} (e : refsB tl l = true) : l.isEmpty = false := by
  cases l with
  | cons _ _ => rfl
  | nil =>
    have z : ([] : List Value) = tl := beq_iff_eq.mp e
    have n := b.ne
    rw [← z] at n
    exact n
end
section
open Builtin Builtin.ObjectAttr
variable {prog : Program} {w : World} {A : Around} {R : Result → Shared → Prop} {hp : Heap} {g : Array GenState} {d : Drawn} {t : Nat} {os : OsState}
/-- the first field of an error is stored by object.__setattr__ -/
theorem first_field {B : String} {tl : List Value} (b : BaseE B tl) {K : W.Frag} {nm : Str} {tk : Tok} {v : Value} {x C : Addr} {fv : Array Value} {cd : ClassData}
    (KX : K.In hp) (hx : hp.get? x = some { cls := .ref C, data := .fields fv }) (hcd : W.clsIn K C = some cd) (mr : refsB tl cd.mro = true) (hdt : cd.hasDict = true) (no : W.findIn K (.ref C) nm = some none)
    (go : ∀ h' tk' dx, (∀ b o, b ≠ x → hp.get? b = some o → h'.get? b = some o) → hp.objs.size ≤ dx → dx ≠ x → h'.get? x = some { cls := .ref C, dict := some dx, data := .fields fv } →
      h'.Ns1 dx (fun y => if y = nm then some v else none) → R (.ok (.ret .none)) ⟨h', g, d, tk', os⟩) :
    codeAny (model prog w) A (.call (.builtin "object.__setattr__") ⟨[.ref x, .str nm tk, v], []⟩) R ⟨hp, g, d, t, os⟩ := by
  have IA : W.InstAt hp x { cls := .ref C, data := .fields fv } C none := ⟨hx, rfl, rfl, trivial⟩
  have so := F.store_object
  have nE := b.some mr
  have isO : cd.mro.contains (.type "object") = true := (b.has "object" _ mr).trans b.ob
  have far : x ≠ hp.objs.size := Nat.ne_of_lt (Heap.lt_size hx)
  have isI : W.Looks (model prog w) hp (isInstance (.ref x) (.type "object")) true := IA.type.andThen (W.looks_mroIn KX (by unfold W.mroIn; rw [hcd, Option.bind_some, if_neg (by rw [nE]; decide), isO]))
  refine codeAny_call_builtin so.slot.plain so.entry (@W.check_slot (model prog w) _ _ ⟨hp, g, d, t, os⟩ "object.__setattr__" "object" "__setattr__" (.ref x) [.str nm tk, v] [] _ so.kind so.split isI (so.args (.ref x) (.str nm tk) v) ?_)
  have lm : W.Looks (model prog w) hp (mroOf (.ref C)) cd.mro := (W.looks_clsIn KX hcd).andThen .now
  have ln : W.Looks (model prog w) hp (storeTaker? none) none := .now
  have lc : W.Looks (model prog w) hp (classData C) cd := W.looks_clsIn KX hcd
  rw [W.osa_eq, refuse_eq]
  refine wpAny_bind (wpAny_bind (IA.type.at (wpAny_bind (lm.at ?_))))
  rw [b.pass _ _ mr]
  refine wpAny_pure (wpAny_bind (IA.type.at (wpAny_bind ((W.looks_findIn KX no).at (wpAny_bind (ln.at ?_))))))
  show wpAny _ _ (storeInOwnDict (.ref x) (.ref C) (.str nm tk) nm v false) _ _ _
  obtain ⟨n1, n2, n3, n4, n5, hd, n7, n8, n9, n10, n11⟩ := cd
  dsimp only at hdt
  subst hdt
  unfold storeInOwnDict ownDictForStores
  repeat (first | with_reducible refine HandSPX.store_in_new ?_ ?_ | with_reducible refine wpAny_loadPart_at hx ?_ | with_reducible refine lc.at ?_ | wp_step)
  · exact ⟨_, #[], _, (Heap.get?_update_ne _ _ _ _ far.symm).trans (Heap.get?_push_at rfl rfl), rfl, fun e he => absurd he (by simp), fun _ => rfl⟩
  · intro h' tk' nn' sb
    have hx1 : (hp.push { cls := .type "dict", data := .dict #[] }).get? x = some { cls := .ref C, data := .fields fv } := Heap.get?_push_of_some _ hx
    exact go h' tk' hp.objs.size (fun c o hc ho => (sb.2 c (Nat.ne_of_lt (Heap.lt_size ho))).trans ((Heap.get?_update_ne _ _ _ _ hc).trans (Heap.get?_push_of_some _ ho))) (Nat.le_refl _) far.symm
      ((sb.2 x far).trans (Heap.get?_update_self _ hx1 rfl)) nn'
end
/-- what the written part says of an error's class over the base B -/
structure OexG (B : String) (tl : List Value) (K : PySem.W.Frag) (C : Addr) : Prop where
  base : BaseE B tl
  cls : ∃ nm q N bs bm sn sub ab col dd k0 k1 k2 k3 k5, K.lookup C = some (excClassObj nm q C N bs bm true sn sub ab col dd k0 k1 k2 k3 k5 (B ++ ".__new__")) ∧ refsB tl bm = true
  sa : PySem.W.findIn K (.ref C) "__setattr__" = some (some (.builtin "object.__setattr__"))
  exC : PySem.W.subIn K (.ref C) (.type "BaseException") = some true
  tyC : PySem.W.typeIn K (.ref C) = some (.type "type")
  kC : PySem.W.keepIn K (.ref C) = true
section
variable {X : Cx} {pins : List (Addr × Obj)} {σ : L2.St} {H : Hp} {s : Shared} {a C dx : Addr} {f : Str} {y : V} {u : Value} {Q : Unit → Shared → Prop} {E : Value → Shared → Prop} {A : Around} {B : String} {tl : List Value}
/-- self.f = y, the first one -/
theorem field_new (T : OexG B tl X.K C) (I : Inv X pins σ H s) (e : H a = some (exo a C none)) (no : PySem.W.findIn X.K (.ref C) f = some none) (ry : RelV y u)
    (go : ∀ dx s', H dx = none → dx ≠ a → Inv X pins σ (upd (upd H dx (exd dx [(f, y)])) a (exo a C (some dx))) s' → Q () s') : wpAny (model X.prog X.w) A (setAttr (.ref a) f u) Q E s := by
  obtain ⟨nm, q, N, bs, bm, sn, sub, ab, col, dd, k0, k1, k2, k3, k5, hC, mr⟩ := T.cls
  have hcl : PySem.W.clsIn X.K C = some { name := nm, bases := bs, mro := .ref C :: bm, ns := N, qualname := q, hasDict := true, slotNames := sn, subclasses := sub, abstract := ab, collection := col, hasDel := false } := by
    unfold PySem.W.clsIn
    rw [hC] <;> rfl
  obtain ⟨t1, at1⟩ := exo_at I.hok e
  obtain ⟨hp, g, dr, tk, os⟩ := s
  refine PySem.W.set_plain I.kIn (ox := { cls := .ref C, dict := none, data := .fields #[.ref t1, .none, .none, .none, .bool false, .none] }) (od := none) ⟨at1, rfl, rfl, trivial⟩ T.sa ?_
  refine first_field T.base I.kIn at1 hcl (show refsB tl (.ref C :: bm) = true from mr) rfl no (fun h' tk' dx k dn dne hx hn => ?_)
  have free : H dx = none := I.hok.fresh dn
  have far : ∀ {b : Addr} {o : Obj}, hp.get? b = some o → b ≠ dx := fun {b o} q => Nat.ne_of_lt (Nat.lt_of_lt_of_le (Heap.lt_size q) dn)
  have na : ∀ {b : Addr}, H b = none → b ≠ a := fun {b} n z => by
    rw [z, e] at n
    cases n
  have at2 : ∀ {b : Addr} {o : HO}, H b = some o → b ≠ a → upd (upd H dx (exd dx [(f, y)])) a (exo a C (some dx)) b = some o := fun {b o} q n => by
    rw [upd_ne n, upd_ne (ne_of_none q free)]
    exact q
  have U : Un X.fs [] H (upd (upd H dx (exd dx [(f, y)])) a (exo a C (some dx))) hp h' := {
    keep := fun b o q n _ _ => k b o (na n) q
    slot := fun b o q n _ _ => ⟨o.slots, k b o (na n) q⟩
    free := fun b o q n _ => (upd_ne (na n)).trans ((upd_ne (far q)).trans n)
    there := fun b o q _ => by
      by_cases hb : b = a
      · rw [hb]
        exact ⟨_, hx⟩
      · exact ⟨o, k b o hb q⟩
    tups := fun b xs q => at2 q (at_ne e q exo_tup)
    frzs := fun b o v q => at2 q (at_ne e q exo_frz)
    tbls := fun b ps q => ⟨#[], by rw [at2 q (at_ne e q exo_tbl)]; simp⟩ }
  refine go dx _ free dne (I.un (t' := tk') U fun b o q => ?_)
  by_cases hb : b = a
  · subst hb
    rw [upd_same] at q
    cases q
    exact exo_ok hx
  · rw [upd_ne hb] at q
    by_cases hd : b = dx
    · subst hd
      rw [upd_same] at q
      cases q
      exact exd_ok hn (relO_put (fs := []) ry fun g => True.intro)
    · rw [upd_ne hd] at q
      refine (I.hok b o q).stay (fun c v hc z => k c v ?_ z) (fun c hc => at2 hc (at_ne e hc exo_own)) (fun c xs hc => at2 hc (at_ne e hc exo_tup))
      rcases hc with hc | hc
      · rw [hc]
        exact hb
      · exact at_ne e hc exo_own
end
/-- self.f = e, the first field of an error -/
def tFst (B : String) (tl : List Value) (K : PySem.W.Frag) (f : Str) (to te : TE) : TS := fun D σ H => te σ H fun y H1 => to σ H1 fun x H2 => ∃ a C : Addr, x = .ref a ∧ OexG B tl K C ∧ PySem.W.findIn K (.ref C) f = some none ∧
  H2 a = some (exo a C none) ∧ ∀ dx, H2 dx = none → dx ≠ a → D.nx σ (upd (upd H2 dx (exd dx [(f, y)])) a (exo a C (some dx)))
section
variable {X : Cx} {o e : Expr} {es : List Expr} {to te : TE} {ta : TA} {f : Str} {p p' pos : Pos} {B : String} {tl : List Value}
theorem ps_fst (ho : PE X o to) (he : PE X e te) (hs : swapsWith e (some (.Attribute o f p')) pos.line X.env = pure false := by rfl) : PS X (.Assign [.Attribute o f p'] e pos) (tFst B tl X.K f to te) := by
  refine ⟨fun pins s σ H D I h => plainObj_wpAny_Assign_Attribute (thn (he.run pins s σ H _ I h) fun v s1 ⟨y, H1, I1, r1, q1⟩ => thn (ho.run pins s1 σ H1 _ I1 q1) fun u s2 ⟨x, H2, I2, r2, a, C, ex, T, no, ea, q⟩ => ?_) hs⟩
  subst ex
  obtain rfl : u = Value.ref a := r2
  exact field_new T I2 ea no r1 fun dx s' n ne J => ⟨σ, _, J, q dx n ne⟩
/-- C(e, ..) for a raise, C's own __init__ keeping sp -/
theorem pmk_oexG {CX : CXT} {x : Str} {C fI : Addr} {k : Nat} {fd : FuncData} {ps : List Str} {sp : Sp} {ds : List Value} {dvs : List V} (T : OexG B tl X.K C) (iC : PySem.W.findIn X.K (.ref C) "__init__" = some (some (.ref fI))) (tI : PySem.W.typeIn X.K (.ref fI) = some (.type "function"))
    (F1 : FnOk X.prog X.w X.K X.mg X.base CX k fI fd ps sp) (hr : Room (k + 1) X.A) (hb : Binds X.K fd ps ds) (hd : Vals dvs ds) (hx : Passes CX X (fun _ _ _ => False)) (hg : Gl X x) (hm : X.mg x = some (.ref C)) (ha : PA X (e :: es) ta)
    (hdb : (x == ("__debug__" : Str)) = false := by decide) (he : starEach (e :: es) X.env = (false, eval e X.env) :: starEach es X.env := by rfl) (hpl : (backTo pos (starEach es X.env)).any (·.1) = false := by rfl) :
    PMk X (.Call (.Name x p) (e :: es) [] pos) (tMkO C sp dvs ta) := by
  intro pins s σ H Q I h
  obtain ⟨nm, q, N, bs, bm, sn, sub, ab, col, dd, k0, k1, k2, k3, k5, hC, mr⟩ := T.cls
  refine wpAny_Call_Name_kw (ld_glob I hg hm (PySem.W.callWith_K (h₀ := X.base) I.ok.mod.kin T.kC (thn (ha.run pos pins s σ H _ I h) fun us s1 ⟨vs, H1, I1, r1, hz, q1⟩ => ⟨I1.kIn, ?_⟩) he hpl) hdb)
  show wpAny _ _ (call (.ref C) us) _ _ _
  obtain ⟨hp, g, dr, tk, os⟩ := s1
  generalize en : hp.objs.size + 1 = n
  have sz : hp.objs.size ≤ n := by omega
  have hq := q1 n (I1.hok.fresh sz)
  generalize ehp : (hp.push (PySem.W.kdv_tup us)).push (PySem.HandSPX.excO C hp.objs.size) = hp2
  have kk : ∀ b o, hp.get? b = some o → hp2.get? b = some o := fun b o e => by
    rw [← ehp]
    exact Heap.get?_push_of_some _ (Heap.get?_push_of_some _ e)
  have hget : hp2.get? n = some (PySem.HandSPX.excO C hp.objs.size) := by
    rw [← ehp, ← en]
    heap_get
  have I2 : Inv X pins σ (upd H1 n (exo n C none)) ⟨hp2, g, dr, tk, os⟩ := I1.laid (t' := tk) kk sz (exo_ok hget)
  have r2 : Vals (V.ref n :: (vs ++ dvs)) (Value.ref n :: (us ++ ds)) := .cons rfl (r1.append hd)
  have hl : (Value.ref n :: us ++ ds).length = ps.length := r2.length.symm.trans (F1.len _ _ _ _ hq)
  have few : us.length ≤ sizeLine := by
    rw [← Paired.length r1, sizeLine_eq]
    omega
  refine wpAny_call (PySem.HandSPX.call_own T.base.ex (fun Y => T.base.has Y bm mr) (I1.kIn _ _ hC) (PySem.W.looks_findIn I1.kIn iC) (fun self => PySem.W.bind_fn I1.kIn self tI) few ?_)
  rw [en, ehp]
  refine codeAny_mono (F1.run _ X.stack _ _ ⟨Value.ref n :: us, []⟩ (Value.ref n :: (us ++ ds)) _ _ (fun _ _ _ => False) (hr.make C us []) (I2.env0.make C us []) (hb _ (Value.ref n :: us) I2.kIn hl) r2 hq) fun r s' hq' => ?_
  match r, hq' with
  | .error er, hq' => exact hx pins σ _ _ er s' I2 hq'
  | .ok (.ret u), hq' =>
    obtain ⟨v, H2, os2, bare2, un2, hok2, rv, ev, d, fs, ea, ed, hd1, q2⟩ := hq'
    subst ev
    obtain ⟨h2, g2, d2, t2, os'⟩ := s'
    exact ⟨rv, mk_end (raises_own T.exC T.tyC) I1 sz kk un2 hok2 os2 bare2 ea ed hd1 q2⟩
end
end Ex

set_option Elab.async false
set_option linter.all false
set_option maxRecDepth 100000
set_option maxHeartbeats 4000000
/-! Own layer: several clauses 'except x as n' of one try, all with the same name n. -/
namespace Ex
open PySem PySem.Spec PySem.Calls PyProof.Rows L2 Gu
abbrev Suites : Type := List (Value × (Addr → Value → Option Addr → TS))
/-- what the clauses wish of an error of the body, one after the other: slot i is n's -/
def wAsAll (K : PySem.W.Frag) (i : Nat) (Wout : WX) (D : Ends) : Suites → WX
  | [] => Wout
  | (c, ts) :: r => wAs K c i ts (wAsAll K i Wout D r) D
inductive HdAs (X : Cx) (n : Str) : List ExceptHandler → Suites → Prop
  | nil : HdAs X n [] []
  | cons {x : Str} {c : Value} {ts : Addr → Value → Option Addr → TS} {b0 : Stmt} {su : List Stmt} {np p2 : Pos} {hs : List ExceptHandler} {l : Suites} (hc : Names X x c)
      (hsu : ∀ (a : Addr) (oe : Obj) (cls : Value) (d : Option Addr) (pn : List (Addr × Obj)), Zc cls d oe → (∃ vs, oe.data = .fields vs) → PSs (X.suite a ((a, oe) :: pn)) (b0 :: su) (ts a cls d)) (r : HdAs X n hs l) :
      HdAs X n (.ExceptHandler (some (.Name x np)) (some n) (b0 :: su) p2 :: hs) ((c, ts) :: l)
section
variable {X : Cx} {n : Str} {i : Nat} {body : List Stmt} {h0 : ExceptHandler} {hds : List ExceptHandler} {l : Suites} {pos : Pos} {tb : WX → TS} {Wout : WX}
theorem ps_try_asAll (hs : X.stack = X.env :: X.outer) (hf : X.env.frame = some X.env.locals) (hN : X.N.Nodup) (hi : X.N[i]? = some n) (hln : X.env.kindOf n = some .local) (tk : Takes X Wout)
    (hb : ∀ (W : WX) (pn : List (Addr × Obj)) (xe : Value → Shared → Prop), Takes (X.tr pn xe) W → PassesOwn (model X.prog X.w) X.A X.env xe → PSs (X.tr pn xe) body (tb W))
    (hh : HdAs X n (h0 :: hds) l) : PS X (.Try body (h0 :: hds) [] [] pos) (fun D σ H => tb (wAsAll X.K i Wout D l) D σ H) := by
  refine ⟨fun pins s σ H D I h => ?_⟩
  have ok := I.ok
  have fr : X.A.frames = some (X.env :: X.outer) := by
    rw [ok.frames, hs]
  refine wpAny_Try_except (wpAny_mono ((hb (wAsAll X.K i Wout D l) (X.pn ++ pins) (fun e s1 => wpAny (model X.prog X.w) X.A (noteFrame e X.env) (fun _ s2 => wpAny (model X.prog X.w) X.A (setFlight e none) (fun _ s3 =>
    wpAny (model X.prog X.w) X.A (handleBy e X.env (h0 :: hds)) (SP X pins D) X.xe s3) X.xe s2) X.xe s1) (fun u s' xx => ?_) PassesOwn.looking).run [] s σ H D (I.toTry _) h) (fun f s1 hsp => ?_) (fun e s1 he => he))
  · obtain ⟨a, B, sI, pins', σ1, H1, cls, d, rfl, J0, nb, up, sky, na, os, ag, w⟩ := xx
    have J : Inv X pins σ1 H1 sI := J0.ofTry ok
    rw [hs] at sky
    show wpAny (model X.prog X.w) X.A (noteFrame (.ref a) X.env) _ _ _
    refine Sky.land Zc.steady fr hf sky fun h3 fl up3 => ?_
    have J3 : Inv X pins σ1 H1 { s' with heap := h3 } := J.landed nb fl.1 (up.trans up3) os ag
    obtain ⟨o3, v3, he3, hz3, hd3⟩ := fl.there
    have nfr : a ∉ frs (X.env :: X.outer) := fun hm => by
      obtain ⟨_, o', e', hnf⟩ := fl.2.2.1.mem hm
      rw [he3] at e'
      cases e'
      exact hnf _ hd3
    have nL : a ≠ X.env.locals := fun z => nfr (List.mem_filterMap.mpr ⟨X.env, List.mem_cons_self, by rw [hf, z]⟩)
    have nF : a ∉ X.fs := fun hm => by
      obtain ⟨e, he, q⟩ := List.mem_filterMap.mp hm
      exact nfr (List.mem_filterMap.mpr ⟨e, List.mem_cons_of_mem _ he, q⟩)
    have S3 := J3.suite he3 hd3 na nL nF
    have go : ∀ {hs2 : List ExceptHandler} {l2 : Suites}, HdAs X n hs2 l2 → wAsAll X.K i Wout D l2 cls d σ1 H1 → wpAny (model X.prog X.w) X.A (handleBy (.ref a) X.env hs2) (SP X pins D) X.xe { s' with heap := h3 } := by
      intro hs2 l2 hk
      induction hk with
      | nil =>
        intro w
        refine wpAny_handleBy_nil ?_
        obtain ⟨_, _, _, oe, vs, Tb, oT, tsT, he, hz, hd, h1, hr⟩ := id fl
        unfold PySem.passOn
        refine wpAny_bind (wpAny_field he hd h1 ?_)
        rw [if_neg (show ¬ ((Value.ref Tb == Value.none) = true) from by simp)]
        have fin : wpAny (model X.prog X.w) X.A (setFlight (.ref a) X.env.frame) (fun _ s4 => wpAny (model X.prog X.w) X.A (throw (.ref a) : Sem Flow) (SP X pins D) X.xe s4) X.xe { s' with heap := h3 } := by
          rw [hf]
          exact HandSPX.setFlight_upZ fl fun h4 hh4 up4 => wpAny_throw (tk _ _ ⟨a, B, sI, pins, σ1, H1, cls, d, rfl, J, nb, (up.trans up3).trans up4, .inr (.inr (by rw [hs]; exact hh4)), na, os, ag, w⟩)
        first
          | exact wpAny_bind (wpAny_pure (wpAny_bind fin))
          | exact wpAny_bind fin
      | @cons x c ts b0 su np p2 hs3 l3 hc hsu r ih =>
        intro w
        obtain ⟨b, hb1, yes, no⟩ := w
        refine wpAny_handleBy_cons (codeAny_handlers_test ?_) (by intro q; cases q)
        have lt : PySem.W.Looks (model X.prog X.w) h3 (typeOf (.ref a)) cls := fun A Q E s k q => wpAny_typeOf_ref (k _ _ he3) (by rw [hz3.1]; exact q)
        have lm := PySem.W.exm_one (M := model X.prog X.w) J3.kIn lt hb1
        have name : ∀ {Q : Value → Shared → Prop} {E : Value → Shared → Prop}, Q c { s' with heap := h3 } → wpAny (model X.prog X.w) (X.A.mark (some (.ref a))) (eval (.Name x np) X.env) Q E { s' with heap := h3 } := fun {Q E} q => by
          obtain ⟨hg, hdbg, hm | ⟨hm, hv, hnn⟩⟩ := hc
          · exact ld_glob (X := X.suite a ((a, o3) :: (X.pn ++ pins))) S3 hg hm q hdbg
          · exact ld_blt (X := X.suite a ((a, o3) :: (X.pn ++ pins))) S3 hg hm hv q hnn hdbg
        refine name (lm.here ?_)
        cases b with
        | false =>
          show wpAny _ X.A (handleBy (.ref a) X.env hs3) _ _ _
          exact ih (no rfl)
        | true =>
          refine codeAny_handlers_suite_as (HandSPX.lands_againZ fl fun h4 fl4 up4 => ?_)
          have J4 : Inv X pins σ1 H1 { s' with heap := h4 } := J.landed nb fl4.1 ((up.trans up3).trans up4) os ag
          obtain ⟨o4, v4, he4, hz4, hd4⟩ := fl4.there
          have S4 := J4.suite he4 hd4 na nL nF
          refine store_ok (X := X.suite a ((a, o4) :: (X.pn ++ pins))) (v := .ref a) S4 hN hi (.inl hln) rfl (fun s5 S5 => ?_) (.inr hln)
          refine wpAny_mono ((hsu a o4 cls d (X.pn ++ pins) hz4 ⟨_, hd4⟩).run [] s5 _ H1 _ S5 (yes rfl a na)) (fun f s6 hsp => ?_) (fun _ _ z => False.elim z)
          have out : ∀ {σ6 : L2.St} {H6 : Hp} {Q : Shared → Prop}, Inv (X.suite a ((a, o4) :: (X.pn ++ pins))) [] σ6 H6 s6 → (∀ s7, Inv X pins (σ6.set i none) H6 s7 → Q s7) →
              wpAny (model X.prog X.w) X.A (do bindName X.env n .none; unbindBehindTheSuite X.env n p2) (fun _ s7 => Q s7) X.xe s6 := fun {σ6 H6 Q} S6 hq => gone_ok (S6.unsuite ok) hN hi hln hq
          match f, hsp with
          | .next, ⟨σ6, H6, S6, q6⟩ => exact out S6 fun s7 J7 => ⟨_, _, J7, q6⟩
          | .brk, ⟨σ6, H6, S6, q6⟩ => exact out S6 fun s7 J7 => ⟨_, _, J7, q6⟩
          | .cont, ⟨σ6, H6, S6, q6⟩ => exact out S6 fun s7 J7 => ⟨_, _, J7, q6⟩
          | .ret u, ⟨v6, σ6, H6, S6, r6, q6⟩ => exact out S6 fun s7 J7 => ⟨_, _, _, J7, r6, q6⟩
    exact go hh w
  · match f, hsp with
    | .next, ⟨σ1, H1, J1, q⟩ => exact wpAny_execs_nil ⟨σ1, H1, J1.ofTry ok, q⟩
    | .brk, ⟨σ1, H1, J1, q⟩ => exact ⟨σ1, H1, J1.ofTry ok, q⟩
    | .cont, ⟨σ1, H1, J1, q⟩ => exact ⟨σ1, H1, J1.ofTry ok, q⟩
    | .ret u, ⟨v, σ1, H1, J1, r, q⟩ => exact ⟨v, σ1, H1, J1.ofTry ok, r, q⟩
end
end Ex

set_option Elab.async false
set_option linter.all false
set_option maxRecDepth 100000
set_option maxHeartbeats 4000000
/-! Own layer: defs that make lambdas; the end of a law whose defs write the tables of their code objects, where no repr is under way. -/
namespace Gu
open PySem PySem.Spec PyProof.Rows L2
section
variable {P : Program} {w : World} {K : PySem.W.Frag} {mg : Str → Option Value} {base : Heap} {CX : CXT} {k : Nat} {f : Addr} {fd : FuncData} {ps : List Str} {sp : Sp}
/-- a def by its body, its code object known -/
theorem okGc {x qual : Str} {params : Arguments} {body : List Stmt} {scope : Scope} {dvs : List V} {kws : List (Str × V)} {N : List Str}
    (F : FunD K x qual params body scope dvs kws f fd) (S : FnScope N ps scope) (len : ∀ vs H Q E, sp vs H Q E → vs.length = ps.length)
    (hbody : ∀ (A : Around) (outer : List Env) (s : Shared) (H : Hp) (vs : List V) (Q : VK) (E : XK),
      RoomG k (A.deeper (envOfC qual scope s.heap.objs.size f fd.code)) → sp vs H Q E →
      ∃ t, PSs (cxOf CX P w K mg base N qual scope f fd.code A outer s H E) body t ∧ t { nx := fun _ H' => Q .non H', rt := Q } (start N vs) H) :
    FnG P w K mg base CX (k + 1) f fd ps sp := by
  obtain ⟨oc, od, dV, kV, doc, pm, an, cdv, ct, osl, rfl, lk, hcd, _, _⟩ := F.ex
  refine ⟨len, fun A outer s H args us vs Q E hr e0 hb rv hsp => ?_⟩
  have KX : K.In s.heap := e0.mod.kin.keeps fun b o e => (e0.bs b o e).1
  have kinds : ∀ y ∈ ps.zip us, scope.names.lookup y.1 = some .local ∨
      (scope.names.lookup y.1 = some .cell ∧ ((cellsFrom (s.heap.objs.size + 1) scope.names []).lookup y.1).isSome = true) := fun ⟨n, v⟩ hy => by
    rcases S.par n (List.of_mem_zip hy).1 with q | q
    · exact .inl q
    · exact .inr ⟨q, PySem.W.cellsFrom_some _ _ _ (.inl q)⟩
  refine codeAny_call_function hr.r.depth (KX _ _ lk) rfl S.co S.gen rfl (PySem.W.codeRec_of KX hcd) (hb _ _ _ _ ?_)
  refine wpAny_newFunctionEnv_cells S.kind kinds fun env he s1 x => ?_
  subst he
  refine ⟨(e0.mod.nolimit.keeps fun b o e => (e0.bs b o e).1).keeps x.toInCall.keep, codeAny_func ?_⟩
  obtain ⟨t, ht, hq⟩ := hbody A outer s H vs Q E (hr.down _) hsp
  have I := inv_start (CX := CX) (E := E) (N := N) (qual := qual) (f := f) (cd := cdv) S hr.r.hd e0 (len _ _ _ _ hsp) rv x
  refine wpAny_mono (ht.run [] s1 (start N vs) H _ I hq) (fun fl s' hs => ?_) fun e s' hs => hs
  match fl, hs with
  | .ret u, ⟨v, σ', H', J, rv', q⟩ => exact ⟨v, H', J.os, J.bare, J.base, J.hok, rv', q⟩
  | .next, ⟨σ', H', J, q⟩ => exact ⟨V.non, H', J.os, J.bare, J.base, J.hok, rfl, q⟩
  | .brk, ⟨_, _, z⟩ => exact z.2.elim
  | .cont, ⟨_, _, z⟩ => exact z.2.elim
end
/-- what stands in the heap before the law's call: the script, and the tables of the code objects cs -/
structure Tab0 (cs : List (Addr × Addr)) (H : Hp) : Prop where
  at_ : ∀ p ∈ cs, H p.2 = some (.tbl #[])
theorem law_goT {P : Program} {w : World} {K : PySem.W.Frag} {mg mb : Str → Option Value} {CX : CXT} {k : Nat} {fa a : Addr} {cs : List (Addr × Addr)} {fd : FuncData} {x : Str} {sp : Sp} {s₁ : Shared} {vs : List Value} {H : Hp}
    (KX : K.In s₁.heap) (hns : s₁.heap.Ns mainGlobals mg) (hb : s₁.heap.Ns builtinsNs mb) (hbb : ∀ x : Str, x ≠ "__name__" → mb x = bootBuiltins x) (hlim : s₁.heap.NoLimit) (hg : s₁.gens = #[])
    (tab : ∀ p ∈ cs, s₁.heap.get? p.2 = some { cls := .none, data := .fields #[] }) (cod : ∀ p ∈ cs, PySem.W.CodeHd s₁.heap p.1 p.2)
    (hbm : ∃ (bm : Addr) (ob : Obj), mg "__builtins__" = some (.ref bm) ∧ bm ≠ builtinsNs ∧ s₁.heap.get? bm = some ob ∧ ob.cls = .type "module" ∧ ob.dict = some builtinsNs ∧ ob.data = .plain)
    (ha : s₁.heap.get? a = some { cls := .type "list", data := .seq vs.toArray }) (hr : RoomG k callerA)
    (F : ∀ base : Heap, K.In base → base.Ns mainGlobals mg → (∀ p ∈ cs, LamX.TabB base mg p.1 p.2) → FnG P w K mg base CX k fa fd [x] sp) (hbind : ∀ (s : Shared) (u : Value), BindsTo s fd ⟨[u], []⟩ [(x, u)])
    (hsp : sp [.ref a] H (fun v _ => v = .bl true) fun _ _ _ => False) (hCX : ∀ e s', CX [] H s₁ (fun _ _ _ => False) e s' → False)
    (hT : Tab0 cs H) (hO : ∀ b, H b = none ∨ b ∈ cs.map (·.2) ∨ ∃ o xs, H b = some (.frz o (.lst xs))) (hok : HOk P w H s₁.heap) (hA : ∀ b, H b ≠ none → b = a ∨ b ∈ cs.map (·.2)) (hK : ∀ b, H b ≠ none → K.lookup b = none) :
    codeAny (model P w) callerA (.call (.ref fa) ⟨[.ref a], []⟩) (fun r s' => r = .ok (.ret (.bool true)) ∧ OldK s₁.heap s'.heap ∧ s'.os = s₁.os ∧ AllBare s'.gens) s₁ := by
  have isT : ∀ b : Addr, b ∈ cs.map (·.2) → s₁.heap.get? b = some { cls := .none, data := .fields #[] } := fun b hb => by
    obtain ⟨p, hp, e⟩ := List.mem_map.mp hb
    rw [← e]
    exact tab p hp
  have un : ∀ {b : Addr} {o : Obj}, s₁.heap.get? b = some o → (∀ zs n, o.data ≠ .seq zs n) → o.data ≠ .fields #[] → H b = none := fun {b o} e h1 h2 => by
    cases q : H b with
    | none => rfl
    | some u =>
      rcases hA b (by rw [q]; exact fun z => nomatch z) with z | z
      · rw [z, ha] at e
        exact (h1 _ _ (congrArg Obj.data (Option.some.inj e)).symm).elim
      · rw [isT b z] at e
        exact (h2 (congrArg Obj.data (Option.some.inj e)).symm).elim
  have nsK : ∀ {b : Addr} {m : Str → Option Value}, s₁.heap.Ns b m → (hidT s₁.heap H).Ns b m := fun {b m} ⟨o, es, ep, e, d, r⟩ =>
    ⟨o, es, ep, hidT_get e (un e (fun zs n z => by rw [d] at z; cases z) (fun z => by rw [d] at z; cases z)), d, r⟩
  have kb : K.In (hidT s₁.heap H) := fun b o e => hidT_get (KX b o e) (by
    cases q : H b with
    | none => rfl
    | some u =>
      rw [hK b (by rw [q]; exact fun z => nomatch z)] at e
      cases e)
  obtain ⟨mc, l1, l2⟩ := hlim
  have tb : ∀ p ∈ cs, LamX.TabB (hidT s₁.heap H) mg p.1 p.2 := fun p hp => by
    refine ⟨?_, ?_, fun z => ?_⟩
    · obtain ⟨o, us, file, tf, flags, tg, inF, text, tt, e1, r1, r2, r3, r4⟩ := cod p hp
      refine ⟨o, us, file, tf, flags, tg, inF, text, tt, hidT_get e1 (un e1 (fun zs n z => by rw [r2] at z; cases z) fun z => ?_), r1, r2, r3, r4⟩
      rw [r2] at z
      cases z
      simp at r3
    · obtain ⟨bm, ob, b1, b2, b3, b4, b5, b6⟩ := hbm
      refine ⟨bm, ob, b1, b2, fun q => ?_, fun q => ?_, hidT_get b3 (un b3 (fun zs n z => by rw [b6] at z; cases z) fun z => by rw [b6] at z; cases z), b4, b5, b6⟩
      · obtain ⟨o, es, ep, e, hd, _⟩ := hns
        rw [q, e] at b3
        cases b3
        rw [hd] at b6
        cases b6
      · rw [q, tab p hp] at b3
        cases b3
        cases b6
    · obtain ⟨o, es, ep, e, hd, _⟩ := hns
      rw [z, tab p hp] at e
      cases e
      cases hd
  have e0 : Env0 P w K mg (hidT s₁.heap H) callerA [] s₁ H :=
    ⟨rfl, ⟨kb, nsK hns, ⟨mb, nsK hb, hbb⟩, ⟨mc, nsK l1, l2⟩⟩, fun b o e => of_hidT e, Nat.le_of_eq (hidT_size _ _), trivial, fun b hb => absurd (show b ∈ ([] : List Addr) from hb) List.not_mem_nil, hok, .of_eq hg⟩
  refine codeAny_mono ((F _ kb (nsK hns) tb).run callerA [] s₁ H ⟨[.ref a], []⟩ [.ref a] [.ref a] _ _ hr e0 (hbind s₁ (.ref a)) (.cons rfl .nil) hsp) fun r s' h => ?_
  match r, h with
  | .error e, h => exact (hCX e s' h).elim
  | .ok (.ret u), h =>
    obtain ⟨v, H', os, bare, un', hok', r', q⟩ := h
    obtain rfl : v = .bl true := q
    obtain rfl : u = Value.bool true := r'
    have key : ∀ b o, b ∉ cs.map (·.2) → s₁.heap.get? b = some o → s'.heap.get? b = some o := fun b o nb e => by
      rcases hO b with z | z | ⟨ob, xs, z⟩
      · exact un'.keep b o e z (fun z => absurd (show b ∈ ([] : List Addr) from z) List.not_mem_nil) (fun z => absurd (show b ∈ ([] : List Addr) from z) List.not_mem_nil)
      · exact absurd z nb
      · obtain ⟨e1, _⟩ := hok b _ z
        obtain ⟨e2, _⟩ := hok' b _ (un'.frzs b ob _ z)
        rw [e] at e1
        rw [Option.some.inj e1]
        exact e2
    have more : ∀ p ∈ cs, ∃ m : Array Value, s'.heap.get? p.2 = some { cls := .none, data := .fields m } := fun p hp => by
      obtain ⟨m, z⟩ := un'.tbls p.2 #[] (hT.at_ p hp)
      exact ⟨_, hok' p.2 _ z⟩
    refine ⟨rfl, ⟨fun b o e => ?_, fun b o e => ?_⟩, os, bare⟩
    · by_cases hb : b ∈ cs.map (·.2)
      · obtain ⟨p, hp, ep⟩ := List.mem_map.mp hb
        obtain ⟨m, hm⟩ := more p hp
        rw [← ep] at e ⊢
        rw [tab p hp] at e
        cases e
        exact .inr (.inl ⟨((cod p hp).tab (tab p hp)).isCodeTable, rfl, #[], m, rfl, by rw [Array.empty_append]; exact hm⟩)
      · exact .inl (key b o hb e)
    · by_cases hb : b ∈ cs.map (·.2)
      · obtain ⟨p, hp, ep⟩ := List.mem_map.mp hb
        obtain ⟨m, hm⟩ := more p hp
        rw [← ep]
        exact ⟨_, hm⟩
      · exact ⟨o, key b o hb e⟩
theorem law_callTG {P : Program} {w : World} {K : PySem.W.Frag} {mg mb : Str → Option Value} {CX : CXT} {k : Nat} {fa a : Addr} {cs : List (Addr × Addr)} {fd : FuncData} {x : Str} {sp : Sp} {s₁ : Shared} {vs : List Value} {ns : List Int}
    (KX : K.In s₁.heap) (hns : s₁.heap.Ns mainGlobals mg) (hb : s₁.heap.Ns builtinsNs mb) (hbb : ∀ x : Str, x ≠ "__name__" → mb x = bootBuiltins x) (hlim : s₁.heap.NoLimit) (hg : s₁.gens = #[])
    (tab : ∀ p ∈ cs, s₁.heap.get? p.2 = some { cls := .none, data := .fields #[] }) (nT : ∀ p ∈ cs, K.lookup p.2 = none) (cod : ∀ p ∈ cs, PySem.W.CodeHd s₁.heap p.1 p.2)
    (hbm : ∃ (bm : Addr) (ob : Obj), mg "__builtins__" = some (.ref bm) ∧ bm ≠ builtinsNs ∧ s₁.heap.get? bm = some ob ∧ ob.cls = .type "module" ∧ ob.dict = some builtinsNs ∧ ob.data = .plain)
    (ha : s₁.heap.get? a = some { cls := .type "list", data := .seq vs.toArray }) (hi : IntsAre vs ns) (hl : ns.length ≤ sizeLine) (hr : RoomG k callerA)
    (F : ∀ base : Heap, K.In base → base.Ns mainGlobals mg → (∀ p ∈ cs, LamX.TabB base mg p.1 p.2) → FnG P w K mg base CX k fa fd [x] sp) (hbind : ∀ (s : Shared) (u : Value), BindsTo s fd ⟨[u], []⟩ [(x, u)])
    (hsp : ∀ H : Hp, Tab0 cs H → SqL K H a (ns.map V.int) → sp [.ref a] H (fun v _ => v = .bl true) fun _ _ _ => False) (hCX : ∀ H e s', CX [] H s₁ (fun _ _ _ => False) e s' → False) :
    codeAny (model P w) callerA (.call (.ref fa) ⟨[.ref a], []⟩) (fun r s' => r = .ok (.ret (.bool true)) ∧ OldK s₁.heap s'.heap ∧ s'.os = s₁.os ∧ AllBare s'.gens) s₁ := by
  have rv := vals_ints hi
  have lenV := hi.length
  have isT : ∀ b : Addr, b ∈ cs.map (·.2) → s₁.heap.get? b = some { cls := .none, data := .fields #[] } ∧ K.lookup b = none := fun b hb => by
    obtain ⟨p, hp, e⟩ := List.mem_map.mp hb
    rw [← e]
    exact ⟨tab p hp, nT p hp⟩
  have aT : a ∉ cs.map (·.2) := fun z => by
    have q := (isT a z).1
    rw [ha] at q
    cases congrArg Obj.data (Option.some.inj q)
  have memT : ∀ p ∈ cs, p.2 ∈ cs.map (·.2) := fun p hp => List.mem_map.mpr ⟨p, hp, rfl⟩
  let H0 : Option HO → Hp := fun z b => if b = a then z else if b ∈ cs.map (·.2) then some (.tbl #[]) else none
  have h_a : ∀ z, H0 z a = z := fun z => if_pos rfl
  have h_t : ∀ z b, b ∈ cs.map (·.2) → H0 z b = some (.tbl #[]) := fun z b hb => (if_neg fun e => aT (by rw [← e]; exact hb)).trans (if_pos hb)
  have h_n : ∀ z b, b ≠ a → b ∉ cs.map (·.2) → H0 z b = none := fun z b n hb => (if_neg n).trans (if_neg hb)
  have t0 : ∀ z, Tab0 cs (H0 z) := fun z => ⟨fun p hp => h_t z _ (memT p hp)⟩
  have two : ∀ z b, H0 z b ≠ none → b = a ∨ b ∈ cs.map (·.2) := fun z b h => by
    by_cases h1 : b = a
    · exact .inl h1
    · by_cases h2 : b ∈ cs.map (·.2)
      · exact .inr h2
      · exact (h (h_n z b h1 h2)).elim
  have tok : ∀ z b u, b ∈ cs.map (·.2) → H0 z b = some u → ObjOk P w (H0 z) s₁.heap b u := fun z b u hb e => by
    rw [h_t z b hb] at e
    cases e
    exact (isT b hb).1
  cases hk : K.lookup a with
  | some o =>
    have e := (KX a o hk).symm.trans ha
    obtain rfl := Option.some.inj e
    refine law_goT (H := H0 none) KX hns hb hbb hlim hg tab cod hbm ha hr F hbind (hsp _ (t0 _) (.inr ⟨_, vs.toArray, _, hk, rfl, rfl, rfl, by rw [List.size_toArray, lenV]; exact hl, by simpa using rv⟩)) (hCX _) (t0 _) (fun b => ?_) (fun b u z => ?_) (two _) (fun b z => ?_)
    · by_cases h2 : b ∈ cs.map (·.2)
      · exact .inr (.inl h2)
      · by_cases h1 : b = a
        · exact .inl (by rw [h1]; exact h_a none)
        · exact .inl (h_n _ b h1 h2)
    · rcases two _ b (by rw [z]; exact fun y => nomatch y) with h1 | h2
      · rw [h1, h_a] at z
        cases z
      · exact tok _ b u h2 z
    · rcases two _ b z with h1 | h2
      · rw [h1, h_a] at z
        exact (z rfl).elim
      · exact (isT b h2).2
  | none =>
    refine law_goT (H := H0 (some (.frz { cls := .type "list", data := .seq vs.toArray } (.lst (ns.map V.int))))) KX hns hb hbb hlim hg tab cod hbm ha hr F hbind (hsp _ (t0 _) (.inl (.inr ⟨_, h_a _⟩))) (hCX _) (t0 _) (fun b => ?_) (fun b u z => ?_) (two _) (fun b z => ?_)
    · by_cases h2 : b ∈ cs.map (·.2)
      · exact .inr (.inl h2)
      · by_cases h1 : b = a
        · exact .inr (.inr ⟨_, _, by rw [h1]; exact h_a _⟩)
        · exact .inl (h_n _ b h1 h2)
    · rcases two _ b (by rw [z]; exact fun y => nomatch y) with h1 | h2
      · rw [h1, h_a] at z
        obtain rfl := Option.some.inj z
        rw [h1]
        exact ⟨ha, by rw [List.length_map]; exact hl, vs, _, rv, ha⟩
      · exact tok _ b u h2 z
    · rcases two _ b z with h1 | h2
      · rw [h1]
        exact hk
      · exact (isT b h2).2
/-- the end of a law with tables, over a head by facts -/
theorem walkGT {l : PySem.W.OpenLaw} {n k : Nat} {q : Program} {loose : List Str} {XP : (Str → Option Value) → Heap → Prop} {YP : World → Heap → Prop} {d : DefRec} {CX : CXT} {x : Str}
    (hn : l.most = some n) (hn2 : n ≤ sizeLine) (hdf : d.params.defaults = []) (hr : RoomG k callerA)
    (F : ∀ (w : World) (mg : Str → Option Value) (fa : Addr) (h : Heap), YP w h → h.Ns mainGlobals mg → mg d.name = some (.ref fa) →
      ∃ (K : PySem.W.Frag) (fd : FuncData) (sp : Sp) (cs : List (Addr × Addr)), K.In h ∧ (∀ p ∈ cs, h.get? p.2 = some { cls := .none, data := .fields #[] }) ∧ (∀ p ∈ cs, K.lookup p.2 = none) ∧ (∀ p ∈ cs, PySem.W.CodeHd h p.1 p.2) ∧ (∀ (s : Shared) (u : Value), BindsTo s fd ⟨[u], []⟩ [(x, u)]) ∧
        (∀ (H : Hp) (a : Addr) (ns : List Int), ns.length ≤ n → Tab0 cs H → SqL K H a (ns.map V.int) → sp [.ref a] H (fun v _ => v = .bl true) fun _ _ _ => False) ∧
        ∀ base : Heap, K.In base → base.Ns mainGlobals mg → (∀ p ∈ cs, LamX.TabB base mg p.1 p.2) → FnG l.prog w K mg base CX k fa fd [x] sp)
    (hCX : ∀ (H : Hp) (s : Shared) (e : Value) (s' : Shared), CX [] H s (fun _ _ _ => False) e s' → False) :
    PySem.W.WalkO q loose XP YP l.row.toRowW d [] (fun f vs => PySem.call f vs) := by
  refine Att.attach_call hn hdf fun w s₀ s₁ mg mb fa o pm cd doc a vs ns G Y ho hd hcd hmg hobj hints hlen hg => ?_
  obtain ⟨K, fd, sp, cs, KX, h1, h2, h3, hb, hsp, hF⟩ := F w mg fa _ Y G.T.g hmg
  exact law_callTG KX G.T.g G.T.b G.T.builtins G.T.nolimit hg h1 h2 h3 G.T.bmain hobj hints (Nat.le_trans hlen hn2) hr hF hb (fun H hT hS => hsp H a ns hlen hT hS) fun H e s' => hCX H s₁ e s'
end Gu

set_option Elab.async false
set_option linter.all false
set_option maxRecDepth 100000
set_option maxHeartbeats 4000000
/-! Own layer: defs and methods that may raise, by their names: called where nothing is let out, in a def that lets errors out, in a try's body; by position and by keywords. -/
namespace Ex
open PySem PySem.Spec PySem.Calls PyProof.Rows L2 Gu
theorem passN {X : Cx} : Passes (L2.CX X.prog X.w) X E0 := fun _ _ _ _ _ _ _ ⟨_, _, _, _, _, _, _, _, _, _, _, _, z⟩ => z.elim
theorem passX {X : Cx} {E : XK} (tk : Takes X (fun cls d _ H => E cls d H)) : Passes (L2.CX X.prog X.w) X E := passes_call tk fun _ _ _ _ h => h
structure DfX (P : Program) (w : World) (K : PySem.W.Frag) (mg : Str → Option Value) (base : Heap) (k : Nat) (x : Str) (ps : List Str) (sp : Sp) : Prop where
  ex : ∃ fd, FnOk P w K mg base (L2.CX P w) k (He.ga K x) fd ps sp ∧ Binds K fd ps []
  gl : mg x = some (.ref (He.ga K x))
  kp : PySem.W.keepIn K (.ref (He.ga K x)) = true
structure MfX (P : Program) (w : World) (K : PySem.W.Frag) (mg : Str → Option Value) (base : Heap) (k : Nat) (c m : Str) (ps : List Str) (sp : Sp) : Prop where
  ex : ∃ fd, FnOk P w K mg base (L2.CX P w) k (He.ma K (He.ga K c) m) fd ps sp ∧ Binds K fd ps []
  cl : Cls K (He.ga K c)
  me : Meth K (He.ga K c) m (He.ma K (He.ga K c) m)
/-- .. called by the keywords ks alone behind self; j: the places of the other parameters among the keywords -/
structure MfXK (P : Program) (w : World) (K : PySem.W.Frag) (mg : Str → Option Value) (base : Heap) (k : Nat) (c m : Str) (ps ks : List Str) (j : List Nat) (sp : Sp) : Prop where
  ex : ∃ fd, FnOk P w K mg base (L2.CX P w) k (He.ma K (He.ga K c) m) fd ps sp ∧ ∀ (s : Shared) (u : Value) (ws : List Value), ws.length = ks.length → BindsTo s fd ⟨[u], ks.zip ws⟩ (ps.zip (u :: j.filterMap fun i => ws[i]?))
  cl : Cls K (He.ga K c)
  me : Meth K (He.ga K c) m (He.ma K (He.ga K c) m)
section
variable {X : Cx} {k j : Nat} {x c m : Str} {ps ks : List Str} {ji : List Nat} {sp : Sp} {p pos apos : Pos} {e o : Expr} {es : List Expr} {kws : List Keyword} {t tk : TA} {ta : TE} {E : XK} {W : WX}
theorem pcallX (D : DfX X.prog X.w X.K X.mg X.base k x ps sp) (hr : Room j X.A) (px : Passes (L2.CX X.prog X.w) X E) (ha : PA X (e :: es) t) (hj : k ≤ j := by decide) (hg : Gl X x := by rfl) (hdb : (x == ("__debug__" : Str)) = false := by decide)
    (he : starEach (e :: es) X.env = (false, eval e X.env) :: starEach es X.env := by rfl) (hpl : (backTo pos (starEach es X.env)).any (·.1) = false := by rfl) :
    PE X (.Call (.Name x p) (e :: es) [] pos) (tCall sp [] E t) := by
  obtain ⟨fd, F, b⟩ := D.ex
  exact pe_call F (hr.mono hj) hg D.gl D.kp b .nil px ha hdb he hpl
theorem pmethX {pl : Sem Bool} (D : MfX X.prog X.w X.K X.mg X.base k c m ps sp) (hr : Room j X.A) (px : Passes (L2.CX X.prog X.w) X E) (he : PE X o ta) (ha : PA X (e :: es) t) (hj : k ≤ j := by decide)
    (hst : starEach (e :: es) X.env = (false, eval e X.env) :: starEach es X.env := by rfl) (hpl : (backTo pos (starEach es X.env)).any (·.1) = false := by rfl)
    (ht : eval (.Call (.Attribute o m apos) (e :: es) [] pos) X.env = (do
      let ov ← eval o X.env
      standAt apos.atName
      let (f, first) ← holding [ov] (getMethod ov m pl)
      callWith pos f first (backTo pos (starEach (e :: es) X.env)) (backToKw pos (keywordEach [] X.env))) := by rfl) :
    PE X (.Call (.Attribute o m apos) (e :: es) [] pos) (tMeth (He.ga X.K c) m sp [] E ta t) := by
  obtain ⟨fd, F, b⟩ := D.ex
  exact pe_meth he D.cl D.me F (hr.mono hj) b .nil px ha hst hpl ht
/-- within a comprehension's block the reading names K by hand -/
theorem pmethXB {pl : Sem Bool} (K : PySem.W.Frag) (D : MfX X.prog X.w X.K X.mg X.base k c m ps sp) (hr : Room j X.A) (px : Passes (L2.CX X.prog X.w) X E) (he : PE X o ta) (ha : PA X (e :: es) t) (hj : k ≤ j := by decide) (hK : X.K = K := by rfl)
    (hst : starEach (e :: es) X.env = (false, eval e X.env) :: starEach es X.env := by rfl) (hpl : (backTo pos (starEach es X.env)).any (·.1) = false := by rfl)
    (ht : eval (.Call (.Attribute o m apos) (e :: es) [] pos) X.env = (do
      let ov ← eval o X.env
      standAt apos.atName
      let (f, first) ← holding [ov] (getMethod ov m pl)
      callWith pos f first (backTo pos (starEach (e :: es) X.env)) (backToKw pos (keywordEach [] X.env))) := by rfl) :
    PE X (.Call (.Attribute o m apos) (e :: es) [] pos) (tMeth (He.ga K c) m sp [] E ta t) := by
  subst hK
  exact pmethX D hr px he ha hj hst hpl ht
def tMethKw (C : Addr) (m : Str) (sp : Sp) (n : Nat) (j : List Nat) (E : XK) (ta : TE) (tk : TA) : TE := fun σ H Q => ta σ H fun x H1 => ∃ a dx fs, x = .ref a ∧ H1 a = some (.ins C dx fs) ∧ fs.lookup m = none ∧
  tk σ H1 fun zs H2 => zs.length = n ∧ sp (x :: j.filterMap fun i => zs[i]?) H2 Q E
theorem pmethXK {pl : Sem Bool} (D : MfXK X.prog X.w X.K X.mg X.base k c m ps ks ji sp) (hr : Room j X.A) (px : Passes (L2.CX X.prog X.w) X E) (he : PE X o ta) (hkw : PK X kws tk) (hj : k ≤ j := by decide)
    (hall : (backToKw pos (keywordEach kws X.env)).all (·.1.isSome) = true := by rfl) (hks : (backToKw pos (keywordEach kws X.env)).filterMap (·.1) = ks := by rfl)
    (hpl : ((backTo pos (starEach [] X.env)).any (·.1) || (backToKw pos (keywordEach kws X.env)).any (·.1.isNone)) = false := by rfl)
    (ht : eval (.Call (.Attribute o m apos) [] kws pos) X.env = (do
      let ov ← eval o X.env
      standAt apos.atName
      let (f, first) ← holding [ov] (getMethod ov m pl)
      callWith pos f first (backTo pos (starEach [] X.env)) (backToKw pos (keywordEach kws X.env))) := by rfl) :
    PE X (.Call (.Attribute o m apos) [] kws pos) (tMethKw (He.ga X.K c) m sp ks.length ji E ta tk) := by
  obtain ⟨fd, F, b⟩ := D.ex
  refine ⟨fun pins s σ H Q I h => PySem.W.methodCall_KW (pl := pl) (thn (he.run pins s σ H _ I h) fun u s1 ⟨x, H1, I1, rx, a, dx, fs, ex, ea, l, q⟩ => ?_) ht⟩
  subst ex
  obtain rfl : u = Value.ref a := rx
  refine getmeth_ok I1 ea D.cl D.me l (PySem.W.callWith_KW0 (first := [.ref a]) (h₀ := X.base) I.ok.mod.kin D.me.kp hall (thn (hkw.run pos pins s1 σ H1 _ I1 q) fun ws s2 ⟨zs, H2, I2, rz, hz, q2⟩ => ⟨I2.kIn, ?_⟩) hpl)
  rw [hks]
  have rv : Vals (V.ref a :: ji.filterMap fun i => zs[i]?) (Value.ref a :: ji.filterMap fun i => ws[i]?) := .cons rfl (vals_pick rz ji)
  refine wpAny_call (codeAny_mono (F.run X.A X.stack s2 H2 ⟨[Value.ref a] ++ [], ks.zip ws⟩ _ _ Q E (hr.mono hj) I2.env0 (b s2 (.ref a) ws (rz.length.symm.trans hz)) rv q2) fun r s' hq => ?_)
  match r, hq with
  | .error e, hq => exact px pins σ H2 s2 e s' I2 hq
  | .ok (.ret u), hq => exact I2.after hq
end
section
variable {X : Cx} {k j : Nat} {c m : Str} {ps : List Str} {sp : Sp} {pos apos : Pos} {e o : Expr} {es : List Expr} {t : TA} {ta : TE} {W : WX}
/-- o.m(e, ..) in a try's body -/
def tMethT (C : Addr) (m : Str) (sp : Sp) (E : L2.St → XK) (ta : TE) (t : TA) : TE := fun σ H Q => ta σ H fun x H1 => ∃ a dx fs, x = .ref a ∧ H1 a = some (.ins C dx fs) ∧ fs.lookup m = none ∧ t σ H1 fun vs H2 => sp (x :: vs) H2 Q (E σ)
theorem pmethT {pl : Sem Bool} (D : MfX X.prog X.w X.K X.mg X.base k c m ps sp) (hr : Room j X.A) (tk : Takes X W) (he : PE X o ta) (ha : PA X (e :: es) t) (hj : k ≤ j := by decide)
    (hst : starEach (e :: es) X.env = (false, eval e X.env) :: starEach es X.env := by rfl) (hpl : (backTo pos (starEach es X.env)).any (·.1) = false := by rfl)
    (ht : eval (.Call (.Attribute o m apos) (e :: es) [] pos) X.env = (do
      let ov ← eval o X.env
      standAt apos.atName
      let (f, first) ← holding [ov] (getMethod ov m pl)
      callWith pos f first (backTo pos (starEach (e :: es) X.env)) (backToKw pos (keywordEach [] X.env))) := by rfl) :
    PE X (.Call (.Attribute o m apos) (e :: es) [] pos) (tMethT (He.ga X.K c) m sp (WE W) ta t) := by
  obtain ⟨fd, F, b⟩ := D.ex
  refine ⟨fun pins s σ H Q I h => PySem.W.methodCall_KW (pl := pl) (thn (he.run pins s σ H _ I h) fun u s1 ⟨x, H1, I1, rx, a, dx, fs, ex, ea, l, q⟩ => ?_) ht⟩
  subst ex
  obtain rfl : u = Value.ref a := rx
  refine getmeth_ok I1 ea D.cl D.me l (PySem.W.callWith_K (first := [.ref a]) (h₀ := X.base) I.ok.mod.kin D.me.kp (thn (ha.run pos pins s1 σ H1 _ I1 q) fun us s2 ⟨vs, H2, I2, r, q2⟩ => ⟨I2.kIn, ?_⟩) hst hpl)
  exact run_fnS (E := WE W) (us := .ref a :: us) (vs := .ref a :: vs) F (hr.mono hj) b (passAt tk σ) I2 (.cons rfl r) q2
end
/-! ### facts of an error's class over any base -/
def oexGB (B : String) (K : PySem.W.Frag) (C : Addr) : Bool := match K.lookup C with
  | some ⟨.type "type", _, .cls cd, sl⟩ => (match cd.mro, sl.toList with
    | .ref c :: bm, [_, _, _, _, some (.builtin n), _] => (c == C && n == B ++ ".__new__") && ((!cd.hasDel && cd.hasDict) && refsB (tailE B) bm)
    | _, _ => false)
  | _ => false
theorem oexGB_ok {B : String} {K : PySem.W.Frag} {C : Addr} (h : oexGB B K C = true) :
    ∃ nm q N bs bm sn sub ab col dd k0 k1 k2 k3 k5, K.lookup C = some (excClassObj nm q C N bs bm true sn sub ab col dd k0 k1 k2 k3 k5 (B ++ ".__new__")) ∧ refsB (tailE B) bm = true := by
  unfold oexGB at h
  split at h
  · rename_i dd cd sl ho
    split at h
    · rename_i c bm k0 k1 k2 k3 n k5 hm hs
      obtain ⟨⟨h1, h2⟩, h3⟩ := (He.ba h).imp_left He.ba
      obtain ⟨h4, h5⟩ := He.ba h3
      obtain ⟨h6, h7⟩ := He.ba h4
      have e1 : c = C := beq_iff_eq.mp h1
      have e2 : n = B ++ ".__new__" := beq_iff_eq.mp h2
      have e3 : cd.hasDel = false := by simpa using h6
      subst e1 e2
      obtain ⟨nm, bs, mro, ns, qn, hd, sn, sub, ab, col, del⟩ := cd
      dsimp only at hm e3 h7
      subst hm e3 h7
      have e4 : sl = #[k0, k1, k2, k3, some (.builtin (B ++ ".__new__")), k5] := by
        obtain ⟨l⟩ := sl
        simp only at hs
        rw [hs]
      subst e4
      exact ⟨nm, qn, ns, bs, bm, sn, sub, ab, col, dd, k0, k1, k2, k3, k5, ho, h5⟩
    · cases h
  · cases h
def bOf (a : Option Bool) (b : Bool) : Bool := decide (a = some b)
theorem bOf_ok {a : Option Bool} {b : Bool} (h : bOf a b = true) : a = some b := of_decide_eq_true h
/-- what the rules ask of an error's class at C, over B, with the field n -/
def errG (B : String) (K : PySem.W.Frag) (C : Addr) (n : Str) : Bool := oexGB B K C && (He.eqO (PySem.W.findIn K (.ref C) "__setattr__") (some (some (.builtin "object.__setattr__"))) && (bOf (PySem.W.subIn K (.ref C) (.type "BaseException")) true &&
  (decide (PySem.W.typeIn K (.ref C) = some (.type "type")) && (PySem.W.keepIn K (.ref C) && (xfB K C && (He.eqO (PySem.W.findIn K (.ref C) "__class__") (some (some (.builtin "object.__class__"))) &&
  (He.eqO (PySem.W.specialIn K (.builtin "object.__class__") "__get__") (some (some (.builtin "getset_descriptor.__get__"))) && (bOf (PySem.W.takesIn K (.builtin "object.__class__")) true && (bOf (PySem.W.mroIn K C (.type "object")) true &&
  (He.eqO (PySem.W.findIn K (.ref C) n) (some none) && (He.eqO (PySem.W.findIn K (.ref C) "__init__") (some (some (.ref (He.ma K C "__init__")))) && (decide (PySem.W.typeIn K (.ref (He.ma K C "__init__")) = some (.type "function")) && bOf (PySem.W.exmOne K (.ref C) (.ref C)) true))))))))))))
structure ErrG (B : String) (K : PySem.W.Frag) (C : Addr) (n : Str) : Prop where
  ox : OexG B (tailE B) K C
  xf : XfC K C
  ec : ExcC K C
  no : PySem.W.findIn K (.ref C) n = some none
  ii : PySem.W.findIn K (.ref C) "__init__" = some (some (.ref (He.ma K C "__init__")))
  ti : PySem.W.typeIn K (.ref (He.ma K C "__init__")) = some (.type "function")
  em : PySem.W.exmOne K (.ref C) (.ref C) = some true
theorem errG_ok {B : String} {K : PySem.W.Frag} {C : Addr} {n : Str} (b : BaseE B (tailE B)) (h : errG B K C n = true) : ErrG B K C n := by
  obtain ⟨a1, h⟩ := He.ba h
  obtain ⟨a2, h⟩ := He.ba h
  obtain ⟨a3, h⟩ := He.ba h
  obtain ⟨a4, h⟩ := He.ba h
  obtain ⟨a5, h⟩ := He.ba h
  obtain ⟨a6, h⟩ := He.ba h
  obtain ⟨a7, h⟩ := He.ba h
  obtain ⟨a8, h⟩ := He.ba h
  obtain ⟨a9, h⟩ := He.ba h
  obtain ⟨a10, h⟩ := He.ba h
  obtain ⟨a11, h⟩ := He.ba h
  obtain ⟨a12, h⟩ := He.ba h
  obtain ⟨a13, a14⟩ := He.ba h
  have x := xfB_ok a6
  exact ⟨⟨b, oexGB_ok a1, He.eqO_ok a2, bOf_ok a3, of_decide_eq_true a4, a5⟩, x, ⟨x.ga, x.gg, x.exC, x.hdC, He.eqO_ok a7, He.eqO_ok a8, bOf_ok a9, bOf_ok a10⟩, He.eqO_ok a11, He.eqO_ok a12, of_decide_eq_true a13, bOf_ok a14⟩
/-- an error's __init__ with one field -/
def spErr (C : Addr) (n : Str) : Sp := fun vs H Q _ => ∃ (a : Addr) (v : V), vs = [.ref a, v] ∧ H a = some (exo a C none) ∧ ∀ dx, H dx = none → dx ≠ a → Q .non (upd (upd H dx (exd dx [(n, v)])) a (exo a C (some dx)))
/-- the error's maker, for a raise -/
structure Ei (P : Program) (w : World) (K : PySem.W.Frag) (mg : Str → Option Value) (base : Heap) (c n : Str) : Prop where
  ex : ∃ fd, FnOk P w K mg base CX0 1 (He.ma K (He.ga K c) "__init__") fd ["self", n] (spErr (He.ga K c) n) ∧ Binds K fd ["self", n] []
theorem heap_err {H : Hp} {a dx : Addr} {fs : List (Str × V)} {o1 o2 o3 : HO} (ha : H a = none) (hd : H dx = none) : Same H (upd (del (upd (upd (upd H a o1) dx o2) a o3) a) dx (.xd fs)) := fun b o e => by
  have nb : b ≠ a := ne_of_none e ha
  have nd : b ≠ dx := ne_of_none e hd
  rw [upd_ne nd, del_ne nb, upd_ne nb, upd_ne nd, upd_ne nb]
  exact e
/-- what is asked at a raise of C(v): that the def's own wish of errors holds of it -/
theorem raise_ok {K : PySem.W.Frag} {c n : Str} {v : V} {H : Hp} {E : XK} (q : ∀ d H', H d = none → Same H H' → H' d = some (.xd [(n, v)]) → E (.ref (He.ga K c)) (some d) H') :
    ∀ a, H a = none → spErr (He.ga K c) n (.ref a :: ([v] ++ [])) (upd H a (exo a (He.ga K c) none))
      (fun u H2 => u = .non ∧ ∃ (d : Addr) (fs : List (Str × V)), H2 a = some (exo a (He.ga K c) (some d)) ∧ H2 d = some (exd d fs) ∧ H d = none ∧ E (.ref (He.ga K c)) (some d) (upd (del H2 a) d (.xd fs))) (fun _ _ _ => False) := fun a ha => by
  refine ⟨a, v, rfl, upd_same, fun dx hdx ne => ⟨rfl, dx, [(n, v)], upd_same, ?_, ?_, ?_⟩⟩
  · rw [upd_ne ne, upd_same]
  · rw [upd_ne ne] at hdx
    exact hdx
  · rw [upd_ne ne] at hdx
    exact q dx _ hdx (heap_err ha hdx) upd_same
end Ex

set_option Elab.async false
set_option linter.all false
set_option maxRecDepth 100000
set_option maxHeartbeats 4000000
/-! Own layer: a built-in value == an instance with its own __eq__ (the built-in declines, then the own one is asked); instance == any value; instance != any value. -/
namespace HQ
open PySem PySem.Spec PyProof.Rows PySem.SeqAt PySem.W
section
variable {prog : Program} {w : World} {A : Around} {E : Value → Shared → Prop} {s : Shared} {K : PySem.W.Frag} {x C f : Addr} {a tb : Value} {ox : Obj} {od : Option Obj} {T id : String}
theorem try_own {nm : Str} {Q : Value → Shared → Prop} (X : K.In s.heap) (I : InstAt s.heap x ox C od) (hs : findIn K (.ref C) nm = some (some (.ref f))) (hf : isFn K (.ref f) = true)
    (h : wpAny (model prog w) A (call (.ref f) [.ref x, a]) (PySem.W.CmpBack Q) E s) : wpAny (model prog w) A (tryCompare (.ref x) nm a) (fun r s' => ∃ v, r = some v ∧ Q v s') E s := by
  unfold tryCompare
  refine wpAny_bind (ifBound_K X I hs hf (wpAny_mono h (fun v s' hv => ?_) fun _ _ e => e))
  cases v <;> first | exact hv.elim | exact wpAny_pure ⟨_, rfl, hv⟩
theorem refl_K {Q : Value → Shared → Prop} (hu : A.units < cLine) (X : K.In s.heap) (I : InstAt s.heap x ox C od) (hs : findIn K (.ref C) "__eq__" = some (some (.ref f))) (hf : isFn K (.ref f) = true)
    (ha : s.TypeIs a T) (slot : Slot T "__eq__" id) (hsub : subIn K (.ref C) (.type T) = some false)
    (hd : ∀ Q' : Value → Shared → Prop, Q' .notImplemented s → wpAny (model prog w) A (call (.builtin id) [a, .ref x]) Q' E s)
    (h : wpAny (model prog w) A (call (.ref f) [.ref x, a]) (PySem.W.CmpBack Q) E s) : wpAny (model prog w) A (richCompare .Eq a (.ref x)) Q E s := by
  have one := try_own X I hs hf h
  simp only [richCompare, cmpInfo_Eq, ha.oneThing_none]
  try with_reducible refine wpAny_holding ?_
  refine wpAny_bind (wpAny_cRoomFor hu ?_)
  refine wpAny_bind (wpAny_typeOf ha (wpAny_bind (I.type.here ?_)))
  rw [show (Value.type T != Value.ref C) = true from by simp, if_pos rfl]
  refine wpAny_bind ((looks_subIn X hsub).here ?_)
  simp only [Bool.false_eq_true, if_false, Bool.not_false, if_true]
  refine wpAny_bind (m := tryCompare a _ (.ref x)) (wpAny_tryCompare_declines ha slot (hd _ ⟨rfl, ?_⟩))
  refine wpAny_bind (m := tryCompare (.ref x) _ a) (wpAny_mono one (fun r s' z => ?_) fun _ _ e => e)
  obtain ⟨v, rfl, hq⟩ := z
  exact wpAny_pure hq
/-! the built-ins decline -/
theorem dec_none (l : Addr) : Gives (Builtin.«NoneType.__eq__» ⟨[.none, .ref l], []⟩) (.val (Value.notImplemented)) :=
  .of_wp fun M A E s Q h => by obtain ⟨hp, g, d, tk, os⟩ := s; wp_walk; exact ⟨_, rfl, h⟩
theorem dec_bool {dx : Addr} {Q : Fin → Shared → Prop}  (X : K.In s.heap) (I : InstAt s.heap x (instObj C dx) C od) (b : Bool) (hsub : subIn K (.ref C) (.type "int") = some false) (h : Q (.done (.ret .notImplemented)) s) :
    wpAny (model prog w) A (Builtin.«int.__eq__» ⟨[.bool b, .ref x], []⟩) Q E s := by
  unfold Builtin.«int.__eq__»
  repeat (first
    | exact h
    | (refine I.type.here ?_)
    | (refine (looks_subIn X hsub).here ?_)
    | (with_reducible refine wpAny_load I.at_ ?_)
    | wp_step)
theorem dec_int {dx : Addr} {Q : Fin → Shared → Prop}  (X : K.In s.heap) (I : InstAt s.heap x (instObj C dx) C od) (i : Int) (t : Tok) (hsub : subIn K (.ref C) (.type "int") = some false) (h : Q (.done (.ret .notImplemented)) s) :
    wpAny (model prog w) A (Builtin.«int.__eq__» ⟨[.int i t, .ref x], []⟩) Q E s := by
  unfold Builtin.«int.__eq__»
  repeat (first
    | exact h
    | (refine I.type.here ?_)
    | (refine (looks_subIn X hsub).here ?_)
    | (with_reducible refine wpAny_load I.at_ ?_)
    | wp_step)
theorem dec_str {dx : Addr} {Q : Fin → Shared → Prop}  (X : K.In s.heap) (I : InstAt s.heap x (instObj C dx) C od) (z : Str) (t : Tok) (hsub : subIn K (.ref C) (.type "str") = some false) (h : Q (.done (.ret .notImplemented)) s) :
    wpAny (model prog w) A (Builtin.«str.__eq__» ⟨[.str z t, .ref x], []⟩) Q E s := by
  unfold Builtin.«str.__eq__»
  repeat (first
    | exact h
    | (refine I.type.here ?_)
    | (refine (looks_subIn X hsub).here ?_)
    | (with_reducible refine wpAny_load I.at_ ?_)
    | wp_step)
theorem dec_list {dx : Addr} {Q : Fin → Shared → Prop} {l : Addr} {items : Array Value} {n : Nat} {dd : Option Addr} {sl : Array (Option Value)} (X : K.In s.heap) (I : InstAt s.heap x (instObj C dx) C od) (hl : s.heap.get? l = some { cls := .type "list", dict := dd, data := .seq items n, slots := sl }) (hsub : subIn K (.ref C) (.type "list") = some false) (h : Q (.done (.ret .notImplemented)) s) :
    wpAny (model prog w) A (Builtin.«list.__eq__» ⟨[.ref l, .ref x], []⟩) Q E s := by
  unfold Builtin.«list.__eq__»
  repeat (first
    | exact h
    | (refine I.type.here ?_)
    | (refine (looks_subIn X hsub).here ?_)
    | (with_reducible refine wpAny_load I.at_ ?_)
    | wp_step)
theorem dec_tuple {dx : Addr} {Q : Fin → Shared → Prop} {l : Addr} {items : Array Value} {n : Nat} {dd : Option Addr} {sl : Array (Option Value)} (X : K.In s.heap) (I : InstAt s.heap x (instObj C dx) C od) (hl : s.heap.get? l = some { cls := .type "tuple", dict := dd, data := .seq items n, slots := sl }) (hsub : subIn K (.ref C) (.type "tuple") = some false) (h : Q (.done (.ret .notImplemented)) s) :
    wpAny (model prog w) A (Builtin.«tuple.__eq__» ⟨[.ref l, .ref x], []⟩) Q E s := by
  unfold Builtin.«tuple.__eq__»
  repeat (first
    | exact h
    | (refine I.type.here ?_)
    | (refine (looks_subIn X hsub).here ?_)
    | (with_reducible refine wpAny_load I.at_ ?_)
    | wp_step)
theorem dec_dict {dx : Addr} {Q : Fin → Shared → Prop} {l : Addr} {es : Array DictEntry} {n : Nat} {dd : Option Addr} {sl : Array (Option Value)} (X : K.In s.heap) (I : InstAt s.heap x (instObj C dx) C od) (hl : s.heap.get? l = some { cls := .type "dict", dict := dd, data := .dict es n, slots := sl }) (hsub : subIn K (.ref C) (.type "dict") = some false) (h : Q (.done (.ret .notImplemented)) s) :
    wpAny (model prog w) A (Builtin.«dict.__eq__» ⟨[.ref l, .ref x], []⟩) Q E s := by
  unfold Builtin.«dict.__eq__»
  repeat (first
    | exact h
    | (refine I.type.here ?_)
    | (refine (looks_subIn X hsub).here ?_)
    | (with_reducible refine wpAny_load I.at_ ?_)
    | wp_step)
end
end HQ

set_option Elab.async false
set_option linter.all false
set_option maxRecDepth 100000
set_option maxHeartbeats 4000000
/-! Own layer: == and != between an instance with its own __eq__ and any built-in value, in both sequences. -/
namespace HQ
open PySem PySem.Spec PyProof.Rows PySem.SeqAt PySem.W
section
variable {prog : Program} {w : World} {A : Around} {E : Value → Shared → Prop} {s : Shared} {K : PySem.W.Frag} {x C f dx l : Addr} {a b tb : Value} {od : Option Obj} {T id : String}
variable {items : Array Value} {n : Nat} {dd : Option Addr} {sl : Array (Option Value)}
/-- an instance of C at x, C's relations in K -/
def At (K : PySem.W.Frag) (x C dx : Addr) (od : Option Obj) (s : Shared) : Prop := K.In s.heap ∧ InstAt s.heap x (instObj C dx) C od
theorem m_none : Meets (Builtin.«NoneType.__eq__» ⟨[.none, .ref x], []⟩) (fun _ R s => R (.ok (.ret .notImplemented)) s) :=
  .of_wp fun prog w A R s h => by obtain ⟨hp, g, d, tk, os⟩ := s; wp_walk; exact ⟨_, rfl, h⟩
theorem m_bool (p : Bool) (hsub : subIn K (.ref C) (.type "int") = some false) : Meets (Builtin.«int.__eq__» ⟨[.bool p, .ref x], []⟩) (fun _ R s => At K x C dx od s ∧ R (.ok (.ret .notImplemented)) s) :=
  .of_wp fun prog w A R s h => dec_bool h.1.1 h.1.2 p hsub ⟨_, rfl, h.2⟩
theorem m_int (i : Int) (t : Tok) (hsub : subIn K (.ref C) (.type "int") = some false) : Meets (Builtin.«int.__eq__» ⟨[.int i t, .ref x], []⟩) (fun _ R s => At K x C dx od s ∧ R (.ok (.ret .notImplemented)) s) :=
  .of_wp fun prog w A R s h => dec_int h.1.1 h.1.2 i t hsub ⟨_, rfl, h.2⟩
theorem m_str (z : Str) (t : Tok) (hsub : subIn K (.ref C) (.type "str") = some false) : Meets (Builtin.«str.__eq__» ⟨[.str z t, .ref x], []⟩) (fun _ R s => At K x C dx od s ∧ R (.ok (.ret .notImplemented)) s) :=
  .of_wp fun prog w A R s h => dec_str h.1.1 h.1.2 z t hsub ⟨_, rfl, h.2⟩
theorem m_list (hsub : subIn K (.ref C) (.type "list") = some false) : Meets (Builtin.«list.__eq__» ⟨[.ref l, .ref x], []⟩) (fun _ R s => At K x C dx od s ∧ s.heap.get? l = some { cls := .type "list", dict := dd, data := .seq items n, slots := sl } ∧ R (.ok (.ret .notImplemented)) s) :=
  .of_wp fun prog w A R s h => dec_list h.1.1 h.1.2 h.2.1 hsub ⟨_, rfl, h.2.2⟩
theorem m_tuple (hsub : subIn K (.ref C) (.type "tuple") = some false) : Meets (Builtin.«tuple.__eq__» ⟨[.ref l, .ref x], []⟩) (fun _ R s => At K x C dx od s ∧ s.heap.get? l = some { cls := .type "tuple", dict := dd, data := .seq items n, slots := sl } ∧ R (.ok (.ret .notImplemented)) s) :=
  .of_wp fun prog w A R s h => dec_tuple h.1.1 h.1.2 h.2.1 hsub ⟨_, rfl, h.2.2⟩
theorem m_dict {es : Array DictEntry} (hsub : subIn K (.ref C) (.type "dict") = some false) : Meets (Builtin.«dict.__eq__» ⟨[.ref l, .ref x], []⟩) (fun _ R s => At K x C dx od s ∧ s.heap.get? l = some { cls := .type "dict", dict := dd, data := .dict es n, slots := sl } ∧ R (.ok (.ret .notImplemented)) s) :=
  .of_wp fun prog w A R s h => dec_dict h.1.1 h.1.2 h.2.1 hsub ⟨_, rfl, h.2.2⟩
theorem ne_KB {Q : Value → Shared → Prop} (hu : A.units < cLine) (hu1 : A.in1.units < cLine) (X : K.In s.heap) (I : InstAt s.heap x (instObj C dx) C od) (hb : Looks (model prog w) s.heap (typeOf b) tb) (hn0 : notFirst K C tb = true) (hm : mroIn K C (.type "object") = some true)
    (hn : findIn K (.ref C) "__ne__" = some (some (.builtin "object.__ne__"))) (hs : findIn K (.ref C) "__eq__" = some (some (.ref f))) (hf : isFn K (.ref f) = true)
    (hcall : wpAny (model prog w) A.in1 (call (.ref f) [.ref x, b]) (fun v s' => ∃ t, v = .bool t ∧ Q (.bool (!t)) s') E s) : wpAny (model prog w) A (richCompare .NotEq (.ref x) b) Q E s := by
  have one : wpAny (model prog w) A (tryCompare (.ref x) "__ne__" b) (fun r s' => ∃ v, r = some v ∧ Q v s') E s := by
    unfold tryCompare
    refine wpAny_bind (HN.ifBound_objNe X I hn (HN.call_objNe X I hm hs hf hu1 (wpAny_mono hcall (fun v s' hv => ?_) fun _ _ e => e)))
    obtain ⟨t, rfl, q⟩ := hv
    exact ⟨t, rfl, wpAny_pure ⟨_, rfl, q⟩⟩
  simp only [richCompare, cmpInfo_NotEq, oneThing_ref]
  refine wpAny_holding (wpAny_bind (wpAny_cRoomFor hu ?_))
  refine wpAny_bind (I.type.here (wpAny_bind (hb.here ?_)))
  split
  · rename_i q
    have e : subIn K tb (.ref C) = some false := by
      rcases Bool.or_eq_true_iff.mp hn0 with e | e
      · rw [beq_iff_eq.mp e] at q; simp at q
      · exact beq_iff_eq.mp e
    refine wpAny_bind ((looks_subIn X e).here ?_)
    simp only [Bool.false_eq_true, if_false]
    refine wpAny_bind (wpAny_mono one (fun r s' z => ?_) fun _ _ e => e)
    obtain ⟨v, rfl, hq⟩ := z
    exact wpAny_pure hq
  · refine wpAny_bind (wpAny_pure ?_)
    simp only [Bool.false_eq_true, if_false]
    refine wpAny_bind (wpAny_mono one (fun r s' z => ?_) fun _ _ e => e)
    obtain ⟨v, rfl, hq⟩ := z
    exact wpAny_pure hq
end
end HQ
namespace Ex
open PySem PySem.Spec PySem.Calls PyProof.Rows L2 Gu
/-- built-in values and their types -/
inductive Bv (H : Hp) : V → String → Prop
  | non : Bv H .non "NoneType"
  | bl (b : Bool) : Bv H (.bl b) "bool"
  | int (i : Int) : Bv H (.int i) "int"
  | str (x : Str) : Bv H (.str x) "str"
  | lst {a : Addr} {xs : List V} : H a = some (.lst xs) → Bv H (.ref a) "list"
  | tup {a : Addr} {xs : List V} : H a = some (.tup xs) → Bv H (.ref a) "tuple"
  | dct {a : Addr} {kvs : List (Key × V)} : H a = some (.dK kvs) → Bv H (.ref a) "dict"
theorem Bv.tyx {K : PySem.W.Frag} {H : Hp} {v : V} {T : String} (h : Bv H v T) : TyX K H v (.type T) := by
  cases h with
  | non => exact .base .non
  | bl b => exact .base (.bl b)
  | int i => exact .base (.int i)
  | str x => exact .base (.str x)
  | lst e => exact .base (.lst e)
  | tup e => exact .base (.tup e)
  | dct e => exact .base (.dK e)
def bus : List String := ["NoneType", "bool", "int", "str", "list", "tuple", "dict"]
theorem Bv.mem {H : Hp} {v : V} {T : String} (h : Bv H v T) : T ∈ bus := by cases h <;> decide
/-- what comparisons with built-in values ask of an own class -/
structure BuOk (K : PySem.W.Frag) (C : Addr) : Prop where
  all : ∀ T ∈ bus, PySem.W.notFirst K C (.type T) = true ∧ PySem.W.subIn K (.ref C) (.type T) = some false ∧ PySem.W.kitOne K (.type T) (.ref C) = some false
def buB (K : PySem.W.Frag) (C : Addr) : Bool := bus.all fun T => PySem.W.notFirst K C (.type T) && (decide (PySem.W.subIn K (.ref C) (.type T) = some false) && decide (PySem.W.kitOne K (.type T) (.ref C) = some false))
theorem buB_ok {K : PySem.W.Frag} {C : Addr} (h : buB K C = true) : BuOk K C := ⟨fun T hT => by
  obtain ⟨h1, h2⟩ := He.ba (List.all_eq_true.mp h T hT)
  obtain ⟨h2, h3⟩ := He.ba h2
  exact ⟨h1, of_decide_eq_true h2, of_decide_eq_true h3⟩⟩
theorem BuOk.kit {K : PySem.W.Frag} {C : Addr} {H : Hp} {v : V} {T : String} (h : BuOk K C) (b : Bv H v T) : PySem.W.kitOne K (.type T) (.ref C) = some false := (h.all T b.mem).2.2
section
variable {X : Cx} {pins : List (Addr × Obj)} {σ : L2.St} {H : Hp} {s : Shared} {k j : Nat} {c : Str} {sp : Sp}
theorem Bv.typeIs (I : Inv X pins σ H s) {v : V} {T : String} {u : Value} (h : Bv H v T) (r : RelV v u) : s.TypeIs u T := by
  cases h with
  | non => cases r; rfl
  | bl b => cases r; rfl
  | int i => obtain ⟨t, rfl⟩ := r; rfl
  | str x => obtain ⟨t, rfl⟩ := r; rfl
  | lst e =>
    cases r
    obtain ⟨its, _, ⟨o, n, ho, hc, _, hd⟩, _⟩ := I.list (SqL.of e)
    exact ⟨o, ho, hc⟩
  | tup e =>
    cases r
    obtain ⟨its, _, ⟨o, ho, hc, n, hd⟩, _⟩ := I.tuple (SqT.of e)
    exact ⟨o, ho, hc⟩
  | dct e =>
    cases r
    obtain ⟨_, _, vs, _, dd⟩ := dk_of I.hok e
    exact dd.typeIs
theorem looks_of {prog : Program} {w : World} {u : Value} {T : String} (h : s.TypeIs u T) : PySem.W.Looks (model prog w) s.heap (typeOf u) (.type T) := by
  cases u with
  | ref a =>
    obtain ⟨o, ho, hc⟩ := h
    exact hc ▸ (PySem.W.Looks.ld ho).andThen .now
  | _ => exact PySem.W.Looks.of_pure h
def rEqB (C : Addr) (sp : Sp) : R2 := fun x y H Q => ∃ a dx fs T, x = .ref a ∧ H a = some (.ins C dx fs) ∧ Bv H y T ∧ sp [.ref a, y] H (fun v H' => (∃ t, v = .bl t) ∧ Q v H') E0
theorem op_eqB (D : EqOf X.prog X.w X.K X.mg X.base k c sp) (B : BuOk X.K (He.ga X.K c)) (hr : Room j X.A) (hj : k ≤ j := by decide) : OpR X (compareOp .Eq) (rEqB (He.ga X.K c) sp) := by
  intro pins s σ H x y u v Q I rx ry ⟨a, dx, fs, T, ex, ha, bv, hsp⟩
  subst ex
  obtain rfl : u = Value.ref a := rx
  obtain ⟨fd, F, bi⟩ := D.ex
  have hr' := hr.mono hj
  obtain ⟨mA, J, _⟩ := ins_get I.hok ha
  obtain ⟨od, J, _⟩ := J.look
  obtain ⟨m, hF⟩ := I.fr
  have ty := bv.typeIs I ry
  show wpAny (model X.prog X.w) X.A (richCompare .Eq (.ref a) v) (EP X pins σ Q) X.xe s
  refine PySem.W.cmp_K (op := .Eq) (tb := .type T) hr'.units0 hF I.ok.mod.kin J (looks_of ty) (B.all T bv.mem).1 D.at_ D.fn ?_
  have r2 : Vals [V.ref a, y] [Value.ref a, v] := .cons rfl (.cons ry .nil)
  have bb := bi s [.ref a, v] I.kIn rfl
  refine wpAny_call (codeAny_mono (F.run X.A X.stack s H ⟨[.ref a, v], []⟩ [.ref a, v] [.ref a, y] _ E0 hr' I.env0 (by simpa using bb) r2 hsp) fun r s' hq => ?_)
  match r, hq with
  | .ok (.ret w), hq =>
    obtain ⟨z, H', I', rz, ⟨t, ez⟩, q⟩ := I.after hq
    subst ez
    cases rz
    exact ⟨.bl t, H', I', rfl, q⟩
def rNeB (C : Addr) (sp : Sp) : R2 := fun x y H Q => ∃ a dx fs T, x = .ref a ∧ H a = some (.ins C dx fs) ∧ Bv H y T ∧ sp [.ref a, y] H (fun v H' => ∃ t, v = .bl t ∧ Q (.bl (!t)) H') E0
theorem op_neB (D : EqOf X.prog X.w X.K X.mg X.base k c sp) (N : NeOk X.K (He.ga X.K c)) (B : BuOk X.K (He.ga X.K c)) (hr : Room j X.A) (hj : k + 1 ≤ j := by decide) : OpR X (compareOp .NotEq) (rNeB (He.ga X.K c) sp) := by
  intro pins s σ H x y u v Q I rx ry ⟨a, dx, fs, T, ex, ha, bv, hsp⟩
  subst ex
  obtain rfl : u = Value.ref a := rx
  obtain ⟨fd, F, bi⟩ := D.ex
  have hr' := hr.mono hj
  obtain ⟨mA, J, _⟩ := ins_get I.hok ha
  obtain ⟨od, J, _⟩ := J.look
  have ty := bv.typeIs I ry
  show wpAny (model X.prog X.w) X.A (richCompare .NotEq (.ref a) v) (EP X pins σ Q) X.xe s
  refine HQ.ne_KB hr'.units0 hr'.in1.units0 I.kIn J (looks_of ty) (B.all T bv.mem).1 N.hm N.ne D.at_ D.fn ?_
  have r2 : Vals [V.ref a, y] [Value.ref a, v] := .cons rfl (.cons ry .nil)
  have bb := bi s [.ref a, v] I.kIn rfl
  refine wpAny_call (codeAny_mono (F.run X.A.in1 X.stack s H ⟨[.ref a, v], []⟩ [.ref a, v] [.ref a, y] _ E0 hr'.in1 I.env0.in1 (by simpa using bb) r2 hsp) fun r s' hq => ?_)
  match r, hq with
  | .ok (.ret w), hq =>
    obtain ⟨z, H', I', rz, ⟨t, ez, q⟩⟩ := I.after hq
    subst ez
    cases rz
    exact ⟨t, rfl, .bl (!t), H', I', rfl, q⟩
def rEqR (C : Addr) (sp : Sp) : R2 := fun x y H Q => ∃ b dx fs T, y = .ref b ∧ H b = some (.ins C dx fs) ∧ Bv H x T ∧ sp [.ref b, x] H (fun v H' => (∃ t, v = .bl t) ∧ Q v H') E0
theorem op_eqR (D : EqOf X.prog X.w X.K X.mg X.base k c sp) (B : BuOk X.K (He.ga X.K c)) (hr : Room j X.A) (hj : k ≤ j := by decide) : OpR X (compareOp .Eq) (rEqR (He.ga X.K c) sp) := by
  intro pins s σ H x y u v Q I rx ry ⟨b, dx, fs, T, ey, hb, bv, hsp⟩
  subst ey
  obtain rfl : v = Value.ref b := ry
  obtain ⟨fd, F, bi⟩ := D.ex
  have hr' := hr.mono hj
  obtain ⟨mA, J, _⟩ := ins_get I.hok hb
  obtain ⟨od, J, _⟩ := J.look
  have ty := bv.typeIs I rx
  have at0 : HQ.At X.K b (He.ga X.K c) dx (some od) s := ⟨I.kIn, J⟩
  have su : ∀ T ∈ bus, PySem.W.subIn X.K (.ref (He.ga X.K c)) (.type T) = some false := fun T hT => (B.all T hT).2.1
  have r2 : Vals [V.ref b, x] [Value.ref b, u] := .cons rfl (.cons rx .nil)
  have bb := bi s [.ref b, u] I.kIn rfl
  have own : wpAny (model X.prog X.w) X.A (call (.ref (He.ma X.K (He.ga X.K c) "__eq__")) [.ref b, u]) (PySem.W.CmpBack (EP X pins σ Q)) X.xe s := by
    refine wpAny_call (codeAny_mono (F.run X.A X.stack s H ⟨[.ref b, u], []⟩ [.ref b, u] [.ref b, x] _ E0 hr' I.env0 (by simpa using bb) r2 hsp) fun r s' hq => ?_)
    match r, hq with
    | .ok (.ret w), hq =>
      obtain ⟨z, H', I', rz, ⟨t, ez⟩, q⟩ := I.after hq
      subst ez
      cases rz
      exact ⟨.bl t, H', I', rfl, q⟩
  have tyT := ty
  show wpAny (model X.prog X.w) X.A (richCompare .Eq u (.ref b)) (EP X pins σ Q) X.xe s
  cases bv with
  | non =>
    cases rx
    exact HQ.refl_K hr'.units0 I.kIn J D.at_ D.fn ty PySem.F.slot_NoneType_eq (su _ (by decide)) (fun Q' q' => call_meets PySem.F.slot_NoneType_eq ty PySem.F.entry_NoneType_eq (PySem.F.args_NoneType_eq_2 _ _) HQ.m_none q') own
  | bl p =>
    cases rx
    exact HQ.refl_K hr'.units0 I.kIn J D.at_ D.fn ty PySem.F.slot_bool_eq (su _ (by decide)) (fun Q' q' => call_meets PySem.F.slot_bool_eq ty PySem.F.entry_int_eq (PySem.F.args_int_eq_2 _ _) (HQ.m_bool p (su "int" (by decide))) ⟨at0, q'⟩) own
  | int i =>
    obtain ⟨t, rfl⟩ := rx
    exact HQ.refl_K hr'.units0 I.kIn J D.at_ D.fn ty PySem.F.slot_int_eq (su _ (by decide)) (fun Q' q' => call_meets PySem.F.slot_int_eq ty PySem.F.entry_int_eq (PySem.F.args_int_eq_2 _ _) (HQ.m_int i t (su "int" (by decide))) ⟨at0, q'⟩) own
  | str z =>
    obtain ⟨t, rfl⟩ := rx
    exact HQ.refl_K hr'.units0 I.kIn J D.at_ D.fn ty PySem.F.slot_str_eq (su _ (by decide)) (fun Q' q' => call_meets PySem.F.slot_str_eq ty PySem.F.entry_str_eq (PySem.F.args_str_eq_2 _ _) (HQ.m_str z t (su "str" (by decide))) ⟨at0, q'⟩) own
  | lst e =>
    cases rx
    obtain ⟨its, _, ⟨⟨oc, od1, odt, osl⟩, n, ho, hc, _, hd⟩, _⟩ := I.list (SqL.of e)
    simp only at hc hd
    subst hc hd
    exact HQ.refl_K hr'.units0 I.kIn J D.at_ D.fn ty PySem.F.slot_list_eq (su _ (by decide)) (fun Q' q' => call_meets PySem.F.slot_list_eq ty PySem.F.entry_list_eq (PySem.F.args_list_eq_2 _ _) (HQ.m_list (su "list" (by decide))) ⟨at0, ho, q'⟩) own
  | tup e =>
    cases rx
    obtain ⟨its, _, ⟨⟨oc, od1, odt, osl⟩, ho, hc, n, hd⟩, _⟩ := I.tuple (SqT.of e)
    simp only at hc hd
    subst hc hd
    exact HQ.refl_K hr'.units0 I.kIn J D.at_ D.fn ty PySem.F.slot_tuple_eq (su _ (by decide)) (fun Q' q' => call_meets PySem.F.slot_tuple_eq ty PySem.F.entry_tuple_eq (PySem.F.args_tuple_eq_2 _ _) (HQ.m_tuple (su "tuple" (by decide))) ⟨at0, ho, q'⟩) own
  | dct e =>
    cases rx
    obtain ⟨_, _, vs, _, ⟨oc, od1, odt, osl⟩, es, ep, ho, hx, hd, _⟩ := dk_of I.hok e
    have hc : oc = .type "dict" := hx.1
    simp only at hd
    subst hc hd
    exact HQ.refl_K hr'.units0 I.kIn J D.at_ D.fn ty PySem.F.slot_dict_eq (su _ (by decide)) (fun Q' q' => call_meets PySem.F.slot_dict_eq ty PySem.F.entry_dict_eq (PySem.F.args_dict_eq_2 _ _) (HQ.m_dict (su "dict" (by decide))) ⟨at0, ho, q'⟩) own
end
end Ex

set_option Elab.async false
set_option linter.all false
set_option maxRecDepth 100000
set_option maxHeartbeats 4000000
/-! Own layer: repr(o) by the class's own __repr__; {x!r} of a list or a tuple of data in an f-string. -/
namespace Ex
open PySem PySem.Spec PySem.Calls PyProof.Rows L2 Gu
/-- methods that are called where no repr is under way -/
structure MfG (P : Program) (w : World) (K : PySem.W.Frag) (mg : Str → Option Value) (base : Heap) (k : Nat) (c m : Str) (ps : List Str) (sp : Sp) : Prop where
  ex : ∃ fd, FnG P w K mg base CX0 k (He.ma K (He.ga K c) m) fd ps sp ∧ Binds K fd ps []
  cl : Cls K (He.ga K c)
  me : Meth K (He.ga K c) m (He.ma K (He.ga K c) m)
section
variable {X : Cx} {k j : Nat} {c : Str} {ps : List Str} {sp : Sp}
def rReprO (C : Addr) (sp : Sp) : List V → Hp → VK → Prop := fun xs H Q => ∃ (a dx : Addr) (fs : List (Str × V)), xs = [.ref a] ∧ H a = some (.ins C dx fs) ∧ sp [.ref a] H (fun v H' => ∃ z : Str, v = .str z ∧ Q (.str z) H') E0
theorem call_reprO (D : MfG X.prog X.w X.K X.mg X.base k c "__repr__" ps sp) (hr : RoomG j X.A) (hj : k + 1 ≤ j := by decide) : CallR X (.builtin "repr") (rReprO (He.ga X.K c) sp) := by
  intro pins s σ H xs us Q I r h
  obtain ⟨a, dx, fs, rfl, ha, hq⟩ := h
  obtain ⟨u, rfl, ru⟩ := vals1 r
  obtain rfl : u = Value.ref a := ru
  obtain ⟨fd, F, b⟩ := D.ex
  obtain ⟨mA, J, _⟩ := ins_get I.hok ha
  obtain ⟨od, J, _⟩ := J.look
  obtain ⟨m, hF⟩ := I.fr
  have rm : RoomG k X.A.in1 := ⟨(hr.r.mono hj).in1, hr.g⟩
  have hl := F.len _ _ _ _ hq
  refine PySem.W.repr_K rm.r.units0 hF I.ok.mod.kin J D.me.at_ D.me.fn ?_
  refine wpAny_call (codeAny_mono (F.run X.A.in1 X.stack s H ⟨[.ref a], []⟩ [.ref a] [.ref a] _ E0 rm I.env0.in1 (by
    have := b s [.ref a] I.kIn (by simpa using hl)
    simpa using this) (.cons rfl .nil) hq) fun r s' hq' => ?_)
  match r, hq' with
  | .ok (.ret u), hq' =>
    obtain ⟨v, H', I', rv, z, rfl, q⟩ := I.after hq'
    obtain ⟨t, rfl⟩ := rv
    exact ⟨.str z, H', I', ⟨t, rfl⟩, q⟩
/-- {x!r}, x a list or a tuple -/
def tFmtRQ (K : PySem.W.Frag) (te : TE) : TE := fun σ H Q => te σ H fun x H1 => ∃ (a : Addr) (d : PyData), x = .ref a ∧ Dq K H1 (.ref a) d ∧ d.showable = true ∧ d.depth ≤ 60 ∧ d.shown.length ≤ sizeLine ∧ Q (.str d.shown) H1
theorem pe_fmtRQ (hr : RoomG k X.A) (hs : SysOk X.K) {e : Expr} {te : TE} {pos : Pos} (he : PE X e te) : PE X (.FormattedValue e 114 none pos) (tFmtRQ X.K te) := by
  refine ⟨fun pins s σ H Q I h => ?_⟩
  refine wpAny_FormattedValue_repr (thn (he.run pins s σ H _ I h) fun v s1 hv => ?_)
  obtain ⟨x, H1, I1, r1, a, d, rfl, hd, hsh, hdep, hz, q⟩ := hv
  obtain ⟨as, rd, na⟩ := Dq.reads hs I1 hd v r1
  obtain rfl : v = Value.ref a := r1
  have hu := hr.r.units
  refine pyReprObj_of_reads rd hsh (fun _ => na) hr.g (by omega) (fun _ _ e => e) (fun h' u tk hk => ?_) hz
  exact wpAny_formatField_str ⟨.str d.shown, H1, I1.kept hk, ⟨_, rfl⟩, q⟩ ⟨.str d.shown, H1, I1.kept hk, ⟨_, rfl⟩, q⟩ hz
end
end Ex

set_option Elab.async false
set_option linter.all false
set_option maxRecDepth 100000
set_option maxHeartbeats 4000000
/-! Own layer: classmethods by their names (also in a try's body, also by keywords), making an object through a local name or by keywords. -/
namespace Ex
open PySem PySem.Spec PySem.Calls PyProof.Rows L2 Gu
theorem fnR_of {P : Program} {w : World} {K : PySem.W.Frag} {mg : Str → Option Value} {base : Heap} {CX : CXT} {k : Nat} {f : Addr} {fd : FuncData} {ps : List Str} {sp : Sp} (F : FnOk P w K mg base CX k f fd ps sp) (b : Binds K fd ps []) : FnR P w K mg base CX k f sp :=
  fun A outer s H us vs Q E hr e0 rv h => by
    have hl := F.len _ _ _ _ h
    have KX : K.In s.heap := e0.mod.kin.keeps fun b o e => (e0.bs b o e).1
    have z := b s us KX (by rw [List.append_nil, ← rv.length]; exact hl)
    rw [List.append_nil] at z
    exact F.run A outer s H ⟨us, []⟩ us vs Q E hr e0 z rv h
/-- the classmethod m of the class c -/
structure Cm (P : Program) (w : World) (K : PySem.W.Frag) (mg : Str → Option Value) (base : Heap) (CX : CXT) (k : Nat) (c m : Str) (ps : List Str) (sp : Sp) : Prop where
  rd : ClX.CRead K (He.ga K c) (.type "type")
  ex : ∃ (p g : Addr) (fd : FuncData), ClX.CMet K (He.ga K c) (.type "type") m p g ∧ FnOk P w K mg base CX k g fd ps sp ∧ Binds K fd ps []
def tCMethT (C : Addr) (sp : Sp) (E : L2.St → XK) (ta : TE) (t : TA) : TE := fun σ H Q => ta σ H fun x H1 => x = .ref C ∧ t σ H1 fun vs H2 => sp (.ref C :: vs) H2 Q (E σ)
section
variable {X : Cx} {k j i : Nat} {c m x : Str} {ps : List Str} {sp : Sp} {p pos apos : Pos} {o e : Expr} {es : List Expr} {kws : List Keyword} {t : TA} {ta : TE} {W : WX} {E : XK} {pl : Sem Bool}
open ClX in
theorem pcmT (D : Cm X.prog X.w X.K X.mg X.base (L2.CX X.prog X.w) k c m ps sp) (hr : Room j X.A) (tk : Takes X W) (he : PE X o ta) (ha : PA X (e :: es) t) (hj : k ≤ j := by decide)
    (hst : starEach (e :: es) X.env = (false, eval e X.env) :: starEach es X.env := by rfl) (hpl : (backTo pos (starEach es X.env)).any (·.1) = false := by rfl)
    (ht : eval (.Call (.Attribute o m apos) (e :: es) [] pos) X.env = (do
      let ov ← eval o X.env
      standAt apos.atName
      let (f, first) ← holding [ov] (getMethod ov m pl)
      callWith pos f first (backTo pos (starEach (e :: es) X.env)) (backToKw pos (keywordEach [] X.env))) := by rfl) :
    PE X (.Call (.Attribute o m apos) (e :: es) [] pos) (tCMethT (He.ga X.K c) sp (WE W) ta t) := by
  obtain ⟨pa, g, fd, cm, F, b⟩ := D.ex
  have R := fnR_of F b
  refine ⟨fun pins s σ H Q I h => ?_⟩
  refine PySem.W.methodCall_KW (pl := pl) (thn (he.run pins s σ H _ I h) fun u s1 ⟨x, H1, I1, rx, ex, q⟩ => ?_) ht
  subst ex
  obtain rfl : u = Value.ref (He.ga X.K c) := rx
  refine getmethcm_ok I1 D.rd cm fun s2 I2 => ?_
  refine callwith_cm I2 (base_none I1 (Nat.le_refl _)) cm.fi (thn (ha.run pos _ s2 σ H1 _ I2 q) fun us s3 ⟨vs, H2, I3, rv, q2⟩ => ⟨⟨pin_at I3, I3.kIn⟩, ?_⟩) hst hpl
  have z : wpAny (model X.prog X.w) X.A (call (.ref s1.heap.objs.size) us) (EP X ((s1.heap.objs.size, PySem.W.methodObj (.ref g) (.ref (He.ga X.K c))) :: pins) σ Q) X.xe s3 := by
    refine wpAny_call (PySem.W.method_call (pin_at I3) (codeAny_mono (R X.A X.stack s3 H2 (.ref (He.ga X.K c) :: us) (.ref (He.ga X.K c) :: vs) Q (WE W σ) (hr.mono hj) I3.env0 (.cons rfl rv) q2) fun r s' hq => ?_))
    match r, hq with
    | .error e, hq => exact passAt tk σ _ H2 s3 e s' I3 hq
    | .ok (.ret v), hq => exact I3.after hq
  exact thn z fun _ _ y => unpinE y
theorem pcm (D : Cm X.prog X.w X.K X.mg X.base (L2.CX X.prog X.w) k c m ps sp) (hr : Room j X.A) (hx : Passes (L2.CX X.prog X.w) X E) (he : PE X o ta) (ha : PA X (e :: es) t) (hj : k ≤ j := by decide)
    (hst : starEach (e :: es) X.env = (false, eval e X.env) :: starEach es X.env := by rfl) (hpl : (backTo pos (starEach es X.env)).any (·.1) = false := by rfl)
    (ht : eval (.Call (.Attribute o m apos) (e :: es) [] pos) X.env = (do
      let ov ← eval o X.env
      standAt apos.atName
      let (f, first) ← holding [ov] (getMethod ov m pl)
      callWith pos f first (backTo pos (starEach (e :: es) X.env)) (backToKw pos (keywordEach [] X.env))) := by rfl) :
    PE X (.Call (.Attribute o m apos) (e :: es) [] pos) (ClX.tCMeth (He.ga X.K c) sp E ta t) := by
  obtain ⟨pa, g, fd, cm, F, b⟩ := D.ex
  exact ClX.pe_cmeth he D.rd cm (fnR_of F b) (hr.mono hj) hx ha hst hpl ht
/-- C(e, ..), C in a local slot, its __init__ may raise -/
def tMakeL (i : Nat) (C : Addr) (sp : Sp) (E : L2.St → XK) (t : TA) : TE := fun σ H Q => σ[i]? = some (some (.ref C)) ∧ t σ H fun vs H1 => ∀ x dx, H1 x = none → H1 dx = none → dx ≠ x →
  sp (.ref x :: vs) (upd (upd H1 dx (.own x)) x (.ins C dx [])) (fun v H2 => v = .non ∧ Q (.ref x) H2) (E σ)
structure KfX (P : Program) (w : World) (K : PySem.W.Frag) (mg : Str → Option Value) (base : Heap) (CX : CXT) (k : Nat) (c : Str) (ps : List Str) (sp : Sp) : Prop where
  ex : ∃ fd, FnOk P w K mg base CX k (He.ma K (He.ga K c) "__init__") fd ps sp ∧ Binds K fd ps []
  gl : mg c = some (.ref (He.ga K c))
  mkr : Mk K (He.ga K c) (He.ma K (He.ga K c) "__init__")
def tMakeT (C : Addr) (sp : Sp) (E : L2.St → XK) (t : TA) : TE := fun σ H Q => t σ H fun vs H1 => ∀ x dx, H1 x = none → H1 dx = none → dx ≠ x →
  sp (.ref x :: vs) (upd (upd H1 dx (.own x)) x (.ins C dx [])) (fun v H2 => v = .non ∧ Q (.ref x) H2) (E σ)
theorem run_makeT {pins : List (Addr × Obj)} {σ : L2.St} {H1 : Hp} {s1 : Shared} {Q : VK} {us : List Value} {vs : List V} {CX : CXT} {E : L2.St → XK} (D : KfX X.prog X.w X.K X.mg X.base CX k c ps sp) (hr : Room j X.A) (hx : PassesAt CX X σ (E σ)) (hj : k + 1 ≤ j) (I1 : Inv X pins σ H1 s1) (r : Vals vs us)
    (q : ∀ x dx, H1 x = none → H1 dx = none → dx ≠ x → sp (.ref x :: vs) (upd (upd H1 dx (.own x)) x (.ins (He.ga X.K c) dx [])) (fun v H2 => v = .non ∧ Q (.ref x) H2) (E σ)) :
    wpAny (model X.prog X.w) X.A (call (.ref (He.ga X.K c)) us) (EP X pins σ Q) X.xe s1 := by
  obtain ⟨fd, F, hb⟩ := D.ex
  have hq := q (s1.heap.objs.size + 1) s1.heap.objs.size (I1.hok.fresh (Nat.le_succ _)) (I1.hok.fresh (Nat.le_refl _)) (Nat.ne_of_lt (Nat.lt_succ_self _))
  have J := Inv.made (C := He.ga X.K c) I1
  have r2 : Vals (V.ref (s1.heap.objs.size + 1) :: vs) (Value.ref (s1.heap.objs.size + 1) :: us) := .cons rfl r
  have hl : ((Value.ref (s1.heap.objs.size + 1) :: us) ++ []).length = ps.length := by
    rw [List.append_nil, ← r2.length]
    exact F.len _ _ _ _ hq
  have hb2 := hb _ (Value.ref (s1.heap.objs.size + 1) :: us) J.kIn hl
  rw [List.append_nil] at hb2
  refine wpAny_call (make_map (f := He.ma X.K (He.ga X.K c) "__init__") I1.kIn D.mkr.makes D.mkr.init (beq_iff_eq.mp D.mkr.fn)
    (codeAny_mono (F.run _ X.stack _ _ ⟨Value.ref (s1.heap.objs.size + 1) :: us, []⟩ _ _ _ _ ((hr.mono hj).make (He.ga X.K c) us []) (J.env0.make (He.ga X.K c) us []) hb2 r2 hq) fun o s' z => ?_))
  match o, z with
  | .error er, z => exact hx pins _ _ er s' J z
  | .ok (.ret u), z =>
    obtain ⟨v, H', I3, rv, ev, q3⟩ := J.after z
    subst ev
    exact ⟨rv, ⟨V.ref (s1.heap.objs.size + 1), H', I3, rfl, q3⟩⟩
theorem pmakeT {CX : CXT} {E : L2.St → XK} (D : KfX X.prog X.w X.K X.mg X.base CX k c ps sp) (hr : Room j X.A) (hx : ∀ σ, PassesAt CX X σ (E σ)) (ha : PA X (e :: es) t) (hj : k + 1 ≤ j := by decide) (hg : Gl X c := by rfl) (hdb : (c == ("__debug__" : Str)) = false := by decide)
    (he : starEach (e :: es) X.env = (false, eval e X.env) :: starEach es X.env := by rfl) (hpl : (backTo pos (starEach es X.env)).any (·.1) = false := by rfl) :
    PE X (.Call (.Name c p) (e :: es) [] pos) (tMakeT (He.ga X.K c) sp E t) :=
  ⟨fun pins s σ H Q I h => wpAny_Call_Name_kw (ld_glob I hg D.gl (PySem.W.callWith_K (h₀ := X.base) I.ok.mod.kin D.mkr.kp
    (thn (ha.run pos pins s σ H _ I h) fun us s1 ⟨vs, H1, I1, r, q⟩ => ⟨I1.kIn, run_makeT D hr (hx σ) hj I1 r q⟩) he hpl) hdb)⟩
theorem pmakeLT {CX : CXT} {E : L2.St → XK} (D : KfX X.prog X.w X.K X.mg X.base CX k c ps sp) (hr : Room j X.A) (hx : ∀ σ, PassesAt CX X σ (E σ)) (hN : X.N[i]? = some x) (hv : Vis X.env.scope x) (ha : PA X (e :: es) t) (hj : k + 1 ≤ j := by decide)
    (hdb : (x == ("__debug__" : Str)) = false := by decide) (hcd : (x == ("__classdict__" : Str)) = false := by decide)
    (he : starEach (e :: es) X.env = (false, eval e X.env) :: starEach es X.env := by rfl) (hpl : (backTo pos (starEach es X.env)).any (·.1) = false := by rfl) :
    PE X (.Call (.Name x p) (e :: es) [] pos) (tMakeL i (He.ga X.K c) sp E t) := by
  refine ⟨fun pins s σ H Q I h => ?_⟩
  obtain ⟨hs, ht⟩ := h
  refine wpAny_Call_Name_kw (thn ((pe_var (pos := p) hN hv hdb hcd).run pins s σ H (fun v H1 => v = .ref (He.ga X.K c) ∧ H1 = H) I ⟨.ref (He.ga X.K c), hs, rfl, rfl⟩) fun u s1 ⟨v, H1, I1, r1, q1⟩ => ?_)
  obtain ⟨rfl, rfl⟩ := q1
  cases r1
  exact PySem.W.callWith_K (h₀ := X.base) I.ok.mod.kin D.mkr.kp (thn (ha.run pos pins s1 σ _ _ I1 ht) fun us s2 ⟨vs, H2, I2, r, q⟩ => ⟨I2.kIn, run_makeT D hr (hx σ) hj I2 r q⟩) he hpl
end
/-- a def by its body, for calls while an exception is handled -/
theorem okH {P : Program} {w : World} {K : PySem.W.Frag} {mg : Str → Option Value} {base : Heap} {CX : CXT} {x qual : Str} {params : Arguments} {body : List Stmt} {scope : Scope} {dvs : List V} {kws : List (Str × V)} {f : Addr} {fd : FuncData} {N ps : List Str} {k : Nat} {sp : Sp}
    (F : FunD K x qual params body scope dvs kws f fd) (S : FnScope N ps scope) (len : ∀ vs H Q E, sp vs H Q E → vs.length = ps.length)
    (hbody : ∀ (cdv : Value) (A : Around) (outer : List Env) (s : Shared) (H : Hp) (vs : List V) (Q : VK) (E : XK) (p : Addr × Obj), L2H.Hot1 A p → L2H.RoomH k (A.deeper (envOfC qual scope s.heap.objs.size f cdv)) → sp vs H Q E →
      ∃ t, PSs (L2H.cxH CX P w K mg base N qual scope f cdv A outer s H E p) body t ∧ t { nx := fun _ H' => Q .non H', rt := Q } (L2.start N vs) H) : L2H.FnH P w K mg base CX (k + 1) f fd ps sp := by
  obtain ⟨oc, od, dV, kV, doc, pm, an, cdv, ct, osl, rfl, lk, hcd, _, _⟩ := F.ex
  exact L2H.fn_ofH lk hcd S len fun A outer s H vs Q E p hot hr hsp => hbody cdv A outer s H vs Q E p hot hr hsp
end Ex

set_option Elab.async false
set_option linter.all false
set_option maxRecDepth 100000
set_option maxHeartbeats 4000000
/-! Own layer: an operator's readings side by side; a promise without exceptions as one with them; classmethods and makers by keywords alone. -/
namespace Ex
open PySem PySem.Spec PySem.Calls PyProof.Rows L2 Gu
theorem op_orR {X : Cx} {op : Value → Value → Sem Value} {r1 r2 : R2} (h1 : OpR X op r1) (h2 : OpR X op r2) : OpR X op (fun x y H Q => r1 x y H Q ∨ r2 x y H Q) := by
  intro pins s σ H x y u v Q I rx ry h
  rcases h with h | h
  · exact h1 pins s σ H x y u v Q I rx ry h
  · exact h2 pins s σ H x y u v Q I rx ry h
theorem FnOk.up {P : Program} {w : World} {K : PySem.W.Frag} {mg : Str → Option Value} {base : Heap} {CX : CXT} {k : Nat} {f : Addr} {fd : FuncData} {ps : List Str} {sp : Sp} (F : FnOk P w K mg base CX0 k f fd ps sp) : FnOk P w K mg base CX k f fd ps sp :=
  ⟨F.len, fun A outer s H args us vs Q E hr he hb hv hs => codeAny_mono (F.run A outer s H args us vs Q E hr he hb hv hs) fun r s' h => by
    cases r with
    | error e => exact h.elim
    | ok fl => cases fl <;> exact h⟩
theorem passNN {X : Cx} : Passes (L2N.CX X.prog X.w) X E0 := fun _ _ _ _ _ _ _ ⟨_, _, _, _, _, _, _, _, _, _, _, _, z⟩ => z.elim
/-- the classmethod m of the class c, called by the keywords ks alone -/
structure CmK (P : Program) (w : World) (K : PySem.W.Frag) (mg : Str → Option Value) (base : Heap) (CX : CXT) (k : Nat) (c m : Str) (ps ks : List Str) (j : List Nat) (sp : Sp) : Prop where
  rd : ClX.CRead K (He.ga K c) (.type "type")
  ex : ∃ (p g : Addr) (fd : FuncData), ClX.CMet K (He.ga K c) (.type "type") m p g ∧ FnOk P w K mg base CX k g fd ps sp ∧ ∀ (s : Shared) (u : Value) (ws : List Value), ws.length = ks.length → BindsTo s fd ⟨[u], ks.zip ws⟩ (ps.zip (u :: j.filterMap fun i => ws[i]?))
def tCMethKw (C : Addr) (sp : Sp) (n : Nat) (j : List Nat) (E : XK) (ta : TE) (tk : TA) : TE := fun σ H Q => ta σ H fun x H1 => x = .ref C ∧ tk σ H1 fun zs H2 => zs.length = n ∧ sp (.ref C :: j.filterMap fun i => zs[i]?) H2 Q E
section
variable {X : Cx} {k j i : Nat} {c m x : Str} {ps ks : List Str} {ji : List Nat} {sp : Sp} {p pos apos : Pos} {o e : Expr} {es : List Expr} {kws : List Keyword} {t tk : TA} {ta : TE} {W : WX} {E : XK} {pl : Sem Bool}
open ClX in
theorem pcmK (D : CmK X.prog X.w X.K X.mg X.base (L2.CX X.prog X.w) k c m ps ks ji sp) (hr : Room j X.A) (hx : Passes (L2.CX X.prog X.w) X E) (he : PE X o ta) (hkw : PK X kws tk) (hj : k ≤ j := by decide)
    (hall : (backToKw pos (keywordEach kws X.env)).all (·.1.isSome) = true := by rfl) (hks : (backToKw pos (keywordEach kws X.env)).filterMap (·.1) = ks := by rfl)
    (hpl : ((backTo pos (starEach [] X.env)).any (·.1) || (backToKw pos (keywordEach kws X.env)).any (·.1.isNone)) = false := by rfl)
    (ht : eval (.Call (.Attribute o m apos) [] kws pos) X.env = (do
      let ov ← eval o X.env
      standAt apos.atName
      let (f, first) ← holding [ov] (getMethod ov m pl)
      callWith pos f first (backTo pos (starEach [] X.env)) (backToKw pos (keywordEach kws X.env))) := by rfl) :
    PE X (.Call (.Attribute o m apos) [] kws pos) (tCMethKw (He.ga X.K c) sp ks.length ji E ta tk) := by
  obtain ⟨pa, g, fd, cm, F, b⟩ := D.ex
  refine ⟨fun pins s σ H Q I h => ?_⟩
  refine PySem.W.methodCall_KW (pl := pl) (thn (he.run pins s σ H _ I h) fun u s1 ⟨x, H1, I1, rx, ex, q⟩ => ?_) ht
  subst ex
  obtain rfl : u = Value.ref (He.ga X.K c) := rx
  refine getmethcm_ok I1 D.rd cm fun s2 I2 => ?_
  have kp := PySem.W.keeps_M (M := model X.prog X.w) (q := s1.heap.objs.size) (self := .ref (He.ga X.K c)) cm.fi
  refine PySem.W.callWith_of (P := PySem.W.MethP X.K s1.heap.objs.size g (.ref (He.ga X.K c))) hpl kp (evalArgs_kw2_nil hall (thn (hkw.run pos _ s2 σ H1 _ I2 q) fun ws s3 ⟨zs, H2, I3, rz, l2, q2⟩ => ⟨⟨pin_at I3, I3.kIn⟩, ?_⟩))
  rw [hks]
  have z : wpAny (model X.prog X.w) X.A (call (.ref s1.heap.objs.size) [] (ks.zip ws)) (EP X ((s1.heap.objs.size, PySem.W.methodObj (.ref g) (.ref (He.ga X.K c))) :: pins) σ Q) X.xe s3 := by
    refine wpAny_call (PySem.W.method_call (pin_at I3) (codeAny_mono (F.run X.A X.stack s3 H2 ⟨[.ref (He.ga X.K c)], ks.zip ws⟩ _ (.ref (He.ga X.K c) :: ji.filterMap fun i => zs[i]?) Q E (hr.mono hj) I3.env0 (b s3 (.ref (He.ga X.K c)) ws (rz.length.symm.trans l2)) (.cons rfl (vals_pick rz ji)) q2) fun r s' hq => ?_))
    match r, hq with
    | .error e, hq => exact hx _ σ _ _ e s' I3 hq
    | .ok (.ret v), hq => exact I3.after hq
  exact thn z fun _ _ y => unpinE y
/-- C(k = v, ..) by keywords alone -/
structure KfXK (P : Program) (w : World) (K : PySem.W.Frag) (mg : Str → Option Value) (base : Heap) (CX : CXT) (k : Nat) (c : Str) (ps ks : List Str) (j : List Nat) (sp : Sp) : Prop where
  ex : ∃ fd, FnOk P w K mg base CX k (He.ma K (He.ga K c) "__init__") fd ps sp ∧ ∀ (s : Shared) (u : Value) (ws : List Value), ws.length = ks.length → BindsTo s fd ⟨[u], ks.zip ws⟩ (ps.zip (u :: j.filterMap fun i => ws[i]?))
  gl : mg c = some (.ref (He.ga K c))
  mkr : Mk K (He.ga K c) (He.ma K (He.ga K c) "__init__")
def tMakeKw (C : Addr) (sp : Sp) (n : Nat) (j : List Nat) (E : XK) (tk : TA) : TE := fun σ H Q => tk σ H fun zs H1 => zs.length = n ∧ ∀ x dx, H1 x = none → H1 dx = none → dx ≠ x →
  sp (.ref x :: j.filterMap fun i => zs[i]?) (upd (upd H1 dx (.own x)) x (.ins C dx [])) (fun v H2 => v = .non ∧ Q (.ref x) H2) E
theorem pmakeXK {CX : CXT} (D : KfXK X.prog X.w X.K X.mg X.base CX k c ps ks ji sp) (hr : Room j X.A) (hx : Passes CX X E) (hkw : PK X kws tk) (hj : k + 1 ≤ j := by decide) (hg : Gl X c := by rfl) (hdb : (c == ("__debug__" : Str)) = false := by decide)
    (hall : (backToKw pos (keywordEach kws X.env)).all (·.1.isSome) = true := by rfl) (hks : (backToKw pos (keywordEach kws X.env)).filterMap (·.1) = ks := by rfl)
    (hpl : ((backTo pos (starEach [] X.env)).any (·.1) || (backToKw pos (keywordEach kws X.env)).any (·.1.isNone)) = false := by rfl) :
    PE X (.Call (.Name c p) [] kws pos) (tMakeKw (He.ga X.K c) sp ks.length ji E tk) := by
  obtain ⟨fd, F, hb⟩ := D.ex
  refine ⟨fun pins s σ H Q I h => wpAny_Call_Name_kw (ld_glob I hg D.gl (PySem.W.callWith_KW0 (h₀ := X.base) I.ok.mod.kin D.mkr.kp hall (thn (hkw.run pos pins s σ H _ I h) fun ws s1 ⟨zs, H1, I1, rz, l2, q⟩ => ⟨I1.kIn, ?_⟩) hpl) hdb)⟩
  rw [hks]
  have hq := q (s1.heap.objs.size + 1) s1.heap.objs.size (I1.hok.fresh (Nat.le_succ _)) (I1.hok.fresh (Nat.le_refl _)) (Nat.ne_of_lt (Nat.lt_succ_self _))
  have J := Inv.made (C := He.ga X.K c) I1
  have r2 : Vals (V.ref (s1.heap.objs.size + 1) :: ji.filterMap fun i => zs[i]?) (Value.ref (s1.heap.objs.size + 1) :: ji.filterMap fun i => ws[i]?) := .cons rfl (vals_pick rz ji)
  refine wpAny_call (make_map (f := He.ma X.K (He.ga X.K c) "__init__") I1.kIn D.mkr.makes D.mkr.init (beq_iff_eq.mp D.mkr.fn)
    (codeAny_mono (F.run _ X.stack _ _ ⟨[Value.ref (s1.heap.objs.size + 1)], ks.zip ws⟩ _ _ _ _ ((hr.mono hj).make (He.ga X.K c) [] (ks.zip ws)) (J.env0.make (He.ga X.K c) [] (ks.zip ws)) (hb _ _ ws (rz.length.symm.trans l2)) r2 hq) fun o s' z => ?_))
  match o, z with
  | .error er, z => exact hx pins _ _ _ er s' J z
  | .ok (.ret u), z =>
    obtain ⟨v, H', I3, rv, ev, q3⟩ := J.after z
    subst ev
    exact ⟨rv, ⟨V.ref (s1.heap.objs.size + 1), H', I3, rfl, q3⟩⟩
theorem pcallG0 (D : DfG X.prog X.w X.K X.mg X.base k x ps sp) (hr : RoomG j X.A) (hj : k ≤ j := by decide) (hg : Gl X x := by rfl) (hdb : (x == ("__debug__" : Str)) = false := by decide) : PE X (.Call (.Name x p) [] [] pos) (tCall sp [] E0 tNil) := by
  obtain ⟨fd, F, b⟩ := D.ex
  exact ⟨fun pins s σ H Q I h => wpAny_Call_Name_kw (ld_glob I hg D.gl (PySem.W.callWith_K0 I.kIn D.kp (runG (us := []) F (hr.mono hj) b .nil pass0 I .nil h)) hdb)⟩
theorem pmakeTB {CX : CXT} {E : L2.St → XK} (K : PySem.W.Frag) (D : KfX X.prog X.w X.K X.mg X.base CX k c ps sp) (hr : Room j X.A) (hx : ∀ σ, PassesAt CX X σ (E σ)) (ha : PA X (e :: es) t) (hj : k + 1 ≤ j := by decide) (hK : X.K = K := by rfl) (hg : Gl X c := by rfl) (hdb : (c == ("__debug__" : Str)) = false := by decide)
    (he : starEach (e :: es) X.env = (false, eval e X.env) :: starEach es X.env := by rfl) (hpl : (backTo pos (starEach es X.env)).any (·.1) = false := by rfl) :
    PE X (.Call (.Name c p) (e :: es) [] pos) (tMakeT (He.ga K c) sp E t) := by
  subst hK
  exact pmakeT D hr hx ha hj hg hdb he hpl
end
end Ex

set_option Elab.async false
set_option linter.all false
set_option maxRecDepth 100000
set_option maxHeartbeats 0
namespace Ex
open PySem PySem.Spec PyProof.Rows L2 Gu
/-! ### facts of a class beyond those by names: constants, a property -/
def cvB (K : PySem.W.Frag) (C : Addr) (f : Str) (i : Int) : Bool := match PySem.W.findCls K (.ref C) (.type "type") f with
  | some (.val (.int j _)) => decide (j = i)
  | _ => false
theorem cvB_ok {K : PySem.W.Frag} {C : Addr} {f : Str} {i : Int} (h : cvB K C f i = true) : ∃ u, ClX.CVal K C (.type "type") f (.int i) u := by
  unfold cvB at h
  split at h
  · rename_i j t e
    have ej : j = i := of_decide_eq_true h
    exact ⟨_, e, t, by rw [ej]⟩
  · cases h
def rdB (K : PySem.W.Frag) (C : Addr) : Bool := PySem.W.readsIn K C (.type "type") && He.eqO (PySem.W.specialIn K (.ref C) "__getattribute__") (some (some (.builtin "type.__getattribute__")))
theorem rdB_ok {K : PySem.W.Frag} {C : Addr} (h : rdB K C = true) : ClX.CRead K C (.type "type") := by
  obtain ⟨h1, h2⟩ := He.ba h
  exact ⟨h1, He.eqO_ok h2⟩
def prA (K : PySem.W.Frag) (C : Addr) (f : Str) : Addr := match PySem.W.findIn K (.ref C) f with
  | some (some (.ref p)) => p
  | _ => 0
def pgA (K : PySem.W.Frag) (C : Addr) (f : Str) : Addr := match PySem.W.recIn K (prA K C f) "property" with
  | some (.ref g :: _) => g
  | _ => 0
def prB (K : PySem.W.Frag) (C : Addr) (f : Str) : Bool := He.eqO (PySem.W.findIn K (.ref C) f) (some (some (.ref (prA K C f)))) &&
  (He.eqO (PySem.W.specialIn K (.ref (prA K C f)) "__get__") (some (some (.builtin "property.__get__"))) && (decide (PySem.W.takesIn K (.ref (prA K C f)) = some true) &&
    (match PySem.W.recIn K (prA K C f) "property" with
    | some (.ref _ :: _) => true
    | _ => false)))
theorem prB_ok {K : PySem.W.Frag} {C : Addr} {f : Str} (h : prB K C f = true) : PropOf K C f (prA K C f) (pgA K C f) := by
  obtain ⟨h1, h⟩ := He.ba h
  obtain ⟨h2, h⟩ := He.ba h
  obtain ⟨h3, h4⟩ := He.ba h
  refine ⟨He.eqO_ok h1, He.eqO_ok h2, of_decide_eq_true h3, ?_⟩
  unfold pgA
  split at h4
  · rename_i g r e
    rw [e]
    exact ⟨r, rfl⟩
  · cases h4
/-- the def at an address -/
def fnAt (K : PySem.W.Frag) (a : Addr) : He.FnW := match K.lookup a with
  | some ⟨_, _, .func fd, _⟩ => some (fd.name, fd.qualname, fd.params, fd.body, fd.scope, fd.globals, fd.closure, fd.builtins)
  | _ => none
def okAt (K : PySem.W.Frag) (a : Addr) (qual : Str) : Bool := PySem.W.keepIn K (.ref a) && (match K.lookup a with
  | some ⟨_, _, .func fd, _⟩ => PySem.W.codeIn K fd.code qual && (He.dflB K fd.defaults [] && He.kwdB K fd.kwdefaults [])
  | _ => false)
theorem fun_at {K : PySem.W.Frag} {a : Addr} {name qual : Str} {params : Arguments} {body : List Stmt} {scope : Scope} (e : fnAt K a = some (name, qual, params, .stmts body, scope, mainGlobals, [], builtinsNs)) (c : okAt K a qual = true) :
    ∃ fd, FunD K name qual params body scope [] [] a fd := by
  obtain ⟨kp, c2⟩ := He.ba c
  unfold fnAt at e
  split at e
  · rename_i oc od fd sl q
    rw [q] at c2
    obtain ⟨k1, k2⟩ := He.ba c2
    obtain ⟨k3, k4⟩ := He.ba k2
    obtain ⟨n1, n2, n3, n4, n5, n6, n7, n8, n9, n10, n11, n12, n13, n14, n15⟩ := fd
    simp only [Option.some.injEq, Prod.mk.injEq] at e
    obtain ⟨rfl, rfl, rfl, rfl, rfl, rfl, rfl, rfl⟩ := e
    exact ⟨_, ⟨oc, od, n8, n9, n10, n11, n12, n13, n14, sl, rfl, q, k1, He.dflB_ok k3, He.kwdB_ok k4⟩, kp⟩
  · cases e
def sysB (K : PySem.W.Frag) : Bool := match K.lookup sysModules with
  | some o => decide (o.cls ≠ .type "list")
  | none => false
end Ex

set_option Elab.async false
set_option linter.all false
set_option maxRecDepth 100000
set_option maxHeartbeats 0
namespace Ex
open PySem PySem.Spec PyProof.Rows L2 Gu
/-! ### facts for the end: constants read through an object, classmethods, methods and makers by keywords alone, an error's class over ValueError -/
def conB (K : PySem.W.Frag) (C : Addr) (f : Str) (i : Int) : Bool := match PySem.W.findIn K (.ref C) f with
  | some (some (.int j t)) => decide (j = i) && (He.eqO (PySem.W.specialIn K (.int j t) "__get__") (some none) && !PySem.W.copiedNames.contains f)
  | _ => false
theorem conB_ok {K : PySem.W.Frag} {C : Addr} {f : Str} {i : Int} (h : conB K C f i = true) : ∃ u, Con K C f (.int i) u := by
  unfold conB at h
  split at h
  · rename_i j t e
    obtain ⟨h1, h2⟩ := He.ba h
    obtain ⟨h3, h4⟩ := He.ba h2
    have ej : j = i := of_decide_eq_true h1
    exact ⟨_, e, ⟨t, by rw [ej]⟩, He.eqO_ok h3, by simpa using h4⟩
  · cases h
def cmP (K : PySem.W.Frag) (C : Addr) (m : Str) : Addr := match PySem.W.findCls K (.ref C) (.type "type") m with
  | some (.get _ (.ref p) _ _) => p
  | _ => 0
def cmA (K : PySem.W.Frag) (C : Addr) (m : Str) : Addr := match PySem.W.recIn K (cmP K C m) "classmethod" with
  | some (.ref g :: _) => g
  | _ => 0
def cmB (K : PySem.W.Frag) (C : Addr) (m : Str) : Bool := (match PySem.W.findCls K (.ref C) (.type "type") m with
  | some (.get (.builtin n) (.ref _) .none (.ref c)) => decide (n = "classmethod.__get__") && decide (c = C)
  | _ => false) && ((match PySem.W.recIn K (cmP K C m) "classmethod" with
  | some (.ref _ :: _) => true
  | _ => false) && PySem.W.fnIn K (cmA K C m))
theorem cmB_ok {K : PySem.W.Frag} {C : Addr} {m : Str} (h : cmB K C m = true) : ClX.CMet K C (.type "type") m (cmP K C m) (cmA K C m) := by
  obtain ⟨h1, h⟩ := He.ba h
  obtain ⟨h2, h3⟩ := He.ba h
  refine ⟨?_, ?_, h3⟩
  · unfold cmP
    split at h1
    · rename_i n p c e
      obtain ⟨e1, e2⟩ := He.ba h1
      have e1 : n = "classmethod.__get__" := of_decide_eq_true e1
      have e2 : c = C := of_decide_eq_true e2
      rw [e, e1, e2]
    · cases h1
  · unfold cmA
    split at h2
    · rename_i g r e
      rw [e]
      exact ⟨r, rfl⟩
    · cases h2
/-- keywords alone, behind self or cls -/
theorem bindsKw {K : PySem.W.Frag} {name qual : Str} {params : Arguments} {body : List Stmt} {scope : Scope} {f : Addr} {ps ks : List Str} {j : List Nat} {fd : FuncData} (F : FunD K name qual params body scope [] [] f fd)
    (hb : ∀ (kV doc pm : Value) (an : Option Addr) (cdv ct u : Value) (ws : List Value), ws.length = ks.length → bindArgs (PySem.W.fnOf name qual params body scope .none kV doc pm an cdv ct) ⟨[u], ks.zip ws⟩ = pure (ps.zip (u :: j.filterMap fun i => ws[i]?))) :
    ∀ (s : Shared) (u : Value) (ws : List Value), ws.length = ks.length → BindsTo s fd ⟨[u], ks.zip ws⟩ (ps.zip (u :: j.filterMap fun i => ws[i]?)) := by
  intro s u ws hl
  obtain ⟨oc, od, dV, kV, doc, pm, an, cdv, ct, osl, rfl, lk, hcd, hD, hK⟩ := F.ex
  rcases hD with ⟨_, rfl⟩ | ⟨e, _⟩
  · exact .of_eq (hb kV doc pm an cdv ct u ws hl)
  · exact absurd rfl e
theorem refs_VE (l : List Value) (h : refsB (tailE "ValueError") l = true) : PySem.HandSPX.refsVE l = true := by
  induction l with
  | nil => exact absurd h (by decide +kernel)
  | cons v r ih =>
    rcases refsB_two _ _ h with ⟨c, r', e, h'⟩ | e
    · injection e with e1 e2
      subst e1 e2
      exact ih h'
    · rw [e]
      decide +kernel
theorem ErrG.oxC {K : PySem.W.Frag} {C : Addr} {n : Str} (e : ErrG "ValueError" K C n) : OexC K C := by
  obtain ⟨b, ⟨nm, q, N, bs, bm, sn, sub, ab, col, dd, k0, k1, k2, k3, k5, hC, mr⟩, sa, ex, ty, kC⟩ := e.ox
  exact ⟨⟨nm, q, N, bs, bm, sn, sub, ab, col, dd, k0, k1, k2, k3, k5, hC, refs_VE bm mr⟩, sa, ex, ty, kC⟩
end Ex

set_option Elab.async false
set_option linter.all false
set_option maxRecDepth 100000
set_option maxHeartbeats 4000000
/-! Own layer: fields and methods within a comprehension's block; methods called with keywords; a dict's comprehension over a list. -/
namespace Ex
open PySem PySem.Spec PySem.Calls PyProof.Rows L2 Gu
section
variable {X : Cx} {k j : Nat} {c m : Str} {ps ks : List Str} {sp : Sp} {p pos apos : Pos} {e o : Expr} {es : List Expr} {kws : List Keyword} {t tk : TA} {ta : TE} {f : Str}
theorem pfldB (K : PySem.W.Frag) (he : PE X o ta) (hK : X.K = K := by rfl) (hb : attributeBase o f X.env (eval o X.env) = eval o X.env := by rfl) : PE X (.Attribute o f pos) (tFld K ta f) := by
  subst hK
  exact pe_fld he hb
theorem pmethB {pl : Sem Bool} (K : PySem.W.Frag) (D : Mf X.prog X.w X.K X.mg X.base k c m ps sp) (hr : Room j X.A) (he : PE X o ta) (ha : PA X (e :: es) t) (hj : k ≤ j := by decide) (hK : X.K = K := by rfl)
    (hst : starEach (e :: es) X.env = (false, eval e X.env) :: starEach es X.env := by rfl) (hpl : (backTo pos (starEach es X.env)).any (·.1) = false := by rfl)
    (ht : eval (.Call (.Attribute o m apos) (e :: es) [] pos) X.env = (do
      let ov ← eval o X.env
      standAt apos.atName
      let (f, first) ← holding [ov] (getMethod ov m pl)
      callWith pos f first (backTo pos (starEach (e :: es) X.env)) (backToKw pos (keywordEach [] X.env))) := by rfl) :
    PE X (.Call (.Attribute o m apos) (e :: es) [] pos) (tMeth (He.ga K c) m sp [] E0 ta t) := by
  subst hK
  exact pmeth D hr he ha hj hst hpl ht
/-- a method that is called with n values by position (self among them) and the keywords ks behind them -/
structure MfK (P : Program) (w : World) (K : PySem.W.Frag) (mg : Str → Option Value) (base : Heap) (k : Nat) (c m : Str) (ps : List Str) (n : Nat) (ks : List Str) (sp : Sp) : Prop where
  ex : ∃ fd, FnOk P w K mg base CX0 k (He.ma K (He.ga K c) m) fd ps sp ∧ ∀ (s : Shared) (us ws : List Value), us.length = n → ws.length = ks.length → K.In s.heap → BindsTo s fd ⟨us, ks.zip ws⟩ (ps.zip (us ++ ws))
  cl : Cls K (He.ga K c)
  me : Meth K (He.ga K c) m (He.ma K (He.ga K c) m)
def tMethK (C : Addr) (m : Str) (sp : Sp) (n q : Nat) (ta : TE) (t tk : TA) : TE := fun σ H Q => ta σ H fun x H1 => ∃ a dx fs, x = .ref a ∧ H1 a = some (.ins C dx fs) ∧ fs.lookup m = none ∧
  t σ H1 fun vs H2 => tk σ H2 fun zs H3 => vs.length + 1 = n ∧ zs.length = q ∧ sp (x :: vs ++ zs) H3 Q E0
theorem pmethK {pl : Sem Bool} {n : Nat} (D : MfK X.prog X.w X.K X.mg X.base k c m ps n ks sp) (hr : Room j X.A) (he : PE X o ta) (ha : PA X (e :: es) t) (hkw : PK X kws tk) (hj : k ≤ j := by decide)
    (hst : starEach (e :: es) X.env = (false, eval e X.env) :: starEach es X.env := by rfl)
    (hall : (backToKw pos (keywordEach kws X.env)).all (·.1.isSome) = true := by rfl) (hks : (backToKw pos (keywordEach kws X.env)).filterMap (·.1) = ks := by rfl)
    (hpl : ((backTo pos (starEach (e :: es) X.env)).any (·.1) || (backToKw pos (keywordEach kws X.env)).any (·.1.isNone)) = false := by rfl)
    (ht : eval (.Call (.Attribute o m apos) (e :: es) kws pos) X.env = (do
      let ov ← eval o X.env
      standAt apos.atName
      let (f, first) ← holding [ov] (getMethod ov m pl)
      callWith pos f first (backTo pos (starEach (e :: es) X.env)) (backToKw pos (keywordEach kws X.env))) := by rfl) :
    PE X (.Call (.Attribute o m apos) (e :: es) kws pos) (tMethK (He.ga X.K c) m sp n ks.length ta t tk) := by
  obtain ⟨fd, F, b⟩ := D.ex
  refine ⟨fun pins s σ H Q I h => ?_⟩
  refine PySem.W.methodCall_KW (pl := pl) (thn (he.run pins s σ H _ I h) fun u s1 ⟨x, H1, I1, rx, a, dx, fs, ex, ea, l, q⟩ => ?_) ht
  subst ex
  obtain rfl : u = Value.ref a := rx
  refine getmeth_ok I1 ea D.cl D.me l ?_
  refine PySem.W.callWith_KW (first := [.ref a]) (h₀ := X.base) I.ok.mod.kin D.me.kp hall (thn (ha.run pos pins s1 σ H1 _ I1 q) fun us s2 ⟨vs, H2, I2, r, q2⟩ => thn (hkw.run pos pins s2 σ H2 _ I2 q2) fun ws s3 ⟨zs, H3, I3, rz, hn, hz, q3⟩ => ⟨I3.kIn, ?_⟩) hpl hst
  rw [hks]
  have r2 : Vals (V.ref a :: vs) (Value.ref a :: us) := .cons rfl r
  have r3 : Vals (V.ref a :: vs ++ zs) (Value.ref a :: us ++ ws) := r2.append rz
  have l1 : (Value.ref a :: us).length = n := by
    rw [← r2.length]
    exact hn
  have l2 : ws.length = ks.length := by
    rw [← rz.length]
    exact hz
  refine wpAny_call (codeAny_mono (F.run X.A X.stack s3 H3 ⟨Value.ref a :: us, ks.zip ws⟩ _ _ Q E0 (hr.mono hj) I3.env0 (b s3 (Value.ref a :: us) ws l1 l2 I3.kIn) r3 q3) fun r s' hq => ?_)
  match r, hq with
  | .ok (.ret u), hq => exact I3.after hq
end
/-- a dict's comprehension over a list that stays -/
theorem dc_list {K : PySem.W.Frag} {a : Addr} {xs : List V} {g : TG} {tt : TT} {tk tv : TE} {vs : List Nat} {σ : L2.St} {H1 : Hp} {D : Addr} {Qd : Hp → Prop} (Pv : Nat → Hp → Prop) (h0 : Pv 0 (upd H1 D (.dK []))) (hl : ∀ i H, i ≤ xs.length → Pv i H → SqL K H a xs)
    (hs : ∀ i x H, xs[i]? = some x → Pv i H → g x (wipe σ vs) H fun σ2 H2 => wipe σ2 vs = wipe σ vs ∧ tt σ2 H2 fun b H3 =>
      if b = true then tk σ2 H3 fun y H4 => tv σ2 H4 fun z H5 => ∃ kvs k, y = kV k ∧ H5 D = some (.dK kvs) ∧ kvs.length < sizeLine ∧ Pv (i + 1) (upd H5 D (.dK (putK kvs k z))) else Pv (i + 1) H3) (hd : ∀ H, Pv xs.length H → Qd H) :
    ∃ W : Nat → Nat → Hp → Prop, (∃ m, W 0 m (upd H1 D (.dK []))) ∧ ∀ i m H, W i m H →
      ((Itl K a).stop i H ∧ Qd H) ∨ ((Itl K a).go i H ∧ ∃ Nx : Hp → Prop, (∀ H', Nx H' → ∃ m', m' < m ∧ W (i + 1) m' H') ∧ ∀ x H', (Itl K a).yld i H x H' → g x (wipe σ vs) H' fun σ2 H2 => wipe σ2 vs = wipe σ vs ∧ tt σ2 H2 fun b H3 =>
        if b = true then tk σ2 H3 fun y H4 => tv σ2 H4 fun z H5 => ∃ kvs k, y = kV k ∧ H5 D = some (.dK kvs) ∧ kvs.length < sizeLine ∧ Nx (upd H5 D (.dK (putK kvs k z))) else Nx H3) := by
  refine ⟨fun i m H => m = xs.length - i ∧ i ≤ xs.length ∧ Pv i H, ⟨xs.length, by simp, Nat.zero_le _, h0⟩, ?_⟩
  rintro i m H ⟨rfl, hi, p⟩
  have q := hl i H hi p
  by_cases hlt : i < xs.length
  · refine .inr ⟨⟨xs, xs[i], q, by simp [hlt]⟩, Pv (i + 1), fun H' p' => ⟨xs.length - (i + 1), by omega, rfl, hlt, p'⟩, fun x H' y => ?_⟩
    obtain ⟨e, y⟩ := y
    subst e
    exact hs i x _ (y xs q) p
  · have e : i = xs.length := by omega
    subst e
    exact .inl ⟨⟨xs, q, Nat.le_refl _⟩, hd H p⟩
end Ex

set_option Elab.async false
set_option linter.all false
set_option maxRecDepth 100000
set_option maxHeartbeats 4000000
/-! Own layer: a keyword-only default that is the empty tuple; a call with the keyword given. -/
namespace Ex
open PySem PySem.Spec PyProof.Rows L2 Gu
def tup0 (K : PySem.W.Frag) (z : Addr) : Bool := match K.lookup z with
  | some ⟨.type c, _, .seq its _, _⟩ => decide (c = "tuple") && decide (its.size = 0)
  | _ => false
theorem tup0_ok {K : PySem.W.Frag} {z : Addr} (h : tup0 K z = true) : ∃ (o : Obj) (n : Nat), K.lookup z = some o ∧ o.cls = .type "tuple" ∧ o.data = .seq #[] n := by
  unfold tup0 at h
  split at h
  · rename_i c d its n sl e
    obtain ⟨h1, h2⟩ := He.ba h
    have e1 := of_decide_eq_true h1
    have e2 := of_decide_eq_true h2
    have e3 : its = #[] := Array.eq_empty_of_size_eq_zero e2
    subst e1
    subst e3
    exact ⟨_, n, e, rfl, rfl⟩
  · cases h
def kwV (K : PySem.W.Frag) (k : Str) : Value → Bool
  | .ref D => (match PySem.W.nsIn K D k with
    | some (some (.ref z)) => tup0 K z
    | _ => false)
  | _ => false
def kwB (K : PySem.W.Frag) (f : Addr) (k : Str) : Bool := match K.lookup f with
  | some ⟨_, _, .func fd, _⟩ => kwV K k fd.kwdefaults
  | _ => false
section
variable {K : PySem.W.Frag} {x qual : Str} {params : Arguments} {body : List Stmt} {scope : Scope} {kws : List (Str × V)} {f : Addr} {fd : FuncData} {ps ks : List Str} {k : Str}
theorem kwB_ok (F : FunD K x qual params body scope [] [] f fd) (h : kwB K f k = true) : ∃ (z : Addr) (o : Obj) (n : Nat), FunD K x qual params body scope [] [(k, .ref z)] f fd ∧ K.lookup z = some o ∧ o.cls = .type "tuple" ∧ o.data = .seq #[] n := by
  obtain ⟨⟨oc, od, dV, kV, doc, pm, an, cdv, ct, osl, rfl, lk, hcd, hD, hK⟩, kp⟩ := F
  unfold kwB at h
  rw [lk] at h
  have h1 : kwV K k kV = true := h
  cases kV with
  | ref D =>
    have h2 : (match PySem.W.nsIn K D k with
      | some (some (.ref z)) => tup0 K z
      | _ => false) = true := h1
    split at h2
    · rename_i z e
      obtain ⟨o, n, a, b, c⟩ := tup0_ok h2
      refine ⟨z, o, n, ⟨⟨oc, od, dV, _, doc, pm, an, cdv, ct, osl, rfl, lk, hcd, hD, .inr ⟨D, rfl, fun q hq => ?_⟩⟩, kp⟩, a, b, c⟩
      cases List.mem_singleton.mp hq
      exact ⟨_, e, rfl⟩
    · cases h2
  | _ => cases h1
theorem bindsK {n : Nat} (F : FunD K x qual params body scope [] kws f fd)
    (h : ∀ (kV doc pm : Value) (an : Option Addr) (cdv ct : Value) (us ws : List Value), us.length = n → ws.length = ks.length → bindArgs (PySem.W.fnOf x qual params body scope .none kV doc pm an cdv ct) ⟨us, ks.zip ws⟩ = pure (ps.zip (us ++ ws)))
    (s : Shared) (us ws : List Value) (hu : us.length = n) (hw : ws.length = ks.length) (_ : K.In s.heap) : BindsTo s fd ⟨us, ks.zip ws⟩ (ps.zip (us ++ ws)) := by
  obtain ⟨oc, od, dV, kV, doc, pm, an, cdv, ct, osl, rfl, lk, hcd, hD, hK⟩ := F.ex
  rcases hD with ⟨_, rfl⟩ | ⟨e, _⟩
  · exact .of_eq (h kV doc pm an cdv ct us ws hu hw)
  · exact absurd rfl e
end
end Ex

set_option Elab.async false
set_option linter.all false
set_option maxRecDepth 100000
set_option maxHeartbeats 4000000
namespace K26
open PySem PySem.Spec PyProof.Rows L2 Gu Ex
def top (i : Nat) : Stmt := PySem.Challenge.pw_exactroom_k26_layout_errors.main.body.getD i (.Pass ⟨0, 0, 0, 0⟩)
abbrev FnP (K : PySem.W.Frag) (x qual : Str) (st : Stmt) (f : Addr) (fd : FuncData) : Prop := FunD K x qual (defArgs st) (defBody st) (defScope st) [] [] f fd
/-- what the top has left -/
structure Tx (K : PySem.W.Frag) (mg : Str → Option Value) : Prop where
  n_len : mg "len" = none
  n_isinstance : mg "isinstance" = none
  n_int : mg "int" = none
  n_bool : mg "bool" = none
  n_list : mg "list" = none
  n_range : mg "range" = none
  n_divmod : mg "divmod" = none
  n_abs : mg "abs" = none
  n_max : mg "max" = none
  n_min : mg "min" = none
  n_enumerate : mg "enumerate" = none
  n_all : mg "all" = none
  n_sum : mg "sum" = none
  n_tuple : mg "tuple" = none
  n_sorted : mg "sorted" = none
  n_repr : mg "repr" = none
  n_set : mg "set" = none
  n_dict : mg "dict" = none
  n_any : mg "any" = none
  g_Sizes : mg "Sizes" = some (.ref (He.ga K "Sizes"))
  cl : Cls K (He.ga K "Sizes")
  nSL : NoAttr K (He.ga K "Sizes") "size_list"
  rd : ClX.CRead K (He.ga K "Sizes") (.type "type")
  cS : ∃ u, ClX.CVal K (He.ga K "Sizes") (.type "type") "MAX_SIZE" (.int 1000000000) u
  cN : ∃ u, ClX.CVal K (He.ga K "Sizes") (.type "type") "MAX_SIZES" (.int 8) u
  sys : SysOk K
  cC : ∃ u, ClX.CVal K (He.ga K "Sizes") (.type "type") "MAX_CELLS" (.int 1000000000000) u
  g_Layout : mg "Layout" = some (.ref (He.ga K "Layout"))
  ly : Cls K (He.ga K "Layout")
  nST : NoAttr K (He.ga K "Layout") "size_table"
  nCC : NoAttr K (He.ga K "Layout") "cell_count"
  nFC : NoAttr K (He.ga K "Layout") "free_count"
  nBL : NoAttr K (He.ga K "Layout") "block_list"
  iS : InsOk K (He.ga K "Sizes")
  iL : InsOk K (He.ga K "Layout")
  n_str : mg "str" = none
  n_LookupError : mg "LookupError" = none
  n_RuntimeError : mg "RuntimeError" = none
  n_ValueError : mg "ValueError" = none
  g_InvalidAddress : mg "InvalidAddress" = some (.ref (He.ga K "InvalidAddress"))
  g_UnknownBlock : mg "UnknownBlock" = some (.ref (He.ga K "UnknownBlock"))
  g_Occupied : mg "Occupied" = some (.ref (He.ga K "Occupied"))
  eA : ErrG "ValueError" K (He.ga K "InvalidAddress") "value"
  eU : ErrG "LookupError" K (He.ga K "UnknownBlock") "value"
  eO : ErrG "RuntimeError" K (He.ga K "Occupied") "address"
  kA : PySem.W.kitOne K (.ref (He.ga K "InvalidAddress")) (.type "ValueError") = some true
  kU : PySem.W.kitOne K (.ref (He.ga K "UnknownBlock")) (.type "LookupError") = some true
  kO : PySem.W.kitOne K (.ref (He.ga K "Occupied")) (.type "RuntimeError") = some true
  nAU : PySem.W.exmOne K (.ref (He.ga K "InvalidAddress")) (.ref (He.ga K "UnknownBlock")) = some false
  ne : NeOk K (He.ga K "Sizes")
  g_InvalidLevel : mg "InvalidLevel" = some (.ref (He.ga K "InvalidLevel"))
  g_InvalidNumber : mg "InvalidNumber" = some (.ref (He.ga K "InvalidNumber"))
  g_InvalidNumbers : mg "InvalidNumbers" = some (.ref (He.ga K "InvalidNumbers"))
  g_RoomError : mg "RoomError" = some (.ref (He.ga K "RoomError"))
  g_UnknownName : mg "UnknownName" = some (.ref (He.ga K "UnknownName"))
  g_NoRoom : mg "NoRoom" = some (.ref (He.ga K "NoRoom"))
  eL : ErrG "ValueError" K (He.ga K "InvalidLevel") "value"
  eNu : ErrG "ValueError" K (He.ga K "InvalidNumber") "value"
  eNs : ErrG "ValueError" K (He.ga K "InvalidNumbers") "position"
abbrev cA (K : PySem.W.Frag) : Addr := He.ga K "InvalidAddress"
abbrev cU (K : PySem.W.Frag) : Addr := He.ga K "UnknownBlock"
abbrev cL (K : PySem.W.Frag) : Addr := He.ga K "InvalidLevel"
abbrev cNu (K : PySem.W.Frag) : Addr := He.ga K "InvalidNumber"
abbrev cNs (K : PySem.W.Frag) : Addr := He.ga K "InvalidNumbers"
abbrev cO (K : PySem.W.Frag) : Addr := He.ga K "Occupied"
/-- a list of sizes -/
structure Good (ns : List Int) : Prop where
  len : 1 ≤ ns.length ∧ ns.length ≤ 8
  one : ns[0]? = some 1
  rng : ∀ (i : Nat) x, ns[i]? = some x → 1 ≤ x ∧ x ≤ 1000000000
  up : ∀ (i : Nat) x y, ns[i]? = some x → ns[i + 1]? = some y → x < y ∧ y % x = 0
section
variable {P : Program} {w : World} {K : PySem.W.Frag} {mg : Str → Option Value} {base : Heap} {f : Addr} {fd : FuncData}
theorem bT {c : Prop} [Decidable c] (h : c) : V.bl (decide c) = V.bl true := congrArg V.bl (decide_eq_true h)
theorem bF {c : Prop} [Decidable c] (h : ¬ c) : V.bl (decide c) = V.bl false := congrArg V.bl (decide_eq_false h)
theorem ifT {c : Bool} {A B : Prop} (h : c = true) (x : A) : if c = true then A else B := by rw [h]; exact iteT x
theorem ifF {c : Bool} {A B : Prop} (h : c = false) (x : B) : if c = true then A else B := by rw [h]; exact iteF x
theorem vT {a b : Int} (h : a = b) : decide (V.int a = V.int b) = true := decide_eq_true (by rw [h])
theorem vF {a b : Int} (h : a ≠ b) : decide (V.int a = V.int b) = false := decide_eq_false fun z => h (V.int.inj z)
def spInt : Sp := fun vs H Q _ => ∃ i : Int, vs = [.int i] ∧ Q (.bl true) H
theorem sc_is_integer : FnScope ["value"] ["value"] (defScope (top 14)) := ⟨rfl, rfl, rfl, by decide +kernel, rfl, by decide +kernel, by decide +kernel⟩
theorem ok_is_integer (T : Tx K mg) (F : FnP K "is_integer" "is_integer" (top 14) f fd) : FnOk P w K mg base CX0 1 f fd ["value"] spInt := by
  refine F.ok sc_is_integer (fun vs H Q E h => ?_) (fun cdv A outer s H vs Q E hr h => ⟨_, PSs.nox (pss_one (ps_ret (pe_and (pe_callB call_isi (by rfl) T.n_isinstance (by decide +kernel) (pa_cons (pv 0) (pa_cons (pe_bltn (v := .ty "int") (by rfl) T.n_int (by decide +kernel) rfl) pa_nil))) (pe_one (pe_not (pe_callB call_isi (by rfl) T.n_isinstance (by decide +kernel) (pa_cons (pv 0) (pa_cons (pe_bltn (v := .ty "bool") (by rfl) T.n_bool (by decide +kernel) rfl) pa_nil)))))))), ?_⟩)
  · obtain ⟨i, rfl, _⟩ := h
    rfl
  · obtain ⟨i, rfl, q⟩ := h
    refine ⟨_, rfl, _, _, _, _, true, rfl, .ty "int", .base (.int i), kit_ty (by decide +kernel), _, rfl, iteT ?_⟩
    exact ⟨_, rfl, _, _, _, _, false, rfl, .ty "bool", .base (.int i), kit_ty (by decide +kernel), _, rfl, q⟩
/-- a good list at a, a place in it -/
def spProblem (K : PySem.W.Frag) : Sp := fun vs H Q _ => ∃ (a : Addr) (ns : List Int) (p : Nat), vs = [.ref a, .int p] ∧ SqL K H a (ns.map V.int) ∧ Good ns ∧ p < ns.length ∧ Q .non H
theorem at_map {ns : List Int} {p : Nat} {x : Int} (h : ns[p]? = some x) : atI (ns.map V.int) (p : Int) = some (.int x) := atI_nat (by rw [List.getElem?_map, h]; rfl)
theorem sc_size_problem : FnScope ["values", "position", "size", "before"] ["values", "position"] (defScope (top 18)) := ⟨rfl, rfl, rfl, by decide +kernel, rfl, by decide +kernel, by decide +kernel⟩
theorem ok_size_problem (T : Tx K mg) (D_is_integer : Df P w K mg base 1 "is_integer" ["value"] spInt) (F : FnP K "size_problem" "size_problem" (top 18) f fd) :
    FnOk P w K mg base CX0 2 f fd ["values", "position"] (spProblem K) := by
  refine F.ok sc_size_problem (fun vs H Q E h => ?_) (fun cdv A outer s H vs Q E hr h => ⟨_, PSs.nox (pss_cons (ps_set (i := 2) sc_size_problem.nd rfl (by first | exact Or.inl rfl | exact Or.inr rfl) (pe_ix ix_list (pv 0) (pv 1) (fun _ _ => rfl))) (pss_cons (ps_if (PW.pt (pw_or (pt_not (pt_val (pcall D_is_integer hr (pa_cons (pv 2) pa_nil)))) (pw_or1 (pt_not (pt_chain op_le op_le pe_int (pv 2) (ClX.pe_cval (pe_glob (v := .ref _) rfl T.g_Sizes rfl))))))) (pss_one (ps_ret pe_str)) pss_nil) (pss_cons (ps_if (pt_cmpR op_eq (pv 1) pe_int (nomark _)) (pss_one (ps_ret (pe_ifExp (pt_cmpR op_eq (pv 2) pe_int (nomark _)) pe_non pe_str))) pss_nil) (pss_cons (ps_set (i := 3) sc_size_problem.nd rfl (by first | exact Or.inl rfl | exact Or.inr rfl) (pe_ix ix_list (pv 0) (pe_op op_sub (pv 1) pe_int) (fun _ _ => rfl))) (pss_cons (ps_if (PW.pt (pw_or (pt_cmpR op_le (pv 2) (pv 3) (nomark _)) (pw_or1 (pt_cmpR op_ne (pe_op op_mod (pv 2) (pv 3)) pe_int (nomark _))))) (pss_one (ps_ret pe_str)) pss_nil) (pss_one (ps_ret pe_non))))))), ?_⟩)
  · obtain ⟨a, ns, p, rfl, _⟩ := h
    rfl
  · obtain ⟨a, ns, p, rfl, hS, g, hp, q⟩ := h
    have hx : ns[p]? = some ns[p] := List.getElem?_eq_getElem hp
    obtain ⟨b1, b2⟩ := g.rng p _ hx
    obtain ⟨u, cS⟩ := T.cS
    refine ⟨_, rfl, _, rfl, a, _, _, _, rfl, rfl, hS, at_map hx, ?_⟩
    refine ⟨_, rfl, _, rfl, true, rfl, iteF ?_⟩
    refine ⟨_, rfl, _, _, rfl, rfl, true, bT b1, iteT ?_⟩
    refine ⟨_, _, _, _, rfl, T.rd, cS, _, _, rfl, rfl, true, bT b2, iteF ?_⟩
    by_cases h0 : p = 0
    · subst h0
      have e1 : ns[0] = 1 := Option.some.inj (hx.symm.trans g.one)
      exact ⟨_, rfl, rfl, _, rfl, ifT (vT rfl) ⟨_, rfl, rfl, _, rfl, ifT (vT e1) q⟩⟩
    · refine ⟨_, rfl, rfl, _, rfl, ifF (vF (by omega)) ?_⟩
      have hp1 : p - 1 < ns.length := by omega
      have hy : ns[p - 1]? = some ns[p - 1] := List.getElem?_eq_getElem hp1
      have hx2 : ns[p - 1 + 1]? = some ns[p] := by rw [show p - 1 + 1 = p by omega]; exact hx
      obtain ⟨u1, u2⟩ := g.up (p - 1) _ _ hy hx2
      have u3 := (g.rng _ _ hy).1
      refine ⟨_, rfl, _, rfl, _, _, rfl, rfl, a, _, _, _, rfl, rfl, hS, (by rw [show ((p : Int) - 1) = ((p - 1 : Nat) : Int) by omega]; exact at_map hy), ?_⟩
      refine ⟨_, rfl, _, rfl, _, _, rfl, rfl, false, bF (by omega), iteF ?_⟩
      refine ⟨_, rfl, _, rfl, _, _, rfl, rfl, (by show (0 : Int) < _; omega), rfl, false, ?_, iteF q⟩
      exact congrArg V.bl (by rw [vT u2]; rfl)
/-- a good list -/
def spCheck (K : PySem.W.Frag) : Sp := fun vs H Q _ => ∃ (a : Addr) (ns : List Int), vs = [.ref a] ∧ SqL K H a (ns.map V.int) ∧ TyX K H (.ref a) (.type "list") ∧ Good ns ∧ Q .non H
theorem sc_check_sizes : FnScope ["values", "position", "problem"] ["values"] (defScope (top 19)) := ⟨rfl, rfl, rfl, by decide +kernel, rfl, by decide +kernel, by decide +kernel⟩
theorem ok_check_sizes (T : Tx K mg) (D_size_problem : Df P w K mg base 2 "size_problem" ["values", "position"] (spProblem K)) (F : FnP K "check_sizes" "check_sizes" (top 19) f fd) :
    FnOk P w K mg base CX0 3 f fd ["values"] (spCheck K) := by
  refine F.ok sc_check_sizes (fun vs H Q E h => ?_) (fun cdv A outer s H vs Q E hr h => ⟨_, PSs.nox (pss_cons (ps_if (pt_not (pt_val (pe_callB call_isi (by rfl) T.n_isinstance (by decide +kernel) (pa_cons (pv 0) (pa_cons (pe_bltn (v := .ty "list") (by rfl) T.n_list (by decide +kernel) rfl) pa_nil))))) (pss_one ps_never) pss_nil) (pss_cons (ps_for PassesOwn.never rfl (pi_range1 rfl T.n_range (pa_cons (pe_callB call_len_seq (by rfl) T.n_len (by decide +kernel) (pa_cons (pv 0) pa_nil)) pa_nil)) (pg_name (i := 1) sc_check_sizes.nd rfl (by first | exact Or.inl rfl | exact Or.inr rfl)) (pss_cons (ps_set (i := 2) sc_check_sizes.nd rfl (by first | exact Or.inl rfl | exact Or.inr rfl) (pcall D_size_problem hr (pa_cons (pv 0) (pa_cons (pv 1) pa_nil)))) (pss_one (ps_if (pt_cmpR op_notN (pv 2) pe_non (nomark _)) (pss_one ps_never) pss_nil)))) (pss_one (ps_if (pt_not (pt_chain op_le op_le pe_int (pe_callB call_len_seq (by rfl) T.n_len (by decide +kernel) (pa_cons (pv 0) pa_nil)) (ClX.pe_cval (pe_glob (v := .ref _) rfl T.g_Sizes rfl)))) (pss_one ps_never) pss_nil)))), ?_⟩)
  · obtain ⟨a, ns, rfl, _⟩ := h
    rfl
  · obtain ⟨a, ns, rfl, hS, ty, g, q⟩ := h
    obtain ⟨u, cN⟩ := T.cN
    obtain ⟨l1, l2⟩ := g.len
    refine ⟨_, rfl, _, _, _, _, true, rfl, .ty "list", ty, kit_ty (by decide +kernel), true, rfl, iteF ?_⟩
    refine ⟨_, rfl, a, _, rfl, .inl hS, _, rfl, (by simp only [List.length_map]; omega), (by simp only [List.length_map]; omega), ?_⟩
    refine for_range (fun i σ H' => H' = H ∧ ∃ x y, σ = [some (.ref a), x, y]) ⟨rfl, none, none, rfl⟩ ?_ ?_
    · rintro i σ H' hi ⟨rfl, x, y, rfl⟩
      have hi2 : i < ns.length := by simpa using hi
      refine ⟨_, rfl, _, rfl, a, ns, i, (by rw [Int.zero_add]; rfl), hS, g, hi2, ?_⟩
      exact ⟨_, rfl, rfl, false, rfl, iteF ⟨rfl, _, _, rfl⟩⟩
    · rintro σ H' ⟨rfl, x, y, rfl⟩
      refine ⟨_, rfl, a, _, rfl, .inl hS, _, _, rfl, rfl, true, bT (by simp only [List.length_map]; omega), iteT ?_⟩
      exact ⟨_, _, _, _, rfl, T.rd, cN, _, _, rfl, rfl, true, bT (by simp only [List.length_map]; omega), iteF q⟩
end
end K26

set_option Elab.async false
set_option linter.all false
set_option maxRecDepth 100000
set_option maxHeartbeats 0
namespace Ex
open PySem PySem.Spec PyProof.Rows L2 Gu
/-- keywords alone, behind self; keyword-only defaults may stand -/
theorem bindsKwD {K : PySem.W.Frag} {name qual : Str} {params : Arguments} {body : List Stmt} {scope : Scope} {kws : List (Str × V)} {f : Addr} {ps ks : List Str} {j : List Nat} {fd : FuncData} (F : FunD K name qual params body scope [] kws f fd)
    (hb : ∀ (kV doc pm : Value) (an : Option Addr) (cdv ct u : Value) (ws : List Value), ws.length = ks.length → bindArgs (PySem.W.fnOf name qual params body scope .none kV doc pm an cdv ct) ⟨[u], ks.zip ws⟩ = pure (ps.zip (u :: j.filterMap fun i => ws[i]?))) :
    ∀ (s : Shared) (u : Value) (ws : List Value), ws.length = ks.length → BindsTo s fd ⟨[u], ks.zip ws⟩ (ps.zip (u :: j.filterMap fun i => ws[i]?)) := by
  intro s u ws hl
  obtain ⟨oc, od, dV, kV, doc, pm, an, cdv, ct, osl, rfl, lk, hcd, hD, hK⟩ := F.ex
  rcases hD with ⟨_, rfl⟩ | ⟨e, _⟩
  · exact .of_eq (hb kV doc pm an cdv ct u ws hl)
  · exact absurd rfl e
/-! ### the tables of the defs' code objects -/
def cdA (K : PySem.W.Frag) (x : Str) : Addr := match PySem.W.tabIn K x with
  | some (c, _) => c
  | none => 0
def ptA (K : PySem.W.Frag) (x : Str) : Addr := match PySem.W.tabIn K x with
  | some (_, P) => P
  | none => 0
def tabB (K : PySem.W.Frag) (x : Str) : Bool := match PySem.W.tabIn K x with
  | some (c, P) => PySem.W.codeHdIn K c P && (K.lookup P).isNone
  | none => false
theorem tabB_ok {K : PySem.W.Frag} {x : Str} (h : tabB K x = true) : PySem.W.tabIn K x = some (cdA K x, ptA K x) ∧ PySem.W.codeHdIn K (cdA K x) (ptA K x) = true ∧ K.lookup (ptA K x) = none := by
  unfold tabB at h
  unfold cdA ptA
  split at h
  · rename_i c P e
    obtain ⟨h1, h2⟩ := He.ba h
    rw [e]
    exact ⟨rfl, h1, by simpa using h2⟩
  · cases h
theorem tab_code {K : PySem.W.Frag} {x name qual : Str} {c P : Addr} {params : Arguments} {body : List Stmt} {scope : Scope} {dvs : List V} {kws : List (Str × V)} {fd : FuncData} (h : PySem.W.tabIn K x = some (c, P)) (F : FunD K name qual params body scope dvs kws (He.ga K x) fd) : fd.code = .ref c := by
  obtain ⟨oc, od, dV, kV, doc, pm, an, cdv, ct, osl, rfl, lk, _⟩ := F.ex
  unfold PySem.W.tabIn at h
  split at h
  · rename_i f hf
    have e : He.ga K x = f := by
      unfold He.ga
      rw [hf]
    rw [← e, lk] at h
    dsimp only at h
    split at h
    · rename_i c2 hc
      split at h
      · split at h
        · cases h
          rfl
        · cases h
      · cases h
    · cases h
  · cases h
/-- the addresses of the written part, without the tables of xs -/
def pt0s (g : Addr → Option Obj) (n : Nat) (xs : List Str) : List Addr := xs.map fun x => ptA (He.frG g (cStatics :: sysModules :: He.asD g n)) x
def kkGs (g : Addr → Option Obj) (n : Nat) (xs : List Str) : PySem.W.Frag := He.frG g ((cStatics :: sysModules :: He.asD g n).filter fun a => !(pt0s g n xs).contains a)
end Ex
namespace K26
open PySem PySem.Spec PyProof.Rows L2 Gu Ex
/-! ### what the run is asked of the six classes and of the five tables -/
def ecB (K : PySem.W.Frag) (C : Addr) : Bool := xfB K C && (He.eqO (PySem.W.findIn K (.ref C) "__class__") (some (some (.builtin "object.__class__"))) &&
  (He.eqO (PySem.W.specialIn K (.builtin "object.__class__") "__get__") (some (some (.builtin "getset_descriptor.__get__"))) && (bOf (PySem.W.takesIn K (.builtin "object.__class__")) true && bOf (PySem.W.mroIn K C (.type "object")) true)))
/-- the six classes in the law's order -/
def wc (K : PySem.W.Frag) : Nat → Addr
  | 0 => cL K
  | 1 => cA K
  | 2 => cNu K
  | 3 => cNs K
  | 4 => cU K
  | _ => cO K
def fldOf : Nat → Str
  | 3 => "position"
  | 5 => "address"
  | _ => "value"
def kxB (K : PySem.W.Frag) (j : Nat) : Bool := ecB K (wc K j) && ((List.range 6).all (fun i => bOf (PySem.W.kitOne K (.ref (wc K j)) (.ref (wc K i))) (decide (i = j))) && (bOf (PySem.W.kitAny K (.ref (wc K j)) [.ref (He.ga K "UnknownName"), .ref (He.ga K "NoRoom")]) false &&
  (bOf (PySem.W.kitOne K (.ref (wc K j)) (.ref (He.ga K "RoomError"))) (decide (j < 4)) && (bOf (PySem.W.kitOne K (.ref (wc K j)) (.type "LookupError")) (decide (j = 4)) && (bOf (PySem.W.kitOne K (.ref (wc K j)) (.type "RuntimeError")) (decide (j = 5)) &&
  (He.eqO (PySem.W.findIn K (.ref (wc K j)) (fldOf j)) (some none) && (bOf (PySem.W.exmAny K (.ref (wc K j)) [.ref (cL K), .ref (cA K), .ref (cNu K), .ref (cU K)]) (decide (j ≠ 3 ∧ j ≠ 5)) &&
  (bOf (PySem.W.exmOne K (.ref (wc K j)) (.ref (cNs K))) (decide (j = 3)) && bOf (PySem.W.exmOne K (.ref (wc K j)) (.ref (cO K))) (decide (j = 5))))))))))
/-- the five tables -/
def tabNs : List Str := ["_law_level_calls", "_law_number_calls", "_law_place_calls", "_law_occupied_right", "_law_bools_right"]
def PtK (K : PySem.W.Frag) : Nat → Addr
  | 0 => ptA K "_law_level_calls"
  | 1 => ptA K "_law_number_calls"
  | 2 => ptA K "_law_place_calls"
  | 3 => ptA K "_law_occupied_right"
  | _ => ptA K "_law_bools_right"
def injB (K : PySem.W.Frag) : Bool := (List.range 5).all fun i => (List.range 5).all fun j => decide (i = j) || !decide (PtK K i = PtK K j)
end K26

set_option Elab.async false
set_option linter.all false
set_option maxRecDepth 100000
set_option maxHeartbeats 0
namespace K26
open PySem PySem.Spec PyProof.Rows L2 Gu Ex
abbrev R : PySem.W.OpenRow := PySem.W.OpenLaw.row PySem.Challenge.rw_exactroom_k26_layout_errors
def dOf (a : Str × Option Str) (x q : Str) (st : Stmt) : He.DefD := ⟨a, x, q, defArgs st, defBody st, defScope st, [], []⟩
def dOfK (a : Str × Option Str) (x q : Str) (st : Stmt) (kw : List (Str × He.Dv)) : He.DefD := ⟨a, x, q, defArgs st, defBody st, defScope st, [], kw⟩
def fn : List He.DefD := [dOf ("is_integer", none) "is_integer" "is_integer" (top 14),
  dOf ("size_problem", none) "size_problem" "size_problem" (top 18),
  dOf ("check_sizes", none) "check_sizes" "check_sizes" (top 19),
  dOf ("is_cells", none) "is_cells" "is_cells" (top 15),
  dOf ("check_cells", none) "check_cells" "check_cells" (top 16),
  dOf ("check_numbers", none) "check_numbers" "check_numbers" (top 17),
  dOf ("Sizes", some "__init__") "__init__" "Sizes.__init__" (inClass (top 20) 4),
  dOf ("Sizes", some "has_level") "has_level" "Sizes.has_level" (inClass (top 20) 12),
  dOf ("Sizes", some "check_level") "check_level" "Sizes.check_level" (inClass (top 20) 13),
  dOf ("Sizes", some "size") "size" "Sizes.size" (inClass (top 20) 14),
  dOf ("Sizes", some "whole") "whole" "Sizes.whole" (inClass (top 20) 16),
  dOf ("Sizes", some "__len__") "__len__" "Sizes.__len__" (inClass (top 20) 6),
  dOf ("Layout", some "__init__") "__init__" "Layout.__init__" (inClass (top 31) 0),
  dOf ("Layout", some "count_below") "count_below" "Layout.count_below" (inClass (top 31) 9),
  dOf ("Layout", some "index_of") "index_of" "Layout.index_of" (inClass (top 31) 10),
  dOf ("Layout", some "block_at") "block_at" "Layout.block_at" (inClass (top 31) 11),
  dOf ("Layout", some "first_taken") "first_taken" "Layout.first_taken" (inClass (top 31) 12),
  dOfK ("Layout", some "put") "put" "Layout.put" (inClass (top 31) 13) [("pinned", .bl false)],
  dOf ("Layout", some "take_out") "take_out" "Layout.take_out" (inClass (top 31) 14),
  dOf ("Layout", some "set_pinned") "set_pinned" "Layout.set_pinned" (inClass (top 31) 15),
  dOf ("Layout", some "ranges_of") "ranges_of" "Layout.ranges_of" (inClass (top 31) 16),
  dOf ("Layout", some "pinned_ranges") "pinned_ranges" "Layout.pinned_ranges" (inClass (top 31) 18),
  dOf ("Layout", some "unpinned_levels") "unpinned_levels" "Layout.unpinned_levels" (inClass (top 31) 19),
  dOf ("Layout", some "regions_in") "regions_in" "Layout.regions_in" (inClass (top 31) 21),
  dOf ("Layout", some "free_gaps") "free_gaps" "Layout.free_gaps" (inClass (top 31) 17),
  dOf ("Layout", some "free_regions") "free_regions" "Layout.free_regions" (inClass (top 31) 22),
  dOf ("Layout", some "free_addresses") "free_addresses" "Layout.free_addresses" (inClass (top 31) 23),
  dOf ("Layout", some "clear_cells") "clear_cells" "Layout.clear_cells" (inClass (top 31) 24),
  dOf ("Layout", some "unpinned_cells") "unpinned_cells" "Layout.unpinned_cells" (inClass (top 31) 25),
  dOf ("Layout", some "slack") "slack" "Layout.slack" (inClass (top 31) 26),
  dOf ("Layout", some "short_level") "short_level" "Layout.short_level" (inClass (top 31) 27),
  dOf ("Layout", some "fits") "fits" "Layout.fits" (inClass (top 31) 28),
  dOf ("Layout", some "largest") "largest" "Layout.largest" (inClass (top 31) 29),
  dOf ("Layout", some "__repr__") "__repr__" "Layout.__repr__" (inClass (top 31) 3),
  dOf ("InvalidAddress", some "__init__") "__init__" "InvalidAddress.__init__" (inClass (top 7) 0),
  dOf ("UnknownBlock", some "__init__") "__init__" "UnknownBlock.__init__" (inClass (top 8) 0),
  dOf ("Occupied", some "__init__") "__init__" "Occupied.__init__" (inClass (top 10) 0),
  dOf ("InvalidLevel", some "__init__") "__init__" "InvalidLevel.__init__" (inClass (top 4) 0),
  dOf ("InvalidNumber", some "__init__") "__init__" "InvalidNumber.__init__" (inClass (top 5) 0),
  dOf ("InvalidNumbers", some "__init__") "__init__" "InvalidNumbers.__init__" (inClass (top 6) 0),
  dOf ("is_address", none) "is_address" "is_address" (top 22),
  dOf ("check_range", none) "check_range" "check_range" (top 23),
  dOf ("next_start", none) "next_start" "next_start" (top 24),
  dOf ("gaps_between", none) "gaps_between" "gaps_between" (top 25),
  dOf ("lies_below", none) "lies_below" "lies_below" (top 26),
  dOf ("is_region", none) "is_region" "is_region" (top 27),
  dOf ("region_start", none) "region_start" "region_start" (top 28),
  dOf ("count_regions", none) "count_regions" "count_regions" (top 29),
  dOf ("_law_rng", none) "_law_rng" "_law_rng" (top 33),
  dOf ("_law_draw", none) "_law_draw" "_law_draw" (top 34),
  dOf ("_law_choice", none) "_law_choice" "_law_choice" (top 35),
  dOf ("_law_sizes", none) "_law_sizes" "_law_sizes" (top 36),
  dOf ("_law_has_space", none) "_law_has_space" "_law_has_space" (top 37),
  dOf ("_law_blocks", none) "_law_blocks" "_law_blocks" (top 38),
  dOf ("_law_layout", none) "_law_layout" "_law_layout" (top 39),
  dOf ("_law_kind", none) "_law_kind" "_law_kind" (top 40),
  dOf ("_law_outcome", none) "_law_outcome" "_law_outcome" (top 41),
  dOf ("_law_odd", none) "_law_odd" "_law_odd" (top 42),
  dOf ("_law_no_cells", none) "_law_no_cells" "_law_no_cells" (top 43),
  dOf ("_law_no_numbers", none) "_law_no_numbers" "_law_no_numbers" (top 44),
  dOf ("_law_no_region", none) "_law_no_region" "_law_no_region" (top 45),
  dOf ("_law_level_calls", none) "_law_level_calls" "_law_level_calls" (top 46),
  dOf ("_law_number_calls", none) "_law_number_calls" "_law_number_calls" (top 47),
  dOf ("_law_place_calls", none) "_law_place_calls" "_law_place_calls" (top 48),
  dOf ("_law_occupied_right", none) "_law_occupied_right" "_law_occupied_right" (top 49),
  dOf ("_law_bools_right", none) "_law_bools_right" "_law_bools_right" (top 50),
  dOf ("_law_right", none) "_law_right" "_law_right" (top 51),
  dOf ("law", none) "law" "law" (top 52)]
def fa : List He.Fa := [.glo "is_integer", .glo "size_problem", .glo "check_sizes", .glo "is_cells", .glo "check_cells", .glo "check_numbers", .glo "is_address", .glo "check_range", .glo "next_start", .glo "gaps_between", .glo "lies_below", .glo "is_region", .glo "region_start", .glo "count_regions", .glo "_law_rng", .glo "_law_draw", .glo "_law_choice", .glo "_law_sizes", .glo "_law_has_space", .glo "_law_blocks", .glo "_law_layout", .glo "_law_kind", .glo "_law_outcome", .glo "_law_odd", .glo "_law_no_cells", .glo "_law_no_numbers", .glo "_law_no_region", .glo "_law_level_calls", .glo "_law_number_calls", .glo "_law_place_calls", .glo "_law_occupied_right", .glo "_law_bools_right", .glo "_law_right", .glo "law", .glo "Sizes", .glo "Layout", .glo "InvalidAddress", .glo "UnknownBlock", .glo "Occupied", .glo "InvalidLevel", .glo "InvalidNumber", .glo "InvalidNumbers", .glo "RoomError", .glo "UnknownName", .glo "NoRoom", .free "len", .free "isinstance", .free "int", .free "bool", .free "list", .free "range", .free "divmod", .free "abs", .free "max", .free "min", .free "enumerate", .free "all", .free "sum", .free "tuple", .free "sorted", .free "repr", .free "set", .free "dict", .free "any", .free "str", .free "LookupError", .free "RuntimeError", .free "ValueError", .cls "Sizes", .noat "Sizes" "size_list", .mkr "Sizes", .meth "Sizes" "has_level", .meth "Sizes" "check_level", .meth "Sizes" "size", .meth "Sizes" "whole", .meth "Sizes" "__len__", .cls "Layout", .mkr "Layout", .noat "Layout" "size_table", .noat "Layout" "cell_count", .noat "Layout" "free_count", .noat "Layout" "block_list", .meth "Layout" "count_below", .meth "Layout" "index_of", .meth "Layout" "block_at", .meth "Layout" "first_taken", .meth "Layout" "put", .meth "Layout" "take_out", .meth "Layout" "set_pinned", .meth "Layout" "ranges_of", .meth "Layout" "pinned_ranges", .meth "Layout" "unpinned_levels", .meth "Layout" "regions_in", .meth "Layout" "free_gaps", .meth "Layout" "free_regions", .meth "Layout" "free_addresses", .meth "Layout" "clear_cells", .meth "Layout" "unpinned_cells", .meth "Layout" "slack", .meth "Layout" "short_level", .meth "Layout" "fits", .meth "Layout" "largest", .meth "Layout" "__repr__"]
def exB (K : PySem.W.Frag) : Bool := (rdB K (He.ga K "Sizes") && (cvB K (He.ga K "Sizes") "MAX_SIZE" 1000000000 && (cvB K (He.ga K "Sizes") "MAX_SIZES" 8 && (sysB K && (cvB K (He.ga K "Sizes") "MAX_CELLS" 1000000000000 && (kwB K (He.ma K (He.ga K "Layout") "slack") "kept" && (kwB K (He.ma K (He.ga K "Layout") "largest") "kept" && (kwB K (He.ma K (He.ga K "Layout") "fits") "kept" && (neB K (He.ga K "Sizes") && (Ex.insB K (He.ga K "Sizes") && (Ex.insB K (He.ga K "Layout") && (errG "ValueError" K (cA K) "value" && (errG "LookupError" K (cU K) "value" && (errG "RuntimeError" K (cO K) "address" && (errG "ValueError" K (cL K) "value" && (errG "ValueError" K (cNu K) "value" && (errG "ValueError" K (cNs K) "position" && (bOf (PySem.W.kitOne K (.ref (cA K)) (.type "ValueError")) true && (bOf (PySem.W.kitOne K (.ref (cU K)) (.type "LookupError")) true && (bOf (PySem.W.kitOne K (.ref (cO K)) (.type "RuntimeError")) true && (bOf (PySem.W.exmOne K (.ref (cA K)) (.ref (cU K))) false && (bOf (PySem.W.subIn K (.ref (cL K)) (.type "StopIteration")) false && (kxB K 0 && (kxB K 1 && (kxB K 2 && (kxB K 3 && (kxB K 4 && (kxB K 5 && (tabB K "_law_level_calls" && (tabB K "_law_number_calls" && (tabB K "_law_place_calls" && (tabB K "_law_occupied_right" && (tabB K "_law_bools_right" && (injB K && (prB K (He.ga K "Sizes") "top" && (okAt K (pgA K (He.ga K "Sizes") "top") "Sizes.top" && (prB K (He.ga K "Layout") "sizes" && (okAt K (pgA K (He.ga K "Layout") "sizes") "Layout.sizes" && (prB K (He.ga K "Layout") "length" && (okAt K (pgA K (He.ga K "Layout") "length") "Layout.length" && true))))))))))))))))))))))))))))))))))))))))
def v_top : He.FnW := some ("top", "Sizes.top", defArgs (inClass (top 20) 10), .stmts (defBody (inClass (top 20) 10)), defScope (inClass (top 20) 10), mainGlobals, [], builtinsNs)
def v_sizes : He.FnW := some ("sizes", "Layout.sizes", defArgs (inClass (top 31) 4), .stmts (defBody (inClass (top 31) 4)), defScope (inClass (top 31) 4), mainGlobals, [], builtinsNs)
def v_length : He.FnW := some ("length", "Layout.length", defArgs (inClass (top 31) 5), .stmts (defBody (inClass (top 31) 5)), defScope (inClass (top 31) 5), mainGlobals, [], builtinsNs)
abbrev AlE : Type := He.AlD × Bool × He.FnW × He.FnW × He.FnW
def ob0 (K : PySem.W.Frag) : AlE := (He.obsD fa fn K, exB K, fnAt K (pgA K (He.ga K "Sizes") "top"), fnAt K (pgA K (He.ga K "Layout") "sizes"), fnAt K (pgA K (He.ga K "Layout") "length"))
def vl0 : AlE := (He.valD fn, true, v_top, v_sizes, v_length)
def ob1 (g : Addr → Option Obj) : AlE × List (Option Obj) := (ob0 (kkGs g 5 tabNs), tabNs.map fun x => g (ptA (kkGs g 5 tabNs) x))
def hk : PySem.W.Hook where
  α := AlE × List (Option Obj)
  obs := fun s => ob1 s.heap.get?
  val := fun _ => (vl0, tabNs.map fun _ => some (PySem.W.tabObj #[]))
  says := fun _ h => ∃ K : PySem.W.Frag, K.In h ∧ ob0 K = vl0 ∧ ∀ x ∈ tabNs, h.get? (ptA K x) = some (PySem.W.tabObj #[])
  of := fun _ _ e => ⟨_, He.frG_in, (Prod.mk.inj e).1, List.map_inj_left.mp (Prod.mk.inj e).2⟩
  keeps := fun _ _ _ ⟨K, hK, c, t⟩ k => ⟨K, PySem.W.Frag.In.keeps hK k, c, fun x hx => k _ _ (t x hx)⟩
def ob (s : PySem.W.SharedT) : AlE × List (Option Obj) := ob1 (HandSHeadRun.getT s)
theorem ob_eq (s : PySem.W.SharedT) : ob s = hk.obs s.abs := by
  have e : HandSHeadRun.getT s = s.abs.heap.get? := funext (HandSHeadRun.getT_eq s)
  show ob1 (HandSHeadRun.getT s) = ob1 s.abs.heap.get?
  rw [e]
def loose : List Str := ("_wall" : Str) :: ("RoomError" : Str) :: ("InvalidSizes" : Str) :: ("InvalidLevel" : Str) :: ("InvalidNumber" : Str) :: ("InvalidNumbers" : Str) :: ("InvalidAddress" : Str) :: ("UnknownBlock" : Str) :: ("UnknownName" : Str) :: ("Occupied" : Str) :: ("NoRoom" : Str) :: ("TooManyPieces" : Str) :: ("is_integer" : Str) :: ("is_cells" : Str) :: ("check_cells" : Str) :: ("check_numbers" : Str) :: ("size_problem" : Str) :: ("check_sizes" : Str) :: ("Sizes" : Str) :: ("is_address" : Str) :: ("check_range" : Str) :: ("next_start" : Str) :: ("gaps_between" : Str) :: ("lies_below" : Str) :: ("is_region" : Str) :: ("region_start" : Str) :: ("count_regions" : Str) :: ("Layout" : Str) :: ("_law_rng" : Str) :: ("_law_draw" : Str) :: ("_law_choice" : Str) :: ("_law_sizes" : Str) :: ("_law_has_space" : Str) :: ("_law_blocks" : Str) :: ("_law_layout" : Str) :: ("_law_kind" : Str) :: ("_law_outcome" : Str) :: ("_law_odd" : Str) :: ("_law_no_cells" : Str) :: ("_law_no_numbers" : Str) :: ("_law_no_region" : Str) :: ("_law_level_calls" : Str) :: ("_law_number_calls" : Str) :: ("_law_place_calls" : Str) :: ("_law_occupied_right" : Str) :: ("_law_bools_right" : Str) :: ("_law_right" : Str) :: []
def kk (s : PySem.W.SharedT) : PySem.W.Frag := kkGs (HandSHeadRun.getT s) 5 tabNs
noncomputable def ends (w : World) (os : OsState) : Option PySem.W.SharedT := HandSHeadRun.endF (HandSHeadRun.stepQ (HandSHeadRun.denQ HandSHeadRun.tabQ) R.prog w) 16000 R.prog w os
theorem in_parts {σ A B E F J : Type} {o : Option σ} {a : σ → A} {b : σ → B} {c d : σ → Bool} {e : σ → E} {f : σ → Bool} {g : σ → F} {t : σ → J} {x1 : A} {x2 : B} {x5 : E} {x7 : F} {x8 : J} (h1 : o.map a = some x1) (h2 : o.map b = some x2) (h3 : o.map c = some true) (h4 : o.map d = some true)
    (h5 : o.map e = some x5) (h6 : o.map f = some true) (h7 : o.map g = some x7) (h8 : o.map t = some x8) : o.map (fun s => (a s, b s, ((((c s && d s), e s), f s, g s), t s))) = some (x1, x2, (((true, x5), true, x7), x8)) := by
  cases o with
  | none => cases h1
  | some s =>
    have g1 : a s = x1 := Option.some.inj h1
    have g2 : b s = x2 := Option.some.inj h2
    have g3 : c s = true := Option.some.inj h3
    have g4 : d s = true := Option.some.inj h4
    have g5 : e s = x5 := Option.some.inj h5
    have g6 : f s = true := Option.some.inj h6
    have g7 : g s = x7 := Option.some.inj h7
    have g8 : t s = x8 := Option.some.inj h8
    show some (a s, b s, ((((c s && d s), e s), f s, g s), t s)) = _
    rw [g1, g2, g3, g4, g5, g6, g7, g8]
    rfl
end K26

set_option Elab.async false
set_option linter.all false
set_option maxRecDepth 100000
set_option maxHeartbeats 0
namespace K26
open PySem PySem.Spec PyProof.Rows L2 Gu Ex PySem.W PySem.Calls
theorem r_looks (w : World) (os : OsState) : (ends w os).map (fun s => HandSHeadRun.looksF R.prog (boot_heap w.params) s.abs) = some true := by kernel_rfl
theorem r_seen (w : World) (os : OsState) : (ends w os).map (fun s => HandSHeadRun.seenQ (PySem.W.view R.prog [52]) loose (PySem.importedModules R.prog.main.body) (fun s => PySem.W.xlAt (PySem.W.view R.prog [52]) [] s && PySem.W.recOk R.toRowW.records s) s.abs) = some (PySem.W.openGood (PySem.W.view R.prog [52]) loose) := by kernel_rfl
end K26

set_option Elab.async false
set_option linter.all false
set_option maxRecDepth 100000
set_option maxHeartbeats 0
namespace K26
open PySem PySem.Spec PyProof.Rows L2 Gu Ex
theorem r_fa (w : World) (os : OsState) : (ends w os).map (fun s => fa.all fun f => f.ok (kk s)) = some true := by kernel_rfl
end K26

set_option Elab.async false
set_option linter.all false
set_option maxRecDepth 100000
set_option maxHeartbeats 0
namespace K26
open PySem PySem.Spec PyProof.Rows L2 Gu Ex
theorem r_fn (w : World) (os : OsState) : (ends w os).map (fun s => fn.all fun d => d.ok (kk s)) = some true := by kernel_rfl
end K26

set_option Elab.async false
set_option linter.all false
set_option maxRecDepth 100000
set_option maxHeartbeats 0
namespace K26
open PySem PySem.Spec PyProof.Rows L2 Gu Ex
theorem r_fw (w : World) (os : OsState) : (ends w os).map (fun s => fn.map fun d => He.fnW (kk s) d.at_) = some (fn.map He.DefD.val) := by kernel_rfl
end K26

set_option Elab.async false
set_option linter.all false
set_option maxRecDepth 100000
set_option maxHeartbeats 0
namespace K26
open PySem PySem.Spec PyProof.Rows L2 Gu Ex
theorem r_ex (w : World) (os : OsState) : (ends w os).map (fun s => exB (kk s)) = some true := by kernel_rfl
theorem r_pr (w : World) (os : OsState) : (ends w os).map (fun s => (fnAt (kk s) (pgA (kk s) (He.ga (kk s) "Sizes") "top"), fnAt (kk s) (pgA (kk s) (He.ga (kk s) "Layout") "sizes"), fnAt (kk s) (pgA (kk s) (He.ga (kk s) "Layout") "length"))) = some (v_top, v_sizes, v_length) := by kernel_rfl
theorem r_tab (w : World) (os : OsState) : (ends w os).map (fun s => tabNs.map fun x => HandSHeadRun.getT s (ptA (kk s) x)) = some (tabNs.map fun _ => some (PySem.W.tabObj #[])) := by kernel_rfl
end K26

set_option Elab.async false
set_option linter.all false
set_option maxRecDepth 100000
set_option maxHeartbeats 4000000
namespace K26
open PySem PySem.Spec PyProof.Rows L2 Gu Ex
def szF (l : Addr) : List (Str × V) := [("size_list", V.ref l)]
theorem szF_get (l : Addr) : (szF l).lookup ("size_list" : Str) = some (.ref l) := by simp [szF, List.lookup]
theorem szF_no (l : Addr) {m : Str} (h : (m == ("size_list" : Str)) = false) : (szF l).lookup m = none := by simp [szF, List.lookup, h]
/-- at p an object of Sizes with the list ns -/
def SzAt (C : Addr) (H : Hp) (p : Addr) (ns : List Int) : Prop := ∃ dx l, H p = some (.ins C dx (szF l)) ∧ H l = some (.lst (ns.map V.int))
theorem putF_new (l : Addr) : putF "size_list" (V.ref l) [] = szF l := rfl
section
variable {P : Program} {w : World} {K : PySem.W.Frag} {mg : Str → Option Value} {base : Heap} {f : Addr} {fd : FuncData}
def spMade (K : PySem.W.Frag) : Sp := fun vs H Q _ => ∃ (x dx a : Addr) (ns : List Int), vs = [.ref x, .ref a] ∧ H x = some (.ins (He.ga K "Sizes") dx []) ∧ SqL K H a (ns.map V.int) ∧ TyX K H (.ref a) (.type "list") ∧ Good ns ∧
  ∀ l, H l = none → Q .non (upd (upd H l (.lst (ns.map V.int))) x (.ins (He.ga K "Sizes") dx (szF l)))
theorem sc_Sizes_init : FnScope ["self", "values"] ["self", "values"] (defScope (inClass (top 20) 4)) := ⟨rfl, rfl, rfl, by decide +kernel, rfl, by decide +kernel, by decide +kernel⟩
theorem ok_init (T : Tx K mg) (D_check_sizes : Df P w K mg base 3 "check_sizes" ["values"] (spCheck K)) (F : FnP K "__init__" "Sizes.__init__" (inClass (top 20) 4) f fd) :
    FnOk P w K mg base CX0 4 f fd ["self", "values"] (spMade K) := by
  refine F.ok sc_Sizes_init (fun vs H Q E h => ?_) (fun cdv A outer s H vs Q E hr h => ⟨_, PSs.nox (pss_cons (ps_expr (pcall D_check_sizes hr (pa_cons (pv 1) pa_nil))) (pss_one (ps_fld (pv 0) (pe_callTy call_list_of (by rfl) T.n_list (by decide +kernel) (pa_cons (pv 1) pa_nil)) rfl))), ?_⟩)
  · obtain ⟨x, dx, a, ns, rfl, _⟩ := h
    rfl
  · obtain ⟨x, dx, a, ns, rfl, hx, hS, ty, g, q⟩ := h
    refine ⟨_, rfl, a, ns, rfl, hS, ty, g, ?_⟩
    refine ⟨_, rfl, a, _, rfl, .inl hS, fun l hl => ?_⟩
    refine ⟨_, rfl, x, He.ga K "Sizes", dx, [], rfl, (by rw [upd_ne (ne_of_none hx hl)]; exact hx), T.cl, T.nSL, (by show 0 < 1000; decide), ?_⟩
    exact q l hl
def spTop (K : PySem.W.Frag) : Sp := fun vs H Q _ => ∃ (p : Addr) (ns : List Int), vs = [.ref p] ∧ SzAt (He.ga K "Sizes") H p ns ∧ Q (.int ((ns.length : Int) - 1)) H
theorem sc_top : FnScope ["self"] ["self"] (defScope (inClass (top 20) 10)) := ⟨rfl, rfl, rfl, by decide +kernel, rfl, by decide +kernel, by decide +kernel⟩
theorem ok_top (T : Tx K mg) (F : FnP K "top" "Sizes.top" (inClass (top 20) 10) f fd) : FnOk P w K mg base CX0 1 f fd ["self"] (spTop K) := by
  refine F.ok sc_top (fun vs H Q E h => ?_) (fun cdv A outer s H vs Q E hr h => ⟨_, PSs.nox (pss_one (ps_ret (pe_op op_sub (pe_callB call_len_seq (by rfl) T.n_len (by decide +kernel) (pa_cons (pe_fld (pv 0) rfl) pa_nil)) pe_int))), ?_⟩)
  · obtain ⟨p, ns, rfl, _⟩ := h
    rfl
  · obtain ⟨p, ns, rfl, ⟨dx, l, h1, h2⟩, q⟩ := h
    refine ⟨_, rfl, p, _, dx, _, _, rfl, h1, T.cl, T.nSL, szF_get l, l, _, rfl, .inl (SqL.of h2), _, _, rfl, rfl, ?_⟩
    rw [List.length_map]
    exact q
def spHas (K : PySem.W.Frag) : Sp := fun vs H Q _ => ∃ (p : Addr) (ns : List Int) (i : Nat), vs = [.ref p, .int i] ∧ SzAt (He.ga K "Sizes") H p ns ∧ i < ns.length ∧ Q (.bl true) H
theorem sc_has_level : FnScope ["self", "level"] ["self", "level"] (defScope (inClass (top 20) 12)) := ⟨rfl, rfl, rfl, by decide +kernel, rfl, by decide +kernel, by decide +kernel⟩
theorem ok_has (T : Tx K mg) (D_is_integer : Df P w K mg base 1 "is_integer" ["value"] spInt) (P_top : Pf P w K mg base 1 "Sizes" "top" (spTop K)) (F : FnP K "has_level" "Sizes.has_level" (inClass (top 20) 12) f fd) :
    FnOk P w K mg base CX0 3 f fd ["self", "level"] (spHas K) := by
  refine F.ok sc_has_level (fun vs H Q E h => ?_) (fun cdv A outer s H vs Q E hr h => ⟨_, PSs.nox (pss_one (ps_ret (pe_and (pcall D_is_integer hr (pa_cons (pv 1) pa_nil)) (pe_one (pe_chain op_le op_le pe_int (pv 1) (pprop P_top hr (pv 0))))))), ?_⟩)
  · obtain ⟨p, ns, i, rfl, _⟩ := h
    rfl
  · obtain ⟨p, ns, i, rfl, hz, hi, q⟩ := h
    obtain ⟨dx, l, h1, h2⟩ := id hz
    refine ⟨_, rfl, _, rfl, true, rfl, iteT ?_⟩
    refine ⟨_, rfl, _, _, rfl, rfl, true, bT (by omega), iteT ?_⟩
    refine ⟨_, rfl, p, dx, _, rfl, h1, p, ns, rfl, hz, _, _, rfl, rfl, ?_⟩
    have e : decide ((i : Int) ≤ (ns.length : Int) - 1) = true := decide_eq_true (by omega)
    show Q (.bl (decide ((i : Int) ≤ (ns.length : Int) - 1))) H
    rw [e]
    exact q
def spCheckL (K : PySem.W.Frag) : Sp := fun vs H Q _ => ∃ (p : Addr) (ns : List Int) (i : Nat), vs = [.ref p, .int i] ∧ SzAt (He.ga K "Sizes") H p ns ∧ i < ns.length ∧ Q .non H
theorem sc_check_level : FnScope ["self", "level"] ["self", "level"] (defScope (inClass (top 20) 13)) := ⟨rfl, rfl, rfl, by decide +kernel, rfl, by decide +kernel, by decide +kernel⟩
theorem ok_check_level (T : Tx K mg) (M_has_level : Mf P w K mg base 3 "Sizes" "has_level" ["self", "level"] (spHas K)) (F : FnP K "check_level" "Sizes.check_level" (inClass (top 20) 13) f fd) :
    FnOk P w K mg base CX0 4 f fd ["self", "level"] (spCheckL K) := by
  refine F.ok sc_check_level (fun vs H Q E h => ?_) (fun cdv A outer s H vs Q E hr h => ⟨_, PSs.nox (pss_one (ps_if (pt_not (pt_val (pmeth M_has_level hr (pv 0) (pa_cons (pv 1) pa_nil)))) (pss_one ps_never) pss_nil)), ?_⟩)
  · obtain ⟨p, ns, i, rfl, _⟩ := h
    rfl
  · obtain ⟨p, ns, i, rfl, hz, hi, q⟩ := h
    obtain ⟨dx, l, h1, h2⟩ := id hz
    exact ⟨_, rfl, p, dx, _, rfl, h1, szF_no l (by decide +kernel), _, rfl, p, ns, i, rfl, hz, hi, true, rfl, iteF q⟩
def spSize (K : PySem.W.Frag) : Sp := fun vs H Q _ => ∃ (p : Addr) (ns : List Int) (i : Nat) (x : Int), vs = [.ref p, .int i] ∧ SzAt (He.ga K "Sizes") H p ns ∧ ns[i]? = some x ∧ Q (.int x) H
theorem sc_size : FnScope ["self", "level"] ["self", "level"] (defScope (inClass (top 20) 14)) := ⟨rfl, rfl, rfl, by decide +kernel, rfl, by decide +kernel, by decide +kernel⟩
theorem ok_size (T : Tx K mg) (M_check_level : Mf P w K mg base 4 "Sizes" "check_level" ["self", "level"] (spCheckL K)) (F : FnP K "size" "Sizes.size" (inClass (top 20) 14) f fd) :
    FnOk P w K mg base CX0 5 f fd ["self", "level"] (spSize K) := by
  refine F.ok sc_size (fun vs H Q E h => ?_) (fun cdv A outer s H vs Q E hr h => ⟨_, PSs.nox (pss_cons (ps_expr (pmeth M_check_level hr (pv 0) (pa_cons (pv 1) pa_nil))) (pss_one (ps_ret (pe_ix ix_list (pe_fld (pv 0) rfl) (pv 1) (fun _ _ => rfl))))), ?_⟩)
  · obtain ⟨p, ns, i, x, rfl, _⟩ := h
    rfl
  · obtain ⟨p, ns, i, x, rfl, hz, hx, q⟩ := h
    obtain ⟨dx, l, h1, h2⟩ := id hz
    refine ⟨_, rfl, p, dx, _, rfl, h1, szF_no l (by decide +kernel), _, rfl, p, ns, i, rfl, hz, (List.getElem?_eq_some_iff.mp hx).1, ?_⟩
    exact ⟨_, rfl, p, _, dx, _, _, rfl, h1, T.cl, T.nSL, szF_get l, _, rfl, l, _, _, _, rfl, rfl, SqL.of h2, at_map hx, q⟩
def spAddr : Sp := fun vs H Q _ => ∃ i : Int, vs = [.int i] ∧ 0 ≤ i ∧ Q (.bl true) H
theorem sc_is_address : FnScope ["value"] ["value"] (defScope (top 22)) := ⟨rfl, rfl, rfl, by decide +kernel, rfl, by decide +kernel, by decide +kernel⟩
theorem ok_is_address (T : Tx K mg) (D_is_integer : Df P w K mg base 1 "is_integer" ["value"] spInt) (F : FnP K "is_address" "is_address" (top 22) f fd) : FnOk P w K mg base CX0 2 f fd ["value"] spAddr := by
  refine F.ok sc_is_address (fun vs H Q E h => ?_) (fun cdv A outer s H vs Q E hr h => ⟨_, PSs.nox (pss_one (ps_ret (pe_and (pcall D_is_integer hr (pa_cons (pv 0) pa_nil)) (pe_one (pe_cmpR op_ge (pv 0) pe_int (nomark _)))))), ?_⟩)
  · obtain ⟨i, rfl, _⟩ := h
    rfl
  · obtain ⟨i, rfl, hi, q⟩ := h
    refine ⟨_, rfl, _, rfl, true, rfl, iteT ⟨_, rfl, _, _, rfl, rfl, ?_⟩⟩
    have e : decide ((0 : Int) ≤ i) = true := decide_eq_true hi
    show Q (.bl (decide ((0 : Int) ≤ i))) H
    rw [e]
    exact q
def spRange : Sp := fun vs H Q _ => ∃ a b : Int, vs = [.int a, .int b] ∧ 0 ≤ a ∧ a ≤ b ∧ Q .non H
theorem sc_check_range : FnScope ["low", "high"] ["low", "high"] (defScope (top 23)) := ⟨rfl, rfl, rfl, by decide +kernel, rfl, by decide +kernel, by decide +kernel⟩
theorem ok_check_range (T : Tx K mg) (D_is_integer : Df P w K mg base 1 "is_integer" ["value"] spInt) (D_is_address : Df P w K mg base 2 "is_address" ["value"] spAddr) (F : FnP K "check_range" "check_range" (top 23) f fd) :
    FnOk P w K mg base CX0 3 f fd ["low", "high"] spRange := by
  refine F.ok sc_check_range (fun vs H Q E h => ?_) (fun cdv A outer s H vs Q E hr h => ⟨_, PSs.nox (pss_cons (ps_if (pt_not (pt_val (pcall D_is_address hr (pa_cons (pv 0) pa_nil)))) (pss_one ps_never) pss_nil) (pss_one (ps_if (PW.pt (pw_or (pt_not (pt_val (pcall D_is_integer hr (pa_cons (pv 1) pa_nil)))) (pw_or1 (pt_cmpR op_lt (pv 1) (pv 0) (nomark _))))) (pss_one ps_never) pss_nil))), ?_⟩)
  · obtain ⟨a, b, rfl, _⟩ := h
    rfl
  · obtain ⟨a, b, rfl, ha, hb, q⟩ := h
    refine ⟨_, rfl, _, rfl, ha, true, rfl, iteF ?_⟩
    exact ⟨_, rfl, _, rfl, true, rfl, iteF ⟨_, rfl, _, rfl, _, _, rfl, rfl, false, bF (by omega), iteF q⟩⟩
/-- the least multiple of s from a on -/
def nextI (s a : Int) : Int := -(-a / s) * s
def spNext : Sp := fun vs H Q _ => ∃ s a : Int, vs = [.int s, .int a] ∧ 1 ≤ s ∧ s ≤ 1000000000 ∧ Q (.int (nextI s a)) H
theorem div_ok {i s : Int} (h1 : 1 ≤ s) (h2 : s ≤ 1000000000) : CDivW i s := wide_div (b := 64) (by omega) (by omega) (by decide) (by decide)
theorem sc_next_start : FnScope ["size", "address"] ["size", "address"] (defScope (top 24)) := ⟨rfl, rfl, rfl, by decide +kernel, rfl, by decide +kernel, by decide +kernel⟩
theorem ok_next_start (T : Tx K mg) (F : FnP K "next_start" "next_start" (top 24) f fd) : FnOk P w K mg base CX0 1 f fd ["size", "address"] spNext := by
  refine F.ok sc_next_start (fun vs H Q E h => ?_) (fun cdv A outer s H vs Q E hr h => ⟨_, PSs.nox (pss_one (ps_ret (pe_op op_mul (pe_un un_neg (pe_op op_fdivW (pe_un un_neg (pv 1)) (pv 0))) (pv 0)))), ?_⟩)
  · obtain ⟨s, a, rfl, _⟩ := h
    rfl
  · obtain ⟨s, a, rfl, h1, h2, q⟩ := h
    exact ⟨_, rfl, _, rfl, _, rfl, _, _, rfl, rfl, div_ok h1 h2, _, rfl, _, rfl, _, _, rfl, rfl, .inr ⟨by omega, by omega⟩, q⟩
def spStart (K : PySem.W.Frag) : Sp := fun vs H Q _ => ∃ (p : Addr) (ns : List Int) (i : Nat) (x a : Int), vs = [.ref p, .int i, .int a] ∧ SzAt (He.ga K "Sizes") H p ns ∧ ns[i]? = some x ∧ 1 ≤ x ∧ 0 ≤ a ∧ Q (.int (a - a % x)) H
theorem sc_region_start : FnScope ["sizes", "level", "address", "size"] ["sizes", "level", "address"] (defScope (top 28)) := ⟨rfl, rfl, rfl, by decide +kernel, rfl, by decide +kernel, by decide +kernel⟩
theorem ok_region_start (T : Tx K mg) (D_is_address : Df P w K mg base 2 "is_address" ["value"] spAddr) (M_size : Mf P w K mg base 5 "Sizes" "size" ["self", "level"] (spSize K)) (F : FnP K "region_start" "region_start" (top 28) f fd) :
    FnOk P w K mg base CX0 6 f fd ["sizes", "level", "address"] (spStart K) := by
  refine F.ok sc_region_start (fun vs H Q E h => ?_) (fun cdv A outer s H vs Q E hr h => ⟨_, PSs.nox (pss_cons (ps_set (i := 3) sc_region_start.nd rfl (by first | exact Or.inl rfl | exact Or.inr rfl) (pmeth M_size hr (pv 0) (pa_cons (pv 1) pa_nil))) (pss_cons (ps_if (pt_not (pt_val (pcall D_is_address hr (pa_cons (pv 2) pa_nil)))) (pss_one ps_never) pss_nil) (pss_one (ps_ret (pe_op op_sub (pv 2) (pe_op op_mod (pv 2) (pv 3))))))), ?_⟩)
  · obtain ⟨p, ns, i, x, a, rfl, _⟩ := h
    rfl
  · obtain ⟨p, ns, i, x, a, rfl, hz, hx, x1, ha, q⟩ := h
    obtain ⟨dx, l, h1, h2⟩ := id hz
    refine ⟨_, rfl, p, dx, _, rfl, h1, szF_no l (by decide +kernel), _, rfl, p, ns, i, x, rfl, hz, hx, ?_⟩
    refine ⟨_, rfl, _, rfl, ha, true, rfl, iteF ?_⟩
    exact ⟨_, rfl, _, rfl, _, rfl, _, _, rfl, rfl, (by show (0 : Int) < x; omega), _, _, rfl, rfl, q⟩
/-- what count_regions reckons -/
def cntI (s lo hi : Int) : Int := if ((hi - hi % s) - nextI s lo) / s > 0 then ((hi - hi % s) - nextI s lo) / s else 0
def spCount (K : PySem.W.Frag) : Sp := fun vs H Q _ => ∃ (p : Addr) (ns : List Int) (i : Nat) (x a b : Int), vs = [.ref p, .int i, .int a, .int b] ∧ SzAt (He.ga K "Sizes") H p ns ∧ ns[i]? = some x ∧ 1 ≤ x ∧ x ≤ 1000000000 ∧ 0 ≤ a ∧ a ≤ b ∧ Q (.int (cntI x a b)) H
theorem sc_count_regions : FnScope ["sizes", "level", "low", "high", "size"] ["sizes", "level", "low", "high"] (defScope (top 29)) := ⟨rfl, rfl, rfl, by decide +kernel, rfl, by decide +kernel, by decide +kernel⟩
theorem ok_count_regions (T : Tx K mg) (D_check_range : Df P w K mg base 3 "check_range" ["low", "high"] spRange) (D_region_start : Df P w K mg base 6 "region_start" ["sizes", "level", "address"] (spStart K))
    (D_next_start : Df P w K mg base 1 "next_start" ["size", "address"] spNext) (M_size : Mf P w K mg base 5 "Sizes" "size" ["self", "level"] (spSize K)) (F : FnP K "count_regions" "count_regions" (top 29) f fd) :
    FnOk P w K mg base CX0 7 f fd ["sizes", "level", "low", "high"] (spCount K) := by
  refine F.ok sc_count_regions (fun vs H Q E h => ?_) (fun cdv A outer s H vs Q E hr h => ⟨_, PSs.nox (pss_cons (ps_set (i := 4) sc_count_regions.nd rfl (by first | exact Or.inl rfl | exact Or.inr rfl) (pmeth M_size hr (pv 0) (pa_cons (pv 1) pa_nil))) (pss_cons (ps_expr (pcall D_check_range hr (pa_cons (pv 2) (pa_cons (pv 3) pa_nil)))) (pss_one (ps_ret (pe_callB (call_max2 rfl) (by rfl) T.n_max (by decide +kernel) (pa_cons pe_int (pa_cons (pe_op op_fdivW (pe_op op_sub (pcall D_region_start hr (pa_cons (pv 0) (pa_cons (pv 1) (pa_cons (pv 3) pa_nil)))) (pcall D_next_start hr (pa_cons (pv 4) (pa_cons (pv 2) pa_nil)))) (pv 4)) pa_nil))))))), ?_⟩)
  · obtain ⟨p, ns, i, x, a, b, rfl, _⟩ := h
    rfl
  · obtain ⟨p, ns, i, x, a, b, rfl, hz, hx, x1, x2, ha, hb, q⟩ := h
    obtain ⟨dx, l, h1, h2⟩ := id hz
    refine ⟨_, rfl, p, dx, _, rfl, h1, szF_no l (by decide +kernel), _, rfl, p, ns, i, x, rfl, hz, hx, ?_⟩
    refine ⟨_, rfl, _, rfl, a, b, rfl, ha, hb, ?_⟩
    refine ⟨_, rfl, _, rfl, _, rfl, p, ns, i, x, b, rfl, hz, hx, x1, by omega, _, rfl, _, rfl, x, a, rfl, x1, x2, _, _, rfl, rfl, _, rfl, _, _, rfl, rfl, div_ok x1 x2, _, _, rfl, ?_⟩
    exact q
end
end K26

set_option linter.all false
/-! The mathematics of counted regions. -/
namespace M15
theorem div_is {x s q r : Int} (h : x = s * q + r) (h0 : 0 ≤ r) (h1 : r < s) : x / s = q := by
  have e : r + s * q = x := by rw [h, Int.add_comm]
  exact ((Int.ediv_emod_unique (by omega)).mpr ⟨e, h0, h1⟩).1
/-- the number of multiples below x, rounded up -/
def C (s x : Int) : Int := (x + s - 1) / s
theorem parts (s x : Int) (h : 1 ≤ s) : x = s * (x / s) + x % s ∧ 0 ≤ x % s ∧ x % s < s :=
  ⟨(Int.mul_ediv_add_emod x s).symm, Int.emod_nonneg _ (by omega), Int.emod_lt_of_pos _ (by omega)⟩
theorem C_of {s x q r : Int} (hs : 1 ≤ s) (h : x = s * q + r) (h0 : 0 ≤ r) (h1 : r < s) : C s x = if r = 0 then q else q + 1 := by
  unfold C
  by_cases z : r = 0
  · rw [if_pos z]
    exact div_is (r := s - 1) (by omega) (by omega) (by omega)
  · rw [if_neg z]
    refine div_is (r := r - 1) ?_ (by omega) (by omega)
    have e : s * (q + 1) = s * q + s := by rw [Int.mul_add, Int.mul_one]
    omega
theorem C_step {s x : Int} (hs : 1 ≤ s) : C s (x + 1) = C s x + (if x % s = 0 then 1 else 0) := by
  obtain ⟨e, h0, h1⟩ := parts s x hs
  have a : C s (x + 1) = x / s + 1 := by
    unfold C
    have e2 : s * (x / s + 1) = s * (x / s) + s := by rw [Int.mul_add, Int.mul_one]
    exact div_is (r := x % s) (by omega) h0 h1
  rw [a, C_of hs e h0 h1]
  by_cases z : x % s = 0
  · rw [if_pos z, if_pos z]
  · rw [if_neg z, if_neg z]
    omega
theorem C_mono {s : Int} (hs : 1 ≤ s) (x : Int) (n : Nat) : C s x ≤ C s (x + n) := by
  induction n with
  | zero => simp
  | succ n ih =>
    have e := C_step (s := s) (x := x + n) hs
    rw [show x + ((n + 1 : Nat) : Int) = x + n + 1 by omega, e]
    split <;> omega
theorem C_le {s : Int} (hs : 1 ≤ s) {x y : Int} (h : x ≤ y) : C s x ≤ C s y := by
  have e := C_mono hs x (y - x).toNat
  rw [show x + (((y - x).toNat : Nat) : Int) = y by omega] at e
  exact e
/-- how many of the first n addresses from b on begin a region that ends by e -/
def cnt (s b e : Int) : Nat → Nat
  | 0 => 0
  | n + 1 => cnt s b e n + if (b + n) % s = 0 ∧ b + n + s ≤ e then 1 else 0
theorem cnt_is {s b e : Int} (hs : 1 ≤ s) : ∀ n : Nat, ((cnt s b e n : Nat) : Int) = if C s (min (b + n) (e - s + 1)) > C s b then C s (min (b + n) (e - s + 1)) - C s b else 0
  | 0 => by
    have h : C s (min (b + (0 : Nat)) (e - s + 1)) ≤ C s b := C_le hs (by omega)
    rw [if_neg (by omega)]
    rfl
  | n + 1 => by
    have ih := cnt_is (s := s) (b := b) (e := e) hs n
    show (((cnt s b e n + if (b + n) % s = 0 ∧ b + n + s ≤ e then 1 else 0 : Nat)) : Int) = _
    by_cases hb : b + n + s ≤ e
    · rw [show min (b + ((n + 1 : Nat) : Int)) (e - s + 1) = b + n + 1 by omega, C_step hs]
      rw [show min (b + (n : Int)) (e - s + 1) = b + n by omega] at ih
      have m := C_mono hs b n
      by_cases z : (b + n) % s = 0
      · rw [if_pos ⟨z, hb⟩, if_pos z]
        split at ih <;> split <;> omega
      · rw [if_neg (fun q => z q.1), if_neg z]
        split at ih <;> split <;> omega
    · rw [if_neg (fun q => hb q.2)]
      rw [show min (b + ((n + 1 : Nat) : Int)) (e - s + 1) = e - s + 1 by omega]
      rw [show min (b + (n : Int)) (e - s + 1) = e - s + 1 by omega] at ih
      omega
/-- the greatest of 0 and the difference -/
def cntM (s b e : Int) : Int := if e / s - C s b > 0 then e / s - C s b else 0
theorem C_end {s e : Int} : C s (e - s + 1) = e / s := by
  unfold C
  rw [show e - s + 1 + s - 1 = e by omega]
theorem cnt_all {s b e : Int} (hs : 1 ≤ s) (hb : b ≤ e) : ((cnt s b e (e - b).toNat : Nat) : Int) = cntM s b e := by
  rw [cnt_is hs, show min (b + (((e - b).toNat : Nat) : Int)) (e - s + 1) = e - s + 1 by omega, C_end]
  unfold cntM
  split <;> split <;> omega
theorem up_is {s a : Int} (hs : 1 ≤ s) : -(-a / s) = C s a := by
  obtain ⟨e, h0, h1⟩ := parts s a hs
  rw [C_of hs e h0 h1]
  by_cases z : a % s = 0
  · rw [if_pos z]
    have : -a / s = -(a / s) := div_is (r := 0) (by rw [Int.mul_neg]; omega) (by omega) (by omega)
    omega
  · rw [if_neg z]
    have e2 : s * (-(a / s) - 1) = -(s * (a / s)) - s := by rw [Int.mul_sub, Int.mul_neg, Int.mul_one]
    have : -a / s = -(a / s) - 1 := div_is (r := s - a % s) (by omega) (by omega) (by omega)
    omega
theorem quot_is {s a e : Int} (hs : 1 ≤ s) : ((e - e % s) - -(-a / s) * s) / s = e / s - C s a := by
  obtain ⟨h, h0, h1⟩ := parts s e hs
  rw [up_is hs]
  refine div_is (r := 0) ?_ (by omega) (by omega)
  have x1 : C s a * s = s * C s a := Int.mul_comm _ _
  have x2 : s * (e / s - C s a) = s * (e / s) - s * C s a := Int.mul_sub _ _ _
  omega
/-- a region across the cut -/
theorem across {s b c e : Int} (hs : 1 ≤ s) (h1 : b ≤ c) (h2 : c ≤ e) :
    cntM s b c + cntM s c e + (if b ≤ c - c % s ∧ c - c % s < c ∧ c - c % s + s ≤ e ∧ c % s ≠ 0 then 1 else 0) = cntM s b e := by
  obtain ⟨ec, c0, c1⟩ := parts s c hs
  obtain ⟨ee, e0, e1⟩ := parts s e hs
  obtain ⟨eb, b0, b1⟩ := parts s b hs
  have hCc := C_of hs ec c0 c1
  have hCb := C_of hs eb b0 b1
  have m1 : C s b ≤ C s c := C_le hs h1
  have m2 : c / s ≤ e / s := Int.ediv_le_ediv (by omega) h2
  have m3 : b / s ≤ c / s := Int.ediv_le_ediv (by omega) h1
  unfold cntM
  -- quotients: qb qc qe
  generalize hqb : b / s = qb at *
  generalize hqc : c / s = qc at *
  generalize hqe : e / s = qe at *
  have k1 : b ≤ c - c % s ↔ C s b ≤ qc := by
    have t : c - c % s = s * qc := by omega
    rw [t, hCb]
    constructor
    · intro h
      by_cases z : b % s = 0
      · rw [if_pos z]
        exact m3
      · rw [if_neg z]
        refine Int.not_lt.mp fun hn => ?_
        have : qc = qb := by omega
        rw [this] at h
        omega
    · intro h
      by_cases z : b % s = 0
      · rw [if_pos z] at h
        have := Int.mul_le_mul_of_nonneg_left h (show (0 : Int) ≤ s by omega)
        omega
      · rw [if_neg z] at h
        have := Int.mul_le_mul_of_nonneg_left h (show (0 : Int) ≤ s by omega)
        rw [Int.mul_add, Int.mul_one] at this
        omega
  have k2 : c - c % s + s ≤ e ↔ qc + 1 ≤ qe := by
    have t : c - c % s + s = s * (qc + 1) := by rw [Int.mul_add, Int.mul_one]; omega
    rw [t]
    constructor
    · intro h
      refine Int.not_lt.mp fun hn => ?_
      have := Int.mul_le_mul_of_nonneg_left (show qe ≤ qc by omega) (show (0 : Int) ≤ s by omega)
      have : s * (qc + 1) = s * qc + s := by rw [Int.mul_add, Int.mul_one]
      omega
    · intro h
      have := Int.mul_le_mul_of_nonneg_left h (show (0 : Int) ≤ s by omega)
      omega
  have hI : (if b ≤ c - c % s ∧ c - c % s < c ∧ c - c % s + s ≤ e ∧ c % s ≠ 0 then (1 : Int) else 0) = if c % s ≠ 0 ∧ C s b ≤ qc ∧ qc + 1 ≤ qe then 1 else 0 := by
    by_cases y : c % s ≠ 0 ∧ C s b ≤ qc ∧ qc + 1 ≤ qe
    · rw [if_pos y, if_pos ⟨k1.mpr y.2.1, by omega, k2.mpr y.2.2, y.1⟩]
    · rw [if_neg y, if_neg fun q => y ⟨q.2.2.2, k1.mp q.1, k2.mp q.2.2.1⟩]
  rw [hI]
  have hc3 : C s c = qc ∧ c % s = 0 ∨ C s c = qc + 1 ∧ c % s ≠ 0 := by
    by_cases z : c % s = 0
    · rw [if_pos z] at hCc
      exact .inl ⟨hCc, z⟩
    · rw [if_neg z] at hCc
      exact .inr ⟨hCc, z⟩
  clear hCc hCb k1 k2 hI
  generalize C s b = cb at *
  generalize C s c = cc at *
  rcases hc3 with ⟨rfl, z⟩ | ⟨rfl, z⟩
  · rw [if_neg (c := c % s ≠ 0 ∧ cb ≤ cc ∧ cc + 1 ≤ qe) fun q => q.1 z]
    split <;> split <;> split <;> omega
  · by_cases y : cb ≤ qc ∧ qc + 1 ≤ qe
    · rw [if_pos (c := c % s ≠ 0 ∧ cb ≤ qc ∧ qc + 1 ≤ qe) ⟨z, y.1, y.2⟩]
      split <;> split <;> split <;> omega
    · rw [if_neg (c := c % s ≠ 0 ∧ cb ≤ qc ∧ qc + 1 ≤ qe) fun q => y q.2]
      split <;> split <;> split <;> omega
end M15

set_option Elab.async false
set_option linter.all false
set_option maxRecDepth 100000
set_option maxHeartbeats 4000000
namespace K26
open PySem PySem.Spec PyProof.Rows L2 Gu Ex
/-- the drawing list at r -/
def Rng (H : Hp) (r : Addr) : Prop := ∃ a b : Int, H r = some (.lst [.int a, .int b]) ∧ 0 ≤ a ∧ 0 ≤ b ∧ b < 2147483587
/-- only the drawing list at r may have changed -/
def Stp (r : Addr) (H H' : Hp) : Prop := Rng H' r ∧ ∀ b o, b ≠ r → H b = some o → H' b = some o
theorem Stp.trans {r : Addr} {H H1 H2 : Hp} (a : Stp r H H1) (b : Stp r H1 H2) : Stp r H H2 := ⟨b.1, fun c o n e => b.2 c o n (a.2 c o n e)⟩
theorem Stp.refl {r : Addr} {H : Hp} (h : Rng H r) : Stp r H H := ⟨h, fun _ _ _ e => e⟩
/-- the ways of a choice come together: what holds of every value -/
theorem join {α : Type} {G : Prop} (Pc : α → Prop) {R : α → Prop} (h1 : (∀ c, Pc c → R c) → G) (h2 : ∀ c, Pc c → R c) : G := h1 h2
theorem Rng.ne {H : Hp} {r p : Addr} (h : Rng H r) (hp : H p = none) : r ≠ p := fun z => by
  obtain ⟨_, _, e, _⟩ := h
  rw [z, hp] at e
  cases e
theorem Stp.new {r p : Addr} {H H1 : Hp} {o : HO} (a : Stp r H H1) (hp : H1 p = none) : Stp r H (upd H1 p o) := by
  obtain ⟨⟨x, y, e, z⟩, k⟩ := a
  refine ⟨⟨x, y, ?_, z⟩, fun b u n e2 => ?_⟩
  · rw [upd_ne (ne_of_none e hp)]
    exact e
  · rw [upd_ne (ne_of_none (k b u n e2) hp)]
    exact k b u n e2
theorem Stp.free {r p : Addr} {H H1 : Hp} (a : Stp r H H1) (h : H1 p = none) : H p = none := by
  cases e : H p with
  | none => rfl
  | some o =>
    have n : p ≠ r := fun z => (a.1.ne h) z.symm
    rw [a.2 p o n e] at h
    cases h
section
variable {P : Program} {w : World} {K : PySem.W.Frag} {mg : Str → Option Value} {base : Heap} {f : Addr} {fd : FuncData}
def spRng (K : PySem.W.Frag) : Sp := fun vs H Q _ => ∃ (a : Addr) (ns : List Int) (k : Nat), vs = [.ref a, .int k] ∧ SqL K H a (ns.map V.int) ∧ k ≤ 63 ∧ ∀ p H', H p = none → Same H H' → Rng H' p → Q (.ref p) H'
theorem sc__law_rng : FnScope ["_law_script", "_law_k", "_law_cell"] ["_law_script", "_law_k"] (defScope (top 33)) := ⟨rfl, rfl, rfl, by decide +kernel, rfl, by decide +kernel, by decide +kernel⟩
theorem ok_rng (T : Tx K mg) (F : FnP K "_law_rng" "_law_rng" (top 33) f fd) : FnOk P w K mg base CX0 1 f fd ["_law_script", "_law_k"] (spRng K) := by
  refine F.ok sc__law_rng (fun vs H Q E h => ?_) (fun cdv A outer s H vs Q E hr h => ⟨_, PSs.nox (pss_cons (ps_set (i := 2) sc__law_rng.nd rfl (by first | exact Or.inl rfl | exact Or.inr rfl) (pe_ifExp (pt_cmpR op_lt (pv 1) (pe_callB call_len_seq (by rfl) T.n_len (by decide +kernel) (pa_cons (pv 0) pa_nil)) (nomark _)) (pe_callB call_abs (by rfl) T.n_abs (by decide +kernel) (pa_cons (pe_ix ix_list (pv 0) (pv 1) (fun _ _ => rfl)) pa_nil)) pe_int)) (pss_one (ps_ret (pe_lst (pa_cons (pe_callB (call_max2 rfl) (by rfl) T.n_max (by decide +kernel) (pa_cons pe_int (pa_cons (pe_op op_sub (pv 2) (pe_op op_pow pe_int pe_int)) pa_nil))) (pa_cons (pe_op op_add (pe_op op_mod (pe_op op_pow (pe_op op_add (pe_op op_add (pe_op op_mod (pv 2) pe_int) (pe_op op_mul pe_int (pv 1))) pe_int) pe_int) pe_int) pe_int) pa_nil)))))), ?_⟩)
  · obtain ⟨a, ns, k, rfl, _⟩ := h
    rfl
  · obtain ⟨a, ns, k, rfl, hS, hk, q⟩ := h
    refine join (fun c : Int => 0 ≤ c) (R := ?R) (fun tail => ?main) ?tl
    case main =>
      refine ⟨_, rfl, _, rfl, a, _, rfl, .inl hS, _, _, rfl, rfl, _, rfl, ?_⟩
      by_cases hl : (k : Int) < (((ns.map V.int).length : Nat) : Int)
      · have hk2 : k < ns.length := by rw [List.length_map] at hl; omega
        refine ifT (decide_eq_true hl) ?_
        refine ⟨_, rfl, _, rfl, a, _, _, _, rfl, rfl, hS, at_map (List.getElem?_eq_getElem hk2), _, rfl, ?_⟩
        obtain ⟨c, hc, ec⟩ : ∃ c : Int, 0 ≤ c ∧ (if ns[k] < 0 then -ns[k] else ns[k]) = c := ⟨if ns[k] < 0 then -ns[k] else ns[k], by split <;> omega, rfl⟩
        rw [ec]
        exact tail c hc
      · refine ifF (decide_eq_false hl) ?_
        exact tail 0 (by decide)
    case tl =>
      intro c hc
      have c0 := Int.emod_nonneg c (show (2147483543 : Int) ≠ 0 by decide)
      have c1 := Int.emod_lt_of_pos c (show (0 : Int) < 2147483543 by decide)
      refine ⟨_, rfl, _, _, rfl, rfl, ⟨by decide, by decide, by decide⟩, _, _, rfl, rfl, _, _, rfl, ?_⟩
      refine ⟨_, rfl, _, _, rfl, rfl, (by show (0 : Int) < 2147483543; decide), _, rfl, _, _, rfl, rfl, .inl ⟨by decide, by decide⟩, _, _, rfl, rfl, _, _, rfl, rfl, _, _, rfl, rfl, ⟨by decide, by decide, by omega⟩, _, _, rfl, rfl, (by show (0 : Int) < 2147483497; decide), _, _, rfl, rfl, ?_⟩
      refine ⟨(by show 2 ≤ sizeLine; decide), fun p hp => q p _ hp (fun b o e => by rw [upd_ne (ne_of_none e hp)]; exact e) ⟨_, _, upd_same, ?_, ?_, ?_⟩⟩
      · split <;> omega
      · have := Int.emod_nonneg ((c % 2147483543 + 101 * (k : Int) + 7) ^ (2 : Int).toNat) (show (2147483497 : Int) ≠ 0 by decide)
        omega
      · have := Int.emod_lt_of_pos ((c % 2147483543 + 101 * (k : Int) + 7) ^ (2 : Int).toNat) (show (0 : Int) < 2147483497 by decide)
        omega
def spDraw : Sp := fun vs H Q _ => ∃ (r : Addr) (m : Int), vs = [.ref r, .int m] ∧ Rng H r ∧ 1 ≤ m ∧ m ≤ 10 ^ 40 ∧ ∀ d H', 0 ≤ d → d < m → Stp r H H' → Q (.int d) H'
theorem sc__law_draw : FnScope ["_law_rng_here", "_law_many", "_law_mixed", "_law_digit"] ["_law_rng_here", "_law_many"] (defScope (top 34)) := ⟨rfl, rfl, rfl, by decide +kernel, rfl, by decide +kernel, by decide +kernel⟩
theorem ok_draw (T : Tx K mg) (F : FnP K "_law_draw" "_law_draw" (top 34) f fd) : FnOk P w K mg base CX0 1 f fd ["_law_rng_here", "_law_many"] spDraw := by
  refine F.ok sc__law_draw (fun vs H Q E h => ?_) (fun cdv A outer s H vs Q E hr h => ⟨_, PSs.nox (pss_cons (ps_if (pt_cmpR op_gt (pe_ix ix_list (pv 0) pe_int (fun _ _ => rfl)) pe_int (nomark _)) (pss_cons (ps_asg (pe_callB call_divmodW (by rfl) T.n_divmod (by decide +kernel) (pa_cons (pe_ix ix_list (pv 0) pe_int (fun _ _ => rfl)) (pa_cons (pv 1) pa_nil))) (pg_tup (by rfl) (pgs_cons (pg_sub (pv 0) pe_int set_list) (pgs_cons (pg_name (i := 3) sc__law_draw.nd rfl (by first | exact Or.inl rfl | exact Or.inr rfl)) pgs_nil)))) (pss_one (ps_ret (pv 3)))) pss_nil) (pss_cons (ps_asg (pe_op op_mod (pe_op op_add (pe_op op_mul (pe_ix ix_list (pv 0) pe_int (fun _ _ => rfl)) pe_int) pe_int) pe_int) (pg_sub (pv 0) pe_int set_list)) (pss_cons (ps_set (i := 2) sc__law_draw.nd rfl (by first | exact Or.inl rfl | exact Or.inr rfl) (pe_op op_fdivW (pe_op op_mod (pe_op op_mul (pe_ix ix_list (pv 0) pe_int (fun _ _ => rfl)) (pe_ix ix_list (pv 0) pe_int (fun _ _ => rfl))) pe_int) pe_int)) (pss_one (ps_ret (pe_ifExp (pt_cmpR op_lt (pv 1) (pe_op op_pow pe_int pe_int) (nomark _)) (pe_op op_mod (pv 2) (pv 1)) (pe_op op_mod (pe_op op_mul (pe_op op_add (pe_op op_mul (pv 2) pe_int) (pe_ix ix_list (pv 0) pe_int (fun _ _ => rfl))) pe_int) (pv 1)))))))), ?_⟩)
  · obtain ⟨r, m, rfl, _⟩ := h
    rfl
  · obtain ⟨r, m, rfl, ⟨a, b, hR, ha, hb, hb2⟩, m1, m2, q⟩ := h
    have mb : m.natAbs < 2 ^ 200 := by
      have : (10 : Int) ^ 40 < 2 ^ 200 := by decide
      have e : ((2 : Nat) ^ 200 : Nat) = ((2 : Int) ^ 200).natAbs := by decide
      omega
    refine ⟨_, rfl, r, _, _, _, rfl, rfl, SqL.of hR, rfl, _, _, rfl, rfl, _, rfl, ?_⟩
    by_cases h0 : 0 < a
    · refine ifT (decide_eq_true h0) ?_
      refine ⟨_, rfl, r, _, _, _, rfl, rfl, SqL.of hR, rfl, _, rfl, _, _, rfl, ⟨by omega, PyProof.noPylong_of_log2 (Nat.lt_of_lt_of_le (PySem.Flt.log2_lt_of (by decide) mb) (by decide))⟩, fun p hp => ?_⟩
      have nrp : r ≠ p := ne_of_none hR hp
      have hR2 : (upd H p (.tup [.int (a / m), .int (a % m)])) r = some (.lst [.int a, .int b]) := by rw [upd_ne nrp]; exact hR
      refine ⟨p, _, rfl, .inl (.inl upd_same), rfl, _, _, rfl, _, rfl, r, _, _, 0, rfl, rfl, hR2, rfl, _, _, rfl, rfl, ?_⟩
      refine ⟨_, rfl, q _ _ (Int.emod_nonneg _ (by omega)) (Int.emod_lt_of_pos _ (by omega)) ⟨⟨a / m, b, upd_same, Int.ediv_nonneg (by omega) (by omega), hb, hb2⟩, fun c o n e => ?_⟩⟩
      rw [upd_ne n, upd_ne (ne_of_none e hp)]
      exact e
    · refine ifF (decide_eq_false h0) ?_
      have b0 := Int.emod_nonneg (b * 48271 + 10007) (show (2147483587 : Int) ≠ 0 by decide)
      have b1 := Int.emod_lt_of_pos (b * 48271 + 10007) (show (0 : Int) < 2147483587 by decide)
      refine ⟨_, rfl, r, _, _, _, rfl, rfl, SqL.of hR, rfl, _, _, rfl, rfl, .inr ⟨by decide, by decide⟩, _, _, rfl, rfl, _, _, rfl, rfl, (by show (0 : Int) < 2147483587; decide), _, rfl, r, _, _, 1, rfl, rfl, hR, rfl, ?_⟩
      dsimp only
      generalize hB : (b * 48271 + 10007) % 2147483587 = B at *
      have hR2 : (upd H r (.lst [.int a, .int B])) r = some (.lst [.int a, .int B]) := upd_same
      have st : Stp r H (upd H r (.lst [.int a, .int B])) := ⟨⟨a, B, upd_same, ha, b0, b1⟩, fun c o n e => by rw [upd_ne n]; exact e⟩
      refine ⟨_, rfl, r, _, _, _, rfl, rfl, SqL.of hR2, rfl, _, rfl, r, _, _, _, rfl, rfl, SqL.of hR2, rfl, _, _, rfl, rfl, .inl ⟨by omega, by omega⟩, _, _, rfl, rfl, (by show (0 : Int) < 2147483549; decide), _, _, rfl, rfl, wide_div (b := 64) (by decide) (by decide) (by decide) (by decide), ?_⟩
      refine ⟨_, rfl, _, _, rfl, rfl, ⟨by decide, by decide, by decide⟩, _, _, rfl, rfl, _, rfl, ite2 (fun _ => ?_) (fun _ => ?_)⟩
      · exact ⟨_, rfl, _, rfl, _, _, rfl, rfl, (by show (0 : Int) < m; omega), q _ _ (Int.emod_nonneg _ (by omega)) (Int.emod_lt_of_pos _ (by omega)) st⟩
      · refine ⟨_, rfl, _, _, rfl, rfl, .inr ⟨by decide, by decide⟩, _, rfl, r, _, _, _, rfl, rfl, SqL.of hR2, rfl, _, _, rfl, rfl, _, _, rfl, rfl, .inr ⟨by decide, by decide⟩, _, rfl, _, _, rfl, rfl, (by show (0 : Int) < m; omega), ?_⟩
        exact q _ _ (Int.emod_nonneg _ (by omega)) (Int.emod_lt_of_pos _ (by omega)) st
end
end K26

set_option Elab.async false
set_option linter.all false
set_option maxRecDepth 100000
set_option maxHeartbeats 4000000
namespace K26
open PySem PySem.Spec PyProof.Rows L2 Gu Ex
section
variable {P : Program} {w : World} {K : PySem.W.Frag} {mg : Str → Option Value} {base : Heap} {f : Addr} {fd : FuncData}
theorem at_of {xs : List V} {d : Int} (h0 : 0 ≤ d) (h1 : d < xs.length) : ∃ v, atI xs d = some v ∧ v ∈ xs := by
  obtain ⟨n, rfl⟩ := Int.eq_ofNat_of_zero_le h0
  have hn : n < xs.length := by omega
  exact ⟨xs[n], atI_nat (List.getElem?_eq_getElem hn), List.getElem_mem hn⟩
def spChoice : Sp := fun vs H Q _ => ∃ (r o : Addr) (xs : List V), vs = [.ref r, .ref o] ∧ Rng H r ∧ H o = some (.lst xs) ∧ o ≠ r ∧ 1 ≤ xs.length ∧ xs.length ≤ 1000 ∧ ∀ v H', v ∈ xs → Stp r H H' → Q v H'
theorem sc__law_choice : FnScope ["_law_rng_here", "_law_options"] ["_law_rng_here", "_law_options"] (defScope (top 35)) := ⟨rfl, rfl, rfl, by decide +kernel, rfl, by decide +kernel, by decide +kernel⟩
theorem ok_choice (T : Tx K mg) (D__law_draw : Df P w K mg base 1 "_law_draw" ["_law_rng_here", "_law_many"] spDraw) (F : FnP K "_law_choice" "_law_choice" (top 35) f fd) : FnOk P w K mg base CX0 2 f fd ["_law_rng_here", "_law_options"] spChoice := by
  refine F.ok sc__law_choice (fun vs H Q E h => ?_) (fun cdv A outer s H vs Q E hr h => ⟨_, PSs.nox (pss_one (ps_ret (pe_ix ix_list (pv 1) (pcall D__law_draw hr (pa_cons (pv 0) (pa_cons (pe_callB call_len_seq (by rfl) T.n_len (by decide +kernel) (pa_cons (pv 1) pa_nil)) pa_nil))) (fun _ _ => rfl)))), ?_⟩)
  · obtain ⟨r, o, xs, rfl, _⟩ := h
    rfl
  · obtain ⟨r, o, xs, rfl, hR, hO, ne, l1, l2, q⟩ := h
    refine ⟨_, rfl, _, rfl, _, rfl, o, _, rfl, .inl (SqL.of hO), r, _, rfl, hR, by omega, ?_, fun d H1 d0 d1 st => ?_⟩
    · have : (1000 : Int) ≤ 10 ^ 40 := by decide
      omega
    · obtain ⟨v, hv, hm⟩ := at_of d0 d1
      exact ⟨o, _, _, v, rfl, rfl, SqL.of (st.2 o _ ne hO), hv, q v H1 hm st⟩
theorem good_one : Good [1] := ⟨⟨by decide, by decide⟩, rfl, fun i x h => by
    cases i with
    | zero => cases h; decide
    | succ i => simp at h, fun i x y h1 h2 => by
    cases i with
    | zero => simp at h2
    | succ i => simp at h1⟩
theorem good_more {ns : List Int} {x k : Int} (g : Good ns) (hl : ns.length < 8) (hx : ns[ns.length - 1]? = some x) (hk : 2 ≤ k) (hm : x * k ≤ 1000000000) : Good (ns ++ [x * k]) := by
  have l := g.len
  have xr := g.rng _ _ hx
  have gt : x < x * k := by
    have := Int.mul_le_mul_of_nonneg_left hk (show (0 : Int) ≤ x by omega)
    omega
  refine ⟨⟨by rw [List.length_append, List.length_singleton]; omega, by rw [List.length_append, List.length_singleton]; omega⟩, ?_, fun i y h => ?_, fun i y z h1 h2 => ?_⟩
  · rw [List.getElem?_append_left (by omega)]
    exact g.one
  · by_cases hi : i < ns.length
    · rw [List.getElem?_append_left hi] at h
      exact g.rng i y h
    · rw [List.getElem?_append_right (by omega)] at h
      have hi2 : i - ns.length = 0 := by
        cases e : i - ns.length with
        | zero => rfl
        | succ n => rw [e] at h; simp at h
      rw [hi2] at h
      have e : x * k = y := Option.some.inj h
      omega
  · by_cases hi : i + 1 < ns.length
    · rw [List.getElem?_append_left hi] at h2
      rw [List.getElem?_append_left (by omega)] at h1
      exact g.up i y z h1 h2
    · by_cases hi2 : i + 1 = ns.length
      · rw [List.getElem?_append_left (by omega)] at h1
        rw [List.getElem?_append_right (by omega), hi2, Nat.sub_self] at h2
        have e : x * k = z := Option.some.inj h2
        rw [show i = ns.length - 1 by omega, hx] at h1
        have e2 : x = y := Option.some.inj h1
        rw [← e, ← e2]
        exact ⟨gt, Int.mul_emod_right x k⟩
      · rw [List.getElem?_append_right (by omega)] at h2
        cases e : i + 1 - ns.length with
        | zero => omega
        | succ n => rw [e] at h2; simp at h2
def spSizes : Sp := fun vs H Q _ => ∃ (r : Addr) (lv gr : Int), vs = [.ref r, .int lv, .int gr] ∧ Rng H r ∧ 1 ≤ lv ∧ lv ≤ 8 ∧ 2 ≤ gr ∧ gr ≤ 1000000 ∧
  ∀ l ns H', Good ns → H l = none → H' l = some (.lst (ns.map V.int)) → Stp r H H' → Q (.ref l) H'
theorem at_last (ys : List Int) (x : Int) : atI ((ys ++ [x]).map V.int) (-1) = some (.int x) := by
  rw [List.map_append]
  exact atI_last _ _
theorem last_of : ∀ {ns : List Int}, 1 ≤ ns.length → ∃ ys x, ns = ys ++ [x]
  | [], h => absurd h (by decide)
  | [x], _ => ⟨[], x, rfl⟩
  | a :: b :: r, _ => by
    obtain ⟨ys, x, e⟩ := last_of (ns := b :: r) (by simp)
    exact ⟨a :: ys, x, by rw [e]; rfl⟩
theorem last_get (ys : List Int) (x : Int) : (ys ++ [x])[(ys ++ [x]).length - 1]? = some x := by
  rw [List.length_append, List.length_singleton, Nat.add_sub_cancel, List.getElem?_append_right (Nat.le_refl _), Nat.sub_self]
  rfl
theorem sc__law_sizes : FnScope ["_law_rng_here", "_law_levels", "_law_greatest", "_law_result", "_law_k", "_law_factor"] ["_law_rng_here", "_law_levels", "_law_greatest"] (defScope (top 36)) := ⟨rfl, rfl, rfl, by decide +kernel, rfl, by decide +kernel, by decide +kernel⟩
theorem ok_sizes (T : Tx K mg) (D__law_draw : Df P w K mg base 1 "_law_draw" ["_law_rng_here", "_law_many"] spDraw) (F : FnP K "_law_sizes" "_law_sizes" (top 36) f fd) :
    FnOk P w K mg base CX0 2 f fd ["_law_rng_here", "_law_levels", "_law_greatest"] spSizes := by
  refine F.ok sc__law_sizes (fun vs H Q E h => ?_) (fun cdv A outer s H vs Q E hr h => ⟨_, PSs.nox (pss_cons (ps_set (i := 3) sc__law_sizes.nd rfl (by first | exact Or.inl rfl | exact Or.inr rfl) (pe_lst (pa_cons pe_int pa_nil))) (pss_cons (ps_for PassesOwn.never rfl (pi_range1 rfl T.n_range (pa_cons (pcall D__law_draw hr (pa_cons (pv 0) (pa_cons (pv 1) pa_nil))) pa_nil)) (pg_name (i := 4) sc__law_sizes.nd rfl (by first | exact Or.inl rfl | exact Or.inr rfl)) (pss_cons (ps_set (i := 5) sc__law_sizes.nd rfl (by first | exact Or.inl rfl | exact Or.inr rfl) (pe_ix ix_list (pe_lst (pa_cons pe_int (pa_cons pe_int (pa_cons pe_int (pa_cons pe_int (pa_cons (pe_op op_add pe_int (pcall D__law_draw hr (pa_cons (pv 0) (pa_cons (pe_op op_sub (pv 2) pe_int) pa_nil)))) pa_nil)))))) (pcall D__law_draw hr (pa_cons (pv 0) (pa_cons pe_int pa_nil))) (fun _ _ => rfl))) (pss_one (ps_if (PW.pt (pw_and (pt_cmpR op_le (pe_op op_mul (pe_ix ix_list (pv 3) (pe_un un_neg pe_int) (fun _ _ => rfl)) (pv 5)) (pe_op op_pow pe_int pe_int) (nomark _)) (pw_and1 (pt_cmpR op_le (pv 5) (pv 2) (nomark _))))) (pss_one (ps_expr (pe_bm PySem.F.plainAttrs_list PySem.F.slot_list_append PySem.F.type_list_append mt_append (pv 3) (pa_cons (pe_op op_mul (pe_ix ix_list (pv 3) (pe_un un_neg pe_int) (fun _ _ => rfl)) (pv 5)) pa_nil)))) pss_nil)))) (pss_one (ps_ret (pv 3))))), ?_⟩)
  · obtain ⟨r, lv, gr, rfl, _⟩ := h
    rfl
  · obtain ⟨r, lv, gr, rfl, hR, l1, l2, g1, g2, q⟩ := h
    have big : (10 : Int) ^ 40 = 10000000000000000000000000000000000000000 := by decide
    refine ⟨(by show 1 ≤ sizeLine; decide), fun l hl => ?_⟩
    have nrl : r ≠ l := hR.ne hl
    have s0 : Stp r H (upd H l (.lst [.int 1])) := (Stp.refl hR).new hl
    refine ⟨_, rfl, _, rfl, r, lv, rfl, s0.1, l1, by omega, fun d H1 d0 d1 s1 => ?_⟩
    refine ⟨d, rfl, by omega, by omega, ?_⟩
    have s01 := s0.trans s1
    refine for_range (fun i σ H' => ∃ ns x y, σ = [some (.ref r), some (.int lv), some (.int gr), some (.ref l), x, y] ∧ Good ns ∧ ns.length ≤ i + 1 ∧ H' l = some (.lst (ns.map V.int)) ∧ Stp r H H') ⟨[1], none, none, rfl, good_one, by simp, s1.2 l _ nrl.symm upd_same, s01⟩ ?_ ?_
    · rintro i σ H' hi ⟨ns, x, y, rfl, g, hlen, hL, st⟩
      have hi8 : i < 8 := by omega
      obtain ⟨ys, z, rfl⟩ := last_of g.len.1
      have zr := g.rng _ _ (last_get ys z)
      refine ⟨_, rfl, _, rfl, _, _, rfl, rfl, r, gr - 1, rfl, st.1, by omega, by omega, fun d1 H1 a0 a1 t1 => ?_⟩
      have st1 := st.trans t1
      have hL1 : H1 l = some (.lst ((ys ++ [z]).map V.int)) := t1.2 l _ nrl.symm hL
      refine ⟨_, _, rfl, rfl, (by show 5 ≤ sizeLine; decide), fun t ht => ?_⟩
      have st2 := st1.new (o := .lst [.int 2, .int 2, .int 3, .int 4, .int (2 + d1)]) ht
      have nrt : r ≠ t := st1.1.ne ht
      have hL2 : (upd H1 t (.lst [.int 2, .int 2, .int 3, .int 4, .int (2 + d1)])) l = some (.lst ((ys ++ [z]).map V.int)) := by rw [upd_ne (ne_of_none hL1 ht)]; exact hL1
      refine ⟨_, rfl, r, 5, rfl, st2.1, by decide, by omega, fun d2 H3 b0 b1 t3 => ?_⟩
      have st3 := st2.trans t3
      have hL3 : H3 l = some (.lst ((ys ++ [z]).map V.int)) := t3.2 l _ nrl.symm hL2
      obtain ⟨v, hv, hm⟩ := at_of (xs := [.int 2, .int 2, .int 3, .int 4, .int (2 + d1)]) b0 b1
      obtain ⟨k, rfl, k2⟩ : ∃ k : Int, v = .int k ∧ 2 ≤ k := by
        simp only [List.mem_cons, List.not_mem_nil, or_false] at hm
        rcases hm with rfl | rfl | rfl | rfl | rfl
        · exact ⟨_, rfl, by omega⟩
        · exact ⟨_, rfl, by omega⟩
        · exact ⟨_, rfl, by omega⟩
        · exact ⟨_, rfl, by omega⟩
        · exact ⟨_, rfl, by omega⟩
      refine ⟨t, _, _, _, rfl, rfl, SqL.of (t3.2 t _ nrt.symm upd_same), hv, ?_⟩
      refine ⟨_, rfl, _, rfl, l, _, _, _, rfl, rfl, SqL.of hL3, at_last ys z, _, rfl, _, _, rfl, rfl, .inl ⟨by omega, by omega⟩, _, _, rfl, rfl, ⟨by decide, by decide, by decide⟩, _, _, rfl, rfl, _, rfl, ?_⟩
      by_cases hc : z * k ≤ 10 ^ (9 : Int).toNat
      · refine ifT (decide_eq_true hc) ?_
        refine ⟨_, rfl, _, rfl, _, _, rfl, rfl, _, rfl, ite2 (fun hk => ?_) (fun _ => ?_)⟩
        · refine ⟨_, rfl, .inl ⟨rfl, _, SqL.of hL3⟩, _, rfl, _, rfl, l, _, _, _, rfl, rfl, SqL.of hL3, at_last ys z, _, rfl, _, _, rfl, rfl, .inl ⟨by omega, by omega⟩, l, _, _, rfl, rfl, hL3, ?_, ?_⟩
          · exact small1000 (by rw [List.length_map]; omega)
          · have hc2 : z * k ≤ 1000000000 := hc
            refine ⟨(ys ++ [z]) ++ [z * k], _, _, rfl, good_more g (by omega) (last_get ys z) k2 hc2, by rw [List.length_append (bs := [z * k]), List.length_singleton]; omega, ?_, ?_⟩
            · rw [upd_same, List.map_append (l₂ := [z * k])]
              rfl
            · obtain ⟨⟨x1, x2, e1, e2⟩, kk⟩ := st3
              refine ⟨⟨x1, x2, by rw [upd_ne nrl]; exact e1, e2⟩, fun b o n e => ?_⟩
              rw [upd_ne (ne_of_none e hl)]
              exact kk b o n e
        · exact ⟨_, _, _, rfl, g, by omega, hL3, st3⟩
      · exact ifF (decide_eq_false hc) ⟨_, _, _, rfl, g, by omega, hL3, st3⟩
    · rintro σ H' ⟨ns, x, y, rfl, g, hlen, hL, st⟩
      exact ⟨_, rfl, q l ns H' g hl hL st⟩
end
end K26

set_option Elab.async false
set_option linter.all false
set_option maxRecDepth 100000
set_option maxHeartbeats 4000000
/-! Own layer: range(a, b, c) of any whole numbers a, b and a step from 1 to 2^30; a comprehension over it. -/
namespace Ex
open PySem PySem.Spec PyProof.Rows L2 Gu
theorem turn_longC {P : Program} {w : World} {K : PySem.W.Frag} {tg : Expr} (it : Addr) (lo c : Int) (n : Nat) :
    Turn P w K tg (Itc lo c n) [it] it (fun i h => IsLongIter h it (lo + (i : Nat) * c) ((n : Int) - (i : Nat)) c) where
  mem := List.mem_singleton.mpr rfl
  obj := fun i h st b hb => by
    obtain rfl := List.mem_singleton.mp hb
    exact ⟨_, st, fun v z => nomatch (show Data.fields _ = Data.cell v from z)⟩
  keep := fun i h h' st k => k it (List.mem_singleton.mpr rfl) _ st
  item := by
    rintro X rfl rfl rfl hc i pins s σ H E I hf st hg
    obtain ⟨f0, f1, f2, f3, f4, f5⟩ := hf it (List.mem_singleton.mpr rfl)
    refine (Walks.longrange (prog := X.prog) (w := X.w) (I.ok.hd hc) it lo c n).item i s _ _ hg st fun v h' tk hv st' kk => ?_
    obtain ⟨t, rfl⟩ := hv
    have J : Inv X pins σ H { s with heap := h', toks := tk } := I.turned (fun b o hb e => kk b o (fun z => hb (List.mem_singleton.mp z)) e) f0 f1 f3 f4 f5
    exact ⟨_, rfl, go_of (s := { s with heap := h', toks := tk }) (n := "longrange_iterator") st' rfl rfl (by decide) ⟨.int (lo + (i : Nat) * c), H, J, ⟨t, rfl⟩, ⟨rfl, rfl⟩, st', fun b hb => (hf b hb).1⟩⟩
  done := by
    rintro X rfl rfl rfl hc i pins s σ H E I hf st hg
    obtain ⟨f0, f1, f2, f3, f4, f5⟩ := hf it (List.mem_singleton.mpr rfl)
    have hn : n ≤ i := hg
    exact wpAny_pyNext_long_end (I.ok.hd hc) st (by omega) fun h' eb => ⟨rfl, I.turned (t' := s.toks) (fun b o hb e => eb b o hb e) f0 f1 f3 f4 f5⟩
  self := fun _ _ _ _ _ st h => wpAny_pyIter_longiter st h
section
variable {X : Cx} {tg : Expr}
theorem range_anyC {pins : List (Addr × Obj)} {σ : L2.St} {H : Hp} {s : Shared} {R : It → Hp → Prop} {E : Value → Shared → Prop} {lo hi c : Int} {t u v : Tok} {tk : Nat} (I : Inv X pins σ H s) (q : R (Itc lo c (Builtin.Range.rangeSize lo hi c).toNat) H) :
    wpAny (model X.prog X.w) X.A (pyIter (.ref s.heap.objs.size)) (PIE X pins σ tg R) E { s with heap := s.heap.push { cls := .type "range", data := .fields #[.int lo t, .int hi u, .int c v] }, toks := tk } := by
  have J : Inv X pins σ H { s with heap := s.heap.push { cls := .type "range", data := .fields #[.int lo t, .int hi u, .int c v] }, toks := tk } := I.kept fun b o e => Heap.get?_push_of_some _ e
  have e1 : lo + ((0 : Nat) : Int) * c = lo := by simp
  have e2 : (((Builtin.Range.rangeSize lo hi c).toNat : Nat) : Int) - ((0 : Nat) : Int) = Builtin.Range.rangeSize lo hi c := by
    rw [← rangeSize_toNat]
    simp
  have fr : ∀ b ∈ [(s.heap.push { cls := .type "range", data := .fields #[.int lo t, .int hi u, .int c v] }).objs.size], _ := fun b hb => by
    obtain rfl := List.mem_singleton.mp hb
    exact J.fpOk (Nat.le_refl _) (J.hok.fresh (Nat.le_refl _))
  cases hs : Builtin.Range.small lo hi c with
  | true =>
    refine wpAny_pyIter_range (IsRange.new ..) hs ⟨_, [_], _, _, H, rfl, J.kept (t' := tk) fun b o e => Heap.get?_push_of_some _ e, turn_rangeC _ lo c (Builtin.Range.rangeSize lo hi c).toNat, ?_, fr, q⟩
    show IsRangeIter _ _ (lo + ((0 : Nat) : Int) * c) ((((Builtin.Range.rangeSize lo hi c).toNat : Nat) : Int) - ((0 : Nat) : Int)) c
    rw [e1, e2]
    exact Heap.get?_push_size _ rfl
  | false =>
    refine wpAny_pyIter_longrange (IsRange.new ..) hs ⟨_, [_], _, _, H, rfl, J.kept (t' := tk) fun b o e => Heap.get?_push_of_some _ e, turn_longC _ lo c (Builtin.Range.rangeSize lo hi c).toNat, ?_, fr, q⟩
    show IsLongIter _ _ (lo + ((0 : Nat) : Int) * c) ((((Builtin.Range.rangeSize lo hi c).toNat : Nat) : Int) - ((0 : Nat) : Int)) c
    rw [e1, e2]
    exact Heap.get?_push_size _ rfl
/-- how many turns range(i, j, c) has -/
def stepsN (i j c : Int) : Nat := (Builtin.Range.rangeSize i j c).toNat
def iRngS (ta : TA) : TI := fun σ H R => ta σ H fun vs H1 => ∃ i j c : Int, vs = [.int i, .int j, .int c] ∧ 1 ≤ c ∧ c < 1073741824 ∧ R (Itc i c (stepsN i j c)) H1
theorem pi_rangeS {a b c : Expr} {ta : TA} {p pos : Pos} (hg : Gl X "range") (hm : X.mg "range" = none) (ha : PA X [a, b, c] ta)
    (hs : starEach [a, b, c] X.env = (false, eval a X.env) :: starEach [b, c] X.env := by rfl) (hpl : (backTo pos (starEach [b, c] X.env)).any (·.1) = false := by rfl) :
    PI X tg (.Call (.Name "range" p) [a, b, c] [] pos) (iRngS ta) := by
  refine ⟨fun pins s σ H R I h => ?_⟩
  refine Call_ (ld_blt I hg hm boot_range (PyProof.Rows.callWith_type1 (thn (ha.run pos pins s σ H _ I h) fun us s1 ⟨vs, H1, I1, r1, q1⟩ => ?_) hs hpl))
  obtain ⟨i, j, k, e, c0, c1, q⟩ := q1
  subst e
  cases r1 with
  | cons r rr =>
    cases rr with
    | cons r' rr =>
      cases rr with
      | cons r'' rr =>
        cases rr
        obtain ⟨t, rfl⟩ := r
        obtain ⟨t', rfl⟩ := r'
        obtain ⟨t'', rfl⟩ := r''
        exact call_range_3 (by omega) (range_anyC (tk := s1.toks) I1 q) (.inl (PyProof.noPylong_small (by omega)))
end
theorem steps_le {i j c : Int} (hc : 1 ≤ c) (h : j - i ≤ 100) : stepsN i j c ≤ 100 := by
  unfold stepsN Builtin.Range.rangeSize
  rw [if_pos (by omega)]
  split
  · have h1 := Int.ediv_le_self c (show (0 : Int) ≤ j - i - 1 by omega)
    omega
  · decide
/-- the turns reach every step below the end, and no other -/
theorem steps_lt {i j c : Int} (hc : 1 ≤ c) (n : Nat) : n < stepsN i j c ↔ i + (n : Int) * c < j := by
  unfold stepsN Builtin.Range.rangeSize
  rw [if_pos (by omega)]
  by_cases hij : i < j
  · rw [if_pos hij]
    have d0 : 0 ≤ (j - i - 1) / c := Int.ediv_nonneg (by omega) (by omega)
    have e1 := Int.mul_ediv_add_emod (j - i - 1) c
    have e2 := Int.emod_nonneg (j - i - 1) (show c ≠ 0 by omega)
    have e3 := Int.emod_lt_of_pos (j - i - 1) (show 0 < c by omega)
    generalize (j - i - 1) / c = q at *
    constructor
    · intro h
      have h2 : (n : Int) ≤ q := by omega
      have h3 := Int.mul_le_mul_of_nonneg_left h2 (show 0 ≤ c by omega)
      have h4 : (n : Int) * c = c * n := Int.mul_comm _ _
      omega
    · intro h
      have h4 : (n : Int) * c = c * n := Int.mul_comm _ _
      have h2 : (n : Int) ≤ q := by
        refine Int.not_lt.mp fun z => ?_
        have h3 := Int.mul_le_mul_of_nonneg_left (show q + 1 ≤ (n : Int) by omega) (show 0 ≤ c by omega)
        rw [Int.mul_add, Int.mul_one] at h3
        omega
      omega
  · rw [if_neg hij]
    have : 0 ≤ (n : Int) * c := Int.mul_nonneg (by omega) (by omega)
    constructor
    · intro h
      have : n < (0 : Int).toNat := h
      exact absurd this (Nat.not_lt_zero _)
    · intro h
      omega
/-- a comprehension over such a range -/
theorem lc_rangeC {lo c : Int} {n : Nat} {g : TG} {tt : TT} {te : TE} {vs : List Nat} {σ : L2.St} {H1 : Hp} {D : Addr} {Qd : Hp → Prop} (Pv : Nat → Hp → Prop) (h0 : Pv 0 (upd H1 D (.lst [])))
    (hs : ∀ i H, i < n → Pv i H → g (.int (lo + (i : Nat) * c)) (wipe σ vs) H fun σ2 H2 => wipe σ2 vs = wipe σ vs ∧ tt σ2 H2 fun b H3 =>
      if b = true then te σ2 H3 fun y H4 => ∃ acc, H4 D = some (.lst acc) ∧ acc.length < sizeLine ∧ Pv (i + 1) (upd H4 D (.lst (acc ++ [y]))) else Pv (i + 1) H3) (hd : ∀ H, Pv n H → Qd H) :
    ∃ W : Nat → Nat → Hp → Prop, (∃ m, W 0 m (upd H1 D (.lst []))) ∧ ∀ i m H, W i m H →
      ((Itc lo c n).stop i H ∧ Qd H) ∨ ((Itc lo c n).go i H ∧ ∃ Nx : Hp → Prop, (∀ H', Nx H' → ∃ m', m' < m ∧ W (i + 1) m' H') ∧ ∀ x H', (Itc lo c n).yld i H x H' → g x (wipe σ vs) H' fun σ2 H2 => wipe σ2 vs = wipe σ vs ∧ tt σ2 H2 fun b H3 =>
        if b = true then te σ2 H3 fun y H4 => ∃ acc, H4 D = some (.lst acc) ∧ acc.length < sizeLine ∧ Nx (upd H4 D (.lst (acc ++ [y]))) else Nx H3) := by
  refine ⟨fun i m H => m = n - i ∧ i ≤ n ∧ Pv i H, ⟨n, by simp, Nat.zero_le _, h0⟩, ?_⟩
  rintro i m H ⟨rfl, hi, p⟩
  by_cases hlt : i < n
  · refine .inr ⟨hlt, Pv (i + 1), fun H' p' => ⟨n - (i + 1), by omega, rfl, hlt, p'⟩, fun x H' y => ?_⟩
    obtain ⟨e, y⟩ := y
    subst e y
    exact hs i _ hlt p
  · have e : i = n := by omega
    subst e
    exact .inl ⟨Nat.le_refl _, hd H p⟩
end Ex

set_option Elab.async false
set_option linter.all false
/-! The mathematics of maximal regions: sizes that divide each other, a range from lo to hi. -/
namespace M16
structure Ch (s : Nat → Int) (m : Nat) : Prop where
  m1 : 1 ≤ m
  one : s 0 = 1
  pos : ∀ k, k < m → 1 ≤ s k
  dv : ∀ k, k + 1 < m → s k ∣ s (k + 1)
theorem Ch.dvd {s : Nat → Int} {m : Nat} (c : Ch s m) {j : Nat} : ∀ {k : Nat}, j ≤ k → k < m → s j ∣ s k
  | 0, h, _ => by
    rw [show j = 0 by omega]
    exact Int.dvd_refl _
  | k + 1, h, hk => by
    by_cases e : j = k + 1
    · rw [e]
      exact Int.dvd_refl _
    · exact Int.dvd_trans (Ch.dvd c (show j ≤ k by omega) (by omega)) (c.dv k hk)
theorem gap {z q e : Int} (h1 : z ∣ q) (h2 : z ∣ e) (h : q < e) : q + z ≤ e := by
  have := Int.le_of_dvd (by omega) (Int.dvd_sub h2 h1)
  omega
theorem mod0 {z x : Int} (h : z ∣ x) : x % z = 0 := Int.emod_eq_zero_of_dvd h
theorem dvd0 {z x : Int} (h : x % z = 0) : z ∣ x := Int.dvd_of_emod_eq_zero h
theorem fl_dvd (z x : Int) : z ∣ x - x % z := ⟨x / z, by have := Int.mul_ediv_add_emod x z; omega⟩
theorem fl_le {z : Int} (x : Int) (hz : 1 ≤ z) : x - x % z ≤ x := by
  have := Int.emod_nonneg x (show z ≠ 0 by omega)
  omega
theorem fl_lt {z : Int} (x : Int) (hz : 1 ≤ z) : x < x - x % z + z := by
  have := Int.emod_lt_of_pos x (show 0 < z by omega)
  omega
theorem fl_eq {z q x : Int} (hz : 1 ≤ z) (h : z ∣ q) (h1 : q ≤ x) (h2 : x < q + z) : x - x % z = q := by
  have a := fl_le x hz
  have b := fl_lt x hz
  have d := fl_dvd z x
  rcases Int.lt_trichotomy (x - x % z) q with e | e | e
  · have := gap d h e
    omega
  · exact e
  · have := gap h d e
    omega
theorem fl_ge {z q x : Int} (hz : 1 ≤ z) (h : z ∣ q) (h1 : q ≤ x) : q ≤ x - x % z := by
  have b := fl_lt x hz
  refine Int.not_lt.mp fun e => ?_
  have := gap (fl_dvd z x) h e
  omega
/-- the least multiple from a on -/
def nx (z a : Int) : Int := -(-a / z) * z
theorem nx_is (z a : Int) : nx z a = a + (-a) % z := by
  have e := Int.mul_ediv_add_emod (-a) z
  have h : nx z a = -(z * (-a / z)) := by
    unfold nx
    rw [Int.neg_mul, Int.mul_comm]
  omega
theorem nx_dvd (z a : Int) : z ∣ nx z a := ⟨-(-a / z), by unfold nx; rw [Int.mul_comm]⟩
theorem nx_ge {z : Int} (a : Int) (hz : 1 ≤ z) : a ≤ nx z a := by
  have := Int.emod_nonneg (-a) (show z ≠ 0 by omega)
  rw [nx_is]
  omega
theorem nx_lt {z : Int} (a : Int) (hz : 1 ≤ z) : nx z a < a + z := by
  have := Int.emod_lt_of_pos (-a) (show 0 < z by omega)
  rw [nx_is]
  omega
theorem nx_least {z a q : Int} (hz : 1 ≤ z) (h : z ∣ q) (ha : a ≤ q) : nx z a ≤ q := by
  refine Int.not_lt.mp fun e => ?_
  have := gap h (nx_dvd z a) e
  have := nx_lt a hz
  omega
theorem nx_self {z a : Int} (hz : 1 ≤ z) (h : z ∣ a) : nx z a = a := by
  have := nx_ge a hz
  have := nx_least hz h (Int.le_refl a)
  omega
/-- count_regions is positive just if the first region ends by b -/
theorem cnt_pos {z a b : Int} (hz : 1 ≤ z) : 0 < ((b - b % z) - nx z a) / z ↔ nx z a + z ≤ b := by
  have h : (1 : Int) ≤ ((b - b % z) - nx z a) / z ↔ 1 * z ≤ (b - b % z) - nx z a := Int.le_ediv_iff_mul_le (by omega)
  rw [Int.one_mul] at h
  have l := fl_le b hz
  constructor
  · intro k
    have := h.mp (by omega)
    omega
  · intro k
    have d : z ∣ nx z a + z := Int.dvd_add (nx_dvd z a) (Int.dvd_refl z)
    have := fl_ge hz d k
    have := h.mpr (by omega)
    omega
section
variable (s : Nat → Int) (m : Nat) (hi : Int)
def Lies (a : Int) (k : Nat) : Prop := a % s k = 0 ∧ a + s k ≤ hi
instance (a : Int) (k : Nat) : Decidable (Lies s hi a k) := inferInstanceAs (Decidable (a % s k = 0 ∧ a + s k ≤ hi))
/-- the highest level of a region at a, sought from n down -/
def lev (a : Int) : Nat → Nat
  | 0 => 0
  | n + 1 => if Lies s hi a (n + 1) then n + 1 else lev a n
def L (a : Int) : Nat := lev s hi a (m - 1)
def en (a : Int) : Int := if L s m hi a + 1 < m ∧ nx (s (L s m hi a + 1)) a + s (L s m hi a + 1) ≤ hi then nx (s (L s m hi a + 1)) a else hi - hi % s (L s m hi a)
/-- no region that lies in the range goes across a -/
def B (lo a : Int) : Prop := ∀ j, j < m → a % s j ≠ 0 → ¬ (lo ≤ a - a % s j ∧ a - a % s j + s j ≤ hi)
abbrev Run : Type := Nat × Int × Int
def run (a : Int) : Run := (L s m hi a, a, (en s m hi a - a) / s (L s m hi a))
def lay : Nat → Int → List Run
  | 0, _ => []
  | n + 1, a => if a < hi then run s m hi a :: lay n (en s m hi a) else []
def R (a : Int) : List Run := lay s m hi (hi - a).toNat a
end
section
variable {s : Nat → Int} {m : Nat} {hi a lo : Int}
theorem lev_le : ∀ n, lev s hi a n ≤ n
  | 0 => Nat.le_refl _
  | n + 1 => by
    show (if Lies s hi a (n + 1) then n + 1 else lev s hi a n) ≤ n + 1
    split
    · exact Nat.le_refl _
    · have := lev_le n
      omega
theorem lev_lies (h0 : Lies s hi a 0) : ∀ n, Lies s hi a (lev s hi a n)
  | 0 => h0
  | n + 1 => by
    show Lies s hi a (if Lies s hi a (n + 1) then n + 1 else lev s hi a n)
    split
    · assumption
    · exact lev_lies h0 n
theorem lev_max : ∀ n j, j ≤ n → lev s hi a n < j → ¬ Lies s hi a j
  | 0, j, h, h2 => by
    have : lev s hi a 0 = 0 := rfl
    omega
  | n + 1, j, h, h2 => by
    have e : lev s hi a (n + 1) = if Lies s hi a (n + 1) then n + 1 else lev s hi a n := rfl
    by_cases hl : Lies s hi a (n + 1)
    · rw [e, if_pos hl] at h2
      omega
    · rw [e, if_neg hl] at h2
      by_cases ej : j = n + 1
      · rw [ej]
        exact hl
      · exact lev_max n j (by omega) h2
theorem lies0 (c : Ch s m) (h : a < hi) : Lies s hi a 0 := by
  unfold Lies
  rw [c.one]
  exact ⟨Int.emod_one a, by omega⟩
theorem L_lt (c : Ch s m) : L s m hi a < m := by
  have := lev_le (s := s) (hi := hi) (a := a) (m - 1)
  have := c.m1
  show lev s hi a (m - 1) < m
  omega
theorem L_lies (c : Ch s m) (h : a < hi) : Lies s hi a (L s m hi a) := lev_lies (lies0 c h) _
theorem L_max (c : Ch s m) {j : Nat} (hj : j < m) (h : L s m hi a < j) : ¬ Lies s hi a j := lev_max (m - 1) j (by omega) h
theorem lies_down (c : Ch s m) {j k : Nat} (h : j ≤ k) (hk : k < m) (x : Lies s hi a k) : Lies s hi a j := by
  have d := c.dvd h hk
  have p := c.pos k hk
  have l := Int.le_of_dvd (by omega) d
  exact ⟨mod0 (Int.dvd_trans d (dvd0 x.1)), by have := x.2; omega⟩
theorem en1 (c1 : L s m hi a + 1 < m ∧ nx (s (L s m hi a + 1)) a + s (L s m hi a + 1) ≤ hi) : en s m hi a = nx (s (L s m hi a + 1)) a := if_pos c1
theorem en2 (c2 : ¬ (L s m hi a + 1 < m ∧ nx (s (L s m hi a + 1)) a + s (L s m hi a + 1) ≤ hi)) : en s m hi a = hi - hi % s (L s m hi a) := if_neg c2
theorem en_gt (c : Ch s m) (h : a < hi) : a < en s m hi a := by
  have hl := L_lies c h
  have hm := L_lt (a := a) (hi := hi) c
  by_cases c1 : L s m hi a + 1 < m ∧ nx (s (L s m hi a + 1)) a + s (L s m hi a + 1) ≤ hi
  · rw [en1 c1]
    have z := c.pos _ c1.1
    have g := nx_ge a z
    refine Int.not_le.mp fun hle => ?_
    have e : a = nx (s (L s m hi a + 1)) a := by omega
    refine L_max c c1.1 (Nat.lt_succ_self _) ⟨mod0 ?_, ?_⟩
    · have d := nx_dvd (s (L s m hi a + 1)) a
      rw [← e] at d
      exact d
    · have := c1.2
      rw [← e] at this
      exact this
  · rw [en2 c1]
    have z := c.pos _ hm
    have := fl_ge (x := hi) z (Int.dvd_add (dvd0 hl.1) (Int.dvd_refl _)) hl.2
    omega
theorem en_le (c : Ch s m) : en s m hi a ≤ hi := by
  by_cases c1 : L s m hi a + 1 < m ∧ nx (s (L s m hi a + 1)) a + s (L s m hi a + 1) ≤ hi
  · rw [en1 c1]
    have := c.pos _ c1.1
    have := c1.2
    omega
  · rw [en2 c1]
    exact fl_le hi (c.pos _ (L_lt c))
theorem en_dvd (c : Ch s m) : s (L s m hi a) ∣ en s m hi a := by
  by_cases c1 : L s m hi a + 1 < m ∧ nx (s (L s m hi a + 1)) a + s (L s m hi a + 1) ≤ hi
  · rw [en1 c1]
    exact Int.dvd_trans (c.dv _ c1.1) (nx_dvd _ _)
  · rw [en2 c1]
    exact fl_dvd _ _
/-- one way up, the other down -/
theorem up (c : Ch s m) (c1 : L s m hi a + 1 < m ∧ nx (s (L s m hi a + 1)) a + s (L s m hi a + 1) ≤ hi) : en s m hi a < hi ∧ L s m hi a < L s m hi (en s m hi a) := by
  have z := c.pos _ c1.1
  have e := en1 c1
  have h2 := c1.2
  rw [← e] at h2
  refine ⟨by omega, Nat.lt_of_not_le fun hle => ?_⟩
  refine L_max (a := en s m hi a) c c1.1 (by omega) ⟨mod0 ?_, h2⟩
  rw [e]
  exact nx_dvd _ _
def NoHi (s : Nat → Int) (m : Nat) (hi a : Int) : Prop := ¬ (L s m hi a + 1 < m ∧ nx (s (L s m hi a + 1)) a + s (L s m hi a + 1) ≤ hi)
theorem down (c : Ch s m) (c2 : NoHi s m hi a) (h : en s m hi a < hi) : L s m hi (en s m hi a) < L s m hi a ∧ NoHi s m hi (en s m hi a) := by
  have e := en2 c2
  have hm := L_lt (a := a) (hi := hi) c
  have z := c.pos _ hm
  have l := fl_lt hi z
  have dk : s (L s m hi a) ∣ en s m hi a := en_dvd c
  have lt : L s m hi (en s m hi a) < L s m hi a := Nat.lt_of_not_le fun hle => by
    have x := lies_down c hle (L_lt c) (L_lies c h)
    have := x.2
    omega
  refine ⟨lt, fun c1 => ?_⟩
  have d := Int.dvd_trans (c.dvd (show L s m hi (en s m hi a) + 1 ≤ L s m hi a by omega) hm) dk
  have n := nx_self (c.pos _ c1.1) d
  have k := c1.2
  rw [n] at k
  exact L_max (a := en s m hi a) c c1.1 (Nat.lt_succ_self _) ⟨mod0 d, k⟩
theorem other (c : Ch s m) (h : en s m hi a < hi) : L s m hi a ≠ L s m hi (en s m hi a) := by
  by_cases c1 : L s m hi a + 1 < m ∧ nx (s (L s m hi a + 1)) a + s (L s m hi a + 1) ≤ hi
  · have := (up c c1).2
    omega
  · have := (down c c1 h).1
    omega
theorem B_lo (c : Ch s m) : B s m hi lo lo := fun j hj n h => by
  have := Int.emod_nonneg lo (show s j ≠ 0 by have := c.pos j hj; omega)
  omega
theorem B_next (c : Ch s m) (h : a < hi) (b : B s m hi lo a) : B s m hi lo (en s m hi a) := fun j hj n ⟨h1, h2⟩ => by
  have hm := L_lt (a := a) (hi := hi) c
  have zj := c.pos j hj
  have q0 := fl_dvd (s j) (en s m hi a)
  have q1 := fl_le (en s m hi a) zj
  have q2 := fl_lt (en s m hi a) zj
  have gt := en_gt c h
  have nq : en s m hi a - en s m hi a % s j < en s m hi a := by
    have := Int.emod_nonneg (en s m hi a) (show s j ≠ 0 by omega)
    omega
  generalize en s m hi a - en s m hi a % s j = q at *
  have hk : L s m hi a < j := Nat.lt_of_not_le fun hle => n (mod0 (Int.dvd_trans (c.dvd hle hm) (en_dvd c)))
  have k1 : L s m hi a + 1 < m := by omega
  have z1 := c.pos _ k1
  have dq : s (L s m hi a + 1) ∣ q := Int.dvd_trans (c.dvd (by omega) hj) q0
  have lz : s (L s m hi a + 1) ≤ s j := Int.le_of_dvd (by omega) (c.dvd (by omega) hj)
  have qa : q < a := by
    by_cases c1 : L s m hi a + 1 < m ∧ nx (s (L s m hi a + 1)) a + s (L s m hi a + 1) ≤ hi
    · have e := en1 c1
      have l := nx_lt a z1
      have d := nx_dvd (s (L s m hi a + 1)) a
      rw [← e] at l d
      have := gap dq d nq
      omega
    · refine Int.not_le.mp fun ha => c1 ⟨k1, ?_⟩
      have := nx_least z1 dq ha
      omega
  have f := fl_eq zj q0 (show q ≤ a by omega) (by omega)
  refine b j hj ?_ ?_
  · omega
  · rw [f]
    exact ⟨h1, h2⟩
/-- no higher region around an address of the run lies in the range -/
theorem no_high (c : Ch s m) (h : a < hi) (b : B s m hi lo a) (k1 : L s m hi a + 1 < m) {x : Int} (x1 : a ≤ x) (x2 : x < en s m hi a) :
    ¬ (lo ≤ x - x % s (L s m hi a + 1) ∧ x - x % s (L s m hi a + 1) + s (L s m hi a + 1) ≤ hi) := fun ⟨h1, h2⟩ => by
  have z1 := c.pos _ k1
  have q0 := fl_dvd (s (L s m hi a + 1)) x
  have q1 := fl_le x z1
  have q2 := fl_lt x z1
  generalize x - x % s (L s m hi a + 1) = q at *
  by_cases qa : q < a
  · have f := fl_eq z1 q0 (show q ≤ a by omega) (by omega)
    refine b _ k1 ?_ ?_
    · omega
    · rw [f]
      exact ⟨h1, h2⟩
  · have n := nx_least z1 q0 (show a ≤ q by omega)
    by_cases c1 : L s m hi a + 1 < m ∧ nx (s (L s m hi a + 1)) a + s (L s m hi a + 1) ≤ hi
    · rw [en1 c1] at x2
      omega
    · exact c1 ⟨k1, by omega⟩
theorem top_in (c : Ch s m) (h : a < hi) {x : Int} (x1 : a ≤ x) (x2 : x < en s m hi a) : a ≤ x - x % s (L s m hi a) ∧ x - x % s (L s m hi a) + s (L s m hi a) ≤ en s m hi a := by
  have z := c.pos _ (L_lt (a := a) (hi := hi) c)
  have l := fl_le x z
  refine ⟨fl_ge z (dvd0 (L_lies c h).1) x1, gap (fl_dvd _ _) (en_dvd c) (by omega)⟩
theorem top_max (c : Ch s m) (h : a < hi) (b : B s m hi lo a) {x : Int} (x1 : a ≤ x) (x2 : x < en s m hi a) {j : Nat} (hj : j < m) (h1 : lo ≤ x - x % s j) (h2 : x - x % s j + s j ≤ hi) : j ≤ L s m hi a := by
  refine Nat.le_of_not_lt fun hlt => ?_
  have k1 : L s m hi a + 1 < m := by omega
  have z1 := c.pos _ k1
  have zj := c.pos j hj
  have d := c.dvd (show L s m hi a + 1 ≤ j by omega) hj
  have g1 := fl_ge (x := x) z1 (Int.dvd_trans d (fl_dvd (s j) x)) (fl_le x zj)
  have g2 := gap (fl_dvd (s (L s m hi a + 1)) x) (Int.dvd_add (Int.dvd_trans d (fl_dvd (s j) x)) d) (show x - x % s (L s m hi a + 1) < x - x % s j + s j by
    have := fl_le x z1
    have := fl_lt x zj
    omega)
  exact no_high c h b k1 x1 x2 ⟨by omega, by omega⟩
theorem lay_eq (c : Ch s m) : ∀ n n' a, (hi - a).toNat ≤ n → (hi - a).toNat ≤ n' → lay s m hi n a = lay s m hi n' a
  | 0, 0, _, _, _ => rfl
  | 0, n' + 1, a, h, _ => by
    show ([] : List Run) = if a < hi then run s m hi a :: lay s m hi n' (en s m hi a) else []
    rw [if_neg (by omega)]
  | n + 1, 0, a, _, h => by
    show (if a < hi then run s m hi a :: lay s m hi n (en s m hi a) else []) = []
    rw [if_neg (by omega)]
  | n + 1, n' + 1, a, h, h' => by
    show (if a < hi then run s m hi a :: lay s m hi n (en s m hi a) else []) = if a < hi then run s m hi a :: lay s m hi n' (en s m hi a) else []
    by_cases e : a < hi
    · have g := en_gt c e
      rw [if_pos e, if_pos e, lay_eq c n n' (en s m hi a) (by omega) (by omega)]
    · rw [if_neg e, if_neg e]
theorem R_end (h : ¬ a < hi) : R s m hi a = [] := by
  unfold R
  rw [show (hi - a).toNat = 0 by omega]
  rfl
theorem R_step (c : Ch s m) (h : a < hi) : R s m hi a = run s m hi a :: R s m hi (en s m hi a) := by
  unfold R
  obtain ⟨n, e⟩ : ∃ n, (hi - a).toNat = n + 1 := ⟨(hi - a).toNat - 1, by omega⟩
  rw [e]
  show (if a < hi then run s m hi a :: lay s m hi n (en s m hi a) else []) = _
  have g := en_gt c h
  rw [if_pos h, lay_eq c n (hi - en s m hi a).toNat (en s m hi a) (by omega) (Nat.le_refl _)]
theorem R_down (c : Ch s m) : ∀ (n : Nat) (a : Int), (hi - a).toNat ≤ n → a < hi → NoHi s m hi a → (R s m hi a).length ≤ L s m hi a + 1
  | 0, a, h, h2, _ => by omega
  | n + 1, a, h, h2, c2 => by
    rw [R_step c h2, List.length_cons]
    by_cases e : en s m hi a < hi
    · obtain ⟨d1, d2⟩ := down c c2 e
      have g := en_gt c h2
      have := R_down c n (en s m hi a) (by omega) e d2
      omega
    · rw [R_end e]
      simp
theorem R_len (c : Ch s m) : ∀ (n : Nat) (a : Int), (hi - a).toNat ≤ n → a < hi → (R s m hi a).length + L s m hi a ≤ 2 * m
  | 0, a, h, h2 => by omega
  | n + 1, a, h, h2 => by
    have l := L_lt (a := a) (hi := hi) c
    by_cases c1 : L s m hi a + 1 < m ∧ nx (s (L s m hi a + 1)) a + s (L s m hi a + 1) ≤ hi
    · obtain ⟨u1, u2⟩ := up c c1
      have g := en_gt c h2
      have := R_len c n (en s m hi a) (by omega) u1
      rw [R_step c h2, List.length_cons]
      omega
    · have := R_down c (n + 1) a h h2 c1
      omega
theorem R_short (c : Ch s m) (h8 : m ≤ 8) : (R s m hi a).length ≤ 16 := by
  by_cases h : a < hi
  · have := R_len c _ a (Nat.le_refl _) h
    omega
  · rw [R_end h]
    simp
/-- a place between two runs -/
structure Mid (s : Nat → Int) (m : Nat) (hi lo a : Int) (done : List Run) : Prop where
  eq : R s m hi lo = done ++ R s m hi a
  lo_le : lo ≤ a
  le_hi : a ≤ hi
  bd : B s m hi lo a
  last : a < hi → ∀ t, done.getLast? = some t → t.1 ≠ L s m hi a
theorem mid0 (c : Ch s m) (h : lo ≤ hi) : Mid s m hi lo lo [] := ⟨rfl, Int.le_refl _, h, B_lo c, fun _ t e => by cases e⟩
theorem Mid.next {done : List Run} (c : Ch s m) (M : Mid s m hi lo a done) (h : a < hi) : Mid s m hi lo (en s m hi a) (done ++ [run s m hi a]) := by
  have g := en_gt c h
  have l := M.lo_le
  refine ⟨?_, by omega, en_le c, B_next c h M.bd, fun h2 t e => ?_⟩
  · rw [M.eq, R_step c h, List.append_assoc]
    rfl
  · rw [List.getLast?_concat] at e
    cases e
    exact other c h2
/-- the number of cells of a run -/
theorem run_cells (c : Ch s m) (h : a < hi) : (en s m hi a - a) / s (L s m hi a) * s (L s m hi a) = en s m hi a - a := Int.ediv_mul_cancel (Int.dvd_sub (en_dvd c) (dvd0 (L_lies c h).1))
theorem run_one (c : Ch s m) (h : a < hi) : 1 ≤ (en s m hi a - a) / s (L s m hi a) := by
  have z := c.pos _ (L_lt (a := a) (hi := hi) c)
  have g := gap (dvd0 (L_lies c h).1) (en_dvd c) (en_gt c h)
  exact (Int.le_ediv_iff_mul_le (by omega)).mpr (by omega)
/-- multiples of z below y, from 0 on -/
def cd (z y : Int) : Int := (y + z - 1) / z
theorem cd_zero {z : Int} (hz : 1 ≤ z) : cd z 0 = 0 := by
  unfold cd
  exact Int.ediv_eq_zero_of_lt (by omega) (by omega)
theorem cd_mul {z y : Int} (hz : 1 ≤ z) (h : z ∣ y) : cd z y = y / z := by
  obtain ⟨q, rfl⟩ := h
  unfold cd
  rw [show z * q + z - 1 = (z - 1) + z * q by omega, Int.add_mul_ediv_left _ _ (by omega), Int.mul_ediv_cancel_left _ (by omega), Int.ediv_eq_zero_of_lt (by omega) (by omega)]
  omega
theorem cd_next {z y : Int} (hz : 1 ≤ z) (h : z ∣ y) : cd z (y + 1) = y / z + 1 := by
  obtain ⟨q, rfl⟩ := h
  unfold cd
  rw [show z * q + 1 + z - 1 = z * (q + 1) by rw [Int.mul_add]; omega, Int.mul_ediv_cancel_left _ (by omega), Int.mul_ediv_cancel_left _ (by omega)]
theorem cd_stay {z y : Int} (hz : 1 ≤ z) (h : ¬ z ∣ y) : cd z (y + 1) = cd z y := by
  unfold cd
  have e := Int.mul_ediv_add_emod y z
  have e1 := Int.emod_nonneg y (show z ≠ 0 by omega)
  have e2 := Int.emod_lt_of_pos y (show 0 < z by omega)
  have n : y % z ≠ 0 := fun q => h (dvd0 q)
  have a1 : (y + 1 + z - 1) / z = y / z + 1 := by
    rw [show y + 1 + z - 1 = (y % z) + z * (y / z + 1) by rw [Int.mul_add]; omega, Int.add_mul_ediv_left _ _ (by omega), Int.ediv_eq_zero_of_lt e1 e2]
    omega
  have a2 : (y + z - 1) / z = y / z + 1 := by
    rw [show y + z - 1 = (y % z - 1) + z * (y / z + 1) by rw [Int.mul_add]; omega, Int.add_mul_ediv_left _ _ (by omega), Int.ediv_eq_zero_of_lt (by omega) (by omega)]
    omega
  rw [a1, a2]
end
end M16

set_option Elab.async false
set_option linter.all false
set_option maxRecDepth 100000
set_option maxHeartbeats 4000000
namespace K26
open PySem PySem.Spec PyProof.Rows L2 Gu Ex
theorem same_upd {H : Hp} {p : Addr} {o : HO} (h : H p = none) : Same H (upd H p o) := fun b x e => by
  rw [upd_ne (ne_of_none e h)]
  exact e
theorem SzAt.same {C p : Addr} {H H' : Hp} {ns : List Int} (h : SzAt C H p ns) (s : Same H H') : SzAt C H' p ns := by
  obtain ⟨dx, l, a, b⟩ := h
  exact ⟨dx, l, s _ _ a, s _ _ b⟩
def sz (ns : List Int) (k : Nat) : Int := ns.getD k 0
theorem sz_at {ns : List Int} {k : Nat} (h : k < ns.length) : ns[k]? = some (sz ns k) := by
  unfold sz
  rw [List.getD_eq_getElem?_getD, List.getElem?_eq_getElem h]
  rfl
theorem chain {ns : List Int} (g : Good ns) : M16.Ch (sz ns) ns.length := by
  refine ⟨g.len.1, ?_, fun k h => (g.rng k _ (sz_at h)).1, fun k h => Int.dvd_of_emod_eq_zero (g.up k _ _ (sz_at (by omega)) (sz_at h)).2⟩
  have := (sz_at (ns := ns) (k := 0) (by have := g.len.1; omega)).symm.trans g.one
  exact Option.some.inj this
theorem sz_le {ns : List Int} (g : Good ns) {k : Nat} (h : k < ns.length) : sz ns k ≤ 1000000000 := (g.rng k _ (sz_at h)).2
theorem at_sz {ns : List Int} {k : Nat} (h : k < ns.length) : atI (ns.map V.int) (k : Int) = some (.int (sz ns k)) := at_map (sz_at h)
/-- objects at these addresses, told by f -/
inductive Refs {α : Type} (f : α → List V) (H : Hp) : List Addr → List α → Prop
  | nil : Refs f H [] []
  | cons {p : Addr} {ps : List Addr} {t : α} {ts : List α} : H p = some (.tup (f t)) → Refs f H ps ts → Refs f H (p :: ps) (t :: ts)
section
variable {α : Type} {f : α → List V} {H H' : Hp} {ps qs : List Addr} {ts us : List α}
theorem Refs.mono (h : Refs f H ps ts) (k : ∀ p xs, H p = some (.tup xs) → H' p = some (.tup xs)) : Refs f H' ps ts := by
  induction h with
  | nil => exact .nil
  | cons a _ ih => exact .cons (k _ _ a) ih
theorem Refs.same (h : Refs f H ps ts) (k : Same H H') : Refs f H' ps ts := h.mono fun p xs e => k p _ e
theorem Refs.app (h : Refs f H ps ts) (h2 : Refs f H qs us) : Refs f H (ps ++ qs) (ts ++ us) := by
  induction h with
  | nil => exact h2
  | cons b _ ih => exact .cons b ih
theorem Refs.one {p : Addr} {t : α} (h : H p = some (.tup (f t))) : Refs f H [p] [t] := .cons h .nil
theorem Refs.len (h : Refs f H ps ts) : ps.length = ts.length := by
  induction h with
  | nil => rfl
  | cons _ _ ih => rw [List.length_cons, List.length_cons, ih]
theorem Refs.get (h : Refs f H ps ts) : ∀ {i : Nat} {p : Addr}, ps[i]? = some p → ∃ t, ts[i]? = some t ∧ H p = some (.tup (f t)) := by
  induction h with
  | nil => intro i p e; cases e
  | cons a _ ih =>
    intro i p e
    cases i with
    | zero =>
      cases e
      exact ⟨_, rfl, a⟩
    | succ i => exact ih e
theorem Refs.at_ (h : Refs f H ps ts) {i : Nat} {t : α} (ht : ts[i]? = some t) : ∃ p, ps[i]? = some p ∧ H p = some (.tup (f t)) := by
  have hi : i < ts.length := (List.getElem?_eq_some_iff.mp ht).1
  have hi2 : i < ps.length := by rw [h.len]; exact hi
  obtain ⟨u, e1, e2⟩ := h.get (List.getElem?_eq_getElem hi2)
  rw [ht] at e1
  cases e1
  exact ⟨_, List.getElem?_eq_getElem hi2, e2⟩
theorem Refs.take (h : Refs f H ps ts) : ∀ n, Refs f H (ps.take n) (ts.take n) := by
  induction h with
  | nil => intro n; simp; exact .nil
  | cons a _ ih =>
    intro n
    cases n with
    | zero => exact .nil
    | succ n => exact .cons a (ih n)
theorem Refs.drop (h : Refs f H ps ts) : ∀ n, Refs f H (ps.drop n) (ts.drop n) := by
  induction h with
  | nil => intro n; simp; exact .nil
  | cons a b ih =>
    intro n
    cases n with
    | zero => exact .cons a b
    | succ n => exact ih n
theorem Refs.map_at {i : Nat} {p : Addr} (h : ps[i]? = some p) : atI (ps.map V.ref) (i : Int) = some (.ref p) := atI_nat (by rw [List.getElem?_map, h]; rfl)
end
section
variable {P : Program} {w : World} {K : PySem.W.Frag} {mg : Str → Option Value} {base : Heap} {f : Addr} {fd : FuncData}
def spCells : Sp := fun vs H Q _ => ∃ i : Int, vs = [.int i] ∧ 1 ≤ i ∧ i ≤ 1000000000000 ∧ Q (.bl true) H
theorem sc_is_cells : FnScope ["value"] ["value"] (defScope (top 15)) := ⟨rfl, rfl, rfl, by decide +kernel, rfl, by decide +kernel, by decide +kernel⟩
theorem ok_is_cells (T : Tx K mg) (D_is_integer : Df P w K mg base 1 "is_integer" ["value"] spInt) (F : FnP K "is_cells" "is_cells" (top 15) f fd) : FnOk P w K mg base CX0 2 f fd ["value"] spCells := by
  refine F.ok sc_is_cells (fun vs H Q E h => ?_) (fun cdv A outer s H vs Q E hr h => ⟨_, PSs.nox (pss_one (ps_ret (pe_and (pcall D_is_integer hr (pa_cons (pv 0) pa_nil)) (pe_one (pe_chain op_le op_le pe_int (pv 0) (ClX.pe_cval (pe_glob (v := .ref _) rfl T.g_Sizes rfl))))))), ?_⟩)
  · obtain ⟨i, rfl, _⟩ := h
    rfl
  · obtain ⟨i, rfl, h1, h2, q⟩ := h
    obtain ⟨u, cC⟩ := T.cC
    refine ⟨_, rfl, _, rfl, true, rfl, iteT ⟨_, rfl, _, _, rfl, rfl, _, rfl, ifT (decide_eq_true h1) ⟨_, _, _, _, rfl, T.rd, cC, _, _, rfl, rfl, ?_⟩⟩⟩
    have e : decide (i ≤ 1000000000000) = true := decide_eq_true h2
    show Q (.bl (decide (i ≤ 1000000000000))) H
    rw [e]
    exact q
def spCellsC : Sp := fun vs H Q _ => ∃ i : Int, vs = [.int i] ∧ 1 ≤ i ∧ i ≤ 1000000000000 ∧ Q .non H
theorem sc_check_cells : FnScope ["value"] ["value"] (defScope (top 16)) := ⟨rfl, rfl, rfl, by decide +kernel, rfl, by decide +kernel, by decide +kernel⟩
theorem ok_check_cells (T : Tx K mg) (D_is_cells : Df P w K mg base 2 "is_cells" ["value"] spCells) (F : FnP K "check_cells" "check_cells" (top 16) f fd) : FnOk P w K mg base CX0 3 f fd ["value"] spCellsC := by
  refine F.ok sc_check_cells (fun vs H Q E h => ?_) (fun cdv A outer s H vs Q E hr h => ⟨_, PSs.nox (pss_one (ps_if (pt_not (pt_val (pcall D_is_cells hr (pa_cons (pv 0) pa_nil)))) (pss_one ps_never) pss_nil)), ?_⟩)
  · obtain ⟨i, rfl, _⟩ := h
    rfl
  · obtain ⟨i, rfl, h1, h2, q⟩ := h
    exact ⟨_, rfl, _, rfl, h1, h2, true, rfl, iteF q⟩
def spWhole (K : PySem.W.Frag) : Sp := fun vs H Q _ => ∃ (p : Addr) (ns : List Int) (i : Nat) (x c : Int), vs = [.ref p, .int c, .int i] ∧ SzAt (He.ga K "Sizes") H p ns ∧ ns[i]? = some x ∧ 1 ≤ x ∧ 1 ≤ c ∧ c ≤ 1000000000000 ∧ Q (.int (c - c % x)) H
theorem sc_whole : FnScope ["self", "cells", "level"] ["self", "cells", "level"] (defScope (inClass (top 20) 16)) := ⟨rfl, rfl, rfl, by decide +kernel, rfl, by decide +kernel, by decide +kernel⟩
theorem ok_whole (T : Tx K mg) (D_check_cells : Df P w K mg base 3 "check_cells" ["value"] spCellsC) (M_size : Mf P w K mg base 5 "Sizes" "size" ["self", "level"] (spSize K)) (F : FnP K "whole" "Sizes.whole" (inClass (top 20) 16) f fd) :
    FnOk P w K mg base CX0 6 f fd ["self", "cells", "level"] (spWhole K) := by
  refine F.ok sc_whole (fun vs H Q E h => ?_) (fun cdv A outer s H vs Q E hr h => ⟨_, PSs.nox (pss_cons (ps_expr (pcall D_check_cells hr (pa_cons (pv 1) pa_nil))) (pss_one (ps_ret (pe_op op_sub (pv 1) (pe_op op_mod (pv 1) (pmeth M_size hr (pv 0) (pa_cons (pv 2) pa_nil))))))), ?_⟩)
  · obtain ⟨p, ns, i, x, c, rfl, _⟩ := h
    rfl
  · obtain ⟨p, ns, i, x, c, rfl, hz, hx, x1, c1, c2, q⟩ := h
    obtain ⟨dx, l, h1, h2⟩ := id hz
    refine ⟨_, rfl, c, rfl, c1, c2, ?_⟩
    exact ⟨_, rfl, _, rfl, _, rfl, p, dx, _, rfl, h1, szF_no l (by decide +kernel), _, rfl, p, ns, i, x, rfl, hz, hx, _, _, rfl, rfl, (by show (0 : Int) < x; omega), _, _, rfl, rfl, q⟩
def spBelow (K : PySem.W.Frag) : Sp := fun vs H Q _ => ∃ (p : Addr) (ns : List Int) (i : Nat) (x a e : Int), vs = [.ref p, .int i, .int a, .int e] ∧ SzAt (He.ga K "Sizes") H p ns ∧ ns[i]? = some x ∧ 1 ≤ x ∧ Q (.bl (decide (a % x = 0 ∧ a + x ≤ e))) H
theorem sc_lies_below : FnScope ["sizes", "level", "address", "end", "size"] ["sizes", "level", "address", "end"] (defScope (top 26)) := ⟨rfl, rfl, rfl, by decide +kernel, rfl, by decide +kernel, by decide +kernel⟩
theorem ok_below (T : Tx K mg) (M_size : Mf P w K mg base 5 "Sizes" "size" ["self", "level"] (spSize K)) (F : FnP K "lies_below" "lies_below" (top 26) f fd) : FnOk P w K mg base CX0 6 f fd ["sizes", "level", "address", "end"] (spBelow K) := by
  refine F.ok sc_lies_below (fun vs H Q E h => ?_) (fun cdv A outer s H vs Q E hr h => ⟨_, PSs.nox (pss_cons (ps_set (i := 4) sc_lies_below.nd rfl (by first | exact Or.inl rfl | exact Or.inr rfl) (pmeth M_size hr (pv 0) (pa_cons (pv 1) pa_nil))) (pss_one (ps_ret (pe_and (pe_cmpR op_eq (pe_op op_mod (pv 2) (pv 4)) pe_int (nomark _)) (pe_one (pe_cmpR op_le (pe_op op_add (pv 2) (pv 4)) (pv 3) (nomark _))))))), ?_⟩)
  · obtain ⟨p, ns, i, x, a, e, rfl, _⟩ := h
    rfl
  · obtain ⟨p, ns, i, x, a, e, rfl, hz, hx, x1, q⟩ := h
    obtain ⟨dx, l, h1, h2⟩ := id hz
    refine ⟨_, rfl, p, dx, _, rfl, h1, szF_no l (by decide +kernel), _, rfl, p, ns, i, x, rfl, hz, hx, ?_⟩
    refine ⟨_, rfl, _, rfl, _, _, rfl, rfl, (by show (0 : Int) < x; omega), rfl, _, rfl, ?_⟩
    by_cases hm : a % x = 0
    · refine ifT (vT hm) ⟨_, rfl, _, rfl, _, _, rfl, rfl, _, rfl, _, _, rfl, rfl, ?_⟩
      have e2 : decide (a % x = 0 ∧ a + x ≤ e) = decide (a + x ≤ e) := by
        by_cases z : a + x ≤ e
        · rw [decide_eq_true z, decide_eq_true ⟨hm, z⟩]
        · rw [decide_eq_false z, decide_eq_false fun y => z y.2]
      rw [e2] at q
      exact q
    · have e2 : decide (a % x = 0 ∧ a + x ≤ e) = false := decide_eq_false fun y => hm y.1
      rw [e2] at q
      exact ifF (vF hm) q
/-- a right region -/
def spRegion (K : PySem.W.Frag) : Sp := fun vs H Q _ => ∃ (p : Addr) (ns : List Int) (i : Nat) (n a : Int), vs = [.ref p, .int n, .int i, .int a] ∧ SzAt (He.ga K "Sizes") H p ns ∧ Good ns ∧ i < ns.length ∧ 1 ≤ n ∧ n ≤ 1000000000000 ∧ 0 ≤ a ∧ a % sz ns i = 0 ∧ a + sz ns i ≤ n ∧ Q (.bl true) H
theorem sc_is_region : FnScope ["sizes", "length", "level", "address"] ["sizes", "length", "level", "address"] (defScope (top 27)) := ⟨rfl, rfl, rfl, by decide +kernel, rfl, by decide +kernel, by decide +kernel⟩
theorem ok_is_region (T : Tx K mg) (D_check_cells : Df P w K mg base 3 "check_cells" ["value"] spCellsC) (M_has_level : Mf P w K mg base 3 "Sizes" "has_level" ["self", "level"] (spHas K)) (D_is_address : Df P w K mg base 2 "is_address" ["value"] spAddr)
    (D_lies_below : Df P w K mg base 6 "lies_below" ["sizes", "level", "address", "end"] (spBelow K)) (F : FnP K "is_region" "is_region" (top 27) f fd) : FnOk P w K mg base CX0 7 f fd ["sizes", "length", "level", "address"] (spRegion K) := by
  refine F.ok sc_is_region (fun vs H Q E h => ?_) (fun cdv A outer s H vs Q E hr h => ⟨_, PSs.nox (pss_cons (ps_expr (pcall D_check_cells hr (pa_cons (pv 1) pa_nil))) (pss_one (ps_ret (pe_and (pmeth M_has_level hr (pv 0) (pa_cons (pv 2) pa_nil)) (pe_and (pcall D_is_address hr (pa_cons (pv 3) pa_nil)) (pe_one (pcall D_lies_below hr (pa_cons (pv 0) (pa_cons (pv 2) (pa_cons (pv 3) (pa_cons (pv 1) pa_nil))))))))))), ?_⟩)
  · obtain ⟨p, ns, i, n, a, rfl, _⟩ := h
    rfl
  · obtain ⟨p, ns, i, n, a, rfl, hz, g, hi, n1, n2, a0, a1, a2, q⟩ := h
    obtain ⟨dx, l, h1, h2⟩ := id hz
    refine ⟨_, rfl, n, rfl, n1, n2, ?_⟩
    refine ⟨_, rfl, p, dx, _, rfl, h1, szF_no l (by decide +kernel), _, rfl, p, ns, i, rfl, hz, hi, true, rfl, iteT ⟨_, rfl, a, rfl, a0, true, rfl, iteT ?_⟩⟩
    refine ⟨_, rfl, _, rfl, _, rfl, _, rfl, p, ns, i, _, a, n, rfl, hz, sz_at hi, (chain g).pos i hi, ?_⟩
    rw [decide_eq_true (show a % sz ns i = 0 ∧ a + sz ns i ≤ n from ⟨a1, a2⟩)]
    exact q
end
end K26

set_option Elab.async false
set_option linter.all false
set_option maxRecDepth 100000
set_option maxHeartbeats 4000000
namespace K26
open PySem PySem.Spec PyProof.Rows L2 Gu Ex
def layF (zp : Addr) (n fr : Int) (bl : Addr) : List (Str × V) := [("size_table", .ref zp), ("cell_count", .int n), ("free_count", .int fr), ("block_list", .ref bl)]
section
variable (zp bl : Addr) (n fr : Int)
theorem lay_st : (layF zp n fr bl).lookup ("size_table" : Str) = some (.ref zp) := by simp [layF, List.lookup]
theorem lay_cc : (layF zp n fr bl).lookup ("cell_count" : Str) = some (.int n) := by
  have e : (("cell_count" : Str) == ("size_table" : Str)) = false := by decide +kernel
  simp [layF, List.lookup, e]
theorem lay_fc : (layF zp n fr bl).lookup ("free_count" : Str) = some (.int fr) := by
  have e : (("free_count" : Str) == ("size_table" : Str)) = false := by decide +kernel
  have e2 : (("free_count" : Str) == ("cell_count" : Str)) = false := by decide +kernel
  simp [layF, List.lookup, e, e2]
theorem lay_bl : (layF zp n fr bl).lookup ("block_list" : Str) = some (.ref bl) := by
  have e : (("block_list" : Str) == ("size_table" : Str)) = false := by decide +kernel
  have e2 : (("block_list" : Str) == ("cell_count" : Str)) = false := by decide +kernel
  have e3 : (("block_list" : Str) == ("free_count" : Str)) = false := by decide +kernel
  simp [layF, List.lookup, e, e2, e3]
theorem lay_no {m : Str} (h1 : (m == ("size_table" : Str)) = false) (h2 : (m == ("cell_count" : Str)) = false) (h3 : (m == ("free_count" : Str)) = false) (h4 : (m == ("block_list" : Str)) = false) : (layF zp n fr bl).lookup m = none := by
  simp [layF, List.lookup, h1, h2, h3, h4]
theorem lay_put (z : Int) : putF "free_count" (.int z) (layF zp n fr bl) = layF zp n z bl := by
  have e : (("size_table" : Str) = ("free_count" : Str)) = False := by
    simp only [eq_iff_iff, iff_false]
    decide +kernel
  have e2 : (("cell_count" : Str) = ("free_count" : Str)) = False := by
    simp only [eq_iff_iff, iff_false]
    decide +kernel
  simp [layF, putF, e, e2]
end
/-- a block: address, level, is it pinned -/
abbrev Blk : Type := Int × Nat × Bool
def blkV (b : Blk) : List V := [.int b.1, .int (b.2.1 : Nat), .bl b.2.2]
def bEnd (ns : List Int) (b : Blk) : Int := b.1 + sz ns b.2.1
structure Wf (ns : List Int) (n : Int) (bs : List Blk) : Prop where
  ok : ∀ b ∈ bs, b.2.1 < ns.length ∧ 0 ≤ b.1 ∧ sz ns b.2.1 ∣ b.1 ∧ bEnd ns b ≤ n
  so : bs.Pairwise fun b c => bEnd ns b ≤ c.1
def tot (ns : List Int) (bs : List Blk) : Int := (bs.map fun b => sz ns b.2.1).sum
structure Ly (K : PySem.W.Frag) (H : Hp) (y zp bl dx : Addr) (ps : List Addr) (ns : List Int) (n : Int) (bs : List Blk) : Prop where
  at_ : H y = some (.ins (He.ga K "Layout") dx (layF zp n (n - tot ns bs) bl))
  szs : SzAt (He.ga K "Sizes") H zp ns
  lst : H bl = some (.lst (ps.map V.ref))
  rf : Refs blkV H ps bs
  wf : Wf ns n bs
  gd : Good ns
  n1 : 1 ≤ n
  n2 : n ≤ 1000000000000
  ln : bs.length ≤ 1000
  ap : ∃ dz l, H zp = some (.ins (He.ga K "Sizes") dz (szF l)) ∧ H l = some (.lst (ns.map V.int)) ∧ l ≠ bl
section
variable {K : PySem.W.Frag} {H H' : Hp} {y zp bl dx : Addr} {ps : List Addr} {ns : List Int} {n : Int} {bs : List Blk}
theorem Ly.same (h : Ly K H y zp bl dx ps ns n bs) (s : Same H H') : Ly K H' y zp bl dx ps ns n bs := ⟨s _ _ h.at_, h.szs.same s, s _ _ h.lst, h.rf.same s, h.wf, h.gd, h.n1, h.n2, h.ln, h.ap.elim fun dz z => z.elim fun l z => ⟨dz, l, s _ _ z.1, s _ _ z.2.1, z.2.2⟩⟩
theorem Wf.pos (w : Wf ns n bs) (g : Good ns) {b : Blk} (h : b ∈ bs) : 1 ≤ sz ns b.2.1 := (chain g).pos _ (w.ok b h).1
/-- the addresses rise -/
theorem Wf.lt (w : Wf ns n bs) (g : Good ns) {i j : Nat} {b c : Blk} (hi : bs[i]? = some b) (hj : bs[j]? = some c) (h : i < j) : bEnd ns b ≤ c.1 ∧ b.1 < c.1 := by
  obtain ⟨h1, e1⟩ := List.getElem?_eq_some_iff.mp hi
  obtain ⟨h2, e2⟩ := List.getElem?_eq_some_iff.mp hj
  have p := List.pairwise_iff_getElem.mp w.so i j h1 h2 h
  rw [e1, e2] at p
  have z := w.pos g (List.mem_of_getElem? hi)
  unfold bEnd at p
  exact ⟨p, by omega⟩
/-- the layout's own objects lie apart from the sizes -/
theorem Ly.far (L : Ly K H y zp bl dx ps ns n bs) : ∃ dz l, H zp = some (.ins (He.ga K "Sizes") dz (szF l)) ∧ H l = some (.lst (ns.map V.int)) ∧ zp ≠ y ∧ zp ≠ bl ∧ l ≠ bl ∧ l ≠ y ∧ y ≠ bl := by
  obtain ⟨dz, l, z1, z2, nb⟩ := L.ap
  refine ⟨dz, l, z1, z2, fun e => ?_, fun e => ?_, nb, fun e => ?_, fun e => ?_⟩
  · rw [e, L.at_] at z1
    have z3 := congrArg List.length (HO.ins.inj (Option.some.inj z1)).2.2
    cases z3
  · rw [e, L.lst] at z1
    cases z1
  · rw [e, L.at_] at z2
    cases z2
  · have a := L.at_
    rw [e, L.lst] at a
    cases a
/-- how many blocks start below a -/
def Below (bs : List Blk) (a : Int) (i : Nat) : Prop := i ≤ bs.length ∧ ∀ j b, bs[j]? = some b → (j < i ↔ b.1 < a)
end
section
variable {P : Program} {w : World} {K : PySem.W.Frag} {mg : Str → Option Value} {base : Heap} {f : Addr} {fd : FuncData}
def spNew (K : PySem.W.Frag) : Sp := fun vs H Q _ => ∃ (y zp dx : Addr) (ns : List Int) (n : Int), vs = [.ref y, .ref zp, .int n] ∧ H y = some (.ins (He.ga K "Layout") dx []) ∧ SzAt (He.ga K "Sizes") H zp ns ∧ Good ns ∧ 1 ≤ n ∧ n ≤ 1000000000000 ∧
  ∀ bl H', H bl = none → (∀ c o, c ≠ y → H c = some o → H' c = some o) → Ly K H' y zp bl dx [] ns n [] → Q .non H'
theorem sc_Layout_init : FnScope ["self", "sizes", "length"] ["self", "sizes", "length"] (defScope (inClass (top 31) 0)) := ⟨rfl, rfl, rfl, by decide +kernel, rfl, by decide +kernel, by decide +kernel⟩
theorem ok_new (T : Tx K mg) (D_check_cells : Df P w K mg base 3 "check_cells" ["value"] spCellsC) (F : FnP K "__init__" "Layout.__init__" (inClass (top 31) 0) f fd) : FnOk P w K mg base CX0 4 f fd ["self", "sizes", "length"] (spNew K) := by
  refine F.ok sc_Layout_init (fun vs H Q E h => ?_) (fun cdv A outer s H vs Q E hr h => ⟨_, PSs.nox (pss_cons (ps_expr (pcall D_check_cells hr (pa_cons (pv 2) pa_nil))) (pss_cons (ps_fld (pv 0) (pv 1) rfl) (pss_cons (ps_fld (pv 0) (pv 2) rfl) (pss_cons (ps_fld (pv 0) (pv 2) rfl) (pss_one (ps_fld (pv 0) (pe_lst pa_nil) rfl)))))), ?_⟩)
  · obtain ⟨y, zp, dx, ns, n, rfl, _⟩ := h
    rfl
  · obtain ⟨y, zp, dx, ns, n, rfl, hy, hz, g, n1, n2, q⟩ := h
    have few : ∀ k, k < 10 → k < 1000 := fun k h => by omega
    refine ⟨_, rfl, n, rfl, n1, n2, ?_⟩
    refine ⟨_, rfl, _, rfl, y, _, dx, _, rfl, hy, T.ly, T.nST, (by show 0 < 1000; decide), ?_⟩
    refine ⟨_, rfl, _, rfl, y, _, dx, _, rfl, upd_same, T.ly, T.nCC, (by show 1 < 1000; decide), ?_⟩
    refine ⟨_, rfl, _, rfl, y, _, dx, _, rfl, upd_same, T.ly, T.nFC, (by show 2 < 1000; decide), ?_⟩
    refine ⟨Nat.zero_le _, fun bl hbl => ⟨_, rfl, y, _, dx, _, rfl, (by rw [upd_ne (ne_of_none (o := .ins (He.ga K "Layout") dx (putF "free_count" (.int n) (putF "cell_count" (.int n) (putF "size_table" (.ref zp) []))))  upd_same hbl)]; exact upd_same), T.ly, T.nBL, (by show 3 < 1000; decide), ?_⟩⟩
    have nyb : y ≠ bl := ne_of_none (o := .ins (He.ga K "Layout") dx (putF "free_count" (.int n) (putF "cell_count" (.int n) (putF "size_table" (.ref zp) [])))) upd_same hbl
    have nb : H bl = none := by
      rw [upd_ne nyb.symm, upd_ne nyb.symm, upd_ne nyb.symm] at hbl
      exact hbl
    have keep : ∀ {c : Addr} {o : HO}, c ≠ y → H c = some o → (upd (upd (upd (upd (upd H y (.ins (He.ga K "Layout") dx (putF "size_table" (.ref zp) []))) y (.ins (He.ga K "Layout") dx (putF "cell_count" (.int n) (putF "size_table" (.ref zp) [])))) y (.ins (He.ga K "Layout") dx (putF "free_count" (.int n) (putF "cell_count" (.int n) (putF "size_table" (.ref zp) []))))) bl (.lst [])) y (.ins (He.ga K "Layout") dx (putF "block_list" (.ref bl) (putF "free_count" (.int n) (putF "cell_count" (.int n) (putF "size_table" (.ref zp) [])))))) c = some o := fun {c o} hc e => by
      rw [upd_ne hc, upd_ne (ne_of_none e nb), upd_ne hc, upd_ne hc, upd_ne hc]
      exact e
    obtain ⟨dz, l, z1, z2⟩ := id hz
    have ny1 : zp ≠ y := fun e => by
      rw [e, hy] at z1
      have z3 := (HO.ins.inj (Option.some.inj z1)).2.2
      cases z3
    have ny2 : l ≠ y := fun e => by
      rw [e, hy] at z2
      cases z2
    refine q bl _ nb (fun c o hc e => keep hc e) ⟨?_, ⟨dz, l, keep ny1 z1, keep ny2 z2⟩, ?_, .nil, ⟨fun b hb => absurd hb List.not_mem_nil, .nil⟩, g, n1, n2, Nat.zero_le _, ⟨dz, l, keep ny1 z1, keep ny2 z2, ne_of_none z2 nb⟩⟩
    · rw [upd_same]
      have e : n - tot ns [] = n := by simp [tot]
      rw [e]
      rfl
    · rw [upd_ne nyb.symm, upd_same]
      rfl
def spCB (K : PySem.W.Frag) : Sp := fun vs H Q _ => ∃ (y zp bl dx : Addr) (ps : List Addr) (ns : List Int) (n a : Int) (bs : List Blk), vs = [.ref y, .int a] ∧ Ly K H y zp bl dx ps ns n bs ∧ ∀ i : Nat, Below bs a i → Q (.int i) H
theorem sc_count_below : FnScope ["self", "address", "low", "high", "middle"] ["self", "address"] (defScope (inClass (top 31) 9)) := ⟨rfl, rfl, rfl, by decide +kernel, rfl, by decide +kernel, by decide +kernel⟩
theorem ok_cb (T : Tx K mg) (F : FnP K "count_below" "Layout.count_below" (inClass (top 31) 9) f fd) : FnOk P w K mg base CX0 1 f fd ["self", "address"] (spCB K) := by
  refine F.ok sc_count_below (fun vs H Q E h => ?_) (fun cdv A outer s H vs Q E hr h => ⟨_, PSs.nox (pss_cons (ps_set (i := 2) sc_count_below.nd rfl (by first | exact Or.inl rfl | exact Or.inr rfl) pe_int) (pss_cons (ps_set (i := 3) sc_count_below.nd rfl (by first | exact Or.inl rfl | exact Or.inr rfl) (pe_callB call_len_seq (by rfl) T.n_len (by decide +kernel) (pa_cons (pe_fld (pv 0) rfl) pa_nil))) (pss_cons (ps_while PassesOwn.never (pt_cmpR op_lt (pv 2) (pv 3) (nomark _)) (pss_cons (ps_set (i := 4) sc_count_below.nd rfl (by first | exact Or.inl rfl | exact Or.inr rfl) (pe_op op_fdivW (pe_op op_add (pv 2) (pv 3)) pe_int)) (pss_one (ps_if (pt_cmpR op_lt (pe_ix ix_tup (pe_ix ix_list (pe_fld (pv 0) rfl) (pv 4) (fun _ _ => rfl)) pe_int (fun _ _ => rfl)) (pv 1) (nomark _)) (pss_one (ps_set (i := 2) sc_count_below.nd rfl (by first | exact Or.inl rfl | exact Or.inr rfl) (pe_op op_add (pv 4) pe_int))) (pss_one (ps_set (i := 3) sc_count_below.nd rfl (by first | exact Or.inl rfl | exact Or.inr rfl) (pv 4))))))) (pss_one (ps_ret (pv 2)))))), ?_⟩)
  · obtain ⟨y, zp, bl, dx, ps, ns, n, a, bs, rfl, _⟩ := h
    rfl
  · obtain ⟨y, zp, bl, dx, ps, ns, n, a, bs, rfl, L, q⟩ := h
    have pl := L.rf.len
    have sl : sizeLine = 16777216 := sizeLine_eq
    refine ⟨_, rfl, y, _, dx, _, _, rfl, L.at_, T.ly, T.nBL, lay_bl .., bl, _, rfl, .inl (SqL.of L.lst), ?_⟩
    refine ⟨fun m σ G => ∃ (lo hi : Nat) (x : Option V), m = hi - lo ∧ G = H ∧ σ = [some (.ref y), some (.int a), some (.int (lo : Nat)), some (.int (hi : Nat)), x] ∧ lo ≤ hi ∧ hi ≤ bs.length ∧ (∀ j b, bs[j]? = some b → j < lo → b.1 < a) ∧ (∀ j b, bs[j]? = some b → hi ≤ j → a ≤ b.1),
      ⟨_, 0, bs.length, none, rfl, rfl, (by rw [List.length_map, pl]; rfl), Nat.zero_le _, Nat.le_refl _, fun j b _ h => absurd h (Nat.not_lt_zero _), fun j b hb h => by
        have := (List.getElem?_eq_some_iff.mp hb).1
        omega⟩, ?_⟩
    rintro m σ G ⟨lo, hi, x, rfl, rfl, rfl, h1, h2, h3, h4⟩
    refine ⟨_, rfl, _, rfl, _, _, rfl, rfl, _, rfl, ?_⟩
    by_cases hc : (lo : Int) < (hi : Int)
    · refine ifT (decide_eq_true hc) ?_
      have em : ((lo : Int) + (hi : Int)) / 2 = (((lo + hi) / 2 : Nat) : Int) := by omega
      have mlt : (lo + hi) / 2 < bs.length := by omega
      obtain ⟨b, hb⟩ : ∃ b, bs[(lo + hi) / 2]? = some b := ⟨_, List.getElem?_eq_getElem mlt⟩
      obtain ⟨p, hp, hT⟩ := L.rf.at_ hb
      refine ⟨fun σ' G' => ∃ (lo' hi' : Nat) (x : Option V), hi' - lo' < hi - lo ∧ G' = G ∧ σ' = [some (.ref y), some (.int a), some (.int (lo' : Nat)), some (.int (hi' : Nat)), x] ∧ lo' ≤ hi' ∧ hi' ≤ bs.length ∧ (∀ j b, bs[j]? = some b → j < lo' → b.1 < a) ∧ (∀ j b, bs[j]? = some b → hi' ≤ j → a ≤ b.1),
        fun σ' G' ⟨lo', hi', x, hl, r⟩ => ⟨hi' - lo', hl, lo', hi', x, rfl, r⟩, ?_⟩
      refine ⟨_, rfl, _, rfl, _, _, rfl, rfl, _, _, rfl, rfl, wide_div (b := 64) (by decide) (by decide) (by decide) (by decide), ?_⟩
      refine ⟨_, rfl, y, _, dx, _, _, rfl, L.at_, T.ly, T.nBL, lay_bl .., _, rfl, bl, _, _, _, rfl, rfl, SqL.of L.lst, (by rw [em]; exact Refs.map_at hp), p, _, _, _, rfl, rfl, SqT.of hT, rfl, _, rfl, _, _, rfl, rfl, _, rfl, ?_⟩
      by_cases hb2 : b.1 < a
      · refine ifT (decide_eq_true hb2) ⟨_, rfl, _, _, rfl, rfl, (lo + hi) / 2 + 1, hi, some (.int (((lo : Int) + (hi : Int)) / 2)), by omega, rfl, ?_, by omega, h2, fun j c hj hlt => ?_, h4⟩
        · show [some (V.ref y), some (V.int a), some (V.int (((lo : Int) + (hi : Int)) / 2 + 1)), some (V.int hi), some (V.int (((lo : Int) + (hi : Int)) / 2))] = _
          rw [em]
          rfl
        · by_cases e : j = (lo + hi) / 2
          · rw [e, hb] at hj
            cases hj
            exact hb2
          · have := (L.wf.lt L.gd hj hb (by omega)).2
            omega
      · refine ifF (decide_eq_false hb2) ⟨_, rfl, lo, (lo + hi) / 2, some (.int (((lo : Int) + (hi : Int)) / 2)), by omega, rfl, ?_, by omega, by omega, h3, fun j c hj hle => ?_⟩
        · show [some (V.ref y), some (V.int a), some (V.int lo), some (V.int (((lo : Int) + (hi : Int)) / 2)), some (V.int (((lo : Int) + (hi : Int)) / 2))] = _
          rw [em]
        · by_cases e : j = (lo + hi) / 2
          · rw [e, hb] at hj
            cases hj
            omega
          · have := (L.wf.lt L.gd hb hj (by omega)).2
            omega
    · refine ifF (decide_eq_false hc) ⟨_, rfl, q lo ⟨by omega, fun j b hb => ⟨h3 j b hb, fun hlt => ?_⟩⟩⟩
      have := h4 j b hb
      omega
end
end K26

set_option Elab.async false
set_option linter.all false
set_option maxRecDepth 100000
set_option maxHeartbeats 4000000
set_option pp.maxSteps 900
namespace K26
open PySem PySem.Spec PyProof.Rows L2 Gu Ex
/-- values of any kind -/
inductive Any (H : Hp) : V → Prop
  | non : Any H .non
  | bl (b : Bool) : Any H (.bl b)
  | int (i : Int) : Any H (.int i)
  | str (x : Str) : Any H (.str x)
  | lst {a : Addr} {xs : List V} : H a = some (.lst xs) → Any H (.ref a)
  | tup {a : Addr} {xs : List V} : H a = some (.tup xs) → Any H (.ref a)
  | dct {a : Addr} {kvs : List (Key × V)} : H a = some (.dK kvs) → Any H (.ref a)
def isI : V → Bool
  | .int _ => true
  | _ => false
def isB : V → Bool
  | .bl _ => true
  | _ => false
theorem Any.ty {K : PySem.W.Frag} {H : Hp} {v : V} (h : Any H v) : ∃ T, TyX K H v (.type T) ∧ kitB T "int" = some (isI v || isB v) ∧ kitB T "bool" = some (isB v) := by
  cases h with
  | non => exact ⟨"NoneType", .base .non, (show kitB "NoneType" "int" = some false by decide +kernel), (show kitB "NoneType" "bool" = some false by decide +kernel)⟩
  | bl b => exact ⟨"bool", .base (.bl b), (show kitB "bool" "int" = some true by decide +kernel), (show kitB "bool" "bool" = some true by decide +kernel)⟩
  | int i => exact ⟨"int", .base (.int i), (show kitB "int" "int" = some true by decide +kernel), (show kitB "int" "bool" = some false by decide +kernel)⟩
  | str x => exact ⟨"str", .base (.str x), (show kitB "str" "int" = some false by decide +kernel), (show kitB "str" "bool" = some false by decide +kernel)⟩
  | lst e => exact ⟨"list", .base (.lst e), (show kitB "list" "int" = some false by decide +kernel), (show kitB "list" "bool" = some false by decide +kernel)⟩
  | tup e => exact ⟨"tuple", .base (.tup e), (show kitB "tuple" "int" = some false by decide +kernel), (show kitB "tuple" "bool" = some false by decide +kernel)⟩
  | dct e => exact ⟨"dict", .base (.dK e), (show kitB "dict" "int" = some false by decide +kernel), (show kitB "dict" "bool" = some false by decide +kernel)⟩
theorem Any.same {H H' : Hp} {v : V} (h : Any H v) (s : Same H H') : Any H' v := by
  cases h with
  | non => exact .non
  | bl b => exact .bl b
  | int i => exact .int i
  | str x => exact .str x
  | lst e => exact .lst (s _ _ e)
  | tup e => exact .tup (s _ _ e)
  | dct e => exact .dct (s _ _ e)
def addrB : V → Bool
  | .int i => decide (0 ≤ i)
  | _ => false
section
variable {P : Program} {w : World} {K : PySem.W.Frag} {mg : Str → Option Value} {base : Heap} {f : Addr} {fd : FuncData}
def spIntA : Sp := fun vs H Q _ => ∃ v : V, vs = [v] ∧ Any H v ∧ Q (.bl (isI v)) H
theorem ok_is_integerA (T : Tx K mg) (F : FnP K "is_integer" "is_integer" (top 14) f fd) : FnOk P w K mg base CX0 1 f fd ["value"] spIntA := by
  refine F.ok sc_is_integer (fun vs H Q E h => ?_) (fun cdv A outer s H vs Q E hr h => ⟨_, PSs.nox (pss_one (ps_ret (pe_and (pe_callB call_isi (by rfl) T.n_isinstance (by decide +kernel) (pa_cons (pv 0) (pa_cons (pe_bltn (v := .ty "int") (by rfl) T.n_int (by decide +kernel) rfl) pa_nil))) (pe_one (pe_not (pe_callB call_isi (by rfl) T.n_isinstance (by decide +kernel) (pa_cons (pv 0) (pa_cons (pe_bltn (v := .ty "bool") (by rfl) T.n_bool (by decide +kernel) rfl) pa_nil)))))))), ?_⟩)
  · obtain ⟨v, rfl, _⟩ := h
    rfl
  · obtain ⟨v, rfl, hv, q⟩ := h
    obtain ⟨Ty, ty, k1, k2⟩ := hv.ty (K := K)
    refine ⟨_, rfl, _, _, _, _, _, rfl, .ty "int", ty, kit_ty k1, _, rfl, ?_⟩
    cases e : (isI v || isB v) with
    | true =>
      refine iteT ⟨_, rfl, _, _, _, _, _, rfl, .ty "bool", ty, kit_ty k2, _, rfl, ?_⟩
      have e2 : (!isB v) = isI v := by cases v <;> first | rfl | cases e
      rw [e2]
      exact q
    | false =>
      have e2 : isI v = false := by cases v <;> first | rfl | cases e
      rw [e2] at q
      exact iteF q
def spAddrA : Sp := fun vs H Q _ => ∃ v : V, vs = [v] ∧ Any H v ∧ Q (.bl (addrB v)) H
theorem ok_is_addressA (T : Tx K mg) (D_is_integer : Df P w K mg base 1 "is_integer" ["value"] spIntA) (F : FnP K "is_address" "is_address" (top 22) f fd) : FnOk P w K mg base CX0 2 f fd ["value"] spAddrA := by
  refine F.ok sc_is_address (fun vs H Q E h => ?_) (fun cdv A outer s H vs Q E hr h => ⟨_, PSs.nox (pss_one (ps_ret (pe_and (pcall D_is_integer hr (pa_cons (pv 0) pa_nil)) (pe_one (pe_cmpR op_ge (pv 0) pe_int (nomark _)))))), ?_⟩)
  · obtain ⟨v, rfl, _⟩ := h
    rfl
  · obtain ⟨v, rfl, hv, q⟩ := h
    refine ⟨_, rfl, v, rfl, hv, _, rfl, ?_⟩
    cases v with
    | int i => exact iteT ⟨_, rfl, _, _, rfl, rfl, q⟩
    | _ => exact iteF q
/-- is it a region of level i? -/
def regB (ns : List Int) (i : Nat) (n : Int) : V → Bool
  | .int a => decide (0 ≤ a) && decide (a % sz ns i = 0 ∧ a + sz ns i ≤ n)
  | _ => false
def spRegA (K : PySem.W.Frag) : Sp := fun vs H Q _ => ∃ (p : Addr) (ns : List Int) (i : Nat) (n : Int) (v : V), vs = [.ref p, .int n, .int i, v] ∧ SzAt (He.ga K "Sizes") H p ns ∧ Good ns ∧ i < ns.length ∧ 1 ≤ n ∧ n ≤ 1000000000000 ∧ Any H v ∧ Q (.bl (regB ns i n v)) H
theorem ok_is_regionA (T : Tx K mg) (D_check_cells : Df P w K mg base 3 "check_cells" ["value"] spCellsC) (M_has_level : Mf P w K mg base 3 "Sizes" "has_level" ["self", "level"] (spHas K)) (D_is_address : Df P w K mg base 2 "is_address" ["value"] spAddrA)
    (D_lies_below : Df P w K mg base 6 "lies_below" ["sizes", "level", "address", "end"] (spBelow K)) (F : FnP K "is_region" "is_region" (top 27) f fd) : FnOk P w K mg base CX0 7 f fd ["sizes", "length", "level", "address"] (spRegA K) := by
  refine F.ok sc_is_region (fun vs H Q E h => ?_) (fun cdv A outer s H vs Q E hr h => ⟨_, PSs.nox (pss_cons (ps_expr (pcall D_check_cells hr (pa_cons (pv 1) pa_nil))) (pss_one (ps_ret (pe_and (pmeth M_has_level hr (pv 0) (pa_cons (pv 2) pa_nil)) (pe_and (pcall D_is_address hr (pa_cons (pv 3) pa_nil)) (pe_one (pcall D_lies_below hr (pa_cons (pv 0) (pa_cons (pv 2) (pa_cons (pv 3) (pa_cons (pv 1) pa_nil))))))))))), ?_⟩)
  · obtain ⟨p, ns, i, n, v, rfl, _⟩ := h
    rfl
  · obtain ⟨p, ns, i, n, v, rfl, hz, g, hi, n1, n2, hv, q⟩ := h
    obtain ⟨dx, l, h1, h2⟩ := id hz
    refine ⟨_, rfl, n, rfl, n1, n2, ?_⟩
    refine ⟨_, rfl, p, dx, _, rfl, h1, szF_no l (by decide +kernel), _, rfl, p, ns, i, rfl, hz, hi, true, rfl, iteT ⟨_, rfl, v, rfl, hv, _, rfl, ?_⟩⟩
    cases v with
    | int a =>
      by_cases a0 : 0 ≤ a
      · refine ifT (decide_eq_true a0) ⟨_, rfl, _, rfl, _, rfl, _, rfl, p, ns, i, _, a, n, rfl, hz, sz_at hi, (chain g).pos i hi, ?_⟩
        have e : regB ns i n (.int a) = decide (a % sz ns i = 0 ∧ a + sz ns i ≤ n) := by
          show (decide (0 ≤ a) && _) = _
          rw [decide_eq_true a0, Bool.true_and]
        rw [e] at q
        exact q
      · have e : regB ns i n (.int a) = false := by
          show (decide (0 ≤ a) && _) = _
          rw [decide_eq_false a0, Bool.false_and]
        rw [e] at q
        exact ifF (decide_eq_false a0) q
    | _ => exact iteF q
/-- the error that a call lets out -/
def Raised (K : PySem.W.Frag) (c n : Str) (v : V) (H : Hp) (E : XK) : Prop := ∀ d H', H d = none → Same H H' → H' d = some (.xd [(n, v)]) → E (.ref (He.ga K c)) (some d) H'
theorem Raised.same {c n : Str} {v : V} {H H1 : Hp} {E : XK} (h : Raised K c n v H E) (s : Same H H1) : Raised K c n v H1 E := fun d H' e s2 x => h d H' (s.free e) (s.trans s2) x
theorem sc_InvalidAddress_init : FnScope ["self", "value"] ["self", "value"] (defScope (inClass (top 7) 0)) := ⟨rfl, rfl, rfl, by decide +kernel, rfl, by decide +kernel, by decide +kernel⟩
theorem ok_errA (T : Tx K mg) (F : FnP K "__init__" "InvalidAddress.__init__" (inClass (top 7) 0) f fd) : FnOk P w K mg base CX0 1 f fd ["self", "value"] (Ex.spErr (cA K) "value") := by
  refine F.ok sc_InvalidAddress_init (fun vs H Q E h => ?_) (fun cdv A outer s H vs Q E hr h => ⟨_, PSs.nox (pss_one (ps_fst (B := "ValueError") (tl := tailE "ValueError") (pv 0) (pv 1))), ?_⟩)
  · obtain ⟨a, v, rfl, _⟩ := h
    rfl
  · obtain ⟨a, v, rfl, ha, q⟩ := h
    exact ⟨_, rfl, _, rfl, a, cA K, rfl, T.eA.ox, T.eA.no, ha, q⟩
theorem sc_UnknownBlock_init : FnScope ["self", "value"] ["self", "value"] (defScope (inClass (top 8) 0)) := ⟨rfl, rfl, rfl, by decide +kernel, rfl, by decide +kernel, by decide +kernel⟩
theorem ok_errU (T : Tx K mg) (F : FnP K "__init__" "UnknownBlock.__init__" (inClass (top 8) 0) f fd) : FnOk P w K mg base CX0 1 f fd ["self", "value"] (Ex.spErr (cU K) "value") := by
  refine F.ok sc_UnknownBlock_init (fun vs H Q E h => ?_) (fun cdv A outer s H vs Q E hr h => ⟨_, PSs.nox (pss_one (ps_fst (B := "LookupError") (tl := tailE "LookupError") (pv 0) (pv 1))), ?_⟩)
  · obtain ⟨a, v, rfl, _⟩ := h
    rfl
  · obtain ⟨a, v, rfl, ha, q⟩ := h
    exact ⟨_, rfl, _, rfl, a, cU K, rfl, T.eU.ox, T.eU.no, ha, q⟩
theorem sc_Occupied_init : FnScope ["self", "address"] ["self", "address"] (defScope (inClass (top 10) 0)) := ⟨rfl, rfl, rfl, by decide +kernel, rfl, by decide +kernel, by decide +kernel⟩
theorem ok_errO (T : Tx K mg) (F : FnP K "__init__" "Occupied.__init__" (inClass (top 10) 0) f fd) : FnOk P w K mg base CX0 1 f fd ["self", "address"] (Ex.spErr (cO K) "address") := by
  refine F.ok sc_Occupied_init (fun vs H Q E h => ?_) (fun cdv A outer s H vs Q E hr h => ⟨_, PSs.nox (pss_one (ps_fst (B := "RuntimeError") (tl := tailE "RuntimeError") (pv 0) (pv 1))), ?_⟩)
  · obtain ⟨a, v, rfl, _⟩ := h
    rfl
  · obtain ⟨a, v, rfl, ha, q⟩ := h
    exact ⟨_, rfl, _, rfl, a, cO K, rfl, T.eO.ox, T.eO.no, ha, q⟩
end
end K26

set_option Elab.async false
set_option linter.all false
set_option maxRecDepth 100000
set_option maxHeartbeats 4000000
namespace K26
open PySem PySem.Spec PyProof.Rows L2 Gu Ex
theorem lay_nm {zp bl : Addr} {n fr : Int} {m : Str} (h : (m == ("size_table" : Str) || (m == ("cell_count" : Str) || (m == ("free_count" : Str) || m == ("block_list" : Str)))) = false) : (layF zp n fr bl).lookup m = none := by
  obtain ⟨h1, h⟩ := Bool.or_eq_false_iff.mp h
  obtain ⟨h2, h⟩ := Bool.or_eq_false_iff.mp h
  obtain ⟨h3, h4⟩ := Bool.or_eq_false_iff.mp h
  exact lay_no zp bl n fr h1 h2 h3 h4
section
variable {ns : List Int} {n : Int} {bs : List Blk}
/-- the place of a block that starts at a -/
theorem Below.at_ {a : Int} {i j : Nat} {b : Blk} (w : Wf ns n bs) (g : Good ns) (h : Below bs a i) (hj : bs[j]? = some b) (e : b.1 = a) : i = j := by
  have h1 := (h.2 j b hj)
  by_cases hij : i < j
  · have hi : i < bs.length := by
      have := (List.getElem?_eq_some_iff.mp hj).1
      omega
    have h2 := h.2 i _ (List.getElem?_eq_getElem hi)
    have h3 := (w.lt g (List.getElem?_eq_getElem hi) hj hij).2
    omega
  · omega
/-- the block that may contain a -/
theorem Below.holds {a : Int} {i : Nat} {c : Blk} (w : Wf ns n bs) (g : Good ns) (h : Below bs (a + 1) i) (hc : c ∈ bs) (h1 : c.1 ≤ a) (h2 : a < bEnd ns c) : 0 < i ∧ bs[i - 1]? = some c := by
  obtain ⟨j, hj, rfl⟩ := List.getElem_of_mem hc
  have ej := List.getElem?_eq_getElem hj
  have k := (h.2 j _ ej).mpr (by omega)
  refine ⟨by omega, ?_⟩
  have l := h.1
  by_cases e : j = i - 1
  · rw [← e]
    exact ej
  · have hi : i - 1 < bs.length := by omega
    have p := (w.lt g ej (List.getElem?_eq_getElem hi) (by omega)).1
    have k2 := (h.2 (i - 1) _ (List.getElem?_eq_getElem hi)).mp (by omega)
    omega
end
section
variable {P : Program} {w : World} {K : PySem.W.Frag} {mg : Str → Option Value} {base : Heap} {f : Addr} {fd : FuncData}
def spIx (K : PySem.W.Frag) : Sp := fun vs H Q E => ∃ (y zp bl dx : Addr) (ps : List Addr) (ns : List Int) (n : Int) (bs : List Blk) (v : V), vs = [.ref y, v] ∧ Ly K H y zp bl dx ps ns n bs ∧ Any H v ∧ (∀ (j : Nat) (b : Blk), bs[j]? = some b → v = .int b.1 → Q (.int j) H) ∧ ((∀ b ∈ bs, v ≠ .int b.1) → Raised K "UnknownBlock" "value" v H E)
theorem sc_index_of : FnScope ["self", "address", "index"] ["self", "address"] (defScope (inClass (top 31) 10)) := ⟨rfl, rfl, rfl, by decide +kernel, rfl, by decide +kernel, by decide +kernel⟩
theorem ok_ix (T : Tx K mg) (D_is_integer : Df P w K mg base 1 "is_integer" ["value"] spIntA) (M_count_below : Mf P w K mg base 1 "Layout" "count_below" ["self", "address"] (spCB K)) (M : Ex.Ei P w K mg base "UnknownBlock" "value") (F : FnP K "index_of" "Layout.index_of" (inClass (top 31) 10) f fd) :
    FnOk P w K mg base (L2.CX P w) 4 f fd ["self", "address"] (spIx K) := by
  obtain ⟨fdI, FI, bI⟩ := M.ex
  refine F.ok sc_index_of (fun vs H Q E h => ?_) (fun cdv A outer s H vs Q E hr h => ⟨_, (pss_cons (ps_if (pt_val (pcall D_is_integer hr (pa_cons (pv 1) pa_nil))) (pss_cons (ps_set (i := 2) sc_index_of.nd rfl (by first | exact Or.inl rfl | exact Or.inr rfl) (pmeth M_count_below hr (pv 0) (pa_cons (pv 1) pa_nil))) (pss_one (ps_if (PW.pt (pw_and (pt_cmpR op_lt (pv 2) (pe_callB call_len_seq (by rfl) T.n_len (by decide +kernel) (pa_cons (pe_fld (pv 0) rfl) pa_nil)) (nomark _)) (pw_and1 (pt_cmpR op_eq (pe_ix ix_tup (pe_ix ix_list (pe_fld (pv 0) rfl) (pv 2) (fun _ _ => rfl)) pe_int (fun _ _ => rfl)) (pv 1) (nomark _))))) (pss_one (ps_ret (pv 2))) pss_nil))) pss_nil) (pss_one (ps_raise rfl (takes_of (E := E) rfl rfl rfl rfl) (pmk_oexG T.eU.ox T.eU.ii T.eU.ti FI (hr.mono (by decide)) bI .nil pass0 rfl T.g_UnknownBlock (pa_cons (pv 1) pa_nil))))), ?_⟩)
  · obtain ⟨y, zp, bl, dx, ps, ns, n, bs, v, rfl, _⟩ := h
    rfl
  · obtain ⟨y, zp, bl, dx, ps, ns, n, bs, v, rfl, L, hv, q1, q2⟩ := h
    refine ⟨_, rfl, v, rfl, hv, _, rfl, ?_⟩
    cases v with
    | int a =>
      refine iteT ?_
      refine ⟨_, rfl, y, dx, _, rfl, L.at_, lay_nm (by decide +kernel), _, rfl, y, zp, bl, dx, ps, ns, n, a, bs, rfl, L, fun i hi => ?_⟩
      have pl := L.rf.len
      refine ⟨_, rfl, _, rfl, y, _, dx, _, _, rfl, L.at_, T.ly, T.nBL, lay_bl .., bl, _, rfl, .inl (SqL.of L.lst), _, _, rfl, rfl, _, rfl, ?_⟩
      by_cases il : i < bs.length
      · refine ifT (decide_eq_true (by rw [List.length_map]; omega)) ?_
        obtain ⟨b, hb⟩ : ∃ b, bs[i]? = some b := ⟨_, List.getElem?_eq_getElem il⟩
        obtain ⟨p, hp, hT⟩ := L.rf.at_ hb
        refine ⟨_, rfl, y, _, dx, _, _, rfl, L.at_, T.ly, T.nBL, lay_bl .., _, rfl, bl, _, _, _, rfl, rfl, SqL.of L.lst, Refs.map_at hp, p, _, _, _, rfl, rfl, SqT.of hT, rfl, _, rfl, rfl, _, rfl, ?_⟩
        by_cases eb : b.1 = a
        · exact ifT (vT eb) ⟨_, rfl, q1 i b hb (by rw [eb])⟩
        · refine ifF (vF eb) ⟨_, rfl, (by show 1 ≤ 1000; decide), raise_ok (q2 fun c hc e => ?_)⟩
          obtain ⟨j, hj⟩ := List.getElem?_of_mem hc
          have ea : c.1 = a := (V.int.inj e).symm
          have := hi.at_ L.wf L.gd hj ea
          rw [← this, hb] at hj
          cases hj
          exact eb ea
      · refine ifF (decide_eq_false (by rw [List.length_map]; omega)) ⟨_, rfl, (by show 1 ≤ 1000; decide), raise_ok (q2 fun c hc e => ?_)⟩
        obtain ⟨j, hj⟩ := List.getElem?_of_mem hc
        have := hi.at_ L.wf L.gd hj (V.int.inj e).symm
        have := (List.getElem?_eq_some_iff.mp hj).1
        omega
    | _ => exact iteF ⟨_, rfl, (by show 1 ≤ 1000; decide), raise_ok (q2 fun c _ e => nomatch e)⟩
def atB (n : Int) : V → Bool
  | .int a => decide (0 ≤ a ∧ a < n)
  | _ => false
def spAt (K : PySem.W.Frag) : Sp := fun vs H Q E => ∃ (y zp bl dx : Addr) (ps : List Addr) (ns : List Int) (n : Int) (bs : List Blk) (v : V), vs = [.ref y, v] ∧ Ly K H y zp bl dx ps ns n bs ∧ Any H v ∧
  (∀ a, v = .int a → 0 ≤ a → a < n → ((∀ b ∈ bs, ¬ (b.1 ≤ a ∧ a < bEnd ns b)) → Q .non H) ∧ (∀ b ∈ bs, b.1 ≤ a → a < bEnd ns b → ∀ t, H t = none → Q (.ref t) (upd H t (.tup (blkV b))))) ∧ (atB n v = false → Raised K "InvalidAddress" "value" v H E)
theorem sc_block_at : FnScope ["self", "address", "index", "start", "level", "is_pinned"] ["self", "address"] (defScope (inClass (top 31) 11)) := ⟨rfl, rfl, rfl, by decide +kernel, rfl, by decide +kernel, by decide +kernel⟩
theorem ok_at (T : Tx K mg) (D_is_address : Df P w K mg base 2 "is_address" ["value"] spAddrA) (M_count_below : Mf P w K mg base 1 "Layout" "count_below" ["self", "address"] (spCB K)) (M_size : Mf P w K mg base 5 "Sizes" "size" ["self", "level"] (spSize K)) (M : Ex.Ei P w K mg base "InvalidAddress" "value")
    (F : FnP K "block_at" "Layout.block_at" (inClass (top 31) 11) f fd) : FnOk P w K mg base (L2.CX P w) 7 f fd ["self", "address"] (spAt K) := by
  obtain ⟨fdI, FI, bI⟩ := M.ex
  refine F.ok sc_block_at (fun vs H Q E h => ?_) (fun cdv A outer s H vs Q E hr h => ⟨_, (pss_cons (ps_if (PW.pt (pw_or (pt_not (pt_val (pcall D_is_address hr (pa_cons (pv 1) pa_nil)))) (pw_or1 (pt_cmpR op_ge (pv 1) (pe_fld (pv 0) rfl) (nomark _))))) (pss_one (ps_raise rfl (takes_of (E := E) rfl rfl rfl rfl) (pmk_oexG T.eA.ox T.eA.ii T.eA.ti FI (hr.mono (by decide)) bI .nil pass0 rfl T.g_InvalidAddress (pa_cons (pv 1) pa_nil)))) pss_nil) (pss_cons (ps_set (i := 2) sc_block_at.nd rfl (by first | exact Or.inl rfl | exact Or.inr rfl) (pe_op op_sub (pmeth M_count_below hr (pv 0) (pa_cons (pe_op op_add (pv 1) pe_int) pa_nil)) pe_int)) (pss_cons (ps_if (pt_cmpR op_lt (pv 2) pe_int (nomark _)) (pss_one (ps_ret pe_non)) pss_nil) (pss_cons (ps_asg (pe_ix ix_list (pe_fld (pv 0) rfl) (pv 2) (fun _ _ => rfl)) (pg_tup (by rfl) (pgs_cons (pg_name (i := 3) sc_block_at.nd rfl (by first | exact Or.inl rfl | exact Or.inr rfl)) (pgs_cons (pg_name (i := 4) sc_block_at.nd rfl (by first | exact Or.inl rfl | exact Or.inr rfl)) (pgs_cons (pg_name (i := 5) sc_block_at.nd rfl (by first | exact Or.inl rfl | exact Or.inr rfl)) pgs_nil))))) (pss_one (ps_ret (pe_ifExp (pt_cmpR op_lt (pv 1) (pe_op op_add (pv 3) (pmeth M_size hr (pe_fld (pv 0) rfl) (pa_cons (pv 4) pa_nil))) (nomark _)) (pe_tup (pa_cons (pv 3) (pa_cons (pv 4) (pa_cons (pv 5) pa_nil)))) pe_non))))))), ?_⟩)
  · obtain ⟨y, zp, bl, dx, ps, ns, n, bs, v, rfl, _⟩ := h
    rfl
  · obtain ⟨y, zp, bl, dx, ps, ns, n, bs, v, rfl, L, hv, q0, q3⟩ := h
    refine ⟨_, rfl, v, rfl, hv, _, rfl, ?_⟩
    cases v with
    | int a =>
      by_cases a0 : 0 ≤ a
      · refine ifF (by rw [show addrB (.int a) = true from decide_eq_true a0]; rfl) ⟨_, rfl, _, rfl, y, _, dx, _, _, rfl, L.at_, T.ly, T.nCC, lay_cc .., _, _, rfl, rfl, _, rfl, ?_⟩
        by_cases a1 : a < n
        · obtain ⟨q1, q2⟩ := q0 a rfl a0 a1
          refine ifF (decide_eq_false (by omega)) ?_
          refine ⟨_, rfl, y, dx, _, rfl, L.at_, lay_nm (by decide +kernel), _, rfl, _, _, rfl, rfl, y, zp, bl, dx, ps, ns, n, a + 1, bs, rfl, L, fun i hi => ⟨_, _, rfl, rfl, ?_⟩⟩
          refine ⟨_, rfl, _, _, rfl, rfl, _, rfl, ?_⟩
          by_cases h0 : ((i : Int) - 1) < 0
          · refine ifT (decide_eq_true h0) (q1 fun b hb hh => ?_)
            have := (hi.holds L.wf L.gd hb hh.1 hh.2).1
            omega
          · refine ifF (decide_eq_false h0) ?_
            have e : ((i : Int) - 1) = ((i - 1 : Nat) : Int) := by omega
            have il : i - 1 < bs.length := by have := hi.1; omega
            obtain ⟨b, hb⟩ : ∃ b, bs[i - 1]? = some b := ⟨_, List.getElem?_eq_getElem il⟩
            have bm := List.mem_of_getElem? hb
            obtain ⟨p, hp, hT⟩ := L.rf.at_ hb
            have b1 := (hi.2 _ _ hb).mp (by omega)
            have bk := (L.wf.ok b bm).1
            obtain ⟨dz, l, z1, z2⟩ := id L.szs
            have hT' : H p = some (.tup [.int b.1, .int (b.2.1 : Nat), .bl b.2.2]) := hT
            refine ⟨_, rfl, y, _, dx, _, _, rfl, L.at_, T.ly, T.nBL, lay_bl .., _, rfl, bl, _, _, _, rfl, rfl, SqL.of L.lst, (by rw [e]; exact Refs.map_at hp), p, _, rfl, .inl (.inl hT'), rfl, _, _, rfl, _, _, rfl, _, _, rfl, rfl, ?_⟩
            refine ⟨_, rfl, _, rfl, _, rfl, y, _, dx, _, _, rfl, L.at_, T.ly, T.nST, lay_st .., zp, dz, _, rfl, z1, szF_no l (by decide +kernel), _, rfl, zp, ns, b.2.1, _, rfl, L.szs, sz_at bk, _, _, rfl, rfl, _, _, rfl, rfl, _, rfl, ?_⟩
            by_cases hc : a < b.1 + sz ns b.2.1
            · exact ifT (decide_eq_true hc) ⟨_, rfl, _, rfl, _, rfl, (by show 3 ≤ sizeLine; decide), fun t ht => q2 b bm (by omega) hc t ht⟩
            · refine ifF (decide_eq_false hc) (q1 fun c hcm hh => ?_)
              have e2 := (hi.holds L.wf L.gd hcm hh.1 hh.2).2
              rw [hb] at e2
              cases e2
              exact hc hh.2
        · exact ifT (decide_eq_true (by omega)) ⟨_, rfl, (by show 1 ≤ 1000; decide), raise_ok (q3 (decide_eq_false fun z => a1 z.2))⟩
      · exact ifT (by rw [show addrB (.int a) = false from decide_eq_false a0]; rfl) ⟨_, rfl, (by show 1 ≤ 1000; decide), raise_ok (q3 (decide_eq_false fun z => a0 z.1))⟩
    | _ => exact iteT ⟨_, rfl, (by show 1 ≤ 1000; decide), raise_ok (q3 rfl)⟩
/-- a range without a block -/
def FreeR (ns : List Int) (bs : List Blk) (lo hi : Int) : Prop := ∀ b ∈ bs, bEnd ns b ≤ lo ∨ hi ≤ b.1
/-- t is the lowest address of the range in a block -/
def Taken (ns : List Int) (bs : List Blk) (lo hi t : Int) : Prop := lo ≤ t ∧ t < hi ∧ (∃ b ∈ bs, b.1 ≤ t ∧ t < bEnd ns b) ∧ ∀ b ∈ bs, ∀ u, lo ≤ u → u < t → ¬ (b.1 ≤ u ∧ u < bEnd ns b)
theorem Taken.one {ns : List Int} {bs : List Blk} {lo hi t u : Int} (h : Taken ns bs lo hi t) (g : Taken ns bs lo hi u) : t = u := by
  obtain ⟨a1, a2, ⟨b, hb, b1, b2⟩, a4⟩ := h
  obtain ⟨c1, c2, ⟨c, hc, d1, d2⟩, c4⟩ := g
  by_cases h1 : t < u
  · exact absurd ⟨b1, b2⟩ (c4 b hb t a1 h1)
  · by_cases h2 : u < t
    · exact absurd ⟨d1, d2⟩ (a4 c hc u c1 h2)
    · omega
theorem Taken.nf {ns : List Int} {bs : List Blk} {lo hi t : Int} (h : Taken ns bs lo hi t) : ¬ FreeR ns bs lo hi := fun fr => by
  obtain ⟨a1, a2, ⟨b, hb, b1, b2⟩, a4⟩ := h
  rcases fr b hb with z | z <;> omega
def spFirst (K : PySem.W.Frag) : Sp := fun vs H Q _ => ∃ (y zp bl dx : Addr) (ps : List Addr) (ns : List Int) (n lo hi : Int) (bs : List Blk), vs = [.ref y, .int lo, .int hi] ∧ Ly K H y zp bl dx ps ns n bs ∧ 0 ≤ lo ∧ lo < hi ∧ hi ≤ n ∧
  (FreeR ns bs lo hi → ∀ H', Same H H' → Q .non H') ∧ (∀ t H', Taken ns bs lo hi t → Same H H' → Q (.int t) H')
theorem sc_first_taken : FnScope ["self", "low", "high", "index"] ["self", "low", "high"] (defScope (inClass (top 31) 12)) := ⟨rfl, rfl, rfl, by decide +kernel, rfl, by decide +kernel, by decide +kernel⟩
theorem ok_first (T : Tx K mg) (M_block_at : MfX P w K mg base 7 "Layout" "block_at" ["self", "address"] (spAt K)) (M_count_below : Mf P w K mg base 1 "Layout" "count_below" ["self", "address"] (spCB K)) (F : FnP K "first_taken" "Layout.first_taken" (inClass (top 31) 12) f fd) :
    FnOk P w K mg base CX0 8 f fd ["self", "low", "high"] (spFirst K) := by
  refine F.ok sc_first_taken (fun vs H Q E h => ?_) (fun cdv A outer s H vs Q E hr h => ⟨_, PSs.nox (pss_cons (ps_if (pt_cmpR op_notN (pmethX M_block_at hr passN (pv 0) (pa_cons (pv 1) pa_nil)) pe_non (nomark _)) (pss_one (ps_ret (pv 1))) pss_nil) (pss_cons (ps_set (i := 3) sc_first_taken.nd rfl (by first | exact Or.inl rfl | exact Or.inr rfl) (pmeth M_count_below hr (pv 0) (pa_cons (pv 1) pa_nil))) (pss_cons (ps_if (PW.pt (pw_and (pt_cmpR op_lt (pv 3) (pe_callB call_len_seq (by rfl) T.n_len (by decide +kernel) (pa_cons (pe_fld (pv 0) rfl) pa_nil)) (nomark _)) (pw_and1 (pt_cmpR op_lt (pe_ix ix_tup (pe_ix ix_list (pe_fld (pv 0) rfl) (pv 3) (fun _ _ => rfl)) pe_int (fun _ _ => rfl)) (pv 2) (nomark _))))) (pss_one (ps_ret (pe_ix ix_tup (pe_ix ix_list (pe_fld (pv 0) rfl) (pv 3) (fun _ _ => rfl)) pe_int (fun _ _ => rfl)))) pss_nil) (pss_one (ps_ret pe_non))))), ?_⟩)
  · obtain ⟨y, zp, bl, dx, ps, ns, n, lo, hi, bs, rfl, _⟩ := h
    rfl
  · obtain ⟨y, zp, bl, dx, ps, ns, n, lo, hi, bs, rfl, L, l0, l1, l2, q1, q2⟩ := h
    have sr : Same H H := fun _ _ e => e
    refine ⟨_, rfl, y, dx, _, rfl, L.at_, lay_nm (by decide +kernel), _, rfl, y, zp, bl, dx, ps, ns, n, bs, .int lo, rfl, L, .int lo, fun a ea a0 a1 => ?_, fun z => ?_⟩
    · cases ea
      refine ⟨fun none => ?_, fun b hb h1 h2 t ht => ?_⟩
      · refine ⟨rfl, _, rfl, iteF ?_⟩
        refine ⟨_, rfl, y, dx, _, rfl, L.at_, lay_nm (by decide +kernel), _, rfl, y, zp, bl, dx, ps, ns, n, lo, bs, rfl, L, fun i hb0 => ?_⟩
        have pl := L.rf.len
        refine ⟨_, rfl, _, rfl, y, _, dx, _, _, rfl, L.at_, T.ly, T.nBL, lay_bl .., bl, _, rfl, .inl (SqL.of L.lst), _, _, rfl, rfl, _, rfl, ?_⟩
        by_cases hc : ((i : Nat) : Int) < (((ps.map V.ref).length : Nat) : Int)
        · have il : i < bs.length := by rw [List.length_map] at hc; omega
          obtain ⟨b, hb⟩ : ∃ b, bs[i]? = some b := ⟨_, List.getElem?_eq_getElem il⟩
          obtain ⟨p, hp, hT⟩ := L.rf.at_ hb
          have bm := List.mem_of_getElem? hb
          have z := L.wf.pos L.gd bm
          have lob : lo ≤ b.1 := by
            have := hb0.2 i b hb
            omega
          -- blocks ahead of i end at or below lo; those behind start at or behind b
          have away : ∀ c ∈ bs, bEnd ns c ≤ lo ∨ b.1 ≤ c.1 := fun c hc2 => by
            obtain ⟨j, hj⟩ := List.getElem?_of_mem hc2
            by_cases ji : j < i
            · have k := (hb0.2 j c hj).mp ji
              have r := none c hc2
              have zc := L.wf.pos L.gd hc2
              exact .inl (by omega)
            · by_cases e : j = i
              · rw [e, hb] at hj
                cases hj
                exact .inr (Int.le_refl _)
              · exact .inr (by have := (L.wf.lt L.gd hb hj (by omega)).2; omega)
          refine ifT (decide_eq_true hc) ⟨_, rfl, y, _, dx, _, _, rfl, L.at_, T.ly, T.nBL, lay_bl .., _, rfl, bl, _, _, _, rfl, rfl, SqL.of L.lst, Refs.map_at hp, p, _, _, _, rfl, rfl, SqT.of hT, rfl, _, rfl, _, _, rfl, rfl, _, rfl, ?_⟩
          by_cases nb : b.1 < hi
          · refine ifT (decide_eq_true nb) ⟨_, rfl, y, _, dx, _, _, rfl, L.at_, T.ly, T.nBL, lay_bl .., _, rfl, bl, _, _, _, rfl, rfl, SqL.of L.lst, Refs.map_at hp, p, _, _, _, rfl, rfl, SqT.of hT, rfl, ?_⟩
            refine q2 b.1 H ⟨lob, nb, ⟨b, bm, Int.le_refl _, by unfold bEnd; omega⟩, fun c hc2 u u1 u2 uu => ?_⟩ sr
            rcases away c hc2 with y1 | y1 <;> omega
          · refine ifF (decide_eq_false nb) (q1 (fun c hc2 => ?_) H sr)
            rcases away c hc2 with y1 | y1
            · exact .inl y1
            · exact .inr (by omega)
        · refine ifF (decide_eq_false hc) (q1 (fun c hc2 => ?_) H sr)
          obtain ⟨j, hj⟩ := List.getElem?_of_mem hc2
          have jl := (List.getElem?_eq_some_iff.mp hj).1
          have hc3 : ¬ ((i : Nat) : Int) < ((bs.length : Nat) : Int) := by
            rw [List.length_map, pl] at hc
            exact hc
          have k := (hb0.2 j c hj).mp (by omega)
          have r := none c hc2
          exact .inl (by omega)
      · refine ⟨rfl, _, rfl, iteT ⟨_, rfl, ?_⟩⟩
        exact q2 lo _ ⟨Int.le_refl _, l1, ⟨b, hb, h1, h2⟩, fun c _ u u1 u2 => by omega⟩ (same_upd ht)
    · have : atB n (.int lo) = true := decide_eq_true ⟨l0, by omega⟩
      rw [this] at z
      cases z
end
end K26

set_option Elab.async false
set_option linter.all false
set_option maxRecDepth 100000
set_option maxHeartbeats 4000000
namespace K26
open PySem PySem.Spec PyProof.Rows L2 Gu Ex
abbrev FnK (K : PySem.W.Frag) (x qual : Str) (st : Stmt) (kws : List (Str × V)) (f : Addr) (fd : FuncData) : Prop := FunD K x qual (defArgs st) (defBody st) (defScope st) [] kws f fd
section
variable {ns : List Int} {n : Int} {bs : List Blk}
theorem mem_take_at {i : Nat} {c : Blk} (h : c ∈ bs.take i) : ∃ j, j < i ∧ bs[j]? = some c := by
  obtain ⟨j, hj, e⟩ := List.getElem_of_mem h
  rw [List.length_take] at hj
  refine ⟨j, by omega, ?_⟩
  rw [List.getElem_take] at e
  rw [← e]
  exact List.getElem?_eq_getElem (by omega)
theorem mem_drop_at {i : Nat} {c : Blk} (h : c ∈ bs.drop i) : ∃ j, i ≤ j ∧ bs[j]? = some c := by
  obtain ⟨j, hj, e⟩ := List.getElem_of_mem h
  rw [List.length_drop] at hj
  refine ⟨i + j, by omega, ?_⟩
  rw [List.getElem_drop] at e
  rw [← e]
  exact List.getElem?_eq_getElem (by omega)
/-- a block put in at its place -/
def insB (bs : List Blk) (i : Nat) (b : Blk) : List Blk := bs.take i ++ [b] ++ bs.drop i
theorem ins_wf {i : Nat} {b : Blk} (w : Wf ns n bs) (g : Good ns) (h : Below bs b.1 i) (k : b.2.1 < ns.length) (h0 : 0 ≤ b.1) (hd : sz ns b.2.1 ∣ b.1) (he : bEnd ns b ≤ n) (fr : FreeR ns bs b.1 (bEnd ns b)) : Wf ns n (insB bs i b) := by
  have z := (chain g).pos _ k
  have left : ∀ c ∈ bs.take i, bEnd ns c ≤ b.1 := fun c hc => by
    obtain ⟨j, hj, e⟩ := mem_take_at hc
    have h1 := (h.2 j c e).mp hj
    have r := fr c (List.mem_of_getElem? e)
    unfold bEnd at *
    omega
  have right : ∀ c ∈ bs.drop i, bEnd ns b ≤ c.1 := fun c hc => by
    obtain ⟨j, hj, e⟩ := mem_drop_at hc
    have h1 := h.2 j c e
    have r := fr c (List.mem_of_getElem? e)
    have zc := w.pos g (List.mem_of_getElem? e)
    unfold bEnd at *
    omega
  refine ⟨fun c hc => ?_, ?_⟩
  · unfold insB at hc
    rcases List.mem_append.mp hc with hc | hc
    · rcases List.mem_append.mp hc with hc | hc
      · exact w.ok c (List.mem_of_mem_take hc)
      · rw [List.mem_singleton.mp hc]
        exact ⟨k, h0, hd, he⟩
    · exact w.ok c (List.mem_of_mem_drop hc)
  · unfold insB
    rw [List.append_assoc]
    refine List.pairwise_append.mpr ⟨w.so.sublist (List.take_sublist _ _), ?_, fun c hc d hd => ?_⟩
    · refine List.pairwise_append.mpr ⟨List.pairwise_singleton _ _, w.so.sublist (List.drop_sublist _ _), fun c hc d hd => ?_⟩
      rw [List.mem_singleton.mp hc]
      exact right d hd
    · rcases List.mem_append.mp hd with hd | hd
      · rw [List.mem_singleton.mp hd]
        exact left c hc
      · have a1 := left c hc
        have a2 := right d hd
        unfold bEnd at *
        omega
theorem tot_app (xs ys : List Blk) : tot ns (xs ++ ys) = tot ns xs + tot ns ys := by
  unfold tot
  rw [List.map_append, List.sum_append]
theorem tot_one (b : Blk) : tot ns [b] = sz ns b.2.1 := by simp [tot]
theorem tot_ins (bs : List Blk) (i : Nat) (b : Blk) : tot ns (insB bs i b) = tot ns bs + sz ns b.2.1 := by
  unfold insB
  have e := congrArg (tot ns) (List.take_append_drop i bs)
  rw [tot_app] at e
  rw [tot_app, tot_app, tot_one]
  omega
theorem tot_era {j : Nat} {b : Blk} (h : bs[j]? = some b) : tot ns (bs.eraseIdx j) = tot ns bs - sz ns b.2.1 := by
  have e := congrArg (tot ns) (List.take_append_drop j bs)
  obtain ⟨hj, eb⟩ := List.getElem?_eq_some_iff.mp h
  rw [List.eraseIdx_eq_take_drop_succ, tot_app]
  rw [List.drop_eq_getElem_cons hj, tot_app, ← List.singleton_append, tot_app, tot_one, eb] at e
  omega
theorem era_wf {j : Nat} (w : Wf ns n bs) : Wf ns n (bs.eraseIdx j) := ⟨fun b hb => w.ok b (List.mem_of_mem_eraseIdx hb), w.so.sublist (List.eraseIdx_sublist _ _)⟩
/-- a block with another pin -/
def pinB (bs : List Blk) (j : Nat) (b : Blk) (p : Bool) : List Blk := bs.set j (b.1, b.2.1, p)
theorem pin_wf {j : Nat} {b : Blk} {p : Bool} (w : Wf ns n bs) (h : bs[j]? = some b) : Wf ns n (pinB bs j b p) := by
  obtain ⟨hj, eb⟩ := List.getElem?_eq_some_iff.mp h
  refine ⟨fun c hc => ?_, ?_⟩
  · rcases List.mem_or_eq_of_mem_set hc with z | z
    · exact w.ok c z
    · rw [z]
      exact w.ok b (List.mem_of_getElem? h)
  · refine List.pairwise_iff_getElem.mpr fun i k hi hk hik => ?_
    unfold pinB at hi hk ⊢
    rw [List.length_set] at hi hk
    have p0 := List.pairwise_iff_getElem.mp w.so i k hi hk hik
    rw [List.getElem_set, List.getElem_set]
    split
    · rename_i e
      subst e
      rw [if_neg (by omega)]
      rw [eb] at p0
      exact p0
    · split
      · rename_i e
        subst e
        rw [eb] at p0
        exact p0
      · exact p0
theorem tot_pin {j : Nat} {b : Blk} {p : Bool} (h : bs[j]? = some b) : tot ns (pinB bs j b p) = tot ns bs := by
  obtain ⟨hj, eb⟩ := List.getElem?_eq_some_iff.mp h
  unfold pinB tot
  rw [List.map_set]
  congr 1
  have e : sz ns b.2.1 = (bs.map fun b => sz ns b.2.1)[j]'(by rw [List.length_map]; exact hj) := by rw [List.getElem_map, eb]
  show (bs.map fun b => sz ns b.2.1).set j (sz ns b.2.1) = _
  rw [e, List.set_getElem_self]
end
/-- all but the layout's own two objects stay -/
def But2 (y bl : Addr) (H H' : Hp) : Prop := ∀ c o, c ≠ y → c ≠ bl → H c = some o → H' c = some o
theorem Refs.ins {α : Type} {f : α → List V} {H : Hp} {ps : List Addr} {ts : List α} {p : Addr} {t : α} (h : Refs f H ps ts) (i : Nat) (hp : H p = some (.tup (f t))) : Refs f H (ps.take i ++ [p] ++ ps.drop i) (ts.take i ++ [t] ++ ts.drop i) := ((h.take i).app (.one hp)).app (h.drop i)
theorem Refs.era {α : Type} {f : α → List V} {H : Hp} {ps : List Addr} {ts : List α} (h : Refs f H ps ts) (j : Nat) : Refs f H (ps.eraseIdx j) (ts.eraseIdx j) := by
  rw [List.eraseIdx_eq_take_drop_succ, List.eraseIdx_eq_take_drop_succ]
  exact (h.take j).app (h.drop (j + 1))
theorem Refs.set {α : Type} {f : α → List V} {H : Hp} {p : Addr} {t : α} (hp : H p = some (.tup (f t))) : ∀ {ps : List Addr} {ts : List α}, Refs f H ps ts → ∀ j, Refs f H (ps.set j p) (ts.set j t)
  | _, _, .nil, _ => .nil
  | _, _, .cons a b, 0 => .cons hp b
  | _, _, .cons a b, j + 1 => .cons a (Refs.set hp b j)
section
variable {P : Program} {w : World} {K : PySem.W.Frag} {mg : Str → Option Value} {base : Heap} {f : Addr} {fd : FuncData}
def spPut (K : PySem.W.Frag) : Sp := fun vs H Q E => ∃ (y zp bl dx : Addr) (ps : List Addr) (ns : List Int) (n : Int) (bs : List Blk) (k : Nat) (p : Bool) (v : V), vs = [.ref y, .int k, v, .bl p] ∧ Ly K H y zp bl dx ps ns n bs ∧ bs.length < 900 ∧ k < ns.length ∧ Any H v ∧
  (∀ a, v = .int a → regB ns k n v = true → FreeR ns bs a (a + sz ns k) → ∀ i ps' H', Below bs a i → Ly K H' y zp bl dx ps' ns n (insB bs i (a, k, p)) → But2 y bl H H' → Q .non H') ∧
  (∀ a t, v = .int a → regB ns k n v = true → Taken ns bs a (a + sz ns k) t → Raised K "Occupied" "address" (.int t) H E) ∧ (regB ns k n v = false → Raised K "InvalidAddress" "value" v H E)
theorem sc_put : FnScope ["self", "level", "address", "pinned", "size", "taken"] ["self", "level", "address", "pinned"] (defScope (inClass (top 31) 13)) := ⟨rfl, rfl, rfl, by decide +kernel, rfl, by decide +kernel, by decide +kernel⟩
theorem ok_put (T : Tx K mg) (M_size : Mf P w K mg base 5 "Sizes" "size" ["self", "level"] (spSize K)) (D_is_region : Df P w K mg base 7 "is_region" ["sizes", "length", "level", "address"] (spRegA K)) (M_first_taken : Mf P w K mg base 8 "Layout" "first_taken" ["self", "low", "high"] (spFirst K)) (MA : Ex.Ei P w K mg base "InvalidAddress" "value") (MO : Ex.Ei P w K mg base "Occupied" "address")
    (M_count_below : Mf P w K mg base 1 "Layout" "count_below" ["self", "address"] (spCB K)) (F : FnK K "put" "Layout.put" (inClass (top 31) 13) [("pinned", .bl false)] f fd) : FnOk P w K mg base (L2.CX P w) 9 f fd ["self", "level", "address", "pinned"] (spPut K) := by
  obtain ⟨fdA, FA, bA⟩ := MA.ex
  obtain ⟨fdO, FO, bO⟩ := MO.ex
  refine F.ok sc_put (fun vs H Q E h => ?_) (fun cdv A outer s H vs Q E hr h => ⟨_, (pss_cons (ps_set (i := 4) sc_put.nd rfl (by first | exact Or.inl rfl | exact Or.inr rfl) (pmeth M_size hr (pe_fld (pv 0) rfl) (pa_cons (pv 1) pa_nil))) (pss_cons (ps_if (pt_not (pt_val (pcall D_is_region hr (pa_cons (pe_fld (pv 0) rfl) (pa_cons (pe_fld (pv 0) rfl) (pa_cons (pv 1) (pa_cons (pv 2) pa_nil))))))) (pss_one (ps_raise rfl (takes_of (E := E) rfl rfl rfl rfl) (pmk_oexG T.eA.ox T.eA.ii T.eA.ti FA (hr.mono (by decide)) bA .nil pass0 rfl T.g_InvalidAddress (pa_cons (pv 2) pa_nil)))) pss_nil) (pss_cons (ps_set (i := 5) sc_put.nd rfl (by first | exact Or.inl rfl | exact Or.inr rfl) (pmeth M_first_taken hr (pv 0) (pa_cons (pv 2) (pa_cons (pe_op op_add (pv 2) (pv 4)) pa_nil)))) (pss_cons (ps_if (pt_cmpR op_notN (pv 5) pe_non (nomark _)) (pss_one (ps_raise rfl (takes_of (E := E) rfl rfl rfl rfl) (pmk_oexG T.eO.ox T.eO.ii T.eO.ti FO (hr.mono (by decide)) bO .nil pass0 rfl T.g_Occupied (pa_cons (pv 5) pa_nil)))) pss_nil) (pss_cons (ps_expr (pe_bm PySem.F.plainAttrs_list PySem.F.slot_list_insert PySem.F.type_list_insert mt_insert (pe_fld (pv 0) rfl) (pa_cons (pmeth M_count_below hr (pv 0) (pa_cons (pv 2) pa_nil)) (pa_cons (pe_tup (pa_cons (pv 2) (pa_cons (pv 1) (pa_cons (pv 3) pa_nil)))) pa_nil)))) (pss_one (ps_fldaug (pv 0) (pv 4) in_sub))))))), ?_⟩)
  · obtain ⟨y, zp, bl, dx, ps, ns, n, bs, k, p, v, rfl, _⟩ := h
    rfl
  · obtain ⟨y, zp, bl, dx, ps, ns, n, bs, k, p, v, rfl, L, l900, hk, hv, q0, qo, qa⟩ := h
    obtain ⟨dz, l, zz, zl, zy, zb, lb, ly, nyb⟩ := L.far
    have z := (chain L.gd).pos _ hk
    have pl := L.rf.len
    have sl : sizeLine = 16777216 := sizeLine_eq
    refine ⟨_, rfl, y, _, dx, _, _, rfl, L.at_, T.ly, T.nST, lay_st .., zp, dz, _, rfl, zz, szF_no l (by decide +kernel), _, rfl, zp, ns, k, _, rfl, L.szs, sz_at hk, ?_⟩
    refine ⟨_, rfl, y, _, dx, _, _, rfl, L.at_, T.ly, T.nST, lay_st .., _, rfl, y, _, dx, _, _, rfl, L.at_, T.ly, T.nCC, lay_cc .., _, rfl, _, rfl, zp, ns, k, n, v, rfl, L.szs, L.gd, hk, L.n1, L.n2, hv, _, rfl, ?_⟩
    cases er : regB ns k n v with
    | false => exact iteT ⟨_, rfl, (by show 1 ≤ 1000; decide), raise_ok (qa er)⟩
    | true =>
    obtain ⟨a, rfl, a0, a1, a2⟩ : ∃ a, v = .int a ∧ 0 ≤ a ∧ a % sz ns k = 0 ∧ a + sz ns k ≤ n := by
      cases v with
      | int a =>
        obtain ⟨e1, e2⟩ := He.ba (show (decide (0 ≤ a) && decide (a % sz ns k = 0 ∧ a + sz ns k ≤ n)) = true from er)
        exact ⟨a, rfl, of_decide_eq_true e1, (of_decide_eq_true e2).1, (of_decide_eq_true e2).2⟩
      | _ => cases er
    refine iteF ?_
    refine ⟨_, rfl, y, dx, _, rfl, L.at_, lay_nm (by decide +kernel), _, rfl, _, rfl, _, rfl, _, _, rfl, rfl, y, zp, bl, dx, ps, ns, n, a, a + sz ns k, bs, rfl, L, a0, by omega, a2, fun fr H1 s1 => ?_, fun t H1 tk s1 => ?_⟩
    case refine_2 => exact ⟨_, rfl, rfl, _, rfl, iteT ⟨_, rfl, (by show 1 ≤ 1000; decide), raise_ok ((qo a t rfl er tk).same s1)⟩⟩
    refine ⟨_, rfl, rfl, _, rfl, iteF ?_⟩
    have q : ∀ i ps' H', Below bs a i → Ly K H' y zp bl dx ps' ns n (insB bs i (a, k, p)) → But2 y bl H1 H' → Q .non H' := fun i ps' H' h1 h2 h3 => q0 a rfl er fr i ps' H' h1 h2 fun c o c1 c2 e => h3 c o c1 c2 (s1 _ _ e)
    have L := L.same s1
    replace zz := s1 _ _ zz
    replace zl := s1 _ _ zl
    refine ⟨_, rfl, y, _, dx, _, _, rfl, L.at_, T.ly, T.nBL, lay_bl .., .inl ⟨rfl, _, SqL.of L.lst⟩, _, rfl, y, dx, _, rfl, L.at_, lay_nm (by decide +kernel), _, rfl, y, zp, bl, dx, ps, ns, n, a, bs, rfl, L, fun i hi => ?_⟩
    refine ⟨_, rfl, _, rfl, _, rfl, (by show 3 ≤ sizeLine; decide), fun t ht => ?_⟩
    have ntb : bl ≠ t := ne_of_none L.lst ht
    have nty : y ≠ t := ne_of_none L.at_ ht
    refine ⟨bl, _, i, _, rfl, rfl, (by rw [upd_ne ntb]; exact L.lst), (by rw [List.length_map]; omega), by omega, (by have := hi.1; have := L.ln; omega), ?_⟩
    have keep : ∀ {c : Addr} {o : HO} {u v : HO}, c ≠ y → c ≠ bl → H1 c = some o → (upd (upd (upd H1 t (.tup (blkV (a, k, p)))) bl u) y v) c = some o := fun {c o u v} c1 c2 e => by
      rw [upd_ne c1, upd_ne c2, upd_ne (ne_of_none e ht)]
      exact e
    refine ⟨_, rfl, y, _, dx, _, _, rfl, (by rw [upd_ne nyb, upd_ne nty]; exact L.at_), T.ly, T.nFC, lay_fc .., _, rfl, _, _, rfl, rfl, dx, _, (by rw [upd_ne nyb, upd_ne nty]; exact L.at_), (by show 4 < 1000; decide), ?_⟩
    refine q i (ps.take i ++ [t] ++ ps.drop i) _ hi ⟨?_, ?_, ?_, ?_, ins_wf L.wf L.gd hi hk a0 (M16.dvd0 a1) a2 fr, L.gd, L.n1, L.n2, ?_, ⟨dz, l, keep zy zb zz, keep ly lb zl, lb⟩⟩ fun c o c1 c2 e => keep c1 c2 e
    · rw [upd_same, lay_put, tot_ins]
      have e : n - tot ns bs - sz ns k = n - (tot ns bs + sz ns k) := by omega
      exact congrArg (fun z => some (HO.ins (He.ga K "Layout") dx (layF zp n z bl))) e
    · exact ⟨dz, l, keep zy zb zz, keep ly lb zl⟩
    · rw [upd_ne nyb.symm, upd_same, List.map_append, List.map_append, List.map_take, List.map_drop]
      rfl
    · refine Refs.ins (L.rf.mono fun c xs e => ?_) i ?_
      · exact keep (fun z => by rw [z, L.at_] at e; cases e) (fun z => by rw [z, L.lst] at e; cases e) e
      · rw [upd_ne nty.symm, upd_ne ntb.symm, upd_same]
        rfl
    · unfold insB
      rw [List.length_append, List.length_append, List.length_take, List.length_drop, List.length_singleton]
      omega
theorem era_map (ps : List Addr) (j : Nat) : (ps.map V.ref).eraseIdx j = (ps.eraseIdx j).map V.ref := by
  rw [List.eraseIdx_eq_take_drop_succ, List.eraseIdx_eq_take_drop_succ, List.map_append, List.map_take, List.map_drop]
theorem ix_nat {k n : Nat} (h : k < n) : ixN n (k : Int) = some k := by
  unfold ixN
  rw [if_pos (by omega), if_pos (by omega), Int.toNat_natCast]
def spTake (K : PySem.W.Frag) : Sp := fun vs H Q E => ∃ (y zp bl dx : Addr) (ps : List Addr) (ns : List Int) (n : Int) (bs : List Blk) (v : V), vs = [.ref y, v] ∧ Ly K H y zp bl dx ps ns n bs ∧ Any H v ∧ ((∀ b ∈ bs, v ≠ .int b.1) → Raised K "UnknownBlock" "value" v H E) ∧
  ∀ (j : Nat) (b : Blk), bs[j]? = some b → v = .int b.1 → ∀ t ps' H', H t = none → Ly K H' y zp bl dx ps' ns n (bs.eraseIdx j) → H' t = some (.tup [.int (b.2.1 : Nat), .bl b.2.2]) → But2 y bl H H' → Q (.ref t) H'
theorem sc_take_out : FnScope ["self", "address", "start", "level", "is_pinned"] ["self", "address"] (defScope (inClass (top 31) 14)) := ⟨rfl, rfl, rfl, by decide +kernel, rfl, by decide +kernel, by decide +kernel⟩
theorem ok_take (T : Tx K mg) (M_index_of : MfX P w K mg base 4 "Layout" "index_of" ["self", "address"] (spIx K)) (M_size : Mf P w K mg base 5 "Sizes" "size" ["self", "level"] (spSize K)) (F : FnP K "take_out" "Layout.take_out" (inClass (top 31) 14) f fd) :
    FnOk P w K mg base (L2.CX P w) 6 f fd ["self", "address"] (spTake K) := by
  refine F.ok sc_take_out (fun vs H Q E h => ?_) (fun cdv A outer s H vs Q E hr h => ⟨_, (pss_cons (ps_asg (pe_bm PySem.F.plainAttrs_list PySem.F.slot_list_pop PySem.F.type_list_pop mt_popAt (pe_fld (pv 0) rfl) (pa_cons (pmethX M_index_of hr (passX (takes_of (E := E) rfl rfl rfl rfl)) (pv 0) (pa_cons (pv 1) pa_nil)) pa_nil)) (pg_tup (by rfl) (pgs_cons (pg_name (i := 2) sc_take_out.nd rfl (by first | exact Or.inl rfl | exact Or.inr rfl)) (pgs_cons (pg_name (i := 3) sc_take_out.nd rfl (by first | exact Or.inl rfl | exact Or.inr rfl)) (pgs_cons (pg_name (i := 4) sc_take_out.nd rfl (by first | exact Or.inl rfl | exact Or.inr rfl)) pgs_nil))))) (pss_cons (ps_fldaug (pv 0) (pmeth M_size hr (pe_fld (pv 0) rfl) (pa_cons (pv 3) pa_nil)) in_add) (pss_one (ps_ret (pe_tup (pa_cons (pv 3) (pa_cons (pv 4) pa_nil))))))), ?_⟩)
  · obtain ⟨y, zp, bl, dx, ps, ns, n, bs, v, rfl, _⟩ := h
    rfl
  · obtain ⟨y, zp, bl, dx, ps, ns, n, bs, v, rfl, L, hv, q3, q0⟩ := h
    obtain ⟨dz, l, zz, zl, zy, zb, lb, ly, nyb⟩ := L.far
    have pl := L.rf.len
    have bn := L.ln
    refine ⟨_, rfl, y, _, dx, _, _, rfl, L.at_, T.ly, T.nBL, lay_bl .., .inl ⟨rfl, _, SqL.of L.lst⟩, _, rfl, y, dx, _, rfl, L.at_, lay_nm (by decide +kernel), _, rfl, y, zp, bl, dx, ps, ns, n, bs, v, rfl, L, hv, fun j b hj hb => ?_, q3⟩
    have q := q0 j b hj hb
    have jl := (List.getElem?_eq_some_iff.mp hj).1
    have hk := (L.wf.ok b (List.mem_of_getElem? hj)).1
    obtain ⟨p, hp, hT⟩ := L.rf.at_ hj
    have hT' : H p = some (.tup [.int b.1, .int (b.2.1 : Nat), .bl b.2.2]) := hT
    refine ⟨bl, _, j, j, .ref p, rfl, rfl, L.lst, by omega, by omega, (by rw [List.length_map]; exact (seqIndex_at (by omega) (by omega)).trans (by rw [Int.toNat_natCast])), (by rw [List.getElem?_map, hp]; rfl), ?_⟩
    have keep0 : ∀ {c : Addr} {o : HO} {u : HO}, c ≠ bl → H c = some o → (upd H bl u) c = some o := fun {c o u} c2 e => by
      rw [upd_ne c2]
      exact e
    have pb : p ≠ bl := fun z => by rw [z, L.lst] at hT'; cases hT'
    have py : p ≠ y := fun z => by rw [z, L.at_] at hT'; cases hT'
    refine ⟨p, _, rfl, .inl (.inl (keep0 pb hT')), rfl, _, _, rfl, _, _, rfl, _, _, rfl, rfl, ?_⟩
    refine ⟨_, rfl, y, _, dx, _, _, rfl, keep0 nyb L.at_, T.ly, T.nFC, lay_fc .., _, rfl, y, _, dx, _, _, rfl, keep0 nyb L.at_, T.ly, T.nST, lay_st .., zp, dz, _, rfl, keep0 zb zz, szF_no l (by decide +kernel), _, rfl, zp, ns, b.2.1, _, rfl, ⟨dz, l, keep0 zb zz, keep0 lb zl⟩, sz_at hk, _, _, rfl, rfl, dx, _, keep0 nyb L.at_, (by show 4 < 1000; decide), ?_⟩
    refine ⟨_, rfl, _, rfl, (by show 2 ≤ sizeLine; decide), fun t ht => ?_⟩
    have keep : ∀ {c : Addr} {o : HO} {u v v' : HO}, c ≠ y → c ≠ bl → H c = some o → (upd (upd (upd H bl u) y v) t v') c = some o ∨ c = t := fun {c o u v v'} c1 c2 e => by
      by_cases ct : c = t
      · exact .inr ct
      · rw [upd_ne ct, upd_ne c1, upd_ne c2]
        exact .inl e
    have ty : t ≠ y := fun z => by
      rw [z, upd_same] at ht
      cases ht
    have tb : t ≠ bl := fun z => by
      rw [z, upd_ne nyb.symm, upd_same] at ht
      cases ht
    have tn : H t = none := by
      rw [upd_ne ty, upd_ne tb] at ht
      exact ht
    have kp : ∀ {c : Addr} {o : HO} {u v v' : HO}, c ≠ y → c ≠ bl → H c = some o → (upd (upd (upd H bl u) y v) t v') c = some o := fun {c o u v v'} c1 c2 e => by
      rw [upd_ne (ne_of_none e tn), upd_ne c1, upd_ne c2]
      exact e
    refine q t (ps.eraseIdx j) _ tn ⟨?_, ⟨dz, l, kp zy zb zz, kp ly lb zl⟩, ?_, (L.rf.mono fun c xs e => ?_).era j, era_wf L.wf, L.gd, L.n1, L.n2, ?_, ⟨dz, l, kp zy zb zz, kp ly lb zl, lb⟩⟩ upd_same fun c o c1 c2 e => kp c1 c2 e
    · rw [upd_ne ty.symm, upd_same, lay_put, tot_era hj]
      have e : n - tot ns bs + sz ns b.2.1 = n - (tot ns bs - sz ns b.2.1) := by omega
      exact congrArg (fun z => some (HO.ins (He.ga K "Layout") dx (layF zp n z bl))) e
    · rw [upd_ne tb.symm, upd_ne nyb.symm, upd_same, era_map]
    · exact kp (fun z => by rw [z, L.at_] at e; cases e) (fun z => by rw [z, L.lst] at e; cases e) e
    · have := List.length_eraseIdx_le bs j
      omega
def spPin (K : PySem.W.Frag) : Sp := fun vs H Q E => ∃ (y zp bl dx : Addr) (ps : List Addr) (ns : List Int) (n : Int) (bs : List Blk) (v : V) (p : Bool), vs = [.ref y, v, .bl p] ∧ Ly K H y zp bl dx ps ns n bs ∧ Any H v ∧ ((∀ b ∈ bs, v ≠ .int b.1) → Raised K "UnknownBlock" "value" v H E) ∧
  ∀ (j : Nat) (b : Blk), bs[j]? = some b → v = .int b.1 → ∀ ps' H', Ly K H' y zp bl dx ps' ns n (pinB bs j b p) → But2 y bl H H' → Q .non H'
theorem sc_set_pinned : FnScope ["self", "address", "pinned", "index", "start", "level", "was_pinned"] ["self", "address", "pinned"] (defScope (inClass (top 31) 15)) := ⟨rfl, rfl, rfl, by decide +kernel, rfl, by decide +kernel, by decide +kernel⟩
theorem ok_pin (T : Tx K mg) (M_index_of : MfX P w K mg base 4 "Layout" "index_of" ["self", "address"] (spIx K)) (F : FnP K "set_pinned" "Layout.set_pinned" (inClass (top 31) 15) f fd) :
    FnOk P w K mg base (L2.CX P w) 5 f fd ["self", "address", "pinned"] (spPin K) := by
  refine F.ok sc_set_pinned (fun vs H Q E h => ?_) (fun cdv A outer s H vs Q E hr h => ⟨_, (pss_cons (ps_set (i := 3) sc_set_pinned.nd rfl (by first | exact Or.inl rfl | exact Or.inr rfl) (pmethX M_index_of hr (passX (takes_of (E := E) rfl rfl rfl rfl)) (pv 0) (pa_cons (pv 1) pa_nil))) (pss_cons (ps_asg (pe_ix ix_list (pe_fld (pv 0) rfl) (pv 3) (fun _ _ => rfl)) (pg_tup (by rfl) (pgs_cons (pg_name (i := 4) sc_set_pinned.nd rfl (by first | exact Or.inl rfl | exact Or.inr rfl)) (pgs_cons (pg_name (i := 5) sc_set_pinned.nd rfl (by first | exact Or.inl rfl | exact Or.inr rfl)) (pgs_cons (pg_name (i := 6) sc_set_pinned.nd rfl (by first | exact Or.inl rfl | exact Or.inr rfl)) pgs_nil))))) (pss_one (ps_asg (pe_tup (pa_cons (pv 4) (pa_cons (pv 5) (pa_cons (pv 2) pa_nil)))) (pg_sub (pe_fld (pv 0) rfl) (pv 3) set_list))))), ?_⟩)
  · obtain ⟨y, zp, bl, dx, ps, ns, n, bs, v, p, rfl, _⟩ := h
    rfl
  · obtain ⟨y, zp, bl, dx, ps, ns, n, bs, v, pp, rfl, L, hv, q3, q0⟩ := h
    obtain ⟨dz, l, zz, zl, zy, zb, lb, ly, nyb⟩ := L.far
    have pl := L.rf.len
    have bn := L.ln
    refine ⟨_, rfl, y, dx, _, rfl, L.at_, lay_nm (by decide +kernel), _, rfl, y, zp, bl, dx, ps, ns, n, bs, v, rfl, L, hv, fun j b hj hb => ?_, q3⟩
    have q := q0 j b hj hb
    have jl := (List.getElem?_eq_some_iff.mp hj).1
    obtain ⟨p, hp, hT⟩ := L.rf.at_ hj
    have hT' : H p = some (.tup [.int b.1, .int (b.2.1 : Nat), .bl b.2.2]) := hT
    refine ⟨_, rfl, y, _, dx, _, _, rfl, L.at_, T.ly, T.nBL, lay_bl .., _, rfl, bl, _, _, _, rfl, rfl, SqL.of L.lst, Refs.map_at hp, p, _, rfl, .inl (.inl hT'), rfl, _, _, rfl, _, _, rfl, _, _, rfl, rfl, ?_⟩
    refine ⟨_, rfl, _, rfl, _, rfl, (by show 3 ≤ sizeLine; decide), fun t ht => ?_⟩
    have sm := same_upd (o := .tup [.int b.1, .int (b.2.1 : Nat), .bl pp]) ht
    have ntb : bl ≠ t := ne_of_none L.lst ht
    have kp : ∀ {c : Addr} {o : HO} {u : HO}, c ≠ bl → H c = some o → (upd (upd H t (.tup [.int b.1, .int (b.2.1 : Nat), .bl pp])) bl u) c = some o := fun {c o u} c2 e => by
      rw [upd_ne c2]
      exact sm _ _ e
    refine ⟨_, rfl, y, _, dx, _, _, rfl, sm _ _ L.at_, T.ly, T.nBL, lay_bl .., _, rfl, bl, _, _, j, rfl, rfl, sm _ _ L.lst, ?_, ?_⟩
    · rw [List.length_map]
      exact ix_nat (by omega)
    · refine q (ps.set j t) _ ⟨?_, ⟨dz, l, kp zb zz, kp lb zl⟩, ?_, Refs.set (t := (b.1, b.2.1, pp)) ?_ (L.rf.mono fun c xs e => ?_) j, pin_wf L.wf hj, L.gd, L.n1, L.n2, ?_, ⟨dz, l, kp zb zz, kp lb zl, lb⟩⟩ fun c o _ c2 e => kp c2 e
      · rw [tot_pin hj]
        exact kp nyb L.at_
      · rw [upd_same, List.map_set]
      · rw [upd_ne ntb.symm, upd_same]
        rfl
      · exact kp (fun z => by rw [z, L.lst] at e; cases e) e
      · unfold pinB
        rw [List.length_set]
        exact bn
end
end K26

set_option Elab.async false
set_option linter.all false
set_option maxRecDepth 100000
set_option maxHeartbeats 4000000
namespace K26
open PySem PySem.Spec PyProof.Rows L2 Gu Ex
def prV (p : Int × Int) : List V := [.int p.1, .int p.2]
def gapsI (n : Int) : Int → List (Int × Int) → List (Int × Int)
  | low, [] => if low < n then [(low, n)] else []
  | low, (s, e) :: r => (if low < s then [(low, s)] else []) ++ gapsI n e r
def rngB (ns : List Int) (b : Blk) : Int × Int := (b.1, bEnd ns b)
theorem drop_at {α : Type} {rs : List α} {i : Nat} {t : α} (h : rs[i]? = some t) : rs.drop i = t :: rs.drop (i + 1) := by
  obtain ⟨hi, e⟩ := List.getElem?_eq_some_iff.mp h
  rw [List.drop_eq_getElem_cons hi, e]
theorem take_at {α : Type} {rs : List α} {i : Nat} {t : α} (h : rs[i]? = some t) : rs.take (i + 1) = rs.take i ++ [t] := by
  rw [List.take_add_one, h]
  rfl
/-- appending a new tuple to a new list -/
theorem Refs.more {α : Type} {f : α → List V} {H : Hp} {ps : List Addr} {ts : List α} {M t : Addr} {u : α} {xs : List V} (h : Refs f H ps ts) (hM : H M = some (.lst xs)) (ht : H t = none) : Refs f (upd (upd H t (.tup (f u))) M (.lst (xs ++ [.ref t]))) (ps ++ [t]) (ts ++ [u]) := by
  have nM : M ≠ t := ne_of_none hM ht
  refine (h.mono fun b ys e => ?_).app (.one ?_)
  · rw [upd_ne (fun z => by rw [z, hM] at e; cases e), upd_ne (ne_of_none e ht)]
    exact e
  · rw [upd_ne nM.symm, upd_same]
theorem ref_of {ps : List Addr} {i : Nat} {x : V} (h : (ps.map V.ref)[i]? = some x) : ∃ p, ps[i]? = some p ∧ x = .ref p := by
  rw [List.getElem?_map] at h
  cases e : ps[i]? with
  | none => rw [e] at h; cases h
  | some p => rw [e] at h; exact ⟨p, rfl, (Option.some.inj h).symm⟩
section
variable {P : Program} {w : World} {K : PySem.W.Frag} {mg : Str → Option Value} {base : Heap} {f : Addr} {fd : FuncData}
def spGaps : Sp := fun vs H Q _ => ∃ (L : Addr) (n : Int) (ps : List Addr) (rs : List (Int × Int)), vs = [.ref L, .int n] ∧ H L = some (.lst (ps.map V.ref)) ∧ Refs prV H ps rs ∧ rs.length ≤ 1000 ∧
  ∀ M qs H', H M = none → Same H H' → H' M = some (.lst (qs.map V.ref)) → Refs prV H' qs (gapsI n 0 rs) → Q (.ref M) H'
theorem sc_gaps_between : FnScope ["ranges", "length", "gaps", "low", "start", "end"] ["ranges", "length"] (defScope (top 25)) := ⟨rfl, rfl, rfl, by decide +kernel, rfl, by decide +kernel, by decide +kernel⟩
theorem ok_gaps (T : Tx K mg) (F : FnP K "gaps_between" "gaps_between" (top 25) f fd) : FnOk P w K mg base CX0 1 f fd ["ranges", "length"] spGaps := by
  refine F.ok sc_gaps_between (fun vs H Q E h => ?_) (fun cdv A outer s H vs Q E hr h => ⟨_, PSs.nox (pss_cons (ps_set (i := 2) sc_gaps_between.nd rfl (by first | exact Or.inl rfl | exact Or.inr rfl) (pe_lst pa_nil)) (pss_cons (ps_set (i := 3) sc_gaps_between.nd rfl (by first | exact Or.inl rfl | exact Or.inr rfl) pe_int) (pss_cons (ps_for PassesOwn.never rfl (pi_list (pv 0)) (pg_tup (by rfl) (pgs_cons (pg_name (i := 4) sc_gaps_between.nd rfl (by first | exact Or.inl rfl | exact Or.inr rfl)) (pgs_cons (pg_name (i := 5) sc_gaps_between.nd rfl (by first | exact Or.inl rfl | exact Or.inr rfl)) pgs_nil))) (pss_cons (ps_if (pt_cmpR op_lt (pv 3) (pv 4) (nomark _)) (pss_one (ps_expr (pe_bm PySem.F.plainAttrs_list PySem.F.slot_list_append PySem.F.type_list_append mt_append (pv 2) (pa_cons (pe_tup (pa_cons (pv 3) (pa_cons (pv 4) pa_nil))) pa_nil)))) pss_nil) (pss_one (ps_set (i := 3) sc_gaps_between.nd rfl (by first | exact Or.inl rfl | exact Or.inr rfl) (pv 5))))) (pss_cons (ps_if (pt_cmpR op_lt (pv 3) (pv 1) (nomark _)) (pss_one (ps_expr (pe_bm PySem.F.plainAttrs_list PySem.F.slot_list_append PySem.F.type_list_append mt_append (pv 2) (pa_cons (pe_tup (pa_cons (pv 3) (pa_cons (pv 1) pa_nil))) pa_nil)))) pss_nil) (pss_one (ps_ret (pv 2))))))), ?_⟩)
  · obtain ⟨L, n, ps, rs, rfl, _⟩ := h
    rfl
  · obtain ⟨L, n, ps, rs, rfl, hL, rf, r1000, q⟩ := h
    have sl : sizeLine = 16777216 := sizeLine_eq
    have two : 2 ≤ sizeLine := by decide
    refine ⟨Nat.zero_le _, fun M hM => ?_⟩
    refine ⟨_, rfl, L, rfl, ⟨_, SqL.of (same_upd hM _ _ hL)⟩, ?_⟩
    have pl := rf.len
    refine for_list (K := K) (a := L) (xs := ps.map V.ref) (fun i σ G => ∃ (low : Int) (acc : List (Int × Int)) (qs : List Addr) (y4 y5 : Option V), σ = [some (.ref L), some (.int n), some (.ref M), some (.int low), y4, y5] ∧ Same H G ∧ G M = some (.lst (qs.map V.ref)) ∧ Refs prV G qs acc ∧ acc.length ≤ i ∧ gapsI n 0 rs = acc ++ gapsI n low (rs.drop i))
      ⟨0, [], [], none, none, rfl, same_upd hM, upd_same, .nil, Nat.le_refl _, rfl⟩ (fun i σ G _ ⟨_, _, _, _, _, _, sm, _⟩ => SqL.of (sm _ _ hL)) ?_ ?_
    · rintro i x σ G hx ⟨low, acc, qs, y4, y5, rfl, sm, hG, ra, al, eq⟩
      obtain ⟨p, hp, rfl⟩ := ref_of hx
      obtain ⟨t, ht, hT⟩ := (rf.same sm).get hp
      have hT' : G p = some (.tup [.int t.1, .int t.2]) := hT
      have il : i < rs.length := (List.getElem?_eq_some_iff.mp ht).1
      rw [drop_at ht] at eq
      have eq2 : gapsI n 0 rs = acc ++ ((if low < t.1 then [(low, t.1)] else []) ++ gapsI n t.2 (rs.drop (i + 1))) := eq
      have ql := ra.len
      refine ⟨p, _, rfl, .inl (.inl hT'), rfl, _, _, rfl, _, _, rfl, rfl, ?_⟩
      refine ⟨_, rfl, _, rfl, _, _, rfl, rfl, _, rfl, ?_⟩
      by_cases hc : low < t.1
      · rw [if_pos hc] at eq2
        refine ifT (decide_eq_true hc) ⟨_, rfl, .inl ⟨rfl, _, SqL.of hG⟩, _, rfl, _, rfl, two, fun u hu => ?_⟩
        have nM : M ≠ u := ne_of_none hG hu
        refine ⟨M, _, _, rfl, rfl, (by rw [upd_ne nM]; exact hG), (by rw [List.length_map]; omega), _, rfl, t.2, acc ++ [(low, t.1)], qs ++ [u], _, _, rfl, fun b o e => ?_, ?_, Refs.more (u := (low, t.1)) ra hG hu, ?_, ?_⟩
        · rw [upd_ne (ne_of_none e hM), upd_ne (ne_of_none (sm b o e) hu)]
          exact sm b o e
        · rw [upd_same, List.map_append]
          rfl
        · rw [List.length_append, List.length_singleton]
          omega
        · rw [eq2, List.append_assoc]
      · rw [if_neg hc] at eq2
        exact ifF (decide_eq_false hc) ⟨_, rfl, t.2, acc, qs, _, _, rfl, sm, hG, ra, by omega, eq2⟩
    · rintro σ G ⟨low, acc, qs, y4, y5, rfl, sm, hG, ra, al, eq⟩
      rw [List.length_map, pl, List.drop_length] at eq
      have eq2 : gapsI n 0 rs = acc ++ (if low < n then [(low, n)] else []) := eq
      have ql := ra.len
      rw [List.length_map] at al
      refine ⟨_, rfl, _, rfl, _, _, rfl, rfl, _, rfl, ?_⟩
      by_cases hc : low < n
      · rw [if_pos hc] at eq2
        refine ifT (decide_eq_true hc) ⟨_, rfl, .inl ⟨rfl, _, SqL.of hG⟩, _, rfl, _, rfl, two, fun u hu => ?_⟩
        have nM : M ≠ u := ne_of_none hG hu
        refine ⟨M, _, _, rfl, rfl, (by rw [upd_ne nM]; exact hG), (by rw [List.length_map]; omega), _, rfl, q M (qs ++ [u]) _ hM (fun b o e => ?_) ?_ ?_⟩
        · rw [upd_ne (ne_of_none e hM), upd_ne (ne_of_none (sm b o e) hu)]
          exact sm b o e
        · rw [upd_same, List.map_append]
          rfl
        · rw [eq2]
          exact Refs.more (u := (low, n)) ra hG hu
      · rw [if_neg hc, List.append_nil] at eq2
        refine ifF (decide_eq_false hc) ⟨_, rfl, q M qs G hM sm hG ?_⟩
        rw [eq2]
        exact ra
def spRanges (K : PySem.W.Frag) : Sp := fun vs H Q _ => ∃ (y zp bl dx : Addr) (ps : List Addr) (ns : List Int) (n : Int) (bs : List Blk) (M : Addr) (qs : List Addr) (cs : List Blk), vs = [.ref y, .ref M] ∧ Ly K H y zp bl dx ps ns n bs ∧ H M = some (.lst (qs.map V.ref)) ∧ Refs blkV H qs cs ∧ cs.length ≤ 1000 ∧ (∀ b ∈ cs, b.2.1 < ns.length) ∧
  ∀ D rs H', H D = none → Same H H' → H' D = some (.lst (rs.map V.ref)) → Refs prV H' rs (cs.map (rngB ns)) → Q (.ref D) H'
theorem sc_ranges_of : FnScope ["self", "blocks", "address", "level", "is_pinned"] ["self", "blocks"] (defScope (inClass (top 31) 16)) := ⟨rfl, rfl, rfl, by decide +kernel, rfl, by decide +kernel, by decide +kernel⟩
theorem ok_ranges (T : Tx K mg) (M_size : Mf P w K mg base 5 "Sizes" "size" ["self", "level"] (spSize K)) (F : FnP K "ranges_of" "Layout.ranges_of" (inClass (top 31) 16) f fd) : FnOk P w K mg base CX0 6 f fd ["self", "blocks"] (spRanges K) := by
  refine F.ok sc_ranges_of (fun vs H Q E h => ?_) (fun cdv A outer s H vs Q E hr h => ⟨_, PSs.nox (pss_one (ps_ret (pe_lc (own := [("address", 2), ("level", 3), ("is_pinned", 4)]) (g := gTup K 3 (gCons (gName 2) (gCons (gName 3) (gCons (gName 4) gNil)))) rfl sc_ranges_of.nd (pi_list (pv 1)) (blkOk_by (own := [("address", 2), ("level", 3), ("is_pinned", 4)]) (N := ["self", "blocks", "address", "level", "is_pinned"]) (sc := defScope (inClass (top 31) 16)) (by decide +kernel)) (fun _ _ _ _ _ => pg_tup rfl (pgs_cons (pg_name (i := 2) sc_ranges_of.nd rfl (Or.inl rfl)) (pgs_cons (pg_name (i := 3) sc_ranges_of.nd rfl (Or.inl rfl)) (pgs_cons (pg_name (i := 4) sc_ranges_of.nd rfl (Or.inl rfl)) pgs_nil)))) (fun _ _ _ _ _ => pts_nil) (fun _ _ _ _ _ => (pe_tup (pa_cons (pv 2) (pa_cons (pe_op op_add (pv 2) (pmethB K M_size hr (pfldB K (pv 0)) (pa_cons (pv 3) pa_nil))) pa_nil))))))), ?_⟩)
  · obtain ⟨y, zp, bl, dx, ps, ns, n, bs, M, qs, cs, rfl, _⟩ := h
    rfl
  · obtain ⟨y, zp, bl, dx, ps, ns, n, bs, M, qs, cs, rfl, L, hM, rf, c1000, hc, q⟩ := h
    have sl : sizeLine = 16777216 := sizeLine_eq
    have two : 2 ≤ sizeLine := by decide
    have ql := rf.len
    refine ⟨_, rfl, M, rfl, ⟨_, SqL.of hM⟩, fun D hD => ?_⟩
    refine lc_list (K := K) (a := M) (xs := qs.map V.ref) (fun i G => ∃ rs, G D = some (.lst (rs.map V.ref)) ∧ Refs prV G rs ((cs.take i).map (rngB ns)) ∧ Same H G) ⟨[], upd_same, .nil, same_upd hD⟩ (fun i G _ ⟨_, _, _, sm⟩ => SqL.of (sm _ _ hM)) ?_ ?_
    · rintro i x G hx ⟨rs, hG, rr, sm⟩
      obtain ⟨p, hp, rfl⟩ := ref_of hx
      obtain ⟨b, hb, hT⟩ := (rf.same sm).get hp
      have hT' : G p = some (.tup [.int b.1, .int (b.2.1 : Nat), .bl b.2.2]) := hT
      have il : i < cs.length := (List.getElem?_eq_some_iff.mp hb).1
      have bk := hc b (List.mem_of_getElem? hb)
      have LG := L.same sm
      obtain ⟨dz, l, z1, z2⟩ := id LG.szs
      have rl := rr.len
      rw [List.length_map, List.length_take] at rl
      refine ⟨p, _, rfl, .inl (.inl hT'), rfl, _, _, rfl, _, _, rfl, _, _, rfl, rfl, rfl, ?_⟩
      refine ⟨_, rfl, _, rfl, _, rfl, y, _, dx, _, _, rfl, LG.at_, T.ly, T.nST, lay_st .., zp, dz, _, rfl, z1, szF_no l (by decide +kernel), _, rfl, zp, ns, b.2.1, _, rfl, LG.szs, sz_at bk, _, _, rfl, rfl, two, fun t ht => ?_⟩
      have nD : D ≠ t := ne_of_none hG ht
      refine ⟨_, (by rw [upd_ne nD]; exact hG), (by rw [List.length_map]; omega), rs ++ [t], ?_, ?_, fun c o e => ?_⟩
      · rw [upd_same, List.map_append]
        rfl
      · rw [take_at hb, List.map_append]
        exact Refs.more (u := rngB ns b) rr hG ht
      · rw [upd_ne (ne_of_none e hD), upd_ne (ne_of_none (sm c o e) ht)]
        exact sm c o e
    · rintro G ⟨rs, hG, rr, sm⟩
      rw [List.length_map, ql, List.take_length] at rr
      exact q D rs G hD sm hG rr
end
end K26

set_option Elab.async false
set_option linter.all false
set_option maxRecDepth 100000
set_option maxHeartbeats 4000000
namespace K26
open PySem PySem.Spec PyProof.Rows L2 Gu Ex
theorem filter_at {bs : List Blk} {i : Nat} {b : Blk} (p : Blk → Bool) (h : bs[i]? = some b) : (bs.take (i + 1)).filter p = (bs.take i).filter p ++ (if p b = true then [b] else []) := by
  rw [take_at h, List.filter_append, List.filter_cons, List.filter_nil]
/-- the gaps are right ranges -/
theorem gaps_ok {n : Int} : ∀ {rs : List (Int × Int)} {low : Int}, 0 ≤ low → (∀ r ∈ rs, 0 ≤ r.2) → ∀ g ∈ gapsI n low rs, 0 ≤ g.1 ∧ g.1 ≤ g.2
  | [], low, h, _, g, hg => by
    have hg2 : g ∈ (if low < n then [(low, n)] else []) := hg
    split at hg2
    · rw [List.mem_singleton.mp hg2]
      exact ⟨h, by show low ≤ n; omega⟩
    · cases hg2
  | (s, e) :: r, low, h, hr, g, hg => by
    rcases List.mem_append.mp (show g ∈ (if low < s then [(low, s)] else []) ++ gapsI n e r from hg) with z | z
    · split at z
      · rw [List.mem_singleton.mp z]
        exact ⟨h, by show low ≤ s; omega⟩
      · cases z
    · exact gaps_ok (hr (s, e) List.mem_cons_self) (fun x hx => hr x (List.mem_cons_of_mem _ hx)) g z
/-- the clear cells, as reckoned -/
def pinR (ns : List Int) (bs : List Blk) : List (Int × Int) := (bs.filter fun b => b.2.2).map (rngB ns)
def regI (ns : List Int) (k : Nat) (gs : List (Int × Int)) : Int := (gs.map fun g => cntI (sz ns k) g.1 g.2).sum
def clrI (ns : List Int) (n : Int) (bs : List Blk) (k : Nat) : Int := regI ns k (gapsI n 0 (pinR ns bs)) * sz ns k
theorem gaps_len {n : Int} : ∀ (rs : List (Int × Int)) (low : Int), (gapsI n low rs).length ≤ rs.length + 1
  | [], low => by
    show (if low < n then [(low, n)] else []).length ≤ 1
    split <;> simp
  | (s, e) :: r, low => by
    show ((if low < s then [(low, s)] else []) ++ gapsI n e r).length ≤ r.length + 1 + 1
    have := gaps_len (n := n) r e
    rw [List.length_append]
    split
    · rw [List.length_singleton]
      omega
    · rw [List.length_nil]
      omega
section
variable {P : Program} {w : World} {K : PySem.W.Frag} {mg : Str → Option Value} {base : Heap} {f : Addr} {fd : FuncData}
def spPinned (K : PySem.W.Frag) : Sp := fun vs H Q _ => ∃ (y zp bl dx : Addr) (ps : List Addr) (ns : List Int) (n : Int) (bs : List Blk), vs = [.ref y] ∧ Ly K H y zp bl dx ps ns n bs ∧
  ∀ D rs H', H D = none → Same H H' → H' D = some (.lst (rs.map V.ref)) → Refs prV H' rs (pinR ns bs) → Q (.ref D) H'
theorem sc_pinned_ranges : FnScope ["self", "block"] ["self"] (defScope (inClass (top 31) 18)) := ⟨rfl, rfl, rfl, by decide +kernel, rfl, by decide +kernel, by decide +kernel⟩
theorem ok_pinned (T : Tx K mg) (M_ranges_of : Mf P w K mg base 6 "Layout" "ranges_of" ["self", "blocks"] (spRanges K)) (F : FnP K "pinned_ranges" "Layout.pinned_ranges" (inClass (top 31) 18) f fd) : FnOk P w K mg base CX0 7 f fd ["self"] (spPinned K) := by
  refine F.ok sc_pinned_ranges (fun vs H Q E h => ?_) (fun cdv A outer s H vs Q E hr h => ⟨_, PSs.nox (pss_one (ps_ret (pmeth M_ranges_of hr (pv 0) (pa_cons (pe_lc (own := [("block", 1)]) (g := gName 1) rfl sc_pinned_ranges.nd (pi_list (pe_fld (pv 0) rfl)) (blkOk_by (own := [("block", 1)]) (N := ["self", "block"]) (sc := defScope (inClass (top 31) 18)) (by decide +kernel)) (fun _ _ _ _ _ => pg_name (i := 1) sc_pinned_ranges.nd rfl (Or.inl rfl)) (fun _ _ _ _ _ => (pts_one (pt_val (pe_ix (r := rIxT K) ix_tup (pv 1) pe_int (fun _ _ => rfl))))) (fun _ _ _ _ _ => (pv 1))) pa_nil)))), ?_⟩)
  · obtain ⟨y, zp, bl, dx, ps, ns, n, bs, rfl, _⟩ := h
    rfl
  · obtain ⟨y, zp, bl, dx, ps, ns, n, bs, rfl, L, q⟩ := h
    have sl : sizeLine = 16777216 := sizeLine_eq
    have pl := L.rf.len
    have bn := L.ln
    refine ⟨_, rfl, y, dx, _, rfl, L.at_, lay_nm (by decide +kernel), _, rfl, y, _, dx, _, _, rfl, L.at_, T.ly, T.nBL, lay_bl .., bl, rfl, ⟨_, SqL.of L.lst⟩, fun D hD => ?_⟩
    refine lc_list (K := K) (a := bl) (xs := ps.map V.ref) (fun i G => ∃ qs, G D = some (.lst (qs.map V.ref)) ∧ Refs blkV G qs ((bs.take i).filter fun b => b.2.2) ∧ Same H G) ⟨[], upd_same, .nil, same_upd hD⟩ (fun i G _ ⟨_, _, _, sm⟩ => SqL.of (sm _ _ L.lst)) ?_ ?_
    · rintro i x G hx ⟨qs, hG, rr, sm⟩
      obtain ⟨p, hp, rfl⟩ := ref_of hx
      obtain ⟨b, hb, hT⟩ := (L.rf.same sm).get hp
      have il : i < bs.length := (List.getElem?_eq_some_iff.mp hb).1
      have rl := rr.len
      have fl := List.length_filter_le (fun b : Blk => b.2.2) (bs.take i)
      rw [List.length_take] at fl
      have hT' : G p = some (.tup [.int b.1, .int (b.2.1 : Nat), .bl b.2.2]) := hT
      refine ⟨rfl, _, rfl, p, _, _, _, rfl, rfl, SqT.of hT', rfl, _, rfl, ?_⟩
      have fa := filter_at (fun b => b.2.2) hb
      cases hq : b.2.2 with
      | true =>
        rw [hq] at fa
        refine iteT ⟨_, rfl, _, hG, (by rw [List.length_map]; omega), qs ++ [p], ?_, ?_, fun c o e => ?_⟩
        · rw [upd_same, List.map_append]
          rfl
        · rw [fa]
          refine (rr.mono fun c xs e => ?_).app (.one ?_)
          · rw [upd_ne (fun z => by rw [z, hG] at e; cases e)]
            exact e
          · rw [upd_ne (fun z => by rw [z, hG] at hT; cases hT)]
            exact hT
        · rw [upd_ne (ne_of_none e hD)]
          exact sm c o e
      | false =>
        rw [hq] at fa
        refine iteF ⟨qs, hG, ?_, sm⟩
        rw [fa]
        simpa using rr
    · rintro G ⟨qs, hG, rr, sm⟩
      rw [List.length_map, pl, List.take_length] at rr
      refine ⟨y, zp, bl, dx, ps, ns, n, bs, D, qs, _, rfl, L.same sm, hG, rr, Nat.le_trans (List.length_filter_le _ _) bn, fun b hb => (L.wf.ok b ((List.mem_filter.mp hb).1)).1, fun D2 rs H' hD2 sm2 h2 r2 => q D2 rs H' (sm.free hD2) (sm.trans sm2) h2 r2⟩
def spRegIn (K : PySem.W.Frag) : Sp := fun vs H Q _ => ∃ (y zp bl dx : Addr) (ps : List Addr) (ns : List Int) (n : Int) (bs : List Blk) (M : Addr) (qs : List Addr) (gs : List (Int × Int)) (k : Nat), vs = [.ref y, .ref M, .int k] ∧ Ly K H y zp bl dx ps ns n bs ∧ H M = some (.lst (qs.map V.ref)) ∧ Refs prV H qs gs ∧ gs.length ≤ 2000 ∧ (∀ g ∈ gs, 0 ≤ g.1 ∧ g.1 ≤ g.2) ∧ k < ns.length ∧
  ∀ H', Same H H' → Q (.int (regI ns k gs)) H'
theorem sc_regions_in : FnScope ["self", "gaps", "level", "low", "high"] ["self", "gaps", "level"] (defScope (inClass (top 31) 21)) := ⟨rfl, rfl, rfl, by decide +kernel, rfl, by decide +kernel, by decide +kernel⟩
theorem ok_regin (T : Tx K mg) (M_check_level : Mf P w K mg base 4 "Sizes" "check_level" ["self", "level"] (spCheckL K)) (D_count_regions : Df P w K mg base 7 "count_regions" ["sizes", "level", "low", "high"] (spCount K)) (F : FnP K "regions_in" "Layout.regions_in" (inClass (top 31) 21) f fd) :
    FnOk P w K mg base CX0 8 f fd ["self", "gaps", "level"] (spRegIn K) := by
  refine F.ok sc_regions_in (fun vs H Q E h => ?_) (fun cdv A outer s H vs Q E hr h => ⟨_, PSs.nox (pss_cons (ps_expr (pmeth M_check_level hr (pe_fld (pv 0) rfl) (pa_cons (pv 2) pa_nil))) (pss_one (ps_ret (pe_callB (cr_sum rfl) (by rfl) T.n_sum (by decide +kernel) (pa_cons (pe_lc (own := [("low", 3), ("high", 4)]) (g := gTup K 2 (gCons (gName 3) (gCons (gName 4) gNil))) rfl sc_regions_in.nd (pi_list (pv 1)) (blkOk_by (own := [("low", 3), ("high", 4)]) (N := ["self", "gaps", "level", "low", "high"]) (sc := defScope (inClass (top 31) 21)) (by decide +kernel)) (fun _ _ _ _ _ => pg_tup rfl (pgs_cons (pg_name (i := 3) sc_regions_in.nd rfl (Or.inl rfl)) (pgs_cons (pg_name (i := 4) sc_regions_in.nd rfl (Or.inl rfl)) pgs_nil))) (fun _ _ _ _ _ => pts_nil) (fun _ _ _ _ _ => (pcall D_count_regions hr (pa_cons (pfldB K (pv 0)) (pa_cons (pv 2) (pa_cons (pv 3) (pa_cons (pv 4) pa_nil))))))) pa_nil))))), ?_⟩)
  · obtain ⟨y, zp, bl, dx, ps, ns, n, bs, M, qs, gs, k, rfl, _⟩ := h
    rfl
  · obtain ⟨y, zp, bl, dx, ps, ns, n, bs, M, qs, gs, k, rfl, L, hM, rf, g2000, gk, hk, q⟩ := h
    have sl : sizeLine = 16777216 := sizeLine_eq
    have ql := rf.len
    obtain ⟨dz, l, z1, z2⟩ := id L.szs
    refine ⟨_, rfl, y, _, dx, _, _, rfl, L.at_, T.ly, T.nST, lay_st .., zp, dz, _, rfl, z1, szF_no l (by decide +kernel), _, rfl, zp, ns, k, rfl, L.szs, hk, ?_⟩
    refine ⟨_, rfl, M, rfl, ⟨_, SqL.of hM⟩, fun D hD => ?_⟩
    refine lc_list (K := K) (a := M) (xs := qs.map V.ref) (fun i G => G D = some (.lst (((gs.take i).map fun g => cntI (sz ns k) g.1 g.2).map V.int)) ∧ Same H G) ⟨upd_same, same_upd hD⟩ (fun i G _ ⟨_, sm⟩ => SqL.of (sm _ _ hM)) ?_ ?_
    · rintro i x G hx ⟨hG, sm⟩
      obtain ⟨p, hp, rfl⟩ := ref_of hx
      obtain ⟨g, hg, hT⟩ := (rf.same sm).get hp
      have hT' : G p = some (.tup [.int g.1, .int g.2]) := hT
      have il : i < gs.length := (List.getElem?_eq_some_iff.mp hg).1
      have LG := L.same sm
      obtain ⟨g1, g2⟩ := gk g (List.mem_of_getElem? hg)
      refine ⟨p, _, rfl, .inl (.inl hT'), rfl, _, _, rfl, _, _, rfl, rfl, rfl, ?_⟩
      refine ⟨_, rfl, y, _, dx, _, _, rfl, LG.at_, T.ly, T.nST, lay_st .., _, rfl, _, rfl, _, rfl, zp, ns, k, _, g.1, g.2, rfl, LG.szs, sz_at hk, (chain L.gd).pos _ hk, sz_le L.gd hk, g1, g2, ?_⟩
      refine ⟨_, hG, (by rw [List.length_map, List.length_map, List.length_take]; omega), ?_, fun c o e => ?_⟩
      · rw [upd_same, take_at hg, List.map_append, List.map_append]
        rfl
      · rw [upd_ne (ne_of_none e hD)]
        exact sm c o e
    · rintro G ⟨hG, sm⟩
      rw [List.length_map, ql, List.take_length] at hG
      exact ⟨D, _, rfl, SqL.of hG, q G sm⟩
def spClear (K : PySem.W.Frag) : Sp := fun vs H Q _ => ∃ (y zp bl dx : Addr) (ps : List Addr) (ns : List Int) (n : Int) (bs : List Blk) (k : Nat), vs = [.ref y, .int k] ∧ Ly K H y zp bl dx ps ns n bs ∧ k < ns.length ∧ ∀ H', Same H H' → Q (.int (clrI ns n bs k)) H'
theorem sc_clear_cells : FnScope ["self", "level", "gaps"] ["self", "level"] (defScope (inClass (top 31) 24)) := ⟨rfl, rfl, rfl, by decide +kernel, rfl, by decide +kernel, by decide +kernel⟩
theorem ok_clear (T : Tx K mg) (M_pinned_ranges : Mf P w K mg base 7 "Layout" "pinned_ranges" ["self"] (spPinned K)) (D_gaps_between : Df P w K mg base 1 "gaps_between" ["ranges", "length"] spGaps) (M_regions_in : Mf P w K mg base 8 "Layout" "regions_in" ["self", "gaps", "level"] (spRegIn K))
    (M_size : Mf P w K mg base 5 "Sizes" "size" ["self", "level"] (spSize K)) (F : FnP K "clear_cells" "Layout.clear_cells" (inClass (top 31) 24) f fd) : FnOk P w K mg base CX0 9 f fd ["self", "level"] (spClear K) := by
  refine F.ok sc_clear_cells (fun vs H Q E h => ?_) (fun cdv A outer s H vs Q E hr h => ⟨_, PSs.nox (pss_cons (ps_set (i := 2) sc_clear_cells.nd rfl (by first | exact Or.inl rfl | exact Or.inr rfl) (pcall D_gaps_between hr (pa_cons (pmeth0 M_pinned_ranges hr (pv 0)) (pa_cons (pe_fld (pv 0) rfl) pa_nil)))) (pss_one (ps_ret (pe_op op_mul (pmeth M_regions_in hr (pv 0) (pa_cons (pv 2) (pa_cons (pv 1) pa_nil))) (pmeth M_size hr (pe_fld (pv 0) rfl) (pa_cons (pv 1) pa_nil)))))), ?_⟩)
  · obtain ⟨y, zp, bl, dx, ps, ns, n, bs, k, rfl, _⟩ := h
    rfl
  · obtain ⟨y, zp, bl, dx, ps, ns, n, bs, k, rfl, L, hk, q⟩ := h
    have bn := L.ln
    have pr : (pinR ns bs).length ≤ 1000 := by
      unfold pinR
      rw [List.length_map]
      exact Nat.le_trans (List.length_filter_le _ _) bn
    refine ⟨_, rfl, y, dx, _, rfl, L.at_, lay_nm (by decide +kernel), y, zp, bl, dx, ps, ns, n, bs, rfl, L, fun D rs H1 hD s1 h1 r1 => ?_⟩
    have L1 := L.same s1
    refine ⟨_, rfl, y, _, dx, _, _, rfl, L1.at_, T.ly, T.nCC, lay_cc .., D, n, rs, _, rfl, h1, r1, pr, fun M qs H2 hM s2 h2 r2 => ?_⟩
    have L2 := L1.same s2
    refine ⟨_, rfl, y, dx, _, rfl, L2.at_, lay_nm (by decide +kernel), _, rfl, _, rfl, y, zp, bl, dx, ps, ns, n, bs, M, qs, _, k, rfl, L2, h2, r2, (by have := gaps_len (n := n) (pinR ns bs) 0; omega), gaps_ok (Int.le_refl 0) (fun r hr => ?_), hk, fun H3 s3 => ?_⟩
    · unfold pinR at hr
      obtain ⟨b, hb, rfl⟩ := List.mem_map.mp hr
      have bm := (List.mem_filter.mp hb).1
      have := (L.wf.ok b bm).2.1
      have := L.wf.pos L.gd bm
      show 0 ≤ b.1 + sz ns b.2.1
      omega
    · have L3 := L2.same s3
      obtain ⟨dz, l, z1, z2⟩ := id L3.szs
      have z := (chain L.gd).pos _ hk
      have zz := sz_le L.gd hk
      have w3 : -(2 ^ 64) < sz ns k := by omega
      have w4 : sz ns k < 2 ^ 64 := by omega
      exact ⟨_, rfl, y, _, dx, _, _, rfl, L3.at_, T.ly, T.nST, lay_st .., zp, dz, _, rfl, z1, szF_no l (by decide +kernel), _, rfl, zp, ns, k, _, rfl, L3.szs, sz_at hk, _, _, rfl, rfl, .inr ⟨w3, w4⟩, q H3 ((s1.trans s2).trans s3)⟩
end
end K26

set_option Elab.async false
set_option linter.all false
set_option maxRecDepth 100000
set_option maxHeartbeats 4000000
namespace K26
open PySem PySem.Spec PyProof.Rows L2 Gu Ex
def unpB (bs : List Blk) : List Blk := bs.filter fun b => !b.2.2
def lvK (cs : List Blk) : List (Key × V) := cs.map fun b => (Sum.inl b.1, V.int (b.2.1 : Nat))
theorem lvK_none {a : Int} : ∀ {cs : List Blk}, (∀ c ∈ cs, c.1 ≠ a) → valV (lvK cs) (Sum.inl a) = none
  | [], _ => rfl
  | c :: cs, h => by
    show valV ((Sum.inl c.1, V.int (c.2.1 : Nat)) :: lvK cs) (Sum.inl a) = none
    rw [valV_neg (fun e => h c List.mem_cons_self (Sum.inl.inj e))]
    exact lvK_none fun d hd => h d (List.mem_cons_of_mem _ hd)
theorem lvK_get : ∀ {cs : List Blk} {b : Blk}, cs.Pairwise (fun b c => b.1 < c.1) → b ∈ cs → valV (lvK cs) (Sum.inl b.1) = some (.int (b.2.1 : Nat))
  | c :: cs, b, hp, hb => by
    show valV ((Sum.inl c.1, V.int (c.2.1 : Nat)) :: lvK cs) (Sum.inl b.1) = _
    have hp2 := List.pairwise_cons.mp hp
    rcases List.mem_cons.mp hb with e | e
    · subst e
      exact valV_pos rfl
    · rw [valV_neg (fun z => by
        have h1 := hp2.1 b e
        have h2 : c.1 = b.1 := Sum.inl.inj z
        omega)]
      exact lvK_get hp2.2 e
theorem Wf.rise {ns : List Int} {n : Int} {bs : List Blk} (w : Wf ns n bs) (g : Good ns) : bs.Pairwise (fun b c => b.1 < c.1) := by
  refine List.pairwise_iff_getElem.mpr fun i j hi hj hij => ?_
  exact (w.lt g (List.getElem?_eq_getElem hi) (List.getElem?_eq_getElem hj) hij).2
/-- the cells of the unpinned blocks of level k or higher -/
def lseI (ns : List Int) (bs : List Blk) (k : Nat) : Int := (((unpB bs).filter fun b => decide (k ≤ b.2.1)).map fun b => sz ns b.2.1).sum
section
variable {P : Program} {w : World} {K : PySem.W.Frag} {mg : Str → Option Value} {base : Heap} {f : Addr} {fd : FuncData}
def spLevels (K : PySem.W.Frag) : Sp := fun vs H Q _ => ∃ (y zp bl dx : Addr) (ps : List Addr) (ns : List Int) (n : Int) (bs : List Blk), vs = [.ref y] ∧ Ly K H y zp bl dx ps ns n bs ∧ ∀ D H', H D = none → Same H H' → H' D = some (.dK (lvK (unpB bs))) → Q (.ref D) H'
theorem sc_unpinned_levels : FnScope ["self", "address", "level", "is_pinned"] ["self"] (defScope (inClass (top 31) 19)) := ⟨rfl, rfl, rfl, by decide +kernel, rfl, by decide +kernel, by decide +kernel⟩
theorem ok_levels (T : Tx K mg) (F : FnP K "unpinned_levels" "Layout.unpinned_levels" (inClass (top 31) 19) f fd) : FnOk P w K mg base CX0 1 f fd ["self"] (spLevels K) := by
  refine F.ok sc_unpinned_levels (fun vs H Q E h => ?_) (fun cdv A outer s H vs Q E hr h => ⟨_, PSs.nox (pss_one (ps_ret (pe_dc (own := [("address", 1), ("level", 2), ("is_pinned", 3)]) (g := gTup K 3 (gCons (gName 1) (gCons (gName 2) (gCons (gName 3) gNil)))) rfl sc_unpinned_levels.nd (pi_list (pe_fld (pv 0) rfl)) (blkOk_by (own := [("address", 1), ("level", 2), ("is_pinned", 3)]) (N := ["self", "address", "level", "is_pinned"]) (sc := defScope (inClass (top 31) 19)) (by decide +kernel)) (fun _ _ _ _ _ => pg_tup rfl (pgs_cons (pg_name (i := 1) sc_unpinned_levels.nd rfl (Or.inl rfl)) (pgs_cons (pg_name (i := 2) sc_unpinned_levels.nd rfl (Or.inl rfl)) (pgs_cons (pg_name (i := 3) sc_unpinned_levels.nd rfl (Or.inl rfl)) pgs_nil)))) (fun _ _ _ _ _ => (pts_one (pt_not (pt_val (pv 3))))) (fun _ _ _ _ _ => (pv 1)) (fun _ _ _ _ _ => (pv 2))))), ?_⟩)
  · obtain ⟨y, zp, bl, dx, ps, ns, n, bs, rfl, _⟩ := h
    rfl
  · obtain ⟨y, zp, bl, dx, ps, ns, n, bs, rfl, L, q⟩ := h
    have sl : sizeLine = 16777216 := sizeLine_eq
    have pl := L.rf.len
    have bn := L.ln
    refine ⟨_, rfl, y, _, dx, _, _, rfl, L.at_, T.ly, T.nBL, lay_bl .., bl, rfl, ⟨_, SqL.of L.lst⟩, fun D hD => ?_⟩
    refine dc_list (K := K) (a := bl) (xs := ps.map V.ref) (fun i G => G D = some (.dK (lvK ((bs.take i).filter fun b => !b.2.2))) ∧ Same H G) ⟨upd_same, same_upd hD⟩ (fun i G _ ⟨_, sm⟩ => SqL.of (sm _ _ L.lst)) ?_ ?_
    · rintro i x G hx ⟨hG, sm⟩
      obtain ⟨p, hp, rfl⟩ := ref_of hx
      obtain ⟨b, hb, hT⟩ := (L.rf.same sm).get hp
      have il : i < bs.length := (List.getElem?_eq_some_iff.mp hb).1
      have hT' : G p = some (.tup [.int b.1, .int (b.2.1 : Nat), .bl b.2.2]) := hT
      have fa := filter_at (fun b => !b.2.2) hb
      have fl := List.length_filter_le (fun b : Blk => !b.2.2) (bs.take i)
      rw [List.length_take] at fl
      refine ⟨p, _, rfl, .inl (.inl hT'), rfl, _, _, rfl, _, _, rfl, _, _, rfl, rfl, rfl, ?_⟩
      refine ⟨_, rfl, _, rfl, ?_⟩
      cases hq : b.2.2 with
      | true =>
        rw [hq] at fa
        refine iteF ⟨?_, sm⟩
        rw [fa]
        simpa using hG
      | false =>
        rw [hq] at fa
        have no : valV (lvK ((bs.take i).filter fun b => !b.2.2)) (Sum.inl b.1) = none := lvK_none fun c hc => by
          obtain ⟨j, hj, ej⟩ := mem_take_at (List.mem_filter.mp hc).1
          have := (L.wf.lt L.gd ej hb hj).2
          omega
        refine iteT ⟨_, rfl, _, rfl, _, Sum.inl b.1, rfl, hG, (by unfold lvK; rw [List.length_map]; omega), ?_, fun c o e => ?_⟩
        · rw [upd_same, putK_new _ no, fa]
          show _ = some (HO.dK (lvK (((bs.take i).filter fun b => !b.2.2) ++ [b])))
          unfold lvK
          rw [List.map_append]
          rfl
        · rw [upd_ne (ne_of_none e hD)]
          exact sm c o e
    · rintro G ⟨hG, sm⟩
      rw [List.length_map, pl, List.take_length] at hG
      exact q D G hD sm hG
def spLoose (K : PySem.W.Frag) : Sp := fun vs H Q _ => ∃ (y zp bl dx : Addr) (ps : List Addr) (ns : List Int) (n : Int) (bs : List Blk) (k : Nat), vs = [.ref y, .int k] ∧ Ly K H y zp bl dx ps ns n bs ∧ k < ns.length ∧ ∀ H', Same H H' → Q (.int (lseI ns bs k)) H'
theorem sc_unpinned_cells : FnScope ["self", "level", "levels", "address"] ["self", "level"] (defScope (inClass (top 31) 25)) := ⟨rfl, rfl, rfl, by decide +kernel, rfl, by decide +kernel, by decide +kernel⟩
theorem ok_loose (T : Tx K mg) (M_check_level : Mf P w K mg base 4 "Sizes" "check_level" ["self", "level"] (spCheckL K)) (M_unpinned_levels : Mf P w K mg base 1 "Layout" "unpinned_levels" ["self"] (spLevels K)) (M_size : Mf P w K mg base 5 "Sizes" "size" ["self", "level"] (spSize K))
    (F : FnP K "unpinned_cells" "Layout.unpinned_cells" (inClass (top 31) 25) f fd) : FnOk P w K mg base CX0 6 f fd ["self", "level"] (spLoose K) := by
  refine F.ok sc_unpinned_cells (fun vs H Q E h => ?_) (fun cdv A outer s H vs Q E hr h => ⟨_, PSs.nox (pss_cons (ps_expr (pmeth M_check_level hr (pe_fld (pv 0) rfl) (pa_cons (pv 1) pa_nil))) (pss_cons (ps_set (i := 2) sc_unpinned_cells.nd rfl (by first | exact Or.inl rfl | exact Or.inr rfl) (pmeth0 M_unpinned_levels hr (pv 0))) (pss_one (ps_ret (pe_callB (cr_sum rfl) (by rfl) T.n_sum (by decide +kernel) (pa_cons (pe_lock (pe_lc (own := [("address", 3)]) (g := gName 3) rfl sc_unpinned_cells.nd (pi_keys (pv 2)) (blkOk_by (own := [("address", 3)]) (N := ["self", "level", "levels", "address"]) (sc := defScope (inClass (top 31) 25)) (by decide +kernel)) (fun _ _ _ _ _ => pg_name (i := 3) sc_unpinned_cells.nd rfl (Or.inl rfl)) (fun _ _ _ _ _ => (pts_one (pt_cmpR op_ge (pe_dget (hu_of hr) (pv 2) (pv 3) (fun _ _ => rfl)) (pv 1) (nomark _)))) (fun _ _ _ _ _ => (pmethB K M_size hr (pfldB K (pv 0)) (pa_cons (pe_dget (hu_of hr) (pv 2) (pv 3) (fun _ _ => rfl)) pa_nil))))) pa_nil)))))), ?_⟩)
  · obtain ⟨y, zp, bl, dx, ps, ns, n, bs, k, rfl, _⟩ := h
    rfl
  · obtain ⟨y, zp, bl, dx, ps, ns, n, bs, k, rfl, L, hk, q⟩ := h
    have sl : sizeLine = 16777216 := sizeLine_eq
    have bn := L.ln
    obtain ⟨dz, l, z1, z2⟩ := id L.szs
    refine ⟨_, rfl, y, _, dx, _, _, rfl, L.at_, T.ly, T.nST, lay_st .., zp, dz, _, rfl, z1, szF_no l (by decide +kernel), _, rfl, zp, ns, k, rfl, L.szs, hk, ?_⟩
    refine ⟨_, rfl, y, dx, _, rfl, L.at_, lay_nm (by decide +kernel), y, zp, bl, dx, ps, ns, n, bs, rfl, L, fun d H1 hd s1 h1 => ?_⟩
    have pw : (unpB bs).Pairwise (fun b c => b.1 < c.1) := (L.wf.rise L.gd).sublist List.filter_sublist
    have ul : (unpB bs).length ≤ 1000 := Nat.le_trans (List.length_filter_le _ _) bn
    refine ⟨d, _, h1, trivial, fun od => ?_⟩
    refine ⟨_, rfl, d, od, rfl, .inl ⟨_, upd_same, fun D hD => ?_⟩⟩
    have nDd : D ≠ d := fun z => by
      rw [z, upd_same] at hD
      cases hD
    have hD1 : H1 D = none := by
      rw [upd_ne nDd] at hD
      exact hD
    have nDH : H D = none := s1.free hD1
    refine lc_it (walk_keys (kvs := lvK (unpB bs))) (fun i G => G D = some (.lst (((((unpB bs).take i).filter fun b => decide (k ≤ b.2.1)).map fun b => sz ns b.2.1).map V.int)) ∧ G d = some (.frz od (.dK (lvK (unpB bs)))) ∧ Same H G)
      ⟨upd_same, (by rw [upd_ne nDd.symm, upd_same]), fun c o e => by rw [upd_ne (ne_of_none e nDH), upd_ne (ne_of_none e hd)]; exact s1 c o e⟩ (fun i G _ hh => hh.2.1) ?_ ?_
    · rintro i x G G' hi ⟨hG, hfz, sm⟩ ⟨rfl, ky, v, hkv, rfl⟩
      have il : i < (unpB bs).length := by
        unfold lvK at hi
        rw [List.length_map] at hi
        exact hi
      obtain ⟨b, hb⟩ : ∃ b, (unpB bs)[i]? = some b := ⟨_, List.getElem?_eq_getElem il⟩
      have ek : ky = Sum.inl b.1 := by
        unfold lvK at hkv
        rw [List.getElem?_map, hb] at hkv
        exact (Prod.mk.inj (Option.some.inj hkv)).1.symm
      subst ek
      have bm := List.mem_of_getElem? hb
      have bk := (L.wf.ok b (List.mem_filter.mp bm).1).1
      have dg : DGet G' d (kV (Sum.inl b.1)) (some (.int (b.2.1 : Nat))) := .inl ⟨_, Sum.inl b.1, .inr ⟨od, hfz⟩, rfl, (lvK_get pw bm).symm⟩
      have LG := L.same sm
      obtain ⟨dz, l, z1, z2⟩ := id LG.szs
      have fa : ((unpB bs).take (i + 1)).filter (fun b => decide (k ≤ b.2.1)) = ((unpB bs).take i).filter (fun b => decide (k ≤ b.2.1)) ++ (if decide (k ≤ b.2.1) = true then [b] else []) := filter_at (fun b => decide (k ≤ b.2.1)) hb
      have fl := List.length_filter_le (fun b : Blk => decide (k ≤ b.2.1)) ((unpB bs).take i)
      rw [List.length_take] at fl
      refine ⟨rfl, _, rfl, _, rfl, d, _, rfl, dg, _, rfl, _, _, rfl, rfl, _, rfl, ?_⟩
      by_cases hc : k ≤ b.2.1
      · rw [if_pos (decide_eq_true hc)] at fa
        refine ifT (decide_eq_true (by omega)) ?_
        refine ⟨_, rfl, y, _, dx, _, _, rfl, LG.at_, T.ly, T.nST, lay_st .., zp, dz, _, rfl, z1, szF_no l (by decide +kernel), _, rfl, _, rfl, d, _, rfl, dg, zp, ns, b.2.1, _, rfl, LG.szs, sz_at bk, ?_⟩
        refine ⟨_, hG, (by rw [List.length_map, List.length_map]; omega), ?_, (by rw [upd_ne nDd.symm]; exact hfz), fun c o e => ?_⟩
        · rw [upd_same, fa, List.map_append, List.map_append]
          rfl
        · rw [upd_ne (ne_of_none e nDH)]
          exact sm c o e
      · rw [if_neg (fun z => hc (of_decide_eq_true z)), List.append_nil] at fa
        refine ifF (decide_eq_false (by omega)) ⟨?_, hfz, sm⟩
        rw [fa]
        exact hG
    · rintro G ⟨hG, hfz, sm⟩
      have e : (lvK (unpB bs)).length = (unpB bs).length := by
        unfold lvK
        rw [List.length_map]
      rw [e, List.take_length] at hG
      refine ⟨hfz, D, _, rfl, SqL.of (show (upd G d (.dK (lvK (unpB bs)))) D = _ by rw [upd_ne nDd]; exact hG), q _ fun c o ec => ?_⟩
      rw [upd_ne (ne_of_none ec hd)]
      exact sm c o ec
end
end K26

set_option Elab.async false
set_option linter.all false
set_option maxRecDepth 100000
set_option maxHeartbeats 4000000
namespace K26
open PySem PySem.Spec PyProof.Rows L2 Gu Ex
/-- a list of blocks at a -/
structure Bl (ns : List Int) (H : Hp) (a : Addr) (ps : List Addr) (bs : List Blk) : Prop where
  at_ : H a = some (.lst (ps.map V.ref))
  rf : Refs blkV H ps bs
  lv : ∀ b ∈ bs, b.2.1 < ns.length
  ln : bs.length ≤ 1000
theorem Bl.same {ns : List Int} {H H' : Hp} {a : Addr} {ps : List Addr} {bs : List Blk} (h : Bl ns H a ps bs) (s : Same H H') : Bl ns H' a ps bs := ⟨s _ _ h.at_, h.rf.same s, h.lv, h.ln⟩
def hitB (ns : List Int) (lo hi : Int) (b : Blk) : Bool := b.2.2 && (decide (b.1 < hi) && decide (lo < bEnd ns b))
def clearB (ns : List Int) (bs : List Blk) (lo hi : Int) : Bool := bs.all fun b => !hitB ns lo hi b
theorem all_at {bs : List Blk} {p : Blk → Bool} {i : Nat} {b : Blk} (h : bs[i]? = some b) (k : (bs.take i).all p = true) (hp : p b = true) : (bs.take (i + 1)).all p = true := by
  rw [take_at h, List.all_append, k]
  simp [hp]
theorem all_no {bs : List Blk} {p : Blk → Bool} {b : Blk} (h : b ∈ bs) (hp : p b = false) : bs.all p = false := by
  cases e : bs.all p with
  | false => rfl
  | true =>
    have := List.all_eq_true.mp e b h
    rw [hp] at this
    cases this
end K26

set_option Elab.async false
set_option linter.all false
set_option maxRecDepth 100000
set_option maxHeartbeats 4000000
namespace K26
open PySem PySem.Spec PyProof.Rows L2 Gu Ex
def offB (ns : List Int) (lo hi : Int) (b : Blk) : Bool := decide (hi ≤ b.1) || decide (bEnd ns b ≤ lo)
def spaceB (ns : List Int) (n : Int) (bs : List Blk) (k : Nat) (a : Int) : Bool := decide (sz ns k ∣ a) && (decide (a + sz ns k ≤ n) && bs.all (offB ns a (a + sz ns k)))
section
variable {P : Program} {w : World} {K : PySem.W.Frag} {mg : Str → Option Value} {base : Heap} {f : Addr} {fd : FuncData}
def spSpace : Sp := fun vs H Q _ => ∃ (s a : Addr) (ns : List Int) (n : Int) (ps : List Addr) (bs : List Blk) (k : Nat) (ad : Int), vs = [.ref s, .int n, .ref a, .int k, .int ad] ∧ H s = some (.lst (ns.map V.int)) ∧ Bl ns H a ps bs ∧ Good ns ∧ k < ns.length ∧ 0 ≤ ad ∧ ad ≤ 1000000 ∧ ∀ H', Same H H' → Q (.bl (spaceB ns n bs k ad)) H'
theorem sc__law_has_space : FnScope ["_law_sizes_here", "_law_length", "_law_blocks_here", "_law_level", "_law_address", "_law_end", "_law_one"] ["_law_sizes_here", "_law_length", "_law_blocks_here", "_law_level", "_law_address"] (defScope (top 37)) := ⟨rfl, rfl, rfl, by decide +kernel, rfl, by decide +kernel, by decide +kernel⟩
theorem ok_space (T : Tx K mg) (F : FnP K "_law_has_space" "_law_has_space" (top 37) f fd) : FnOk P w K mg base CX0 1 f fd ["_law_sizes_here", "_law_length", "_law_blocks_here", "_law_level", "_law_address"] spSpace := by
  refine F.ok sc__law_has_space (fun vs H Q E h => ?_) (fun cdv A outer s H vs Q E hr h => ⟨_, PSs.nox (pss_cons (ps_set (i := 5) sc__law_has_space.nd rfl (by first | exact Or.inl rfl | exact Or.inr rfl) (pe_op op_add (pv 4) (pe_ix ix_list (pv 0) (pv 3) (fun _ _ => rfl)))) (pss_cons (ps_if (PW.pt (pw_or (pt_cmpR op_ne (pe_op op_mod (pv 4) (pe_ix ix_list (pv 0) (pv 3) (fun _ _ => rfl))) pe_int (nomark _)) (pw_or1 (pt_cmpR op_gt (pv 5) (pv 1) (nomark _))))) (pss_one (ps_ret pe_bl)) pss_nil) (pss_one (ps_ret (pe_callB (cr_all rfl) (by rfl) T.n_all (by decide +kernel) (pa_cons (pe_lc (own := [("_law_one", 6)]) (g := gName 6) rfl sc__law_has_space.nd (pi_list (pv 2)) (blkOk_by (own := [("_law_one", 6)]) (N := ["_law_sizes_here", "_law_length", "_law_blocks_here", "_law_level", "_law_address", "_law_end", "_law_one"]) (sc := defScope (top 37)) (by decide +kernel)) (fun _ _ _ _ _ => pg_name (i := 6) sc__law_has_space.nd rfl (Or.inl rfl)) (fun _ _ _ _ _ => pts_nil) (fun _ _ _ _ _ => (pe_or (pe_cmpR op_ge (pe_ix (r := rIxT K) ix_tup (pv 6) pe_int (fun _ _ => rfl)) (pv 5) (nomark _)) (pe_one (pe_cmpR op_le (pe_op op_add (pe_ix (r := rIxT K) ix_tup (pv 6) pe_int (fun _ _ => rfl)) (pe_ix (r := rIxL K) ix_list (pv 0) (pe_ix (r := rIxT K) ix_tup (pv 6) pe_int (fun _ _ => rfl)) (fun _ _ => rfl))) (pv 4) (nomark _)))))) pa_nil)))))), ?_⟩)
  · obtain ⟨s, a, ns, n, ps, bs, k, ad, rfl, _⟩ := h
    rfl
  · obtain ⟨s, a, ns, n, ps, bs, k, ad, rfl, hs, B, g, hk, a0, a1, q⟩ := h
    have pl := B.rf.len
    have bn := B.ln
    have sl : sizeLine = 16777216 := sizeLine_eq
    have z1 := (chain g).pos k hk
    refine ⟨_, rfl, _, rfl, _, rfl, s, _, _, _, rfl, rfl, SqL.of hs, at_sz hk, _, _, rfl, rfl, ?_⟩
    refine ⟨_, rfl, _, rfl, _, rfl, s, _, _, _, rfl, rfl, SqL.of hs, at_sz hk, _, _, rfl, rfl, by omega, ?_⟩
    by_cases hd : ad % sz ns k = 0
    case neg =>
      refine ⟨rfl, _, rfl, ifT (by rw [vF hd]; rfl) ?_⟩
      have e : spaceB ns n bs k ad = false := by
        unfold spaceB
        rw [decide_eq_false (fun z => hd (Int.emod_eq_zero_of_dvd z))]
        rfl
      have q' := q H (fun _ _ e => e)
      rw [e] at q'
      exact q'
    refine ⟨rfl, _, rfl, ifF (by rw [vT hd]; rfl) ?_⟩
    refine ⟨_, rfl, _, rfl, _, _, rfl, rfl, _, rfl, ?_⟩
    by_cases hl : n < ad + sz ns k
    · refine ifT (decide_eq_true hl) ?_
      have e : spaceB ns n bs k ad = false := by
        unfold spaceB
        rw [decide_eq_false (show ¬ ad + sz ns k ≤ n by omega), Bool.false_and, Bool.and_false]
      have q' := q H (fun _ _ e => e)
      rw [e] at q'
      exact q'
    refine ifF (decide_eq_false hl) ?_
    have e : spaceB ns n bs k ad = bs.all (offB ns ad (ad + sz ns k)) := by
      unfold spaceB
      rw [decide_eq_true (show ad + sz ns k ≤ n by omega), decide_eq_true (Int.dvd_of_emod_eq_zero hd)]
      rfl
    rw [e] at q
    refine ⟨_, rfl, a, rfl, ⟨_, SqL.of B.at_⟩, fun D hD => ?_⟩
    refine lc_list (K := K) (a := a) (xs := ps.map V.ref) (fun i G => G D = some (.lst (((bs.take i).map (offB ns ad (ad + sz ns k))).map V.bl)) ∧ Same H G) ⟨upd_same, same_upd hD⟩ (fun i G _ ⟨_, sm⟩ => SqL.of (sm _ _ B.at_)) ?_ ?_
    · rintro i x G hx ⟨hG, sm⟩
      obtain ⟨p, hp, rfl⟩ := ref_of hx
      obtain ⟨b, hb, hT⟩ := (B.rf.same sm).get hp
      have hT' : G p = some (.tup [.int b.1, .int (b.2.1 : Nat), .bl b.2.2]) := hT
      have bk := B.lv b (List.mem_of_getElem? hb)
      have il : i < bs.length := (List.getElem?_eq_some_iff.mp hb).1
      have fin : ∀ v : Bool, v = offB ns ad (ad + sz ns k) b → ∃ xs, G D = some (.lst xs) ∧ xs.length < sizeLine ∧ (upd G D (.lst (xs ++ [.bl v]))) D = some (.lst (((bs.take (i + 1)).map (offB ns ad (ad + sz ns k))).map V.bl)) ∧ Same H (upd G D (.lst (xs ++ [.bl v]))) := by
        rintro v rfl
        refine ⟨_, hG, (by rw [List.length_map, List.length_map, List.length_take]; omega), ?_, fun c o e => ?_⟩
        · rw [upd_same, take_at hb, List.map_append, List.map_append]
          rfl
        · rw [upd_ne (ne_of_none e hD)]
          exact sm c o e
      refine ⟨rfl, _, rfl, p, _, _, _, rfl, rfl, .inl (.inl hT'), rfl, _, rfl, _, _, rfl, rfl, _, rfl, ?_⟩
      by_cases h1 : ad + sz ns k ≤ b.1
      · refine ifT (decide_eq_true h1) ?_
        exact fin true (by unfold offB; rw [decide_eq_true h1]; rfl)
      · refine ifF (decide_eq_false h1) ?_
        refine ⟨_, rfl, p, _, _, _, rfl, rfl, .inl (.inl hT'), rfl, _, rfl, _, rfl, p, _, _, _, rfl, rfl, .inl (.inl hT'), rfl, s, _, _, _, rfl, rfl, SqL.of (sm _ _ hs), at_sz bk, _, _, rfl, rfl, _, rfl, _, _, rfl, rfl, ?_⟩
        exact fin _ (by unfold offB; rw [decide_eq_false h1]; rfl)
    · rintro G ⟨hG, sm⟩
      rw [List.length_map, pl, List.take_length] at hG
      refine ⟨D, _, rfl, SqL.of hG, ?_⟩
      rw [List.all_map]
      exact q G sm
end
end K26

set_option Elab.async false
set_option linter.all false
set_option maxRecDepth 100000
set_option maxHeartbeats 4000000
namespace K26
open PySem PySem.Spec PyProof.Rows L2 Gu Ex
def clearAt (ns : List Int) (bs : List Blk) (k : Nat) (i : Nat) : Bool := clearB ns bs ((i : Int) * sz ns k) ((i : Int) * sz ns k + sz ns k)
def cntC (ns : List Int) (bs : List Blk) (k : Nat) (m : Nat) : Nat := ((List.range m).filter (clearAt ns bs k)).length
def dueI (ns : List Int) (n : Int) (bs : List Blk) (k : Nat) : Int := sz ns k * (cntC ns bs k (n / sz ns k).toNat : Nat)
theorem cntC_succ (ns : List Int) (bs : List Blk) (k m : Nat) : cntC ns bs k (m + 1) = cntC ns bs k m + (if clearAt ns bs k m = true then 1 else 0) := by
  unfold cntC
  rw [List.range_succ, List.filter_append, List.length_append]
  cases h : clearAt ns bs k m <;> simp [List.filter, h]
theorem cntC_le (ns : List Int) (bs : List Blk) (k m : Nat) : cntC ns bs k m ≤ m := by
  unfold cntC
  exact Nat.le_trans (List.length_filter_le _ _) (by simp)
end K26

set_option Elab.async false
set_option linter.all false
set_option maxRecDepth 100000
set_option maxHeartbeats 4000000
namespace K26
open PySem PySem.Spec PyProof.Rows L2 Gu Ex
theorem sz_lt {ns : List Int} (g : Good ns) {j : Nat} : ∀ {k : Nat}, j < k → k < ns.length → sz ns j < sz ns k
  | 0, h, _ => absurd h (Nat.not_lt_zero _)
  | k + 1, h, hk => by
    have u := (g.up k _ _ (sz_at (by omega)) (sz_at hk)).1
    by_cases e : j = k
    · rw [e]
      exact u
    · have := sz_lt g (j := j) (k := k) (by omega) (by omega)
      omega
end K26

set_option Elab.async false
set_option linter.all false
set_option maxRecDepth 100000
set_option maxHeartbeats 4000000
/-! enumerate over a tuple -/
namespace PySem
open Sem (wp)
open AutoSeq1 (wpAny_loadPart')
theorem meets_enumerate_newT (l : Addr) (items : Array Value) (n : Nat) (dct : Option Addr) (sl : Array (Option Value)) :
    Meets (Builtin.«enumerate.__new__» ⟨[.type "enumerate", .ref l], []⟩) (fun _ R s => s.heap.get? l = some { cls := .type "tuple", dict := dct, data := .seq items n, slots := sl } ∧
      R (.ok (.ret (.ref (s.heap.push { cls := .type "tuple_iterator", data := .fields #[.ref l, .int 0 0] }).objs.size)))
        { s with heap := (s.heap.push { cls := .type "tuple_iterator", data := .fields #[.ref l, .int 0 0] }).push { cls := .type "enumerate", data := .fields #[.none, .bool false, .ref s.heap.objs.size, rawInt 0, .none, .none] } }) :=
  .of_wp fun prog w A R s h => by
    obtain ⟨hp, g, d, tk, os⟩ := s; obtain ⟨hl, h⟩ := h
    have hsub := sub_enumerate
    have hL : Heap.IsTuple (Shared.heap ⟨hp, g, d, tk, os⟩) l items := ⟨_, hl, rfl, n, rfl⟩
    wp_walk using wpAny_loadPart' hl
    refine wpAny_stack_any fun st => wpAny_pure ?_
    split
    · rename_i c _ _ _ _ _
      cases (c == Value.type "enumerate")
      · wp_walk using wpAny_loadPart' hl, wpAny_pyIter_tuple hL
        exact ⟨_, rfl, h⟩
      · wp_walk using wpAny_loadPart' hl, wpAny_pyIter_tuple hL
        exact ⟨_, rfl, h⟩
    · wp_walk using wpAny_loadPart' hl, wpAny_pyIter_tuple hL
      exact ⟨_, rfl, h⟩
section
variable {prog : Program} {w : World} {A : Around} {E : Value → Shared → Prop} {s : Shared}
theorem call_enumerate_tuple {l : Addr} {items : Array Value} {Q : Value → Shared → Prop} (hL : s.heap.IsTuple l items)
    (h : ∀ h', IsEnum h' (s.heap.objs.size + 1) s.heap.objs.size 0 .none → h'.IsTupleIter s.heap.objs.size l 0 → h'.objs.size = s.heap.objs.size + 2 →
      (∀ b o, s.heap.get? b = some o → h'.get? b = some o) → Q (.ref (s.heap.objs.size + 1)) { s with heap := h' }) :
    wpAny (model prog w) A (call (.type "enumerate") [.ref l]) Q E s := by
  obtain ⟨⟨c, dct, dt, sl⟩, hl, hc, n, hd⟩ := hL
  replace hc : c = .type "tuple" := hc
  replace hd : dt = .seq items n := hd
  subst hc hd
  refine callType_new F.called_enumerate (by decide) (F.typeCall_enumerate_1 _) (F.newCall_enumerate_1 _) (fun obj => F.args_object_init_2 obj _) F.entry_enumerate_new
    (meets_enumerate_newT l items n dct sl) ⟨hl, ?_⟩
  have hz : (s.heap.push { cls := .type "tuple_iterator", data := .fields #[.ref l, .int 0 0] }).objs.size = s.heap.objs.size + 1 := Heap.size_push ..
  show _ ∧ _
  rw [hz]
  have he : IsEnum ((s.heap.push { cls := .type "tuple_iterator", data := .fields #[.ref l, .int 0 0] }).push
      { cls := .type "enumerate", data := .fields #[.none, .bool false, .ref s.heap.objs.size, rawInt 0, .none, .none] }) (s.heap.objs.size + 1) s.heap.objs.size 0 .none := by
    have := Heap.get?_push_size (s.heap.push { cls := .type "tuple_iterator", data := .fields #[.ref l, .int 0 0] })
      (o := { cls := .type "enumerate", data := .fields #[.none, .bool false, .ref s.heap.objs.size, rawInt 0, .none, .none] }) rfl
    rw [hz] at this; exact this
  refine ⟨⟨_, he, rfl⟩, h _ he ⟨_, Heap.get?_push_of_some _ (Heap.get?_push_size _ rfl), rfl, rfl⟩ (by rw [Heap.size_push, hz]) fun b o x => Heap.get?_push_of_some _ (Heap.get?_push_of_some _ x)⟩
end
theorem Draws.tuple {prog : Program} {w : World} {A : Around} (hh : A.handled = none) (it l : Addr) (hne : l ≠ it) (items : Array Value) :
    Draws prog w A it [it, l] items.size (fun i v => items[i]? = some v) (fun i h => h.IsTupleIter it l i ∧ h.IsTuple l items) where
  live := fun _ _ st => let ⟨o, ho, _⟩ := st.1; ⟨o, ho⟩
  frame := fun _ _ _ st hk => ⟨st.1.at fun o e => hk it (by simp) o e, st.2.at fun o e => hk l (by simp) o e⟩
  item := fun i s Q E hi st hQ => by
    unfold Builtin.SmallTypes.nextOf
    refine wpAny_bind (L2.special_tup_item st.1 st.2 (x := items[i]) (by simp [hi]) fun h' hit' hs' => ?_)
    exact wpAny_pure (hQ _ h' s.toks (by simp [hi]) ⟨hit', st.2.extBut hs'.extBut hne⟩ hs')
  done := fun s Q E st hE => by
    unfold Builtin.SmallTypes.nextOf
    refine wpAny_bind (L2.special_tup_end hh st.1 st.2 (by simp) fun e h' hx hk => ?_)
    obtain ⟨a, o, vs, rfl, ho, hc, _⟩ := hx
    exact hE h' a hk ⟨o, ho, hc⟩
theorem enum_endT {prog : Program} {w : World} {A : Around} {E : Value → Shared → Prop} {s : Shared} {e it l : Addr} {i : Nat} {items : Array Value} {old : Value} {Q : Option Value → Shared → Prop} (hh : A.handled = none)
    (he : IsEnum s.heap e it i old) (hit : s.heap.IsTupleIter it l i) (hl : s.heap.IsTuple l items) (hx : items[i]? = none)
    (hQ : ∀ h', Heap.ExtBut it s.heap h' → Q none { s with heap := h' }) : wpAny (model prog w) A (pyNext (.ref e)) Q E s := by
  have hT : s.TypeIs (.ref e) "enumerate" := ⟨_, he, rfl⟩
  unfold pyNext
  refine wpAny_bind (wpAny_attempt (wpAny_callSpecial?_slot (name := Str.ofString "__next__") hT F.slot_enumerate_next
    (wpAny_call_entry F.slot_enumerate_next hT F.entry_enumerate_next ?_ (F.args_enumerate_next_1 _))))
  show wpAny _ _ (field (.ref e) 2 >>= _) _ _ _
  refine wpAny_bind (wpAny_field he rfl (x := .ref it) rfl ?_)
  refine wpAny_bind ?_
  unfold Builtin.SmallTypes.nextOf
  refine wpAny_bind (L2.special_tup_end (A := A.in1) hh hit hl hx fun x h' hx' hk => ?_)
  obtain ⟨a, o, vs, rfl, ho, hc, _⟩ := hx'
  refine wpAny_bind (wpAny_isInstance (T := "StopIteration") (b := true) ⟨o, ho, hc⟩ isSubtype_stop ?_)
  exact wpAny_pure (hQ _ hk)
end PySem

set_option Elab.async false
set_option linter.all false
set_option maxRecDepth 100000
set_option maxHeartbeats 4000000
namespace L2
open PySem PySem.Spec PyProof.Rows
/-- the tuple at a, each item in a new pair -/
def IteT (K : PySem.W.Frag) (a : Addr) : It :=
  ⟨fun i H => ∃ (xs : List V) (x : V), SqT K H a xs ∧ xs[i]? = some x, fun i H v H' => ∃ T x, v = .ref T ∧ H T = none ∧ H' = upd H T (.tup [.int (i : Nat), x]) ∧ ∀ xs, SqT K H a xs → xs[i]? = some x, fun i H => ∃ xs : List V, SqT K H a xs ∧ xs.length ≤ i⟩
theorem turn_enumT {P : Program} {w : World} {K : PySem.W.Frag} {elts : List Expr} {kk : Nat} {tpos : Pos} (a e it : Addr) :
    Turn P w K (.Tuple elts kk tpos) (IteT K a) [e, it] e (fun i h => (∃ old, IsEnum h e it ((i : Nat) : Int) old) ∧ h.IsTupleIter it a i ∧ e ≠ it) where
  mem := by simp
  obj := fun i h st b hb => by
    obtain ⟨⟨old, he⟩, ⟨o, ho, hc, hd⟩, _⟩ := st
    have e' : b = e ∨ b = it := by simpa using hb
    rcases e' with z | z
    · rw [z]; exact ⟨_, he, fun v q => nomatch q⟩
    · rw [z]; exact ⟨o, ho, fun v q => by rw [hd] at q; cases q⟩
  keep := fun i h h' st k => let ⟨⟨old, he⟩, hi, hne⟩ := st; ⟨⟨old, k e (by simp) _ he⟩, hi.at fun o q => k it (by simp) o q, hne⟩
  item := by
    intro X hP hw hK hc i pins s σ H E I hf st hg
    subst hP hw hK
    obtain ⟨⟨old, he⟩, hit, hne⟩ := st
    obtain ⟨xs, x, hq, hx⟩ := hg
    obtain ⟨its, rv, p, hz⟩ := I.tuple hq
    obtain ⟨u, hu, ru⟩ := rv.get hx
    have hel : e < s.heap.objs.size := Heap.lt_size he
    have hil : it < s.heap.objs.size := by obtain ⟨_, q, _⟩ := hit; exact Heap.lt_size q
    have hT' : s.heap.IsTuple a its.toArray := p
    have nae : e ≠ a := fun z => by
      obtain ⟨o, ho, hc', _⟩ := hT'
      rw [← z] at ho
      have := Option.some.inj (he.symm.trans ho)
      rw [← this] at hc'
      exact absurd (Value.type.inj hc') (by decide)
    have nai : a ≠ it := fun z => by
      obtain ⟨o, ho, hc', _⟩ := hT'
      obtain ⟨o2, ho2, hc2, _⟩ := hit
      rw [z] at ho
      have := Option.some.inj (ho.symm.trans ho2)
      rw [this, hc2] at hc'
      exact absurd (Value.type.inj hc') (by decide)
    have D := Draws.tuple (prog := X.prog) (w := X.w) (A := X.A.in1) (I.ok.hd hc) it a nai its.toArray
    have hul : its.toArray[i]? = some u := by simpa using hu
    have hlt : i < its.toArray.size := (Array.getElem?_eq_some_iff.mp hul).1
    refine wpAny_pyNext_enum_itemD D he ⟨hit, hT'⟩ hlt hne (by simp [hne, nae]) fun y h' tk hy ho hst hT hsz hk => ?_
    have ey : y = u := Option.some.inj (hy.symm.trans hul)
    subst ey
    refine ⟨_, rfl, wpAny_letOwnedTupleGo_enum (s := { s with heap := h', toks := tk + 1 }) ho fun h'' he' sb => ?_⟩
    have hT2 : h''.get? s.heap.objs.size = some { cls := .type "tuple", data := .seq #[.int i tk, y] } := (sb.2 _ (Nat.ne_of_gt hel)).trans hT
    have new : ObjOk X.prog X.w (upd H s.heap.objs.size (.tup [.int (i : Nat), x])) h'' s.heap.objs.size (.tup [.int (i : Nat), x]) :=
      ⟨by show 2 ≤ sizeLine; decide, [.int i tk, y], .cons ⟨_, rfl⟩ (.cons ru .nil), ⟨_, hT2, rfl, _, rfl⟩⟩
    have I1 : Inv X pins σ (upd H s.heap.objs.size (.tup [.int (i : Nat), x])) { s with heap := h'', toks := tk + 1 } :=
      I.turnedNew (ch := [e, it]) (fun b ob hb q => (sb.2 b (fun z => hb (by simp [z]))).trans (hk b ob (fun z => hb (by simp [z])) (fun z => hb (by simp [z])) q)) hf (Nat.le_refl _) new
    refine ⟨.ref s.heap.objs.size, _, I1, rfl, ⟨_, x, rfl, I.hok.fresh (Nat.le_refl _), rfl, fun ys hy => by rw [I.tuple_inj hy hq]; exact hx⟩, ⟨⟨y, ?_⟩, hst.1.at fun o q => (sb.2 it (Ne.symm hne)).trans q, hne⟩, fun b hb => ?_⟩
    · have e1 : ((i + 1 : Nat) : Int) = (i : Int) + 1 := by omega
      rw [e1]; exact he'
    · have hb' : b < s.heap.objs.size := by
        have e' : b = e ∨ b = it := by simpa using hb
        rcases e' with z | z
        · rw [z]; exact hel
        · rw [z]; exact hil
      rw [upd_ne (Nat.ne_of_lt hb')]
      exact (hf b hb).1
  done := by
    intro X hP hw hK hc i pins s σ H E I hf st hg
    subst hP hw hK
    obtain ⟨⟨old, he⟩, hit, hne⟩ := st
    obtain ⟨xs, hq, hx⟩ := hg
    obtain ⟨its, rv, p, hz⟩ := I.tuple hq
    obtain ⟨f0, f1, f2, f3, f4, f5⟩ := hf it (by simp)
    have hl := rv.length
    have hT' : s.heap.IsTuple a its.toArray := p
    have nai : a ≠ it := fun z => by
      obtain ⟨o, ho, hc', _⟩ := hT'
      obtain ⟨o2, ho2, hc2, _⟩ := hit
      rw [z] at ho
      have := Option.some.inj (ho.symm.trans ho2)
      rw [this, hc2] at hc'
      exact absurd (Value.type.inj hc') (by decide)
    have hTn : its.toArray[i]? = none := by simp; omega
    exact enum_endT (I.ok.hd hc) he hit hT' hTn fun h' eb => ⟨rfl, I.turned (t' := s.toks) (fun b o hb q => eb b o hb q) f0 f1 f3 f4 f5⟩
  self := fun A i s Q E st h => let ⟨⟨_, he⟩, _⟩ := st; wpAny_pyIter_enum he h
def iEnumT (K : PySem.W.Frag) (ta : TA) : TI := fun σ H R => ta σ H fun vs H1 => ∃ a xs, vs = [.ref a] ∧ SqT K H1 a xs ∧ R (IteT K a) H1
theorem pi_enumT {X : Cx} {e : Expr} {ta : TA} {p pos tpos : Pos} {elts : List Expr} {kk : Nat} (hg : Gl X "enumerate") (hm : X.mg "enumerate" = none) (ha : PA X [e] ta) (hs : starEach [e] X.env = [(false, eval e X.env)] := by rfl) :
    PI X (.Tuple elts kk tpos) (.Call (.Name "enumerate" p) [e] [] pos) (iEnumT X.K ta) := by
  refine ⟨fun pins s σ H R I h => ?_⟩
  refine Call_ (ld_blt I hg hm boot_enumerate (PyProof.Rows.callWith_type1 (thn (ha.run pos pins s σ H _ I h) fun us s1 ⟨vs, H1, I1, r1, q1⟩ => ?_) hs rfl))
  obtain ⟨a, xs, ex, hq, q⟩ := q1
  subst ex
  cases r1 with
  | cons r rr =>
    cases rr
    cases r
    obtain ⟨its, rv, p', hz⟩ := I1.tuple hq
    refine call_enumerate_tuple (show s1.heap.IsTuple a its.toArray from p') fun h' he hit hsz hk => wpAny_pyIter_enum he ?_
    have I2 : Inv X pins σ H1 { s1 with heap := h' } := I1.kept (t' := s1.toks) hk
    refine ⟨s1.heap.objs.size + 1, [s1.heap.objs.size + 1, s1.heap.objs.size], _, _, H1, rfl, I2, turn_enumT a (s1.heap.objs.size + 1) s1.heap.objs.size, ⟨⟨.none, he⟩, hit, Nat.succ_ne_self _⟩, fun b hb => ?_, q⟩
    have e' : b = s1.heap.objs.size + 1 ∨ b = s1.heap.objs.size := by simpa using hb
    have hle : s1.heap.objs.size ≤ b := by
      rcases e' with z | z
      · rw [z]; exact Nat.le_add_right _ _
      · rw [z]; exact Nat.le_refl _
    exact I1.fpOk hle (I1.hok.fresh hle)
theorem walk_enumT {K : PySem.W.Frag} {a : Addr} {xs : List V} : Walk (IteT K a) xs.length (fun H => SqT K H a xs) (YPair (fun i => some (.int (i : Nat))) (fun i => xs[i]?)) := by
  refine ⟨fun i _ hi q => ⟨xs, xs[i], q, by simp [hi]⟩, fun _ q => ⟨xs, q, Nat.le_refl _⟩, fun i H v H' _ q y => ?_⟩
  obtain ⟨T, x, h1, h2, h3, h4⟩ := y
  exact ⟨T, .int (i : Nat), x, h1, h2, h3, rfl, h4 xs q⟩
/-- the one way or the other -/
def iOr (t1 t2 : TI) : TI := fun σ H R => t1 σ H R ∨ t2 σ H R
theorem pi_or {X : Cx} {tg e : Expr} {t1 t2 : TI} (h1 : PI X tg e t1) (h2 : PI X tg e t2) : PI X tg e (iOr t1 t2) := ⟨fun pins s σ H R I h => h.elim (h1.run pins s σ H R I) (h2.run pins s σ H R I)⟩
end L2

set_option Elab.async false
set_option linter.all false
set_option maxRecDepth 100000
set_option maxHeartbeats 4000000
namespace K26
open PySem PySem.Spec PyProof.Rows L2 Gu Ex
/-- a list or a tuple of whole numbers, also the default () -/
inductive Kept (K : PySem.W.Frag) (H : Hp) (a : Addr) (cs : List Int) : Prop
  | lst (h : H a = some (.lst (cs.map V.int)))
  | tup (h : H a = some (.tup (cs.map V.int)))
  | dft (o : Obj) (n : Nat) (e : cs = []) (h : K.lookup a = some o) (c : o.cls = .type "tuple") (d : o.data = .seq #[] n)
section
variable {K : PySem.W.Frag} {H H' : Hp} {a : Addr} {cs : List Int}
theorem sqT_same {xs : List V} (s : Same H H') (h : SqT K H a xs) : SqT K H' a xs := by
  rcases h with (h | ⟨o, h⟩) | h
  · exact .inl (.inl (s _ _ h))
  · exact .inl (.inr ⟨o, s _ _ h⟩)
  · exact .inr h
theorem Kept.same (h : Kept K H a cs) (s : Same H H') : Kept K H' a cs := by
  cases h with
  | lst h => exact .lst (s _ _ h)
  | tup h => exact .tup (s _ _ h)
  | dft o n e h c d => exact .dft o n e h c d
theorem Kept.seq (h : Kept K H a cs) : SqL K H a (cs.map V.int) ∧ TyX K H (.ref a) (.type "list") ∨ SqT K H a (cs.map V.int) ∧ TyX K H (.ref a) (.type "tuple") := by
  cases h with
  | lst h => exact .inl ⟨SqL.of h, .base (.lst h)⟩
  | tup h => exact .inr ⟨SqT.of h, .base (.tup h)⟩
  | dft o n e h c d =>
    subst e
    exact .inr ⟨.inr ⟨o, #[], n, h, c, d, Nat.zero_le _, .nil⟩, .kTuple h c⟩
end
section
variable {P : Program} {w : World} {K : PySem.W.Frag} {mg : Str → Option Value} {base : Heap} {f : Addr} {fd : FuncData}
def spNums (K : PySem.W.Frag) : Sp := fun vs H Q _ => ∃ (a : Addr) (cs : List Int), vs = [.ref a] ∧ Kept K H a cs ∧ (∀ c ∈ cs, 1 ≤ c ∧ c ≤ 1000000000000) ∧ ∀ H', Same H H' → Q .non H'
theorem sc_check_numbers : FnScope ["value", "position", "cells"] ["value"] (defScope (top 17)) := ⟨rfl, rfl, rfl, by decide +kernel, rfl, by decide +kernel, by decide +kernel⟩
theorem ok_nums (T : Tx K mg) (D_is_cells : Df P w K mg base 2 "is_cells" ["value"] spCells) (F : FnP K "check_numbers" "check_numbers" (top 17) f fd) : FnOk P w K mg base CX0 3 f fd ["value"] (spNums K) := by
  refine F.ok sc_check_numbers (fun vs H Q E h => ?_) (fun cdv A outer s H vs Q E hr h => ⟨_, PSs.nox (pss_cons (ps_if (pt_not (pt_val (pe_callB call_isiT (by rfl) T.n_isinstance (by decide +kernel) (pa_cons (pv 0) (pa_cons (pe_tup (pa_cons (pe_bltn (v := .ty "list") (by rfl) T.n_list (by decide +kernel) rfl) (pa_cons (pe_bltn (v := .ty "tuple") (by rfl) T.n_tuple (by decide +kernel) rfl) pa_nil))) pa_nil))))) (pss_one ps_never) pss_nil) (pss_one (ps_for PassesOwn.never rfl (pi_or (pi_enum rfl T.n_enumerate (pa_cons (pv 0) pa_nil)) (pi_enumT rfl T.n_enumerate (pa_cons (pv 0) pa_nil))) (pg_tup (by rfl) (pgs_cons (pg_name (i := 1) sc_check_numbers.nd rfl (by first | exact Or.inl rfl | exact Or.inr rfl)) (pgs_cons (pg_name (i := 2) sc_check_numbers.nd rfl (by first | exact Or.inl rfl | exact Or.inr rfl)) pgs_nil))) (pss_one (ps_if (pt_not (pt_val (pcall D_is_cells hr (pa_cons (pv 2) pa_nil)))) (pss_one ps_never) pss_nil))))), ?_⟩)
  · obtain ⟨a, cs, rfl, _⟩ := h
    rfl
  · obtain ⟨a, cs, rfl, kp, rg, q⟩ := h
    refine ⟨_, rfl, by show 2 ≤ sizeLine; decide, fun t ht => ?_⟩
    have sm0 : Same H (upd H t (.tup [.ty "list", .ty "tuple"])) := same_upd ht
    have kp0 := kp.same sm0
    have tt : (upd H t (.tup [.ty "list", .ty "tuple"])) t = some (.tup [.ty "list", .ty "tuple"]) := upd_same
    generalize upd H t (.tup [.ty "list", .ty "tuple"]) = H0 at sm0 kp0 tt
    have turn : ∀ (i : Nat) (x1 x2 : Option V) (G : Hp) (T' : Addr) (y2 : V), Same H G → G T' = none → (cs.map V.int)[i]? = some y2 → ∃ c : Int, y2 = .int c ∧ 1 ≤ c ∧ c ≤ 1000000000000 ∧ Same H (upd G T' (.tup [.int (i : Nat), y2])) := by
      intro i x1 x2 G T' y2 sm hT e2
      rw [List.getElem?_map] at e2
      cases e3 : cs[i]? with
      | none => rw [e3] at e2; cases e2
      | some c =>
        rw [e3] at e2
        have r := rg c (List.mem_of_getElem? e3)
        exact ⟨c, (Option.some.inj e2).symm, r.1, r.2, sm.trans (same_upd hT)⟩
    rcases kp0.seq with ⟨sq, ty⟩ | ⟨sq, ty⟩
    · refine ⟨_, t, _, _, [.type "list", .type "tuple"], true, rfl, tt, .cons (.ty "list") (.cons (.ty "tuple") .nil), ty, by rfl, _, rfl, iteF ?_⟩
      refine .inl ⟨_, rfl, a, _, rfl, sq, ?_⟩
      refine for_it (walk_enum (xs := cs.map V.int)) (fun i σ G => Same H0 G ∧ Same H G ∧ (∃ x y, σ = [some (.ref a), x, y])) ⟨Same.refl H0, sm0, none, none, rfl⟩ (fun i σ G _ hh => hh.1.seq sq) ?_ ?_
      · rintro i x σ G G2 hi ⟨s0, sm, ⟨x1, x2, rfl⟩⟩ ⟨T', y1, y2, rfl, hT, rfl, e1, e2⟩
        cases e1
        obtain ⟨c, rfl, c1, c2, sm2⟩ := turn i x1 x2 G T' y2 sm hT e2
        refine ⟨T', _, rfl, .inl (.inl upd_same), rfl, _, _, rfl, _, _, rfl, rfl, ?_⟩
        exact ⟨_, rfl, c, rfl, c1, c2, _, rfl, iteF ⟨s0.trans (same_upd hT), sm2, _, _, rfl⟩⟩
      · rintro σ G ⟨s0, sm, ⟨x1, x2, rfl⟩⟩
        exact q G sm
    · refine ⟨_, t, _, _, [.type "list", .type "tuple"], true, rfl, tt, .cons (.ty "list") (.cons (.ty "tuple") .nil), ty, by rfl, _, rfl, iteF ?_⟩
      refine .inr ⟨_, rfl, a, _, rfl, sq, ?_⟩
      refine for_it (walk_enumT (xs := cs.map V.int)) (fun i σ G => Same H0 G ∧ Same H G ∧ (∃ x y, σ = [some (.ref a), x, y])) ⟨Same.refl H0, sm0, none, none, rfl⟩ (fun i σ G _ hh => ?_) ?_ ?_
      · exact sqT_same hh.1 sq
      · rintro i x σ G G2 hi ⟨s0, sm, ⟨x1, x2, rfl⟩⟩ ⟨T', y1, y2, rfl, hT, rfl, e1, e2⟩
        cases e1
        obtain ⟨c, rfl, c1, c2, sm2⟩ := turn i x1 x2 G T' y2 sm hT e2
        refine ⟨T', _, rfl, .inl (.inl upd_same), rfl, _, _, rfl, _, _, rfl, rfl, ?_⟩
        exact ⟨_, rfl, c, rfl, c1, c2, _, rfl, iteF ⟨s0.trans (same_upd hT), sm2, _, _, rfl⟩⟩
      · rintro σ G ⟨s0, sm, ⟨x1, x2, rfl⟩⟩
        exact q G sm
end
end K26

set_option Elab.async false
set_option linter.all false
set_option maxRecDepth 100000
set_option maxHeartbeats 4000000
namespace Ex
open PySem PySem.Spec PySem.Calls PyProof.Rows L2 Gu
section
variable {X : Cx} {k j : Nat} {c m : Str} {ps : List Str} {dvs : List V} {sp : Sp} {pos apos : Pos} {e o : Expr} {es : List Expr} {t : TA} {ta : TE}
/-- a method called with its defaults -/
structure MfD (P : Program) (w : World) (K : PySem.W.Frag) (mg : Str → Option Value) (base : Heap) (k : Nat) (c m : Str) (ps : List Str) (dvs : List V) (sp : Sp) : Prop where
  ex : ∃ fd ds, FnOk P w K mg base CX0 k (He.ma K (He.ga K c) m) fd ps sp ∧ Vals dvs ds ∧ Binds K fd ps ds
  cl : Cls K (He.ga K c)
  me : Meth K (He.ga K c) m (He.ma K (He.ga K c) m)
theorem pmethD {pl : Sem Bool} (D : MfD X.prog X.w X.K X.mg X.base k c m ps dvs sp) (hr : Room j X.A) (he : PE X o ta) (ha : PA X (e :: es) t) (hj : k ≤ j := by decide)
    (hst : starEach (e :: es) X.env = (false, eval e X.env) :: starEach es X.env := by rfl) (hpl : (backTo pos (starEach es X.env)).any (·.1) = false := by rfl)
    (ht : eval (.Call (.Attribute o m apos) (e :: es) [] pos) X.env = (do
      let ov ← eval o X.env
      standAt apos.atName
      let (f, first) ← holding [ov] (getMethod ov m pl)
      callWith pos f first (backTo pos (starEach (e :: es) X.env)) (backToKw pos (keywordEach [] X.env))) := by rfl) :
    PE X (.Call (.Attribute o m apos) (e :: es) [] pos) (tMeth (He.ga X.K c) m sp dvs E0 ta t) := by
  obtain ⟨fd, ds, F, v, b⟩ := D.ex
  exact pe_meth he D.cl D.me F (hr.mono hj) b v pass0 ha hst hpl ht
end
end Ex
namespace K26
open PySem PySem.Spec PyProof.Rows L2 Gu Ex
def whlI (ns : List Int) (k : Nat) (cs : List Int) : List Int := cs.map fun c => c - c % sz ns k
def slkI (ns : List Int) (n : Int) (bs : List Blk) (k : Nat) (cs : List Int) : Int := clrI ns n bs k - lseI ns bs k - (whlI ns k cs).sum
section
variable {P : Program} {w : World} {K : PySem.W.Frag} {mg : Str → Option Value} {base : Heap} {f : Addr} {fd : FuncData}
def spSlack (K : PySem.W.Frag) : Sp := fun vs H Q _ => ∃ (y zp bl dx : Addr) (ps : List Addr) (ns : List Int) (n : Int) (bs : List Blk) (k : Nat) (a : Addr) (cs : List Int), vs = [.ref y, .int k, .ref a] ∧ Ly K H y zp bl dx ps ns n bs ∧ k < ns.length ∧ Kept K H a cs ∧ (∀ c ∈ cs, 1 ≤ c ∧ c ≤ 1000000000000) ∧ cs.length ≤ 1000 ∧ ∀ H', Same H H' → Q (.int (slkI ns n bs k cs)) H'
theorem sc_slack : FnScope ["self", "level", "kept", "cells", "number"] ["self", "level", "kept"] (defScope (inClass (top 31) 26)) := ⟨rfl, rfl, rfl, by decide +kernel, rfl, by decide +kernel, by decide +kernel⟩
theorem ok_slack {z0 : Addr} (T : Tx K mg) (M_clear_cells : Mf P w K mg base 9 "Layout" "clear_cells" ["self", "level"] (spClear K)) (M_unpinned_cells : Mf P w K mg base 6 "Layout" "unpinned_cells" ["self", "level"] (spLoose K)) (D_check_numbers : Df P w K mg base 3 "check_numbers" ["value"] (spNums K))
    (M_whole : Mf P w K mg base 6 "Sizes" "whole" ["self", "cells", "level"] (spWhole K)) (F : FnK K "slack" "Layout.slack" (inClass (top 31) 26) [("kept", .ref z0)] f fd) : FnOk P w K mg base CX0 10 f fd ["self", "level", "kept"] (spSlack K) := by
  refine F.ok sc_slack (fun vs H Q E h => ?_) (fun cdv A outer s H vs Q E hr h => ⟨_, PSs.nox (pss_cons (ps_set (i := 3) sc_slack.nd rfl (by first | exact Or.inl rfl | exact Or.inr rfl) (pe_op op_sub (pmeth M_clear_cells hr (pv 0) (pa_cons (pv 1) pa_nil)) (pmeth M_unpinned_cells hr (pv 0) (pa_cons (pv 1) pa_nil)))) (pss_cons (ps_expr (pcall D_check_numbers hr (pa_cons (pv 2) pa_nil))) (pss_one (ps_ret (pe_op op_sub (pv 3) (pe_callB (cr_sum rfl) (by rfl) T.n_sum (by decide +kernel) (pa_cons (pe_lc (own := [("number", 4)]) (g := gName 4) rfl sc_slack.nd (pi_or (pi_list (pv 2)) (pi_tup (pv 2))) (blkOk_by (own := [("number", 4)]) (N := ["self", "level", "kept", "cells", "number"]) (sc := defScope (inClass (top 31) 26)) (by decide +kernel)) (fun _ _ _ _ _ => pg_name (i := 4) sc_slack.nd rfl (Or.inl rfl)) (fun _ _ _ _ _ => pts_nil) (fun _ _ _ _ _ => (pmethB K M_whole hr (pfldB K (pv 0)) (pa_cons (pv 4) (pa_cons (pv 1) pa_nil))))) pa_nil))))))), ?_⟩)
  · obtain ⟨y, zp, bl, dx, ps, ns, n, bs, k, a, cs, rfl, _⟩ := h
    rfl
  · obtain ⟨y, zp, bl, dx, ps, ns, n, bs, k, a, cs, rfl, L, hk, kp, rg, cl, q⟩ := h
    have sl : sizeLine = 16777216 := sizeLine_eq
    refine ⟨_, rfl, y, dx, _, rfl, L.at_, lay_nm (by decide +kernel), _, rfl, y, zp, bl, dx, ps, ns, n, bs, k, rfl, L, hk, fun H1 s1 => ?_⟩
    have L1 := L.same s1
    refine ⟨_, rfl, y, dx, _, rfl, L1.at_, lay_nm (by decide +kernel), _, rfl, y, zp, bl, dx, ps, ns, n, bs, k, rfl, L1, hk, fun H2 s2 => ?_⟩
    refine ⟨_, _, rfl, rfl, ?_⟩
    have kp2 := kp.same (s1.trans s2)
    refine ⟨_, rfl, a, cs, rfl, kp2, rg, fun H3 s3 => ?_⟩
    have sH := (s1.trans s2).trans s3
    have kp3 := kp2.same s3
    refine ⟨_, rfl, ?_⟩
    have turn : ∀ (D : Addr) (hD : H3 D = none) (i : Nat) (x : V) (G : Hp), (cs.map V.int)[i]? = some x → (G D = some (.lst ((whlI ns k (cs.take i)).map V.int)) ∧ Same H3 G) → ∃ c, x = .int c ∧ 1 ≤ c ∧ c ≤ 1000000000000 ∧ ∃ acc, G D = some (.lst acc) ∧ acc.length < sizeLine ∧ (upd G D (.lst (acc ++ [.int (c - c % sz ns k)]))) D = some (.lst ((whlI ns k (cs.take (i + 1))).map V.int)) ∧ Same H3 (upd G D (.lst (acc ++ [.int (c - c % sz ns k)]))) := by
      rintro D hD i x G hx ⟨hG, sm⟩
      rw [List.getElem?_map] at hx
      cases e3 : cs[i]? with
      | none => rw [e3] at hx; cases hx
      | some c =>
        rw [e3] at hx
        have r := rg c (List.mem_of_getElem? e3)
        have il := (List.getElem?_eq_some_iff.mp e3).1
        refine ⟨c, (Option.some.inj hx).symm, r.1, r.2, _, hG, (by unfold whlI; rw [List.length_map, List.length_map, List.length_take]; omega), ?_, fun c o e => ?_⟩
        · rw [upd_same, take_at e3]
          unfold whlI
          rw [List.map_append, List.map_append]
          rfl
        · rw [upd_ne (ne_of_none e hD)]
          exact sm c o e
    have z1 := (chain L.gd).pos _ hk
    rcases kp3.seq with ⟨sq, _⟩ | ⟨sq, _⟩
    · refine .inl ⟨_, rfl, a, rfl, ⟨_, sq⟩, fun D hD => ?_⟩
      refine lc_list (K := K) (a := a) (xs := cs.map V.int) (fun i G => G D = some (.lst ((whlI ns k (cs.take i)).map V.int)) ∧ Same H3 G) ⟨upd_same, same_upd hD⟩ (fun i G _ ⟨_, sm⟩ => sm.seq sq) ?_ ?_
      · rintro i x G hx hh
        obtain ⟨c, rfl, c1, c2, fin⟩ := turn D hD i x G hx hh
        have LG := L.same (sH.trans hh.2)
        obtain ⟨dz, l, z3, z4⟩ := id LG.szs
        refine ⟨rfl, _, rfl, y, _, dx, _, _, rfl, LG.at_, T.ly, T.nST, lay_st .., zp, dz, _, rfl, z3, szF_no l (by decide +kernel), _, rfl, _, rfl, zp, ns, k, _, c, rfl, LG.szs, sz_at hk, z1, c1, c2, fin⟩
      · rintro G ⟨hG, sm⟩
        rw [List.length_map, List.take_length] at hG
        exact ⟨D, _, rfl, SqL.of hG, _, _, rfl, rfl, q G (sH.trans sm)⟩
    · refine .inr ⟨_, rfl, a, rfl, ⟨_, sq⟩, fun D hD => ?_⟩
      refine lc_tup (K := K) (a := a) (xs := cs.map V.int) (fun i G => G D = some (.lst ((whlI ns k (cs.take i)).map V.int)) ∧ Same H3 G) ⟨upd_same, same_upd hD⟩ (fun i G _ ⟨_, sm⟩ => sqT_same sm sq) ?_ ?_
      · rintro i x G hx hh
        obtain ⟨c, rfl, c1, c2, fin⟩ := turn D hD i x G hx hh
        have LG := L.same (sH.trans hh.2)
        obtain ⟨dz, l, z3, z4⟩ := id LG.szs
        refine ⟨rfl, _, rfl, y, _, dx, _, _, rfl, LG.at_, T.ly, T.nST, lay_st .., zp, dz, _, rfl, z3, szF_no l (by decide +kernel), _, rfl, _, rfl, zp, ns, k, _, c, rfl, LG.szs, sz_at hk, z1, c1, c2, fin⟩
      · rintro G ⟨hG, sm⟩
        rw [List.length_map, List.take_length] at hG
        exact ⟨D, _, rfl, SqL.of hG, _, _, rfl, rfl, q G (sH.trans sm)⟩
end
end K26

set_option Elab.async false
set_option linter.all false
set_option maxRecDepth 100000
set_option maxHeartbeats 4000000
namespace K26
open PySem PySem.Spec PyProof.Rows L2 Gu Ex
def cn (p : Nat → Bool) : Nat → Nat
  | 0 => 0
  | m + 1 => cn p m + (if p m = true then 1 else 0)
theorem cn_congr {p q : Nat → Bool} : ∀ {m : Nat}, (∀ i, i < m → p i = q i) → cn p m = cn q m
  | 0, _ => rfl
  | m + 1, h => by
    show cn p m + _ = cn q m + _
    rw [cn_congr (m := m) fun i hi => h i (by omega), h m (by omega)]
theorem cn_or {p q r : Nat → Bool} : ∀ {m : Nat}, (∀ i, i < m → p i = (q i || r i)) → (∀ i, i < m → q i = true → r i = false) → cn p m = cn q m + cn r m
  | 0, _, _ => rfl
  | m + 1, h, h2 => by
    show cn p m + _ = (cn q m + _) + (cn r m + _)
    rw [cn_or (m := m) (fun i hi => h i (by omega)) (fun i hi => h2 i (by omega)), h m (by omega)]
    have h3 := h2 m (by omega)
    cases e : q m with
    | true =>
      rw [h3 e]
      simp
      omega
    | false =>
      simp
      omega
theorem cn_le {p q : Nat → Bool} : ∀ {m : Nat}, (∀ i, i < m → p i = true → q i = true) → cn p m ≤ cn q m
  | 0, _ => Nat.le_refl _
  | m + 1, h => by
    show cn p m + _ ≤ cn q m + _
    have ih := cn_le (m := m) fun i hi => h i (by omega)
    have h3 := h m (by omega)
    cases e : p m with
    | true =>
      rw [h3 e]
      simp
      omega
    | false =>
      simp
      omega
theorem cn_zero {p : Nat → Bool} : ∀ {m : Nat}, (∀ i, i < m → p i = false) → cn p m = 0
  | 0, _ => rfl
  | m + 1, h => by
    show cn p m + _ = 0
    rw [cn_zero (m := m) fun i hi => h i (by omega), h m (by omega)]
    rfl
theorem cn_seg {A B : Int} (hA : 0 ≤ A) : ∀ m : Nat, ((cn (fun i => decide (A ≤ (i : Int)) && decide ((i : Int) < B)) m : Nat) : Int) = if min B (m : Int) - A > 0 then min B (m : Int) - A else 0
  | 0 => by
    show (0 : Int) = _
    rw [if_neg (by omega)]
  | m + 1 => by
    show ((cn _ m + _ : Nat) : Int) = _
    rw [Int.natCast_add, cn_seg hA m]
    by_cases h1 : A ≤ (m : Int)
    · by_cases h2 : (m : Int) < B
      · rw [if_pos (show (decide (A ≤ (m : Int)) && decide ((m : Int) < B)) = true by rw [decide_eq_true h1, decide_eq_true h2]; rfl)]
        split <;> split <;> omega
      · rw [if_neg (show ¬ (decide (A ≤ (m : Int)) && decide ((m : Int) < B)) = true by rw [decide_eq_false h2, Bool.and_false]; exact Bool.false_ne_true)]
        split <;> split <;> omega
    · rw [if_neg (show ¬ (decide (A ≤ (m : Int)) && decide ((m : Int) < B)) = true by rw [decide_eq_false h1, Bool.false_and]; exact Bool.false_ne_true)]
      split <;> split <;> omega
theorem up_iff {s b i : Int} (hs : 1 ≤ s) : M15.C s b ≤ i ↔ b ≤ i * s := by
  unfold M15.C
  have h : (b + s - 1) / s < i + 1 ↔ b + s - 1 < (i + 1) * s := Int.ediv_lt_iff_lt_mul (by omega)
  rw [Int.add_mul, Int.one_mul] at h
  omega
theorem dn_iff {s e i : Int} (hs : 1 ≤ s) : i < e / s ↔ i * s + s ≤ e := by
  have h : i + 1 ≤ e / s ↔ (i + 1) * s ≤ e := Int.le_ediv_iff_mul_le (by omega)
  rw [Int.add_mul, Int.one_mul] at h
  omega
def inG (s lo hi : Int) (i : Nat) : Bool := decide (lo ≤ (i : Int) * s) && decide ((i : Int) * s + s ≤ hi)
theorem cntI_is {s a b : Int} (hs : 1 ≤ s) : cntI s a b = M15.cntM s a b := by
  unfold cntI M15.cntM nextI
  rw [M15.quot_is hs]
theorem inG_cn {s lo hi : Int} {m : Nat} (hs : 1 ≤ s) (h0 : 0 ≤ lo) (hm : hi / s ≤ (m : Int)) : ((cn (inG s lo hi) m : Nat) : Int) = cntI s lo hi := by
  have e : cn (inG s lo hi) m = cn (fun i => decide (M15.C s lo ≤ (i : Int)) && decide ((i : Int) < hi / s)) m := cn_congr fun i _ => by
    unfold inG
    rw [decide_eq_decide.mpr (up_iff (b := lo) (i := (i : Int)) hs), decide_eq_decide.mpr (dn_iff (e := hi) (i := (i : Int)) hs)]
  have c0 : 0 ≤ M15.C s lo := by
    unfold M15.C
    exact Int.ediv_nonneg (by omega) (by omega)
  rw [e, cn_seg c0, cntI_is hs, show min (hi / s) (m : Int) = hi / s by omega]
  rfl
def Ord (n : Int) : Int → List (Int × Int) → Prop
  | low, [] => low ≤ n
  | low, r :: rs => low ≤ r.1 ∧ r.1 ≤ r.2 ∧ Ord n r.2 rs
theorem Ord.le {n : Int} : ∀ {rs : List (Int × Int)} {low : Int}, Ord n low rs → low ≤ n ∧ ∀ r ∈ rs, low ≤ r.1
  | [], low, h => ⟨h, fun _ m => nomatch m⟩
  | r :: rs, low, ⟨h1, h2, h3⟩ => by
    obtain ⟨i1, i2⟩ := Ord.le h3
    refine ⟨by omega, fun x hx => ?_⟩
    rcases List.mem_cons.mp hx with e | e
    · rw [e]; exact h1
    · have := i2 x e
      omega
def offR (s : Int) (i : Nat) (r : Int × Int) : Bool := decide ((i : Int) * s + s ≤ r.1) || decide (r.2 ≤ (i : Int) * s)
theorem gaps_cn {n s : Int} {m : Nat} (hs : 1 ≤ s) (hm : n / s ≤ (m : Int)) : ∀ {rs : List (Int × Int)} {low : Int}, 0 ≤ low → Ord n low rs → ((gapsI n low rs).map fun g => cntI s g.1 g.2).sum = ((cn (fun i => inG s low n i && rs.all (offR s i)) m : Nat) : Int)
  | [], low, h0, ho => by
    have e : cn (fun i => inG s low n i && ([] : List (Int × Int)).all (offR s i)) m = cn (inG s low n) m := cn_congr fun i _ => by simp
    rw [e]
    show ((if low < n then [(low, n)] else []).map fun g => cntI s g.1 g.2).sum = _
    by_cases hc : low < n
    · rw [if_pos hc, inG_cn hs h0 hm]
      simp
    · rw [if_neg hc, cn_zero fun i _ => ?_]
      · rfl
      · unfold inG
        by_cases h1 : low ≤ (i : Int) * s
        · rw [decide_eq_false (show ¬ (i : Int) * s + s ≤ n by have : low ≤ n := ho; omega), Bool.and_false]
        · rw [decide_eq_false h1, Bool.false_and]
  | r :: rs, low, h0, ⟨h1, h2, h3⟩ => by
    obtain ⟨o1, o2⟩ := Ord.le h3
    have ih := gaps_cn hs hm (rs := rs) (low := r.2) (by omega) h3
    have dv : r.1 / s ≤ (m : Int) := Int.le_trans (Int.ediv_le_ediv (by omega) (by omega)) hm
    have spl : cn (fun i => inG s low n i && (r :: rs).all (offR s i)) m = cn (inG s low r.1) m + cn (fun i => inG s r.2 n i && rs.all (offR s i)) m := by
      refine cn_or (fun i _ => ?_) (fun i _ hq => ?_)
      · by_cases ha : (i : Int) * s + s ≤ r.1
        · have al : rs.all (offR s i) = true := List.all_eq_true.mpr fun x hx => by
            have := o2 x hx
            unfold offR
            rw [decide_eq_true (show (i : Int) * s + s ≤ x.1 by omega)]
            rfl
          rw [List.all_cons, al]
          unfold inG offR
          rw [decide_eq_true ha, decide_eq_true (show (i : Int) * s + s ≤ n by omega), decide_eq_false (show ¬ r.2 ≤ (i : Int) * s by omega)]
          simp
        · rw [List.all_cons]
          unfold inG offR
          rw [decide_eq_false ha]
          by_cases hb : r.2 ≤ (i : Int) * s
          · rw [decide_eq_true hb, decide_eq_true (show low ≤ (i : Int) * s by omega)]
            simp
          · rw [decide_eq_false hb]
            simp
      · unfold inG at hq ⊢
        have : (i : Int) * s + s ≤ r.1 := by
          have := (Bool.and_eq_true _ _ ▸ hq : _ ∧ _).2
          exact of_decide_eq_true this
        rw [decide_eq_false (show ¬ r.2 ≤ (i : Int) * s by omega)]
        simp
    rw [spl, Int.natCast_add, inG_cn hs h0 dv, ← ih]
    show (((if low < r.1 then [(low, r.1)] else []) ++ gapsI n r.2 rs).map fun g => cntI s g.1 g.2).sum = _
    rw [List.map_append, List.sum_append_int]
    by_cases hc : low < r.1
    · rw [if_pos hc]
      simp
    · rw [if_neg hc]
      have z : cntI s low r.1 = 0 := by
        rw [← inG_cn (m := m) hs h0 dv, cn_zero fun i _ => ?_]
        · rfl
        · unfold inG
          by_cases h4 : low ≤ (i : Int) * s
          · rw [decide_eq_false (show ¬ (i : Int) * s + s ≤ r.1 by omega), Bool.and_false]
          · rw [decide_eq_false h4, Bool.false_and]
      rw [z]
      rfl
end K26

set_option Elab.async false
set_option linter.all false
set_option maxRecDepth 100000
set_option maxHeartbeats 4000000
namespace K26
open PySem PySem.Spec PyProof.Rows L2 Gu Ex
theorem cntC_cn (ns : List Int) (bs : List Blk) (k : Nat) : ∀ m, cntC ns bs k m = cn (clearAt ns bs k) m
  | 0 => rfl
  | m + 1 => by
    rw [cntC_succ, cntC_cn ns bs k m]
    rfl
theorem ord_pin {ns : List Int} {n : Int} : ∀ {bs : List Blk} {low : Int}, (∀ b ∈ bs, low ≤ b.1 ∧ b.1 ≤ bEnd ns b ∧ bEnd ns b ≤ n) → bs.Pairwise (fun b c => bEnd ns b ≤ c.1) → low ≤ n → Ord n low (pinR ns bs)
  | [], low, _, _, h => h
  | b :: bs, low, h1, h2, h3 => by
    have p := List.pairwise_cons.mp h2
    have hb := h1 b List.mem_cons_self
    have rest := fun lo (hl : ∀ c ∈ bs, lo ≤ c.1) (hn : lo ≤ n) => ord_pin (ns := ns) (n := n) (bs := bs) (low := lo) (fun c hc => ⟨hl c hc, (h1 c (List.mem_cons_of_mem _ hc)).2⟩) p.2 hn
    unfold pinR
    cases e : b.2.2 with
    | true =>
      rw [List.filter_cons_of_pos (p := fun b : Blk => b.2.2) (a := b) e, List.map_cons]
      exact ⟨hb.1, hb.2.1, rest _ (fun c hc => p.1 c hc) hb.2.2⟩
    | false =>
      rw [List.filter_cons_of_neg (p := fun b : Blk => b.2.2) (a := b) (by rw [e]; exact Bool.false_ne_true)]
      exact rest _ (fun c hc => (h1 c (List.mem_cons_of_mem _ hc)).1) h3
theorem clear_pin {ns : List Int} {s : Int} {i : Nat} : ∀ bs : List Blk, clearB ns bs ((i : Int) * s) ((i : Int) * s + s) = (pinR ns bs).all (offR s i)
  | [] => rfl
  | b :: bs => by
    have ih := clear_pin (ns := ns) (s := s) (i := i) bs
    unfold clearB at ih ⊢
    unfold pinR at ih ⊢
    rw [List.all_cons, ih]
    cases e : b.2.2 with
    | true =>
      rw [List.filter_cons_of_pos (p := fun b : Blk => b.2.2) (a := b) e, List.map_cons, List.all_cons]
      congr 1
      unfold hitB offR rngB
      rw [e]
      by_cases h1 : b.1 < (i : Int) * s + s
      · by_cases h2 : (i : Int) * s < bEnd ns b
        · rw [decide_eq_true h1, decide_eq_true h2, decide_eq_false (show ¬ (i : Int) * s + s ≤ b.1 by omega), decide_eq_false (show ¬ bEnd ns b ≤ (i : Int) * s by omega)]
          rfl
        · rw [decide_eq_true h1, decide_eq_false h2, decide_eq_true (show bEnd ns b ≤ (i : Int) * s by omega), Bool.or_true]
          rfl
      · rw [decide_eq_false h1, decide_eq_true (show (i : Int) * s + s ≤ b.1 by omega)]
        rfl
    | false =>
      rw [List.filter_cons_of_neg (by rw [e]; exact Bool.false_ne_true)]
      unfold hitB
      rw [e]
      simp
section
variable {ns : List Int} {n : Int} {bs : List Blk} {k : Nat}
theorem clr_due (w : Wf ns n bs) (g : Good ns) (hk : k < ns.length) (n1 : 0 ≤ n) : clrI ns n bs k = dueI ns n bs k := by
  have hs := (chain g).pos k hk
  have q0 : 0 ≤ n / sz ns k := Int.ediv_nonneg n1 (by omega)
  have hm : n / sz ns k ≤ (((n / sz ns k).toNat : Nat) : Int) := by omega
  have od : Ord n 0 (pinR ns bs) := ord_pin (fun b hb => ⟨(w.ok b hb).2.1, (by
    have := w.pos g hb
    unfold bEnd
    omega), (w.ok b hb).2.2.2⟩) w.so n1
  unfold clrI regI dueI
  rw [gaps_cn hs hm (Int.le_refl _) od, Int.mul_comm, cntC_cn]
  congr 2
  refine cn_congr fun i hi => ?_
  unfold clearAt
  rw [clear_pin bs]
  have h1 : (i : Int) * sz ns k + sz ns k ≤ n := (dn_iff hs).mp (by omega)
  have h2 : 0 ≤ (i : Int) * sz ns k := Int.mul_nonneg (by omega) (by omega)
  unfold inG
  rw [decide_eq_true h1, decide_eq_true h2]
  rfl
def inB (ns : List Int) (k i : Nat) (b : Blk) : Bool := (!b.2.2 && decide (k ≤ b.2.1)) && inG (sz ns k) b.1 (bEnd ns b) i
theorem one_cn {b : Blk} {m : Nat} (g : Good ns) (hk : k ≤ b.2.1) (hb : b.2.1 < ns.length) (h0 : 0 ≤ b.1) (hd : sz ns b.2.1 ∣ b.1) (hm : bEnd ns b / sz ns k ≤ (m : Int)) : sz ns k * ((cn (inG (sz ns k) b.1 (bEnd ns b)) m : Nat) : Int) = sz ns b.2.1 := by
  have hs := (chain g).pos k (by omega)
  have hz := (chain g).pos b.2.1 hb
  have dz := (chain g).dvd hk hb
  obtain ⟨q, hq⟩ := Int.dvd_trans dz hd
  obtain ⟨t, ht⟩ := dz
  have eC : M15.C (sz ns k) b.1 = q := by
    have := M15.C_of (s := sz ns k) (x := b.1) (q := q) (r := 0) hs (by omega) (by omega) (by omega)
    rw [this, if_pos rfl]
  have eE : bEnd ns b / sz ns k = q + t := M15.div_is (r := 0) (by unfold bEnd; rw [hq, ht, Int.mul_add]; omega) (by omega) (by omega)
  have t1 : 0 < t := by
    rcases Int.lt_or_le 0 t with h | h
    · exact h
    · have := Int.mul_le_mul_of_nonneg_left h (show 0 ≤ sz ns k by omega)
      rw [Int.mul_zero] at this
      omega
  rw [inG_cn hs h0 hm, cntI_is hs]
  unfold M15.cntM
  rw [eC, eE, show q + t - q = t by omega, if_pos t1, ht]
theorem lse_cn {m : Nat} (g : Good ns) (hk : k < ns.length) (hm : n / sz ns k ≤ (m : Int)) : ∀ {bs : List Blk}, (∀ b ∈ bs, b.2.1 < ns.length ∧ 0 ≤ b.1 ∧ sz ns b.2.1 ∣ b.1 ∧ bEnd ns b ≤ n) → bs.Pairwise (fun b c => bEnd ns b ≤ c.1) → lseI ns bs k = sz ns k * ((cn (fun i => bs.any (inB ns k i)) m : Nat) : Int)
  | [], _, _ => by
    rw [cn_zero (p := fun i => ([] : List Blk).any (inB ns k i)) fun i _ => rfl]
    simp [lseI, unpB]
  | b :: bs, h, hp => by
    have hs := (chain g).pos k hk
    have p := List.pairwise_cons.mp hp
    have hb := h b List.mem_cons_self
    have ih := lse_cn g hk hm (bs := bs) (fun c hc => h c (List.mem_cons_of_mem _ hc)) p.2
    have spl : cn (fun i => (b :: bs).any (inB ns k i)) m = cn (fun i => inB ns k i b) m + cn (fun i => bs.any (inB ns k i)) m := by
      refine cn_or (fun i _ => List.any_cons) (fun i _ hq => ?_)
      have h1 : (i : Int) * sz ns k + sz ns k ≤ bEnd ns b := by
        unfold inB inG at hq
        simp at hq
        exact hq.2.2
      cases e : bs.any (inB ns k i) with
      | false => rfl
      | true =>
        obtain ⟨c, hc, hi⟩ := List.any_eq_true.mp e
        have := p.1 c hc
        unfold inB inG at hi
        simp at hi
        have h2 : c.1 ≤ (i : Int) * sz ns k := hi.2.1
        omega
    rw [spl, Int.natCast_add, Int.mul_add, ← ih]
    by_cases hc : b.2.2 = false ∧ k ≤ b.2.1
    · have e1 : cn (fun i => inB ns k i b) m = cn (inG (sz ns k) b.1 (bEnd ns b)) m := cn_congr fun i _ => by
        unfold inB
        rw [hc.1, decide_eq_true hc.2]
        rfl
      have dv : bEnd ns b / sz ns k ≤ (m : Int) := Int.le_trans (Int.ediv_le_ediv (by omega) hb.2.2.2) hm
      rw [e1, one_cn g hc.2 hb.1 hb.2.1 hb.2.2.1 dv]
      unfold lseI unpB
      rw [List.filter_cons_of_pos (by rw [hc.1]; rfl), List.filter_cons_of_pos (p := fun b : Blk => decide (k ≤ b.2.1)) (a := b) (decide_eq_true hc.2), List.map_cons, List.sum_cons]
    · have e1 : cn (fun i => inB ns k i b) m = 0 := cn_zero fun i _ => by
        unfold inB
        cases e : b.2.2 with
        | true => rfl
        | false =>
          rw [decide_eq_false (fun z => hc ⟨e, z⟩)]
          rfl
      rw [e1]
      unfold lseI unpB
      cases e : b.2.2 with
      | true =>
        rw [List.filter_cons_of_neg (by rw [e]; exact Bool.false_ne_true)]
        simp
      | false =>
        rw [List.filter_cons_of_pos (by rw [e]; rfl), List.filter_cons_of_neg (by rw [decide_eq_false (fun z => hc ⟨e, z⟩)]; exact Bool.false_ne_true)]
        simp
theorem lse_le (w : Wf ns n bs) (g : Good ns) (hk : k < ns.length) (n1 : 0 ≤ n) : lseI ns bs k ≤ dueI ns n bs k ∧ (dueI ns n bs k - lseI ns bs k) % sz ns k = 0 := by
  have hs := (chain g).pos k hk
  have q0 : 0 ≤ n / sz ns k := Int.ediv_nonneg n1 (by omega)
  have hm : n / sz ns k ≤ (((n / sz ns k).toNat : Nat) : Int) := by omega
  rw [lse_cn g hk hm w.ok w.so]
  unfold dueI
  rw [cntC_cn]
  refine ⟨?_, ?_⟩
  · refine Int.mul_le_mul_of_nonneg_left (Int.ofNat_le.mpr (cn_le fun i _ hq => ?_)) (by omega)
    obtain ⟨b, hb, hi⟩ := List.any_eq_true.mp hq
    unfold inB inG at hi
    simp at hi
    obtain ⟨⟨hu, _⟩, hi1, hi2⟩ := hi
    unfold clearAt clearB
    refine List.all_eq_true.mpr fun c hc => ?_
    unfold hitB
    cases ec : c.2.2 with
    | false => rfl
    | true =>
      obtain ⟨x, hx, ex⟩ := List.mem_iff_getElem.mp hb
      obtain ⟨y, hy, ey⟩ := List.mem_iff_getElem.mp hc
      have ne : x ≠ y := fun z => by
        subst z
        rw [ex] at ey
        rw [← ey, hu] at ec
        cases ec
      have pw := List.pairwise_iff_getElem.mp w.so
      rcases Nat.lt_or_gt_of_ne ne with hlt | hlt
      · have := pw x y hx hy hlt
        rw [ex, ey] at this
        rw [decide_eq_false (show ¬ c.1 < (i : Int) * sz ns k + sz ns k by omega)]
        rfl
      · have := pw y x hy hx hlt
        rw [ex, ey] at this
        rw [decide_eq_false (show ¬ (i : Int) * sz ns k < bEnd ns c by omega), Bool.and_false]
        rfl
  · rw [← Int.mul_sub]
    exact Int.mul_emod_right _ _
end
end K26

set_option Elab.async false
set_option linter.all false
set_option maxRecDepth 100000
set_option maxHeartbeats 4000000
/-! sorted of tuples (int, int, bool) with distinct first parts -/
namespace SrtO
open PySem PyProof.Rows Srt
section
variable {prog : Program} {w : World} {A : Around} {E : Value → Shared → Prop} {s : Shared}
def IsTrip (h : Heap) (v : Value) (x : Int) : Prop := ∃ a o t y u b n, v = .ref a ∧ h.get? a = some o ∧ o.cls = .type "tuple" ∧ o.data = .seq #[.int x t, .int y u, .bool b] n
theorem IsTrip.keeps {h h' : Heap} {v : Value} {x : Int} (p : IsTrip h v x) (k : ∀ b o, h.get? b = some o → o.cls = .type "tuple" → h'.get? b = some o) : IsTrip h' v x := by
  obtain ⟨a, o, t, y, u, b, n, e, ho, hc, hd⟩ := p
  exact ⟨a, o, t, y, u, b, n, e, k _ _ ho hc, hc, hd⟩
abbrev ltI (k : Value → Int) (v u : Value) : Bool := decide (k v < k u)
theorem swo_int {α : Type} (k : α → Int) : Swo (fun v u => decide (k v < k u)) := by
  refine ⟨fun x y h => ?_, fun x y z h1 h2 => ?_⟩
  · have a := of_decide_eq_true h
    exact decide_eq_false (by omega)
  · have a := of_decide_eq_false h1
    have b := of_decide_eq_false h2
    exact decide_eq_false (by omega)
theorem trip_cmp {vs : List Value} {k : Value → Int} (hp : ∀ v ∈ vs, IsTrip s.heap v (k v)) (hd : ∀ v ∈ vs, ∀ u ∈ vs, k v = k u → v = u) : Cmp prog w A s (tuples' true) (fun p => p.1 ∈ vs) (lt2 (ltI k)) := by
  intro p q hm hm'
  show wpAny (model prog w) A (keyLt' (tuples' true) p.1 q.1) (fun r s' => s' = s ∧ r = decide (k p.1 < k q.1)) (fun _ _ => False) s
  have h1 := hp _ hm
  have h2 := hp _ hm'
  by_cases ek : k p.1 = k q.1
  · have ev := hd _ hm _ hm' ek
    rw [← ev]
    rw [decide_eq_false (Int.lt_irrefl _)]
    generalize k p.1 = x at h1
    obtain ⟨a, o, t, y, u, b, n, e, ho, hc, hdd⟩ := h1
    rw [e]
    refine PySem.W.kat_lt ho hdd ho hdd ?_
    show PySem.W.KatLex prog w A true (decide (3 < 3)) _ [(.int x t, .int x t), (.int y u, .int y u), (.bool b, .bool b)] 0 s
    refine PySem.W.kat_cons (SeqAt.EqAt.int_int x t x t prog w _ _ ?_)
    refine PySem.W.kat_go (fun _ => ?_) (fun e1 => absurd e1 (by simp))
    refine PySem.W.kat_yes (PySem.W.kat_cons (SeqAt.EqAt.int_int y u y u prog w _ _ ?_))
    refine PySem.W.kat_go (fun _ => ?_) (fun e1 => absurd e1 (by simp))
    refine PySem.W.kat_yes (PySem.W.kat_cons (SeqAt.EqAt.bool_bool b b prog w _ _ ?_))
    refine PySem.W.kat_go (fun _ => ?_) (fun e1 => absurd e1 (by simp))
    exact PySem.W.kat_yes (PySem.W.kat_nil ⟨rfl, rfl⟩)
  · generalize k p.1 = x at h1 ek
    generalize k q.1 = x' at h2 ek
    obtain ⟨a, o, t, y, u, b, n, e, ho, hc, hdd⟩ := h1
    obtain ⟨a', o', t', y', u', b', n', e', ho', hc', hdd'⟩ := h2
    rw [e, e']
    refine PySem.W.kat_lt ho hdd ho' hdd' ?_
    show PySem.W.KatLex prog w A true (decide (3 < 3)) _ [(.int x t, .int x' t'), (.int y u, .int y' u'), (.bool b, .bool b')] 0 s
    refine PySem.W.kat_cons (SeqAt.EqAt.int_int x t x' t' prog w _ _ ?_)
    refine PySem.W.kat_go (fun e1 => absurd (by simpa using e1) ek) (fun e1 => ?_)
    exact PySem.W.kat_no (oneLt_int ⟨rfl, rfl⟩)
theorem firsts3 {h : Heap} : ∀ {vs : List Value}, (∀ v ∈ vs, ∃ x, IsTrip h v x) → ∃ fs : List Value, PySem.W.KatTups h vs fs ∧ fs.length = vs.length ∧ ∀ f ∈ fs, ∃ x t, f = Value.int x t
  | [], _ => ⟨[], PySem.W.KatTups.nil, rfl, fun _ hm => by simp at hm⟩
  | v :: vs, hp => by
    obtain ⟨fs, h1, h2, h3⟩ := firsts3 (vs := vs) fun v' hm => hp v' (List.mem_cons_of_mem _ hm)
    obtain ⟨x, a, o, t, y, u, b, n, e, ho, hc, hd⟩ := hp v (List.mem_cons_self ..)
    subst e
    refine ⟨.int x t :: fs, PySem.W.KatTups.cons ho hc hd rfl h1, by rw [List.length_cons, List.length_cons, h2], fun f hm => ?_⟩
    rcases List.mem_cons.mp hm with rfl | hm
    · exact ⟨x, t, rfl⟩
    · exact h3 f hm
theorem trips_sortable {a : Addr} {vs : List Value} {k : Value → Int} (h0 : 0 < vs.length) (hp : ∀ v ∈ vs, IsTrip s.heap v (k v)) (hd : ∀ v ∈ vs, ∀ u ∈ vs, k v = k u → v = u) (ha : ∀ o, s.heap.get? a = some o → o.cls ≠ .type "tuple") : SortableO prog w A s a vs (ltI k) := by
  intro h' keep
  have hp' : ∀ v ∈ vs, IsTrip h' v (k v) := fun v hm => (hp v hm).keeps fun b o e c => keep b o (fun z => by subst z; exact ha o e c) e
  obtain ⟨fs, h1, h2, h3⟩ := firsts3 fun v hm => ⟨_, hp' v hm⟩
  refine ⟨tuples' true, fun Q E hq => ?_, trip_cmp hp' hd⟩
  refine PySem.W.kat_kind (T := .type "int") h1 (by omega) (fun f hm => ?_) (by rfl) ?_
  · obtain ⟨x, t, rfl⟩ := h3 f hm
    exact PySem.W.Looks.now
  · have e : (Value.type "int" != Value.type "tuple") = true := by first | decide +kernel | rfl | decide
    rw [e]
    exact hq
theorem sorted_trips {l : Addr} {vs : List Value} {k : Value → Int} {Q : Value → Shared → Prop} (hl : s.heap.IsList l vs.toArray) (hz : vs.length ≤ sizeLine) (hp : ∀ v ∈ vs, IsTrip s.heap v (k v)) (hdi : ∀ v ∈ vs, ∀ u ∈ vs, k v = k u → v = u)
    (h : ∀ (h' : Heap) (d : Addr) (out : List Value), Srtd (ltI k) out → Stb (ltI k) out vs → (∀ b o, s.heap.get? b = some o → h'.get? b = some o) → s.heap.objs.size ≤ d → (∃ n, h'.get? d = some (seqObj "list" out.toArray n)) → Q (.ref d) { s with heap := h' }) :
    wpAny (model prog w) A (call (.builtin "sorted") [.ref l]) Q E s := by
  refine sorted_ord (swo_int k) hl hz (fun h2 h₁ a ha kk => ?_) fun out hs hb => ?_
  · refine trips_sortable (s := { s with heap := h₁ }) (by omega) (fun v hm => (hp v hm).keeps fun b o e _ => (kk b o e).2) hdi fun o e => ?_
    have e' : some o = some (seqObj "list" vs.toArray 0) := e.symm.trans ha
    cases e'
    intro c
    exact absurd (Value.type.inj c) (by decide)
  · exact h _ _ out hs hb (fun b o e => sortedAll_old e) (Nat.le_succ _) (sortedAll_at s.heap vs out.toArray)
end
end SrtO
namespace L2
open PySem PySem.Spec PyProof.Rows
theorem vals3S {a b c : V} {us : List Value} (r : Vals [a, b, c] us) : ∃ u v w, us = [u, v, w] ∧ RelV a u ∧ RelV b v ∧ RelV c w := by
  cases r with
  | cons h1 r => cases r with
    | cons h2 r => cases r with
      | cons h3 r => cases r with
        | nil => exact ⟨_, _, _, rfl, h1, h2, h3⟩
def rSortedB (K : PySem.W.Frag) : List V → Hp → VK → Prop := fun vs H Q => ∃ (a : Addr) (xs : List V) (k : V → Int), vs = [V.ref a] ∧ SqL K H a xs ∧ (∀ x ∈ xs, ∃ t j b, x = V.ref t ∧ H t = some (.tup [.int (k x), .int j, .bl b])) ∧ (∀ x ∈ xs, ∀ y ∈ xs, k x = k y → x = y) ∧
  ∀ ys p, ys.Pairwise (fun x y => k x ≤ k y) → ys.Perm xs → H p = none → Q (.ref p) (upd H p (.lst ys))
section
variable {X : Cx}
theorem cr_sortedB : CallR X (.builtin "sorted") (rSortedB X.K) := by
  intro pins s σ H vs us Q I r h
  obtain ⟨a, xs, k, rfl, hs, hx, hdi, q⟩ := h
  obtain ⟨its, rv, hl, hz⟩ := I.list hs
  obtain ⟨u, rfl, ru⟩ := vals1 r
  obtain rfl : u = Value.ref a := ru
  obtain ⟨e1, e2⟩ := refs_back rv fun x m => by
    obtain ⟨t, _, _, e, _⟩ := hx x m
    exact ⟨t, e⟩
  have mem : ∀ v ∈ its, backV v ∈ xs := fun v hv => by rw [e1]; exact List.mem_map.mpr ⟨_, hv, rfl⟩
  refine SrtO.sorted_trips (k := fun u => k (backV u)) hl.isList (by rw [← rv.length]; exact hz) (fun v hv => ?_) (fun v hv u hu e => ?_) fun h' d out h1 h2 kp hd hn => ?_
  · obtain ⟨t, rfl⟩ := e2 v hv
    have hm : V.ref t ∈ xs := mem _ hv
    obtain ⟨t', j, b, e, ht⟩ := hx _ hm
    cases e
    obtain ⟨_, its2, r2, o, ho, hc, n, hd⟩ := I.hok _ _ ht
    obtain ⟨u1, u2, u3, rfl, ri, rj, rb⟩ := vals3S r2
    obtain ⟨t1, rfl⟩ := ri
    obtain ⟨t2, rfl⟩ := rj
    have e3 : u3 = .bool b := rb
    subst e3
    exact ⟨t, o, t1, j, t2, b, n, rfl, ho, hc, hd⟩
  · have z := hdi _ (mem v hv) _ (mem u hu) e
    obtain ⟨t, rfl⟩ := e2 v hv
    obtain ⟨t', rfl⟩ := e2 u hu
    have z2 : V.ref t = V.ref t' := z
    rw [V.ref.inj z2]
  · have h3 : ∀ u ∈ out, ∃ a, u = Value.ref a := fun u hu => e2 u (h2.perm.mem_iff.mp hu)
    obtain ⟨n, hn⟩ := hn
    have hb : (out.map backV).Perm xs := by
      rw [e1]
      exact h2.perm.map backV
    refine ⟨.ref d, upd H d (.lst (out.map backV)), I.laid (t' := s.toks) kp hd ⟨?_, out, n, vals_back h3, hn⟩, rfl, q _ d (List.pairwise_map.mpr (h1.imp fun {x y} e => ?_)) hb (I.hok.fresh hd)⟩
    · rw [hb.length_eq]
      exact hz
    · have z := of_decide_eq_false e
      exact Int.not_lt.mp z
end
end L2

set_option Elab.async false
set_option linter.all false
set_option maxRecDepth 100000
set_option maxHeartbeats 4000000
namespace K26
open PySem PySem.Spec PyProof.Rows L2 Gu Ex
/-- the block at an address -/
def bkA (G : Hp) (t : Addr) : Blk := match G t with
  | some (.tup [.int a, .int l, .bl p]) => (a, l.toNat, p)
  | _ => (0, 0, false)
def keyV (G : Hp) : V → Int
  | .ref t => (bkA G t).1
  | _ => 0
theorem bkA_of {G : Hp} {t : Addr} {b : Blk} (h : G t = some (.tup (blkV b))) : bkA G t = b := by
  unfold bkA
  rw [h]
  obtain ⟨a, l, p⟩ := b
  show (a, ((l : Nat) : Int).toNat, p) = (a, l, p)
  rw [Int.toNat_natCast]
theorem Refs.bk {G : Hp} {qs : List Addr} {bs : List Blk} (h : Refs blkV G qs bs) : bs = qs.map (bkA G) ∧ ∀ t ∈ qs, G t = some (.tup (blkV (bkA G t))) := by
  induction h with
  | nil => exact ⟨rfl, fun _ m => nomatch m⟩
  | cons e _ ih =>
    have e2 := bkA_of e
    refine ⟨by rw [List.map_cons, e2, ih.1], fun t ht => ?_⟩
    rcases List.mem_cons.mp ht with z | z
    · rw [z, e2]; exact e
    · exact ih.2 t z
theorem Refs.of_bk {G : Hp} : ∀ {qs : List Addr}, (∀ t ∈ qs, G t = some (.tup (blkV (bkA G t)))) → Refs blkV G qs (qs.map (bkA G))
  | [], _ => .nil
  | t :: qs, h => .cons (h t List.mem_cons_self) (Refs.of_bk fun u hu => h u (List.mem_cons_of_mem _ hu))
def Dj (ns : List Int) (b c : Blk) : Prop := bEnd ns b ≤ c.1 ∨ bEnd ns c ≤ b.1
/-- blocks as they are put, in any order -/
structure Un (ns : List Int) (n : Int) (bs : List Blk) : Prop where
  ok : ∀ b ∈ bs, b.2.1 < ns.length ∧ 0 ≤ b.1 ∧ sz ns b.2.1 ∣ b.1 ∧ bEnd ns b ≤ n
  dj : bs.Pairwise (Dj ns)
theorem Wf.un {ns : List Int} {n : Int} {bs : List Blk} (w : Wf ns n bs) : Un ns n bs := ⟨w.ok, w.so.imp fun h => .inl h⟩
theorem Un.snoc {ns : List Int} {n : Int} {bs : List Blk} {k : Nat} {a : Int} {p : Bool} (u : Un ns n bs) (hk : k < ns.length) (a0 : 0 ≤ a) (h : spaceB ns n bs k a = true) : Un ns n (bs ++ [(a, k, p)]) := by
  unfold spaceB at h
  rw [Bool.and_eq_true, Bool.and_eq_true] at h
  obtain ⟨h1, h2, h3⟩ := h
  have d1 := of_decide_eq_true h1
  have d2 := of_decide_eq_true h2
  refine ⟨fun b hb => ?_, List.pairwise_append.mpr ⟨u.dj, List.pairwise_singleton _ _, fun b hb c hc => ?_⟩⟩
  · rcases List.mem_append.mp hb with e | e
    · exact u.ok b e
    · rw [List.mem_singleton.mp e]
      exact ⟨hk, a0, d1, d2⟩
  · rw [List.mem_singleton.mp hc]
    have := List.all_eq_true.mp h3 b hb
    unfold offB at this
    rw [Bool.or_eq_true] at this
    rcases this with z | z
    · exact .inr (of_decide_eq_true z)
    · exact .inl (of_decide_eq_true z)
section
variable {ns : List Int} {n : Int} {bs : List Blk} {G : Hp} {qs : List Addr}
theorem Un.perm {cs : List Blk} (u : Un ns n bs) (p : cs.Perm bs) : Un ns n cs := ⟨fun b hb => u.ok b (p.mem_iff.mp hb), (p.pairwise_iff (fun h => h.symm)).mpr u.dj⟩
theorem Un.wf (u : Un ns n bs) (g : Good ns) (s : bs.Pairwise (fun b c => b.1 ≤ c.1)) : Wf ns n bs := by
  refine ⟨u.ok, List.pairwise_iff_getElem.mpr fun i j hi hj hij => ?_⟩
  have h1 := List.pairwise_iff_getElem.mp u.dj i j hi hj hij
  have h2 := List.pairwise_iff_getElem.mp s i j hi hj hij
  have h3 := (chain g).pos _ (u.ok _ (List.getElem_mem hj)).1
  rcases h1 with h | h
  · exact h
  · unfold bEnd at h
    omega
/-- what sorted wants -/
theorem Un.keys (u : Un ns n bs) (g : Good ns) (rf : Refs blkV G qs bs) : (∀ x ∈ qs.map V.ref, ∃ t j b, x = V.ref t ∧ G t = some (.tup [.int (keyV G x), .int j, .bl b])) ∧ ∀ x ∈ qs.map V.ref, ∀ y ∈ qs.map V.ref, keyV G x = keyV G y → x = y := by
  obtain ⟨e, h⟩ := rf.bk
  refine ⟨fun x hx => ?_, fun x hx y hy hk => ?_⟩
  · obtain ⟨t, ht, rfl⟩ := List.mem_map.mp hx
    exact ⟨t, _, _, rfl, h t ht⟩
  · obtain ⟨t, ht, rfl⟩ := List.mem_map.mp hx
    obtain ⟨t2, ht2, rfl⟩ := List.mem_map.mp hy
    obtain ⟨i, hi, ei⟩ := List.mem_iff_getElem.mp ht
    obtain ⟨j, hj, ej⟩ := List.mem_iff_getElem.mp ht2
    by_cases ij : i = j
    · subst ij
      rw [ei] at ej
      rw [ej]
    · exfalso
      have hk2 : (bkA G t).1 = (bkA G t2).1 := hk
      have pw := List.pairwise_iff_getElem.mp u.dj
      have li : i < bs.length := by rw [e, List.length_map]; exact hi
      have lj : j < bs.length := by rw [e, List.length_map]; exact hj
      have bi : bs[i] = bkA G t := by
        have : bs[i]? = some (bkA G t) := by rw [e, List.getElem?_map, List.getElem?_eq_getElem hi, ei]; rfl
        rw [List.getElem?_eq_getElem li] at this
        exact Option.some.inj this
      have bj : bs[j] = bkA G t2 := by
        have : bs[j]? = some (bkA G t2) := by rw [e, List.getElem?_map, List.getElem?_eq_getElem hj, ej]; rfl
        rw [List.getElem?_eq_getElem lj] at this
        exact Option.some.inj this
      have p1 := (chain g).pos _ (u.ok _ (List.getElem_mem li)).1
      have p2 := (chain g).pos _ (u.ok _ (List.getElem_mem lj)).1
      have dd : Dj ns bs[i] bs[j] := by
        rcases Nat.lt_or_gt_of_ne ij with l | l
        · exact pw i j li lj l
        · exact (pw j i lj li l).symm
      have hk3 : bs[i].1 = bs[j].1 := by rw [bi, bj]; exact hk2
      unfold Dj bEnd at dd
      omega
def unR : V → Addr
  | .ref t => t
  | _ => 0
theorem map_unR (qs : List Addr) : (qs.map V.ref).map unR = qs := by
  induction qs with
  | nil => rfl
  | cons t qs ih => rw [List.map_cons, List.map_cons, ih]; rfl
theorem refs_of : ∀ {zs : List V}, (∀ v ∈ zs, ∃ t, v = V.ref t) → ∃ qs : List Addr, zs = qs.map V.ref
  | [], _ => ⟨[], rfl⟩
  | v :: zs, h => by
    obtain ⟨t, rfl⟩ := h v List.mem_cons_self
    obtain ⟨qs, rfl⟩ := refs_of (zs := zs) fun u hu => h u (List.mem_cons_of_mem _ hu)
    exact ⟨t :: qs, rfl⟩
theorem Un.sorted (u : Un ns n bs) (g : Good ns) (rf : Refs blkV G qs bs) {zs : List V} (hs : zs.Pairwise (fun x y => keyV G x ≤ keyV G y)) (hp : zs.Perm (qs.map V.ref)) : ∃ qs' bs', zs = qs'.map V.ref ∧ Refs blkV G qs' bs' ∧ bs'.Perm bs ∧ Wf ns n bs' := by
  obtain ⟨e, h⟩ := rf.bk
  obtain ⟨qs', hq, hz⟩ : ∃ qs' : List Addr, qs'.Perm qs ∧ zs = qs'.map V.ref := by
    obtain ⟨qs', rfl⟩ := refs_of (zs := zs) fun v hv => by
      obtain ⟨t, _, rfl⟩ := List.mem_map.mp (hp.mem_iff.mp hv)
      exact ⟨t, rfl⟩
    have := hp.map unR
    rw [map_unR, map_unR] at this
    exact ⟨qs', this, rfl⟩
  subst hz
  have rf' := Refs.of_bk (G := G) (qs := qs') fun t ht => h t (hq.mem_iff.mp ht)
  have pm : (qs'.map (bkA G)).Perm bs := by rw [e]; exact hq.map _
  refine ⟨qs', _, rfl, rf', pm, (u.perm pm).wf g ?_⟩
  have hs' : qs'.Pairwise (fun x y => (bkA G x).1 ≤ (bkA G y).1) := (List.pairwise_map (f := V.ref) (R := fun x y => keyV G x ≤ keyV G y)).mp hs
  exact List.pairwise_map.mpr hs'
/-- sorted lists of the same blocks are one -/
theorem uniqB : ∀ {l m : List Blk}, l.Pairwise (fun b c => b.1 < c.1) → m.Pairwise (fun b c => b.1 < c.1) → l.Perm m → l = m
  | [], m, _, _, h => (List.Perm.eq_nil h.symm).symm
  | x :: l, [], _, _, h => absurd h.length_eq (by simp)
  | x :: l, y :: m, hl, hm, h => by
    have pl := List.pairwise_cons.mp hl
    have pm := List.pairwise_cons.mp hm
    have e : x = y := by
      rcases List.mem_cons.mp (h.mem_iff.mp (List.mem_cons_self (a := x) (l := l))) with e | e
      · exact e
      · rcases List.mem_cons.mp (h.mem_iff.mpr (List.mem_cons_self (a := y) (l := m))) with e2 | e2
        · exact e2.symm
        · have := pm.1 x e
          have := pl.1 y e2
          omega
    subst e
    rw [uniqB pl.2 pm.2 (List.Perm.cons_inv h)]
end
section
variable {P : Program} {w : World} {K : PySem.W.Frag} {mg : Str → Option Value} {base : Heap} {f : Addr} {fd : FuncData}
def spBlocks : Sp := fun vs H Q _ => ∃ (r s : Addr) (ns : List Int) (n many one : Int), vs = [.ref r, .ref s, .int n, .int many, .int one] ∧ Rng H r ∧ H s = some (.lst (ns.map V.int)) ∧ s ≠ r ∧ Good ns ∧ 1 ≤ n ∧ n ≤ 1000 ∧ 0 ≤ many ∧ many ≤ 100 ∧ 1 ≤ one ∧ one ≤ 100 ∧
  ∀ a qs bs H', H a = none → Stp r H H' → H' a = some (.lst (qs.map V.ref)) → Refs blkV H' qs bs → Wf ns n bs → (bs.length : Int) ≤ many → Q (.ref a) H'
theorem sc__law_blocks : FnScope ["_law_rng_here", "_law_sizes_here", "_law_length", "_law_many", "_law_one_in", "_law_result", "_law_k", "_law_level", "_law_address", "_law_is_pinned"] ["_law_rng_here", "_law_sizes_here", "_law_length", "_law_many", "_law_one_in"] (defScope (top 38)) := ⟨rfl, rfl, rfl, by decide +kernel, rfl, by decide +kernel, by decide +kernel⟩
theorem ok_blocks (T : Tx K mg) (D__law_draw : Df P w K mg base 1 "_law_draw" ["_law_rng_here", "_law_many"] spDraw) (D__law_has_space : Df P w K mg base 1 "_law_has_space" ["_law_sizes_here", "_law_length", "_law_blocks_here", "_law_level", "_law_address"] spSpace)
    (F : FnP K "_law_blocks" "_law_blocks" (top 38) f fd) : FnOk P w K mg base CX0 2 f fd ["_law_rng_here", "_law_sizes_here", "_law_length", "_law_many", "_law_one_in"] spBlocks := by
  refine F.ok sc__law_blocks (fun vs H Q E h => ?_) (fun cdv A outer s H vs Q E hr h => ⟨_, PSs.nox (pss_cons (ps_set (i := 5) sc__law_blocks.nd rfl (by first | exact Or.inl rfl | exact Or.inr rfl) (pe_lst pa_nil)) (pss_cons (ps_for PassesOwn.never rfl (pi_range1 rfl T.n_range (pa_cons (pcall D__law_draw hr (pa_cons (pv 0) (pa_cons (pe_op op_add (pv 3) pe_int) pa_nil))) pa_nil)) (pg_name (i := 6) sc__law_blocks.nd rfl (by first | exact Or.inl rfl | exact Or.inr rfl)) (pss_cons (ps_set (i := 7) sc__law_blocks.nd rfl (by first | exact Or.inl rfl | exact Or.inr rfl) (pcall D__law_draw hr (pa_cons (pv 0) (pa_cons (pe_callB call_len_seq (by rfl) T.n_len (by decide +kernel) (pa_cons (pv 1) pa_nil)) pa_nil)))) (pss_one (ps_if (pt_cmpR op_le (pe_ix ix_list (pv 1) (pv 7) (fun _ _ => rfl)) (pv 2) (nomark _)) (pss_cons (ps_set (i := 8) sc__law_blocks.nd rfl (by first | exact Or.inl rfl | exact Or.inr rfl) (pe_op op_mul (pcall D__law_draw hr (pa_cons (pv 0) (pa_cons (pe_op op_fdivW (pv 2) (pe_ix ix_list (pv 1) (pv 7) (fun _ _ => rfl))) pa_nil))) (pe_ix ix_list (pv 1) (pv 7) (fun _ _ => rfl)))) (pss_cons (ps_set (i := 9) sc__law_blocks.nd rfl (by first | exact Or.inl rfl | exact Or.inr rfl) (pe_and (pe_cmpR op_gt (pv 4) pe_int (nomark _)) (pe_one (pe_cmpR op_eq (pcall D__law_draw hr (pa_cons (pv 0) (pa_cons (pe_callB (call_max2 rfl) (by rfl) T.n_max (by decide +kernel) (pa_cons pe_int (pa_cons (pv 4) pa_nil))) pa_nil))) pe_int (nomark _))))) (pss_one (ps_if (pt_val (pcall D__law_has_space hr (pa_cons (pv 1) (pa_cons (pv 2) (pa_cons (pv 5) (pa_cons (pv 7) (pa_cons (pv 8) pa_nil))))))) (pss_one (ps_expr (pe_bm PySem.F.plainAttrs_list PySem.F.slot_list_append PySem.F.type_list_append mt_append (pv 5) (pa_cons (pe_tup (pa_cons (pv 8) (pa_cons (pv 7) (pa_cons (pv 9) pa_nil)))) pa_nil)))) pss_nil)))) pss_nil)))) (pss_one (ps_ret (pe_callB cr_sortedB (by rfl) T.n_sorted (by decide +kernel) (pa_cons (pv 5) pa_nil)))))), ?_⟩)
  · obtain ⟨r, s, ns, n, many, one, rfl, _⟩ := h
    rfl
  · obtain ⟨r, s, ns, n, many, one, rfl, hR, hs, nsr, g, n1, n2, m1, m2, o1, o2, q⟩ := h
    have sl : sizeLine = 16777216 := sizeLine_eq
    have big : (10 : Int) ^ 40 = 10000000000000000000000000000000000000000 := by decide
    have g8 := g.len
    refine ⟨Nat.zero_le _, fun R hRn => ?_⟩
    have nrR : R ≠ r := (hR.ne hRn).symm
    have s0 : Stp r H (upd H R (.lst [])) := (Stp.refl hR).new hRn
    have hR0 : (upd H R (.lst [])) R = some (.lst []) := upd_same
    generalize upd H R (.lst []) = H0 at s0 hR0
    refine ⟨_, rfl, _, rfl, _, _, rfl, rfl, r, many + 1, rfl, s0.1, by omega, by omega, fun d H1 d0 d1 s1 => ?_⟩
    refine ⟨d, rfl, by omega, by omega, ?_⟩
    have two : 3 ≤ sizeLine := by decide
    refine for_range (fun i σ G => ∃ (x6 x7 x8 x9 : Option V) (qs : List Addr) (bs : List Blk), σ = [some (.ref r), some (.ref s), some (.int n), some (.int many), some (.int one), some (.ref R), x6, x7, x8, x9] ∧ Stp r H G ∧ G R = some (.lst (qs.map V.ref)) ∧ Refs blkV G qs bs ∧ Un ns n bs ∧ bs.length ≤ i)
      ⟨none, none, none, none, [], [], rfl, s0.trans s1, s1.2 _ _ nrR hR0, .nil, ⟨fun _ m => (nomatch m), .nil⟩, Nat.le_refl _⟩ ?_ ?_
    · rintro i σ G hi ⟨x6, x7, x8, x9, qs, bs, rfl, st, hG, rf, un, bl⟩
      have hi2 : i < 101 := by omega
      have hsG : G s = some (.lst (ns.map V.int)) := st.2 _ _ nsr hs
      refine ⟨_, rfl, _, rfl, s, _, rfl, .inl (SqL.of hsG), r, _, rfl, st.1, (by rw [List.length_map]; omega), (by rw [List.length_map]; omega), fun d7 G1 a0 a1 t1 => ?_⟩
      rw [List.length_map] at a1
      obtain ⟨k, rfl⟩ : ∃ k : Nat, d7 = (k : Int) := ⟨d7.toNat, by omega⟩
      have hk : k < ns.length := by omega
      have st1 := st.trans t1
      have mv : ∀ {G G' : Hp}, Stp r G G' → Refs blkV G qs bs → Rng G r → Refs blkV G' qs bs := fun {G G'} t rf rg => rf.mono fun p xs e => t.2 p _ (fun z => by
        obtain ⟨_, _, e2, _⟩ := rg
        rw [z, e2] at e
        cases e) e
      have rf1 := mv t1 rf st.1
      have hG1 := t1.2 _ _ nrR hG
      have hs1 := st1.2 _ _ nsr hs
      have z1 := (chain g).pos k hk
      have z2 := sz_le g hk
      refine ⟨_, rfl, _, rfl, s, _, _, _, rfl, rfl, SqL.of hs1, at_sz hk, _, rfl, _, _, rfl, rfl, _, rfl, ?_⟩
      by_cases hc : sz ns k ≤ n
      case neg =>
        exact ifF (decide_eq_false hc) ⟨_, _, _, _, qs, bs, rfl, st1, hG1, rf1, un, by omega⟩
      refine ifT (decide_eq_true hc) ?_
      have j1 : 1 ≤ n / sz ns k := (Int.le_ediv_iff_mul_le (by omega)).mpr (by omega)
      have j2 : n / sz ns k ≤ 1000 := Int.le_trans (Int.ediv_le_self _ (by omega)) n2
      refine ⟨_, rfl, _, rfl, _, rfl, _, rfl, s, _, _, _, rfl, rfl, SqL.of hs1, at_sz hk, _, _, rfl, rfl, wide_div (b := 30) (by omega) (by omega) (by decide) (by decide), r, _, rfl, st1.1, j1, by omega, fun d8 G2 b0 b1 t2 => ?_⟩
      have st2 := st1.trans t2
      have hs2 := st2.2 _ _ nsr hs
      refine ⟨_, rfl, _, rfl, s, _, _, _, rfl, rfl, SqL.of hs2, at_sz hk, _, _, rfl, rfl, .inr ⟨by omega, by omega⟩, ?_⟩
      have ad0 : 0 ≤ d8 * sz ns k := Int.mul_nonneg b0 (by omega)
      have ad1 : d8 * sz ns k ≤ 1000 := by
        have h1 := (dn_iff (s := sz ns k) (e := n) (i := d8) z1).mp b1
        omega
      have rf2 := mv t2 rf1 st1.1
      have hG2 := t2.2 _ _ nrR hG1
      refine ⟨_, rfl, _, _, rfl, rfl, true, bT (by omega), iteT ?_⟩
      have mx : 1 ≤ (if one > 1 then one else 1) ∧ (if one > 1 then one else 1) ≤ 100 := by
        split <;> omega
      refine ⟨_, rfl, _, rfl, _, _, rfl, r, _, rfl, st2.1, mx.1, by omega, fun d9 G3 c0 c1 t3 => ?_⟩
      have st3 := st2.trans t3
      have hs3 := st3.2 _ _ nsr hs
      have rf3 := mv t3 rf2 st2.1
      have hG3 := t3.2 _ _ nrR hG2
      refine ⟨rfl, ?_⟩
      refine ⟨_, rfl, _, rfl, _, rfl, _, rfl, _, rfl, s, R, ns, n, qs, bs, k, _, rfl, hs3, ⟨hG3, rf3, fun b hb => (un.ok b hb).1, by omega⟩, g, hk, ad0, by omega, fun G4 s4 => ?_⟩
      have st4 : Stp r H G4 := ⟨by
        obtain ⟨x, y, e, z⟩ := st3.1
        exact ⟨x, y, s4 _ _ e, z⟩, fun b o nb e => s4 _ _ (st3.2 b o nb e)⟩
      have rf4 := rf3.same s4
      have hG4 := s4 _ _ hG3
      refine ⟨_, rfl, ?_⟩
      cases hsp : spaceB ns n bs k (d8 * sz ns k) with
      | false => exact iteF ⟨_, _, _, _, qs, bs, rfl, st4, hG4, rf4, un, by omega⟩
      | true =>
        have ql := rf.len
        refine iteT ⟨_, rfl, .inl ⟨rfl, _, SqL.of hG4⟩, _, rfl, _, rfl, _, rfl, two, fun u hu => ?_⟩
        have nM : R ≠ u := ne_of_none hG4 hu
        refine ⟨R, _, _, rfl, rfl, (by rw [upd_ne nM]; exact hG4), (by rw [List.length_map]; omega), ?_⟩
        refine ⟨_, _, _, _, qs ++ [u], bs ++ [(d8 * sz ns k, k, _)], rfl, ?_, ?_, Refs.more (u := (d8 * sz ns k, k, _)) rf4 hG4 hu, un.snoc hk ad0 hsp, (by rw [List.length_append, List.length_singleton]; omega)⟩
        · refine ⟨?_, fun b o nb e => ?_⟩
          · obtain ⟨x, y, e, z⟩ := st4.1
            exact ⟨x, y, by rw [upd_ne nrR.symm, upd_ne (ne_of_none e hu)]; exact e, z⟩
          · rw [upd_ne (ne_of_none e hRn), upd_ne (ne_of_none (st4.2 b o nb e) hu)]
            exact st4.2 b o nb e
        · rw [upd_same, List.map_append]
          rfl
    · rintro σ G ⟨x6, x7, x8, x9, qs, bs, rfl, st, hG, rf, un, bl⟩
      obtain ⟨k1, k2⟩ := un.keys g rf
      refine ⟨_, rfl, R, _, keyV G, rfl, SqL.of hG, k1, k2, fun zs p hs' hp hpn => ?_⟩
      obtain ⟨qs', bs', rfl, rf', pm, wf⟩ := un.sorted g rf hs' hp
      refine q p qs' bs' _ (st.free hpn) (st.new hpn) upd_same (rf'.same (same_upd hpn)) wf ?_
      rw [pm.length_eq]
      omega
end
end K26

set_option Elab.async false
set_option linter.all false
set_option maxRecDepth 100000
set_option maxHeartbeats 4000000
namespace K26
open PySem PySem.Spec PyProof.Rows L2 Gu Ex
def blkD (b : Blk) : PyData := .tuple [.int b.1, .int (b.2.1 : Nat), .bool b.2.2]
theorem Refs.dp {K : PySem.W.Frag} {H : Hp} {qs : List Addr} {bs : List Blk} (h : Refs blkV H qs bs) : DpAll K H (qs.map V.ref) (bs.map blkD) := by
  induction h with
  | nil => exact .nil
  | cons e _ ih => exact .cons (.tup (SqT.of e) (.cons (.int _) (.cons (.int _) (.cons (.bl _) .nil)))) ih
theorem lay_blk : ∀ bs : List Blk, PyData.canLayAll0 (bs.map blkD) = true
  | [] => rfl
  | b :: r => by
    have e : (blkD b).canLay0 = true := rfl
    simp only [List.map_cons, PyData.canLayAll0, e, lay_blk r, Bool.and_self]
theorem dep_blk : ∀ bs : List Blk, PyData.depthAll (bs.map blkD) ≤ 1
  | [] => Nat.zero_le _
  | b :: r => by
    have e : (blkD b).depth = 1 := rfl
    simp only [List.map_cons, PyData.depthAll, e]
    have := dep_blk r
    omega
theorem shaped_blk (bs : List Blk) : SeqAt.shaped (.list (bs.map blkD)) = true := by
  have c : (PyData.list (bs.map blkD)).canLay0 = true := lay_blk bs
  have e : (PyData.list (bs.map blkD)).depth ≤ 2 := by
    show PyData.depthAll (bs.map blkD) + 1 ≤ 2
    have := dep_blk bs
    omega
  unfold SeqAt.shaped
  rw [c]
  simp
  omega
theorem trues_len (i : Nat) : (List.map V.bl (List.replicate i true)).length = i := by simp
theorem trues_more (i : Nat) : List.map V.bl (List.replicate i true) ++ [V.bl true] = List.map V.bl (List.replicate (i + 1) true) := by
  rw [List.replicate_succ', List.map_append]
  rfl
theorem all_trues (i : Nat) : (List.replicate i true).all id = true := by
  rw [List.all_replicate]
  split <;> rfl

theorem eqv_ints : ∀ ns ms : List Int, PyData.eqvAll (ns.map PyData.int) (ms.map PyData.int) = decide (ns = ms)
  | [], [] => rfl
  | [], _ :: _ => rfl
  | _ :: _, [] => rfl
  | n :: ns, m :: ms => by
    show ((n == m) && PyData.eqvAll (ns.map PyData.int) (ms.map PyData.int)) = _
    rw [eqv_ints ns ms]
    by_cases h : n = m
    · subst h
      simp
    · simp [h]
theorem eqv_blk (b c : Blk) : PyData.eqv (blkD b) (blkD c) = decide (b = c) := by
  obtain ⟨a, k, p⟩ := b
  obtain ⟨a2, k2, p2⟩ := c
  show ((a == a2) && (((k : Int) == (k2 : Int)) && ((p == p2) && true))) = _
  by_cases h1 : a = a2
  · by_cases h2 : k = k2
    · by_cases h3 : p = p2
      · subst h1 h2 h3
        simp
      · simp [h1, h2, h3]
    · have h2' : ¬ (k : Int) = (k2 : Int) := by omega
      simp [h1, h2, h2']
  · simp [h1]
theorem eqv_blks : ∀ bs cs : List Blk, PyData.eqvAll (bs.map blkD) (cs.map blkD) = decide (bs = cs)
  | [], [] => rfl
  | [], _ :: _ => rfl
  | _ :: _, [] => rfl
  | b :: bs, c :: cs => by
    show (PyData.eqv (blkD b) (blkD c) && PyData.eqvAll (bs.map blkD) (cs.map blkD)) = _
    rw [eqv_blks bs cs, eqv_blk]
    by_cases h : b = c
    · subst h
      simp
    · simp [h]
theorem dp_ints {K : PySem.W.Frag} {H : Hp} : ∀ ns : List Int, DpAll K H (ns.map V.int) (ns.map PyData.int)
  | [] => .nil
  | n :: r => .cons (.int n) (dp_ints r)
theorem flat : ∀ ns : List Int, PyData.depthAll (ns.map PyData.int) = 0
  | [] => rfl
  | n :: r => by
    show max 0 (PyData.depthAll (r.map PyData.int)) = 0
    rw [flat r]
    rfl
theorem can_lay : ∀ ns : List Int, PyData.canLayAll0 (ns.map PyData.int) = true
  | [] => rfl
  | n :: r => by simp only [List.map_cons, PyData.canLayAll0, PyData.canLay0, can_lay r, Bool.and_self]
theorem shaped_ints (ns : List Int) : SeqAt.shaped (.list (ns.map PyData.int)) = true := by
  have e : (PyData.list (ns.map PyData.int)).depth = 1 := by
    show PyData.depthAll (ns.map PyData.int) + 1 = 1
    rw [flat]
  have c : (PyData.list (ns.map PyData.int)).canLay0 = true := can_lay ns
  unfold SeqAt.shaped
  rw [c, e]
  rfl
section
variable {P : Program} {w : World} {K : PySem.W.Frag} {mg : Str → Option Value} {base : Heap} {f : Addr} {fd : FuncData}
def spBlk (K : PySem.W.Frag) : Sp := fun vs H Q _ => ∃ (y zp bl dx : Addr) (ps : List Addr) (ns : List Int) (n : Int) (bs : List Blk), vs = [.ref y] ∧ Ly K H y zp bl dx ps ns n bs ∧ ∀ l, H l = none → Q (.ref l) (upd H l (.lst (ps.map V.ref)))
theorem sc_blocks : FnScope ["self"] ["self"] (defScope (inClass (top 31) 7)) := ⟨rfl, rfl, rfl, by decide +kernel, rfl, by decide +kernel, by decide +kernel⟩
theorem ok_blk (T : Tx K mg) (F : FnP K "blocks" "Layout.blocks" (inClass (top 31) 7) f fd) : FnOk P w K mg base CX0 1 f fd ["self"] (spBlk K) := by
  refine F.ok sc_blocks (fun vs H Q E h => ?_) (fun cdv A outer s H vs Q E hr h => ⟨_, PSs.nox (pss_one (ps_ret (pe_callTy call_list_of (by rfl) T.n_list (by decide +kernel) (pa_cons (pe_fld (pv 0) rfl) pa_nil)))), ?_⟩)
  · obtain ⟨y, zp, bl, dx, ps, ns, n, bs, rfl, _⟩ := h
    rfl
  · obtain ⟨y, zp, bl, dx, ps, ns, n, bs, rfl, L, q⟩ := h
    exact ⟨_, rfl, y, _, dx, _, _, rfl, L.at_, T.ly, T.nBL, lay_bl .., bl, _, rfl, .inl (SqL.of L.lst), q⟩
def spSEq (K : PySem.W.Frag) : Sp := fun vs H Q _ => ∃ (p q : Addr) (ns ms : List Int), vs = [.ref p, .ref q] ∧ SzAt (He.ga K "Sizes") H p ns ∧ SzAt (He.ga K "Sizes") H q ms ∧ Q (.bl (decide (ns = ms))) H
theorem sc_Sizes_eq : FnScope ["self", "other"] ["self", "other"] (defScope (inClass (top 20) 5)) := ⟨rfl, rfl, rfl, by decide +kernel, rfl, by decide +kernel, by decide +kernel⟩
theorem ok_seq (T : Tx K mg) (F : FnP K "__eq__" "Sizes.__eq__" (inClass (top 20) 5) f fd) : FnOk P w K mg base CX0 1 f fd ["self", "other"] (spSEq K) := by
  refine F.ok sc_Sizes_eq (fun vs H Q E h => ?_) (fun cdv A outer s H vs Q E hr h => ⟨_, PSs.nox (pss_one (ps_ret (pe_and (pe_callB call_isi (by rfl) T.n_isinstance (by decide +kernel) (pa_cons (pv 1) (pa_cons (pe_glob (v := .ref _) rfl T.g_Sizes rfl) pa_nil))) (pe_one (pe_cmpR (op_eqD hr.units) (pe_fld (pv 0) rfl) (pe_fld (pv 1) rfl) (nomark _)))))), ?_⟩)
  · obtain ⟨p, q, ns, ms, rfl, _⟩ := h
    rfl
  · obtain ⟨p, r, ns, ms, rfl, ⟨dx, l, h1, h2⟩, ⟨dy, m, k1, k2⟩, q⟩ := h
    refine ⟨_, rfl, _, _, _, _, true, rfl, .own _, T.iS.ty k1, T.iS.ki, _, rfl, iteT ?_⟩
    refine ⟨_, rfl, p, _, dx, _, _, rfl, h1, T.cl, T.nSL, szF_get l, _, rfl, r, _, dy, _, _, rfl, k1, T.cl, T.nSL, szF_get m, _, _, .lst (SqL.of h2) (dp_ints ns), .lst (SqL.of k2) (dp_ints ms), shaped_ints _, shaped_ints _, ?_⟩
    show Q (.bl (PyData.eqvAll (ns.map PyData.int) (ms.map PyData.int))) H
    rw [eqv_ints]
    exact q
def spLen (K : PySem.W.Frag) : Sp := fun vs H Q _ => ∃ (p : Addr) (ns : List Int), vs = [.ref p] ∧ SzAt (He.ga K "Sizes") H p ns ∧ Q (.int (ns.length : Nat)) H
theorem sc_Sizes_len : FnScope ["self"] ["self"] (defScope (inClass (top 20) 6)) := ⟨rfl, rfl, rfl, by decide +kernel, rfl, by decide +kernel, by decide +kernel⟩
theorem ok_len (T : Tx K mg) (F : FnP K "__len__" "Sizes.__len__" (inClass (top 20) 6) f fd) : FnOk P w K mg base CX0 1 f fd ["self"] (spLen K) := by
  refine F.ok sc_Sizes_len (fun vs H Q E h => ?_) (fun cdv A outer s H vs Q E hr h => ⟨_, PSs.nox (pss_one (ps_ret (pe_callB call_len_seq (by rfl) T.n_len (by decide +kernel) (pa_cons (pe_fld (pv 0) rfl) pa_nil)))), ?_⟩)
  · obtain ⟨p, ns, rfl, _⟩ := h
    rfl
  · obtain ⟨p, ns, rfl, ⟨dx, l, h1, h2⟩, q⟩ := h
    refine ⟨_, rfl, p, _, dx, _, _, rfl, h1, T.cl, T.nSL, szF_get l, l, _, rfl, .inl (SqL.of h2), ?_⟩
    rw [List.length_map]
    exact q
def spLEq (K : PySem.W.Frag) : Sp := fun vs H Q _ => ∃ (y zp bl dx y2 zp2 bl2 dx2 : Addr) (ps ps2 : List Addr) (ns ns2 : List Int) (n n2 : Int) (bs bs2 : List Blk), vs = [.ref y, .ref y2] ∧ Ly K H y zp bl dx ps ns n bs ∧ Ly K H y2 zp2 bl2 dx2 ps2 ns2 n2 bs2 ∧
  ns = ns2 ∧ n = n2 ∧ Q (.bl (decide (bs = bs2))) H
theorem sc_Layout_eq : FnScope ["self", "other"] ["self", "other"] (defScope (inClass (top 31) 1)) := ⟨rfl, rfl, rfl, by decide +kernel, rfl, by decide +kernel, by decide +kernel⟩
theorem ok_leq (T : Tx K mg) (E_Sizes : EqOf P w K mg base 1 "Sizes" (spSEq K)) (F : FnP K "__eq__" "Layout.__eq__" (inClass (top 31) 1) f fd) : FnOk P w K mg base CX0 2 f fd ["self", "other"] (spLEq K) := by
  refine F.ok sc_Layout_eq (fun vs H Q E h => ?_) (fun cdv A outer s H vs Q E hr h => ⟨_, PSs.nox (pss_one (ps_ret (pe_and (pe_callB call_isi (by rfl) T.n_isinstance (by decide +kernel) (pa_cons (pv 1) (pa_cons (pe_glob (v := .ref _) rfl T.g_Layout rfl) pa_nil))) (pe_and (pe_cmpR (op_own E_Sizes hr) (pe_fld (pv 0) rfl) (pe_fld (pv 1) rfl) (nomark _)) (pe_and (pe_cmpR op_eq (pe_fld (pv 0) rfl) (pe_fld (pv 1) rfl) (nomark _)) (pe_one (pe_cmpR (op_eqD hr.units) (pe_fld (pv 0) rfl) (pe_fld (pv 1) rfl) (nomark _)))))))), ?_⟩)
  · obtain ⟨y, zp, bl, dx, y2, zp2, bl2, dx2, ps, ps2, ns, ns2, n, n2, bs, bs2, rfl, _⟩ := h
    rfl
  · obtain ⟨y, zp, bl, dx, y2, zp2, bl2, dx2, ps, ps2, ns, ns2, n, n2, bs, bs2, rfl, L, L2, rfl, rfl, q⟩ := h
    obtain ⟨dz, l, z1, z2⟩ := id L.szs
    obtain ⟨dz2, l2, z3, z4⟩ := id L2.szs
    refine ⟨_, rfl, _, _, _, _, true, rfl, .own _, T.iL.ty L2.at_, T.iL.ki, _, rfl, iteT ?_⟩
    refine ⟨_, rfl, y, _, dx, _, _, rfl, L.at_, T.ly, T.nST, lay_st .., _, rfl, y2, _, dx2, _, _, rfl, L2.at_, T.ly, T.nST, lay_st .., zp, zp2, dz, dz2, _, _, rfl, rfl, z1, z3, zp, zp2, ns, ns, rfl, L.szs, L2.szs, ⟨_, rfl⟩, _, rfl, ifT (decide_eq_true rfl) ?_⟩
    refine ⟨_, rfl, y, _, dx, _, _, rfl, L.at_, T.ly, T.nCC, lay_cc .., _, rfl, y2, _, dx2, _, _, rfl, L2.at_, T.ly, T.nCC, lay_cc .., rfl, _, rfl, ifT (decide_eq_true rfl) ?_⟩
    refine ⟨_, rfl, y, _, dx, _, _, rfl, L.at_, T.ly, T.nBL, lay_bl .., _, rfl, y2, _, dx2, _, _, rfl, L2.at_, T.ly, T.nBL, lay_bl .., _, _, .lst (SqL.of L.lst) L.rf.dp, .lst (SqL.of L2.lst) L2.rf.dp, shaped_blk _, shaped_blk _, ?_⟩
    show Q (.bl (PyData.eqvAll (bs.map blkD) (bs2.map blkD))) H
    rw [eqv_blks]
    exact q
def spFree (K : PySem.W.Frag) : Sp := fun vs H Q _ => ∃ (y zp bl dx : Addr) (ps : List Addr) (ns : List Int) (n : Int) (bs : List Blk), vs = [.ref y] ∧ Ly K H y zp bl dx ps ns n bs ∧ Q (.int (n - tot ns bs)) H
theorem sc_free : FnScope ["self"] ["self"] (defScope (inClass (top 31) 6)) := ⟨rfl, rfl, rfl, by decide +kernel, rfl, by decide +kernel, by decide +kernel⟩
theorem ok_free (T : Tx K mg) (F : FnP K "free" "Layout.free" (inClass (top 31) 6) f fd) : FnOk P w K mg base CX0 1 f fd ["self"] (spFree K) := by
  refine F.ok sc_free (fun vs H Q E h => ?_) (fun cdv A outer s H vs Q E hr h => ⟨_, PSs.nox (pss_one (ps_ret (pe_fld (pv 0) rfl))), ?_⟩)
  · obtain ⟨y, zp, bl, dx, ps, ns, n, bs, rfl, _⟩ := h
    rfl
  · obtain ⟨y, zp, bl, dx, ps, ns, n, bs, rfl, L, q⟩ := h
    exact ⟨_, rfl, y, _, dx, _, _, rfl, L.at_, T.ly, T.nFC, lay_fc .., q⟩
/-- the free gaps -/
def fgI (ns : List Int) (n : Int) (bs : List Blk) : List (Int × Int) := gapsI n 0 (bs.map (rngB ns))
def spFg (K : PySem.W.Frag) : Sp := fun vs H Q _ => ∃ (y zp bl dx : Addr) (ps : List Addr) (ns : List Int) (n : Int) (bs : List Blk), vs = [.ref y] ∧ Ly K H y zp bl dx ps ns n bs ∧
  ∀ M qs H', H M = none → Same H H' → H' M = some (.lst (qs.map V.ref)) → Refs prV H' qs (fgI ns n bs) → Q (.ref M) H'
theorem sc_free_gaps : FnScope ["self"] ["self"] (defScope (inClass (top 31) 17)) := ⟨rfl, rfl, rfl, by decide +kernel, rfl, by decide +kernel, by decide +kernel⟩
theorem ok_fg (T : Tx K mg) (M_ranges_of : Mf P w K mg base 6 "Layout" "ranges_of" ["self", "blocks"] (spRanges K)) (D_gaps_between : Df P w K mg base 1 "gaps_between" ["ranges", "length"] spGaps) (F : FnP K "free_gaps" "Layout.free_gaps" (inClass (top 31) 17) f fd) :
    FnOk P w K mg base CX0 7 f fd ["self"] (spFg K) := by
  refine F.ok sc_free_gaps (fun vs H Q E h => ?_) (fun cdv A outer s H vs Q E hr h => ⟨_, PSs.nox (pss_one (ps_ret (pcall D_gaps_between hr (pa_cons (pmeth M_ranges_of hr (pv 0) (pa_cons (pe_fld (pv 0) rfl) pa_nil)) (pa_cons (pe_fld (pv 0) rfl) pa_nil))))), ?_⟩)
  · obtain ⟨y, zp, bl, dx, ps, ns, n, bs, rfl, _⟩ := h
    rfl
  · obtain ⟨y, zp, bl, dx, ps, ns, n, bs, rfl, L, q⟩ := h
    refine ⟨_, rfl, y, dx, _, rfl, L.at_, lay_nm (by decide +kernel), _, rfl, y, _, dx, _, _, rfl, L.at_, T.ly, T.nBL, lay_bl .., y, zp, bl, dx, ps, ns, n, bs, bl, ps, bs, rfl, L, L.lst, L.rf, L.ln, (fun b hb => (L.wf.ok b hb).1), fun D rs H1 hD s1 hD1 r1 => ?_⟩
    have L1 := L.same s1
    refine ⟨_, rfl, y, _, dx, _, _, rfl, L1.at_, T.ly, T.nCC, lay_cc .., D, n, rs, _, rfl, hD1, r1, (by rw [List.length_map]; exact L.ln), fun M qs H2 hM s2 h2 r2 => ?_⟩
    exact q M qs H2 (s1.free hM) (s1.trans s2) h2 r2
def spFr (K : PySem.W.Frag) : Sp := fun vs H Q _ => ∃ (y zp bl dx : Addr) (ps : List Addr) (ns : List Int) (n : Int) (bs : List Blk) (k : Nat), vs = [.ref y, .int k] ∧ Ly K H y zp bl dx ps ns n bs ∧ k < ns.length ∧ ∀ H', Same H H' → Q (.int (regI ns k (fgI ns n bs))) H'
theorem fg_ok {ns : List Int} {n : Int} {bs : List Blk} (w : Wf ns n bs) (g : Good ns) : (∀ x ∈ fgI ns n bs, 0 ≤ x.1 ∧ x.1 ≤ x.2) ∧ (fgI ns n bs).length ≤ bs.length + 1 := by
  refine ⟨gaps_ok (Int.le_refl _) fun r hr => ?_, ?_⟩
  · obtain ⟨b, hb, rfl⟩ := List.mem_map.mp hr
    have p := w.pos g hb
    have o := (w.ok b hb).2.1
    show 0 ≤ b.1 + sz ns b.2.1
    omega
  · have h := gaps_len (n := n) (bs.map (rngB ns)) 0
    rw [List.length_map] at h
    exact h
theorem sc_free_regions : FnScope ["self", "level"] ["self", "level"] (defScope (inClass (top 31) 22)) := ⟨rfl, rfl, rfl, by decide +kernel, rfl, by decide +kernel, by decide +kernel⟩
theorem ok_fr (T : Tx K mg) (M_free_gaps : Mf P w K mg base 7 "Layout" "free_gaps" ["self"] (spFg K)) (M_regions_in : Mf P w K mg base 8 "Layout" "regions_in" ["self", "gaps", "level"] (spRegIn K)) (F : FnP K "free_regions" "Layout.free_regions" (inClass (top 31) 22) f fd) :
    FnOk P w K mg base CX0 9 f fd ["self", "level"] (spFr K) := by
  refine F.ok sc_free_regions (fun vs H Q E h => ?_) (fun cdv A outer s H vs Q E hr h => ⟨_, PSs.nox (pss_one (ps_ret (pmeth M_regions_in hr (pv 0) (pa_cons (pmeth0 M_free_gaps hr (pv 0)) (pa_cons (pv 1) pa_nil))))), ?_⟩)
  · obtain ⟨y, zp, bl, dx, ps, ns, n, bs, k, rfl, _⟩ := h
    rfl
  · obtain ⟨y, zp, bl, dx, ps, ns, n, bs, k, rfl, L, hk, q⟩ := h
    obtain ⟨f1, f2⟩ := fg_ok L.wf L.gd
    have bn := L.ln
    refine ⟨_, rfl, y, dx, _, rfl, L.at_, lay_nm (by decide +kernel), _, rfl, y, dx, _, rfl, L.at_, lay_nm (by decide +kernel), y, zp, bl, dx, ps, ns, n, bs, rfl, L, fun M qs H1 hM s1 h1 r1 => ?_⟩
    exact ⟨_, rfl, y, zp, bl, dx, ps, ns, n, bs, M, qs, fgI ns n bs, k, rfl, L.same s1, h1, r1, by omega, f1, hk, fun H2 s2 => q H2 (s1.trans s2)⟩
end
end K26

set_option Elab.async false
set_option linter.all false
set_option maxRecDepth 100000
set_option maxHeartbeats 4000000
/-! Own layer: methods with keywords or defaults within a comprehension's block, or with no argument at all. -/
namespace Ex
open PySem PySem.Spec PySem.Calls PyProof.Rows L2 Gu
section
variable {X : Cx} {k j : Nat} {c m : Str} {ps ks : List Str} {dvs : List V} {sp : Sp} {p pos apos : Pos} {e o : Expr} {es : List Expr} {kws : List Keyword} {t tk : TA} {ta : TE} {f : Str}
theorem pmethKB {pl : Sem Bool} {n : Nat} (K : PySem.W.Frag) (D : MfK X.prog X.w X.K X.mg X.base k c m ps n ks sp) (hr : Room j X.A) (he : PE X o ta) (ha : PA X (e :: es) t) (hkw : PK X kws tk) (hj : k ≤ j := by decide) (hK : X.K = K := by rfl)
    (hst : starEach (e :: es) X.env = (false, eval e X.env) :: starEach es X.env := by rfl)
    (hall : (backToKw pos (keywordEach kws X.env)).all (·.1.isSome) = true := by rfl) (hks : (backToKw pos (keywordEach kws X.env)).filterMap (·.1) = ks := by rfl)
    (hpl : ((backTo pos (starEach (e :: es) X.env)).any (·.1) || (backToKw pos (keywordEach kws X.env)).any (·.1.isNone)) = false := by rfl)
    (ht : eval (.Call (.Attribute o m apos) (e :: es) kws pos) X.env = (do
      let ov ← eval o X.env
      standAt apos.atName
      let (f, first) ← holding [ov] (getMethod ov m pl)
      callWith pos f first (backTo pos (starEach (e :: es) X.env)) (backToKw pos (keywordEach kws X.env))) := by rfl) :
    PE X (.Call (.Attribute o m apos) (e :: es) kws pos) (tMethK (He.ga K c) m sp n ks.length ta t tk) := by
  subst hK
  exact pmethK D hr he ha hkw hj hst hall hks hpl ht
theorem pmethDB {pl : Sem Bool} (K : PySem.W.Frag) (D : MfD X.prog X.w X.K X.mg X.base k c m ps dvs sp) (hr : Room j X.A) (he : PE X o ta) (ha : PA X (e :: es) t) (hj : k ≤ j := by decide) (hK : X.K = K := by rfl)
    (hst : starEach (e :: es) X.env = (false, eval e X.env) :: starEach es X.env := by rfl) (hpl : (backTo pos (starEach es X.env)).any (·.1) = false := by rfl)
    (ht : eval (.Call (.Attribute o m apos) (e :: es) [] pos) X.env = (do
      let ov ← eval o X.env
      standAt apos.atName
      let (f, first) ← holding [ov] (getMethod ov m pl)
      callWith pos f first (backTo pos (starEach (e :: es) X.env)) (backToKw pos (keywordEach [] X.env))) := by rfl) :
    PE X (.Call (.Attribute o m apos) (e :: es) [] pos) (tMeth (He.ga K c) m sp dvs E0 ta t) := by
  subst hK
  exact pmethD D hr he ha hj hst hpl ht
theorem pmethD0 {pl : Sem Bool} (D : MfD X.prog X.w X.K X.mg X.base k c m ps dvs sp) (hr : Room j X.A) (he : PE X o ta) (hj : k ≤ j := by decide)
    (ht : eval (.Call (.Attribute o m apos) [] [] pos) X.env = (do
      let ov ← eval o X.env
      standAt apos.atName
      let (f, first) ← holding [ov] (getMethod ov m pl)
      callWith pos f first (backTo pos (starEach [] X.env)) (backToKw pos (keywordEach [] X.env))) := by rfl) :
    PE X (.Call (.Attribute o m apos) [] [] pos) (tMeth (He.ga X.K c) m sp dvs E0 ta tNil) := by
  obtain ⟨fd, ds, F, v, b⟩ := D.ex
  exact pe_meth0 he D.cl D.me F (hr.mono hj) b v pass0 ht
end
/-- the least of a list -/
def mnL : List Int → Int
  | [] => 0
  | [x] => x
  | x :: y :: r => min x (mnL (y :: r))
theorem mnL_ok : ∀ l : List Int, 0 < l.length → mnL l ∈ l ∧ ∀ y ∈ l, mnL l ≤ y
  | [x], _ => ⟨List.mem_singleton.mpr rfl, fun y h => by rw [List.mem_singleton.mp h]; exact Int.le_refl _⟩
  | x :: y :: r, _ => by
    obtain ⟨h1, h2⟩ := mnL_ok (y :: r) (by simp)
    show min x (mnL (y :: r)) ∈ _ ∧ _
    refine ⟨?_, fun z hz => ?_⟩
    · rcases Int.le_total x (mnL (y :: r)) with h | h
      · rw [Int.min_eq_left h]
        exact List.mem_cons_self
      · rw [Int.min_eq_right h]
        exact List.mem_cons_of_mem _ h1
    · show min x (mnL (y :: r)) ≤ z
      rcases List.mem_cons.mp hz with e | e
      · rw [e]
        exact Int.min_le_left _ _
      · exact Int.le_trans (Int.min_le_right _ _) (h2 z e)
theorem mnL_is {l : List Int} {m : Int} (h : m ∈ l) (k : ∀ y ∈ l, m ≤ y) : m = mnL l := by
  obtain ⟨h1, h2⟩ := mnL_ok l (List.length_pos_of_mem h)
  have := k _ h1
  have := h2 _ h
  omega
end Ex

set_option Elab.async false
set_option linter.all false
set_option maxRecDepth 100000
set_option maxHeartbeats 4000000
namespace K26
open PySem PySem.Spec PyProof.Rows L2 Gu Ex
theorem lay_putB (zp bl : Addr) (n fr : Int) (z : Addr) : putF "block_list" (.ref z) (layF zp n fr bl) = layF zp n fr z := by
  have e : (("size_table" : Str) = ("block_list" : Str)) = False := by
    simp only [eq_iff_iff, iff_false]
    decide +kernel
  have e2 : (("cell_count" : Str) = ("block_list" : Str)) = False := by
    simp only [eq_iff_iff, iff_false]
    decide +kernel
  have e3 : (("free_count" : Str) = ("block_list" : Str)) = False := by
    simp only [eq_iff_iff, iff_false]
    decide +kernel
  simp [layF, putF, e, e2, e3]
section
variable {P : Program} {w : World} {K : PySem.W.Frag} {mg : Str → Option Value} {base : Heap} {f : Addr} {fd : FuncData}
def rowsI (ns : List Int) (n : Int) (bs : List Blk) (cs : List Int) (i : Nat) : List Int := (List.range i).map fun k => slkI ns n bs k cs + sz ns k - 1
def lrgI (ns : List Int) (n : Int) (bs : List Blk) (cs : List Int) : Int := if mnL (rowsI ns n bs cs ns.length) > 0 then mnL (rowsI ns n bs cs ns.length) else 0
def spLarge (K : PySem.W.Frag) : Sp := fun vs H Q _ => ∃ (y zp bl dx : Addr) (ps : List Addr) (ns : List Int) (n : Int) (bs : List Blk) (a : Addr) (cs : List Int), vs = [.ref y, .ref a] ∧ Ly K H y zp bl dx ps ns n bs ∧ Kept K H a cs ∧ (∀ c ∈ cs, 1 ≤ c ∧ c ≤ 1000000000000) ∧ cs.length ≤ 1000 ∧ ∀ H', Same H H' → Q (.int (lrgI ns n bs cs)) H'
theorem sc_largest : FnScope ["self", "kept", "most", "level"] ["self", "kept"] (defScope (inClass (top 31) 29)) := ⟨rfl, rfl, rfl, by decide +kernel, rfl, by decide +kernel, by decide +kernel⟩
theorem ok_large {z0 : Addr} (T : Tx K mg) (M_len : Mf P w K mg base 1 "Sizes" "__len__" ["self"] (spLen K)) (M_slack_kw : MfK P w K mg base 10 "Layout" "slack" ["self", "level", "kept"] 2 ["kept"] (spSlack K)) (M_size : Mf P w K mg base 5 "Sizes" "size" ["self", "level"] (spSize K))
    (F : FnK K "largest" "Layout.largest" (inClass (top 31) 29) [("kept", .ref z0)] f fd) : FnOk P w K mg base CX0 11 f fd ["self", "kept"] (spLarge K) := by
  refine F.ok sc_largest (fun vs H Q E h => ?_) (fun cdv A outer s H vs Q E hr h => ⟨_, PSs.nox (pss_cons (ps_setLc (i := 2) (own := [("level", 3)]) (g := gName 3) rfl sc_largest.nd rfl rfl (sw_true rfl rfl rfl (by decide +kernel)) (pi_range1 rfl T.n_range (pa_cons (pe_callB (call_lenO M_len hr) (by rfl) T.n_len (by decide +kernel) (pa_cons (pe_fld (pv 0) rfl) pa_nil)) pa_nil)) (blkOk_by (own := [("level", 3)]) (N := ["self", "kept", "most", "level"]) (sc := defScope (inClass (top 31) 29)) (by decide +kernel)) (fun _ _ _ _ _ => pg_name (i := 3) sc_largest.nd rfl (Or.inl rfl)) (fun _ _ _ _ _ => pts_nil) (fun _ _ _ _ _ => (pe_op op_sub (pe_op op_add (pmethKB K M_slack_kw hr (pv 0) (pa_cons (pv 3) pa_nil) (pk_cons (pv 1) pk_nil)) (pmethB K M_size hr (pfldB K (pv 0)) (pa_cons (pv 3) pa_nil))) pe_int))) (pss_one (ps_ret (pe_callB (call_max2 rfl) (by rfl) T.n_max (by decide +kernel) (pa_cons pe_int (pa_cons (pe_callB (cr_min rfl) (by rfl) T.n_min (by decide +kernel) (pa_cons (pv 2) pa_nil)) pa_nil)))))), ?_⟩)
  · obtain ⟨y, zp, bl, dx, ps, ns, n, bs, a, cs, rfl, _⟩ := h
    rfl
  · obtain ⟨y, zp, bl, dx, ps, ns, n, bs, a, cs, rfl, L, kp, rg, cl, q⟩ := h
    have sl : sizeLine = 16777216 := sizeLine_eq
    obtain ⟨dz, l, z1, z2⟩ := id L.szs
    have l8 := L.gd.len
    refine ⟨_, rfl, y, _, dx, _, _, rfl, L.at_, T.ly, T.nST, lay_st .., zp, dz, _, rfl, z1, zp, ns, rfl, L.szs, ns.length, rfl, by omega, _, rfl, by omega, by omega, fun D hD => ?_⟩
    refine lc_range (fun i G => G D = some (.lst ((rowsI ns n bs cs i).map V.int)) ∧ Same H G) ⟨upd_same, same_upd hD⟩ ?_ ?_
    · rintro i G hi ⟨hG, sm⟩
      rw [Int.toNat_natCast] at hi
      rw [Int.zero_add]
      have LG := L.same sm
      refine ⟨rfl, _, rfl, y, dx, _, rfl, LG.at_, lay_nm (by decide +kernel), _, rfl, _, rfl, rfl, rfl, y, zp, bl, dx, ps, ns, n, bs, i, a, cs, rfl, LG, hi, kp.same sm, rg, cl, fun G1 s1 => ?_⟩
      have L1 := LG.same s1
      obtain ⟨dz, l, z1, z2⟩ := id L1.szs
      refine ⟨_, rfl, y, _, dx, _, _, rfl, L1.at_, T.ly, T.nST, lay_st .., zp, dz, _, rfl, z1, szF_no l (by decide +kernel), _, rfl, zp, ns, i, _, rfl, L1.szs, sz_at hi, _, _, rfl, rfl, _, _, rfl, rfl, _, s1 _ _ hG, ?_, ?_, fun c o e => ?_⟩
      · unfold rowsI
        rw [List.length_map, List.length_map, List.length_range]
        omega
      · unfold rowsI
        rw [upd_same, List.range_succ, List.map_append, List.map_append]
        rfl
      · rw [upd_ne (ne_of_none e hD)]
        exact s1 _ _ (sm c o e)
    · rintro G ⟨hG, sm⟩
      rw [Int.toNat_natCast] at hG
      refine ⟨_, rfl, D, _, rfl, SqL.of hG, (by unfold rowsI; rw [List.length_map, List.length_range]; omega), fun m h1 h2 => ?_⟩
      obtain rfl := mnL_is h1 h2
      exact ⟨_, _, rfl, q G sm⟩
end
end K26

set_option Elab.async false
set_option linter.all false
set_option maxRecDepth 100000
set_option maxHeartbeats 400000
set_option pp.maxSteps 900
namespace K26
open PySem PySem.Spec PyProof.Rows L2 Gu Ex
/-- is it a level? -/
def lvB (ns : List Int) : V → Bool
  | .int i => decide (0 ≤ i ∧ i < ns.length)
  | _ => false
section
variable {P : Program} {w : World} {K : PySem.W.Frag} {mg : Str → Option Value} {base : Heap} {f : Addr} {fd : FuncData}
def spHasA (K : PySem.W.Frag) : Sp := fun vs H Q _ => ∃ (p : Addr) (ns : List Int) (v : V), vs = [.ref p, v] ∧ SzAt (He.ga K "Sizes") H p ns ∧ Any H v ∧ lvB ns v = false ∧ Q (.bl false) H
theorem ok_hasA (T : Tx K mg) (D_is_integer : Df P w K mg base 1 "is_integer" ["value"] spIntA) (P_top : Pf P w K mg base 1 "Sizes" "top" (spTop K)) (F : FnP K "has_level" "Sizes.has_level" (inClass (top 20) 12) f fd) :
    FnOk P w K mg base CX0 3 f fd ["self", "level"] (spHasA K) := by
  refine F.ok sc_has_level (fun vs H Q E h => ?_) (fun cdv A outer s H vs Q E hr h => ⟨_, PSs.nox (pss_one (ps_ret (pe_and (pcall D_is_integer hr (pa_cons (pv 1) pa_nil)) (pe_one (pe_chain op_le op_le pe_int (pv 1) (pprop P_top hr (pv 0))))))), ?_⟩)
  · obtain ⟨p, ns, v, rfl, _⟩ := h
    rfl
  · obtain ⟨p, ns, v, rfl, hz, hv, no, q⟩ := h
    obtain ⟨dx, l, h1, h2⟩ := id hz
    refine ⟨_, rfl, v, rfl, hv, _, rfl, ?_⟩
    cases v with
    | int i =>
      refine iteT ?_
      by_cases i0 : 0 ≤ i
      · refine ⟨_, rfl, _, _, rfl, rfl, true, bT i0, iteT ?_⟩
        refine ⟨_, rfl, p, dx, _, rfl, h1, p, ns, rfl, hz, _, _, rfl, rfl, ?_⟩
        have e : decide (i ≤ (ns.length : Int) - 1) = false := decide_eq_false fun z => by
          have := of_decide_eq_false no
          omega
        show Q (.bl (decide (i ≤ (ns.length : Int) - 1))) H
        rw [e]
        exact q
      · exact ⟨_, rfl, _, _, rfl, rfl, false, bF i0, iteF q⟩
    | _ => exact iteF q
def spChkR (K : PySem.W.Frag) : Sp := fun vs H Q E => ∃ (p : Addr) (ns : List Int) (v : V), vs = [.ref p, v] ∧ SzAt (He.ga K "Sizes") H p ns ∧ Any H v ∧ lvB ns v = false ∧ Raised K "InvalidLevel" "value" v H E
theorem ok_chkR (T : Tx K mg) (M_has_level : Mf P w K mg base 3 "Sizes" "has_level" ["self", "level"] (spHasA K)) (M : Ex.Ei P w K mg base "InvalidLevel" "value") (F : FnP K "check_level" "Sizes.check_level" (inClass (top 20) 13) f fd) :
    FnOk P w K mg base (L2.CX P w) 4 f fd ["self", "level"] (spChkR K) := by
  obtain ⟨fdI, FI, bI⟩ := M.ex
  refine F.ok sc_check_level (fun vs H Q E h => ?_) (fun cdv A outer s H vs Q E hr h => ⟨_, (pss_one (ps_if (pt_not (pt_val (pmeth M_has_level hr (pv 0) (pa_cons (pv 1) pa_nil)))) (pss_one (ps_raise rfl (takes_of (E := E) rfl rfl rfl rfl) (pmk_oexG T.eL.ox T.eL.ii T.eL.ti FI (hr.mono (by decide)) bI .nil pass0 rfl T.g_InvalidLevel (pa_cons (pv 1) pa_nil)))) pss_nil)), ?_⟩)
  · obtain ⟨p, ns, v, rfl, _⟩ := h
    rfl
  · obtain ⟨p, ns, v, rfl, hz, hv, no, q⟩ := h
    obtain ⟨dx, l, h1, h2⟩ := id hz
    exact ⟨_, rfl, p, dx, _, rfl, h1, szF_no l (by decide +kernel), _, rfl, p, ns, v, rfl, hz, hv, no, _, rfl, iteT ⟨_, rfl, (by show 1 ≤ 1000; decide), raise_ok q⟩⟩
theorem ok_sizeR (T : Tx K mg) (M_check_level : MfX P w K mg base 4 "Sizes" "check_level" ["self", "level"] (spChkR K)) (F : FnP K "size" "Sizes.size" (inClass (top 20) 14) f fd) :
    FnOk P w K mg base (L2.CX P w) 5 f fd ["self", "level"] (spChkR K) := by
  refine F.ok sc_size (fun vs H Q E h => ?_) (fun cdv A outer s H vs Q E hr h => ⟨_, (pss_cons (ps_expr (pmethX M_check_level hr (passX (takes_of (E := E) rfl rfl rfl rfl)) (pv 0) (pa_cons (pv 1) pa_nil))) (pss_one (ps_ret (pe_ix ix_list (pe_fld (pv 0) rfl) (pv 1) (fun _ _ => rfl))))), ?_⟩)
  · obtain ⟨p, ns, v, rfl, _⟩ := h
    rfl
  · obtain ⟨p, ns, v, rfl, hz, hv, no, q⟩ := h
    obtain ⟨dx, l, h1, h2⟩ := id hz
    exact ⟨_, rfl, p, dx, _, rfl, h1, szF_no l (by decide +kernel), _, rfl, p, ns, v, rfl, hz, hv, no, q⟩
def spRinR (K : PySem.W.Frag) : Sp := fun vs H Q E => ∃ (y zp bl dx : Addr) (ps : List Addr) (ns : List Int) (n : Int) (bs : List Blk) (g v : V), vs = [.ref y, g, v] ∧ Ly K H y zp bl dx ps ns n bs ∧ Any H v ∧ lvB ns v = false ∧ Raised K "InvalidLevel" "value" v H E
theorem ok_rinR (T : Tx K mg) (M_check_level : MfX P w K mg base 4 "Sizes" "check_level" ["self", "level"] (spChkR K)) (D_count_regions : Df P w K mg base 7 "count_regions" ["sizes", "level", "low", "high"] (spCount K)) (F : FnP K "regions_in" "Layout.regions_in" (inClass (top 31) 21) f fd) :
    FnOk P w K mg base (L2.CX P w) 8 f fd ["self", "gaps", "level"] (spRinR K) := by
  refine F.ok sc_regions_in (fun vs H Q E h => ?_) (fun cdv A outer s H vs Q E hr h => ⟨_, (pss_cons (ps_expr (pmethX M_check_level hr (passX (takes_of (E := E) rfl rfl rfl rfl)) (pe_fld (pv 0) rfl) (pa_cons (pv 2) pa_nil))) (pss_one (ps_ret (pe_callB (cr_sum rfl) (by rfl) T.n_sum (by decide +kernel) (pa_cons (pe_lc (own := [("low", 3), ("high", 4)]) (g := gTup K 2 (gCons (gName 3) (gCons (gName 4) gNil))) rfl sc_regions_in.nd (pi_list (pv 1)) (blkOk_by (own := [("low", 3), ("high", 4)]) (N := ["self", "gaps", "level", "low", "high"]) (sc := defScope (inClass (top 31) 21)) (by decide +kernel)) (fun _ _ _ _ _ => pg_tup rfl (pgs_cons (pg_name (i := 3) sc_regions_in.nd rfl (Or.inl rfl)) (pgs_cons (pg_name (i := 4) sc_regions_in.nd rfl (Or.inl rfl)) pgs_nil))) (fun _ _ _ _ _ => pts_nil) (fun _ _ _ _ _ => (pcall D_count_regions hr (pa_cons (pfldB K (pv 0)) (pa_cons (pv 2) (pa_cons (pv 3) (pa_cons (pv 4) pa_nil))))))) pa_nil))))), ?_⟩)
  · obtain ⟨y, zp, bl, dx, ps, ns, n, bs, g, v, rfl, _⟩ := h
    rfl
  · obtain ⟨y, zp, bl, dx, ps, ns, n, bs, g, v, rfl, L, hv, no, q⟩ := h
    obtain ⟨dz, l, zz, zl⟩ := L.szs
    exact ⟨_, rfl, y, _, dx, _, _, rfl, L.at_, T.ly, T.nST, lay_st .., zp, dz, _, rfl, zz, szF_no l (by decide +kernel), _, rfl, zp, ns, v, rfl, L.szs, hv, no, q⟩
def spLvR (K : PySem.W.Frag) : Sp := fun vs H Q E => ∃ (y zp bl dx : Addr) (ps : List Addr) (ns : List Int) (n : Int) (bs : List Blk) (v : V), vs = [.ref y, v] ∧ Ly K H y zp bl dx ps ns n bs ∧ Any H v ∧ lvB ns v = false ∧ Raised K "InvalidLevel" "value" v H E
theorem ok_frR (T : Tx K mg) (M_free_gaps : Mf P w K mg base 7 "Layout" "free_gaps" ["self"] (spFg K)) (M_regions_in : MfX P w K mg base 8 "Layout" "regions_in" ["self", "gaps", "level"] (spRinR K)) (F : FnP K "free_regions" "Layout.free_regions" (inClass (top 31) 22) f fd) :
    FnOk P w K mg base (L2.CX P w) 9 f fd ["self", "level"] (spLvR K) := by
  refine F.ok sc_free_regions (fun vs H Q E h => ?_) (fun cdv A outer s H vs Q E hr h => ⟨_, (pss_one (ps_ret (pmethX M_regions_in hr (passX (takes_of (E := E) rfl rfl rfl rfl)) (pv 0) (pa_cons (pmeth0 M_free_gaps hr (pv 0)) (pa_cons (pv 1) pa_nil))))), ?_⟩)
  · obtain ⟨y, zp, bl, dx, ps, ns, n, bs, v, rfl, _⟩ := h
    rfl
  · obtain ⟨y, zp, bl, dx, ps, ns, n, bs, v, rfl, L, hv, no, q⟩ := h
    refine ⟨_, rfl, y, dx, _, rfl, L.at_, lay_nm (by decide +kernel), _, rfl, y, dx, _, rfl, L.at_, lay_nm (by decide +kernel), y, zp, bl, dx, ps, ns, n, bs, rfl, L, fun M qs H' hM s1 hM1 rf => ?_⟩
    exact ⟨_, rfl, y, zp, bl, dx, ps, ns, n, bs, .ref M, v, rfl, L.same s1, hv.same s1, no, q.same s1⟩
theorem ok_clearR (T : Tx K mg) (M_pinned_ranges : Mf P w K mg base 7 "Layout" "pinned_ranges" ["self"] (spPinned K)) (D_gaps_between : Df P w K mg base 1 "gaps_between" ["ranges", "length"] spGaps) (M_regions_in : MfX P w K mg base 8 "Layout" "regions_in" ["self", "gaps", "level"] (spRinR K))
    (M_size : Mf P w K mg base 5 "Sizes" "size" ["self", "level"] (spSize K)) (F : FnP K "clear_cells" "Layout.clear_cells" (inClass (top 31) 24) f fd) : FnOk P w K mg base (L2.CX P w) 9 f fd ["self", "level"] (spLvR K) := by
  refine F.ok sc_clear_cells (fun vs H Q E h => ?_) (fun cdv A outer s H vs Q E hr h => ⟨_, (pss_cons (ps_set (i := 2) sc_clear_cells.nd rfl (by first | exact Or.inl rfl | exact Or.inr rfl) (pcall D_gaps_between hr (pa_cons (pmeth0 M_pinned_ranges hr (pv 0)) (pa_cons (pe_fld (pv 0) rfl) pa_nil)))) (pss_one (ps_ret (pe_op op_mul (pmethX M_regions_in hr (passX (takes_of (E := E) rfl rfl rfl rfl)) (pv 0) (pa_cons (pv 2) (pa_cons (pv 1) pa_nil))) (pmeth M_size hr (pe_fld (pv 0) rfl) (pa_cons (pv 1) pa_nil)))))), ?_⟩)
  · obtain ⟨y, zp, bl, dx, ps, ns, n, bs, v, rfl, _⟩ := h
    rfl
  · obtain ⟨y, zp, bl, dx, ps, ns, n, bs, v, rfl, L, hv, no, q⟩ := h
    have bn := L.ln
    have pr : (pinR ns bs).length ≤ 1000 := by
      unfold pinR
      rw [List.length_map]
      exact Nat.le_trans (List.length_filter_le _ _) bn
    refine ⟨_, rfl, y, dx, _, rfl, L.at_, lay_nm (by decide +kernel), y, zp, bl, dx, ps, ns, n, bs, rfl, L, fun D rs H1 hD s1 h1 r1 => ?_⟩
    have L1 := L.same s1
    refine ⟨_, rfl, y, _, dx, _, _, rfl, L1.at_, T.ly, T.nCC, lay_cc .., D, n, rs, _, rfl, h1, r1, pr, fun M qs H2 hM s2 h2 r2 => ?_⟩
    have L2 := L1.same s2
    exact ⟨_, rfl, y, dx, _, rfl, L2.at_, lay_nm (by decide +kernel), _, rfl, _, rfl, y, zp, bl, dx, ps, ns, n, bs, .ref M, v, rfl, L2, (hv.same s1).same s2, no, (q.same s1).same s2⟩
theorem ok_looseR (T : Tx K mg) (M_check_level : MfX P w K mg base 4 "Sizes" "check_level" ["self", "level"] (spChkR K)) (M_unpinned_levels : Mf P w K mg base 1 "Layout" "unpinned_levels" ["self"] (spLevels K)) (M_size : Mf P w K mg base 5 "Sizes" "size" ["self", "level"] (spSize K))
    (F : FnP K "unpinned_cells" "Layout.unpinned_cells" (inClass (top 31) 25) f fd) : FnOk P w K mg base (L2.CX P w) 6 f fd ["self", "level"] (spLvR K) := by
  refine F.ok sc_unpinned_cells (fun vs H Q E h => ?_) (fun cdv A outer s H vs Q E hr h => ⟨_, (pss_cons (ps_expr (pmethX M_check_level hr (passX (takes_of (E := E) rfl rfl rfl rfl)) (pe_fld (pv 0) rfl) (pa_cons (pv 1) pa_nil))) (pss_cons (ps_set (i := 2) sc_unpinned_cells.nd rfl (by first | exact Or.inl rfl | exact Or.inr rfl) (pmeth0 M_unpinned_levels hr (pv 0))) (pss_one (ps_ret (pe_callB (cr_sum rfl) (by rfl) T.n_sum (by decide +kernel) (pa_cons (pe_lock (pe_lc (own := [("address", 3)]) (g := gName 3) rfl sc_unpinned_cells.nd (pi_keys (pv 2)) (blkOk_by (own := [("address", 3)]) (N := ["self", "level", "levels", "address"]) (sc := defScope (inClass (top 31) 25)) (by decide +kernel)) (fun _ _ _ _ _ => pg_name (i := 3) sc_unpinned_cells.nd rfl (Or.inl rfl)) (fun _ _ _ _ _ => (pts_one (pt_cmpR op_ge (pe_dget (hu_of hr) (pv 2) (pv 3) (fun _ _ => rfl)) (pv 1) (nomark _)))) (fun _ _ _ _ _ => (pmethB K M_size hr (pfldB K (pv 0)) (pa_cons (pe_dget (hu_of hr) (pv 2) (pv 3) (fun _ _ => rfl)) pa_nil))))) pa_nil)))))), ?_⟩)
  · obtain ⟨y, zp, bl, dx, ps, ns, n, bs, v, rfl, _⟩ := h
    rfl
  · obtain ⟨y, zp, bl, dx, ps, ns, n, bs, v, rfl, L, hv, no, q⟩ := h
    obtain ⟨dz, l, zz, zl⟩ := L.szs
    exact ⟨_, rfl, y, _, dx, _, _, rfl, L.at_, T.ly, T.nST, lay_st .., zp, dz, _, rfl, zz, szF_no l (by decide +kernel), _, rfl, zp, ns, v, rfl, L.szs, hv, no, q⟩
/-- slack of no level, whatever is kept -/
def spSlackL (K : PySem.W.Frag) : Sp := fun vs H Q E => ∃ (y zp bl dx : Addr) (ps : List Addr) (ns : List Int) (n : Int) (bs : List Blk) (v k : V), vs = [.ref y, v, k] ∧ Ly K H y zp bl dx ps ns n bs ∧ Any H v ∧ lvB ns v = false ∧ Raised K "InvalidLevel" "value" v H E
theorem ok_slackL {z0 : Addr} (T : Tx K mg) (M_clear_cells : MfX P w K mg base 9 "Layout" "clear_cells" ["self", "level"] (spLvR K)) (M_unpinned_cells : Mf P w K mg base 6 "Layout" "unpinned_cells" ["self", "level"] (spLoose K)) (D_check_numbers : Df P w K mg base 3 "check_numbers" ["value"] (spNums K))
    (M_whole : Mf P w K mg base 6 "Sizes" "whole" ["self", "cells", "level"] (spWhole K)) (F : FnK K "slack" "Layout.slack" (inClass (top 31) 26) [("kept", .ref z0)] f fd) : FnOk P w K mg base (L2.CX P w) 10 f fd ["self", "level", "kept"] (spSlackL K) := by
  refine F.ok sc_slack (fun vs H Q E h => ?_) (fun cdv A outer s H vs Q E hr h => ⟨_, (pss_cons (ps_set (i := 3) sc_slack.nd rfl (by first | exact Or.inl rfl | exact Or.inr rfl) (pe_op op_sub (pmethX M_clear_cells hr (passX (takes_of (E := E) rfl rfl rfl rfl)) (pv 0) (pa_cons (pv 1) pa_nil)) (pmeth M_unpinned_cells hr (pv 0) (pa_cons (pv 1) pa_nil)))) (pss_cons (ps_expr (pcall D_check_numbers hr (pa_cons (pv 2) pa_nil))) (pss_one (ps_ret (pe_op op_sub (pv 3) (pe_callB (cr_sum rfl) (by rfl) T.n_sum (by decide +kernel) (pa_cons (pe_lc (own := [("number", 4)]) (g := gName 4) rfl sc_slack.nd (pi_or (pi_list (pv 2)) (pi_tup (pv 2))) (blkOk_by (own := [("number", 4)]) (N := ["self", "level", "kept", "cells", "number"]) (sc := defScope (inClass (top 31) 26)) (by decide +kernel)) (fun _ _ _ _ _ => pg_name (i := 4) sc_slack.nd rfl (Or.inl rfl)) (fun _ _ _ _ _ => pts_nil) (fun _ _ _ _ _ => (pmethB K M_whole hr (pfldB K (pv 0)) (pa_cons (pv 4) (pa_cons (pv 1) pa_nil))))) pa_nil))))))), ?_⟩)
  · obtain ⟨y, zp, bl, dx, ps, ns, n, bs, v, k, rfl, _⟩ := h
    rfl
  · obtain ⟨y, zp, bl, dx, ps, ns, n, bs, v, k, rfl, L, hv, no, q⟩ := h
    exact ⟨_, rfl, y, dx, _, rfl, L.at_, lay_nm (by decide +kernel), _, rfl, y, zp, bl, dx, ps, ns, n, bs, v, rfl, L, hv, no, q⟩
end
end K26

set_option Elab.async false
set_option linter.all false
set_option maxRecDepth 100000
set_option maxHeartbeats 400000
set_option pp.maxSteps 900
namespace K26
open PySem PySem.Spec PyProof.Rows L2 Gu Ex
def cellsB : V → Bool
  | .int i => decide (1 ≤ i ∧ i ≤ 1000000000000)
  | _ => false
/-- values that are no list and no tuple -/
inductive NotSq (H : Hp) : V → Prop
  | non : NotSq H .non
  | bl (b : Bool) : NotSq H (.bl b)
  | int (i : Int) : NotSq H (.int i)
  | str (x : Str) : NotSq H (.str x)
  | dct {a : Addr} {kvs : List (Key × V)} : H a = some (.dK kvs) → NotSq H (.ref a)
/-- no numbers of cells: the position of the first problem -/
def NumBad (H : Hp) (v : V) (pos : Nat) : Prop := (NotSq H v ∧ pos = 0) ∨ ∃ a xs y, v = .ref a ∧ (H a = some (.lst xs) ∨ H a = some (.tup xs)) ∧ xs[pos]? = some y ∧ cellsB y = false ∧ (∀ j z, j ≤ pos → xs[j]? = some z → Any H z) ∧ ∀ j z, j < pos → xs[j]? = some z → cellsB z = true
theorem NotSq.same {H H' : Hp} {v : V} (h : NotSq H v) (s : Same H H') : NotSq H' v := by
  cases h with
  | non => exact .non
  | bl b => exact .bl b
  | int i => exact .int i
  | str x => exact .str x
  | dct e => exact .dct (s _ _ e)
theorem NumBad.same {H H' : Hp} {v : V} {pos : Nat} (h : NumBad H v pos) (s : Same H H') : NumBad H' v pos := by
  rcases h with ⟨a, b⟩ | ⟨a, xs, y, e, l, y1, y2, any, ok⟩
  · exact .inl ⟨a.same s, b⟩
  · exact .inr ⟨a, xs, y, e, l.imp (s _ _) (s _ _), y1, y2, fun j z hj hz => (any j z hj hz).same s, ok⟩
theorem NotSq.ty {K : PySem.W.Frag} {H : Hp} {v : V} (h : NotSq H v) : ∃ T, TyX K H v (.type T) ∧ PySem.W.kitAny K (.type T) [.type "list", .type "tuple"] = some false := by
  cases h with
  | non => exact ⟨"NoneType", .base .non, by rfl⟩
  | bl b => exact ⟨"bool", .base (.bl b), by rfl⟩
  | int i => exact ⟨"int", .base (.int i), by rfl⟩
  | str x => exact ⟨"str", .base (.str x), by rfl⟩
  | dct e => exact ⟨"dict", .base (.dK e), by rfl⟩
section
variable {P : Program} {w : World} {K : PySem.W.Frag} {mg : Str → Option Value} {base : Heap} {f : Addr} {fd : FuncData}
def spCellsA : Sp := fun vs H Q _ => ∃ v : V, vs = [v] ∧ Any H v ∧ Q (.bl (cellsB v)) H
theorem ok_is_cellsA (T : Tx K mg) (D_is_integer : Df P w K mg base 1 "is_integer" ["value"] spIntA) (F : FnP K "is_cells" "is_cells" (top 15) f fd) : FnOk P w K mg base CX0 2 f fd ["value"] spCellsA := by
  refine F.ok sc_is_cells (fun vs H Q E h => ?_) (fun cdv A outer s H vs Q E hr h => ⟨_, PSs.nox (pss_one (ps_ret (pe_and (pcall D_is_integer hr (pa_cons (pv 0) pa_nil)) (pe_one (pe_chain op_le op_le pe_int (pv 0) (ClX.pe_cval (pe_glob (v := .ref _) rfl T.g_Sizes rfl))))))), ?_⟩)
  · obtain ⟨v, rfl, _⟩ := h
    rfl
  · obtain ⟨v, rfl, hv, q⟩ := h
    obtain ⟨u, cC⟩ := T.cC
    refine ⟨_, rfl, v, rfl, hv, _, rfl, ?_⟩
    cases v with
    | int i =>
      refine iteT ⟨_, rfl, _, _, rfl, rfl, _, rfl, ?_⟩
      by_cases h1 : (1 : Int) ≤ i
      · refine ifT (decide_eq_true h1) ⟨_, _, _, _, rfl, T.rd, cC, _, _, rfl, rfl, ?_⟩
        have e : cellsB (.int i) = decide (i ≤ 1000000000000) := by
          show decide (1 ≤ i ∧ i ≤ 1000000000000) = _
          by_cases h2 : i ≤ 1000000000000
          · rw [decide_eq_true ⟨h1, h2⟩, decide_eq_true h2]
          · rw [decide_eq_false fun z => h2 z.2, decide_eq_false h2]
        rw [e] at q
        exact q
      · have e : cellsB (.int i) = false := decide_eq_false fun z => h1 z.1
        rw [e] at q
        exact ifF (decide_eq_false h1) q
    | _ => exact iteF q
theorem sc_InvalidNumber_init : FnScope ["self", "value"] ["self", "value"] (defScope (inClass (top 5) 0)) := ⟨rfl, rfl, rfl, by decide +kernel, rfl, by decide +kernel, by decide +kernel⟩
theorem ok_errN (T : Tx K mg) (F : FnP K "__init__" "InvalidNumber.__init__" (inClass (top 5) 0) f fd) : FnOk P w K mg base CX0 1 f fd ["self", "value"] (Ex.spErr (cNu K) "value") := by
  refine F.ok sc_InvalidNumber_init (fun vs H Q E h => ?_) (fun cdv A outer s H vs Q E hr h => ⟨_, PSs.nox (pss_one (ps_fst (B := "ValueError") (tl := tailE "ValueError") (pv 0) (pv 1))), ?_⟩)
  · obtain ⟨a, v, rfl, _⟩ := h
    rfl
  · obtain ⟨a, v, rfl, ha, q⟩ := h
    exact ⟨_, rfl, _, rfl, a, cNu K, rfl, T.eNu.ox, T.eNu.no, ha, q⟩
theorem sc_InvalidLevel_init : FnScope ["self", "value"] ["self", "value"] (defScope (inClass (top 4) 0)) := ⟨rfl, rfl, rfl, by decide +kernel, rfl, by decide +kernel, by decide +kernel⟩
theorem ok_errL (T : Tx K mg) (F : FnP K "__init__" "InvalidLevel.__init__" (inClass (top 4) 0) f fd) : FnOk P w K mg base CX0 1 f fd ["self", "value"] (Ex.spErr (cL K) "value") := by
  refine F.ok sc_InvalidLevel_init (fun vs H Q E h => ?_) (fun cdv A outer s H vs Q E hr h => ⟨_, PSs.nox (pss_one (ps_fst (B := "ValueError") (tl := tailE "ValueError") (pv 0) (pv 1))), ?_⟩)
  · obtain ⟨a, v, rfl, _⟩ := h
    rfl
  · obtain ⟨a, v, rfl, ha, q⟩ := h
    exact ⟨_, rfl, _, rfl, a, cL K, rfl, T.eL.ox, T.eL.no, ha, q⟩
theorem sc_InvalidNumbers_init : FnScope ["self", "position"] ["self", "position"] (defScope (inClass (top 6) 0)) := ⟨rfl, rfl, rfl, by decide +kernel, rfl, by decide +kernel, by decide +kernel⟩
theorem ok_errNs (T : Tx K mg) (F : FnP K "__init__" "InvalidNumbers.__init__" (inClass (top 6) 0) f fd) : FnOk P w K mg base CX0 1 f fd ["self", "position"] (Ex.spErr (cNs K) "position") := by
  refine F.ok sc_InvalidNumbers_init (fun vs H Q E h => ?_) (fun cdv A outer s H vs Q E hr h => ⟨_, PSs.nox (pss_one (ps_fst (B := "ValueError") (tl := tailE "ValueError") (pv 0) (pv 1))), ?_⟩)
  · obtain ⟨a, v, rfl, _⟩ := h
    rfl
  · obtain ⟨a, v, rfl, ha, q⟩ := h
    exact ⟨_, rfl, _, rfl, a, cNs K, rfl, T.eNs.ox, T.eNs.no, ha, q⟩
def spCheckC (K : PySem.W.Frag) : Sp := fun vs H Q E => ∃ v : V, vs = [v] ∧ Any H v ∧ (cellsB v = true → Q .non H) ∧ (cellsB v = false → Raised K "InvalidNumber" "value" v H E)
theorem ok_check_cellsX (T : Tx K mg) (D_is_cells : Df P w K mg base 2 "is_cells" ["value"] spCellsA) (M : Ex.Ei P w K mg base "InvalidNumber" "value") (F : FnP K "check_cells" "check_cells" (top 16) f fd) : FnOk P w K mg base (L2.CX P w) 4 f fd ["value"] (spCheckC K) := by
  obtain ⟨fdI, FI, bI⟩ := M.ex
  refine F.ok sc_check_cells (fun vs H Q E h => ?_) (fun cdv A outer s H vs Q E hr h => ⟨_, (pss_one (ps_if (pt_not (pt_val (pcall D_is_cells hr (pa_cons (pv 0) pa_nil)))) (pss_one (ps_raise rfl (takes_of (E := E) rfl rfl rfl rfl) (pmk_oexG T.eNu.ox T.eNu.ii T.eNu.ti FI (hr.mono (by decide)) bI .nil pass0 rfl T.g_InvalidNumber (pa_cons (pv 0) pa_nil)))) pss_nil)), ?_⟩)
  · obtain ⟨v, rfl, _⟩ := h
    rfl
  · obtain ⟨v, rfl, hv, q1, q2⟩ := h
    refine ⟨_, rfl, v, rfl, hv, _, rfl, ?_⟩
    cases e : cellsB v with
    | true => exact iteF (q1 e)
    | false => exact iteT ⟨_, rfl, (by show 1 ≤ 1000; decide), raise_ok (q2 e)⟩
def spNumsR (K : PySem.W.Frag) : Sp := fun vs H Q E => ∃ (v : V) (pos : Nat), vs = [v] ∧ NumBad H v pos ∧ Raised K "InvalidNumbers" "position" (.int pos) H E
theorem ok_numsR (T : Tx K mg) (D_is_cells : Df P w K mg base 2 "is_cells" ["value"] spCellsA) (M : Ex.Ei P w K mg base "InvalidNumbers" "position") (F : FnP K "check_numbers" "check_numbers" (top 17) f fd) : FnOk P w K mg base (L2.CX P w) 3 f fd ["value"] (spNumsR K) := by
  obtain ⟨fdI, FI, bI⟩ := M.ex
  refine F.ok sc_check_numbers (fun vs H Q E h => ?_) (fun cdv A outer s H vs Q E hr h => ⟨_, (pss_cons (ps_if (pt_not (pt_val (pe_callB call_isiT (by rfl) T.n_isinstance (by decide +kernel) (pa_cons (pv 0) (pa_cons (pe_tup (pa_cons (pe_bltn (v := .ty "list") (by rfl) T.n_list (by decide +kernel) rfl) (pa_cons (pe_bltn (v := .ty "tuple") (by rfl) T.n_tuple (by decide +kernel) rfl) pa_nil))) pa_nil))))) (pss_one (ps_raise rfl (takes_of (E := E) rfl rfl rfl rfl) (pmk_oexG T.eNs.ox T.eNs.ii T.eNs.ti FI (hr.mono (by decide)) bI .nil pass0 rfl T.g_InvalidNumbers (pa_cons pe_int pa_nil)))) pss_nil) (pss_one (ps_for (passes_of rfl) rfl (pi_or (pi_enum rfl T.n_enumerate (pa_cons (pv 0) pa_nil)) (pi_enumT rfl T.n_enumerate (pa_cons (pv 0) pa_nil))) (pg_tup (by rfl) (pgs_cons (pg_name (i := 1) sc_check_numbers.nd rfl (by first | exact Or.inl rfl | exact Or.inr rfl)) (pgs_cons (pg_name (i := 2) sc_check_numbers.nd rfl (by first | exact Or.inl rfl | exact Or.inr rfl)) pgs_nil))) (pss_one (ps_if (pt_not (pt_val (pcall D_is_cells hr (pa_cons (pv 2) pa_nil)))) (pss_one (ps_raise rfl (takes_of (E := E) rfl rfl rfl rfl) (pmk_oexG T.eNs.ox T.eNs.ii T.eNs.ti FI (hr.mono (by decide)) bI .nil pass0 rfl T.g_InvalidNumbers (pa_cons (pv 1) pa_nil)))) pss_nil))))), ?_⟩)
  · obtain ⟨v, pos, rfl, _⟩ := h
    rfl
  · obtain ⟨v, pos, rfl, bad0, q0⟩ := h
    refine ⟨_, rfl, by show 2 ≤ sizeLine; decide, fun t ht => ?_⟩
    have sm0 : Same H (upd H t (.tup [.ty "list", .ty "tuple"])) := same_upd ht
    have tt : (upd H t (.tup [.ty "list", .ty "tuple"])) t = some (.tup [.ty "list", .ty "tuple"]) := upd_same
    have bad := bad0.same sm0
    have q := q0.same sm0
    generalize upd H t (.tup [.ty "list", .ty "tuple"]) = H0 at tt bad q
    rcases bad with ⟨ns, rfl⟩ | ⟨a, xs, y, rfl, l, y1, y2, any, ok⟩
    · obtain ⟨Ty, ty, k1⟩ := ns.ty (K := K)
      exact ⟨_, t, _, _, [.type "list", .type "tuple"], false, rfl, tt, .cons (.ty "list") (.cons (.ty "tuple") .nil), ty, k1, _, rfl, iteT ⟨(by show 1 ≤ 1000; decide), raise_ok q⟩⟩
    · have pl := (List.getElem?_eq_some_iff.mp y1).1
      have turn : ∀ (i : Nat) (x1 x2 : Option V) (G : Hp) (y3 : V), Same H0 G → xs[i]? = some y3 → i ≤ pos → Any G y3 := fun i _ _ G y3 sm e2 hi => (any i y3 hi e2).same sm
      rcases l with l | l
      · have sq : SqL K H0 a xs := SqL.of l
        refine ⟨_, t, _, _, [.type "list", .type "tuple"], true, rfl, tt, .cons (.ty "list") (.cons (.ty "tuple") .nil), .base (.lst l), by rfl, _, rfl, iteF ?_⟩
        refine .inl ⟨_, rfl, a, _, rfl, sq, ?_⟩
        refine for_it (walk_enum (xs := xs)) (fun i σ G => i ≤ pos ∧ Same H0 G ∧ (∃ x y, σ = [some (.ref a), x, y])) ⟨Nat.zero_le _, Same.refl H0, none, none, rfl⟩ (fun i σ G _ hh => hh.2.1.seq sq) ?_ ?_
        · rintro i x σ G G2 hi ⟨ip, s0, ⟨x1, x2, rfl⟩⟩ ⟨T', z1, z2, rfl, hT, rfl, e1, e2⟩
          cases e1
          replace e2 : xs[i]? = some z2 := e2
          have s1 := s0.trans (same_upd (o := .tup [.int (i : Nat), z2]) hT)
          refine ⟨T', _, rfl, .inl (.inl upd_same), rfl, _, _, rfl, _, _, rfl, rfl, ?_⟩
          refine ⟨_, rfl, z2, rfl, (any i z2 ip e2).same s1, _, rfl, ?_⟩
          by_cases ei : i = pos
          · subst ei
            rw [y1] at e2
            cases e2
            rw [y2]
            exact iteT ⟨_, rfl, (by show 1 ≤ 1000; decide), raise_ok (q.same s1)⟩
          · rw [ok i z2 (by omega) e2]
            exact iteF ⟨by omega, s1, _, _, rfl⟩
        · rintro σ G ⟨ip, _⟩
          omega
      · have sq : SqT K H0 a xs := SqT.of l
        refine ⟨_, t, _, _, [.type "list", .type "tuple"], true, rfl, tt, .cons (.ty "list") (.cons (.ty "tuple") .nil), .base (.tup l), by rfl, _, rfl, iteF ?_⟩
        refine .inr ⟨_, rfl, a, _, rfl, sq, ?_⟩
        refine for_it (walk_enumT (xs := xs)) (fun i σ G => i ≤ pos ∧ Same H0 G ∧ (∃ x y, σ = [some (.ref a), x, y])) ⟨Nat.zero_le _, Same.refl H0, none, none, rfl⟩ (fun i σ G _ hh => sqT_same hh.2.1 sq) ?_ ?_
        · rintro i x σ G G2 hi ⟨ip, s0, ⟨x1, x2, rfl⟩⟩ ⟨T', z1, z2, rfl, hT, rfl, e1, e2⟩
          cases e1
          replace e2 : xs[i]? = some z2 := e2
          have s1 := s0.trans (same_upd (o := .tup [.int (i : Nat), z2]) hT)
          refine ⟨T', _, rfl, .inl (.inl upd_same), rfl, _, _, rfl, _, _, rfl, rfl, ?_⟩
          refine ⟨_, rfl, z2, rfl, (any i z2 ip e2).same s1, _, rfl, ?_⟩
          by_cases ei : i = pos
          · subst ei
            rw [y1] at e2
            cases e2
            rw [y2]
            exact iteT ⟨_, rfl, (by show 1 ≤ 1000; decide), raise_ok (q.same s1)⟩
          · rw [ok i z2 (by omega) e2]
            exact iteF ⟨by omega, s1, _, _, rfl⟩
        · rintro σ G ⟨ip, _⟩
          omega
end
end K26

set_option Elab.async false
set_option linter.all false
set_option maxRecDepth 100000
set_option maxHeartbeats 4000000
/-! Own layer: methods that may raise, called by position and by keywords behind, or with their keyword-only defaults. -/
namespace Ex
open PySem PySem.Spec PySem.Calls PyProof.Rows L2 Gu
structure MfXD (P : Program) (w : World) (K : PySem.W.Frag) (mg : Str → Option Value) (base : Heap) (k : Nat) (c m : Str) (ps : List Str) (dvs : List V) (sp : Sp) : Prop where
  ex : ∃ fd ds, FnOk P w K mg base (L2.CX P w) k (He.ma K (He.ga K c) m) fd ps sp ∧ Vals dvs ds ∧ Binds K fd ps ds
  cl : Cls K (He.ga K c)
  me : Meth K (He.ga K c) m (He.ma K (He.ga K c) m)
structure MfKX (P : Program) (w : World) (K : PySem.W.Frag) (mg : Str → Option Value) (base : Heap) (k : Nat) (c m : Str) (ps : List Str) (n : Nat) (ks : List Str) (sp : Sp) : Prop where
  ex : ∃ fd, FnOk P w K mg base (L2.CX P w) k (He.ma K (He.ga K c) m) fd ps sp ∧ ∀ (s : Shared) (us ws : List Value), us.length = n → ws.length = ks.length → K.In s.heap → BindsTo s fd ⟨us, ks.zip ws⟩ (ps.zip (us ++ ws))
  cl : Cls K (He.ga K c)
  me : Meth K (He.ga K c) m (He.ma K (He.ga K c) m)
def tMethKX (C : Addr) (m : Str) (sp : Sp) (n q : Nat) (E : XK) (ta : TE) (t tk : TA) : TE := fun σ H Q => ta σ H fun x H1 => ∃ a dx fs, x = .ref a ∧ H1 a = some (.ins C dx fs) ∧ fs.lookup m = none ∧
  t σ H1 fun vs H2 => tk σ H2 fun zs H3 => vs.length + 1 = n ∧ zs.length = q ∧ sp (x :: vs ++ zs) H3 Q E
section
variable {X : Cx} {k j : Nat} {c m : Str} {ps ks : List Str} {dvs : List V} {sp : Sp} {pos apos : Pos} {e o : Expr} {es : List Expr} {kws : List Keyword} {t tk : TA} {ta : TE} {E : XK}
theorem pmethXD {pl : Sem Bool} (D : MfXD X.prog X.w X.K X.mg X.base k c m ps dvs sp) (hr : Room j X.A) (px : Passes (L2.CX X.prog X.w) X E) (he : PE X o ta) (ha : PA X (e :: es) t) (hj : k ≤ j := by decide)
    (hst : starEach (e :: es) X.env = (false, eval e X.env) :: starEach es X.env := by rfl) (hpl : (backTo pos (starEach es X.env)).any (·.1) = false := by rfl)
    (ht : eval (.Call (.Attribute o m apos) (e :: es) [] pos) X.env = (do
      let ov ← eval o X.env
      standAt apos.atName
      let (f, first) ← holding [ov] (getMethod ov m pl)
      callWith pos f first (backTo pos (starEach (e :: es) X.env)) (backToKw pos (keywordEach [] X.env))) := by rfl) :
    PE X (.Call (.Attribute o m apos) (e :: es) [] pos) (tMeth (He.ga X.K c) m sp dvs E ta t) := by
  obtain ⟨fd, ds, F, v, b⟩ := D.ex
  exact pe_meth he D.cl D.me F (hr.mono hj) b v px ha hst hpl ht
theorem pmethKX {pl : Sem Bool} {n : Nat} (D : MfKX X.prog X.w X.K X.mg X.base k c m ps n ks sp) (hr : Room j X.A) (px : Passes (L2.CX X.prog X.w) X E) (he : PE X o ta) (ha : PA X (e :: es) t) (hkw : PK X kws tk) (hj : k ≤ j := by decide)
    (hst : starEach (e :: es) X.env = (false, eval e X.env) :: starEach es X.env := by rfl)
    (hall : (backToKw pos (keywordEach kws X.env)).all (·.1.isSome) = true := by rfl) (hks : (backToKw pos (keywordEach kws X.env)).filterMap (·.1) = ks := by rfl)
    (hpl : ((backTo pos (starEach (e :: es) X.env)).any (·.1) || (backToKw pos (keywordEach kws X.env)).any (·.1.isNone)) = false := by rfl)
    (ht : eval (.Call (.Attribute o m apos) (e :: es) kws pos) X.env = (do
      let ov ← eval o X.env
      standAt apos.atName
      let (f, first) ← holding [ov] (getMethod ov m pl)
      callWith pos f first (backTo pos (starEach (e :: es) X.env)) (backToKw pos (keywordEach kws X.env))) := by rfl) :
    PE X (.Call (.Attribute o m apos) (e :: es) kws pos) (tMethKX (He.ga X.K c) m sp n ks.length E ta t tk) := by
  obtain ⟨fd, F, b⟩ := D.ex
  refine ⟨fun pins s σ H Q I h => ?_⟩
  refine PySem.W.methodCall_KW (pl := pl) (thn (he.run pins s σ H _ I h) fun u s1 ⟨x, H1, I1, rx, a, dx, fs, ex, ea, l, q⟩ => ?_) ht
  subst ex
  obtain rfl : u = Value.ref a := rx
  refine getmeth_ok I1 ea D.cl D.me l ?_
  refine PySem.W.callWith_KW (first := [.ref a]) (h₀ := X.base) I.ok.mod.kin D.me.kp hall (thn (ha.run pos pins s1 σ H1 _ I1 q) fun us s2 ⟨vs, H2, I2, r, q2⟩ => thn (hkw.run pos pins s2 σ H2 _ I2 q2) fun ws s3 ⟨zs, H3, I3, rz, hn, hz, q3⟩ => ⟨I3.kIn, ?_⟩) hpl hst
  rw [hks]
  have r2 : Vals (V.ref a :: vs) (Value.ref a :: us) := .cons rfl r
  have r3 : Vals (V.ref a :: vs ++ zs) (Value.ref a :: us ++ ws) := r2.append rz
  have l1 : (Value.ref a :: us).length = n := by
    rw [← r2.length]
    exact hn
  have l2 : ws.length = ks.length := by
    rw [← rz.length]
    exact hz
  refine wpAny_call (codeAny_mono (F.run X.A X.stack s3 H3 ⟨Value.ref a :: us, ks.zip ws⟩ _ _ Q E (hr.mono hj) I3.env0 (b s3 (Value.ref a :: us) ws l1 l2 I3.kIn) r3 q3) fun r s' hq => ?_)
  match r, hq with
  | .error e, hq => exact px pins σ H3 s3 e s' I3 hq
  | .ok (.ret u), hq => exact I3.after hq
/-- o.m(e, ..) in a try's body, the defaults behind -/
def tMethTD (C : Addr) (m : Str) (sp : Sp) (dvs : List V) (E : L2.St → XK) (ta : TE) (t : TA) : TE := fun σ H Q => ta σ H fun x H1 => ∃ a dx fs, x = .ref a ∧ H1 a = some (.ins C dx fs) ∧ fs.lookup m = none ∧ t σ H1 fun vs H2 => sp (x :: vs ++ dvs) H2 Q (E σ)
theorem pmethTD {pl : Sem Bool} {W : WX} (D : MfXD X.prog X.w X.K X.mg X.base k c m ps dvs sp) (hr : Room j X.A) (tk : Takes X W) (he : PE X o ta) (ha : PA X (e :: es) t) (hj : k ≤ j := by decide)
    (hst : starEach (e :: es) X.env = (false, eval e X.env) :: starEach es X.env := by rfl) (hpl : (backTo pos (starEach es X.env)).any (·.1) = false := by rfl)
    (ht : eval (.Call (.Attribute o m apos) (e :: es) [] pos) X.env = (do
      let ov ← eval o X.env
      standAt apos.atName
      let (f, first) ← holding [ov] (getMethod ov m pl)
      callWith pos f first (backTo pos (starEach (e :: es) X.env)) (backToKw pos (keywordEach [] X.env))) := by rfl) :
    PE X (.Call (.Attribute o m apos) (e :: es) [] pos) (tMethTD (He.ga X.K c) m sp dvs (WE W) ta t) := by
  obtain ⟨fd, ds, F, v, b⟩ := D.ex
  refine ⟨fun pins s σ H Q I h => PySem.W.methodCall_KW (pl := pl) (thn (he.run pins s σ H _ I h) fun u s1 ⟨x, H1, I1, rx, a, dx, fs, ex, ea, l, q⟩ => ?_) ht⟩
  subst ex
  obtain rfl : u = Value.ref a := rx
  refine getmeth_ok I1 ea D.cl D.me l (PySem.W.callWith_K (first := [.ref a]) (h₀ := X.base) I.ok.mod.kin D.me.kp (thn (ha.run pos pins s1 σ H1 _ I1 q) fun us s2 ⟨vs, H2, I2, r, q2⟩ => ⟨I2.kIn, ?_⟩) hst hpl)
  exact run_fnSD (E := WE W) (us := .ref a :: us) (vs := .ref a :: vs) F (hr.mono hj) b v (passAt tk σ) I2 (.cons rfl r) q2
end
end Ex

set_option Elab.async false
set_option linter.all false
set_option maxRecDepth 100000
set_option maxHeartbeats 400000
set_option pp.maxSteps 900
namespace K26
open PySem PySem.Spec PyProof.Rows L2 Gu Ex
/-- the lowest level that is short, or None -/
def shV (ns : List Int) (n : Int) (bs : List Blk) (cs : List Int) : V := match (List.range ns.length).find? (fun k => decide (slkI ns n bs k cs < 0)) with
  | some k => .int (k : Nat)
  | none => .non
theorem sh_at {ns : List Int} {n : Int} {bs : List Blk} {cs : List Int} {k : Nat} (h : k < ns.length) (p : slkI ns n bs k cs < 0) (b : ∀ j, j < k → ¬ slkI ns n bs j cs < 0) : shV ns n bs cs = .int (k : Nat) := by
  have e : (List.range ns.length).find? (fun k => decide (slkI ns n bs k cs < 0)) = some k := List.find?_range_eq_some.mpr ⟨decide_eq_true p, List.mem_range.mpr h, fun j hj => by
    rw [decide_eq_false (b j hj)]
    rfl⟩
  unfold shV
  rw [e]
theorem sh_no {ns : List Int} {n : Int} {bs : List Blk} {cs : List Int} (b : ∀ j, j < ns.length → ¬ slkI ns n bs j cs < 0) : shV ns n bs cs = .non := by
  have e : (List.range ns.length).find? (fun k => decide (slkI ns n bs k cs < 0)) = none := List.find?_range_eq_none.mpr fun j hj => by
    rw [decide_eq_false (b j hj)]
    rfl
  unfold shV
  rw [e]
section
variable {P : Program} {w : World} {K : PySem.W.Frag} {mg : Str → Option Value} {base : Heap} {f : Addr} {fd : FuncData}
/-- slack of a level with no numbers -/
def spSlackN (K : PySem.W.Frag) : Sp := fun vs H Q E => ∃ (y zp bl dx : Addr) (ps : List Addr) (ns : List Int) (n : Int) (bs : List Blk) (k : Nat) (v : V) (pos : Nat), vs = [.ref y, .int k, v] ∧ Ly K H y zp bl dx ps ns n bs ∧ k < ns.length ∧ NumBad H v pos ∧ Raised K "InvalidNumbers" "position" (.int pos) H E
theorem ok_slackN {z0 : Addr} (T : Tx K mg) (M_clear_cells : Mf P w K mg base 9 "Layout" "clear_cells" ["self", "level"] (spClear K)) (M_unpinned_cells : Mf P w K mg base 6 "Layout" "unpinned_cells" ["self", "level"] (spLoose K)) (D_check_numbers : DfX P w K mg base 3 "check_numbers" ["value"] (spNumsR K))
    (M_whole : Mf P w K mg base 6 "Sizes" "whole" ["self", "cells", "level"] (spWhole K)) (F : FnK K "slack" "Layout.slack" (inClass (top 31) 26) [("kept", .ref z0)] f fd) : FnOk P w K mg base (L2.CX P w) 10 f fd ["self", "level", "kept"] (spSlackN K) := by
  refine F.ok sc_slack (fun vs H Q E h => ?_) (fun cdv A outer s H vs Q E hr h => ⟨_, (pss_cons (ps_set (i := 3) sc_slack.nd rfl (by first | exact Or.inl rfl | exact Or.inr rfl) (pe_op op_sub (pmeth M_clear_cells hr (pv 0) (pa_cons (pv 1) pa_nil)) (pmeth M_unpinned_cells hr (pv 0) (pa_cons (pv 1) pa_nil)))) (pss_cons (ps_expr (pcallX D_check_numbers hr (passX (takes_of (E := E) rfl rfl rfl rfl)) (pa_cons (pv 2) pa_nil))) (pss_one (ps_ret (pe_op op_sub (pv 3) (pe_callB (cr_sum rfl) (by rfl) T.n_sum (by decide +kernel) (pa_cons (pe_lc (own := [("number", 4)]) (g := gName 4) rfl sc_slack.nd (pi_or (pi_list (pv 2)) (pi_tup (pv 2))) (blkOk_by (own := [("number", 4)]) (N := ["self", "level", "kept", "cells", "number"]) (sc := defScope (inClass (top 31) 26)) (by decide +kernel)) (fun _ _ _ _ _ => pg_name (i := 4) sc_slack.nd rfl (Or.inl rfl)) (fun _ _ _ _ _ => pts_nil) (fun _ _ _ _ _ => (pmethB K M_whole hr (pfldB K (pv 0)) (pa_cons (pv 4) (pa_cons (pv 1) pa_nil))))) pa_nil))))))), ?_⟩)
  · obtain ⟨y, zp, bl, dx, ps, ns, n, bs, k, v, pos, rfl, _⟩ := h
    rfl
  · obtain ⟨y, zp, bl, dx, ps, ns, n, bs, k, v, pos, rfl, L, hk, bad, q⟩ := h
    refine ⟨_, rfl, y, dx, _, rfl, L.at_, lay_nm (by decide +kernel), _, rfl, y, zp, bl, dx, ps, ns, n, bs, k, rfl, L, hk, fun H1 s1 => ?_⟩
    have L1 := L.same s1
    refine ⟨_, rfl, y, dx, _, rfl, L1.at_, lay_nm (by decide +kernel), _, rfl, y, zp, bl, dx, ps, ns, n, bs, k, rfl, L1, hk, fun H2 s2 => ?_⟩
    exact ⟨_, _, rfl, rfl, _, rfl, v, pos, rfl, bad.same (s1.trans s2), q.same (s1.trans s2)⟩
def spShort (K : PySem.W.Frag) : Sp := fun vs H Q _ => ∃ (y zp bl dx : Addr) (ps : List Addr) (ns : List Int) (n : Int) (bs : List Blk) (a : Addr) (cs : List Int), vs = [.ref y, .ref a] ∧ Ly K H y zp bl dx ps ns n bs ∧ Kept K H a cs ∧ (∀ c ∈ cs, 1 ≤ c ∧ c ≤ 1000000000000) ∧ cs.length ≤ 1000 ∧ ∀ H', Same H H' → Q (shV ns n bs cs) H'
theorem sc_short_level : FnScope ["self", "numbers", "level"] ["self", "numbers"] (defScope (inClass (top 31) 27)) := ⟨rfl, rfl, rfl, by decide +kernel, rfl, by decide +kernel, by decide +kernel⟩
theorem ok_short (T : Tx K mg) (M_len : Mf P w K mg base 1 "Sizes" "__len__" ["self"] (spLen K)) (M_slack_kw : MfK P w K mg base 10 "Layout" "slack" ["self", "level", "kept"] 2 ["kept"] (spSlack K)) (F : FnP K "short_level" "Layout.short_level" (inClass (top 31) 27) f fd) :
    FnOk P w K mg base CX0 11 f fd ["self", "numbers"] (spShort K) := by
  refine F.ok sc_short_level (fun vs H Q E h => ?_) (fun cdv A outer s H vs Q E hr h => ⟨_, PSs.nox (pss_cons (ps_for PassesOwn.never rfl (pi_range1 rfl T.n_range (pa_cons (pe_callB (call_lenO M_len hr) (by rfl) T.n_len (by decide +kernel) (pa_cons (pe_fld (pv 0) rfl) pa_nil)) pa_nil)) (pg_name (i := 2) sc_short_level.nd rfl (by first | exact Or.inl rfl | exact Or.inr rfl)) (pss_one (ps_if (pt_cmpR op_lt (pmethK M_slack_kw hr (pv 0) (pa_cons (pv 2) pa_nil) (pk_cons (pv 1) pk_nil)) pe_int (nomark _)) (pss_one (ps_ret (pv 2))) pss_nil))) (pss_one (ps_ret pe_non))), ?_⟩)
  · obtain ⟨y, zp, bl, dx, ps, ns, n, bs, a, cs, rfl, _⟩ := h
    rfl
  · obtain ⟨y, zp, bl, dx, ps, ns, n, bs, a, cs, rfl, L, kp, rg, cl, q⟩ := h
    have l8 := L.gd.len
    have sl : sizeLine = 16777216 := sizeLine_eq
    obtain ⟨dz, l, zz, zl⟩ := L.szs
    refine ⟨_, rfl, y, _, dx, _, _, rfl, L.at_, T.ly, T.nST, lay_st .., zp, dz, _, rfl, zz, zp, ns, rfl, L.szs, ns.length, rfl, by omega, _, rfl, by omega, by omega, ?_⟩
    refine for_range (fun i σ G => (∃ x, σ = [some (.ref y), some (.ref a), x]) ∧ Same H G ∧ ∀ j, j < i → ¬ slkI ns n bs j cs < 0) ⟨⟨_, rfl⟩, Same.refl _, fun j hj => absurd hj (Nat.not_lt_zero j)⟩ ?_ ?_
    · rintro i σ G hi ⟨⟨x, rfl⟩, sm, hb⟩
      rw [Int.toNat_natCast] at hi
      rw [Int.zero_add]
      have LG := L.same sm
      refine ⟨_, rfl, y, dx, _, rfl, LG.at_, lay_nm (by decide +kernel), _, rfl, _, rfl, rfl, rfl, y, zp, bl, dx, ps, ns, n, bs, i, a, cs, rfl, LG, hi, kp.same sm, rg, cl, fun G1 s1 => ?_⟩
      refine ⟨_, _, rfl, rfl, _, rfl, ?_⟩
      by_cases c0 : slkI ns n bs i cs < 0
      · have e := q G1 (sm.trans s1)
        rw [sh_at hi c0 hb] at e
        exact ifT (decide_eq_true c0) ⟨_, rfl, e⟩
      · refine ifF (decide_eq_false c0) ⟨⟨_, rfl⟩, sm.trans s1, fun j hj => ?_⟩
        by_cases e : j = i
        · rw [e]
          exact c0
        · exact hb j (by omega)
    · rintro σ G ⟨⟨x, rfl⟩, sm, hb⟩
      rw [Int.toNat_natCast] at hb
      have e := q G sm
      rw [sh_no hb] at e
      exact e
def spShortR (K : PySem.W.Frag) : Sp := fun vs H Q E => ∃ (y zp bl dx : Addr) (ps : List Addr) (ns : List Int) (n : Int) (bs : List Blk) (v : V) (pos : Nat), vs = [.ref y, v] ∧ Ly K H y zp bl dx ps ns n bs ∧ NumBad H v pos ∧ Raised K "InvalidNumbers" "position" (.int pos) H E
theorem ok_shortR (T : Tx K mg) (M_len : Mf P w K mg base 1 "Sizes" "__len__" ["self"] (spLen K)) (M_slack_kw : MfKX P w K mg base 10 "Layout" "slack" ["self", "level", "kept"] 2 ["kept"] (spSlackN K)) (F : FnP K "short_level" "Layout.short_level" (inClass (top 31) 27) f fd) :
    FnOk P w K mg base (L2.CX P w) 11 f fd ["self", "numbers"] (spShortR K) := by
  refine F.ok sc_short_level (fun vs H Q E h => ?_) (fun cdv A outer s H vs Q E hr h => ⟨_, (pss_cons (ps_for (passes_of rfl) rfl (pi_range1 rfl T.n_range (pa_cons (pe_callB (call_lenO M_len hr) (by rfl) T.n_len (by decide +kernel) (pa_cons (pe_fld (pv 0) rfl) pa_nil)) pa_nil)) (pg_name (i := 2) sc_short_level.nd rfl (by first | exact Or.inl rfl | exact Or.inr rfl)) (pss_one (ps_if (pt_cmpR op_lt (pmethKX M_slack_kw hr (passX (takes_of (E := E) rfl rfl rfl rfl)) (pv 0) (pa_cons (pv 2) pa_nil) (pk_cons (pv 1) pk_nil)) pe_int (nomark _)) (pss_one (ps_ret (pv 2))) pss_nil))) (pss_one (ps_ret pe_non))), ?_⟩)
  · obtain ⟨y, zp, bl, dx, ps, ns, n, bs, v, pos, rfl, _⟩ := h
    rfl
  · obtain ⟨y, zp, bl, dx, ps, ns, n, bs, v, pos, rfl, L, bad, q⟩ := h
    have l8 := L.gd.len
    have sl : sizeLine = 16777216 := sizeLine_eq
    obtain ⟨dz, l, zz, zl⟩ := L.szs
    refine ⟨_, rfl, y, _, dx, _, _, rfl, L.at_, T.ly, T.nST, lay_st .., zp, dz, _, rfl, zz, zp, ns, rfl, L.szs, ns.length, rfl, by omega, _, rfl, by omega, by omega, ?_⟩
    refine for_range (fun i σ G => i = 0 ∧ (∃ x, σ = [some (.ref y), some v, x]) ∧ G = H) ⟨rfl, ⟨_, rfl⟩, rfl⟩ ?_ ?_
    · rintro i σ G hi ⟨rfl, ⟨x, rfl⟩, rfl⟩
      exact ⟨_, rfl, y, dx, _, rfl, L.at_, lay_nm (by decide +kernel), _, rfl, _, rfl, rfl, rfl, y, zp, bl, dx, ps, ns, n, bs, 0, v, pos, rfl, L, by omega, bad, q⟩
    · rintro σ G ⟨h0, _⟩
      rw [Int.toNat_natCast] at h0
      omega
/-- put at no level -/
def spPutL (K : PySem.W.Frag) : Sp := fun vs H Q E => ∃ (y zp bl dx : Addr) (ps : List Addr) (ns : List Int) (n : Int) (bs : List Blk) (v a : V) (p : V), vs = [.ref y, v, a, p] ∧ Ly K H y zp bl dx ps ns n bs ∧ Any H v ∧ lvB ns v = false ∧ Raised K "InvalidLevel" "value" v H E
theorem ok_putL (T : Tx K mg) (M_size : MfX P w K mg base 5 "Sizes" "size" ["self", "level"] (spChkR K)) (D_is_region : Df P w K mg base 7 "is_region" ["sizes", "length", "level", "address"] (spRegA K)) (M_first_taken : Mf P w K mg base 8 "Layout" "first_taken" ["self", "low", "high"] (spFirst K)) (M_count_below : Mf P w K mg base 1 "Layout" "count_below" ["self", "address"] (spCB K))
    (F : FnK K "put" "Layout.put" (inClass (top 31) 13) [("pinned", .bl false)] f fd) : FnOk P w K mg base (L2.CX P w) 9 f fd ["self", "level", "address", "pinned"] (spPutL K) := by
  refine F.ok sc_put (fun vs H Q E h => ?_) (fun cdv A outer s H vs Q E hr h => ⟨_, (pss_cons (ps_set (i := 4) sc_put.nd rfl (by first | exact Or.inl rfl | exact Or.inr rfl) (pmethX M_size hr (passX (takes_of (E := E) rfl rfl rfl rfl)) (pe_fld (pv 0) rfl) (pa_cons (pv 1) pa_nil))) (pss_cons (ps_if (pt_not (pt_val (pcall D_is_region hr (pa_cons (pe_fld (pv 0) rfl) (pa_cons (pe_fld (pv 0) rfl) (pa_cons (pv 1) (pa_cons (pv 2) pa_nil))))))) (pss_one ps_never) pss_nil) (pss_cons (ps_set (i := 5) sc_put.nd rfl (by first | exact Or.inl rfl | exact Or.inr rfl) (pmeth M_first_taken hr (pv 0) (pa_cons (pv 2) (pa_cons (pe_op op_add (pv 2) (pv 4)) pa_nil)))) (pss_cons (ps_if (pt_cmpR op_notN (pv 5) pe_non (nomark _)) (pss_one ps_never) pss_nil) (pss_cons (ps_expr (pe_bm PySem.F.plainAttrs_list PySem.F.slot_list_insert PySem.F.type_list_insert mt_insert (pe_fld (pv 0) rfl) (pa_cons (pmeth M_count_below hr (pv 0) (pa_cons (pv 2) pa_nil)) (pa_cons (pe_tup (pa_cons (pv 2) (pa_cons (pv 1) (pa_cons (pv 3) pa_nil)))) pa_nil)))) (pss_one (ps_fldaug (pv 0) (pv 4) in_sub))))))), ?_⟩)
  · obtain ⟨y, zp, bl, dx, ps, ns, n, bs, v, a, p, rfl, _⟩ := h
    rfl
  · obtain ⟨y, zp, bl, dx, ps, ns, n, bs, v, a, p, rfl, L, hv, no, q⟩ := h
    obtain ⟨dz, l, zz, zl⟩ := L.szs
    exact ⟨_, rfl, y, _, dx, _, _, rfl, L.at_, T.ly, T.nST, lay_st .., zp, dz, _, rfl, zz, szF_no l (by decide +kernel), _, rfl, zp, ns, v, rfl, L.szs, hv, no, q⟩
end
end K26

set_option Elab.async false
set_option linter.all false
set_option maxRecDepth 100000
set_option maxHeartbeats 400000
/-! Own layer: a for loop in a generator's body. -/
namespace L2
open PySem PySem.Spec PyProof.Rows GenW
section
variable {M : Model} {A : Around} {R : GenEnd} {Y : Protocol} {n : Nat} {s₀ s : Shared} {c : Code} {fs : List Frame} {env : Env}
theorem seg_For {K : Flow → Sem PySem.Fin} {J : Value → Sem PySem.Fin} {gd : Bool → Bool} {lv : List Value → List Value} {target iter : Expr} {body : List Stmt} {pos : Pos} (hs : ∀ x, foldedSetIterable iter env x = pure x)
    (h : wpAny M (A.over c fs) (eval iter env) (fun v s1 => wpAny M (A.over c fs) (pyIter v) (fun itv s2 => ∀ p, Seg M A R Y n s₀ (.forLoop target itv body [] env) (M.den (.forLoop target itv body [] env))
      (.ret (fun r => ((match r with | .ok f => (.pure f : Sem Flow) | .error e => .raise e).onRaise (cameBack env)).wrap K J gd lv) none (gd false) (lv []) c p [] :: fs) s2) (fun x s' => Seg M A R Y n s₀ c (J x) fs s') s1) (fun x s' => Seg M A R Y n s₀ c (J x) fs s') s) :
    Seg M A R Y n s₀ c ((exec (.For target iter body [] pos) env).wrap K J gd lv) fs s := by
  rw [exec_For]
  refine seg_bind_wrap (wpAny_standAt ?_)
  refine seg_bind_wrap (wpAny_mono h (fun v s1 h1 => ?_) fun _ _ x => x)
  refine seg_bind_wrap (wpAny_of_eq (hs v) ?_)
  refine seg_bind_wrap (wpAny_standAt ?_)
  refine seg_bind_wrap (wpAny_holding (wpAny_mono h1 (fun itv s2 h2 => ?_) fun _ _ x => x))
  exact seg_call h2
end
section
variable {prog : Program} {w : World} {A : Around} {R : GenEnd} {Y : Protocol} {n : Nat} {s₀ : Shared} {fs : List Frame} {s : Shared} {env : Env}
theorem seg_forLoop {target : Expr} {it : Value} {body : List Stmt} {EX : Value → Shared → Prop}
    (hx : ∀ x s', EX x s' → Seg (model prog w) A R Y n s₀ (.forLoop target it body [] env) ((do noteFrame x env; theTreesLotGoes x : Sem Unit).wrap (fun _ => .raise x) .raise id id) fs s')
    (h : wpAny (model prog w) (A.over (.forLoop target it body [] env) fs) (pyNext it) (fun r s1 => match r with
      | none => Seg (model prog w) A R Y n s₀ (.forLoop target it body [] env) (.pure (.again (.block [] env))) fs s1
      | some v => wpAny (model prog w) (A.over (.forLoop target it body [] env) fs) (letOwnedTupleGo target it v) (fun _ s1' => wpAny (model prog w) (A.over (.forLoop target it body [] env) fs) (assign target env v) (fun _ s2 =>
          Seg (model prog w) A R Y n s₀ (.forLoop target it body [] env) ((execs body env).wrap (fun f => match f with
            | .next | .cont => .pure (.again (.forLoop target it body [] env))
            | .brk => .pure (.done .next)
            | .ret v => .pure (.done (.ret v))) (fun e => (do noteFrame e env; theTreesLotGoes e : Sem Unit).wrap (fun _ => .raise e) .raise id id) id id) fs s2) EX s1') EX s1) EX s) :
    Seg (model prog w) A R Y n s₀ (.forLoop target it body [] env) ((model prog w).den (.forLoop target it body [] env)) fs s := by
  have ex : ∀ x s', EX x s' → Seg (model prog w) A R Y n s₀ (.forLoop target it body [] env) ((do noteFrame x env; theTreesLotGoes x : Sem Unit).bind fun _ => .raise x) fs s' := fun x s' z => by
    rw [Sem.bind_eq_wrap]
    exact hx x s' z
  show Seg _ A R Y n s₀ _ ((forTurn target it body [] env).onRaise (fun x => do noteFrame x env; theTreesLotGoes x)) fs s
  unfold forTurn
  rw [Sem.onRaise_eq_wrap]
  refine seg_bind_wrap (wpAny_standAt ?_)
  refine seg_bind_wrap (wpAny_onRaise (wpAny_mono h (fun r s1 h1 => ?_) fun x s' h' => wpAny_standAt (ex x s' h')))
  cases r with
  | none => exact h1
  | some v =>
    refine seg_bind_wrap (wpAny_mono h1 (fun _ s1' h1' => ?_) ex)
    refine seg_bind_wrap (wpAny_mono h1' (fun _ s2 h2 => ?_) ex)
    rw [Sem.bind_eq_wrap', Sem.wrap_wrap]
    rw [Sem.wrap_congr (execs body env) _ _ (K' := fun f => match f with
            | .next | .cont => .pure (.again (.forLoop target it body [] env))
            | .brk => .pure (.done .next)
            | .ret v => .pure (.done (.ret v))) (H' := (fun e => (do noteFrame e env; theTreesLotGoes e : Sem Unit).wrap (fun _ => .raise e) .raise id id))
        (fun f => by cases f <;> rfl)
        (fun e => by first | exact Sem.bind_eq_wrap _ _ | (show (do noteFrame e env; theTreesLotGoes e : Sem Unit).bind (fun _ => .raise e) = _; rw [Sem.bind_eq_wrap]))]
    exact h2
end
section
variable {X : Cx}
def tGFor (wi : TI) (g : TG) (tb : TGn) : TGn := fun D ys σ H => wi σ H fun J H1 => ∃ W : Nat → Nat → List V → St → Hp → Prop, (∃ m, W 0 m ys σ H1) ∧ ∀ i m ys σ H, W i m ys σ H →
  (J.stop i H ∧ D.nx ys σ H) ∨ (J.go i H ∧ ∃ N : List V → St → Hp → Prop, (∀ ys' σ' H', N ys' σ' H' → ∃ m', m' < m ∧ W (i + 1) m' ys' σ' H') ∧ ∀ x H', J.yld i H x H' → g x σ H' fun σ2 H2 => tb { D with nx := N, ct := N, bk := D.nx } ys σ2 H2)
theorem GI.unpin {S : Addr} {ip pl : List (Addr × Obj)} {ys : List V} {σ : St} {H : Hp} {s : Shared} (h : GI X S (ip ++ pl) ys σ H s) : GI X S ip ys σ H s := by
  obtain ⟨acc, c, r, I⟩ := h
  exact ⟨acc, c, r, Inv.unpinned (pins := (S, lstObj acc c) :: ip) (pl := pl) I⟩
theorem gs_for {tg iter : Expr} {body : List Stmt} {wi : TI} {g : TG} {tb : TGn} {pos : Pos} (hp : PassesOwn (model X.prog X.w) X.A X.env X.xe) (hc : X.calm = true) (hi : PI X tg iter wi) (hg : PG X tg g) (hb : GSs X body tb)
    (hs : ∀ x, foldedSetIterable iter X.env x = pure x := by intro _; rfl) : GS X (.For tg iter body [] pos) (tGFor wi g tb) := by
  refine ⟨fun A S ip R n ys s₀ c fs K J gd lv s σ H D gc hn k hI ht => ?_⟩
  obtain ⟨acc, cc, r, I⟩ := hI
  refine seg_For hs ?_
  rw [gc.over]
  refine wpAny_mono (hi.run _ s σ H _ I ht) (fun v s1 h1 => wpAny_mono h1 (fun itv s2 h2 p => ?_) fun x s' hx => k.exc n s₀ x s' hx) fun x s' hx => k.exc n s₀ x s' hx
  obtain ⟨it, fp, tn, Jt, H2, rfl, I2, T, st2, f2, W, ⟨m0, w0⟩, turn⟩ := h2
  have fpS : ∀ b ∈ fp, S ≠ b := fun b hb => (f2 b hb).2.2.2.2.2 (S, lstObj acc cc) (List.mem_append_right _ List.mem_cons_self)
  have stat : ∀ {H' : Hp} {acc' : Array Value} {c' : Nat}, (∀ b ∈ fp, H' b = none) → ∀ b ∈ fp, FpOk X ((S, lstObj acc' c') :: ip) H' b := fun {H' acc' c'} hn b hb => by
    obtain ⟨_, g1, g2, g3, g4, g5⟩ := f2 b hb
    refine ⟨hn b hb, g1, g2, g3, g4, fun p hp => ?_⟩
    rcases List.mem_append.mp hp with z | z
    · exact g5 p (List.mem_append_left _ z)
    · rcases List.mem_cons.mp z with z | z
      · rw [z]
        exact fpS b hb
      · exact g5 p (List.mem_append_right _ (List.mem_cons_of_mem _ z))
  have gl := fun (kk : Result → Sem PySem.Fin) => gc_loop (k := kk) (c' := .forLoop tg (.ref it) body [] X.env) (l := lv []) (kp := []) (p := p) gc rfl rfl
  have loop : ∀ (m n i : Nat) (ys : List V) (s₀ s : Shared) (σ : St) (H : Hp), n + ys.length = sizeLine → W i m ys σ H → GI X S ip ys σ H s → tn i s.heap → (∀ b ∈ fp, H b = none) →
      Seg (model X.prog X.w) A R (GY X S) n s₀ (.forLoop tg (.ref it) body [] X.env) ((model X.prog X.w).den (.forLoop tg (.ref it) body [] X.env))
        (.ret (fun r => ((match r with | .ok f => (.pure f : Sem Flow) | .error e => .raise e).onRaise (cameBack X.env)).wrap K J gd lv) none (gd false) (lv []) c p [] :: fs) s := by
    intro m
    induction m using Nat.strongRecOn with
    | ind m ih =>
      intro n i ys s₀ s σ H hn w hI st fr
      have ee : ∀ (n : Nat) (s₀ : Shared) (x : Value) (s' : Shared), X.xe x s' → Seg (model X.prog X.w) A R (GY X S) n s₀ (.forLoop tg (.ref it) body [] X.env)
          ((do noteFrame x X.env; theTreesLotGoes x : Sem Unit).wrap (fun _ => .raise x) .raise id id)
          (.ret (fun r => ((match r with | .ok f => (.pure f : Sem Flow) | .error e => .raise e).onRaise (cameBack X.env)).wrap K J gd lv) none (gd false) (lv []) c p [] :: fs) s' := fun n s₀ x s' hx => by
        refine seg_wrap ?_
        rw [(gl _).over]
        refine wpAny_bind (wpAny_mono (hp x s' hx) (fun _ s'' hcb => wpAny_theTreesLotGoes ?_) fun y s'' hcb => ?_)
        · exact seg_leaf (.error x) (seg_cameBack gc k hcb)
        · exact seg_leaf (.error y) (seg_cameBack gc k hcb)
      obtain ⟨acc, cc, r, I⟩ := hI
      refine seg_forLoop (EX := X.xe) (fun x s' hx => ee n s₀ x s' hx) ?_
      rw [(gl _).over]
      rcases turn i m ys σ H w with ⟨stop, qn⟩ | ⟨go, N, hN, step⟩
      · refine wpAny_mono (T.done X rfl rfl rfl hc i _ s σ H X.xe I (stat fr) st stop) (fun r4 s4 hr => ?_) (fun x s' hx => hx)
        obtain ⟨rfl, I4⟩ := hr
        refine seg_again rfl ?_
        exact seg_leaf (.ok .next) (k.ok n ys s₀ s4 .next hn ⟨σ, H, ⟨acc, cc, r, I4⟩, qn⟩)
      · refine wpAny_mono (T.item X rfl rfl rfl hc i _ s σ H X.xe I (stat fr) st go) (fun r4 s4 hr => ?_) (fun x s' hx => hx)
        obtain ⟨u, rfl, h4⟩ := hr
        refine wpAny_mono h4 (fun _ s5 h5 => ?_) (fun x s' hx => hx)
        obtain ⟨x, H5, I5, r5, y5, st5, fr5⟩ := h5
        have I5' := I5.pinned (stat fr5) (T.obj _ _ st5)
        refine wpAny_mono (hg.run _ s5 σ H5 x u _ I5' r5 (step x H5 y5)) (fun _ s6 h6 => ?_) (fun x s' hx => hx)
        obtain ⟨σ6, H6, I6, q6⟩ := h6
        have gc2 : GC X S (ip ++ pinsAt fp s5.heap) A (.forLoop tg (.ref it) body [] X.env) (.ret (fun r => ((match r with | .ok f => (.pure f : Sem Flow) | .error e => .raise e).onRaise (cameBack X.env)).wrap K J gd lv) none (gd false) (lv []) c p [] :: fs) id := by
          have z := gl (fun r => ((match r with | .ok f => (.pure f : Sem Flow) | .error e => .raise e).onRaise (cameBack X.env)).wrap K J gd lv)
          refine ⟨z.pn, fun q hq => ?_, z.apart, z.over, z.split, z.guard, z.gd⟩
          rcases List.mem_append.mp hq with y | y
          · exact z.ip q y
          · exact (fpS q.1 (of_pinsAt y).1).symm
        refine hb.run A S (ip ++ pinsAt fp s5.heap) R n ys s₀ _ _ _ _ id id s6 σ6 H6 { D with nx := N, ct := N, bk := D.nx } gc2 hn ⟨fun n' ys' s₀' s7 f hn' hs => ?_, fun n' s₀' x s3 hx => ee n' s₀' x s3 hx⟩ ⟨acc, cc, r, I6⟩ q6
        have again : ∀ {σ7 : St} {H7 : Hp}, GI X S (ip ++ pinsAt fp s5.heap) ys' σ7 H7 s7 → N ys' σ7 H7 → ∃ m', m' < m ∧ W (i + 1) m' ys' σ7 H7 ∧ GI X S ip ys' σ7 H7 s7 ∧ tn (i + 1) s7.heap ∧ ∀ b ∈ fp, H7 b = none := fun {σ7 H7} G7 n7 => by
          obtain ⟨m', hm, w7⟩ := hN _ _ _ n7
          have G8 := G7.unpin
          obtain ⟨acc7, c7, r7, I7⟩ := G7
          have pin : ∀ b ∈ fp, ∀ o, s5.heap.get? b = some o → (b, o) ∈ X.pn ++ ((S, lstObj acc7 c7) :: (ip ++ pinsAt fp s5.heap)) := fun b hb o e => List.mem_append_right _ (List.mem_cons_of_mem _ (List.mem_append_right _ (mem_pinsAt hb e)))
          refine ⟨m', hm, w7, G8, T.keep _ _ _ st5 fun b hb o e => (I7.pin (b, o) (pin b hb o e)).1, fun b hb => ?_⟩
          obtain ⟨o, e, d⟩ := T.obj _ _ st5 b hb
          exact (I7.pin (b, o) (pin b hb o e)).2.1
        cases f with
        | next =>
          obtain ⟨σ7, H7, G7, n7⟩ := hs
          obtain ⟨m', hm, w7, G8, t8, f8⟩ := again G7 n7
          exact seg_again rfl (ih m' hm n' (i + 1) ys' s₀' s7 σ7 H7 hn' w7 G8 t8 f8)
        | cont =>
          obtain ⟨σ7, H7, G7, n7⟩ := hs
          obtain ⟨m', hm, w7, G8, t8, f8⟩ := again G7 n7
          exact seg_again rfl (ih m' hm n' (i + 1) ys' s₀' s7 σ7 H7 hn' w7 G8 t8 f8)
        | brk =>
          obtain ⟨σ7, H7, G7, q7⟩ := hs
          exact seg_leaf (.ok .next) (k.ok n' ys' s₀' s7 .next hn' ⟨σ7, H7, G7.unpin, q7⟩)
        | ret v =>
          obtain ⟨v7, σ7, H7, G7, rr, q7⟩ := hs
          exact seg_leaf (.ok (.ret v)) (k.ok n' ys' s₀' s7 (.ret v) hn' ⟨v7, σ7, H7, G7.unpin, rr, q7⟩)
  exact loop m0 n 0 ys s₀ s2 σ H2 hn w0 ⟨acc, cc, r, I2⟩ st2 fun b hb => (f2 b hb).1
/-- over a list that the body leaves as it is -/
theorem gfor_list {K : PySem.W.Frag} {a : Addr} {xs : List V} {g : TG} {tb : TGn} {D : GEnds} {ys : List V} {σ : St} {H : Hp} (Pv : Nat → List V → St → Hp → Prop) (h0 : Pv 0 ys σ H) (hl : ∀ i ys σ H, i ≤ xs.length → Pv i ys σ H → SqL K H a xs)
    (hs : ∀ i x ys σ H, xs[i]? = some x → Pv i ys σ H → g x σ H fun σ2 H2 => tb { D with nx := Pv (i + 1), ct := Pv (i + 1), bk := D.nx } ys σ2 H2) (hd : ∀ ys σ H, Pv xs.length ys σ H → D.nx ys σ H) :
    ∃ W : Nat → Nat → List V → St → Hp → Prop, (∃ m, W 0 m ys σ H) ∧ ∀ i m ys σ H, W i m ys σ H →
      ((Itl K a).stop i H ∧ D.nx ys σ H) ∨ ((Itl K a).go i H ∧ ∃ N : List V → St → Hp → Prop, (∀ ys' σ' H', N ys' σ' H' → ∃ m', m' < m ∧ W (i + 1) m' ys' σ' H') ∧ ∀ x H', (Itl K a).yld i H x H' → g x σ H' fun σ2 H2 => tb { D with nx := N, ct := N, bk := D.nx } ys σ2 H2) := by
  refine ⟨fun i m ys σ H => m = xs.length - i ∧ i ≤ xs.length ∧ Pv i ys σ H, ⟨xs.length, by simp, Nat.zero_le _, h0⟩, ?_⟩
  rintro i m ys σ H ⟨rfl, hi, p⟩
  have q := hl i ys σ H hi p
  by_cases hlt : i < xs.length
  · refine .inr ⟨⟨xs, xs[i], q, by simp [hlt]⟩, Pv (i + 1), fun ys' σ' H' p' => ⟨xs.length - (i + 1), by omega, rfl, hlt, p'⟩, fun x H' y => ?_⟩
    obtain ⟨e, y⟩ := y
    subst e
    exact hs i x ys σ _ (y xs q) p
  · have e : i = xs.length := by omega
    subst e
    exact .inl ⟨⟨xs, q, Nat.le_refl _⟩, hd ys σ H p⟩
/-- over lo, lo + c, .. (n of them) -/
theorem gfor_rangeC {lo c : Int} {n : Nat} {g : TG} {tb : TGn} {D : GEnds} {ys : List V} {σ : St} {H : Hp} (Pv : Nat → List V → St → Hp → Prop) (h0 : Pv 0 ys σ H)
    (hs : ∀ i ys σ H, i < n → Pv i ys σ H → g (.int (lo + (i : Nat) * c)) σ H fun σ2 H2 => tb { D with nx := Pv (i + 1), ct := Pv (i + 1), bk := D.nx } ys σ2 H2) (hd : ∀ ys σ H, Pv n ys σ H → D.nx ys σ H) :
    ∃ W : Nat → Nat → List V → St → Hp → Prop, (∃ m, W 0 m ys σ H) ∧ ∀ i m ys σ H, W i m ys σ H →
      ((Itc lo c n).stop i H ∧ D.nx ys σ H) ∨ ((Itc lo c n).go i H ∧ ∃ N : List V → St → Hp → Prop, (∀ ys' σ' H', N ys' σ' H' → ∃ m', m' < m ∧ W (i + 1) m' ys' σ' H') ∧ ∀ x H', (Itc lo c n).yld i H x H' → g x σ H' fun σ2 H2 => tb { D with nx := N, ct := N, bk := D.nx } ys σ2 H2) := by
  refine ⟨fun i m ys σ H => m = n - i ∧ i ≤ n ∧ Pv i ys σ H, ⟨n, by simp, Nat.zero_le _, h0⟩, ?_⟩
  rintro i m ys σ H ⟨rfl, hi, p⟩
  by_cases hlt : i < n
  · refine .inr ⟨hlt, Pv (i + 1), fun ys' σ' H' p' => ⟨n - (i + 1), by omega, rfl, hlt, p'⟩, fun x H' y => ?_⟩
    obtain ⟨e, y⟩ := y
    subst e y
    exact hs i ys σ _ hlt p
  · have e : i = n := by omega
    subst e
    exact .inl ⟨Nat.le_refl _, hd ys σ H p⟩
end
end L2

set_option Elab.async false
set_option linter.all false
set_option maxRecDepth 100000
set_option maxHeartbeats 400000
/-! Own layer: generator methods by class and name. -/
namespace Ex
open PySem PySem.Spec PySem.Calls PyProof.Rows L2 Gu
section
variable {P : Program} {w : World} {K : PySem.W.Frag} {mg : Str → Option Value} {base : Heap} {x qual : Str} {params : Arguments} {body : List Stmt} {scope : Scope} {dvs : List V} {kws : List (Str × V)} {f : Addr} {fd : FuncData}
theorem gok {N ps : List Str} {k : Nat} {sp : SpG} (F : FunD K x qual params body scope dvs kws f fd) (S : GScope N ps scope) (len : ∀ vs H Q E, sp vs H Q E → vs.length = ps.length)
    (hbody : ∀ (cdv : Value) (A : Around) (outer : List Env) (s : Shared) (H : Hp) (vs : List V) (Q : List V → Hp → Prop) (E : XK) (pn : List (Addr × Obj)), Room k (A.deeper (envOfC qual scope s.heap.objs.size f cdv)) → sp vs H Q E →
      ∃ t, GSs (gcxOf P w K mg base N qual scope f cdv A outer s H E pn) body t ∧ t { nx := fun ys _ H' => Q ys H', rt := fun ys v H' => v = .non ∧ Q ys H' } [] (start N vs) H) : GFn P w K mg base (k + 1) f fd ps sp := by
  obtain ⟨oc, od, dV, kV, doc, pm, an, cdv, ct, osl, rfl, lk, hcd, _, _⟩ := F.ex
  exact gfn_of lk hcd S len fun A outer s H vs Q E pn hr hsp => hbody cdv A outer s H vs Q E pn hr hsp
end
structure Mg (P : Program) (w : World) (K : PySem.W.Frag) (mg : Str → Option Value) (base : Heap) (k : Nat) (c m : Str) (ps : List Str) (sp : SpG) : Prop where
  ex : ∃ fd, GFn P w K mg base k (He.ma K (He.ga K c) m) fd ps sp ∧ Binds K fd ps []
  cl : Cls K (He.ga K c)
  me : Meth K (He.ga K c) m (He.ma K (He.ga K c) m)
section
variable {X : Cx} {k j : Nat} {c m : Str} {ps : List Str} {sp : SpG} {pos apos : Pos} {e o : Expr} {es : List Expr} {t : TA} {ta : TE} {E : XK}
theorem pgenM {pl : Sem Bool} (D : Mg X.prog X.w X.K X.mg X.base k c m ps sp) (hr : Room k X.A) (he : PE X o ta) (ha : PA X (e :: es) t)
    (hst : starEach (e :: es) X.env = (false, eval e X.env) :: starEach es X.env := by rfl) (hpl : (backTo pos (starEach es X.env)).any (·.1) = false := by rfl)
    (ht : eval (.Call (.Attribute o m apos) (e :: es) [] pos) X.env = (do
      let ov ← eval o X.env
      standAt apos.atName
      let (f, first) ← holding [ov] (getMethod ov m pl)
      callWith pos f first (backTo pos (starEach (e :: es) X.env)) (backToKw pos (keywordEach [] X.env))) := by rfl) :
    PGen X k (.Call (.Attribute o m apos) (e :: es) [] pos) (tMethG (He.ga X.K c) m sp [] E ta t) E := by
  obtain ⟨fd, F, b⟩ := D.ex
  exact pgen_meth he D.cl D.me F hr b .nil ha hst hpl ht
end
end Ex

set_option Elab.async false
set_option linter.all false
set_option maxRecDepth 100000
set_option maxHeartbeats 400000
set_option pp.maxSteps 900
namespace K26
open PySem PySem.Spec PyProof.Rows L2 Gu Ex
section
variable {P : Program} {w : World} {K : PySem.W.Frag} {mg : Str → Option Value} {base : Heap} {f : Addr} {fd : FuncData}
theorem sc_free_addresses : GScope ["self", "level", "size", "low", "high", "address"] ["self", "level"] (defScope (inClass (top 31) 23)) := ⟨rfl, rfl, rfl, by decide +kernel, rfl, by decide +kernel, by decide +kernel⟩
/-- no addresses of no level: the error comes at the first step -/
def spFaR (K : PySem.W.Frag) : SpG := fun vs H _ E => ∃ (y zp bl dx : Addr) (ps : List Addr) (ns : List Int) (n : Int) (bs : List Blk) (v : V), vs = [.ref y, v] ∧ Ly K H y zp bl dx ps ns n bs ∧ Any H v ∧ lvB ns v = false ∧ Raised K "InvalidLevel" "value" v H E
theorem ok_faR (T : Tx K mg) (M_size : MfX P w K mg base 5 "Sizes" "size" ["self", "level"] (spChkR K)) (M_free_gaps : Mf P w K mg base 7 "Layout" "free_gaps" ["self"] (spFg K)) (D_next_start : Df P w K mg base 1 "next_start" ["size", "address"] spNext) (F : FnP K "free_addresses" "Layout.free_addresses" (inClass (top 31) 23) f fd) :
    GFn P w K mg base 8 f fd ["self", "level"] (spFaR K) := by
  refine gok F sc_free_addresses (fun vs H Q E h => ?_) (fun cdv A outer s H vs Q E pn hr h => ⟨_, gss_cons (gs_ps (ps_set (i := 2) sc_free_addresses.nd rfl (Or.inl rfl) (pmethX M_size hr (passX takes_gcx) (pe_fld (pv 0) rfl) (pa_cons (pv 1) pa_nil))))
    (gss_cons (gs_for owns_gcx rfl (pi_list (pmeth0 M_free_gaps hr (pv 0))) (pg_tup (by rfl) (pgs_cons (pg_name (i := 3) sc_free_addresses.nd rfl (Or.inl rfl)) (pgs_cons (pg_name (i := 4) sc_free_addresses.nd rfl (Or.inl rfl)) pgs_nil)))
      (gss_cons (gs_for owns_gcx rfl (pi_rangeS rfl T.n_range (pa_cons (pcall D_next_start hr (pa_cons (pv 2) (pa_cons (pv 3) pa_nil))) (pa_cons (pe_op op_add (pe_op op_sub (pv 4) (pv 2)) pe_int) (pa_cons (pv 2) pa_nil)))) (pg_name (i := 5) sc_free_addresses.nd rfl (Or.inl rfl))
        (gss_cons (gs_yield (pv 5)) gss_nil)) gss_nil)) gss_nil), ?_⟩)
  · obtain ⟨y, zp, bl, dx, ps, ns, n, bs, v, rfl, _⟩ := h
    rfl
  · obtain ⟨y, zp, bl, dx, ps, ns, n, bs, v, rfl, L, hv, no, q⟩ := h
    obtain ⟨dz, l, zz, zl⟩ := L.szs
    exact ⟨_, rfl, y, _, dx, _, _, rfl, L.at_, T.ly, T.nST, lay_st .., zp, dz, _, rfl, zz, szF_no l (by decide +kernel), _, rfl, zp, ns, v, rfl, L.szs, hv, no, q⟩
end
end K26

set_option Elab.async false
set_option linter.all false
set_option maxRecDepth 100000
set_option maxHeartbeats 400000
set_option pp.maxSteps 900
namespace K26
open PySem PySem.Spec PyProof.Rows L2 Gu Ex
/-- the addresses of level k in a gap, and in all gaps -/
def adrG (s : Int) (g : Int × Int) : List Int := (List.range (stepsN (nextI s g.1) (g.2 - s + 1) s)).map fun i => nextI s g.1 + (i : Nat) * s
def adrI (ns : List Int) (n : Int) (bs : List Blk) (k : Nat) : List Int := (fgI ns n bs).flatMap (adrG (sz ns k))
section
variable {P : Program} {w : World} {K : PySem.W.Frag} {mg : Str → Option Value} {base : Heap} {f : Addr} {fd : FuncData}
def spFa (K : PySem.W.Frag) : SpG := fun vs H Q _ => ∃ (y zp bl dx : Addr) (ps : List Addr) (ns : List Int) (n : Int) (bs : List Blk) (k : Nat), vs = [.ref y, .int k] ∧ Ly K H y zp bl dx ps ns n bs ∧ k < ns.length ∧ (adrI ns n bs k).length ≤ sizeLine ∧ ∀ H', Same H H' → Q ((adrI ns n bs k).map V.int) H'
theorem ok_fa (T : Tx K mg) (M_size : Mf P w K mg base 5 "Sizes" "size" ["self", "level"] (spSize K)) (M_free_gaps : Mf P w K mg base 7 "Layout" "free_gaps" ["self"] (spFg K)) (D_next_start : Df P w K mg base 1 "next_start" ["size", "address"] spNext) (F : FnP K "free_addresses" "Layout.free_addresses" (inClass (top 31) 23) f fd) :
    GFn P w K mg base 8 f fd ["self", "level"] (spFa K) := by
  refine gok F sc_free_addresses (fun vs H Q E h => ?_) (fun cdv A outer s H vs Q E pn hr h => ⟨_, gss_cons (gs_ps (ps_set (i := 2) sc_free_addresses.nd rfl (Or.inl rfl) (pmeth M_size hr (pe_fld (pv 0) rfl) (pa_cons (pv 1) pa_nil))))
    (gss_cons (gs_for owns_gcx rfl (pi_list (pmeth0 M_free_gaps hr (pv 0))) (pg_tup (by rfl) (pgs_cons (pg_name (i := 3) sc_free_addresses.nd rfl (Or.inl rfl)) (pgs_cons (pg_name (i := 4) sc_free_addresses.nd rfl (Or.inl rfl)) pgs_nil)))
      (gss_cons (gs_for owns_gcx rfl (pi_rangeS rfl T.n_range (pa_cons (pcall D_next_start hr (pa_cons (pv 2) (pa_cons (pv 3) pa_nil))) (pa_cons (pe_op op_add (pe_op op_sub (pv 4) (pv 2)) pe_int) (pa_cons (pv 2) pa_nil)))) (pg_name (i := 5) sc_free_addresses.nd rfl (Or.inl rfl))
        (gss_cons (gs_yield (pv 5)) gss_nil)) gss_nil)) gss_nil), ?_⟩)
  · obtain ⟨y, zp, bl, dx, ps, ns, n, bs, k, rfl, _⟩ := h
    rfl
  · obtain ⟨y, zp, bl, dx, ps, ns, n, bs, k, rfl, L, hk, big, q⟩ := h
    obtain ⟨dz, l, zz, zl⟩ := L.szs
    have z1 := (chain L.gd).pos _ hk
    have z2 := sz_le L.gd hk
    refine ⟨_, rfl, y, _, dx, _, _, rfl, L.at_, T.ly, T.nST, lay_st .., zp, dz, _, rfl, zz, szF_no l (by decide +kernel), _, rfl, zp, ns, k, _, rfl, L.szs, sz_at hk, ?_⟩
    refine ⟨_, rfl, y, dx, _, rfl, L.at_, lay_nm (by decide +kernel), y, zp, bl, dx, ps, ns, n, bs, rfl, L, fun M qs H1 hM s1 hM1 rf => ?_⟩
    refine ⟨M, rfl, ⟨_, SqL.of hM1⟩, ?_⟩
    refine gfor_list (K := K) (a := M) (xs := qs.map V.ref) (fun i ys σ G => ys = (((fgI ns n bs).take i).flatMap (adrG (sz ns k))).map V.int ∧ Same H1 G ∧ ∃ x3 x4 x5, σ = [some (.ref y), some (.int k), some (.int (sz ns k)), x3, x4, x5]) ⟨rfl, Same.refl _, _, _, _, rfl⟩ (fun i ys σ G _ h => SqL.of (h.2.1 _ _ hM1)) ?_ ?_
    · rintro i v ys σ G hv ⟨rfl, sm, x3, x4, x5, rfl⟩
      obtain ⟨p, hp, rfl⟩ := ref_of hv
      obtain ⟨g, hg, hT⟩ := (rf.same sm).get hp
      have hT' : G p = some (.tup [.int g.1, .int g.2]) := hT
      refine ⟨p, _, rfl, .inl (.inl hT'), rfl, _, _, rfl, _, _, rfl, rfl, ?_⟩
      have ei := take_at hg
      have il := (List.getElem?_eq_some_iff.mp hg).1
      have lenA : ∀ j, j < stepsN (nextI (sz ns k) g.1) (g.2 - sz ns k + 1) (sz ns k) → ((((fgI ns n bs).take i).flatMap (adrG (sz ns k))).length + j) < sizeLine := fun j hj => by
        have e : adrI ns n bs k = ((fgI ns n bs).take i).flatMap (adrG (sz ns k)) ++ (adrG (sz ns k) g ++ ((fgI ns n bs).drop (i + 1)).flatMap (adrG (sz ns k))) := by
          unfold adrI
          rw [← List.flatMap_cons, ← drop_at hg, ← List.flatMap_append, List.take_append_drop]
        have l1 : (adrG (sz ns k) g).length = stepsN (nextI (sz ns k) g.1) (g.2 - sz ns k + 1) (sz ns k) := by
          unfold adrG
          rw [List.length_map, List.length_range]
        rw [e, List.length_append, List.length_append, l1] at big
        omega
      refine ⟨_, rfl, _, rfl, sz ns k, g.1, rfl, z1, by omega, _, rfl, _, rfl, _, _, rfl, rfl, _, _, rfl, rfl, _, rfl, _, _, _, rfl, z1, by omega, ?_⟩
      refine gfor_rangeC (fun j ys σ G' => ys = (((fgI ns n bs).take i).flatMap (adrG (sz ns k))).map V.int ++ ((List.range j).map fun i => nextI (sz ns k) g.1 + (i : Nat) * sz ns k).map V.int ∧ Same H1 G' ∧ ∃ x5, σ = [some (.ref y), some (.int k), some (.int (sz ns k)), some (.int g.1), some (.int g.2), x5]) ⟨(by rw [List.range_zero, List.map_nil, List.map_nil, List.append_nil]), sm, _, rfl⟩ ?_ ?_
      · rintro j ys σ G' hj ⟨rfl, sm', x5', rfl⟩
        refine ⟨(by rw [List.length_append, List.length_map, List.length_map, List.length_map, List.length_range]; exact lenA j hj), _, rfl, ?_, sm', _, rfl⟩
        rw [List.range_succ, List.map_append, List.map_append, List.append_assoc]
        rfl
      · rintro ys σ G' ⟨rfl, sm', x5', rfl⟩
        refine ⟨?_, sm', _, _, _, rfl⟩
        rw [ei, List.flatMap_append, List.map_append, List.flatMap_cons, List.flatMap_nil, List.append_nil]
        rfl
    · rintro ys σ G ⟨rfl, sm, x3, x4, x5, rfl⟩
      rw [List.length_map, rf.len, List.take_length]
      exact q G (s1.trans sm)
end
end K26

set_option Elab.async false
set_option linter.all false
set_option maxRecDepth 100000
set_option maxHeartbeats 4000000
/-! Own layer: a def that is handed the caught error while it is handled: its promise speaks of the error's address, class and dict; isinstance within it. -/
namespace Ex
open PySem PySem.Spec PySem.Calls PyProof.Rows L2 Gu
/-- the promise of a def that is handed the error -/
abbrev SpE : Type := Addr → Addr → Option Addr → Sp
structure FnE (P : Program) (w : World) (K : PySem.W.Frag) (mg : Str → Option Value) (base : Heap) (k : Nat) (f : Addr) (fd : FuncData) (ps : List Str) (sp : SpE) : Prop where
  len : ∀ a D d vs H Q E, sp a D d vs H Q E → vs.length = ps.length
  run : ∀ (A : Around) (outer : List Env) (s : Shared) (H : Hp) (us : List Value) (vs : List V) (Q : VK) (a D : Addr) (d : Option Addr) (oe : Obj),
    L2H.RoomH k A → Zc (.ref D) d oe → (∃ vs, oe.data = .fields vs) → L2H.PinOk outer H s (a, oe) → Env0 P w K mg base A outer s H → BindsTo s fd ⟨us, []⟩ (ps.zip us) → Vals vs us → sp a D d vs H Q E0 →
    codeAny (model P w) A (.call (.ref f) ⟨us, []⟩) (CR CX0 outer P w H s Q E0) s
section
variable {P : Program} {w : World} {K : PySem.W.Frag} {mg : Str → Option Value} {base : Heap} {k : Nat} {f : Addr} {fd : FuncData} {ps : List Str} {sp : SpE}
theorem okE {x qual : Str} {params : Arguments} {body : List Stmt} {scope : Scope} {dvs : List V} {kws : List (Str × V)} {N : List Str}
    (F : FunD K x qual params body scope dvs kws f fd) (S : FnScope N ps scope) (len : ∀ a D d vs H Q E, sp a D d vs H Q E → vs.length = ps.length)
    (hbody : ∀ (cdv : Value) (A : Around) (outer : List Env) (s : Shared) (H : Hp) (vs : List V) (Q : VK) (a D : Addr) (d : Option Addr) (oe : Obj),
      L2H.RoomH k (A.deeper (envOfC qual scope s.heap.objs.size f cdv)) → Zc (.ref D) d oe → (∃ vs, oe.data = .fields vs) → sp a D d vs H Q E0 →
      ∃ t, PSs (L2H.cxH CX0 P w K mg base N qual scope f cdv A outer s H E0 (a, oe)) body t ∧ t { nx := fun _ H' => Q .non H', rt := Q } (start N vs) H) :
    FnE P w K mg base (k + 1) f fd ps sp := by
  obtain ⟨oc, od, dV, kV, doc, pm, an, cdv, ct, osl, rfl, lk, hcd, _, _⟩ := F.ex
  refine ⟨len, fun A outer s H us vs Q a D d oe hr hz hf hpin e0 hb rv hsp => ?_⟩
  have KX : K.In s.heap := e0.mod.kin.keeps fun b o e => (e0.bs b o e).1
  have hkinds : ∀ y ∈ ps.zip us, scope.names.lookup y.1 = some .local ∨
      (scope.names.lookup y.1 = some .cell ∧ ((cellsFrom (s.heap.objs.size + 1) scope.names []).lookup y.1).isSome = true) := by
    rintro ⟨n, v⟩ hy
    rcases S.par n (List.of_mem_zip hy).1 with q | q
    · exact .inl q
    · exact .inr ⟨q, PySem.W.cellsFrom_some _ _ _ (.inl q)⟩
  refine codeAny_call_function hr.depth (KX _ _ lk) rfl S.co S.gen rfl (PySem.W.codeRec_of KX hcd) (hb _ _ _ _ ?_)
  refine wpAny_newFunctionEnv_cells S.kind hkinds fun env he s1 x => ?_
  subst he
  refine ⟨(e0.mod.nolimit.keeps fun b o e => (e0.bs b o e).1).keeps x.toInCall.keep, codeAny_func ?_⟩
  obtain ⟨t, ht, hq⟩ := hbody cdv A outer s H vs Q a D d oe (hr.deeper _) hz hf hsp
  have I := L2H.inv_startH (CX := CX0) (E := E0) (N := N) (qual := qual) (f := f) (cd := cdv) S hpin e0 (len _ _ _ _ _ _ _ hsp) rv x
  refine wpAny_mono (ht.run [] s1 (start N vs) H _ I hq) (fun fl s' hs => ?_) fun e s' hs => hs
  cases fl with
  | ret u =>
    obtain ⟨v, σ', H', J, rv', q⟩ := hs
    exact ⟨v, H', J.os, J.bare, J.base, J.hok, rv', q⟩
  | next =>
    obtain ⟨σ', H', J, q⟩ := hs
    exact ⟨V.non, H', J.os, J.bare, J.base, J.hok, rfl, q⟩
  | brk => exact hs.elim fun _ z => z.elim fun _ z => z.2.elim
  | cont => exact hs.elim fun _ z => z.elim fun _ z => z.2.elim
end
structure DfE (P : Program) (w : World) (K : PySem.W.Frag) (mg : Str → Option Value) (base : Heap) (k : Nat) (x : Str) (ps : List Str) (sp : SpE) : Prop where
  ex : ∃ fd, FnE P w K mg base k (He.ga K x) fd ps sp ∧ Binds K fd ps []
  gl : mg x = some (.ref (He.ga K x))
  kp : PySem.W.keepIn K (.ref (He.ga K x)) = true
def tCallE (sp : SpE) (a : Addr) (cls : Value) (d : Option Addr) (t : TA) : TE := fun σ H Q => t σ H fun vs H1 => ∃ D, cls = .ref D ∧ sp a D d vs H1 Q E0
section
variable {X : Cx} {k j : Nat} {x : Str} {ps : List Str} {sp : SpE} {p pos : Pos} {e : Expr} {es : List Expr} {t : TA} {a D : Addr} {oe : Obj} {cls : Value} {d : Option Addr}
theorem pcallE (Df : DfE X.prog X.w X.K X.mg X.base k x ps sp) (hr : L2H.RoomH j X.A) (hp : (a, oe) ∈ X.pn) (hz : Zc cls d oe) (hf : ∃ vs, oe.data = .fields vs) (ha : PA X (e :: es) t) (hj : k ≤ j := by decide) (hg : Gl X x := by rfl)
    (hdb : (x == ("__debug__" : Str)) = false := by decide) (he : starEach (e :: es) X.env = (false, eval e X.env) :: starEach es X.env := by rfl) (hpl : (backTo pos (starEach es X.env)).any (·.1) = false := by rfl) :
    PE X (.Call (.Name x p) (e :: es) [] pos) (tCallE sp a cls d t) := by
  obtain ⟨fd, F, b⟩ := Df.ex
  refine ⟨fun pins s σ H Q I h => wpAny_Call_Name_kw (ld_glob I hg Df.gl (PySem.W.callWith_K (h₀ := X.base) I.ok.mod.kin Df.kp
    (thn (ha.run pos pins s σ H _ I h) fun us s1 ⟨vs, H1, I1, r, q⟩ => ⟨I1.kIn, ?_⟩) he hpl) hdb)⟩
  obtain ⟨D, rfl, q⟩ := q
  have hl : us.length = ps.length := r.length.symm.trans (F.len _ _ _ _ _ _ _ q)
  have bb := b s1 us I1.kIn (by rw [List.append_nil]; exact hl)
  rw [List.append_nil] at bb
  obtain ⟨g1, g2, g3, g4, g5⟩ := I1.pin (a, oe) (List.mem_append_left _ hp)
  have pin : L2H.PinOk X.stack H1 s1 (a, oe) := ⟨g1, g2, fun hm => by
    rcases List.mem_cons.mp (I1.stkSub a hm) with z | z
    · exact g3 z
    · exact g4 z, g5⟩
  refine wpAny_call (codeAny_mono (F.run X.A X.stack s1 H1 us vs Q a D d oe (hr.mono hj) hz hf pin I1.env0 bb r q) fun r s' hq => ?_)
  match r, hq with
  | .ok (.ret u), hq => exact I1.after hq
/-- isinstance of the error, where it is pinned -/
theorem inst_pin {pins : List (Addr × Obj)} {σ : L2.St} {H : Hp} {s : Shared} {fs : List (Str × V)} {dd : Addr} (hp : (a, oe) ∈ X.pn) (I : Inv X pins σ H s) (hz : Zc (.ref D) (some dd) oe) (hf : ∃ vs, oe.data = .fields vs) (hd : H dd = some (.xd fs)) :
    ∃ od, PySem.W.InstAt s.heap a oe D (some od) := by
  obtain ⟨vs, hv⟩ := hf
  obtain ⟨mA, hns, _⟩ := (show ObjOk X.prog X.w H s.heap dd (.xd fs) from I.hok dd _ hd)
  obtain ⟨od, ho, _⟩ := lookIn_ns hns
  exact ⟨od, (I.pin (a, oe) (List.mem_append_left _ hp)).1, hz.1, by unfold PySem.W.notCls; rw [hv] <;> rfl, by rw [hz.2]; exact ho⟩
theorem call_isP (c : ExcC X.K D) (hp : (a, oe) ∈ X.pn) (hz : Zc (.ref D) d oe) (hf : ∃ vs, oe.data = .fields vs) : CallR X (.builtin "isinstance") (rIsX X.K D a (.ref D) d) := by
  intro pins s σ H xs us Q I r h
  obtain ⟨cv, u, b, dd, fs, rfl, _, rfl, k, hd, e, q⟩ := h
  obtain ⟨u1, u2, rfl, r1, r2⟩ := vals2 r
  obtain rfl : u1 = Value.ref a := r1
  have e2 := k.eq r2
  subst e2
  obtain ⟨od, J⟩ := inst_pin hp I hz hf hd
  exact PySem.W.kia_one (kitx_exc c) I.kIn J e (fun z => nomatch z) fun tk => ⟨.bl b, H, I.tok tk, rfl, q⟩
end
end Ex

set_option Elab.async false
set_option linter.all false
set_option maxRecDepth 100000
set_option maxHeartbeats 400000
/-! Own layer: isinstance(e, (C, D)) of an error that a def was handed. -/
namespace Ex
open PySem PySem.Spec PySem.Calls PyProof.Rows L2 Gu
section
variable {X : Cx} {a D : Addr} {oe : Obj} {d : Option Addr}
theorem call_isPT (c : ExcC X.K D) (hp : (a, oe) ∈ X.pn) (hz : Zc (.ref D) d oe) (hf : ∃ vs, oe.data = .fields vs) : CallR X (.builtin "isinstance") (rIsXT X.K D a (.ref D) d) := by
  intro pins s σ H xs us Q I r h
  obtain ⟨tp, cs, ws, b, dd, fs, rfl, _, rfl, hT, k, hd, e, q⟩ := h
  obtain ⟨u1, u2, rfl, r1, r2⟩ := vals2 r
  obtain rfl : u1 = Value.ref a := r1
  obtain rfl : u2 = Value.ref tp := r2
  obtain ⟨od, J⟩ := inst_pin hp I hz hf hd
  obtain ⟨_, its, rv, o, h1, h2, n, h3⟩ := (show ObjOk X.prog X.w H s.heap tp (.tup cs) from I.hok tp _ hT)
  have e3 := ClsV.all k rv
  subst e3
  obtain ⟨oc, odd, dt, sl⟩ := o
  simp only at h2 h3
  subst h2 h3
  exact PySem.W.kia_tup (kitx_exc c) I.kIn J h1 e (fun z => nomatch z) fun tk => ⟨.bl b, H, I.tok tk, rfl, q⟩
end
end Ex

set_option Elab.async false
set_option linter.all false
set_option maxRecDepth 100000
set_option maxHeartbeats 4000000
/-! Own layer: several clauses of one try, the first of four classes in a tuple, all with the same name. -/
namespace Ex
open PySem PySem.Spec PySem.Calls PyProof.Rows L2 Gu
theorem flying_grow {B h h' : Heap} {l : List Env} {a : Addr} {Z : Obj → Prop} (k : ∀ b o, h.get? b = some o → h'.get? b = some o) (f : HandSPX.FlyingZ B l a Z h) : HandSPX.FlyingZ B l a Z h' := by
  obtain ⟨f1, f2, f3, oe, vs, T, oT, ts, e1, e2, e3, e4, e5, e6, e7, e8, e9⟩ := f
  refine ⟨fun b o e => k _ _ (f1 b o e), f2, f3.of_keeps fun b o e _ => ⟨o, k _ _ e, rfl⟩, oe, vs, T, oT, ts, k _ _ e1, e2, e3, e4, e5, e6, k _ _ e7, e8, e9⟩
theorem up_grow {h h1 h2 : Heap} (u : h.UpToSlots h1) (k : ∀ b o, h1.get? b = some o → h2.get? b = some o) : h.UpToSlots h2 := fun b o e hd => by
  obtain ⟨sl, z⟩ := u b o e hd
  exact ⟨sl, k _ _ z⟩
/-- a clause's classes -/
inductive Cls4
  | one (c : Value)
  | four (c1 c2 c3 c4 : Value)
def Cls4.ask (K : PySem.W.Frag) (cls : Value) : Cls4 → Option Bool
  | .one c => PySem.W.exmOne K cls c
  | .four c1 c2 c3 c4 => PySem.W.exmAny K cls [c1, c2, c3, c4]
abbrev Suites4 : Type := List (Cls4 × (Addr → Value → Option Addr → TS))
def wAs4 (K : PySem.W.Frag) (i : Nat) (Wout : WX) (D : Ends) : Suites4 → WX
  | [] => Wout
  | (q, ts) :: r => fun cls d σ H => ∃ b, q.ask K cls = some b ∧ (b = true → ∀ a, H a = none → ts a cls d { nx := fun σ' H' => D.nx (σ'.set i none) H', rt := D.rt, bk := fun σ' H' => D.bk (σ'.set i none) H', ct := fun σ' H' => D.ct (σ'.set i none) H' } (σ.set i (some (.ref a))) H) ∧
    (b = false → wAs4 K i Wout D r cls d σ H)
inductive HdAs4 (X : Cx) (n : Str) : List ExceptHandler → Suites4 → Prop
  | nil : HdAs4 X n [] []
  | one {x : Str} {c : Value} {ts : Addr → Value → Option Addr → TS} {b0 : Stmt} {su : List Stmt} {np p2 : Pos} {hs : List ExceptHandler} {l : Suites4} (hc : Names X x c)
      (hsu : ∀ (a : Addr) (oe : Obj) (cls : Value) (d : Option Addr) (pn : List (Addr × Obj)), Zc cls d oe → (∃ vs, oe.data = .fields vs) → PSs (X.suite a ((a, oe) :: pn)) (b0 :: su) (ts a cls d)) (r : HdAs4 X n hs l) :
      HdAs4 X n (.ExceptHandler (some (.Name x np)) (some n) (b0 :: su) p2 :: hs) ((.one c, ts) :: l)
  | four {x1 x2 x3 x4 : Str} {c1 c2 c3 c4 : Value} {ts : Addr → Value → Option Addr → TS} {b0 : Stmt} {su : List Stmt} {p1 p2 p3 p4 tp p5 : Pos} {kk} {hs : List ExceptHandler} {l : Suites4} (h1 : Names X x1 c1) (h2 : Names X x2 c2) (h3 : Names X x3 c3) (h4 : Names X x4 c4)
      (hsu : ∀ (a : Addr) (oe : Obj) (cls : Value) (d : Option Addr) (pn : List (Addr × Obj)), Zc cls d oe → (∃ vs, oe.data = .fields vs) → PSs (X.suite a ((a, oe) :: pn)) (b0 :: su) (ts a cls d)) (r : HdAs4 X n hs l) :
      HdAs4 X n (.ExceptHandler (some (.Tuple [.Name x1 p1, .Name x2 p2, .Name x3 p3, .Name x4 p4] kk tp)) (some n) (b0 :: su) p5 :: hs) ((.four c1 c2 c3 c4, ts) :: l)
section
variable {X : Cx} {n : Str} {i : Nat} {body : List Stmt} {h0 : ExceptHandler} {hds : List ExceptHandler} {l : Suites4} {pos : Pos} {tb : WX → TS} {Wout : WX}
theorem ps_try_as4 (hs : X.stack = X.env :: X.outer) (hf : X.env.frame = some X.env.locals) (hN : X.N.Nodup) (hi : X.N[i]? = some n) (hln : X.env.kindOf n = some .local) (tk : Takes X Wout)
    (hb : ∀ (W : WX) (pn : List (Addr × Obj)) (xe : Value → Shared → Prop), Takes (X.tr pn xe) W → PassesOwn (model X.prog X.w) X.A X.env xe → PSs (X.tr pn xe) body (tb W))
    (hh : HdAs4 X n (h0 :: hds) l) : PS X (.Try body (h0 :: hds) [] [] pos) (fun D σ H => tb (wAs4 X.K i Wout D l) D σ H) := by
  refine ⟨fun pins s σ H D I h => ?_⟩
  have ok := I.ok
  have fr : X.A.frames = some (X.env :: X.outer) := by
    rw [ok.frames, hs]
  refine wpAny_Try_except (wpAny_mono ((hb (wAs4 X.K i Wout D l) (X.pn ++ pins) (fun e s1 => wpAny (model X.prog X.w) X.A (noteFrame e X.env) (fun _ s2 => wpAny (model X.prog X.w) X.A (setFlight e none) (fun _ s3 =>
    wpAny (model X.prog X.w) X.A (handleBy e X.env (h0 :: hds)) (SP X pins D) X.xe s3) X.xe s2) X.xe s1) (fun u s' xx => ?_) PassesOwn.looking).run [] s σ H D (I.toTry _) h) (fun f s1 hsp => ?_) (fun e s1 he => he))
  · obtain ⟨a, B, sI, pins', σ1, H1, cls, d, rfl, J0, nb, up, sky, na, os, ag, w⟩ := xx
    have J : Inv X pins σ1 H1 sI := J0.ofTry ok
    rw [hs] at sky
    show wpAny (model X.prog X.w) X.A (noteFrame (.ref a) X.env) _ _ _
    refine Sky.land Zc.steady fr hf sky fun hL flL upL => ?_
    have nfr : ∀ {h3 : Heap}, HandSPX.FlyingZ B (X.env :: X.outer) a (Zc cls d) h3 → a ∉ frs (X.env :: X.outer) := fun {h3} fl hm => by
      obtain ⟨o3, v3, he3, hz3, hd3⟩ := fl.there
      obtain ⟨_, o', e', hnf⟩ := fl.2.2.1.mem hm
      rw [he3] at e'
      cases e'
      exact hnf _ hd3
    have nfr := nfr flL
    have nL : a ≠ X.env.locals := fun z => nfr (List.mem_filterMap.mpr ⟨X.env, List.mem_cons_self, by rw [hf, z]⟩)
    have nF : a ∉ X.fs := fun hm => by
      obtain ⟨e, he, q⟩ := List.mem_filterMap.mp hm
      exact nfr (List.mem_filterMap.mpr ⟨e, List.mem_cons_of_mem _ he, q⟩)
    have go : ∀ {hs2 : List ExceptHandler} {l2 : Suites4}, HdAs4 X n hs2 l2 → ∀ h3 : Heap, HandSPX.FlyingZ B (X.env :: X.outer) a (Zc cls d) h3 → sI.heap.UpToSlots h3 → wAs4 X.K i Wout D l2 cls d σ1 H1 →
        wpAny (model X.prog X.w) X.A (handleBy (.ref a) X.env hs2) (SP X pins D) X.xe { s' with heap := h3 } := by
      intro hs2 l2 hk
      induction hk with
      | nil =>
        intro h3 fl up3 w
        have J3 : Inv X pins σ1 H1 { s' with heap := h3 } := J.landed nb fl.1 up3 os ag
        refine wpAny_handleBy_nil ?_
        obtain ⟨_, _, _, oe, vs, Tb, oT, tsT, he, hz, hd, h1, hr⟩ := id fl
        unfold PySem.passOn
        refine wpAny_bind (wpAny_field he hd h1 ?_)
        rw [if_neg (show ¬ ((Value.ref Tb == Value.none) = true) from by simp)]
        have fin : wpAny (model X.prog X.w) X.A (setFlight (.ref a) X.env.frame) (fun _ s4 => wpAny (model X.prog X.w) X.A (throw (.ref a) : Sem Flow) (SP X pins D) X.xe s4) X.xe { s' with heap := h3 } := by
          rw [hf]
          exact HandSPX.setFlight_upZ fl fun h4 hh4 up4 => wpAny_throw (tk _ _ ⟨a, B, sI, pins, σ1, H1, cls, d, rfl, J, nb, up3.trans up4, .inr (.inr (by rw [hs]; exact hh4)), na, os, ag, w⟩)
        first
          | exact wpAny_bind (wpAny_pure (wpAny_bind fin))
          | exact wpAny_bind fin
      | @one x c ts b0 su np p5 hs3 l3 hc hsu r ih =>
        intro h3 fl up3 w
        have J3 : Inv X pins σ1 H1 { s' with heap := h3 } := J.landed nb fl.1 up3 os ag
        obtain ⟨o3, v3, he3, hz3, hd3⟩ := fl.there
        have S3 := J3.suite he3 hd3 na nL nF
        obtain ⟨b, hb1, yes, no⟩ := w
        refine wpAny_handleBy_cons (codeAny_handlers_test ?_) (by intro q; cases q)
        have lt : PySem.W.Looks (model X.prog X.w) h3 (typeOf (.ref a)) cls := fun A Q E s k q => wpAny_typeOf_ref (k _ _ he3) (by rw [hz3.1]; exact q)
        have lm := PySem.W.exm_one (M := model X.prog X.w) J3.kIn lt hb1
        have name : ∀ {Q : Value → Shared → Prop} {E : Value → Shared → Prop}, Q c { s' with heap := h3 } → wpAny (model X.prog X.w) (X.A.mark (some (.ref a))) (eval (.Name x np) X.env) Q E { s' with heap := h3 } := fun {Q E} q => by
          obtain ⟨hg, hdbg, hm | ⟨hm, hv, hnn⟩⟩ := hc
          · exact ld_glob (X := X.suite a ((a, o3) :: (X.pn ++ pins))) S3 hg hm q hdbg
          · exact ld_blt (X := X.suite a ((a, o3) :: (X.pn ++ pins))) S3 hg hm hv q hnn hdbg
        refine name (lm.here ?_)
        cases b with
        | false =>
          show wpAny _ X.A (handleBy (.ref a) X.env hs3) _ _ _
          exact ih h3 fl up3 (no rfl)
        | true =>
          refine codeAny_handlers_suite_as (HandSPX.lands_againZ fl fun h9 fl9 up9 => ?_)
          have J4 : Inv X pins σ1 H1 { s' with heap := h9 } := J.landed nb fl9.1 ((up3).trans up9) os ag
          obtain ⟨o4, v4, he4, hz4, hd4⟩ := fl9.there
          have S4 := J4.suite he4 hd4 na nL nF
          refine store_ok (X := X.suite a ((a, o4) :: (X.pn ++ pins))) (v := .ref a) S4 hN hi (.inl hln) rfl (fun s5 S5 => ?_) (.inr hln)
          refine wpAny_mono ((hsu a o4 cls d (X.pn ++ pins) hz4 ⟨_, hd4⟩).run [] s5 _ H1 _ S5 (yes rfl a na)) (fun f s6 hsp => ?_) (fun _ _ z => False.elim z)
          have out : ∀ {σ6 : L2.St} {H6 : Hp} {Q : Shared → Prop}, Inv (X.suite a ((a, o4) :: (X.pn ++ pins))) [] σ6 H6 s6 → (∀ s7, Inv X pins (σ6.set i none) H6 s7 → Q s7) →
              wpAny (model X.prog X.w) X.A (do bindName X.env n .none; unbindBehindTheSuite X.env n p5) (fun _ s7 => Q s7) X.xe s6 := fun {σ6 H6 Q} S6 hq => gone_ok (S6.unsuite ok) hN hi hln hq
          match f, hsp with
          | .next, ⟨σ6, H6, S6, q6⟩ => exact out S6 fun s7 J7 => ⟨_, _, J7, q6⟩
          | .brk, ⟨σ6, H6, S6, q6⟩ => exact out S6 fun s7 J7 => ⟨_, _, J7, q6⟩
          | .cont, ⟨σ6, H6, S6, q6⟩ => exact out S6 fun s7 J7 => ⟨_, _, J7, q6⟩
          | .ret u, ⟨v6, σ6, H6, S6, r6, q6⟩ => exact out S6 fun s7 J7 => ⟨_, _, _, J7, r6, q6⟩
      | @four x1 x2 x3 x4 c1 c2 c3 c4 ts b0 su p1 p2 p3 p4 tp p5 kk hs3 l3 m1 m2 m3 m4 hsu r ih =>
        intro h3 fl up3 w
        have J3 : Inv X pins σ1 H1 { s' with heap := h3 } := J.landed nb fl.1 up3 os ag
        obtain ⟨o3, v3, he3, hz3, hd3⟩ := fl.there
        have S3 := J3.suite he3 hd3 na nL nF
        obtain ⟨b, hb1, yes, no⟩ := w
        refine wpAny_handleBy_cons (codeAny_handlers_test ?_) (by intro q; cases q)
        have name : ∀ {x : Str} {c : Value} {np : Pos}, Names X x c → ∀ {Q : Value → Shared → Prop} {E : Value → Shared → Prop}, Q c { s' with heap := h3 } → wpAny (model X.prog X.w) (X.A.mark (some (.ref a))) (eval (.Name x np) X.env) Q E { s' with heap := h3 } := fun {x c np} hc {Q E} q => by
          obtain ⟨hg, hdbg, hm | ⟨hm, hv, hnn⟩⟩ := hc
          · exact ld_glob (X := X.suite a ((a, o3) :: (X.pn ++ pins))) S3 hg hm q hdbg
          · exact ld_blt (X := X.suite a ((a, o3) :: (X.pn ++ pins))) S3 hg hm hv q hnn hdbg
        refine wpAny_Tuple_spliced (args_cons (name m1 (args_cons (name m2 (args_cons (name m3 (args_cons (name m4 (args_nil ⟨(by show 4 ≤ sizeLine; decide), ?_⟩)))))))))
        have k4 : ∀ b o, h3.get? b = some o → (h3.push { cls := .type "tuple", data := .seq [c1, c2, c3, c4].toArray }).get? b = some o := fun b o e => Heap.get?_push_of_some _ e
        have fl4 := flying_grow k4 fl
        have up4 := up_grow up3 k4
        have J4 : Inv X pins σ1 H1 { s' with heap := h3.push { cls := .type "tuple", data := .seq [c1, c2, c3, c4].toArray } } := J.landed nb fl4.1 up4 os ag
        have lt : PySem.W.Looks (model X.prog X.w) (h3.push { cls := .type "tuple", data := .seq [c1, c2, c3, c4].toArray }) (typeOf (.ref a)) cls := fun A Q E s k q => wpAny_typeOf_ref (k _ _ (k4 _ _ he3)) (by rw [hz3.1]; exact q)
        have lm := PySem.W.exm_tup4 (M := model X.prog X.w) (tp := h3.objs.size) (e := a) J4.kIn lt (Heap.get?_push_size _ rfl) hb1
        refine lm.here ?_
        cases b with
        | false =>
          show wpAny _ X.A (handleBy (.ref a) X.env hs3) _ _ _
          exact ih _ fl4 up4 (no rfl)
        | true =>
          refine codeAny_handlers_suite_as (HandSPX.lands_againZ fl4 fun h9 fl9 up9 => ?_)
          have J4 : Inv X pins σ1 H1 { s' with heap := h9 } := J.landed nb fl9.1 ((up4).trans up9) os ag
          obtain ⟨o4, v4, he4, hz4, hd4⟩ := fl9.there
          have S4 := J4.suite he4 hd4 na nL nF
          refine store_ok (X := X.suite a ((a, o4) :: (X.pn ++ pins))) (v := .ref a) S4 hN hi (.inl hln) rfl (fun s5 S5 => ?_) (.inr hln)
          refine wpAny_mono ((hsu a o4 cls d (X.pn ++ pins) hz4 ⟨_, hd4⟩).run [] s5 _ H1 _ S5 (yes rfl a na)) (fun f s6 hsp => ?_) (fun _ _ z => False.elim z)
          have out : ∀ {σ6 : L2.St} {H6 : Hp} {Q : Shared → Prop}, Inv (X.suite a ((a, o4) :: (X.pn ++ pins))) [] σ6 H6 s6 → (∀ s7, Inv X pins (σ6.set i none) H6 s7 → Q s7) →
              wpAny (model X.prog X.w) X.A (do bindName X.env n .none; unbindBehindTheSuite X.env n p5) (fun _ s7 => Q s7) X.xe s6 := fun {σ6 H6 Q} S6 hq => gone_ok (S6.unsuite ok) hN hi hln hq
          match f, hsp with
          | .next, ⟨σ6, H6, S6, q6⟩ => exact out S6 fun s7 J7 => ⟨_, _, J7, q6⟩
          | .brk, ⟨σ6, H6, S6, q6⟩ => exact out S6 fun s7 J7 => ⟨_, _, J7, q6⟩
          | .cont, ⟨σ6, H6, S6, q6⟩ => exact out S6 fun s7 J7 => ⟨_, _, J7, q6⟩
          | .ret u, ⟨v6, σ6, H6, S6, r6, q6⟩ => exact out S6 fun s7 J7 => ⟨_, _, _, J7, r6, q6⟩
    exact go hh hL flL (up.trans upL) w
  · match f, hsp with
    | .next, ⟨σ1, H1, J1, q⟩ => exact wpAny_execs_nil ⟨σ1, H1, J1.ofTry ok, q⟩
    | .brk, ⟨σ1, H1, J1, q⟩ => exact ⟨σ1, H1, J1.ofTry ok, q⟩
    | .cont, ⟨σ1, H1, J1, q⟩ => exact ⟨σ1, H1, J1.ofTry ok, q⟩
    | .ret u, ⟨v, σ1, H1, J1, r, q⟩ => exact ⟨v, σ1, H1, J1.ofTry ok, r, q⟩
end
end Ex

set_option Elab.async false
set_option linter.all false
set_option maxRecDepth 100000
set_option maxHeartbeats 4000000
/-! Own layer: xs.count(y) of flat values. -/
namespace L2
open PySem PySem.Spec PyProof.Rows
section
variable {X : Cx}
theorem countP_flat {y : V} : ∀ {ys : List V} {us : List Value}, Vals ys us → ys.all flatV = true → us.countP (eqU y) = ys.countP fun z => eqV z y
  | _, _, .nil, _ => rfl
  | z :: ys, u :: us, .cons r rs, f => by
    obtain ⟨f1, f2⟩ := He.ba (show (flatV z && ys.all flatV) = true from f)
    rw [List.countP_cons, List.countP_cons, countP_flat rs f2, eqU_of r f1]
def rCountF (K : PySem.W.Frag) : V → List V → Hp → VK → Prop := fun x xs H Q => ∃ (a : Addr) (ys : List V) (y : V), x = V.ref a ∧ xs = [y] ∧ SqL K H a ys ∧ flatV y = true ∧ ys.all flatV = true ∧ Q (.int ((ys.countP fun z => eqV z y : Nat))) H
theorem mt_countF : MtR X "list.count" (rCountF X.K) := by
  intro pins s σ H x xs v us Q I rx rxs h
  obtain ⟨a, ys, y, rfl, rfl, hs, fy, fys, q⟩ := h
  cases rx
  obtain ⟨uy, rfl, ry⟩ := rxs.one
  obtain ⟨its, rv, ⟨⟨cls, dd, data, sl⟩, n, ho, hc, hdn, hd⟩, hlen⟩ := I.list hs
  simp only at hc hd
  subst hc hd
  refine call_meets PySem.F.slot_list_count ⟨_, ho, rfl⟩ PySem.F.entry_list_count (PySem.F.args_list_count_2 _ _)
    (SeqAt.list_countAt a its.toArray n dd sl uy (eqU y)) ⟨ho, fun u' hu' => mem_eqAt ry fy rv fys u' (by simpa using hu'), ?_⟩
  refine ⟨.int ((ys.countP fun z => eqV z y : Nat)), H, I.tok _, ⟨s.toks, ?_⟩, q⟩
  show Value.int ((its.toArray.toList.countP (eqU y) : Nat) : Int) s.toks = _
  rw [show its.toArray.toList = its from rfl, countP_flat rv fys]
end
end L2

set_option Elab.async false
set_option linter.all false
set_option maxRecDepth 100000
set_option maxHeartbeats 400000
set_option pp.maxSteps 900
namespace K26
open PySem PySem.Spec PyProof.Rows L2 Gu Ex

def wordOf : Nat → Str
  | 0 => "level"
  | 1 => "address"
  | 2 => "number"
  | 3 => "numbers"
  | 4 => "block"
  | _ => "occupied"
/-- D is the j-th of them -/
structure KitW (K : PySem.W.Frag) (D : Addr) (j : Nat) : Prop where
  ec : ExcC K D
  k : ∀ i, i < 6 → PySem.W.kitOne K (.ref D) (.ref (wc K i)) = some (decide (i = j))
  u : PySem.W.kitAny K (.ref D) [.ref (He.ga K "UnknownName"), .ref (He.ga K "NoRoom")] = some false
  r : PySem.W.kitOne K (.ref D) (.ref (He.ga K "RoomError")) = some (decide (j < 4))
  l : PySem.W.kitOne K (.ref D) (.type "LookupError") = some (decide (j = 4))
  t : PySem.W.kitOne K (.ref D) (.type "RuntimeError") = some (decide (j = 5))
def bits (j : Nat) : List V := (List.range 6).map fun i => V.bl (decide (i = j))
theorem bits_at {j m : Nat} {z : V} (h : (bits j)[m]? = some z) : z = .bl (decide (m = j)) := by
  unfold bits at h
  rw [List.getElem?_map] at h
  obtain ⟨i, hi, e⟩ := Option.map_eq_some_iff.mp h
  have hl := (List.getElem?_eq_some_iff.mp hi).1
  rw [List.length_range] at hl
  rw [List.getElem?_range hl] at hi
  cases hi
  exact e.symm
theorem bits_get {j m : Nat} (h : m < 6) : (bits j)[m]? = some (.bl (decide (m = j))) := by
  unfold bits
  rw [List.getElem?_map, List.getElem?_range h]
  rfl
theorem bits_flat (j : Nat) : (bits j).all flatV = true := rfl
theorem bits_count {j : Nat} (h : j < 6) : (bits j).countP (fun z => eqV z (.bl true)) = 1 := by
  have : j = 0 ∨ j = 1 ∨ j = 2 ∨ j = 3 ∨ j = 4 ∨ j = 5 := by omega
  rcases this with rfl | rfl | rfl | rfl | rfl | rfl <;> decide
def wordsL : List V := [.str "level", .str "address", .str "number", .str "numbers", .str "block", .str "occupied"]
theorem words_at {j : Nat} (h : j < 6) : atI wordsL (j : Int) = some (.str (wordOf j)) := by
  have : j = 0 ∨ j = 1 ∨ j = 2 ∨ j = 3 ∨ j = 4 ∨ j = 5 := by omega
  rcases this with rfl | rfl | rfl | rfl | rfl | rfl <;> rfl
theorem huE {k : Nat} {A : Around} (h : L2H.RoomH k A) : A.units + 64 < cLine := by
  have := h.un
  omega
section
variable {P : Program} {w : World} {K : PySem.W.Frag} {mg : Str → Option Value} {base : Heap} {f : Addr} {fd : FuncData}
def spKind (K : PySem.W.Frag) : SpE := fun a D d vs H Q _ => ∃ (j : Nat) (dd : Addr) (fs : List (Str × V)), j < 6 ∧ vs = [.ref a] ∧ KitW K D j ∧ d = some dd ∧ H dd = some (.xd fs) ∧ ∀ H', Same H H' → Q (.str (wordOf j)) H'
theorem sc__law_kind : FnScope ["_law_e", "_law_flags", "_law_below", "_law_at"] ["_law_e"] (defScope (top 40)) := ⟨rfl, rfl, rfl, by decide +kernel, rfl, by decide +kernel, by decide +kernel⟩
theorem ok_kind (T : Tx K mg) (F : FnP K "_law_kind" "_law_kind" (top 40) f fd) : FnE P w K mg base 1 f fd ["_law_e"] (spKind K) := by
  refine okE F sc__law_kind (fun a D d vs H Q E h => ?_) (fun cdv A outer s H vs Q a D d oe hr hz hf h => ?_)
  · obtain ⟨j, dd, fs, _, rfl, _⟩ := h
    rfl
  · obtain ⟨j, dd, fs, j6, rfl, hC, ed, hd, q⟩ := h
    have hk := hC.k
    refine ⟨_, (pss_cons (ps_set (i := 1) sc__law_kind.nd rfl (by first | exact Or.inl rfl | exact Or.inr rfl) (pe_lst (pa_cons (by exact (pe_callB (r := rIsX K D a (.ref D) d) (id := "isinstance") (call_isP hC.ec List.mem_cons_self hz hf) (by rfl) T.n_isinstance (by decide +kernel) (by exact (pa_cons (pv 0) (pa_cons (pe_glob (v := .ref _) rfl T.g_InvalidLevel rfl) pa_nil))))) (pa_cons (by exact (pe_callB (r := rIsX K D a (.ref D) d) (id := "isinstance") (call_isP hC.ec List.mem_cons_self hz hf) (by rfl) T.n_isinstance (by decide +kernel) (by exact (pa_cons (pv 0) (pa_cons (pe_glob (v := .ref _) rfl T.g_InvalidAddress rfl) pa_nil))))) (pa_cons (by exact (pe_callB (r := rIsX K D a (.ref D) d) (id := "isinstance") (call_isP hC.ec List.mem_cons_self hz hf) (by rfl) T.n_isinstance (by decide +kernel) (by exact (pa_cons (pv 0) (pa_cons (pe_glob (v := .ref _) rfl T.g_InvalidNumber rfl) pa_nil))))) pa_nil))))) (pss_cons (ps_set (i := 1) sc__law_kind.nd rfl (by first | exact Or.inl rfl | exact Or.inr rfl) (pe_op op_cat (pv 1) (pe_lst (pa_cons (by exact (pe_callB (r := rIsX K D a (.ref D) d) (id := "isinstance") (call_isP hC.ec List.mem_cons_self hz hf) (by rfl) T.n_isinstance (by decide +kernel) (by exact (pa_cons (pv 0) (pa_cons (pe_glob (v := .ref _) rfl T.g_InvalidNumbers rfl) pa_nil))))) (pa_cons (by exact (pe_callB (r := rIsX K D a (.ref D) d) (id := "isinstance") (call_isP hC.ec List.mem_cons_self hz hf) (by rfl) T.n_isinstance (by decide +kernel) (by exact (pa_cons (pv 0) (pa_cons (pe_glob (v := .ref _) rfl T.g_UnknownBlock rfl) pa_nil))))) (pa_cons (by exact (pe_callB (r := rIsX K D a (.ref D) d) (id := "isinstance") (call_isP hC.ec List.mem_cons_self hz hf) (by rfl) T.n_isinstance (by decide +kernel) (by exact (pa_cons (pv 0) (pa_cons (pe_glob (v := .ref _) rfl T.g_Occupied rfl) pa_nil))))) pa_nil)))))) (pss_cons (ps_if (PW.pt (pw_or (pt_cmpR op_ne (pe_bm PySem.F.plainAttrs_list PySem.F.slot_list_count PySem.F.type_list_count L2.mt_countF (pv 1) (pa_cons pe_bl pa_nil)) pe_int (nomark _)) (pw_or1 (pt_val (by exact (pe_callB (r := rIsXT K D a (.ref D) d) (id := "isinstance") (call_isPT hC.ec List.mem_cons_self hz hf) (by rfl) T.n_isinstance (by decide +kernel) (by exact (pa_cons (pv 0) (pa_cons (pe_tup (pa_cons (pe_glob (v := .ref _) rfl T.g_UnknownName rfl) (pa_cons (pe_glob (v := .ref _) rfl T.g_NoRoom rfl) pa_nil))) pa_nil))))))))) (pss_one (ps_ret pe_str)) pss_nil) (pss_cons (ps_set (i := 2) sc__law_kind.nd rfl (by first | exact Or.inl rfl | exact Or.inr rfl) (pe_lst (pa_cons (by exact (pe_callB (r := rIsX K D a (.ref D) d) (id := "isinstance") (call_isP hC.ec List.mem_cons_self hz hf) (by rfl) T.n_isinstance (by decide +kernel) (by exact (pa_cons (pv 0) (pa_cons (pe_glob (v := .ref _) rfl T.g_RoomError rfl) pa_nil))))) (pa_cons (by exact (pe_callB (r := rIsX K D a (.ref D) d) (id := "isinstance") (call_isP hC.ec List.mem_cons_self hz hf) (by rfl) T.n_isinstance (by decide +kernel) (by exact (pa_cons (pv 0) (pa_cons (pe_bltn (v := .ty "LookupError") (by rfl) T.n_LookupError (by decide +kernel) rfl) pa_nil))))) (pa_cons (by exact (pe_callB (r := rIsX K D a (.ref D) d) (id := "isinstance") (call_isP hC.ec List.mem_cons_self hz hf) (by rfl) T.n_isinstance (by decide +kernel) (by exact (pa_cons (pv 0) (pa_cons (pe_bltn (v := .ty "RuntimeError") (by rfl) T.n_RuntimeError (by decide +kernel) rfl) pa_nil))))) pa_nil))))) (pss_cons (ps_set (i := 3) sc__law_kind.nd rfl (by first | exact Or.inl rfl | exact Or.inr rfl) (pe_bm PySem.F.plainAttrs_list PySem.F.slot_list_index PySem.F.type_list_index mt_index (pv 1) (pa_cons pe_bl pa_nil))) (pss_cons (ps_if (pt_cmpR (op_neD (huE hr)) (pv 2) (pe_lst (pa_cons (pe_cmpR op_lt (pv 3) pe_int (nomark _)) (pa_cons (pe_cmpR op_eq (pv 3) pe_int (nomark _)) (pa_cons (pe_cmpR op_eq (pv 3) pe_int (nomark _)) pa_nil)))) (nomark _)) (pss_one (ps_ret pe_str)) pss_nil) (pss_one (ps_ret (pe_ix ix_list (pe_lst (pa_cons pe_str (pa_cons pe_str (pa_cons pe_str (pa_cons pe_str (pa_cons pe_str (pa_cons pe_str pa_nil))))))) (pv 3) (fun _ _ => rfl)))))))))), ?_⟩
    refine ⟨_, rfl, _, _, _, dd, _, rfl, rfl, ed, .own _, hd, hk 0 (by decide), _, rfl, _, _, _, dd, _, rfl, rfl, ed, .own _, hd, hk 1 (by decide), _, rfl, _, _, _, dd, _, rfl, rfl, ed, .own _, hd, hk 2 (by decide), (by show 3 ≤ sizeLine; decide), fun p hp => ?_⟩
    have hd1 := same_upd (o := .lst [.bl (decide (0 = j)), .bl (decide (1 = j)), .bl (decide (2 = j))]) hp _ _ hd
    refine ⟨_, rfl, _, rfl, _, _, _, dd, _, rfl, rfl, ed, .own _, hd1, hk 3 (by decide), _, rfl, _, _, _, dd, _, rfl, rfl, ed, .own _, hd1, hk 4 (by decide), _, rfl, _, _, _, dd, _, rfl, rfl, ed, .own _, hd1, hk 5 (by decide), (by show 3 ≤ sizeLine; decide), fun p2 hp2 => ?_⟩
    have s2 := (same_upd (o := .lst [.bl (decide (0 = j)), .bl (decide (1 = j)), .bl (decide (2 = j))]) hp).trans (same_upd (o := .lst [.bl (decide (3 = j)), .bl (decide (4 = j)), .bl (decide (5 = j))]) hp2)
    refine ⟨p, p2, _, _, rfl, rfl, same_upd hp2 _ _ upd_same, upd_same, by rw [sizeLine_eq]; show 3 + 3 ≤ 16777216; decide, fun L hL => ?_⟩
    rw [show ([V.bl (decide (0 = j)), V.bl (decide (1 = j)), V.bl (decide (2 = j))] ++ [V.bl (decide (3 = j)), V.bl (decide (4 = j)), V.bl (decide (5 = j))] : List V) = bits j from rfl]
    have s3 := s2.trans (same_upd (o := .lst (bits j)) hL)
    have hL3 : (upd (upd (upd H p (.lst [.bl (decide (0 = j)), .bl (decide (1 = j)), .bl (decide (2 = j))])) p2 (.lst [.bl (decide (3 = j)), .bl (decide (4 = j)), .bl (decide (5 = j))])) L (.lst (bits j))) L = some (.lst (bits j)) := upd_same
    have hd3 := s3 _ _ hd
    refine ⟨_, rfl, .inl ⟨rfl, _, SqL.of hL3⟩, L, _, .bl true, rfl, rfl, SqL.of hL3, rfl, bits_flat j, rfl, false, by rw [bits_count j6]; rfl, iteF ?_⟩
    refine ⟨_, rfl, (by show 2 ≤ sizeLine; decide), fun t ht => ⟨t, _, _, false, dd, _, rfl, rfl, ed, upd_same, .cons (.own _) (.cons (.own _) .nil), same_upd ht _ _ hd3, hC.u, _, rfl, iteF ?_⟩⟩
    have s4 := s3.trans (same_upd (o := .tup [.ref (He.ga K "UnknownName"), .ref (He.ga K "NoRoom")]) ht)
    have hL4 := same_upd (o := .tup [.ref (He.ga K "UnknownName"), .ref (He.ga K "NoRoom")]) ht _ _ hL3
    have hd4 := s4 _ _ hd
    generalize upd (upd (upd (upd H p (.lst [.bl (decide (0 = j)), .bl (decide (1 = j)), .bl (decide (2 = j))])) p2 (.lst [.bl (decide (3 = j)), .bl (decide (4 = j)), .bl (decide (5 = j))])) L (.lst (bits j))) t (.tup [.ref (He.ga K "UnknownName"), .ref (He.ga K "NoRoom")]) = H4 at s4 hL4 hd4
    refine ⟨_, rfl, _, _, _, dd, _, rfl, rfl, ed, .own _, hd4, hC.r, _, rfl, _, _, _, dd, _, rfl, rfl, ed, .ty _, hd4, hC.l, _, rfl, _, _, _, dd, _, rfl, rfl, ed, .ty _, hd4, hC.t, (by show 3 ≤ sizeLine; decide), fun b hb => ?_⟩
    have s5 := s4.trans (same_upd (o := .lst [.bl (decide (j < 4)), .bl (decide (j = 4)), .bl (decide (j = 5))]) hb)
    have hL5 := same_upd (o := .lst [.bl (decide (j < 4)), .bl (decide (j = 4)), .bl (decide (j = 5))]) hb _ _ hL4
    have hb5 : (upd H4 b (.lst [.bl (decide (j < 4)), .bl (decide (j = 4)), .bl (decide (j = 5))])) b = some (.lst [.bl (decide (j < 4)), .bl (decide (j = 4)), .bl (decide (j = 5))]) := upd_same
    generalize upd H4 b (.lst [.bl (decide (j < 4)), .bl (decide (j = 4)), .bl (decide (j = 5))]) = H5 at s5 hL5 hb5
    refine ⟨_, rfl, .inl ⟨rfl, _, SqL.of hL5⟩, L, _, .bl true, j, .bl (decide (j = j)), rfl, rfl, SqL.of hL5, rfl, bits_flat j, bits_get j6, by rw [decide_eq_true rfl]; rfl, fun m z' hm hz' => ?_, ?_⟩
    · rw [bits_at hz', decide_eq_false (show ¬ m = j by omega)]
      rfl
    refine ⟨_, rfl, _, rfl, _, _, rfl, rfl, _, rfl, rfl, _, rfl, rfl, (by show 3 ≤ sizeLine; decide), fun e he => ?_⟩
    have x1 : decide ((j : Int) < 4) = decide (j < 4) := decide_eq_decide.mpr (by omega)
    have x2 : decide (V.int (j : Int) = V.int 4) = decide (j = 4) := decide_eq_decide.mpr ⟨fun h => by have := V.int.inj h; omega, fun h => by rw [h]; rfl⟩
    have x3 : decide (V.int (j : Int) = V.int 5) = decide (j = 5) := decide_eq_decide.mpr ⟨fun h => by have := V.int.inj h; omega, fun h => by rw [h]; rfl⟩
    have hb6 := same_upd (o := .lst [.bl (decide ((j : Int) < 4)), .bl (decide (V.int (j : Int) = V.int 4)), .bl (decide (V.int (j : Int) = V.int 5))]) he _ _ hb5
    have s6 := s5.trans (same_upd (o := .lst [.bl (decide ((j : Int) < 4)), .bl (decide (V.int (j : Int) = V.int 4)), .bl (decide (V.int (j : Int) = V.int 5))]) he)
    have ev : PyData.eqv (.list [.bool (decide (j < 4)), .bool (decide (j = 4)), .bool (decide (j = 5))]) (.list [.bool (decide ((j : Int) < 4)), .bool (decide (V.int (j : Int) = V.int 4)), .bool (decide (V.int (j : Int) = V.int 5))]) = true := by
      rw [x1, x2, x3]
      exact SeqAt.eqv_refl _ rfl
    refine ⟨_, _, .lst (SqL.of hb6) (.cons (.bl _) (.cons (.bl _) (.cons (.bl _) .nil))), .lst (SqL.of upd_same) (.cons (.bl _) (.cons (.bl _) (.cons (.bl _) .nil))), rfl, rfl, _, rfl, ifF (by rw [ev]; rfl) ?_⟩
    refine ⟨(by show 6 ≤ sizeLine; decide), fun M hM => ⟨_, rfl, M, wordsL, _, _, rfl, rfl, SqL.of upd_same, words_at j6, q _ (s6.trans (same_upd hM))⟩⟩
end
end K26

set_option Elab.async false
set_option linter.all false
set_option maxRecDepth 100000
set_option maxHeartbeats 4000000
/-! Own layer: a lambda handed to a def that calls it in a try's body and goes on behind the except clauses: what is wished of an error may depend on the def's own names. -/
namespace Ex
open PySem PySem.Spec PySem.Calls PyProof.Rows L2 Gu LamX
section
variable {X : Cx} {pins : List (Addr × Obj)} {σ : L2.St} {H : Hp} {s : Shared}
theorem act_at {CXg : CXT} {Eg : XK} {Ng : List Str} {qg : Str} {sg : Scope} {g f c' : Addr} {cdg pm ctv : Value} {params : Arguments} {body : Expr} {scope : Scope} {k i : Nat} {a : Str} {pn : List (Addr × Obj)} {xe : Value → Shared → Prop} {W : WX} {t : XK → TE} {p1 p2 : Pos}
    (I : Inv X pins σ H s) (L : LamS X.env.scope scope) (hf : s.heap.get? f = some (PySem.W.kla_obj "<lambda>" (X.env.qual ++ "<lambda>") params body scope (cloFrom X.env.cells scope.names []) pm c' ctv)) (hfn : H f = none) (hfr : f ∉ frs X.stack)
    (hbind : bindArgs (PySem.W.kla_fn "<lambda>" (X.env.qual ++ "<lambda>") params body scope (cloFrom X.env.cells scope.names []) pm (.ref c') ctv) ⟨[], []⟩ = pure [])
    (tk : Takes ((cxOf CXg X.prog X.w X.K X.mg X.base Ng qg sg g cdg X.A X.stack s H Eg).tr pn xe) W) (hr : Room (k + 1) (X.A.deeper (envOfC qg sg s.heap.objs.size g cdg)))
    (hbody : ∀ (A : Around) (outer : List Env) (s : Shared) (H : Hp) (E : XK), Room k (A.deeper (lamEnv X scope s.heap.objs.size f c')) → PE (lamCx X A outer s H E scope f c') body (t E))
    (hN : Ng[i]? = some a) (hv : Vis sg a) (hd : (a == ("__debug__" : Str)) = false := by decide) (hcd : (a == ("__classdict__" : Str)) = false := by decide) :
    PE ((cxOf CXg X.prog X.w X.K X.mg X.base Ng qg sg g cdg X.A X.stack s H Eg).tr pn xe) (.Call (.Name a p1) [] [] p2)
      (fun σZ HZ Q => σZ[i]? = some (some (.ref f)) ∧ HZ c' = some (CodeO c' (X.env.qual ++ "<lambda>")) ∧ t (WE W σZ) σ HZ Q) := by
  refine ⟨fun pz sz σZ HZ Q IZ ⟨h1, h2, h3⟩ => wpAny_Call_Name_kw (thn ((pe_var (pos := p1) (i := i) hN hv hd hcd).run pz sz σZ HZ (fun v H1 => v = .ref f ∧ H1 = HZ) IZ ⟨.ref f, h1, rfl, rfl⟩) fun u s1 ⟨v, H1, I1, r1, ev, eH⟩ => ?_)⟩
  subst ev
  rw [eH] at I1
  obtain rfl : u = Value.ref f := r1
  have of1 : s1.heap.get? f = some (PySem.W.kla_obj "<lambda>" (X.env.qual ++ "<lambda>") params body scope (cloFrom X.env.cells scope.names []) pm c' ctv) := I1.base.keep f _ hf hfn hfr (fun z => nomatch (show f ∈ ([] : List Addr) from z))
  have un : Un (frs X.stack) [] H HZ s.heap s1.heap := I1.base
  obtain ⟨⟨oc, vs, tt, hoc, hdc, hvc⟩, _, _⟩ := I1.hok c' _ h2
  refine PySem.W.callWith_F0 ⟨_, _, _, _, of1⟩ ?_
  have rc : codeAny (model X.prog X.w) (X.A.deeper (envOfC qg sg s.heap.objs.size g cdg)) (.call (.ref f) ⟨[], []⟩) (CR (L2.CX X.prog X.w) (envOfC qg sg s.heap.objs.size g cdg :: X.stack) X.prog X.w HZ s1 Q (WE W σZ)) s1 := by
    refine PySem.W.kla_callFunE hr.depth of1 rfl L.co L.gen rfl ⟨c', oc, vs, tt, rfl, hoc, hdc, hvc⟩ ?_
    rw [hbind]
    refine wpAny_pure (wpAny_newFunctionEnv (fun y hy => (L.own y hy).2) (fun y hy => absurd hy List.not_mem_nil) (fun h2 hns hsb => ⟨I1.nolimit.fresh _ hsb, ?_⟩) L.kind)
    show codeAny _ _ (.expr body (lamEnv X scope s1.heap.objs.size f c')) _ _
    have kp : ∀ b o, s1.heap.get? b = some o → h2.get? b = some o := fun b o e => hsb.extBut b o (Nat.ne_of_lt (Heap.lt_size e)) (Heap.get?_push_of_some _ e)
    have J : Inv (lamCx X (X.A.deeper (envOfC qg sg s.heap.objs.size g cdg)) (envOfC qg sg s.heap.objs.size g cdg :: X.stack) s1 HZ (WE W σZ) scope f c') [] σ HZ { s1 with heap := h2, toks := s1.toks + ([] : List (Str × Value)).length } := lam_start2 I L I1.env0 hr.hd un hns kp
    refine PySem.W.kla_codeExpr (wpAny_mono ((hbody _ _ s1 HZ (WE W σZ) (hr.deeper _)).run [] _ _ HZ Q J h3) (fun v s' hq => ?_) fun e s' hq => hq)
    obtain ⟨w', H', J', rv, q⟩ := hq
    exact ⟨w', H', J'.os, J'.bare, J'.base, J'.hok, rv, q⟩
  refine wpAny_call (codeAny_mono rc fun r s' hq => ?_)
  match r, hq with
  | .error e, hq => exact passAt tk σZ pz HZ s1 e s' I1 hq
  | .ok (.ret u), hq => exact I1.after hq
end
/-- the def that calls what it got under the name a: TT is what it makes of the lambda's reading -/
def GivesAt (X : Cx) (Ng : List Str) (x : Str) (sg : Scope) (g : Addr) (cdg : Value) (bg : List Stmt) (a q : Str) (TT : (XK → Hp → VK → Prop) → Hp → VK → Prop) : Prop :=
  ∀ (f c' : Addr) (s : Shared) (H : Hp) (Q : VK) (tl : XK → Hp → VK → Prop),
    (∀ (W : WX) (pn : List (Addr × Obj)) (xe : Value → Shared → Prop) (p1 p2 : Pos), Takes ((cxOf CX0 X.prog X.w X.K X.mg X.base Ng x sg g cdg X.A X.stack s H E0).tr pn xe) W →
      PE ((cxOf CX0 X.prog X.w X.K X.mg X.base Ng x sg g cdg X.A X.stack s H E0).tr pn xe) (.Call (.Name a p1) [] [] p2) (fun σZ HZ Q => σZ[0]? = some (some (.ref f)) ∧ HZ c' = some (CodeO c' q) ∧ tl (WE W σZ) HZ Q)) →
    H c' = some (CodeO c' q) → TT tl H Q → ∃ t, PSs (cxOf CX0 X.prog X.w X.K X.mg X.base Ng x sg g cdg X.A X.stack s H E0).nox bg t ∧ t { nx := fun _ H' => Q .non H', rt := Q } (L2.start Ng [.ref f]) H
section
variable {X : Cx}
/-- x(lambda: body) -/
theorem pe_lamgive {T : List (Addr × Str)} {TT : (XK → Hp → VK → Prop) → Hp → VK → Prop} {x a : Str} {g c P : Addr} {k : Nat} {pg : Arguments} {bg : List Stmt} {sg : Scope} {fd : FuncData} {Ng : List Str}
    {params : Arguments} {body : Expr} {scope : Scope} {t : XK → TE} {p lpos pos : Pos} (F : FunD X.K x x pg bg sg [] [] g fd) (hg : Gl X x) (hm : X.mg x = some (.ref g)) (hb : L2.Binds X.K fd [a] []) (Sg : FnScope Ng [a] sg) (hNg : Ng[0]? = some a) (hva : Vis sg a)
    (hG : ∀ cdg : Value, GivesAt X Ng x sg g cdg bg a (X.env.qual ++ "<lambda>") TT) (TB : TabB X.base X.mg c P) (hcode : X.env.code = .ref c) (hmT : (P, X.env.qual ++ "<lambda>") ∈ T) (hu : ∀ p ∈ T, p.1 = P → p.2 = X.env.qual ++ "<lambda>") (hr : Room (k + 2) X.A)
    (L : LamS X.env.scope scope) (hdef : defaultsOf params X.env = ([], [])) (hbind : ∀ (q : Str) (cl : List (Str × Addr)) (pm cv ctv : Value), bindArgs (PySem.W.kla_fn "<lambda>" q params body scope cl pm cv ctv) ⟨[], []⟩ = pure [])
    (hbody : ∀ (A : Around) (outer : List Env) (s : Shared) (H : Hp) (E : XK) (f c' : Addr), Room k (A.deeper (lamEnv X scope s.heap.objs.size f c')) → PE (lamCx X A outer s H E scope f c') body (t E))
    (hdb : (x == ("__debug__" : Str)) = false := by decide) (hd : (a == ("__debug__" : Str)) = false := by decide) (hcd : (a == ("__classdict__" : Str)) = false := by decide) :
    PE X (.Call (.Name x p) [.Lambda params body scope lpos] [] pos) (tLam T TT t) := by
  obtain ⟨oc, od, dV, kV, doc, pm, an, cdv, ct, osl, rfl, lk, hcg, _, _⟩ := F.ex
  refine ⟨fun pins s σ H Q I ⟨hT, h⟩ => wpAny_Call_Name_kw (ld_glob I hg hm (PySem.W.callWith_K (h₀ := X.base) I.ok.mod.kin F.kp ?_ (by rfl) (by rfl)) hdb)⟩
  show wpAny _ _ (spliced ((false, eval (.Lambda params body scope lpos) X.env) :: backTo pos (starEach [] X.env))) _ _ s
  refine Calls.spliced_cons (lam_make2 I TB hcode hmT hu hT hdef (L.has I.ok) fun f c' pm' ctv H1 s' I1 eN T1 hf hfn hfr hco => Calls.spliced_nil ⟨I1.kIn, ?_⟩)
  have rc : codeAny (model X.prog X.w) X.A (.call (.ref g) ⟨[.ref f], []⟩) (CR CX0 X.stack X.prog X.w H1 s' Q E0) s' := by
    refine run_ofS (N := Ng) (ps := [a]) (us := [.ref f]) (vs := [.ref f]) lk hcg Sg hr I1.env0 (hb s' [.ref f] I1.kIn rfl) (.cons rfl .nil) rfl fun hr' => ?_
    obtain ⟨t', ht', hq'⟩ := hG cdv f c' s' H1 Q (fun E H' Q' => t E σ H' Q') (fun W pn xe p1 p2 tk => act_at (i := 0) I1 L hf hfn hfr (hbind _ _ _ _ _) tk hr' (fun A outer s H E hr2 => hbody A outer s H E f c' hr2) hNg hva hd hcd) hco (h H1 eN T1)
    exact ⟨t', ht'.nox, hq'⟩
  refine wpAny_call (codeAny_mono rc fun r s2 hq => ?_)
  match r, hq with
  | .ok (.ret u), hq => exact I1.after hq
end
end Ex

set_option Elab.async false
set_option linter.all false
set_option maxRecDepth 100000
set_option maxHeartbeats 400000
set_option pp.maxSteps 900
namespace K26
open PySem PySem.Spec PyProof.Rows L2 Gu Ex LamX

/-- what the classes are to each other -/
structure KitX (K : PySem.W.Frag) : Prop where
  w : ∀ j, j < 6 → KitW K (wc K j) j
  xf : ∀ j, j < 6 → XfC K (wc K j)
  no : ∀ j, j < 6 → PySem.W.findIn K (.ref (wc K j)) (fldOf j) = some none
  e4 : ∀ j, j < 6 → PySem.W.exmAny K (.ref (wc K j)) [.ref (cL K), .ref (cA K), .ref (cNu K), .ref (cU K)] = some (decide (j ≠ 3 ∧ j ≠ 5))
  eN : ∀ j, j < 6 → PySem.W.exmOne K (.ref (wc K j)) (.ref (cNs K)) = some (decide (j = 3))
  eO : ∀ j, j < 6 → PySem.W.exmOne K (.ref (wc K j)) (.ref (cO K)) = some (decide (j = 5))
/-- e.n of the caught error, whatever its class -/
def tXfA (K : PySem.W.Frag) (a : Addr) (cls : Value) (d : Option Addr) (n : Str) (te : TE) : TE := fun σ H Q => ∃ C, XfC K C ∧ PySem.W.findIn K (.ref C) n = some none ∧ tXf a cls d C n te σ H Q
theorem pe_xfA {X : Cx} {a : Addr} {oe : Obj} {cls : Value} {d : Option Addr} {pn : List (Addr × Obj)} {e : Expr} {te : TE} {pos : Pos} {n : Str}
    (hz : Zc cls d oe) (hf : ∃ vs, oe.data = .fields vs) (he : PE (X.suite a ((a, oe) :: pn)) e te) (hb : attributeBase e n X.env (eval e X.env) = eval e X.env := by rfl) :
    PE (X.suite a ((a, oe) :: pn)) (.Attribute e n pos) (tXfA X.K a cls d n te) :=
  ⟨fun pins s σ H Q I ⟨C, hx, hn, q⟩ => (pe_xf hx hn hz hf he hb).run pins s σ H Q I q⟩
def t_oc (K : PySem.W.Frag) (n : Str) (a : Addr) (cls : Value) (d : Option Addr) : TS :=
  tAsg (tLst (tCons (tCallE (spKind K) a cls d (tCons (tVar 2) tNil)) (tCons (tCB (rReprQ K) (tCons (tXfA K a cls d n (tVar 2)) tNil)) tNil))) (gName 1)
/-- what outcome makes of a lambda that raises an error of the j-th class with the value v -/
def TTout (K : PySem.W.Frag) : (XK → Hp → VK → Prop) → Hp → VK → Prop := fun tl H Q => ∃ (j : Nat) (v : V) (d : PyData),
  j < 6 ∧ Tq K H v d 4 200 ∧ (∀ (H1 : Hp) (E : XK) (N : VK), Same H H1 → (∀ dd H2, H1 dd = none → Same H1 H2 → H2 dd = some (.xd [(fldOf j, v)]) → E (.ref (wc K j)) (some dd) H2) → tl E H1 N) ∧
  ∀ R H3, H R = none → Same H H3 → H3 R = some (.lst [.str (wordOf j), .str d.shown]) → Q (.ref R) H3
theorem sc__law_outcome : FnScope ["_law_call", "_law_told", "_law_e"] ["_law_call"] (defScope (top 41)) := ⟨rfl, rfl, rfl, by decide +kernel, rfl, by decide +kernel, by decide +kernel⟩
theorem outcome_gives {X : Cx} (T : Tx X.K X.mg) (KX : KitX X.K) (D__law_kind : DfE X.prog X.w X.K X.mg X.base 1 "_law_kind" ["_law_e"] (spKind X.K)) (hr : RoomG 3 X.A) {g : Addr} {cdg : Value} {q : Str} :
    GivesAt X ["_law_call", "_law_told", "_law_e"] "_law_outcome" (defScope (top 41)) g cdg (defBody (top 41)) "_law_call" q (TTout X.K) := by
  intro f c' s H Q tl act hc ⟨j, v, d, j6, tv, h1, h2⟩
  refine ⟨_, pss_cons (ps_set (i := 1) sc__law_outcome.nd rfl (Or.inl rfl) (pe_lst (pa_cons pe_str pa_nil)))
    (pss_cons (ps_try_as4 (X := (cxOf CX0 X.prog X.w X.K X.mg X.base ["_law_call", "_law_told", "_law_e"] "_law_outcome" (defScope (top 41)) g cdg X.A X.stack s H E0).nox) (i := 2) (n := "_law_e")
        (tb := fun W => tDrop (fun σZ HZ Q => σZ[0]? = some (some (.ref f)) ∧ HZ c' = some (CodeO c' q) ∧ tl (WE W σZ) HZ Q)) (l := [(.four (.ref (cL X.K)) (.ref (cA X.K)) (.ref (cNu X.K)) (.ref (cU X.K)), t_oc X.K "value"), (.one (.ref (cNs X.K)), t_oc X.K "position"), (.one (.ref (cO X.K)), t_oc X.K "address")]) (Wout := fun _ _ _ _ => False)
        rfl rfl sc__law_outcome.nd rfl rfl LamX.takes0 (fun W pn xe tk _ => pss_one (ps_expr (by exact (act W pn xe _ _ tk))))
        (HdAs4.four ⟨rfl, by decide, Or.inl T.g_InvalidLevel⟩ ⟨rfl, by decide, Or.inl T.g_InvalidAddress⟩ ⟨rfl, by decide, Or.inl T.g_InvalidNumber⟩ ⟨rfl, by decide, Or.inl T.g_UnknownBlock⟩
          (fun a oe cls d pn hz hf => pss_one (ps_set (i := 1) sc__law_outcome.nd rfl (Or.inl rfl) (by exact (pe_lst (pa_cons (by exact (pcallE D__law_kind (L2H.roomH_mark (hr.down (envOfC "_law_outcome" (defScope (top 41)) s.heap.objs.size g cdg)).r _) List.mem_cons_self hz hf (pa_cons (pv 2) pa_nil))) (pa_cons (by exact (pe_callB (id := "repr") (call_reprH (hr.down (envOfC "_law_outcome" (defScope (top 41)) s.heap.objs.size g cdg)).g (hr.down (envOfC "_law_outcome" (defScope (top 41)) s.heap.objs.size g cdg)).r.units T.sys) (by rfl) T.n_repr (by decide +kernel) (pa_cons (by exact (pe_xfA hz hf (pv 2))) pa_nil))) pa_nil))))))
        (HdAs4.one ⟨rfl, by decide, Or.inl T.g_InvalidNumbers⟩
          (fun a oe cls d pn hz hf => pss_one (ps_set (i := 1) sc__law_outcome.nd rfl (Or.inl rfl) (by exact (pe_lst (pa_cons (by exact (pcallE D__law_kind (L2H.roomH_mark (hr.down (envOfC "_law_outcome" (defScope (top 41)) s.heap.objs.size g cdg)).r _) List.mem_cons_self hz hf (pa_cons (pv 2) pa_nil))) (pa_cons (by exact (pe_callB (id := "repr") (call_reprH (hr.down (envOfC "_law_outcome" (defScope (top 41)) s.heap.objs.size g cdg)).g (hr.down (envOfC "_law_outcome" (defScope (top 41)) s.heap.objs.size g cdg)).r.units T.sys) (by rfl) T.n_repr (by decide +kernel) (pa_cons (by exact (pe_xfA hz hf (pv 2))) pa_nil))) pa_nil))))))
        (HdAs4.one ⟨rfl, by decide, Or.inl T.g_Occupied⟩
          (fun a oe cls d pn hz hf => pss_one (ps_set (i := 1) sc__law_outcome.nd rfl (Or.inl rfl) (by exact (pe_lst (pa_cons (by exact (pcallE D__law_kind (L2H.roomH_mark (hr.down (envOfC "_law_outcome" (defScope (top 41)) s.heap.objs.size g cdg)).r _) List.mem_cons_self hz hf (pa_cons (pv 2) pa_nil))) (pa_cons (by exact (pe_callB (id := "repr") (call_reprH (hr.down (envOfC "_law_outcome" (defScope (top 41)) s.heap.objs.size g cdg)).g (hr.down (envOfC "_law_outcome" (defScope (top 41)) s.heap.objs.size g cdg)).r.units T.sys) (by rfl) T.n_repr (by decide +kernel) (pa_cons (by exact (pe_xfA hz hf (pv 2))) pa_nil))) pa_nil))))))
        .nil))))
    (pss_one (ps_ret (pv 1)))), ?_⟩
  refine ⟨(by show 1 ≤ sizeLine; decide), fun l hl => ?_⟩
  have sl : Same H (upd H l (.lst [.str "returned"])) := same_upd hl
  refine ⟨rfl, sl _ _ hc, h1 _ _ _ sl fun dd H2 hd s2 hx => ?_⟩
  by_cases c3 : j = 3
  · have hn : fldOf j = "position" := by rw [c3]; rfl
    refine ⟨false, (KX.e4 j j6).trans (by rw [decide_eq_false (fun z => z.1 c3)]), fun z => Bool.noConfusion z, fun _ => ⟨true, (KX.eN j j6).trans (by rw [decide_eq_true c3]), fun _ a0 ha0 => ?_, fun z => Bool.noConfusion z⟩⟩
    refine ⟨_, rfl, wc X.K j, rfl, ⟨j, dd, _, j6, rfl, KX.w j j6, rfl, hx, fun H3 s3 => ?_⟩⟩
    have sA := (sl.trans s2).trans s3
    have tq := tv.same sA
    refine ⟨wc X.K j, KX.xf j j6, (by rw [← hn]; exact KX.no j j6), _, rfl, rfl, rfl, dd, _, v, rfl, s3 _ _ hx, (by rw [hn]; simp [List.lookup]), _, _, rfl, tq.dq, tq.sh, Nat.le_trans tq.dp (by decide), Nat.le_trans tq.ln (by decide), (by show 2 ≤ sizeLine; decide), fun R hR => ?_⟩
    exact ⟨_, rfl, h2 R _ (sA.free hR) (sA.trans (same_upd hR)) upd_same⟩
  · by_cases c5 : j = 5
    · have hn : fldOf j = "address" := by rw [c5]; rfl
      refine ⟨false, (KX.e4 j j6).trans (by rw [decide_eq_false (fun z => z.2 c5)]), fun z => Bool.noConfusion z, fun _ => ⟨false, (KX.eN j j6).trans (by rw [decide_eq_false c3]), fun z => Bool.noConfusion z, fun _ => ⟨true, (KX.eO j j6).trans (by rw [decide_eq_true c5]), fun _ a0 ha0 => ?_, fun z => Bool.noConfusion z⟩⟩⟩
      refine ⟨_, rfl, wc X.K j, rfl, ⟨j, dd, _, j6, rfl, KX.w j j6, rfl, hx, fun H3 s3 => ?_⟩⟩
      have sA := (sl.trans s2).trans s3
      have tq := tv.same sA
      refine ⟨wc X.K j, KX.xf j j6, (by rw [← hn]; exact KX.no j j6), _, rfl, rfl, rfl, dd, _, v, rfl, s3 _ _ hx, (by rw [hn]; simp [List.lookup]), _, _, rfl, tq.dq, tq.sh, Nat.le_trans tq.dp (by decide), Nat.le_trans tq.ln (by decide), (by show 2 ≤ sizeLine; decide), fun R hR => ?_⟩
      exact ⟨_, rfl, h2 R _ (sA.free hR) (sA.trans (same_upd hR)) upd_same⟩
    · have hn : fldOf j = "value" := by
        have : j = 0 ∨ j = 1 ∨ j = 2 ∨ j = 4 := by omega
        rcases this with rfl | rfl | rfl | rfl <;> rfl
      refine ⟨true, (KX.e4 j j6).trans (by rw [decide_eq_true ⟨c3, c5⟩]), fun _ a0 ha0 => ?_, fun z => Bool.noConfusion z⟩
      refine ⟨_, rfl, wc X.K j, rfl, ⟨j, dd, _, j6, rfl, KX.w j j6, rfl, hx, fun H3 s3 => ?_⟩⟩
      have sA := (sl.trans s2).trans s3
      have tq := tv.same sA
      refine ⟨wc X.K j, KX.xf j j6, (by rw [← hn]; exact KX.no j j6), _, rfl, rfl, rfl, dd, _, v, rfl, s3 _ _ hx, (by rw [hn]; simp [List.lookup]), _, _, rfl, tq.dq, tq.sh, Nat.le_trans tq.dp (by decide), Nat.le_trans tq.ln (by decide), (by show 2 ≤ sizeLine; decide), fun R hR => ?_⟩
      exact ⟨_, rfl, h2 R _ (sA.free hR) (sA.trans (same_upd hR)) upd_same⟩
end K26

set_option Elab.async false
set_option linter.all false
set_option maxRecDepth 100000
set_option maxHeartbeats 400000
set_option pp.maxSteps 900
namespace K26
open PySem PySem.Spec PyProof.Rows L2 Gu Ex
section
variable {K : PySem.W.Frag} {H : Hp} {n m : Nat}
theorem tqa_nil : TqAll K H [] [] n m := ⟨.nil, rfl, Nat.zero_le _, Nat.zero_le _⟩
theorem tqa_cons {v : V} {vs : List V} {d : PyData} {ds : List PyData} (t : Tq K H v d n m) (a : TqAll K H vs ds n m) : TqAll K H (v :: vs) (d :: ds) n m := by
  refine ⟨.cons t.dq a.dq, ?_, ?_, ?_⟩
  · show (d.showable && PyData.showableAll ds) = true
    rw [t.sh, a.sh]
    rfl
  · show max d.depth (PyData.depthAll ds) ≤ n
    have := t.dp
    have := a.dp
    omega
  · show (d.shown.length + ((PyData.shownAll ds).map (·.length)).sum) + 2 * ((PyData.shownAll ds).length + 1) ≤ (vs.length + 1) * (m + 2)
    have := t.ln
    have := a.ln
    rw [Nat.add_mul, Nat.one_mul]
    omega
def InB (b : Blk) : Prop := 0 ≤ b.1 ∧ b.1 ≤ 1000000000000 ∧ b.2.1 < 8
end
theorem Stp.same {r : Addr} {H H1 H2 : Hp} (a : Stp r H H1) (s : Same H1 H2) : Stp r H H2 := by
  obtain ⟨⟨x, y, e, z⟩, k⟩ := a
  exact ⟨⟨x, y, s _ _ e, z⟩, fun b u n e2 => s _ _ (k b u n e2)⟩
/-- all but the drawing list and the tables of lambdas stay -/
def StpN (r : Addr) (H H' : Hp) : Prop := Rng H' r ∧ ∀ b o, b ≠ r → (∀ ps, o ≠ .tbl ps) → H b = some o → H' b = some o
theorem Stp.n {r : Addr} {H H' : Hp} (t : Stp r H H') : StpN r H H' := ⟨t.1, fun b o n _ e => t.2 b o n e⟩
theorem StpN.trans {r : Addr} {H H1 H2 : Hp} (a : StpN r H H1) (b : StpN r H1 H2) : StpN r H H2 := ⟨b.1, fun c o n z e => b.2 c o n z (a.2 c o n z e)⟩
theorem Stp.thenN {r : Addr} {H H1 H2 : Hp} (a : Stp r H H1) (b : StpN r H1 H2) : StpN r H H2 := a.n.trans b
/-- v is a value with the data d, through all draws and lambdas -/
def Vd (K : PySem.W.Frag) (r : Addr) (H : Hp) (v : V) (d : PyData) : Prop := ∀ H', StpN r H H' → (Any H' v ∧ PyData.strOk d.shown = true) ∧ Tq K H' v d 4 200
theorem str_okS (s : String) : PyData.strOk (Str.ofString s) = true := by
  rw [Str.ofString_eq_toList]
  unfold PyData.strOk
  simp only [List.all_toArray, List.all_map, List.all_eq_true, Function.comp_apply, decide_eq_true_eq]
  intro a _
  have h : a.toNat < 55296 ∨ (57343 < a.toNat ∧ a.toNat < 1114112) := a.valid
  omega
theorem int_ok (i : Int) : PyData.strOk (PyData.int i).shown = true := str_okS _
def Odd (v : V) : Prop := ∀ i, v = .int i → i < 0 ∨ 1000000000000000000000000000000 ≤ i
section
variable {K : PySem.W.Frag} {r : Addr} {H H' : Hp} {v : V} {d : PyData}
theorem Vd.stp (h : Vd K r H v d) (t : Stp r H H') : Vd K r H' v d := fun G s => h G (t.thenN s)
theorem Vd.stpN (h : Vd K r H v d) (t : StpN r H H') : Vd K r H' v d := fun G s => h G (t.trans s)
theorem vd_int {i : Int} (h1 : -(10 ^ 39) ≤ i) (h2 : i ≤ 10 ^ 39) : Vd K r H (.int i) (.int i) := fun G _ => ⟨⟨.int i, int_ok i⟩, (tq_int h1 h2).mono (by decide) (by decide)⟩
theorem vd_non : Vd K r H .non .none := fun G _ => ⟨⟨.non, by decide +kernel⟩, tq_non.mono (by decide) (by decide)⟩
theorem vd_bl (b : Bool) : Vd K r H (.bl b) (.bool b) := fun G _ => ⟨⟨.bl b, by cases b <;> decide +kernel⟩, (tq_bl b).mono (by decide) (by decide)⟩
end
section
variable {P : Program} {w : World} {K : PySem.W.Frag} {mg : Str → Option Value} {base : Heap} {f : Addr} {fd : FuncData}
def spOddV (K : PySem.W.Frag) : Sp := fun vs H Q _ => ∃ r : Addr, vs = [.ref r] ∧ Rng H r ∧ ∀ v d H', Stp r H H' → Vd K r H' v d → Odd v → Q v H'
theorem sc__law_odd : FnScope ["_law_rng_here"] ["_law_rng_here"] (defScope (top 42)) := ⟨rfl, rfl, rfl, by decide +kernel, rfl, by decide +kernel, by decide +kernel⟩
theorem ok_oddv (T : Tx K mg) (D__law_choice : Df P w K mg base 2 "_law_choice" ["_law_rng_here", "_law_options"] spChoice) (F : FnP K "_law_odd" "_law_odd" (top 42) f fd) : FnOk P w K mg base CX0 3 f fd ["_law_rng_here"] (spOddV K) := by
  refine F.ok sc__law_odd (fun vs H Q E h => ?_) (fun cdv A outer s H vs Q E hr h => ⟨_, PSs.nox (pss_one (ps_ret (pcall D__law_choice hr (pa_cons (pv 0) (pa_cons (pe_lst (pa_cons pe_non (pa_cons pe_bl (pa_cons pe_bl (pa_cons (pe_un un_neg pe_int) (pa_cons (pe_un un_neg pe_int) (pa_cons pe_str (pa_cons pe_str (pa_cons (pe_lst pa_nil) (pa_cons (pe_tup pa_nil) (pa_cons pe_dnewK (pa_cons (pe_lst (pa_cons pe_int pa_nil)) (pa_cons (pe_tup (pa_cons pe_int pa_nil)) (pa_cons (pe_op op_pow pe_int pe_int) (pa_cons (pe_un un_neg (pe_op op_pow pe_int pe_int)) pa_nil))))))))))))))) pa_nil))))), ?_⟩)
  · obtain ⟨r, rfl, _⟩ := h
    rfl
  · obtain ⟨r, rfl, hR, q⟩ := h
    have b39 : (10 : Int) ^ 39 = 1000000000000000000000000000000000000000 := by decide
    have p30 : (10 : Int) ^ (30 : Int).toNat = 1000000000000000000000000000000 := by decide
    have p20 : (10 : Int) ^ (20 : Int).toNat = 100000000000000000000 := by decide
    refine ⟨_, rfl, _, rfl, _, rfl, Nat.zero_le _, fun p1 h1 => ⟨Nat.zero_le _, fun p2 h2 => ?_⟩⟩
    have m1 := same_upd (o := .lst []) h1
    have m2 := same_upd (o := .tup []) h2
    intro p3 h3
    have m3 := same_upd (o := .dK []) h3
    refine ⟨(by show 1 ≤ sizeLine; decide), fun p4 h4 => ⟨(by show 1 ≤ sizeLine; decide), fun p5 h5 => ⟨_, _, rfl, rfl, ⟨by decide, by decide, by decide⟩, _, _, rfl, rfl, ⟨by decide, by decide, by decide⟩, _, rfl, (by show 14 ≤ sizeLine; decide), fun po ho => ?_⟩⟩⟩
    have m4 := same_upd (o := .lst [.int 0]) h4
    have m5 := same_upd (o := .tup [.int 1]) h5
    have m6 := same_upd (o := .lst [.non, .bl true, .bl false, .int (-1), .int (-7), .str "0", .str "", .ref p1, .ref p2, .ref p3, .ref p4, .ref p5, .int ((10 : Int) ^ (30 : Int).toNat), .int (-((10 : Int) ^ (20 : Int).toNat))]) ho
    have mm := ((((m1.trans m2).trans m3).trans m4).trans m5).trans m6
    have T0 := Stp.same (Stp.refl hR) mm
    have k1 := (((((m2.trans m3).trans m4).trans m5).trans m6)) p1 _ upd_same
    have k2 := (((m3.trans m4).trans m5).trans m6) p2 _ upd_same
    have k3 := ((m4.trans m5).trans m6) p3 _ upd_same
    have k4 := (m5.trans m6) p4 _ upd_same
    have k5 := m6 p5 _ upd_same
    have npo : po ≠ r := (Rng.ne (Stp.same (Stp.refl hR) ((((m1.trans m2).trans m3).trans m4).trans m5)).1 ho).symm
    have n1 : p1 ≠ r := (Rng.ne hR h1).symm
    have n2 : p2 ≠ r := (Rng.ne (Stp.same (Stp.refl hR) m1).1 h2).symm
    have n3 : p3 ≠ r := (Rng.ne (Stp.same (Stp.refl hR) (m1.trans m2)).1 h3).symm
    have n4 : p4 ≠ r := (Rng.ne (Stp.same (Stp.refl hR) ((m1.trans m2).trans m3)).1 h4).symm
    have n5 : p5 ≠ r := (Rng.ne (Stp.same (Stp.refl hR) (((m1.trans m2).trans m3).trans m4)).1 h5).symm
    refine ⟨r, po, _, rfl, T0.1, upd_same, npo, (by show 1 ≤ 14; decide), (by show 14 ≤ 1000; decide), fun v H' hv st => ?_⟩
    have T1 := T0.trans st
    have no : ∀ {u : V}, (∀ i, u ≠ .int i) → Odd u := fun {u} h i e => absurd e (h i)
    simp only [List.mem_cons, List.not_mem_nil, or_false] at hv
    rcases hv with rfl | rfl | rfl | rfl | rfl | rfl | rfl | rfl | rfl | rfl | rfl | rfl | rfl | rfl
    · exact q _ _ _ T1 vd_non (no nofun)
    · exact q _ _ _ T1 (vd_bl _) (no nofun)
    · exact q _ _ _ T1 (vd_bl _) (no nofun)
    · exact q _ _ _ T1 (vd_int (by omega) (by omega)) (fun i e => by rw [← V.int.inj e]; exact .inl (by decide))
    · exact q _ _ _ T1 (vd_int (by omega) (by omega)) (fun i e => by rw [← V.int.inj e]; exact .inl (by decide))
    · exact q _ (.str "0") _ T1 (fun G _ => ⟨⟨.str _, by decide +kernel⟩, (tq_text "0" (by decide +kernel)).mono (by decide) (by decide)⟩) (no nofun)
    · exact q _ (.str "") _ T1 (fun G _ => ⟨⟨.str _, by decide +kernel⟩, (tq_text "" (by decide +kernel)).mono (by decide) (by decide)⟩) (no nofun)
    · exact q _ (.list []) _ T1 (fun G t => have k := (st.thenN t).2 p1 _ n1 (fun ps e => by cases e) k1; ⟨⟨.lst k, by decide +kernel⟩, ((tqa_nil (n := 0) (m := 41)).lst k).mono (by decide) (by decide)⟩) (no nofun)
    · exact q _ (.tuple []) _ T1 (fun G t => have k := (st.thenN t).2 p2 _ n2 (fun ps e => by cases e) k2; ⟨⟨.tup k, by decide +kernel⟩, ((tqa_nil (n := 0) (m := 41)).tup k).mono (by decide) (by decide)⟩) (no nofun)
    · exact q _ (.dict []) _ T1 (fun G t => have k := (st.thenN t).2 p3 _ n3 (fun ps e => by cases e) k3; ⟨⟨.dct k, by decide +kernel⟩, (tq_dct k).mono (by decide) (by decide)⟩) (no nofun)
    · exact q _ (.list [.int 0]) _ T1 (fun G t => have k := (st.thenN t).2 p4 _ n4 (fun ps e => by cases e) k4; ⟨⟨.lst k, by decide +kernel⟩, ((tqa_cons (tq_int (by omega) (by omega)) tqa_nil).lst k).mono (by decide) (by decide)⟩) (no nofun)
    · exact q _ (.tuple [.int 1]) _ T1 (fun G t => have k := (st.thenN t).2 p5 _ n5 (fun ps e => by cases e) k5; ⟨⟨.tup k, by decide +kernel⟩, ((tqa_cons (tq_int (by omega) (by omega)) tqa_nil).tup k).mono (by decide) (by decide)⟩) (no nofun)
    · exact q _ _ _ T1 (vd_int (by omega) (by omega)) (fun i e => by have := V.int.inj e; omega)
    · exact q _ _ _ T1 (vd_int (by omega) (by omega)) (fun i e => by have := V.int.inj e; omega)
end
end K26

set_option Elab.async false
set_option linter.all false
set_option maxRecDepth 100000
set_option maxHeartbeats 400000
set_option pp.maxSteps 900
namespace K26
open PySem PySem.Spec PyProof.Rows L2 Gu Ex
theorem odd_cells {v : V} (h : Odd v) : cellsB v = false := by
  cases v with
  | int i =>
    have := h i rfl
    exact decide_eq_false (by omega)
  | _ => rfl
theorem big_cells {i : Int} (h : 1000000000000 < i) : cellsB (.int i) = false := decide_eq_false fun z => by omega
theorem odd_lv {ns : List Int} {v : V} (g : Good ns) (h : Odd v) : lvB ns v = false := by
  have l8 := g.len
  cases v with
  | int i =>
    have := h i rfl
    exact decide_eq_false (by omega)
  | _ => rfl
theorem odd_at_ {n : Int} {v : V} (n2 : n ≤ 1000000000000) (h : Odd v) : atB n v = false := by
  cases v with
  | int i =>
    have := h i rfl
    exact decide_eq_false (by omega)
  | _ => rfl
theorem odd_reg {ns : List Int} {n : Int} {k : Nat} {v : V} (g : Good ns) (hk : k < ns.length) (n2 : n ≤ 1000000000000) (h : Odd v) : regB ns k n v = false := by
  have z := (chain g).pos _ hk
  cases v with
  | int i =>
    have := h i rfl
    show (decide (0 ≤ i) && decide (i % sz ns k = 0 ∧ i + sz ns k ≤ n)) = false
    by_cases i0 : 0 ≤ i
    · rw [decide_eq_false (p := i % sz ns k = 0 ∧ i + sz ns k ≤ n) (fun z => by omega), Bool.and_false]
    · rw [decide_eq_false i0, Bool.false_and]
  | _ => rfl
section
variable {P : Program} {w : World} {K : PySem.W.Frag} {mg : Str → Option Value} {base : Heap} {f : Addr} {fd : FuncData}
def spNoCells (K : PySem.W.Frag) : Sp := fun vs H Q _ => ∃ r : Addr, vs = [.ref r] ∧ Rng H r ∧ ∀ v d H', Stp r H H' → Vd K r H' v d → cellsB v = false → Q v H'
theorem sc__law_no_cells : FnScope ["_law_rng_here"] ["_law_rng_here"] (defScope (top 43)) := ⟨rfl, rfl, rfl, by decide +kernel, rfl, by decide +kernel, by decide +kernel⟩
theorem ok_nocells (T : Tx K mg) (D__law_draw : Df P w K mg base 1 "_law_draw" ["_law_rng_here", "_law_many"] spDraw) (D__law_choice : Df P w K mg base 2 "_law_choice" ["_law_rng_here", "_law_options"] spChoice) (D__law_odd : Df P w K mg base 3 "_law_odd" ["_law_rng_here"] (spOddV K)) (F : FnP K "_law_no_cells" "_law_no_cells" (top 43) f fd) : FnOk P w K mg base CX0 4 f fd ["_law_rng_here"] (spNoCells K) := by
  refine F.ok sc__law_no_cells (fun vs H Q E h => ?_) (fun cdv A outer s H vs Q E hr h => ⟨_, PSs.nox (pss_one (ps_ret (pcall D__law_choice hr (pa_cons (pv 0) (pa_cons (pe_lst (pa_cons (pcall D__law_odd hr (pa_cons (pv 0) pa_nil)) (pa_cons pe_int (pa_cons (pe_op op_add (pe_op op_pow pe_int pe_int) pe_int) (pa_cons (pe_op op_add (pe_op op_add (pe_op op_pow pe_int pe_int) pe_int) (pcall D__law_draw hr (pa_cons (pv 0) (pa_cons (pe_op op_pow pe_int pe_int) pa_nil)))) pa_nil))))) pa_nil))))), ?_⟩)
  · obtain ⟨r, rfl, _⟩ := h
    rfl
  · obtain ⟨r, rfl, hR, q⟩ := h
    have b39 : (10 : Int) ^ 39 = 1000000000000000000000000000000000000000 := by decide
    have b40 : (10 : Int) ^ 40 = 10000000000000000000000000000000000000000 := by decide
    have p12 : (10 : Int) ^ (12 : Int).toNat = 1000000000000 := by decide
    have p20 : (10 : Int) ^ (20 : Int).toNat = 100000000000000000000 := by decide
    refine ⟨_, rfl, _, rfl, r, rfl, hR, fun v d H1 t1 vd od => ?_⟩
    refine ⟨_, _, rfl, rfl, ⟨by decide, by decide, by decide⟩, _, _, rfl, rfl, _, _, rfl, rfl, ⟨by decide, by decide, by decide⟩, _, _, rfl, rfl, _, rfl, _, _, rfl, rfl, ⟨by decide, by decide, by decide⟩, r, _, rfl, t1.1, by omega, by omega, fun e H2 e0 e1 t2 => ?_⟩
    refine ⟨_, _, rfl, rfl, (by show 4 ≤ sizeLine; decide), fun po ho => ?_⟩
    have t12 := t1.trans t2
    have t3 := t12.new (o := .lst [v, .int 0, .int ((10 : Int) ^ (12 : Int).toNat + 1), .int ((10 : Int) ^ (12 : Int).toNat + 1 + e)]) ho
    refine ⟨r, po, _, rfl, t3.1, upd_same, (Rng.ne t12.1 ho).symm, (by show 1 ≤ 4; decide), (by show 4 ≤ 1000; decide), fun u H' hu st => ?_⟩
    simp only [List.mem_cons, List.not_mem_nil, or_false] at hu
    rcases hu with rfl | rfl | rfl | rfl
    · have t2o := t2.new (o := .lst [u, .int 0, .int ((10 : Int) ^ (12 : Int).toNat + 1), .int ((10 : Int) ^ (12 : Int).toNat + 1 + e)]) ho
      exact q _ _ _ (t3.trans st) ((vd.stp t2o).stp st) (odd_cells od)
    · exact q _ _ _ (t3.trans st) (vd_int (by omega) (by omega)) rfl
    · exact q _ _ _ (t3.trans st) (vd_int (by omega) (by omega)) (big_cells (by omega))
    · exact q _ _ _ (t3.trans st) (vd_int (by omega) (by omega)) (big_cells (by omega))
end
end K26

set_option Elab.async false
set_option linter.all false
set_option maxRecDepth 100000
set_option maxHeartbeats 400000
set_option pp.maxSteps 900
namespace K26
open PySem PySem.Spec PyProof.Rows L2 Gu Ex
theorem reg_no {ns : List Int} {n a : Int} {k : Nat} (h : ¬ (a % sz ns k = 0 ∧ a + sz ns k ≤ n)) : regB ns k n (.int a) = false := by
  show (decide (0 ≤ a) && decide (a % sz ns k = 0 ∧ a + sz ns k ≤ n)) = false
  rw [decide_eq_false h, Bool.and_false]
theorem seq_ifH {c : TT} {t e u : TS} {D : Ends} {σ : L2.St} {H : Hp} (R : L2.St → Hp → Prop) (hc : ∀ E0 : Ends, (∀ σ' H', R σ' H' → E0.nx σ' H') → (tIfS c t e) E0 σ H) (tail : ∀ σ' H', R σ' H' → u D σ' H') : tSeq (tIfS c t e) u D σ H := hc _ tail
theorem joinW {te : TE} {σ : List (Option V)} {H : Hp} {Q : VK} (Pc : V → Hp → Prop) (h1 : ∀ Q' : VK, (∀ c G, Pc c G → Q' c G) → te σ H Q') (h2 : ∀ c G, Pc c G → Q c G) : te σ H Q := h1 Q h2
theorem nx_of {E0 : Ends} {F : List (Option V) → Hp → Prop} {rt : VK} {σ σ' : List (Option V)} {H : Hp} (e : σ = σ') (h : F σ' H) : ({ E0 with nx := F, rt := rt } : Ends).nx σ H := e ▸ h
theorem go_nm {i : Nat} {x : V} {σ : List (Option V)} {H : Hp} {Q : List (Option V) → Hp → Prop} (h : Q (σ.set i (some x)) H) : gName i x σ H Q := h
theorem at_st {u : TS} {D : Ends} {σ σ' : List (Option V)} {H : Hp} (e : σ = σ') (h : u D σ' H) : u D σ H := e ▸ h
theorem go_asg {te : TE} {i : Nat} {u : TS} {D : Ends} {σ : List (Option V)} {H : Hp} (h : te σ H (fun x H1 => u D (σ.set i (some x)) H1)) : tSeq (tAsg te (gName i)) u D σ H := h
section
variable {P : Program} {w : World} {K : PySem.W.Frag} {mg : Str → Option Value} {base : Heap} {f : Addr} {fd : FuncData}
def spNoReg (K : PySem.W.Frag) : Sp := fun vs H Q _ => ∃ (r l : Addr) (ns : List Int) (n : Int) (k : Nat), vs = [.ref r, .ref l, .int n, .int k] ∧ Rng H r ∧ H l = some (.lst (ns.map V.int)) ∧ l ≠ r ∧ Good ns ∧ k < ns.length ∧ 1 ≤ n ∧ n ≤ 1000000000000 ∧ ∀ v d H', Stp r H H' → Vd K r H' v d → regB ns k n v = false → Q v H'
theorem sc__law_no_region : FnScope ["_law_rng_here", "_law_sizes_here", "_law_length", "_law_level", "_law_size", "_law_beyond", "_law_some"] ["_law_rng_here", "_law_sizes_here", "_law_length", "_law_level"] (defScope (top 45)) := ⟨rfl, rfl, rfl, by decide +kernel, rfl, by decide +kernel, by decide +kernel⟩
theorem ok_noreg (T : Tx K mg) (D__law_draw : Df P w K mg base 1 "_law_draw" ["_law_rng_here", "_law_many"] spDraw) (D__law_choice : Df P w K mg base 2 "_law_choice" ["_law_rng_here", "_law_options"] spChoice) (D__law_odd : Df P w K mg base 3 "_law_odd" ["_law_rng_here"] (spOddV K))
    (F : FnP K "_law_no_region" "_law_no_region" (top 45) f fd) : FnOk P w K mg base CX0 4 f fd ["_law_rng_here", "_law_sizes_here", "_law_length", "_law_level"] (spNoReg K) := by
  refine F.ok sc__law_no_region (fun vs H Q E h => ?_) (fun cdv A outer s H vs Q E hr h => ⟨_, PSs.nox (pss_cons (ps_set (i := 4) sc__law_no_region.nd rfl (by first | exact Or.inl rfl | exact Or.inr rfl) (pe_ix ix_list (pv 1) (pv 3) (fun _ _ => rfl))) (pss_cons (ps_set (i := 5) sc__law_no_region.nd rfl (by first | exact Or.inl rfl | exact Or.inr rfl) (pe_ifExp (pt_cmpR op_ge (pv 2) (pv 4) (nomark _)) (pe_op op_add (pe_op op_mul (pe_op op_fdivW (pe_op op_sub (pv 2) (pv 4)) (pv 4)) (pv 4)) (pv 4)) pe_int)) (pss_cons (ps_set (i := 6) sc__law_no_region.nd rfl (by first | exact Or.inl rfl | exact Or.inr rfl) (pe_lst (pa_cons (pcall D__law_odd hr (pa_cons (pv 0) pa_nil)) (pa_cons (pv 5) (pa_cons (pe_op op_add (pv 5) (pe_op op_mul (pv 4) (pcall D__law_draw hr (pa_cons (pv 0) (pa_cons pe_int pa_nil))))) pa_nil))))) (pss_cons (ps_if (pt_cmpR op_gt (pv 4) pe_int (nomark _)) (pss_one (ps_expr (pe_bm PySem.F.plainAttrs_list PySem.F.slot_list_append PySem.F.type_list_append mt_append (pv 6) (pa_cons (pe_op op_add (pe_op op_add (pe_op op_mul (pe_op op_fdivW (pcall D__law_draw hr (pa_cons (pv 0) (pa_cons (pe_op op_add (pv 2) pe_int) pa_nil))) (pv 4)) (pv 4)) pe_int) (pcall D__law_draw hr (pa_cons (pv 0) (pa_cons (pe_op op_sub (pv 4) pe_int) pa_nil)))) pa_nil)))) pss_nil) (pss_one (ps_ret (pcall D__law_choice hr (pa_cons (pv 0) (pa_cons (pv 6) pa_nil))))))))), ?_⟩)
  · obtain ⟨r, l, ns, n, k, rfl, _⟩ := h
    rfl
  · obtain ⟨r, l, ns, n, k, rfl, hR, hl, lr, g, hk, n1, n2, q⟩ := h
    have b39 : (10 : Int) ^ 39 = 1000000000000000000000000000000000000000 := by decide
    have b40 : (10 : Int) ^ 40 = 10000000000000000000000000000000000000000 := by decide
    have z1 := (chain g).pos _ hk
    have z2 := sz_le g hk
    refine ⟨_, rfl, _, rfl, l, _, _, _, rfl, rfl, SqL.of hl, atI_nat (by rw [List.getElem?_map, sz_at hk]; rfl), ?_⟩
    refine go_nm (nx_of (σ' := [some (.ref r), some (.ref l), some (.int n), some (.int k), some (.int (sz ns k)), none, none]) rfl ?_)
    refine go_asg (joinW (fun v G => G = H ∧ ∃ b, v = V.int b ∧ 0 ≤ b ∧ b ≤ n ∧ n < b + sz ns k) (fun Q' tail => ?_) (fun v G hP => ?_))
    · refine ⟨_, rfl, _, rfl, _, _, rfl, rfl, _, rfl, ?_⟩
      by_cases c : n ≥ sz ns k
      · refine ifT (decide_eq_true c) ?_
        refine ⟨_, rfl, _, rfl, _, _, rfl, rfl, _, rfl, _, _, rfl, rfl, div_ok z1 z2, _, rfl, _, _, rfl, rfl, .inr ⟨by omega, by omega⟩, _, rfl, _, _, rfl, rfl, ?_⟩
        have d1 := Int.ediv_mul_le (n - sz ns k) (show sz ns k ≠ 0 by omega)
        have d2 := Int.lt_ediv_add_one_mul_self (n - sz ns k) (show 0 < sz ns k by omega)
        have d3 : 0 ≤ (n - sz ns k) / sz ns k * sz ns k := Int.mul_nonneg (Int.ediv_nonneg (by omega) (by omega)) (by omega)
        rw [Int.add_mul, Int.one_mul] at d2
        exact tail _ _ ⟨rfl, _, rfl, by omega, by omega, by omega⟩
      · exact ifF (decide_eq_false c) (tail _ _ ⟨rfl, 0, rfl, by omega, by omega, by omega⟩)
    · obtain ⟨rfl, b, rfl, b0, bn, nb⟩ := hP
      refine at_st (σ' := [some (.ref r), some (.ref l), some (.int n), some (.int k), some (.int (sz ns k)), some (.int b), none]) rfl (go_asg ?_)
      refine ⟨_, rfl, r, rfl, hR, fun v d H1 t1 vd od => ⟨_, rfl, _, rfl, _, rfl, _, rfl, r, 50, rfl, t1.1, by decide, by omega, fun e H2 e0 e1 t2 => ⟨_, _, rfl, rfl, .inr ⟨by omega, by omega⟩, _, _, rfl, rfl, (by show 3 ≤ sizeLine; decide), fun L hL => ?_⟩⟩⟩
      have t12 := t1.trans t2
      have Lr : L ≠ r := (Rng.ne t12.1 hL).symm
      have t3 := (Stp.refl t12.1).new (o := .lst [v, .int b, .int (b + sz ns k * e)]) hL
      have hL3 : (upd H2 L (.lst [v, .int b, .int (b + sz ns k * e)])) L = some (.lst [v, .int b, .int (b + sz ns k * e)]) := upd_same
      have kp : ∀ {c : Addr} {o : HO}, c ≠ r → H2 c = some o → (upd H2 L (.lst [v, .int b, .int (b + sz ns k * e)])) c = some o := fun {c o} n e => t3.2 c o n e
      generalize upd H2 L (.lst [v, .int b, .int (b + sz ns k * e)]) = H3 at t3 hL3 kp
      have se : 0 ≤ sz ns k * e := Int.mul_nonneg (by omega) e0
      have se2 : sz ns k * e ≤ 1000000000 * 50 := Int.mul_le_mul z2 (by omega) e0 (by omega)
      have vd2 := vd.stp t2
      have ok3 : ∀ {G : Hp}, Stp r H2 G → ∀ u ∈ [v, V.int b, V.int (b + sz ns k * e)], ∃ d, Vd K r G u d ∧ regB ns k n u = false := fun {G} st u hu => by
        simp only [List.mem_cons, List.not_mem_nil, or_false] at hu
        rcases hu with rfl | rfl | rfl
        · exact ⟨_, vd2.stp st, odd_reg g hk n2 od⟩
        · exact ⟨_, vd_int (by omega) (by omega), reg_no (by omega)⟩
        · exact ⟨_, vd_int (by omega) (by omega), reg_no (by omega)⟩
      show tSeq _ _ _ _ _
      refine at_st (σ' := [some (.ref r), some (.ref l), some (.int n), some (.int k), some (.int (sz ns k)), some (.int b), some (.ref L)]) rfl ?_
      refine seq_ifH (fun σ' G' => σ' = [some (.ref r), some (.ref l), some (.int n), some (.int k), some (.int (sz ns k)), some (.int b), some (.ref L)] ∧ Stp r H2 G' ∧ ∃ xs, G' L = some (.lst xs) ∧ 1 ≤ xs.length ∧ xs.length ≤ 1000 ∧ ∀ u ∈ xs, ∃ d, Vd K r G' u d ∧ regB ns k n u = false) (fun E0 hE => ?_) (fun σ' G' hG => ?_)
      · refine ⟨_, rfl, _, _, rfl, rfl, _, rfl, ?_⟩
        by_cases c1 : sz ns k > 1
        · refine ifT (decide_eq_true c1) ?_
          refine ⟨_, rfl, .inl ⟨rfl, _, SqL.of hL3⟩, _, rfl, _, rfl, _, _, rfl, rfl, r, _, rfl, t3.1, by omega, by omega, fun e2 H4 f0 f1 t4 => ⟨_, rfl, _, _, rfl, rfl, div_ok z1 z2, _, rfl, _, _, rfl, rfl, .inr ⟨by omega, by omega⟩, _, _, rfl, rfl, _, rfl, _, rfl, _, _, rfl, rfl, r, _, rfl, t4.1, by omega, by omega, fun e3 H5 g0 g1 t5 => ⟨_, _, rfl, rfl, ?_⟩⟩⟩
          have hL5 := t5.2 _ _ Lr (t4.2 _ _ Lr hL3)
          have t25 := t3.trans (t4.trans t5)
          refine ⟨L, _, _, rfl, rfl, hL5, (by show 3 + 1 ≤ sizeLine; decide), hE _ _ ⟨rfl, ?_⟩⟩
          have T : ∀ o : HO, Stp r H2 (upd H5 L o) := fun o => by
            obtain ⟨ra, rb, re, rf⟩ := id t25.1
            refine ⟨⟨ra, rb, ?_, rf⟩, fun c u n e => ?_⟩
            · rw [upd_ne Lr.symm]
              exact re
            · rw [upd_ne (ne_of_none e hL)]
              exact t25.2 c u n e
          have d1 := Int.ediv_mul_le e2 (show sz ns k ≠ 0 by omega)
          have d3 : 0 ≤ e2 / sz ns k * sz ns k := Int.mul_nonneg (Int.ediv_nonneg f0 (by omega)) (by omega)
          refine ⟨T _, _, upd_same, (by show 1 ≤ 4; decide), (by show 4 ≤ 1000; decide), fun u hu => ?_⟩
          rcases List.mem_append.mp hu with z | z
          · exact ok3 (T _) u z
          · rw [List.mem_singleton.mp z]
            refine ⟨_, vd_int (i := e2 / sz ns k * sz ns k + 1 + e3) (by omega) (by omega), reg_no fun z => ?_⟩
            have m1 : (e2 / sz ns k * sz ns k + 1 + e3) % sz ns k = (1 + e3) % sz ns k := by
              rw [show e2 / sz ns k * sz ns k + 1 + e3 = (1 + e3) + e2 / sz ns k * sz ns k by omega]
              first
                | exact Int.add_mul_emod_self_right _ _ _
                | exact Int.add_mul_emod_self
            rw [m1, Int.emod_eq_of_lt (by omega) (by omega)] at z
            omega
        · exact ifF (decide_eq_false c1) (hE _ _ ⟨rfl, t3, _, hL3, (by show 1 ≤ 3; decide), (by show 3 ≤ 1000; decide), ok3 t3⟩)
      · obtain ⟨rfl, t4, xs, hxs, x1, x2, ok⟩ := hG
        refine ⟨_, rfl, _, rfl, r, L, xs, rfl, t4.1, hxs, Lr, x1, x2, fun u H' hu st => ?_⟩
        obtain ⟨du, vu, no⟩ := ok u hu
        exact q _ _ _ ((t12.trans t4).trans st) (vu.stp st) no
end
end K26

set_option Elab.async false
set_option linter.all false
set_option maxRecDepth 100000
set_option maxHeartbeats 400000
set_option pp.maxSteps 900
namespace K26
open PySem PySem.Spec PyProof.Rows L2 Gu Ex
section
variable {P : Program} {w : World} {K : PySem.W.Frag} {mg : Str → Option Value} {base : Heap} {f : Addr} {fd : FuncData}
def spNoNums (K : PySem.W.Frag) : Sp := fun vs H Q _ => ∃ r : Addr, vs = [.ref r] ∧ Rng H r ∧ ∀ t v pos H', Stp r H H' → H' t = some (.tup [v, .int (pos : Nat)]) → (∀ G, StpN r H' G → NumBad G v pos) → pos ≤ 3 → Q (.ref t) H'
theorem sc__law_no_numbers : FnScope ["_law_rng_here", "_law_good", "_law_wrong", "_law_turn"] ["_law_rng_here"] (defScope (top 44)) := ⟨rfl, rfl, rfl, by decide +kernel, rfl, by decide +kernel, by decide +kernel⟩
theorem ok_nonums (T : Tx K mg) (D__law_draw : Df P w K mg base 1 "_law_draw" ["_law_rng_here", "_law_many"] spDraw) (D__law_choice : Df P w K mg base 2 "_law_choice" ["_law_rng_here", "_law_options"] spChoice) (D__law_odd : Df P w K mg base 3 "_law_odd" ["_law_rng_here"] (spOddV K)) (D__law_no_cells : Df P w K mg base 4 "_law_no_cells" ["_law_rng_here"] (spNoCells K))
    (F : FnP K "_law_no_numbers" "_law_no_numbers" (top 44) f fd) : FnOk P w K mg base CX0 5 f fd ["_law_rng_here"] (spNoNums K) := by
  refine F.ok sc__law_no_numbers (fun vs H Q E h => ?_) (fun cdv A outer s H vs Q E hr h => ⟨_, PSs.nox (pss_cons (ps_if (pt_cmpR op_eq (pcall D__law_draw hr (pa_cons (pv 0) (pa_cons pe_int pa_nil))) pe_int (nomark _)) (pss_one (ps_ret (pe_tup (pa_cons (pcall D__law_choice hr (pa_cons (pv 0) (pa_cons (pe_lst (pa_cons pe_non (pa_cons pe_int (pa_cons pe_int (pa_cons pe_bl (pa_cons pe_str (pa_cons pe_str (pa_cons pe_dnewK (pa_cons (pe_disp (pps_cons pe_str pe_int pps_nil) (by rfl) (by rfl) (fun z => by cases z) (by decide)) pa_nil))))))))) pa_nil))) (pa_cons pe_int pa_nil))))) pss_nil) (pss_cons (ps_setLc (i := 1) (own := [("_law_turn", 3)]) (g := gName 3) rfl sc__law_no_numbers.nd rfl rfl (sw_true rfl rfl rfl (by decide +kernel)) (pi_range1 rfl T.n_range (pa_cons (pcall D__law_draw hr (pa_cons (pv 0) (pa_cons pe_int pa_nil))) pa_nil)) (blkOk_by (own := [("_law_turn", 3)]) (N := ["_law_rng_here", "_law_good", "_law_wrong", "_law_turn"]) (sc := defScope (top 44)) (by decide +kernel)) (fun _ _ _ _ _ => pg_name (i := 3) sc__law_no_numbers.nd rfl (Or.inl rfl)) (fun _ _ _ _ _ => pts_nil) (fun _ _ _ _ _ => (pe_op op_add pe_int (pcall D__law_draw hr (pa_cons (pv 0) (pa_cons pe_int pa_nil)))))) (pss_cons (ps_set (i := 2) sc__law_no_numbers.nd rfl (by first | exact Or.inl rfl | exact Or.inr rfl) (pe_op op_cat (pe_op op_cat (pe_op op_cat (pv 1) (pe_lst (pa_cons (pcall D__law_no_cells hr (pa_cons (pv 0) pa_nil)) pa_nil))) (pe_op op_rep (pe_lst (pa_cons (pcall D__law_odd hr (pa_cons (pv 0) pa_nil)) pa_nil)) (pcall D__law_draw hr (pa_cons (pv 0) (pa_cons pe_int pa_nil))))) (pv 1))) (pss_one (ps_ret (pe_tup (pa_cons (pe_ifExp (pt_cmpR op_eq (pcall D__law_draw hr (pa_cons (pv 0) (pa_cons pe_int pa_nil))) pe_int (nomark _)) (pe_callTy call_tuple_of (by rfl) T.n_tuple (by decide +kernel) (pa_cons (pv 2) pa_nil)) (pv 2)) (pa_cons (pe_callB call_len_seq (by rfl) T.n_len (by decide +kernel) (pa_cons (pv 1) pa_nil)) pa_nil)))))))), ?_⟩)
  · obtain ⟨r, rfl, _⟩ := h
    rfl
  · obtain ⟨r, rfl, hR, q⟩ := h
    have b40 : (10 : Int) ^ 40 = 10000000000000000000000000000000000000000 := by decide
    refine ⟨_, rfl, r, 3, rfl, hR, by decide, by omega, fun d1 H1 _ _ t1 => ⟨rfl, _, rfl, ?_⟩⟩
    by_cases e1 : d1 = 0
    · refine ifT (decide_eq_true (by rw [e1])) ?_
      refine ⟨_, rfl, ?_⟩
      intro p1 h1
      have m1 := same_upd (o := .dK []) h1
      have k1 : (upd H1 p1 (.dK [])) p1 = some (.dK []) := upd_same
      generalize upd H1 p1 (.dK []) = G1 at m1 k1
      intro p2 h2
      refine ⟨upd_same, [((Sum.inr ("a" : Str) : Key), V.int 1)], rfl, (by show 1 ≤ 15; decide), ?_⟩
      have m2 : Same G1 (upd (upd G1 p2 (.dK [])) p2 (.dK (mergeK [] [((Sum.inr ("a" : Str) : Key), V.int 1)]))) := fun c o e => by
        rw [upd_ne (ne_of_none e h2), upd_ne (ne_of_none e h2)]
        exact e
      have k2 : (upd (upd G1 p2 (.dK [])) p2 (.dK (mergeK [] [((Sum.inr ("a" : Str) : Key), V.int 1)]))) p2 = some (.dK (mergeK [] [((Sum.inr ("a" : Str) : Key), V.int 1)])) := upd_same
      have n1 : p1 ≠ r := (Rng.ne t1.1 h1).symm
      have n2 : p2 ≠ r := (Rng.ne (Stp.same (Stp.refl t1.1) m1).1 h2).symm
      generalize upd (upd G1 p2 (.dK [])) p2 (.dK (mergeK [] [((Sum.inr ("a" : Str) : Key), V.int 1)])) = G2 at m2 k2
      refine ⟨(by show 8 ≤ sizeLine; decide), fun L hL => ?_⟩
      have m3 := same_upd (o := .lst [.non, .int 0, .int 5, .bl true, .str "", .str "12", .ref p1, .ref p2]) hL
      have T2 := Stp.same (Stp.refl t1.1) (m1.trans m2)
      have T3 := T2.same m3
      have k1' := m3 _ _ (m2 _ _ k1)
      have k2' := m3 _ _ k2
      refine ⟨r, L, _, rfl, T3.1, upd_same, (Rng.ne T2.1 hL).symm, (by show 1 ≤ 8; decide), (by show 8 ≤ 1000; decide), fun v H' hv st => ⟨(by show 2 ≤ sizeLine; decide), fun t ht => ?_⟩⟩
      have m4 := (Stp.refl st.1).new (o := .tup [v, .int 0]) ht
      have st4 := st.trans m4
      have bad : ∀ G, StpN r (upd H' t (.tup [v, .int 0])) G → NotSq G v := fun G sg => by
        have s5 := st4.thenN sg
        simp only [List.mem_cons, List.not_mem_nil, or_false] at hv
        rcases hv with rfl | rfl | rfl | rfl | rfl | rfl | rfl | rfl
        · exact .non
        · exact .int _
        · exact .int _
        · exact .bl _
        · exact .str _
        · exact .str _
        · exact .dct (s5.2 _ _ n1 (fun ps e => by cases e) k1')
        · exact .dct (s5.2 _ _ n2 (fun ps e => by cases e) k2')
      exact q t v 0 _ ((t1.trans T3).trans st4) upd_same (fun G sg => .inl ⟨bad G sg, rfl⟩) (by decide)
    · refine ifF (decide_eq_false (fun z => e1 (V.int.inj z))) ?_
      refine ⟨_, rfl, r, 4, rfl, t1.1, by decide, by omega, fun d2 H2 d20 d21 t2 => ⟨d2, rfl, by omega, by omega, fun D hD => ?_⟩⟩
      have Dr : D ≠ r := (Rng.ne t2.1 hD).symm
      refine lc_range (fun i G => Stp r H2 G ∧ ∃ gs : List Int, G D = some (.lst (gs.map V.int)) ∧ gs.length = i ∧ ∀ x ∈ gs, 1 ≤ x ∧ x ≤ 50) ⟨(Stp.refl t2.1).new hD, [], upd_same, rfl, fun _ m => nomatch m⟩ ?_ ?_
      · rintro i G hi ⟨tG, gs, hG, gl, gr⟩
        refine ⟨rfl, _, rfl, r, 50, rfl, tG.1, by decide, by omega, fun e G3 e0 e1 t3 => ⟨_, _, rfl, rfl, _, t3.2 _ _ Dr hG, small1000 (by rw [List.length_map]; omega), ?_, gs ++ [1 + e], ?_, ?_, fun x hx => ?_⟩⟩
        · obtain ⟨ra, rb, re, rf⟩ := id t3.1
          refine ⟨⟨ra, rb, ?_, rf⟩, fun c u n ec => ?_⟩
          · rw [upd_ne Dr.symm]
            exact re
          · rw [upd_ne (ne_of_none ec hD)]
            exact t3.2 c u n (tG.2 c u n ec)
        · rw [upd_same, List.map_append]
          rfl
        · rw [List.length_append, gl]
          rfl
        · rcases List.mem_append.mp hx with z | z
          · exact gr x z
          · rw [List.mem_singleton.mp z]
            omega
      · rintro G ⟨tG, gs, hG, gl, gr⟩
        refine go_nm (nx_of (σ' := [some (.ref r), some (.ref D), none, none]) rfl (go_asg ?_))
        have gl3 : gs.length ≤ 3 := by omega
        refine ⟨_, rfl, _, rfl, r, rfl, tG.1, fun v d H3 t3 vd cb => ⟨(by show 1 ≤ sizeLine; decide), fun a ha => ?_⟩⟩
        have hD3 := t3.2 _ _ Dr hG
        have ta := (Stp.refl t3.1).new (o := .lst [v]) ha
        refine ⟨D, a, _, _, rfl, rfl, same_upd ha _ _ hD3, upd_same, (by rw [List.length_map, sizeLine_eq]; show gs.length + 1 ≤ _; omega), fun b hb => ?_⟩
        have br : b ≠ r := (Rng.ne ta.1 hb).symm
        have tb := ta.new (o := .lst (gs.map V.int ++ [v])) hb
        have hDb := tb.2 _ _ Dr hD3
        have hb1 : (upd (upd H3 a (.lst [v])) b (.lst (gs.map V.int ++ [v]))) b = some (.lst (gs.map V.int ++ [v])) := upd_same
        generalize upd (upd H3 a (.lst [v])) b (.lst (gs.map V.int ++ [v])) = H4 at tb hDb hb1
        refine ⟨_, rfl, r, rfl, tb.1, fun o od H5 t5 vo oo => ⟨(by show 1 ≤ sizeLine; decide), fun c hc => ?_⟩⟩
        have cr : c ≠ r := (Rng.ne t5.1 hc).symm
        have tc := (Stp.refl t5.1).new (o := .lst [o]) hc
        refine ⟨_, rfl, r, 2, rfl, tc.1, by decide, by omega, fun m H6 m0 m1 t6 => ?_⟩
        have hc6 := t6.2 _ _ cr (upd_same (H := H5) (a := c) (o := .lst [o]))
        have t46 := t5.trans (tc.trans t6)
        refine ⟨c, m, _, rfl, rfl, hc6, by omega, by omega, (by rw [sizeLine_eq]; show 1 * m.toNat ≤ _; omega), fun e he => ?_⟩
        have te := (Stp.refl t6.1).new (o := .lst (List.replicate m.toNat [o]).flatten) he
        have fl : (List.replicate m.toNat [o]).flatten.length ≤ 1 := by
          rw [List.length_flatten, List.map_replicate, List.sum_replicate_nat]
          show m.toNat * 1 ≤ 1
          omega
        refine ⟨b, e, _, _, rfl, rfl, te.2 _ _ br (t46.2 _ _ br hb1), upd_same, (by rw [List.length_append, List.length_map, sizeLine_eq]; show gs.length + 1 + _ ≤ _; omega), fun g hg => ?_⟩
        have tg := te.new (o := .lst (gs.map V.int ++ [v] ++ (List.replicate m.toNat [o]).flatten)) hg
        have hDg := tg.2 _ _ Dr (t46.2 _ _ Dr hDb)
        refine ⟨_, rfl, g, D, _, _, rfl, rfl, upd_same, hDg, (by rw [List.length_append, List.length_append, List.length_map, sizeLine_eq]; show gs.length + 1 + _ + gs.length ≤ _; omega), fun z hz => ?_⟩
        have zr : z ≠ r := (Rng.ne tg.1 hz).symm
        have tz := (t46.trans tg).new (o := .lst (gs.map V.int ++ [v] ++ (List.replicate m.toNat [o]).flatten ++ gs.map V.int)) hz
        have hDz := tz.2 _ _ Dr hDb
        have hz1 : (upd (upd (upd H6 e (.lst (List.replicate m.toNat [o]).flatten)) g (.lst (gs.map V.int ++ [v] ++ (List.replicate m.toNat [o]).flatten))) z (.lst (gs.map V.int ++ [v] ++ (List.replicate m.toNat [o]).flatten ++ gs.map V.int))) z = some (.lst (gs.map V.int ++ [v] ++ (List.replicate m.toNat [o]).flatten ++ gs.map V.int)) := upd_same
        have t3z := tb.trans tz
        generalize upd (upd (upd H6 e (.lst (List.replicate m.toNat [o]).flatten)) g (.lst (gs.map V.int ++ [v] ++ (List.replicate m.toNat [o]).flatten))) z (.lst (gs.map V.int ++ [v] ++ (List.replicate m.toNat [o]).flatten ++ gs.map V.int)) = H7 at tz hDz hz1 t3z
        have get : ∀ j u, j ≤ gs.length → (gs.map V.int ++ [v] ++ (List.replicate m.toNat [o]).flatten ++ gs.map V.int)[j]? = some u → (j = gs.length ∧ u = v) ∨ (j < gs.length ∧ ∃ i, u = .int i ∧ 1 ≤ i ∧ i ≤ 50) := fun j u hj hu => by
          rw [List.append_assoc, List.append_assoc] at hu
          by_cases ej : j < gs.length
          · rw [List.getElem?_append_left (by rw [List.length_map]; exact ej), List.getElem?_map] at hu
            obtain ⟨i, hi, rfl⟩ := Option.map_eq_some_iff.mp hu
            exact .inr ⟨ej, i, rfl, gr i (List.mem_of_getElem? hi)⟩
          · have e2 : j = gs.length := by omega
            rw [List.getElem?_append_right (by rw [List.length_map]; omega), List.length_map, e2, Nat.sub_self] at hu
            exact .inl ⟨e2, (Option.some.inj hu).symm⟩
        have at_ : (gs.map V.int ++ [v] ++ (List.replicate m.toNat [o]).flatten ++ gs.map V.int)[gs.length]? = some v := by
          rw [List.append_assoc, List.append_assoc, List.getElem?_append_right (by rw [List.length_map]; exact Nat.le_refl _), List.length_map, Nat.sub_self]
          rfl
        have bad : ∀ G, StpN r H7 G → ∀ y : Addr, (G y = some (.lst (gs.map V.int ++ [v] ++ (List.replicate m.toNat [o]).flatten ++ gs.map V.int)) ∨ G y = some (.tup (gs.map V.int ++ [v] ++ (List.replicate m.toNat [o]).flatten ++ gs.map V.int))) → NumBad G (.ref y) gs.length := fun G sg y hy =>
          .inr ⟨y, _, v, rfl, hy, at_, cb, fun j u hj hu => (get j u hj hu).elim (fun z => by rw [z.2]; exact (vd G (t3z.thenN sg)).1.1) (fun ⟨_, i, e, _⟩ => by rw [e]; exact .int i), fun j u hj hu => (get j u (by omega) hu).elim (fun z => by omega) (fun ⟨_, i, e, i1, i2⟩ => by rw [e]; exact decide_eq_true (by omega))⟩
        show tRet _ _ _ _
        have Tz := (((t1.trans t2).trans tG).trans t3).trans t3z
        refine ⟨_, rfl, r, 2, rfl, tz.1, by decide, by omega, fun d3 H8 _ _ t8 => ⟨rfl, _, rfl, ?_⟩⟩
        have hz8 := t8.2 _ _ zr hz1
        have hD8 := t8.2 _ _ Dr hDz
        by_cases e3 : d3 = 0
        · refine ifT (decide_eq_true (by rw [e3])) ⟨_, rfl, z, _, rfl, .inl ⟨SqL.of hz8, fun y hy => ?_⟩⟩
          have yr : y ≠ r := (Rng.ne t8.1 hy).symm
          have ty := (Stp.refl t8.1).new (o := .tup (gs.map V.int ++ [v] ++ (List.replicate m.toNat [o]).flatten ++ gs.map V.int)) hy
          have hy1 : (upd H8 y (.tup (gs.map V.int ++ [v] ++ (List.replicate m.toNat [o]).flatten ++ gs.map V.int))) y = some (.tup (gs.map V.int ++ [v] ++ (List.replicate m.toNat [o]).flatten ++ gs.map V.int)) := upd_same
          generalize upd H8 y (.tup (gs.map V.int ++ [v] ++ (List.replicate m.toNat [o]).flatten ++ gs.map V.int)) = H9 at ty hy1
          refine ⟨_, rfl, D, _, rfl, .inl (SqL.of (ty.2 _ _ Dr hD8)), (by show 2 ≤ sizeLine; decide), fun t ht => ?_⟩
          have tt := (Stp.refl ty.1).new (o := .tup [.ref y, .int ((gs.map V.int).length : Nat)]) ht
          refine q t (.ref y) _ _ (((Tz.trans t8).trans ty).trans tt) upd_same (fun G sg => ?_) (by rw [List.length_map]; exact gl3)
          rw [List.length_map]
          exact bad G (((t8.trans ty).trans tt).thenN sg) y (.inr ((tt.thenN sg).2 _ _ yr (fun ps e => by cases e) hy1))
        · refine ifF (decide_eq_false (fun z => e3 (V.int.inj z))) ⟨_, rfl, _, rfl, D, _, rfl, .inl (SqL.of hD8), (by show 2 ≤ sizeLine; decide), fun t ht => ?_⟩
          have tt := (Stp.refl t8.1).new (o := .tup [.ref z, .int ((gs.map V.int).length : Nat)]) ht
          refine q t (.ref z) _ _ ((Tz.trans t8).trans tt) upd_same (fun G sg => ?_) (by rw [List.length_map]; exact gl3)
          rw [List.length_map]
          exact bad G ((t8.trans tt).thenN sg) z (.inl ((tt.thenN sg).2 _ _ zr (fun ps e => by cases e) hz8))
end
end K26

set_option Elab.async false
set_option linter.all false
set_option maxRecDepth 100000
set_option maxHeartbeats 400000
set_option pp.maxSteps 900
namespace K26
open PySem PySem.Spec PyProof.Rows L2 Gu Ex
theorem ins_last {ns : List Int} {n : Int} {bs : List Blk} {i j : Nat} {b : Blk} (w : Wf ns n bs) (g : Good ns) (hb : bs[i]? = some b) (h : Below (bs.take i) b.1 j) : insB (bs.take i) j b = bs.take (i + 1) := by
  have il := (List.getElem?_eq_some_iff.mp hb).1
  have tl : (bs.take i).length = i := by rw [List.length_take]; omega
  have ej : j = (bs.take i).length := by
    refine Nat.le_antisymm h.1 ?_
    rcases Nat.lt_or_ge j (bs.take i).length with hl | hl
    · have e := List.getElem?_eq_getElem hl
      have e2 := e
      rw [List.getElem?_take_of_lt (by omega)] at e2
      have lt := (w.lt g e2 hb (by omega)).2
      exact absurd ((h.2 j _ e).mpr lt) (Nat.lt_irrefl _)
    · exact hl
  unfold insB
  rw [ej, List.take_length, List.drop_length, List.append_nil, take_at hb]
section
variable {P : Program} {w : World} {K : PySem.W.Frag} {mg : Str → Option Value} {base : Heap} {f : Addr} {fd : FuncData}
def spLayout (K : PySem.W.Frag) : Sp := fun vs H Q _ => ∃ (s a : Addr) (ns : List Int) (n : Int) (qs : List Addr) (bs : List Blk), vs = [.ref s, .int n, .ref a] ∧ H s = some (.lst (ns.map V.int)) ∧ Good ns ∧ H a = some (.lst (qs.map V.ref)) ∧ Refs blkV H qs bs ∧ Wf ns n bs ∧ bs.length ≤ 100 ∧ 1 ≤ n ∧ n ≤ 1000 ∧
  ∀ y zp bl dx dz l ps H', Same H H' → Ly K H' y zp bl dx ps ns n bs → H y = none → H bl = none → H' zp = some (.ins (He.ga K "Sizes") dz (szF l)) → H l = none → Q (.ref y) H'
theorem sc__law_layout : FnScope ["_law_sizes_here", "_law_length", "_law_blocks_here", "_law_layout_here", "_law_address", "_law_level", "_law_is_pinned"] ["_law_sizes_here", "_law_length", "_law_blocks_here"] (defScope (top 39)) := ⟨rfl, rfl, rfl, by decide +kernel, rfl, by decide +kernel, by decide +kernel⟩
theorem ok_layout (T : Tx K mg) (D_Sizes : Kf P w K mg base 4 "Sizes" ["self", "values"] (spMade K)) (D_Layout : Kf P w K mg base 4 "Layout" ["self", "sizes", "length"] (spNew K)) (M_put_p : MfKX P w K mg base 9 "Layout" "put" ["self", "level", "address", "pinned"] 3 ["pinned"] (spPut K))
    (F : FnP K "_law_layout" "_law_layout" (top 39) f fd) : FnOk P w K mg base CX0 10 f fd ["_law_sizes_here", "_law_length", "_law_blocks_here"] (spLayout K) := by
  refine F.ok sc__law_layout (fun vs H Q E h => ?_) (fun cdv A outer s H vs Q E hr h => ⟨_, PSs.nox (pss_cons (ps_set (i := 3) sc__law_layout.nd rfl (by first | exact Or.inl rfl | exact Or.inr rfl) (pmake D_Layout hr (pa_cons (pmake D_Sizes hr (pa_cons (pv 0) pa_nil)) (pa_cons (pv 1) pa_nil)))) (pss_cons (ps_for PassesOwn.never rfl (pi_list (pv 2)) (pg_tup (by rfl) (pgs_cons (pg_name (i := 4) sc__law_layout.nd rfl (by first | exact Or.inl rfl | exact Or.inr rfl)) (pgs_cons (pg_name (i := 5) sc__law_layout.nd rfl (by first | exact Or.inl rfl | exact Or.inr rfl)) (pgs_cons (pg_name (i := 6) sc__law_layout.nd rfl (by first | exact Or.inl rfl | exact Or.inr rfl)) pgs_nil)))) (pss_one (ps_expr (pmethKX M_put_p hr passN (pv 3) (pa_cons (pv 5) (pa_cons (pv 4) pa_nil)) (pk_cons (pv 6) pk_nil))))) (pss_one (ps_ret (pv 3))))), ?_⟩)
  · obtain ⟨s, a, ns, n, qs, bs, rfl, _⟩ := h
    rfl
  · obtain ⟨s, a, ns, n, qs, bs, rfl, hs, g, ha, rf, wf, b100, n1, n2, q⟩ := h
    have ql := rf.len
    refine ⟨_, rfl, ?_⟩
    intro x dz hx hdz ndz
    have e1 : (upd (upd H dz (.own x)) x (.ins (He.ga K "Sizes") dz [])) s = some (.lst (ns.map V.int)) := by
      rw [upd_ne (ne_of_none hs hx), upd_ne (ne_of_none hs hdz)]
      exact hs
    refine ⟨x, dz, s, ns, rfl, upd_same, SqL.of e1, .base (.lst e1), g, fun l hl => ⟨rfl, ?_⟩⟩
    have nxl : x ≠ l := ne_of_none upd_same hl
    have ndl : dz ≠ l := fun z => by
      rw [← z, upd_ne ndz, upd_same] at hl
      cases hl
    have l0 : H l = none := by
      rw [upd_ne nxl.symm, upd_ne ndl.symm] at hl
      exact hl
    refine ⟨_, rfl, ?_⟩
    intro y dx hy hdx ndx
    have kp1 : ∀ {c : Addr} {o : HO}, H c = some o → (upd (upd (upd (upd H dz (.own x)) x (.ins (He.ga K "Sizes") dz [])) l (.lst (ns.map V.int))) x (.ins (He.ga K "Sizes") dz (szF l))) c = some o := fun {c o} e => by
      rw [upd_ne (ne_of_none e hx), upd_ne (ne_of_none e l0), upd_ne (ne_of_none e hx), upd_ne (ne_of_none e hdz)]
      exact e
    have hx1 : (upd (upd (upd (upd H dz (.own x)) x (.ins (He.ga K "Sizes") dz [])) l (.lst (ns.map V.int))) x (.ins (He.ga K "Sizes") dz (szF l))) x = some (.ins (He.ga K "Sizes") dz (szF l)) := upd_same
    have hl1 : (upd (upd (upd (upd H dz (.own x)) x (.ins (He.ga K "Sizes") dz [])) l (.lst (ns.map V.int))) x (.ins (He.ga K "Sizes") dz (szF l))) l = some (.lst (ns.map V.int)) := by rw [upd_ne nxl.symm, upd_same]
    have kp2 : ∀ {c : Addr} {o : HO}, (upd (upd (upd (upd H dz (.own x)) x (.ins (He.ga K "Sizes") dz [])) l (.lst (ns.map V.int))) x (.ins (He.ga K "Sizes") dz (szF l))) c = some o → (upd (upd (upd (upd (upd (upd H dz (.own x)) x (.ins (He.ga K "Sizes") dz [])) l (.lst (ns.map V.int))) x (.ins (He.ga K "Sizes") dz (szF l))) dx (.own y)) y (.ins (He.ga K "Layout") dx [])) c = some o := fun {c o} e => by
      rw [upd_ne (ne_of_none e hy), upd_ne (ne_of_none e hdx)]
      exact e
    have free : ∀ {c : Addr}, (upd (upd (upd (upd (upd (upd H dz (.own x)) x (.ins (He.ga K "Sizes") dz [])) l (.lst (ns.map V.int))) x (.ins (He.ga K "Sizes") dz (szF l))) dx (.own y)) y (.ins (He.ga K "Layout") dx [])) c = none → H c = none := fun {c} e => by
      cases e2 : H c with
      | none => rfl
      | some o =>
        exact nomatch (kp2 (kp1 e2)).symm.trans e
    have y0 : H y = none := by
      cases e2 : H y with
      | none => rfl
      | some o =>
        exact nomatch (kp1 e2).symm.trans hy
    refine ⟨y, x, dx, ns, n, rfl, upd_same, ⟨dz, l, kp2 hx1, kp2 hl1⟩, g, n1, by omega, fun bl H' hbl keep L => ⟨rfl, ?_⟩⟩
    have bl0 := free hbl
    have sm : Same H H' := fun c o e => keep c o (ne_of_none e y0) (kp2 (kp1 e))
    have hx' : H' x = some (.ins (He.ga K "Sizes") dz (szF l)) := keep x _ (ne_of_none hx1 hy) (kp2 hx1)
    refine ⟨_, rfl, a, rfl, ⟨_, SqL.of (sm _ _ ha)⟩, ?_⟩
    refine for_list (K := K) (a := a) (xs := qs.map V.ref) (fun i σ G => ∃ (ps : List Addr) (x4 x5 x6 : Option V), σ = [some (.ref s), some (.int n), some (.ref a), some (.ref y), x4, x5, x6] ∧ Same H G ∧ Ly K G y x bl dx ps ns n (bs.take i) ∧ G x = some (.ins (He.ga K "Sizes") dz (szF l))) ⟨[], none, none, none, rfl, sm, L, hx'⟩ (fun i σ G _ ⟨_, _, _, _, _, sm, _⟩ => SqL.of (sm _ _ ha)) ?_ ?_
    · rintro i v σ G hv ⟨ps, x4, x5, x6, rfl, sm, L, hxG⟩
      obtain ⟨p, hp, rfl⟩ := ref_of hv
      obtain ⟨b, hb, hT⟩ := (rf.same sm).get hp
      have hT' : G p = some (.tup [.int b.1, .int (b.2.1 : Nat), .bl b.2.2]) := hT
      have bm := List.mem_of_getElem? hb
      have bo := wf.ok b bm
      have z1 := (chain g).pos _ bo.1
      refine ⟨p, _, rfl, .inl (.inl hT'), rfl, _, _, rfl, _, _, rfl, _, _, rfl, rfl, ?_⟩
      have er : regB ns b.2.1 n (.int b.1) = true := by
        show (decide (0 ≤ b.1) && decide (b.1 % sz ns b.2.1 = 0 ∧ b.1 + sz ns b.2.1 ≤ n)) = true
        rw [decide_eq_true bo.2.1, decide_eq_true ⟨Int.emod_eq_zero_of_dvd bo.2.2.1, bo.2.2.2⟩]
        rfl
      have frB : FreeR ns (bs.take i) b.1 (b.1 + sz ns b.2.1) := fun c hc => by
        obtain ⟨jj, hj, ej⟩ := mem_take_at hc
        exact .inl (wf.lt g ej hb hj).1
      refine ⟨_, rfl, y, dx, _, rfl, L.at_, lay_nm (by decide +kernel), _, rfl, _, rfl, _, rfl, rfl, rfl, y, x, bl, dx, ps, ns, n, bs.take i, b.2.1, b.2.2, .int b.1, rfl, L, (by rw [List.length_take]; omega), bo.1, .int _, fun a ea _ fr j ps' G' hbw L' bt => ?_, fun a t ea _ tk => ?_, fun e => ?_⟩
      · obtain rfl := V.int.inj ea
        rw [show (b.1, b.2.1, b.2.2) = b from rfl, ins_last wf g hb hbw] at L'
        obtain ⟨_, _, _, _, zy, zb, _, _, _⟩ := L.far
        exact ⟨ps', _, _, _, rfl, fun c o e => bt c o (ne_of_none e y0) (ne_of_none e bl0) (sm c o e), L', bt _ _ zy zb hxG⟩
      · obtain rfl := V.int.inj ea
        exact (tk.nf frB).elim
      · cases er.symm.trans e
    · rintro σ G ⟨ps, x4, x5, x6, rfl, sm, L, hxG⟩
      rw [List.length_map, ql, List.take_length] at L
      exact ⟨_, rfl, q y x bl dx dz l ps G sm L y0 bl0 hxG l0⟩
end
end K26

set_option Elab.async false
set_option linter.all false
set_option maxRecDepth 100000
set_option maxHeartbeats 400000
set_option pp.maxSteps 900
namespace K26
open PySem PySem.Spec PyProof.Rows L2 Gu Ex
section
variable {P : Program} {w : World} {K : PySem.W.Frag} {mg : Str → Option Value} {base : Heap} {f : Addr} {fd : FuncData}
/-- a Layout with no number of cells -/
def spNewR (K : PySem.W.Frag) : Sp := fun vs H _ E => ∃ (y zp v : V), vs = [y, zp, v] ∧ Any H v ∧ cellsB v = false ∧ Raised K "InvalidNumber" "value" v H E
theorem ok_newR (T : Tx K mg) (D_check_cells : DfX P w K mg base 4 "check_cells" ["value"] (spCheckC K)) (F : FnP K "__init__" "Layout.__init__" (inClass (top 31) 0) f fd) : FnOk P w K mg base (L2.CX P w) 5 f fd ["self", "sizes", "length"] (spNewR K) := by
  refine F.ok sc_Layout_init (fun vs H Q E h => ?_) (fun cdv A outer s H vs Q E hr h => ⟨_, (pss_cons (ps_expr (pcallX D_check_cells hr (passX (takes_of (E := E) rfl rfl rfl rfl)) (pa_cons (pv 2) pa_nil))) (pss_cons (ps_fld (pv 0) (pv 1) rfl) (pss_cons (ps_fld (pv 0) (pv 2) rfl) (pss_cons (ps_fld (pv 0) (pv 2) rfl) (pss_one (ps_fld (pv 0) (pe_lst pa_nil) rfl)))))), ?_⟩)
  · obtain ⟨y, zp, v, rfl, _⟩ := h
    rfl
  · obtain ⟨y, zp, v, rfl, hv, no, q⟩ := h
    refine ⟨_, rfl, v, rfl, hv, (fun e => ?_), fun _ => q⟩
    rw [no] at e
    cases e
end
end K26

set_option Elab.async false
set_option linter.all false
set_option maxRecDepth 100000
set_option maxHeartbeats 800000
set_option pp.maxSteps 900
namespace K26
open PySem PySem.Spec PyProof.Rows L2 Gu Ex LamX
/-- the tables of the five code objects whose lambdas are made -/
def tabs (Pt : Nat → Addr) : List (Addr × Str) := [(Pt 0, "_law_level_calls.<locals>.<lambda>"), (Pt 1, "_law_number_calls.<locals>.<lambda>"), (Pt 2, "_law_place_calls.<locals>.<lambda>"), (Pt 3, "_law_occupied_right.<locals>.<lambda>"), (Pt 4, "_law_bools_right.<locals>.<lambda>")]
def Inj5 (Pt : Nat → Addr) : Prop := ∀ i j, i < 5 → j < 5 → Pt i = Pt j → i = j
theorem tabs_one0 {Pt : Nat → Addr} (inj : Inj5 Pt) : ∀ p ∈ tabs Pt, p.1 = Pt 0 → p.2 = "_law_level_calls.<locals>.<lambda>" := fun p hp e => by
  simp only [tabs, List.mem_cons, List.not_mem_nil, or_false] at hp
  rcases hp with rfl | rfl | rfl | rfl | rfl
  · rfl
  · exact absurd (inj 1 0 (by decide) (by decide) e) (by decide)
  · exact absurd (inj 2 0 (by decide) (by decide) e) (by decide)
  · exact absurd (inj 3 0 (by decide) (by decide) e) (by decide)
  · exact absurd (inj 4 0 (by decide) (by decide) e) (by decide)
section
variable {K : PySem.W.Frag} {H H' : Hp} {y zp bl dx r : Addr} {ps : List Addr} {ns : List Int} {n : Int} {bs : List Blk}
theorem extN_stp (R : Rng H r) (s : ExtN H H') : StpN r H H' := by
  obtain ⟨a, b, e, z⟩ := R
  exact ⟨⟨a, b, s _ _ e (fun ps h => by cases h), z⟩, fun c o _ h e2 => s c o e2 h⟩
theorem Ly.extN (h : Ly K H y zp bl dx ps ns n bs) (s : ExtN H H') : Ly K H' y zp bl dx ps ns n bs := by
  obtain ⟨dz, l, z1, z2, z3⟩ := h.ap
  have k1 := s _ _ z1 (fun ps h => by cases h)
  have k2 := s _ _ z2 (fun ps h => by cases h)
  exact ⟨s _ _ h.at_ (fun ps h => by cases h), ⟨dz, l, k1, k2⟩, s _ _ h.lst (fun ps h => by cases h), h.rf.mono fun p xs e => s p _ e (fun ps h => by cases h), h.wf, h.gd, h.n1, h.n2, h.ln, ⟨dz, l, k1, k2, z3⟩⟩
end
end K26

set_option Elab.async false
set_option linter.all false
set_option maxRecDepth 100000
set_option maxHeartbeats 1600000
set_option pp.maxSteps 900
namespace K26
open PySem PySem.Spec PyProof.Rows L2 Gu Ex LamX
/-- an error that ends no iterator -/
def EnS (K : PySem.W.Frag) (E : XK) : XK := fun c d H => E c d H ∧ PySem.W.subIn K c (.type "StopIteration") = some false
theorem takes_nS {X : Cx} {E : XK} (tk : Takes X (fun c d _ H => E c d H)) : Takes X (fun c d _ H => EnS X.K E c d H) := tk.imp fun _ _ _ _ h => h.1
theorem noStop {K : PySem.W.Frag} (E : XK) : NoStop K (EnS K E) := fun _ _ _ h => h.2
theorem tabs_stp {L : List (Addr × Str)} {H H' : Hp} {r : Addr} (t : Tabs L H) (R : ∃ xs, H r = some (.lst xs)) (s : ∀ b o, b ≠ r → H b = some o → H' b = some o) : Tabs L H' := fun p hp => by
  obtain ⟨ps, h1, h2, h3⟩ := t p hp
  obtain ⟨xs, hr⟩ := R
  refine ⟨ps, s _ _ (fun z => by rw [z, hr] at h1; cases h1) h1, h2, fun pos cv hc => ?_⟩
  obtain ⟨c, e1, e2⟩ := h3 pos cv hc
  refine ⟨c, e1, s _ _ (fun z => ?_) e2⟩
  rw [z, hr] at e2
  unfold CodeO at e2
  cases e2
theorem rng_lst {H : Hp} {r : Addr} (R : Rng H r) : ∃ xs, H r = some (.lst xs) := by
  obtain ⟨a, b, e, _⟩ := R
  exact ⟨_, e⟩
/-- so far: the list at M holds results of the calls -/
structure Told (T : List (Addr × Str)) (H G : Hp) (r M : Addr) (row : List V) (rs : List Addr) : Prop where
  st : StpN r H G
  tb : Tabs T G
  at_ : G M = some (.lst (rs.map V.ref))
  off : ∀ c o, H c = some o → (∀ ps, o ≠ .tbl ps) → c ≠ M
  ne : M ≠ r
  ok : ∀ R ∈ rs, G R = some (.lst row) ∧ R ≠ M ∧ R ≠ r
theorem Told.more {T : List (Addr × Str)} {H G G3 : Hp} {r M R : Addr} {row : List V} {rs : List Addr} (t : Told T H G r M row rs) (s3 : StpN r H G3) (x : ExtN G G3) (tb : Tabs T G3) (hR : G3 R = some (.lst row)) (fr : ∀ c o, G c = some o → (∀ ps, o ≠ .tbl ps) → c ≠ R) :
    G3 M = some (.lst (rs.map V.ref)) ∧ Told T H (upd G3 M (.lst (rs.map V.ref ++ [.ref R]))) r M row (rs ++ [R]) := by
  have h2 := x _ _ t.at_ (fun ps e => by cases e)
  have nM : R ≠ M := (fr M _ t.at_ (fun ps e => by cases e)).symm
  obtain ⟨ra, rb, re, rf⟩ := id t.st.1
  have nr : R ≠ r := (fr r _ re (fun ps e => by cases e)).symm
  refine ⟨h2, ⟨⟨?_, fun c o n z e => ?_⟩, tabs_stp tb ⟨_, h2⟩ (fun c o n e => by rw [upd_ne n]; exact e), by rw [upd_same, List.map_append]; rfl, t.off, t.ne, fun Q hQ => ?_⟩⟩
  · obtain ⟨sa, sb, se, sf⟩ := id s3.1
    exact ⟨sa, sb, by rw [upd_ne t.ne.symm]; exact se, sf⟩
  · rw [upd_ne (t.off c o e z)]
    exact s3.2 c o n z e
  · rcases List.mem_append.mp hQ with z | z
    · obtain ⟨k1, k2, k3⟩ := t.ok Q z
      exact ⟨by rw [upd_ne k2]; exact x _ _ k1 (fun ps e => by cases e), k2, k3⟩
    · rw [List.mem_singleton.mp z]
      exact ⟨by rw [upd_ne nM]; exact hR, nM, nr⟩
section
variable {P : Program} {w : World} {K : PySem.W.Frag} {mg : Str → Option Value} {base : Heap} {f : Addr} {fd : FuncData}
def spLevel (K : PySem.W.Frag) (Pt : Nat → Addr) : Sp := fun vs H Q _ => ∃ (r y zp bl dx : Addr) (ps : List Addr) (ns : List Int) (n : Int) (bs : List Blk) (v : V) (d : PyData), vs = [.ref r, .ref y, v] ∧ Rng H r ∧ Ly K H y zp bl dx ps ns n bs ∧ bl ≠ r ∧ (∃ dz l, H zp = some (.ins (He.ga K "Sizes") dz (szF l)) ∧ H l = some (.lst (ns.map V.int)) ∧ l ≠ r ∧ l ≠ bl) ∧ Vd K r H v d ∧ lvB ns v = false ∧ Tabs (tabs Pt) H ∧
  ∀ H', StpN r H H' → Tabs (tabs Pt) H' → Q (.bl true) H'
theorem sc__law_level_calls : FnScope ["_law_rng_here", "_law_layout_here", "_law_odd_here", "_law_told", "_law_wrong", "_law_position"] ["_law_rng_here", "_law_layout_here", "_law_odd_here"] (defScope (top 46)) := ⟨rfl, rfl, rfl, by decide +kernel, rfl, by decide +kernel, by decide +kernel⟩
theorem ok_level {g cd z0 : Addr} {Pt : Nat → Addr} {fdO : FuncData} (inj : Inj5 Pt) (hSt : PySem.W.subIn K (.ref (cL K)) (.type "StopIteration") = some false) (T : Tx K mg) (KX : KitX K) (D__law_kind : DfE P w K mg base 1 "_law_kind" ["_law_e"] (spKind K)) (D__law_no_numbers : Df P w K mg base 5 "_law_no_numbers" ["_law_rng_here"] (spNoNums K))
    (M_free_regions : MfX P w K mg base 9 "Layout" "free_regions" ["self", "level"] (spLvR K)) (M_clear_cells : MfX P w K mg base 9 "Layout" "clear_cells" ["self", "level"] (spLvR K)) (M_unpinned_cells : MfX P w K mg base 6 "Layout" "unpinned_cells" ["self", "level"] (spLvR K))
    (M_slack_d : MfXD P w K mg base 10 "Layout" "slack" ["self", "level", "kept"] [.ref z0] (spSlackL K)) (M_slack_kw : MfKX P w K mg base 10 "Layout" "slack" ["self", "level", "kept"] 2 ["kept"] (spSlackL K)) (M_put_p : MfKX P w K mg base 9 "Layout" "put" ["self", "level", "address", "pinned"] 3 ["pinned"] (spPutL K)) (M_free_addresses : Mg P w K mg base 8 "Layout" "free_addresses" ["self", "level"] (spFaR K))
    (FO : FnP K "_law_outcome" "_law_outcome" (top 41) g fdO) (gO : mg "_law_outcome" = some (.ref g)) (bO : L2.Binds K fdO ["_law_call"] []) (TB : TabB base mg cd (Pt 0)) (F : FnP K "_law_level_calls" "_law_level_calls" (top 46) f fd) (hcd : fd.code = .ref cd) :
    FnG P w K mg base CX0 15 f fd ["_law_rng_here", "_law_layout_here", "_law_odd_here"] (spLevel K Pt) := by
  refine okGc F sc__law_level_calls (fun vs H Q E h => ?_) (fun A outer s H vs Q E hr h => ⟨_, PSs.nox (pss_cons (ps_asg (pcall D__law_no_numbers hr.r (pa_cons (pv 0) pa_nil)) (pg_tup (by rfl) (pgs_cons (pg_name (i := 4) sc__law_level_calls.nd rfl (by first | exact Or.inl rfl | exact Or.inr rfl)) (pgs_cons (pg_name (i := 5) sc__law_level_calls.nd rfl (by first | exact Or.inl rfl | exact Or.inr rfl)) pgs_nil)))) (pss_cons (ps_set (i := 3) sc__law_level_calls.nd rfl (by first | exact Or.inl rfl | exact Or.inr rfl) (pe_lst (pa_cons (pe_lamgive (k := 11) (t := fun E => tMeth (He.ga K "Layout") "free_regions" (spLvR K) [] E (tVar 1) (tCons (tVar 2) tNil)) (T := tabs Pt) (P := Pt 0) (c := cd) (Sg := sc__law_outcome) FO (by rfl) gO bO rfl (.inl rfl) (fun cdg => outcome_gives T KX D__law_kind (hr.mono (by decide))) TB hcd List.mem_cons_self (tabs_one0 inj) (hr.r.mono (by decide)) (lamS_by (sc := defScope (top 46)) (by decide +kernel)) rfl (fun _ _ _ _ _ => by rfl) (fun A2 o2 s2 H2 E2 f2 c2 hr2 => pmethX M_free_regions hr2 (passX (takes_of (E := E2) rfl rfl rfl rfl)) (pv 1) (pa_cons (pv 2) pa_nil))) pa_nil))) (pss_cons (ps_expr (pe_bm PySem.F.plainAttrs_list PySem.F.slot_list_append PySem.F.type_list_append mt_append (pv 3) (pa_cons (pe_lamgive (k := 11) (t := fun E => tMeth (He.ga K "Layout") "clear_cells" (spLvR K) [] E (tVar 1) (tCons (tVar 2) tNil)) (T := tabs Pt) (P := Pt 0) (c := cd) (Sg := sc__law_outcome) FO (by rfl) gO bO rfl (.inl rfl) (fun cdg => outcome_gives T KX D__law_kind (hr.mono (by decide))) TB hcd List.mem_cons_self (tabs_one0 inj) (hr.r.mono (by decide)) (lamS_by (sc := defScope (top 46)) (by decide +kernel)) rfl (fun _ _ _ _ _ => by rfl) (fun A2 o2 s2 H2 E2 f2 c2 hr2 => pmethX M_clear_cells hr2 (passX (takes_of (E := E2) rfl rfl rfl rfl)) (pv 1) (pa_cons (pv 2) pa_nil))) pa_nil))) (pss_cons (ps_expr (pe_bm PySem.F.plainAttrs_list PySem.F.slot_list_append PySem.F.type_list_append mt_append (pv 3) (pa_cons (pe_lamgive (k := 11) (t := fun E => tMeth (He.ga K "Layout") "unpinned_cells" (spLvR K) [] E (tVar 1) (tCons (tVar 2) tNil)) (T := tabs Pt) (P := Pt 0) (c := cd) (Sg := sc__law_outcome) FO (by rfl) gO bO rfl (.inl rfl) (fun cdg => outcome_gives T KX D__law_kind (hr.mono (by decide))) TB hcd List.mem_cons_self (tabs_one0 inj) (hr.r.mono (by decide)) (lamS_by (sc := defScope (top 46)) (by decide +kernel)) rfl (fun _ _ _ _ _ => by rfl) (fun A2 o2 s2 H2 E2 f2 c2 hr2 => pmethX M_unpinned_cells hr2 (passX (takes_of (E := E2) rfl rfl rfl rfl)) (pv 1) (pa_cons (pv 2) pa_nil))) pa_nil))) (pss_cons (ps_expr (pe_bm PySem.F.plainAttrs_list PySem.F.slot_list_append PySem.F.type_list_append mt_append (pv 3) (pa_cons (pe_lamgive (k := 11) (t := fun E => tMeth (He.ga K "Layout") "slack" (spSlackL K) [.ref z0] E (tVar 1) (tCons (tVar 2) tNil)) (T := tabs Pt) (P := Pt 0) (c := cd) (Sg := sc__law_outcome) FO (by rfl) gO bO rfl (.inl rfl) (fun cdg => outcome_gives T KX D__law_kind (hr.mono (by decide))) TB hcd List.mem_cons_self (tabs_one0 inj) (hr.r.mono (by decide)) (lamS_by (sc := defScope (top 46)) (by decide +kernel)) rfl (fun _ _ _ _ _ => by rfl) (fun A2 o2 s2 H2 E2 f2 c2 hr2 => pmethXD M_slack_d hr2 (passX (takes_of (E := E2) rfl rfl rfl rfl)) (pv 1) (pa_cons (pv 2) pa_nil))) pa_nil))) (pss_cons (ps_expr (pe_bm PySem.F.plainAttrs_list PySem.F.slot_list_append PySem.F.type_list_append mt_append (pv 3) (pa_cons (pe_lamgive (k := 11) (t := fun E => tMethKX (He.ga K "Layout") "slack" (spSlackL K) 2 (["kept"] : List Str).length E (tVar 1) (tCons (tVar 2) tNil) (tCons (tVar 4) tNil)) (T := tabs Pt) (P := Pt 0) (c := cd) (Sg := sc__law_outcome) FO (by rfl) gO bO rfl (.inl rfl) (fun cdg => outcome_gives T KX D__law_kind (hr.mono (by decide))) TB hcd List.mem_cons_self (tabs_one0 inj) (hr.r.mono (by decide)) (lamS_by (sc := defScope (top 46)) (by decide +kernel)) rfl (fun _ _ _ _ _ => by rfl) (fun A2 o2 s2 H2 E2 f2 c2 hr2 => by exact pmethKX M_slack_kw hr2 (passX (takes_of (E := E2) rfl rfl rfl rfl)) (pv 1) (pa_cons (pv 2) pa_nil) (pk_cons (pv 4) pk_nil))) pa_nil))) (pss_cons (ps_expr (pe_bm PySem.F.plainAttrs_list PySem.F.slot_list_append PySem.F.type_list_append mt_append (pv 3) (pa_cons (pe_lamgive (k := 11) (t := fun E => tMethKX (He.ga K "Layout") "put" (spPutL K) 3 (["pinned"] : List Str).length E (tVar 1) (tCons (tVar 2) (tCons (tC .non) tNil)) (tCons (tC (.bl true)) tNil)) (T := tabs Pt) (P := Pt 0) (c := cd) (Sg := sc__law_outcome) FO (by rfl) gO bO rfl (.inl rfl) (fun cdg => outcome_gives T KX D__law_kind (hr.mono (by decide))) TB hcd List.mem_cons_self (tabs_one0 inj) (hr.r.mono (by decide)) (lamS_by (sc := defScope (top 46)) (by decide +kernel)) rfl (fun _ _ _ _ _ => by rfl) (fun A2 o2 s2 H2 E2 f2 c2 hr2 => by exact pmethKX M_put_p hr2 (passX (takes_of (E := E2) rfl rfl rfl rfl)) (pv 1) (pa_cons (pv 2) (pa_cons pe_non pa_nil)) (pk_cons pe_bl pk_nil))) pa_nil))) (pss_cons (ps_expr (pe_bm PySem.F.plainAttrs_list PySem.F.slot_list_append PySem.F.type_list_append mt_append (pv 3) (pa_cons (pe_lamgive (k := 11) (t := fun E => tListG (tMethG (He.ga K "Layout") "free_addresses" (spFaR K) [] (EnS K E) (tVar 1) (tCons (tVar 2) tNil))) (T := tabs Pt) (P := Pt 0) (c := cd) (Sg := sc__law_outcome) FO (by rfl) gO bO rfl (.inl rfl) (fun cdg => outcome_gives T KX D__law_kind (hr.mono (by decide))) TB hcd List.mem_cons_self (tabs_one0 inj) (hr.r.mono (by decide)) (lamS_by (sc := defScope (top 46)) (by decide +kernel)) rfl (fun _ _ _ _ _ => by rfl) (fun A2 o2 s2 H2 E2 f2 c2 hr2 => pe_listG (k := 8) (E := EnS K E2) (by exact (pgenM M_free_addresses (hr2.mono (by decide)) (pv 1) (pa_cons (pv 2) pa_nil))) (passX (takes_nS (takes_of (E := E2) rfl rfl rfl rfl))) (noStop E2) hr2 rfl T.n_list rfl)) pa_nil))) (pss_one (ps_ret (pe_cmpR (op_eqD hr.r.units) (pv 3) (pe_op op_rep (pe_lst (pa_cons (pe_lst (pa_cons pe_str (pa_cons (pe_callB (call_reprQ hr T.sys) (by rfl) T.n_repr (by decide +kernel) (pa_cons (pv 2) pa_nil)) pa_nil))) pa_nil)) pe_int) (nomark _)))))))))))), ?_⟩)
  · obtain ⟨r, y, zp, bl, dx, ps, ns, n, bs, v, d, rfl, _⟩ := h
    rfl
  · obtain ⟨r, y, zp, bl, dx, ps, ns, n, bs, v, d, rfl, hR, L, br, ⟨dz, l, z1, z2, lr, lb⟩, vd, no, tb, q⟩ := h
    have ok : PyData.strOk d.shown = true := (vd H (Stp.refl hR).n).1.2
    have one : ∀ (tl : XK → Hp → VK → Prop) (G : Hp) (Q' : VK), StpN r H G → Tabs (tabs Pt) G → (∀ G1 E N, StpN r H G1 → Raised K "InvalidLevel" "value" v G1 E → tl E G1 N) →
        (∀ R G3, StpN r H G3 → ExtN G G3 → Tabs (tabs Pt) G3 → G3 R = some (.lst [.str "level", .str d.shown]) → (∀ c o, G c = some o → (∀ ps, o ≠ .tbl ps) → c ≠ R) → Q' (.ref R) G3) → (Tabs (tabs Pt) G ∧ ∀ H1, ExtN G H1 → Tabs (tabs Pt) H1 → TTout K tl H1 Q') :=
      fun tl G Q' sg tg call fin => ⟨tg, fun H1 x1 tb1 => by
        have s1 := sg.trans (extN_stp sg.1 x1)
        refine ⟨0, v, d, by decide, (vd H1 s1).2, fun Ha E N sa ra => call Ha E N (s1.trans (Stp.same (Stp.refl s1.1) sa).n) ra, fun R H3 hR s3 h3 => fin R H3 (s1.trans (Stp.same (Stp.refl s1.1) s3).n) (fun c o e z => s3 _ _ (x1 c o e z)) (tabs_stp tb1 (rng_lst s1.1) fun c o _ e => s3 c o e) h3 (fun c o e z => ne_of_none (x1 c o e z) hR)⟩⟩
    have LY : ∀ {G}, StpN r H G → Ly K G y zp bl dx ps ns n bs := fun {G} s => by
      obtain ⟨ra, rb, re, rf⟩ := id hR
      have k1 := s.2 zp _ (fun z => by rw [z, re] at z1; cases z1) (fun ps e => by cases e) z1
      have k2 := s.2 l _ lr (fun ps e => by cases e) z2
      exact ⟨s.2 y _ (fun z => by have := L.at_; rw [z, re] at this; cases this) (fun ps e => by cases e) L.at_, ⟨dz, l, k1, k2⟩, s.2 bl _ br (fun ps e => by cases e) L.lst, L.rf.mono fun p xs e => s.2 p _ (fun z => by rw [z, re] at e; cases e) (fun ps e => by cases e) e, L.wf, L.gd, L.n1, L.n2, L.ln, ⟨dz, l, k1, k2, lb⟩⟩
    refine ⟨_, rfl, r, rfl, hR, fun t u pos H1 t1 ht bad p3 => ?_⟩
    refine ⟨t, _, rfl, .inl (.inl ht), rfl, _, _, rfl, _, _, rfl, rfl, ?_⟩
    refine nx_of (σ' := [some (.ref r), some (.ref y), some v, none, some u, some (.int pos)]) rfl (go_asg ?_)
    refine one _ _ _ t1.n (tabs_stp tb (rng_lst hR) t1.2) (fun G1 E N sg ra => ⟨_, rfl, y, dx, _, rfl, (LY sg).at_, lay_nm (by decide +kernel), _, rfl, y, zp, bl, dx, ps, ns, n, bs, v, rfl, LY sg, (vd G1 sg).1.1, no, ra⟩) (fun R0 G0 s0 x0 tb0 h0 fr0 => ⟨(by show 1 ≤ sizeLine; decide), fun M hM => ?_⟩)
    have Mr : M ≠ r := (Rng.ne s0.1 hM).symm
    have TT0 : Told (tabs Pt) H (upd G0 M (.lst [.ref R0])) r M [.str "level", .str d.shown] [R0] := by
      have nR : R0 ≠ M := ne_of_none h0 hM
      obtain ⟨sa, sb, se, sf⟩ := id s0.1
      obtain ⟨ra, rb, re, rf⟩ := id t1.1
      refine ⟨⟨⟨sa, sb, by rw [upd_ne Mr.symm]; exact se, sf⟩, fun c o n z e => ?_⟩, tabs_stp tb0 (rng_lst s0.1) (fun c o _ e => by rw [upd_ne (ne_of_none e hM)]; exact e), upd_same, fun c o e z => ?_, Mr, fun Q hQ => ?_⟩
      · have k := s0.2 c o n z e
        rw [upd_ne (ne_of_none k hM)]
        exact k
      · by_cases cr : c = r
        · rw [cr]
          exact Mr.symm
        · exact ne_of_none (s0.2 c o cr z e) hM
      · rw [List.mem_singleton.mp hQ]
        exact ⟨by rw [upd_ne nR]; exact h0, nR, (fr0 r _ re (fun ps e => by cases e)).symm⟩
    show tSeq _ _ _ _ _
    refine at_st (σ' := [some (.ref r), some (.ref y), some v, some (.ref M), some u, some (.int pos)]) rfl ?_
    generalize upd G0 M (.lst [.ref R0]) = F0 at TT0
    refine ⟨_, rfl, .inl ⟨rfl, _, SqL.of TT0.at_⟩, ?_⟩
    refine one _ _ _ TT0.st TT0.tb (fun G1 E N sg ra => ⟨_, rfl, y, dx, _, rfl, (LY sg).at_, lay_nm (by decide +kernel), _, rfl, y, zp, bl, dx, ps, ns, n, bs, v, rfl, LY sg, (vd G1 sg).1.1, no, ra⟩) (fun R1 G1 s1 x1 tb1 h1 fr1 => ?_)
    obtain ⟨hM1, TT1⟩ := TT0.more s1 x1 tb1 h1 fr1
    refine ⟨M, _, _, rfl, rfl, hM1, (by show 1 + 1 ≤ sizeLine; decide), ?_⟩
    generalize upd G1 M _ = F1 at TT1
    refine ⟨_, rfl, .inl ⟨rfl, _, SqL.of TT1.at_⟩, ?_⟩
    refine one _ _ _ TT1.st TT1.tb (fun G1 E N sg ra => ⟨_, rfl, y, dx, _, rfl, (LY sg).at_, lay_nm (by decide +kernel), _, rfl, y, zp, bl, dx, ps, ns, n, bs, v, rfl, LY sg, (vd G1 sg).1.1, no, ra⟩) (fun R2 G2 s2 x2 tb2 h2 fr2 => ?_)
    obtain ⟨hM2, TT2⟩ := TT1.more s2 x2 tb2 h2 fr2
    refine ⟨M, _, _, rfl, rfl, hM2, (by show 2 + 1 ≤ sizeLine; decide), ?_⟩
    generalize upd G2 M _ = F2 at TT2
    refine ⟨_, rfl, .inl ⟨rfl, _, SqL.of TT2.at_⟩, ?_⟩
    refine one _ _ _ TT2.st TT2.tb (fun G1 E N sg ra => ⟨_, rfl, y, dx, _, rfl, (LY sg).at_, lay_nm (by decide +kernel), _, rfl, y, zp, bl, dx, ps, ns, n, bs, v, .ref z0, rfl, LY sg, (vd G1 sg).1.1, no, ra⟩) (fun R3 G3 s3 x3 tb3 h3 fr3 => ?_)
    obtain ⟨hM3, TT3⟩ := TT2.more s3 x3 tb3 h3 fr3
    refine ⟨M, _, _, rfl, rfl, hM3, (by show 3 + 1 ≤ sizeLine; decide), ?_⟩
    generalize upd G3 M _ = F3 at TT3
    refine ⟨_, rfl, .inl ⟨rfl, _, SqL.of TT3.at_⟩, ?_⟩
    refine one _ _ _ TT3.st TT3.tb (fun G1 E N sg ra => ⟨_, rfl, y, dx, _, rfl, (LY sg).at_, lay_nm (by decide +kernel), _, rfl, _, rfl, rfl, rfl, y, zp, bl, dx, ps, ns, n, bs, v, u, rfl, LY sg, (vd G1 sg).1.1, no, ra⟩) (fun R4 G4 s4 x4 tb4 h4 fr4 => ?_)
    obtain ⟨hM4, TT4⟩ := TT3.more s4 x4 tb4 h4 fr4
    refine ⟨M, _, _, rfl, rfl, hM4, (by show 4 + 1 ≤ sizeLine; decide), ?_⟩
    generalize upd G4 M _ = F4 at TT4
    refine ⟨_, rfl, .inl ⟨rfl, _, SqL.of TT4.at_⟩, ?_⟩
    refine one _ _ _ TT4.st TT4.tb (fun G1 E N sg ra => ⟨_, rfl, y, dx, _, rfl, (LY sg).at_, lay_nm (by decide +kernel), _, rfl, rfl, rfl, y, zp, bl, dx, ps, ns, n, bs, v, .non, .bl true, rfl, LY sg, (vd G1 sg).1.1, no, ra⟩) (fun R5 G5 s5 x5 tb5 h5 fr5 => ?_)
    obtain ⟨hM5, TT5⟩ := TT4.more s5 x5 tb5 h5 fr5
    refine ⟨M, _, _, rfl, rfl, hM5, (by show 5 + 1 ≤ sizeLine; decide), ?_⟩
    generalize upd G5 M _ = F5 at TT5
    refine ⟨_, rfl, .inl ⟨rfl, _, SqL.of TT5.at_⟩, ?_⟩
    refine one _ _ _ TT5.st TT5.tb (fun G1 E N sg ra => ⟨_, rfl, y, dx, _, rfl, (LY sg).at_, lay_nm (by decide +kernel), _, rfl, y, zp, bl, dx, ps, ns, n, bs, v, rfl, LY sg, (vd G1 sg).1.1, no, fun a b c e f => ⟨ra a b c e f, hSt⟩⟩) (fun R6 G6 s6 x6 tb6 h6 fr6 => ?_)
    obtain ⟨hM6, TT6⟩ := TT5.more s6 x6 tb6 h6 fr6
    refine ⟨M, _, _, rfl, rfl, hM6, (by show 6 + 1 ≤ sizeLine; decide), ?_⟩
    generalize upd G6 M _ = F6 at TT6
    have tqv := (vd F6 TT6.st).2
    refine ⟨_, rfl, _, rfl, _, _, rfl, tqv.dq, tqv.sh, Nat.le_trans tqv.dp (by decide), Nat.le_trans tqv.ln (by decide), (by show 2 ≤ sizeLine; decide), fun a ha => ⟨(by show 1 ≤ sizeLine; decide), fun b hb => ⟨b, 7, _, rfl, rfl, upd_same, by decide, by decide, (by show 1 * 7 ≤ sizeLine; decide), fun c hc => ?_⟩⟩⟩
    have m1 := same_upd (o := .lst [.str "level", .str d.shown]) ha
    have ka : (upd F6 a (.lst [.str "level", .str d.shown])) a = some (.lst [.str "level", .str d.shown]) := upd_same
    have m2 := m1.trans (same_upd (o := .lst [.ref a]) hb)
    have m3 := m2.trans (same_upd (o := .lst [.ref a, .ref a, .ref a, .ref a, .ref a, .ref a, .ref a]) hc)
    have ka3 := ((same_upd (o := .lst [.ref a]) hb).trans (same_upd (o := .lst [.ref a, .ref a, .ref a, .ref a, .ref a, .ref a, .ref a]) hc)) _ _ ka
    have kc : (upd (upd (upd F6 a (.lst [.str "level", .str d.shown])) b (.lst [.ref a])) c (.lst [.ref a, .ref a, .ref a, .ref a, .ref a, .ref a, .ref a])) c = some (.lst [.ref a, .ref a, .ref a, .ref a, .ref a, .ref a, .ref a]) := upd_same
    have row : ∀ {G : Hp} {R : Addr}, G R = some (.lst [.str "level", .str d.shown]) → Dp K G (.ref R) (.list [.str "level", .str d.shown]) := fun e => .lst (SqL.of e) (.cons (.str _) (.cons (.str _) .nil))
    have ol : PyData.strOk "level" = true := by decide +kernel
    have cl : PyData.canLay0 (.list [.list [.str "level", .str d.shown], .list [.str "level", .str d.shown], .list [.str "level", .str d.shown], .list [.str "level", .str d.shown], .list [.str "level", .str d.shown], .list [.str "level", .str d.shown], .list [.str "level", .str d.shown]]) = true := by
      simp only [PyData.canLay0, PyData.canLayAll0, ok, ol, Bool.and_self]
    have shp : SeqAt.shaped (.list [.list [.str "level", .str d.shown], .list [.str "level", .str d.shown], .list [.str "level", .str d.shown], .list [.str "level", .str d.shown], .list [.str "level", .str d.shown], .list [.str "level", .str d.shown], .list [.str "level", .str d.shown]]) = true := by
      unfold SeqAt.shaped
      rw [cl]
      rfl
    have ev := SeqAt.eqv_refl _ cl
    have rk : ∀ R ∈ [R0] ++ [R1] ++ [R2] ++ [R3] ++ [R4] ++ [R5] ++ [R6], _ := fun R hR => row (m3 _ _ (TT6.ok R hR).1)
    have hMc := m3 _ _ TT6.at_
    have da := row ka3
    have fin : StpN r H (upd (upd (upd F6 a (.lst [.str "level", .str d.shown])) b (.lst [.ref a])) c (.lst [.ref a, .ref a, .ref a, .ref a, .ref a, .ref a, .ref a])) := TT6.st.trans (Stp.same (Stp.refl TT6.st.1) m3).n
    refine ⟨_, _, .lst (SqL.of hMc) (.cons (rk R0 (by simp)) (.cons (rk R1 (by simp)) (.cons (rk R2 (by simp)) (.cons (rk R3 (by simp)) (.cons (rk R4 (by simp)) (.cons (rk R5 (by simp)) (.cons (rk R6 (by simp)) .nil))))))), .lst (SqL.of kc) (.cons da (.cons da (.cons da (.cons da (.cons da (.cons da (.cons da .nil))))))), shp, shp, ?_⟩
    rw [ev]
    exact q _ fin (tabs_stp TT6.tb (rng_lst TT6.st.1) fun c o _ e => m3 c o e)
end
end K26

set_option Elab.async false
set_option linter.all false
set_option maxRecDepth 100000
set_option maxHeartbeats 4000000
/-! Own layer: a list comprehension whose element may raise. -/
namespace Ex
open PySem PySem.Spec PySem.Calls PyProof.Rows L2 Gu
/-- the wish of a block: the error is noted, the block's names are let go, the error goes on in the def -/
abbrev fails (X : Cx) (ce : Env) : Value → Shared → Prop := notedBy (model X.prog X.w) X.A ce (CompFails (model X.prog X.w) X.A X.xe ce)
theorem hide1 {h : Heap} {C b : Addr} {o : Obj} (e : h.get? b = some o) (n : b ≠ C) : (PySem.W.hideAll h [C]).get? b = some o := PySem.W.hideAll_get _ e (by simpa using n)
theorem of_hide1 {h : Heap} {C b : Addr} {o : Obj} (e : (PySem.W.hideAll h [C]).get? b = some o) : h.get? b = some o ∧ b ≠ C := by
  refine ⟨PySem.W.of_hideAll _ e, fun z => ?_⟩
  rw [z, PySem.W.hideAll_none _ (by simp)] at e
  cases e
theorem none_hide {h : Heap} {C b : Addr} (e : h.get? b = none) : (PySem.W.hideAll h [C]).get? b = none := by
  cases q : (PySem.W.hideAll h [C]).get? b with
  | none => rfl
  | some o =>
    rw [(of_hide1 q).1] at e
    cases e
section
variable {X : Cx} {pins : List (Addr × Obj)} {σ : L2.St} {H3 : Hp} {s3 : Shared} {scope : Scope} {ce : Env} {fp : List Addr} {E : XK}
theorem pass_blk (I3 : Inv X pins σ H3 s3) (hs : X.stack = X.env :: X.outer) (hf : X.env.frame = some X.env.locals) (hl : ce.locals = s3.heap.objs.size) (hce : ce.frame = X.env.frame) (f3 : ∀ b ∈ fp, FpOk X pins H3 b) (tk : Takes X (fun c d _ H => E c d H)) :
    Passes (L2.CX X.prog X.w) ((X.blk s3 H3 scope ce fp).wish (fails X ce)) E := by
  intro pB σB HB sB u s' IB0 cx
  have IB : Inv (X.blk s3 H3 scope ce fp) pB σB HB sB := IB0.unwish
  obtain ⟨a, B, H', cls, d, rfl, fl, hok, ub, na, os, ag, hE⟩ := cx
  have nC3 : ∀ b o, s3.heap.get? b = some o → b ≠ ce.locals := fun b o e => by
    rw [hl]
    exact Nat.ne_of_lt (Heap.lt_size e)
  have hfs : ce.locals ∉ frs X.stack := fun z => by
    obtain ⟨_, o, e, _⟩ := I3.stack.mem z
    exact nC3 _ o e rfl
  obtain ⟨m, nsB, _⟩ := id IB.loc
  have nsB : sB.heap.Ns ce.locals m := nsB
  obtain ⟨oC, es, ep, eC, dC, rC⟩ := nsB
  have hBC : HB ce.locals = none := IB.free
  have eB : B.get? ce.locals = some oC := ub.keep _ _ eC hBC hfs
  have eS : s'.heap.get? ce.locals = some oC := fl.1 _ _ eB
  have hC' : H' ce.locals = none := ub.free _ _ eC hBC
  obtain ⟨G, g1, g2⟩ := restrict s'.heap fun b => (B.get? b).isSome || decide (b ∈ frs X.stack)
  have gB : ∀ b o, B.get? b = some o → G.get? b = some o := fun b o e => (g1 b (by rw [e]; rfl)).trans (fl.1 b o e)
  have gF : ∀ b, b ∈ frs X.stack → G.get? b = s'.heap.get? b := fun b z => g1 b (by rw [decide_eq_true z, Bool.or_true])
  have gO : ∀ b o, G.get? b = some o → s'.heap.get? b = some o ∧ (b ∉ frs X.stack → B.get? b = some o) := fun b o e => by
    cases q : ((B.get? b).isSome || decide (b ∈ frs X.stack)) with
    | false =>
      rw [g2 b q] at e
      cases e
    | true =>
      have e1 := (g1 b q).symm.trans e
      refine ⟨e1, fun nf => ?_⟩
      rw [decide_eq_false nf, Bool.or_false] at q
      obtain ⟨o', q'⟩ := Option.isSome_iff_exists.mp q
      have := (fl.1 b o' q').symm.trans e1
      rw [q', this]
  have un : Un (frs X.stack) fp H3 H' s3.heap G := by
    have b0 : Un (frs X.stack) fp H3 HB s3.heap sB.heap := IB.base
    refine ⟨fun b o e n nf nx => gB b o (ub.keep b o (b0.keep b o e n nf nx) (b0.free b o e n nx) nf), fun b o e n z nx => ?_, fun b o e n nx => ?_, fun b o e nx => ?_, fun b xs e => ub.tups b xs (b0.tups b xs e), fun b o v e => ub.frzs b o v (b0.frzs b o v e), fun b ps e => ?_⟩
    · obtain ⟨sl, e1⟩ := b0.slot b o e n z nx
      obtain ⟨sl2, e2⟩ := ub.slot b _ e1 z
      exact ⟨sl2, (gF b z).trans e2⟩
    · obtain ⟨o1, e1⟩ := b0.there b o e nx
      exact ub.free b o1 e1 (b0.free b o e n nx)
    · obtain ⟨o1, e1⟩ := b0.there b o e nx
      by_cases z : b ∈ frs X.stack
      · obtain ⟨sl2, e2⟩ := ub.slot b _ e1 z
        exact ⟨_, (gF b z).trans e2⟩
      · obtain ⟨o2, e2⟩ := ub.there b _ e1 z
        exact ⟨o2, gB b o2 e2⟩
    · obtain ⟨m1, e1⟩ := b0.tbls b ps e
      obtain ⟨m2, e2⟩ := ub.tbls b _ e1
      exact ⟨m1 ++ m2, by rw [e2, Array.append_assoc]⟩
  have J0 : Inv X pins σ H' { s' with heap := G } := I3.call' (ch := fp) (show s'.os = s3.os from os.trans IB.os) un (hok.kept gB) ag fun b hb => ⟨(f3 b hb).2.2.2.1, (f3 b hb).2.1, (f3 b hb).2.2.2.2.1, (f3 b hb).2.2.2.2.2⟩
  have fC : FpOk X pins H' ce.locals := I3.fpOk (Nat.le_of_eq hl.symm) hC'
  obtain ⟨k0, k1, k2, k3, k4, k5⟩ := id fC
  have J : Inv X pins σ H' { s' with heap := PySem.W.hideAll G [ce.locals] } := J0.turned (t' := s'.toks) (fun b o n e => hide1 e n) k0 k1 k3 k4 k5
  have hfr : X.A.frames = some (X.env :: X.outer) := by rw [I3.ok.frames, hs]
  show wpAny (model X.prog X.w) X.A (noteFrame (.ref a) ce) _ _ s'
  rw [noteFrame_env _ hce]
  refine HandSPX.looks_onZ Zc.steady hfr hf (by rw [← hs]; exact fl) fun h1 held up1 => ?_
  have nfC : ∀ vs, oC.data ≠ .fields vs := fun vs z => by
    rw [dC] at z
    cases z
  obtain ⟨sl1, e1C⟩ := up1 _ _ eS nfC
  refine ⟨m, ⟨_, es, ep, e1C, dC, rC⟩, fun h2 m2 hn2 sb2 => ?_⟩
  obtain ⟨b1, b2, b3, oe, vs, T, oT, ts, t1, t2, t3, t4, t5, t6, t7, t8, t9⟩ := held
  have na' : a ≠ ce.locals := fun z => by
    rw [z, e1C] at t1
    cases t1
    exact nfC _ t3
  have nT' : T ≠ ce.locals := fun z => by
    rw [z, e1C] at t7
    cases t7
    exact nfC _ t8
  have held2 : HandSPX.HeldZ (PySem.W.hideAll B [ce.locals]) (X.env :: X.outer) a (Zc cls d) X.env.locals h2 := by
    refine ⟨fun b o e => ?_, none_hide b2, ?_, oe, vs, T, oT, ts, (sb2.2 a na').trans t1, t2, t3, t4, none_hide t5, t6, (sb2.2 T nT').trans t7, t8, t9⟩
    · obtain ⟨e1, n⟩ := of_hide1 e
      exact (sb2.2 b n).trans (b1 b o e1)
    · exact funFrames_none (Heap.FunFrames.sameBut sb2 hn2 b3) fun L hL => none_hide (by
        obtain ⟨z, _⟩ := b3.mem hL
        exact z)
  unfold PySem.passOn
  refine wpAny_bind (wpAny_field held2.2.2.2.choose_spec.choose_spec.choose_spec.choose_spec.choose_spec.1 held2.2.2.2.choose_spec.choose_spec.choose_spec.choose_spec.choose_spec.2.2.1 held2.2.2.2.choose_spec.choose_spec.choose_spec.choose_spec.choose_spec.2.2.2.1 ?_)
  rw [if_neg (by simp), hce, hf]
  refine wpAny_bind (HandSPX.setFlight_onZ held2 fun h3 held3 up3 => wpAny_throw (tk _ _ ?_))
  refine ⟨a, PySem.W.hideAll B [ce.locals], _, pins, σ, H', cls, d, rfl, J, fun b o e nf => ?_, fun b o e nv => ?_, .inr (.inr (by rw [hs]; exact held3)), na, rfl, ag, hE⟩
  · obtain ⟨e1, n⟩ := of_hide1 e
    exact hide1 ((gO b o e1).2 nf) n
  · obtain ⟨e1, n⟩ := of_hide1 e
    obtain ⟨sl1, q1⟩ := up1 b o (gO b o e1).1 nv
    obtain ⟨sl3, q3⟩ := up3 b _ ((sb2.2 b n).trans q1) nv
    exact ⟨sl3, q3⟩
end
end Ex

set_option Elab.async false
set_option linter.all false
set_option maxRecDepth 100000
set_option maxHeartbeats 4000000
namespace Ex
open PySem PySem.Spec PySem.Calls PyProof.Rows L2 Gu
theorem anyE {α : Type} {t : Sem α} {Q Q' : α → Shared → Prop} {M : Model} {A : Around} {F : Value → Shared → Prop} {s : Shared} (h : wpAny M A t Q (fun _ _ => False) s) (k : ∀ a s1, Q a s1 → Q' a s1) : wpAny M A t Q' F s := wpAny_mono h k fun _ _ z => z.elim
section
variable {X : Cx} {elt tg iter : Expr} {ifs : List Expr} {scope : Scope} {own : List (Str × Nat)} {pos : Pos} {wi : TI} {g : TG} {tt : TT} {te : TE} {E : XK}
/-- [elt for tg in iter if ..], the element may raise: it is read under the wish that every call's errors pass -/
theorem lcX_core {pins : List (Addr × Obj)} {s : Shared} {σ : L2.St} {H : Hp} {Q : VK} {pos2 : Pos} {use : Option (Value → Sem Unit)} {Qf : Value → Shared → Prop} (I : Inv X pins σ H s)
    (hc : X.calm = true) (hN : X.N.Nodup) (hs : X.stack = X.env :: X.outer) (hf : X.env.frame = some X.env.locals) (tk : Takes X (fun c d _ H => E c d H)) (hi : PI X tg iter wi) (ok : BlkOk X.N X.env.scope scope own)
    (hG : ∀ (t : Shared) (G : Hp) (C : Addr) (cl : List (Str × Addr)) (fp : List Addr), PG (X.blk t G scope (compEnvC scope cl C X.env) fp) tg g)
    (hT : ∀ (t : Shared) (G : Hp) (C : Addr) (cl : List (Str × Addr)) (fp : List Addr), PTs (X.blk t G scope (compEnvC scope cl C X.env) fp) ifs tt)
    (hE : ∀ (t : Shared) (G : Hp) (C : Addr) (cl : List (Str × Addr)) (fp : List Addr) (F : Value → Shared → Prop), Passes (L2.CX X.prog X.w) ((X.blk t G scope (compEnvC scope cl C X.env) fp).wish F) E → PE ((X.blk t G scope (compEnvC scope cl C X.env) fp).wish F) elt te)
    (hset : ∀ x, foldedSetIterable iter X.env x = pure x) (h : tLc wi g tt te (own.map (·.2)) σ H Q)
    (fin : ∀ D ce t m G, Inv X pins σ G t → Q (.ref D) G → t.heap.Ns ce.locals m → FpOk X pins G ce.locals → compEnds (model X.prog X.w) X.A X.xe use Qf (.ref D) ce (.ok .next) t) :
    wpAny (model X.prog X.w) X.A (comprehension (.ListComp elt [⟨tg, iter, ifs, 0⟩] scope pos) scope X.env pos2 (newList []) false (eval iter X.env) use) Qf X.xe s := by
  have hfree : ∀ z ∈ scope.names, z.2 = .free → ∃ c, X.env.cells.lookup z.1 = some c := fun z hz e => I.ok.has _ (ok.free z hz e)
  refine comprehension_at (use := use) rfl hset (closure_ok hfree) ok.kind (fun z hz e => (ok.uniq z hz).trans (congrArg some e)) (thn (hi.run pins s σ H _ I h) fun _ _ h1 => thn h1 fun _ s2 h2 => ?_)
  obtain ⟨it, fp, tn, J, H2, rfl, I2, T, st2, f2, q⟩ := h2
  refine wpAny_newObj_type (newEnv_comp ?_) (Nat.zero_le _)
  obtain ⟨W, ⟨m0, w0⟩, turn⟩ := q s2.heap.objs.size (I2.hok.fresh (Nat.le_refl _))
  have I3 : Inv X pins σ (upd H2 s2.heap.objs.size (.lst [])) { s2 with heap := s2.heap.push ({ cls := .type "list", data := .seq ([] : List Value).toArray } : Obj) } :=
    I2.laid (t' := s2.toks) (fun _ _ e => Heap.get?_push_of_some _ e) (Nat.le_refl _) ⟨Nat.zero_le _, [], 0, .nil, Heap.get?_push_size _ rfl⟩
  have f3 : ∀ b ∈ fp, FpOk X pins (upd H2 s2.heap.objs.size (.lst [])) b ∧ b < (s2.heap.push ({ cls := .type "list", data := .seq ([] : List Value).toArray } : Obj)).objs.size := fun b hb => by
    obtain ⟨o, e, _⟩ := T.obj _ _ st2 b hb
    have lt := Heap.lt_size e
    obtain ⟨k0, k⟩ := f2 b hb
    exact ⟨⟨by rw [upd_ne (Nat.ne_of_lt lt)]; exact k0, k⟩, by rw [Heap.size_push]; exact Nat.lt_succ_of_lt lt⟩
  have st3 : tn 0 (s2.heap.push ({ cls := .type "list", data := .seq ([] : List Value).toArray } : Obj)) := T.keep _ _ _ st2 fun _ _ _ e => Heap.get?_push_of_some _ e
  generalize hD : s2.heap.objs.size = D at turn w0 I3 f3 ⊢
  generalize hH3 : upd H2 D (.lst []) = H3 at w0 I3 f3
  generalize hs3 : ({ s2 with heap := s2.heap.push ({ cls := .type "list", data := .seq ([] : List Value).toArray } : Obj) } : Shared) = s3 at I3 ⊢
  have h3 : s2.heap.push ({ cls := .type "list", data := .seq ([] : List Value).toArray } : Obj) = s3.heap := congrArg Shared.heap hs3
  rw [h3] at f3 st3
  have I4 := block_start I3 ok hN f3
  have cL : (compEnvC scope (cellsFrom (s3.heap.objs.size + 1) scope.names (cloFrom X.env.cells scope.names [])) s3.heap.objs.size X.env).locals = s3.heap.objs.size := rfl
  have cF : (compEnvC scope (cellsFrom (s3.heap.objs.size + 1) scope.names (cloFrom X.env.cells scope.names [])) s3.heap.objs.size X.env).frame = X.env.frame := rfl
  have pe := hE s3 H3 s3.heap.objs.size (cellsFrom (s3.heap.objs.size + 1) scope.names (cloFrom X.env.cells scope.names [])) fp _ (pass_blk I3 hs hf cL cF (fun b hb => (f3 b hb).1) tk)
  have pg := hG s3 H3 s3.heap.objs.size (cellsFrom (s3.heap.objs.size + 1) scope.names (cloFrom X.env.cells scope.names [])) fp
  have pt := hT s3 H3 s3.heap.objs.size (cellsFrom (s3.heap.objs.size + 1) scope.names (cloFrom X.env.cells scope.names [])) fp
  refine (?_ : codeAny (model X.prog X.w) X.A (.compStart (.ListComp elt [⟨tg, iter, ifs, 0⟩] scope pos) 0 (.ref it) (.ref D) (compEnvC scope (cellsFrom (s3.heap.objs.size + 1) scope.names (cloFrom X.env.cells scope.names [])) s3.heap.objs.size X.env))
    (compEnds (model X.prog X.w) X.A X.xe use Qf (.ref D) (compEnvC scope (cellsFrom (s3.heap.objs.size + 1) scope.names (cloFrom X.env.cells scope.names [])) s3.heap.objs.size X.env)) { s3 with heap := pushCells (s3.heap.push { cls := .type "dict", data := .dict #[] }) scope.names })
  generalize compEnvC scope (cellsFrom (s3.heap.objs.size + 1) scope.names (cloFrom X.env.cells scope.names [])) s3.heap.objs.size X.env = ce at I4 pe pg pt cL cF ⊢
  generalize hs4 : ({ s3 with heap := pushCells (s3.heap.push { cls := .type "dict", data := .dict #[] }) scope.names } : Shared) = s4 at I4 ⊢
  have st4 : tn 0 s4.heap := by
    rw [← hs4]
    exact T.keep _ _ _ st3 fun _ _ _ e => pushCells_keeps _ _ _ _ (Heap.get?_push_of_some _ e)
  have stat : ∀ {σ1 : L2.St} {H1 : Hp} {s1 : Shared}, Inv (X.blk s3 H3 scope ce fp) [] σ1 H1 s1 → (∀ b ∈ fp, H1 b = none) → ∀ b ∈ fp, FpOk (X.blk s3 H3 scope ce fp) [] H1 b := fun J z b hb =>
    ⟨z b hb, (J.ok.exf b hb).1, J.ok.exfs b hb, .inl hb, (J.ok.exf b hb).2, fun p hp => nomatch (show p ∈ ([] : List (Addr × Obj)) ++ [] from hp)⟩
  have loop : codeAny (model X.prog X.w) X.A (.compLoop (.ListComp elt [⟨tg, iter, ifs, 0⟩] scope pos) 0 (.ref it) (.ref D) ce) (compEnds (model X.prog X.w) X.A X.xe use Qf (.ref D) ce) s4 := by
    refine compLoop_any (fun n t => ∃ i G, Inv (X.blk s3 H3 scope ce fp) [] (wipe σ (own.map (·.2))) G t ∧ tn i t.heap ∧ (∀ b ∈ fp, G b = none) ∧ W i n G) ?_ m0 ⟨0, H3, I4, st4, fun b hb => (f3 b hb).1.1, w0⟩
    rintro n s5 ⟨i, G5, J5, t5, n5, w5⟩
    rcases turn i n G5 w5 with ⟨stop, qq⟩ | ⟨go, Nx, hNx, step⟩
    · refine anyE (T.done (X.blk s3 H3 scope ce fp) rfl rfl rfl hc i [] s5 _ G5 _ J5 (stat J5 n5) t5 stop) ?_
      rintro _ s6 ⟨rfl, J6⟩
      have K6 : Inv X pins σ G5 s6 := I3.call' (ch := fp) J6.os J6.base J6.hok J6.bare fun b hb => by
        obtain ⟨_, z1, _, z3, z4, z5⟩ := (f3 b hb).1
        exact ⟨z3, z1, z4, z5⟩
      obtain ⟨m, hn, _⟩ := id J6.loc
      exact fin D ce s6 m G5 K6 qq hn (I3.fpOk (b := ce.locals) (Nat.le_of_eq cL.symm) J6.free)
    · refine anyE (T.item (X.blk s3 H3 scope ce fp) rfl rfl rfl hc i [] s5 _ G5 _ J5 (stat J5 n5) t5 go) ?_
      rintro _ s6 ⟨u, rfl, h6⟩
      refine anyE h6 fun _ s7 ⟨x, G7, J7, r7, y7, t7, n7⟩ => ?_
      refine anyE (pg.run _ s7 _ G7 x u _ (J7.pinned (stat J7 n7) (T.obj _ _ t7)) r7 (step x G7 y7)) fun _ s8 ⟨σ8, G8, J8, hw8, q8⟩ => ?_
      refine anyE (pt.run _ s8 σ8 G8 _ J8 q8) fun b s9 ⟨G9, J9, q9⟩ => ?_
      have fin2 : ∀ {t : Shared} {G : Hp}, Inv (X.blk s3 H3 scope ce fp) ([] ++ pinsAt fp s7.heap) σ8 G t → Nx G → ∃ m, m < n ∧ ∃ i G, Inv (X.blk s3 H3 scope ce fp) [] (wipe σ (own.map (·.2))) G t ∧ tn i t.heap ∧ (∀ b ∈ fp, G b = none) ∧ W i m G := fun {t G} J nx => by
        obtain ⟨m1, lt1, w1⟩ := hNx G nx
        have pin : ∀ b ∈ fp, ∀ o, s7.heap.get? b = some o → t.heap.get? b = some o ∧ G b = none := fun b hb o e => by
          obtain ⟨p1, p2, _⟩ := J.pin (b, o) (List.mem_append_right _ (List.mem_append_right _ (mem_pinsAt hb e)))
          exact ⟨p1, p2⟩
        refine ⟨m1, lt1, i + 1, G, (J.unpinned (pins := [])).weak (by rw [← hw8, wipe_length]) (fun j v e => ?_), T.keep _ _ _ t7 fun b hb o e => (pin b hb o e).1, fun b hb => ?_, w1⟩
        · rw [← hw8] at e
          exact (wipe_some e).1
        · obtain ⟨o, e, _⟩ := T.obj _ _ t7 b hb
          exact (pin b hb o e).2
      cases b with
      | false =>
        rw [if_neg Bool.false_ne_true] at q9
        exact fin2 J9 q9
      | true =>
        rw [if_pos rfl] at q9
        refine wpAny_mono (pe.run _ s9 σ8 G9 _ (J9.wish _) q9) (fun z s10 ⟨v, G10, J10, r10, acc, hD10, hz10, nx⟩ => ?_) fun _ _ z => z
        exact app_ok (X := X.blk s3 H3 scope ce fp) J10.unwish hD10 hz10 r10 fun _ J11 => fin2 J11 nx
  exact codeAny_compStart_list loop (T.self X.A 0 _ _ _ st4 loop)
/-- as a value -/
theorem pe_lcX (hc : X.calm = true) (hN : X.N.Nodup) (hs : X.stack = X.env :: X.outer) (hf : X.env.frame = some X.env.locals) (tk : Takes X (fun c d _ H => E c d H)) (hi : PI X tg iter wi) (ok : BlkOk X.N X.env.scope scope own)
    (hG : ∀ (t : Shared) (G : Hp) (C : Addr) (cl : List (Str × Addr)) (fp : List Addr), PG (X.blk t G scope (compEnvC scope cl C X.env) fp) tg g)
    (hT : ∀ (t : Shared) (G : Hp) (C : Addr) (cl : List (Str × Addr)) (fp : List Addr), PTs (X.blk t G scope (compEnvC scope cl C X.env) fp) ifs tt)
    (hE : ∀ (t : Shared) (G : Hp) (C : Addr) (cl : List (Str × Addr)) (fp : List Addr) (F : Value → Shared → Prop), Passes (L2.CX X.prog X.w) ((X.blk t G scope (compEnvC scope cl C X.env) fp).wish F) E → PE ((X.blk t G scope (compEnvC scope cl C X.env) fp).wish F) elt te)
    (hset : ∀ x, foldedSetIterable iter X.env x = pure x := by intro _; rfl) : PE X (.ListComp elt [⟨tg, iter, ifs, 0⟩] scope pos) (tLc wi g tt te (own.map (·.2))) := by
  refine ⟨fun pins s σ H Q I h => ?_⟩
  rw [eval_ListComp]
  refine lcX_core (use := none) I hc hN hs hf tk hi ok hG hT hE hset h fun D ce t m G J q hn z => ⟨m, hn, fun _ sb => ?_⟩
  obtain ⟨z0, z1, _, z3, z4, z5⟩ := z
  exact ⟨.ref D, G, J.turned (t' := t.toks) (fun b o n e => (sb.2 b n).trans e) z0 z1 z3 z4 z5, rfl, q⟩
/-- y = [..] on one line -/
theorem ps_setLcX {i : Nat} {y : Str} {py spos : Pos} (hc : X.calm = true) (hN : X.N.Nodup) (hs : X.stack = X.env :: X.outer) (hf : X.env.frame = some X.env.locals) (tk : Takes X (fun c d _ H => E c d H)) (hy : X.N[i]? = some y) (hyl : X.env.scope.names.lookup y = some .local)
    (hsw : swapsWith (.ListComp elt [⟨tg, iter, ifs, 0⟩] scope pos) (some (.Name y py)) spos.line X.env = pure true) (hi : PI X tg iter wi)
    (ok : BlkOk X.N X.env.scope scope own)
    (hG : ∀ (t : Shared) (G : Hp) (C : Addr) (cl : List (Str × Addr)) (fp : List Addr), PG (X.blk t G scope (compEnvC scope cl C X.env) fp) tg g)
    (hT : ∀ (t : Shared) (G : Hp) (C : Addr) (cl : List (Str × Addr)) (fp : List Addr), PTs (X.blk t G scope (compEnvC scope cl C X.env) fp) ifs tt)
    (hE : ∀ (t : Shared) (G : Hp) (C : Addr) (cl : List (Str × Addr)) (fp : List Addr) (F : Value → Shared → Prop), Passes (L2.CX X.prog X.w) ((X.blk t G scope (compEnvC scope cl C X.env) fp).wish F) E → PE ((X.blk t G scope (compEnvC scope cl C X.env) fp).wish F) elt te)
    (hset : ∀ x, foldedSetIterable iter X.env x = pure x := by intro _; rfl) : PS X (.Assign [.Name y py] (.ListComp elt [⟨tg, iter, ifs, 0⟩] scope pos) spos) (tAsg (tLc wi g tt te (own.map (·.2))) (gName i)) := by
  refine ⟨fun pins s σ H D I h => ?_⟩
  rw [exec_Assign_Name_used _ _ _ _ hsw]
  refine wpAny_bind (wpAny_standAt (wpAny_bind ?_))
  refine (?_ : wpAny _ X.A (comprehension (.ListComp elt [⟨tg, iter, ifs, 0⟩] scope pos) scope X.env (firstIterPos [⟨tg, iter, ifs, 0⟩] pos) (newList []) false (eval iter X.env) (some (assign (.Name y py) X.env)) >>= fun _ => pure ()) _ _ s)
  refine wpAny_bind (thn (lcX_core (Q := fun x H1 => gName i x σ H1 D.nx) (use := some (assign (.Name y py) X.env)) (Qf := fun _ t => SP X pins D .next t) I hc hN hs hf tk hi ok hG hT hE hset h fun L ce t m G J q hn z => ?_) fun _ _ z => wpAny_pure (wpAny_pure z))
  refine (?_ : wpAny _ _ (assign (.Name y py) X.env (.ref L)) _ _ _)
  refine wpAny_assign_Name (store_ok2 (v := V.ref L) J hN hy (.inl hyl) rfl (fun t2 J2 ⟨a, sb, ha⟩ => ?_) (.inr hyl))
  obtain ⟨z0, z1, _, z3, z4, z5⟩ := z
  have nC : ce.locals ≠ a := by
    rcases ha with e | e
    · rw [e]
      exact z1
    · exact fun e2 => z4 y a e e2.symm
  exact ⟨m, hn.sameBut sb nC, fun _ sb3 => ⟨_, G, J2.turned (t' := t2.toks) (fun b o n e => (sb3.2 b n).trans e) z0 z1 z3 z4 z5, q⟩⟩
end
end Ex

set_option Elab.async false
set_option linter.all false
set_option maxRecDepth 100000
set_option maxHeartbeats 800000
set_option pp.maxSteps 900
/-! a method with keywords that may raise, within a comprehension's block -/
namespace Ex
open PySem PySem.Spec PySem.Calls PyProof.Rows L2 Gu
section
variable {X : Cx} {k j : Nat} {c m : Str} {ps ks : List Str} {sp : Sp} {pos apos : Pos} {e o : Expr} {es : List Expr} {kws : List Keyword} {t tk : TA} {ta : TE} {E : XK}
theorem pmethKXB {pl : Sem Bool} {n : Nat} (K : PySem.W.Frag) (D : MfKX X.prog X.w X.K X.mg X.base k c m ps n ks sp) (hr : Room j X.A) (px : Passes (L2.CX X.prog X.w) X E) (he : PE X o ta) (ha : PA X (e :: es) t) (hkw : PK X kws tk) (hj : k ≤ j := by decide) (hK : X.K = K := by rfl)
    (hst : starEach (e :: es) X.env = (false, eval e X.env) :: starEach es X.env := by rfl)
    (hall : (backToKw pos (keywordEach kws X.env)).all (·.1.isSome) = true := by rfl) (hks : (backToKw pos (keywordEach kws X.env)).filterMap (·.1) = ks := by rfl)
    (hpl : ((backTo pos (starEach (e :: es) X.env)).any (·.1) || (backToKw pos (keywordEach kws X.env)).any (·.1.isNone)) = false := by rfl)
    (ht : eval (.Call (.Attribute o m apos) (e :: es) kws pos) X.env = (do
      let ov ← eval o X.env
      standAt apos.atName
      let (f, first) ← holding [ov] (getMethod ov m pl)
      callWith pos f first (backTo pos (starEach (e :: es) X.env)) (backToKw pos (keywordEach kws X.env))) := by rfl) :
    PE X (.Call (.Attribute o m apos) (e :: es) kws pos) (tMethKX (He.ga K c) m sp n ks.length E ta t tk) := by
  subst hK
  exact pmethKX D hr px he ha hkw hj hst hall hks hpl ht
end
end Ex
namespace K26
open PySem PySem.Spec PyProof.Rows L2 Gu Ex
section
variable {P : Program} {w : World} {K : PySem.W.Frag} {mg : Str → Option Value} {base : Heap} {f : Addr} {fd : FuncData}
/-- largest of no numbers -/
def spLargeR (K : PySem.W.Frag) : Sp := fun vs H Q E => ∃ (y zp bl dx : Addr) (ps : List Addr) (ns : List Int) (n : Int) (bs : List Blk) (v : V) (pos : Nat), vs = [.ref y, v] ∧ Ly K H y zp bl dx ps ns n bs ∧ NumBad H v pos ∧ Raised K "InvalidNumbers" "position" (.int pos) H E
theorem ok_largeR {z0 : Addr} (T : Tx K mg) (M_len : Mf P w K mg base 1 "Sizes" "__len__" ["self"] (spLen K)) (M_slack_kw : MfKX P w K mg base 10 "Layout" "slack" ["self", "level", "kept"] 2 ["kept"] (spSlackN K)) (M_size : Mf P w K mg base 5 "Sizes" "size" ["self", "level"] (spSize K))
    (F : FnK K "largest" "Layout.largest" (inClass (top 31) 29) [("kept", .ref z0)] f fd) : FnOk P w K mg base (L2.CX P w) 11 f fd ["self", "kept"] (spLargeR K) := by
  refine F.ok sc_largest (fun vs H Q E h => ?_) (fun cdv A outer s H vs Q E hr h => ⟨_, (pss_cons (ps_setLcX (E := E) (i := 2) (own := [("level", 3)]) (g := gName 3) rfl sc_largest.nd rfl rfl (takes_of (E := E) rfl rfl rfl rfl) rfl rfl (sw_true rfl rfl rfl (by decide +kernel)) (pi_range1 rfl T.n_range (pa_cons (pe_callB (call_lenO M_len hr) (by rfl) T.n_len (by decide +kernel) (pa_cons (pe_fld (pv 0) rfl) pa_nil)) pa_nil)) (blkOk_by (own := [("level", 3)]) (N := ["self", "kept", "most", "level"]) (sc := defScope (inClass (top 31) 29)) (by decide +kernel)) (fun _ _ _ _ _ => pg_name (i := 3) sc_largest.nd rfl (Or.inl rfl)) (fun _ _ _ _ _ => pts_nil) (fun _ _ _ _ _ _ px => (pe_op op_sub (pe_op op_add (pmethKXB K M_slack_kw hr px (pv 0) (pa_cons (pv 3) pa_nil) (pk_cons (pv 1) pk_nil)) (pmethB K M_size hr (pfldB K (pv 0)) (pa_cons (pv 3) pa_nil))) pe_int))) (pss_one (ps_ret (pe_callB (call_max2 rfl) (by rfl) T.n_max (by decide +kernel) (pa_cons pe_int (pa_cons (pe_callB (cr_min rfl) (by rfl) T.n_min (by decide +kernel) (pa_cons (pv 2) pa_nil)) pa_nil)))))), ?_⟩)
  · obtain ⟨y, zp, bl, dx, ps, ns, n, bs, v, pos, rfl, _⟩ := h
    rfl
  · obtain ⟨y, zp, bl, dx, ps, ns, n, bs, v, pos, rfl, L, bad, q⟩ := h
    have sl : sizeLine = 16777216 := sizeLine_eq
    obtain ⟨dz, l, z1, z2⟩ := id L.szs
    have l8 := L.gd.len
    refine ⟨_, rfl, y, _, dx, _, _, rfl, L.at_, T.ly, T.nST, lay_st .., zp, dz, _, rfl, z1, zp, ns, rfl, L.szs, ns.length, rfl, by omega, _, rfl, by omega, by omega, fun D hD => ?_⟩
    refine lc_range (fun i G => i = 0 ∧ Same H G) ⟨rfl, same_upd hD⟩ ?_ ?_
    · rintro i G hi ⟨rfl, sm⟩
      have LG := L.same sm
      refine ⟨rfl, _, rfl, y, dx, _, rfl, LG.at_, lay_nm (by decide +kernel), _, rfl, _, rfl, rfl, rfl, y, zp, bl, dx, ps, ns, n, bs, 0, v, pos, rfl, LG, by omega, bad.same sm, q.same sm⟩
    · rintro G ⟨h0, _⟩
      rw [Int.toNat_natCast] at h0
      omega
end
end K26

set_option Elab.async false
set_option linter.all false
set_option maxRecDepth 100000
set_option maxHeartbeats 4000000
/-! Own layer: methods def m(self, *v, k = d) that may raise: called by position, with or without the keyword. -/
namespace Ex
open PySem PySem.Spec PySem.Calls PyProof.Rows L2 Gu
/-- the promise, over self, the keyword's value, the new tuple of what was written -/
def StarW (sp : Sp) (y kv : V) (rest : List V) (H : Hp) (Q : VK) (E : XK) : Prop := rest.length ≤ sizeLine ∧ ∀ p, H p = none → sp [y, kv, .ref p] (upd H p (.tup rest)) Q E
structure MfS (P : Program) (w : World) (K : PySem.W.Frag) (mg : Str → Option Value) (base : Heap) (k : Nat) (c m kn : Str) (dv : V) (sp : Sp) : Prop where
  run : ∀ (A : Around) (outer : List Env) (s : Shared) (H : Hp) (u r : Value) (rs : List Value) (vy vr : V) (vrs : List V) (Q : VK) (E : XK), Room k A → Env0 P w K mg base A outer s H → RelV vy u → Vals (vr :: vrs) (r :: rs) → StarW sp vy dv (vr :: vrs) H Q E →
    codeAny (model P w) A (.call (.ref (He.ma K (He.ga K c) m)) ⟨u :: r :: rs, []⟩) (CR (L2.CX P w) outer P w H s Q E) s
  runK : ∀ (A : Around) (outer : List Env) (s : Shared) (H : Hp) (u r z : Value) (rs : List Value) (vy vr vz : V) (vrs : List V) (Q : VK) (E : XK), Room k A → Env0 P w K mg base A outer s H → RelV vy u → RelV vz z → Vals (vr :: vrs) (r :: rs) → StarW sp vy vz (vr :: vrs) H Q E →
    codeAny (model P w) A (.call (.ref (He.ma K (He.ga K c) m)) ⟨u :: r :: rs, [(kn, z)]⟩) (CR (L2.CX P w) outer P w H s Q E) s
  cl : Cls K (He.ga K c)
  me : Meth K (He.ga K c) m (He.ma K (He.ga K c) m)
section
variable {P : Program} {w : World} {K : PySem.W.Frag} {mg : Str → Option Value} {base : Heap} {k : Nat} {f : Addr} {x qual p0 kn pv : Str} {params : Arguments} {body : List Stmt} {scope : Scope} {dv : V} {fd : FuncData} {N : List Str} {sp : Sp}
/-- by its body -/
theorem star_run (F : FunD K x qual params body scope [] [(kn, dv)] f fd) (S : FnScope N [p0, kn, pv] scope)
    (hb0 : ∀ (D : Addr) (doc pm : Value) (an : Option Addr) (cdv ct u d r : Value) (rs : List Value), ∃ (β γ : Type) (k1 : Option Value → Sem β) (k2 : β → Sem γ) (k3 : γ → Sem (List (Str × Value))) (a : β),
      bindArgs (PySem.W.fnOf x qual params body scope .none (.ref D) doc pm an cdv ct) ⟨u :: r :: rs, []⟩ = ((nsGet D kn >>= k1) >>= k2) >>= k3 ∧ k1 (some d) = pure a ∧ (k2 a >>= k3) = (newTuple (r :: rs) >>= fun t => pure [(p0, u), (kn, d), (pv, t)]))
    (hbK : ∀ (D : Addr) (doc pm : Value) (an : Option Addr) (cdv ct u z r : Value) (rs : List Value), bindArgs (PySem.W.fnOf x qual params body scope .none (.ref D) doc pm an cdv ct) ⟨u :: r :: rs, [(kn, z)]⟩ = (newTuple (r :: rs) >>= fun t => pure [(p0, u), (kn, z), (pv, t)]))
    (hbody : ∀ (cdv : Value) (A : Around) (outer : List Env) (s : Shared) (H : Hp) (vs : List V) (Q : VK) (E : XK), Room k (A.deeper (envOfC qual scope s.heap.objs.size f cdv)) → sp vs H Q E →
      ∃ t, PSs (cxOf (L2.CX P w) P w K mg base N qual scope f cdv A outer s H E) body t ∧ t { nx := fun _ H' => Q .non H', rt := Q } (start N vs) H) :
    (∀ (A : Around) (outer : List Env) (s : Shared) (H : Hp) (u r : Value) (rs : List Value) (vy vr : V) (vrs : List V) (Q : VK) (E : XK), Room (k + 1) A → Env0 P w K mg base A outer s H → RelV vy u → Vals (vr :: vrs) (r :: rs) → StarW sp vy dv (vr :: vrs) H Q E →
      codeAny (model P w) A (.call (.ref f) ⟨u :: r :: rs, []⟩) (CR (L2.CX P w) outer P w H s Q E) s) ∧
    ∀ (A : Around) (outer : List Env) (s : Shared) (H : Hp) (u r z : Value) (rs : List Value) (vy vr vz : V) (vrs : List V) (Q : VK) (E : XK), Room (k + 1) A → Env0 P w K mg base A outer s H → RelV vy u → RelV vz z → Vals (vr :: vrs) (r :: rs) → StarW sp vy vz (vr :: vrs) H Q E →
      codeAny (model P w) A (.call (.ref f) ⟨u :: r :: rs, [(kn, z)]⟩) (CR (L2.CX P w) outer P w H s Q E) s := by
  obtain ⟨oc, od, dV, kV, doc, pm, an, cdv, ct, osl, rfl, lk, hcd, hD, hK⟩ := F.ex
  have eD : dV = .none := by
    rcases hD with ⟨_, e⟩ | ⟨e, _⟩
    · exact e
    · exact absurd rfl e
  obtain ⟨D, eK, hq⟩ : ∃ D : Addr, kV = .ref D ∧ ∀ q ∈ [(kn, dv)], ∃ u, PySem.W.nsIn K D q.1 = some (some u) ∧ RelV q.2 u := by
    rcases hK with e | e
    · cases e
    · exact e
  subst eD eK
  obtain ⟨du, hdu, rdu⟩ := hq _ List.mem_cons_self
  have main : ∀ (A : Around) (outer : List Env) (s : Shared) (H : Hp) (u r z : Value) (rs : List Value) (vy vr vz : V) (vrs : List V) (Q : VK) (E : XK) (args : Args), Room (k + 1) A → Env0 P w K mg base A outer s H → RelV vy u → RelV vz z → Vals (vr :: vrs) (r :: rs) → StarW sp vy vz (vr :: vrs) H Q E →
      (∀ (A' : Around) (Ex : Value → Shared → Prop) (Q' : List (Str × Value) → Shared → Prop), wpAny (model P w) A' (newTuple (r :: rs)) (fun t s' => Q' [(p0, u), (kn, z), (pv, t)] s') Ex s → wpAny (model P w) A' (bindArgs (PySem.W.fnOf x qual params body scope .none (.ref D) doc pm an cdv ct) args) Q' Ex s) →
      codeAny (model P w) A (.call (.ref f) args) (CR (L2.CX P w) outer P w H s Q E) s := by
    intro A outer s H u r z rs vy vr vz vrs Q E args hr e0 ry rz rv ⟨hz, hq⟩ hba
    have hn : H s.heap.objs.size = none := e0.hok.fresh (Nat.le_refl _)
    have hl2 : (r :: rs).length ≤ sizeLine := by
      rw [← rv.length]
      exact hz
    refine StX.run_bnd lk hcd S hr e0 (G := fun xs H2 => ∃ p, H p = none ∧ xs = [vy, vz, .ref p] ∧ H2 = upd H p (.tup (vr :: vrs))) (fun A' Ex Q' h => hba _ _ _ (wpAny_newTuple ?_ hl2)) fun s2 H2 xs ⟨p, hp, ex, eH⟩ hr' => ?_
    · have un := StX.un_laid (fs := frs outer) (s := s) (o := ({ cls := .type "tuple", data := .seq (r :: rs).toArray } : Obj)) (u := .tup (vr :: vrs)) hn
      have new : ObjOk P w (upd H s.heap.objs.size (.tup (vr :: vrs))) (s.heap.push ({ cls := .type "tuple", data := .seq (r :: rs).toArray } : Obj)) s.heap.objs.size (.tup (vr :: vrs)) := ⟨hz, r :: rs, rv, ⟨_, Heap.get?_push_size _ rfl, rfl, _, rfl⟩⟩
      exact h _ _ [vy, vz, .ref s.heap.objs.size] [u, z, .ref s.heap.objs.size] (StX.env0_laid e0 new) un rfl (fun e s' => StX.cxUp outer s H _ _ E e s' un (fun b o q => Heap.get?_push_of_some _ q) rfl) (.cons ry (.cons rz (.cons rfl .nil))) rfl ⟨_, hn, rfl, rfl⟩
    · subst ex eH
      exact hbody cdv A outer s2 _ _ Q E hr' (hq p hp)
  refine ⟨fun A outer s H u r rs vy vr vrs Q E hr e0 ry rv hq => main A outer s H u r du rs vy vr dv vrs Q E _ hr e0 ry rdu rv hq fun A' Ex Q' h => ?_, fun A outer s H u r z rs vy vr vz vrs Q E hr e0 ry rz rv hq => main A outer s H u r z rs vy vr vz vrs Q E _ hr e0 ry rz rv hq fun A' Ex Q' h => ?_⟩
  · obtain ⟨β, γ, k1, k2, k3, a, e1, e2, e3⟩ := hb0 D doc pm an cdv ct u du r rs
    have KX : K.In s.heap := e0.mod.kin.keeps fun b o e => (e0.bs b o e).1
    have l1 : PySem.W.Looks (model P w) s.heap (nsGet D kn >>= k1) a := (PySem.W.looks_nsIn KX hdu).andThen (PySem.W.Looks.of_pure e2)
    rw [e1, bind_assoc]
    refine wpAny_bind (l1.here ?_)
    rw [e3]
    exact wpAny_bind (wpAny_mono h (fun _ _ z => wpAny_pure z) fun _ _ z => z)
  · rw [hbK]
    exact wpAny_bind (wpAny_mono h (fun _ _ z => wpAny_pure z) fun _ _ z => z)
end
/-- o.m(e, ..) -/
def tMethS (C : Addr) (m : Str) (sp : Sp) (dv : V) (E : XK) (ta : TE) (t : TA) : TE := fun σ H Q => ta σ H fun x H1 => ∃ a dx fs, x = .ref a ∧ H1 a = some (.ins C dx fs) ∧ fs.lookup m = none ∧ t σ H1 fun vs H2 => ∃ y ys, vs = y :: ys ∧ StarW sp x dv (y :: ys) H2 Q E
/-- o.m(e, .., k = v) -/
def tMethSK (C : Addr) (m : Str) (sp : Sp) (E : XK) (ta : TE) (t tk : TA) : TE := fun σ H Q => ta σ H fun x H1 => ∃ a dx fs, x = .ref a ∧ H1 a = some (.ins C dx fs) ∧ fs.lookup m = none ∧ t σ H1 fun vs H2 => tk σ H2 fun zs H3 => ∃ y ys z, vs = y :: ys ∧ zs = [z] ∧ StarW sp x z (y :: ys) H3 Q E
section
variable {X : Cx} {k j : Nat} {c m kn : Str} {dv : V} {sp : Sp} {pos apos : Pos} {e o : Expr} {es : List Expr} {kws : List Keyword} {t tk : TA} {ta : TE} {E : XK}
theorem pmethS {pl : Sem Bool} (D : MfS X.prog X.w X.K X.mg X.base k c m kn dv sp) (hr : Room j X.A) (px : Passes (L2.CX X.prog X.w) X E) (he : PE X o ta) (ha : PA X (e :: es) t) (hj : k ≤ j := by decide)
    (hst : starEach (e :: es) X.env = (false, eval e X.env) :: starEach es X.env := by rfl) (hpl : (backTo pos (starEach es X.env)).any (·.1) = false := by rfl)
    (ht : eval (.Call (.Attribute o m apos) (e :: es) [] pos) X.env = (do
      let ov ← eval o X.env
      standAt apos.atName
      let (f, first) ← holding [ov] (getMethod ov m pl)
      callWith pos f first (backTo pos (starEach (e :: es) X.env)) (backToKw pos (keywordEach [] X.env))) := by rfl) :
    PE X (.Call (.Attribute o m apos) (e :: es) [] pos) (tMethS (He.ga X.K c) m sp dv E ta t) := by
  refine ⟨fun pins s σ H Q I h => PySem.W.methodCall_KW (pl := pl) (thn (he.run pins s σ H _ I h) fun u s1 ⟨x, H1, I1, rx, a, dx, fs, ex, ea, l, q⟩ => ?_) ht⟩
  subst ex
  obtain rfl : u = Value.ref a := rx
  refine getmeth_ok I1 ea D.cl D.me l (PySem.W.callWith_K (first := [.ref a]) (h₀ := X.base) I.ok.mod.kin D.me.kp (thn (ha.run pos pins s1 σ H1 _ I1 q) fun us s2 ⟨vs, H2, I2, r, y, ys, ev, q2⟩ => ⟨I2.kIn, ?_⟩) hst hpl)
  subst ev
  cases r with
  | cons r0 rr =>
    refine wpAny_call (codeAny_mono (D.run X.A X.stack s2 H2 (.ref a) _ _ (.ref a) y ys Q E (hr.mono hj) I2.env0 rfl (.cons r0 rr) q2) fun r s' hq => ?_)
    match r, hq with
    | .error e, hq => exact px pins σ H2 s2 e s' I2 hq
    | .ok (.ret u), hq => exact I2.after hq
theorem pmethSK {pl : Sem Bool} (D : MfS X.prog X.w X.K X.mg X.base k c m kn dv sp) (hr : Room j X.A) (px : Passes (L2.CX X.prog X.w) X E) (he : PE X o ta) (ha : PA X (e :: es) t) (hkw : PK X kws tk) (hj : k ≤ j := by decide)
    (hst : starEach (e :: es) X.env = (false, eval e X.env) :: starEach es X.env := by rfl)
    (hall : (backToKw pos (keywordEach kws X.env)).all (·.1.isSome) = true := by rfl) (hks : (backToKw pos (keywordEach kws X.env)).filterMap (·.1) = [kn] := by rfl)
    (hpl : ((backTo pos (starEach (e :: es) X.env)).any (·.1) || (backToKw pos (keywordEach kws X.env)).any (·.1.isNone)) = false := by rfl)
    (ht : eval (.Call (.Attribute o m apos) (e :: es) kws pos) X.env = (do
      let ov ← eval o X.env
      standAt apos.atName
      let (f, first) ← holding [ov] (getMethod ov m pl)
      callWith pos f first (backTo pos (starEach (e :: es) X.env)) (backToKw pos (keywordEach kws X.env))) := by rfl) :
    PE X (.Call (.Attribute o m apos) (e :: es) kws pos) (tMethSK (He.ga X.K c) m sp E ta t tk) := by
  refine ⟨fun pins s σ H Q I h => PySem.W.methodCall_KW (pl := pl) (thn (he.run pins s σ H _ I h) fun u s1 ⟨x, H1, I1, rx, a, dx, fs, ex, ea, l, q⟩ => ?_) ht⟩
  subst ex
  obtain rfl : u = Value.ref a := rx
  refine getmeth_ok I1 ea D.cl D.me l ?_
  refine PySem.W.callWith_KW (first := [.ref a]) (h₀ := X.base) I.ok.mod.kin D.me.kp hall (thn (ha.run pos pins s1 σ H1 _ I1 q) fun us s2 ⟨vs, H2, I2, r, q2⟩ => thn (hkw.run pos pins s2 σ H2 _ I2 q2) fun ws s3 ⟨zs, H3, I3, rz, y, ys, z, ev, ez, q3⟩ => ⟨I3.kIn, ?_⟩) hpl hst
  subst ev ez
  rw [hks]
  cases r with
  | cons r0 rr =>
    cases rz with
    | cons z0 zr =>
      cases zr
      refine wpAny_call (codeAny_mono (D.runK X.A X.stack s3 H3 (.ref a) _ _ _ (.ref a) y z ys Q E (hr.mono hj) I3.env0 rfl z0 (.cons r0 rr) q3) fun r s' hq => ?_)
      match r, hq with
      | .error e, hq => exact px pins σ H3 s3 e s' I3 hq
      | .ok (.ret u), hq => exact I3.after hq
end
end Ex

set_option Elab.async false
set_option linter.all false
set_option maxRecDepth 100000
set_option maxHeartbeats 800000
set_option pp.maxSteps 900
namespace K26
open PySem PySem.Spec PyProof.Rows L2 Gu Ex
section
variable {P : Program} {w : World} {K : PySem.W.Frag} {mg : Str → Option Value} {base : Heap} {f : Addr} {fd : FuncData}
def spFits (K : PySem.W.Frag) : Sp := fun vs H Q _ => ∃ (y zp bl dx : Addr) (ps : List Addr) (ns : List Int) (n : Int) (bs : List Blk) (a p : Addr) (cs ds : List Int), vs = [.ref y, .ref a, .ref p] ∧ Ly K H y zp bl dx ps ns n bs ∧ H p = some (.tup (cs.map V.int)) ∧ (∀ c ∈ cs, 1 ≤ c ∧ c ≤ 1000000000000) ∧
  Kept K H a ds ∧ (∀ c ∈ ds, 1 ≤ c ∧ c ≤ 1000000000000) ∧ cs.length + ds.length ≤ 1000 ∧ ∀ H', Same H H' → Q (.bl (decide (shV ns n bs (cs ++ ds) = .non))) H'
/-- the first number that is none, or numbers that are none -/
def spFitsR (K : PySem.W.Frag) : Sp := fun vs H Q E => ∃ (y zp bl dx : Addr) (ps : List Addr) (ns : List Int) (n : Int) (bs : List Blk) (kv : V) (p : Addr) (rest : List V), vs = [.ref y, kv, .ref p] ∧ Ly K H y zp bl dx ps ns n bs ∧ H p = some (.tup rest) ∧
  ((∃ pos v, rest[pos]? = some v ∧ cellsB v = false ∧ (∀ (j : Nat) (z : V), j ≤ pos → rest[j]? = some z → Any H z) ∧ (∀ (j : Nat) (z : V), j < pos → rest[j]? = some z → cellsB z = true) ∧ Raised K "InvalidNumber" "value" v H E) ∨
   ((∀ (j : Nat) (z : V), rest[j]? = some z → Any H z ∧ cellsB z = true) ∧ ∃ pos : Nat, NumBad H kv pos ∧ Raised K "InvalidNumbers" "position" (.int pos) H E))
theorem sc_fits : FnScope ["self", "kept", "numbers", "cells"] ["self", "kept", "numbers"] (defScope (inClass (top 31) 28)) := ⟨rfl, rfl, rfl, by decide +kernel, rfl, by decide +kernel, by decide +kernel⟩
theorem ok_fits {z0 : Addr} (T : Tx K mg) (D_check_cells : DfX P w K mg base 4 "check_cells" ["value"] (spCheckC K)) (D_check_numbers : Df P w K mg base 3 "check_numbers" ["value"] (spNums K)) (M_short_level : Mf P w K mg base 11 "Layout" "short_level" ["self", "numbers"] (spShort K))
    (cl : Cls K (He.ga K "Layout")) (me : Meth K (He.ga K "Layout") "fits" (He.ma K (He.ga K "Layout") "fits")) (F : FnK K "fits" "Layout.fits" (inClass (top 31) 28) [("kept", .ref z0)] (He.ma K (He.ga K "Layout") "fits") fd) : MfS P w K mg base 12 "Layout" "fits" "kept" (.ref z0) (spFits K) := by
  refine (fun z => MfS.mk z.1 z.2 cl me) (star_run (P := P) (w := w) (mg := mg) (base := base) (k := 11) (sp := spFits K) F sc_fits (fun _ _ _ _ _ _ _ _ _ _ => ⟨_, _, _, _, _, _, rfl, rfl, rfl⟩) (fun _ _ _ _ _ _ _ _ _ _ => rfl) (fun cdv A outer s H vs Q E hr h => ⟨_, (pss_cons (ps_for (passes_of rfl) rfl (pi_tup (pv 2)) (pg_name (i := 3) sc_fits.nd rfl (by first | exact Or.inl rfl | exact Or.inr rfl)) (pss_one (ps_expr (pcallX D_check_cells hr (passX (takes_of (E := E) rfl rfl rfl rfl)) (pa_cons (pv 3) pa_nil))))) (pss_cons (ps_expr (pcall D_check_numbers hr (pa_cons (pv 1) pa_nil))) (pss_one (ps_ret (pe_cmpR op_isN (pmeth M_short_level hr (pv 0) (pa_cons (pe_lst (StX.pa_star (pv 2) (StX.pa_star (pv 1) pa_nil))) pa_nil)) pe_non (nomark _)))))), ?_⟩))
  · obtain ⟨y, zp, bl, dx, ps, ns, n, bs, a, p, cs, ds, rfl, L, hp, rg, kp, rg2, hl, q⟩ := h
    have sl : sizeLine = 16777216 := sizeLine_eq
    refine ⟨_, rfl, p, rfl, ⟨_, SqT.of hp⟩, ?_⟩
    refine for_tup (xs := cs.map V.int) (fun i σ G => G = H ∧ (∃ x, σ = [some (.ref y), some (.ref a), some (.ref p), x])) ⟨rfl, ⟨_, rfl⟩⟩ (fun i σ G _ z => by rw [z.1]; exact SqT.of hp) ?_ ?_
    · rintro i x σ G hx ⟨rfl, ⟨x0, rfl⟩⟩
      rw [List.getElem?_map] at hx
      obtain ⟨c, e1, rfl⟩ := Option.map_eq_some_iff.mp hx
      have r := rg c (List.mem_of_getElem? e1)
      have ok : cellsB (.int c) = true := decide_eq_true r
      exact ⟨_, rfl, _, rfl, .int c, fun _ => ⟨rfl, ⟨_, rfl⟩⟩, fun e => by
        rw [ok] at e
        cases e⟩
    · rintro σ G ⟨rfl, ⟨x0, rfl⟩⟩
      refine ⟨_, rfl, a, ds, rfl, kp, rg2, fun H1 s1 => ?_⟩
      have L1 := L.same s1
      refine ⟨_, rfl, y, dx, _, rfl, L1.at_, lay_nm (by decide +kernel), _, rfl, p, _, rfl, .inl (SqT.of (s1 _ _ hp)), _, rfl, a, ds.map V.int, rfl, ?_, ?_⟩
      · rcases (kp.same s1).seq with ⟨z, _⟩ | ⟨z, _⟩
        · exact .inr z
        · exact .inl z
      · refine ⟨(by rw [List.append_nil, List.length_append, List.length_map, List.length_map]; omega), fun M hM => ?_⟩
        have sM := s1.trans (same_upd (o := .lst ((cs ++ ds).map V.int)) hM)
        have eM : (upd H1 M (.lst (cs.map V.int ++ (ds.map V.int ++ [])))) = upd H1 M (.lst ((cs ++ ds).map V.int)) := by rw [List.append_nil, List.map_append]
        rw [eM]
        refine ⟨y, zp, bl, dx, ps, ns, n, bs, M, cs ++ ds, rfl, L.same sM, .lst upd_same, fun c hc => ?_, by rw [List.length_append]; exact hl, fun H2 s2 => ⟨rfl, q H2 (sM.trans s2)⟩⟩
        rcases List.mem_append.mp hc with z | z
        · exact rg c z
        · exact rg2 c z
theorem ok_fitsR {z0 : Addr} (T : Tx K mg) (D_check_cells : DfX P w K mg base 4 "check_cells" ["value"] (spCheckC K)) (D_check_numbers : DfX P w K mg base 3 "check_numbers" ["value"] (spNumsR K)) (M_short_level : Mf P w K mg base 11 "Layout" "short_level" ["self", "numbers"] (spShort K))
    (cl : Cls K (He.ga K "Layout")) (me : Meth K (He.ga K "Layout") "fits" (He.ma K (He.ga K "Layout") "fits")) (F : FnK K "fits" "Layout.fits" (inClass (top 31) 28) [("kept", .ref z0)] (He.ma K (He.ga K "Layout") "fits") fd) : MfS P w K mg base 12 "Layout" "fits" "kept" (.ref z0) (spFitsR K) := by
  refine (fun z => MfS.mk z.1 z.2 cl me) (star_run (P := P) (w := w) (mg := mg) (base := base) (k := 11) (sp := spFitsR K) F sc_fits (fun _ _ _ _ _ _ _ _ _ _ => ⟨_, _, _, _, _, _, rfl, rfl, rfl⟩) (fun _ _ _ _ _ _ _ _ _ _ => rfl) (fun cdv A outer s H vs Q E hr h => ⟨_, (pss_cons (ps_for (passes_of rfl) rfl (pi_tup (pv 2)) (pg_name (i := 3) sc_fits.nd rfl (by first | exact Or.inl rfl | exact Or.inr rfl)) (pss_one (ps_expr (pcallX D_check_cells hr (passX (takes_of (E := E) rfl rfl rfl rfl)) (pa_cons (pv 3) pa_nil))))) (pss_cons (ps_expr (pcallX D_check_numbers hr (passX (takes_of (E := E) rfl rfl rfl rfl)) (pa_cons (pv 1) pa_nil))) (pss_one (ps_ret (pe_cmpR op_isN (pmeth M_short_level hr (pv 0) (pa_cons (pe_lst (StX.pa_star (pv 2) (StX.pa_star (pv 1) pa_nil))) pa_nil)) pe_non (nomark _)))))), ?_⟩))
  · obtain ⟨y, zp, bl, dx, ps, ns, n, bs, kv, p, rest, rfl, L, hp, h⟩ := h
    refine ⟨_, rfl, p, rfl, ⟨_, SqT.of hp⟩, ?_⟩
    refine for_tup (xs := rest) (fun i σ G => G = H ∧ (∃ x, σ = [some (.ref y), some kv, some (.ref p), x]) ∧ ((∃ pos v, i ≤ pos ∧ rest[pos]? = some v ∧ cellsB v = false ∧ (∀ (j : Nat) (z : V), j ≤ pos → rest[j]? = some z → Any H z) ∧ (∀ (j : Nat) (z : V), j < pos → rest[j]? = some z → cellsB z = true) ∧ Raised K "InvalidNumber" "value" v H E) ∨
      ((∀ (j : Nat) (z : V), rest[j]? = some z → Any H z ∧ cellsB z = true) ∧ ∃ pos : Nat, NumBad H kv pos ∧ Raised K "InvalidNumbers" "position" (.int pos) H E))) ⟨rfl, ⟨_, rfl⟩, h.imp (fun ⟨pos, v, z⟩ => ⟨pos, v, Nat.zero_le _, z⟩) id⟩ (fun i σ G _ z => by rw [z.1]; exact SqT.of hp) ?_ ?_
    · rintro i x σ G hx ⟨rfl, ⟨x0, rfl⟩, hh⟩
      rcases hh with ⟨pos, v, ip, e1, e2, e3, e4, e5⟩ | ⟨all, e⟩
      · refine ⟨_, rfl, x, rfl, e3 i x ip hx, fun e => ?_, fun e => ?_⟩
        · exact ⟨rfl, ⟨_, rfl⟩, .inl ⟨pos, v, by
            by_cases ei : i = pos
            · subst ei
              rw [hx] at e1
              cases e1
              rw [e] at e2
              cases e2
            · omega, e1, e2, e3, e4, e5⟩⟩
        · have ei : i = pos := by
            by_cases lt : i < pos
            · rw [e4 i x lt hx] at e
              cases e
            · omega
          subst ei
          rw [hx] at e1
          cases e1
          exact e5
      · exact ⟨_, rfl, x, rfl, (all i x hx).1, fun _ => ⟨rfl, ⟨_, rfl⟩, .inr ⟨all, e⟩⟩, fun e2 => by
          rw [(all i x hx).2] at e2
          cases e2⟩
    · rintro σ G ⟨rfl, ⟨x0, rfl⟩, hh⟩
      rcases hh with ⟨pos, v, ip, e1, _⟩ | ⟨all, pos, bad, ra⟩
      · have := (List.getElem?_eq_some_iff.mp e1).1
        omega
      · exact ⟨_, rfl, kv, pos, rfl, bad, ra⟩
end
end K26

set_option Elab.async false
set_option linter.all false
set_option maxRecDepth 100000
set_option maxHeartbeats 800000
set_option pp.maxSteps 900
namespace K26
open PySem PySem.Spec PyProof.Rows L2 Gu Ex LamX
theorem tabs_one1 {Pt : Nat → Addr} (inj : Inj5 Pt) : ∀ p ∈ tabs Pt, p.1 = Pt 1 → p.2 = "_law_number_calls.<locals>.<lambda>" := fun p hp e => by
  simp only [tabs, List.mem_cons, List.not_mem_nil, or_false] at hp
  rcases hp with rfl | rfl | rfl | rfl | rfl
  · exact absurd (inj 0 1 (by decide) (by decide) e) (by decide)
  · rfl
  · exact absurd (inj 2 1 (by decide) (by decide) e) (by decide)
  · exact absurd (inj 3 1 (by decide) (by decide) e) (by decide)
  · exact absurd (inj 4 1 (by decide) (by decide) e) (by decide)
theorem tabs_one2 {Pt : Nat → Addr} (inj : Inj5 Pt) : ∀ p ∈ tabs Pt, p.1 = Pt 2 → p.2 = "_law_place_calls.<locals>.<lambda>" := fun p hp e => by
  simp only [tabs, List.mem_cons, List.not_mem_nil, or_false] at hp
  rcases hp with rfl | rfl | rfl | rfl | rfl
  · exact absurd (inj 0 2 (by decide) (by decide) e) (by decide)
  · exact absurd (inj 1 2 (by decide) (by decide) e) (by decide)
  · rfl
  · exact absurd (inj 3 2 (by decide) (by decide) e) (by decide)
  · exact absurd (inj 4 2 (by decide) (by decide) e) (by decide)
theorem tabs_one3 {Pt : Nat → Addr} (inj : Inj5 Pt) : ∀ p ∈ tabs Pt, p.1 = Pt 3 → p.2 = "_law_occupied_right.<locals>.<lambda>" := fun p hp e => by
  simp only [tabs, List.mem_cons, List.not_mem_nil, or_false] at hp
  rcases hp with rfl | rfl | rfl | rfl | rfl
  · exact absurd (inj 0 3 (by decide) (by decide) e) (by decide)
  · exact absurd (inj 1 3 (by decide) (by decide) e) (by decide)
  · exact absurd (inj 2 3 (by decide) (by decide) e) (by decide)
  · rfl
  · exact absurd (inj 4 3 (by decide) (by decide) e) (by decide)
theorem tabs_one4 {Pt : Nat → Addr} (inj : Inj5 Pt) : ∀ p ∈ tabs Pt, p.1 = Pt 4 → p.2 = "_law_bools_right.<locals>.<lambda>" := fun p hp e => by
  simp only [tabs, List.mem_cons, List.not_mem_nil, or_false] at hp
  rcases hp with rfl | rfl | rfl | rfl | rfl
  · exact absurd (inj 0 4 (by decide) (by decide) e) (by decide)
  · exact absurd (inj 1 4 (by decide) (by decide) e) (by decide)
  · exact absurd (inj 2 4 (by decide) (by decide) e) (by decide)
  · exact absurd (inj 3 4 (by decide) (by decide) e) (by decide)
  · rfl

/-- outcome of a lambda that raises the j-th class with v, wherever the state has come to -/
theorem one_at {K : PySem.W.Frag} {T : List (Addr × Str)} {H : Hp} {r : Addr} (j : Nat) {v : V} {d : PyData} (j6 : j < 6) (tq : ∀ H1, StpN r H H1 → Tq K H1 v d 4 200) (tl : XK → Hp → VK → Prop) (G : Hp) (Q' : VK) (sg : StpN r H G) (tg : Tabs T G)
    (call : ∀ (G1 : Hp) (E : XK) (N : VK), StpN r H G1 → (∀ dd H2, G1 dd = none → Same G1 H2 → H2 dd = some (.xd [(fldOf j, v)]) → E (.ref (wc K j)) (some dd) H2) → tl E G1 N)
    (fin : ∀ R G3, StpN r H G3 → ExtN G G3 → Tabs T G3 → G3 R = some (.lst [.str (wordOf j), .str d.shown]) → (∀ c o, G c = some o → (∀ ps, o ≠ .tbl ps) → c ≠ R) → Q' (.ref R) G3) : Tabs T G ∧ ∀ H1, ExtN G H1 → Tabs T H1 → TTout K tl H1 Q' :=
  ⟨tg, fun H1 x1 tb1 => by
    have s1 := sg.trans (extN_stp sg.1 x1)
    exact ⟨j, v, d, j6, tq H1 s1, fun Ha E N sa ra => call Ha E N (s1.trans (Stp.same (Stp.refl s1.1) sa).n) ra, fun R H3 hR s3 h3 => fin R H3 (s1.trans (Stp.same (Stp.refl s1.1) s3).n) (fun c o e z => s3 _ _ (x1 c o e z)) (tabs_stp tb1 (rng_lst s1.1) fun c o _ e => s3 c o e) h3 (fun c o e z => ne_of_none (x1 c o e z) hR)⟩⟩
theorem Told.first {T : List (Addr × Str)} {H G : Hp} {r M R : Addr} {row : List V} (s : StpN r H G) (tb : Tabs T G) (hR : G R = some (.lst row)) (nR : R ≠ r) (hM : G M = none) (Rr : Rng H r) : Told T H (upd G M (.lst [.ref R])) r M row [R] := by
  have Mr : M ≠ r := (Rng.ne s.1 hM).symm
  have nM : R ≠ M := ne_of_none hR hM
  obtain ⟨sa, sb, se, sf⟩ := id s.1
  refine ⟨⟨⟨sa, sb, by rw [upd_ne Mr.symm]; exact se, sf⟩, fun c o n z e => ?_⟩, tabs_stp tb (rng_lst s.1) (fun c o _ e => by rw [upd_ne (ne_of_none e hM)]; exact e), upd_same, fun c o e z => ?_, Mr, fun Q hQ => ?_⟩
  · have k := s.2 c o n z e
    rw [upd_ne (ne_of_none k hM)]
    exact k
  · by_cases cr : c = r
    · rw [cr]
      exact Mr.symm
    · exact ne_of_none (s.2 c o cr z e) hM
  · rw [List.mem_singleton.mp hQ]
    exact ⟨by rw [upd_ne nM]; exact hR, nM, nR⟩
section
variable {K : PySem.W.Frag} {H : Hp} {w s : Str}
def rowD (w s : Str) : PyData := .list [.str w, .str s]
theorem rows_dp : ∀ {rs : List Addr}, (∀ R ∈ rs, H R = some (.lst [.str w, .str s])) → DpAll K H (rs.map V.ref) (List.replicate rs.length (rowD w s))
  | [], _ => .nil
  | R :: rs, h => .cons (.lst (SqL.of (h R List.mem_cons_self)) (.cons (.str _) (.cons (.str _) .nil))) (rows_dp fun R hR => h R (List.mem_cons_of_mem _ hR))
theorem rows_lay (a : PyData.strOk w = true) (b : PyData.strOk s = true) : ∀ n, PyData.canLayAll0 (List.replicate n (rowD w s)) = true
  | 0 => rfl
  | n + 1 => by
    have e : (rowD w s).canLay0 = true := by
      unfold rowD
      simp only [PyData.canLay0, PyData.canLayAll0, a, b, Bool.and_self]
    simp only [List.replicate_succ, PyData.canLayAll0, e, rows_lay a b n, Bool.and_self]
theorem rows_dep : ∀ n, PyData.depthAll (List.replicate n (rowD w s)) ≤ 1
  | 0 => Nat.zero_le _
  | n + 1 => by
    have e : (rowD w s).depth = 1 := rfl
    simp only [List.replicate_succ, PyData.depthAll, e]
    have := rows_dep n
    omega
theorem rows_shp (a : PyData.strOk w = true) (b : PyData.strOk s = true) (n : Nat) : SeqAt.shaped (.list (List.replicate n (rowD w s))) = true := by
  have c : (PyData.list (List.replicate n (rowD w s))).canLay0 = true := rows_lay a b n
  have e : (PyData.list (List.replicate n (rowD w s))).depth ≤ 2 := by
    show PyData.depthAll (List.replicate n (rowD w s)) + 1 ≤ 2
    have := rows_dep (w := w) (s := s) n
    omega
  unfold SeqAt.shaped
  rw [c]
  simp
  omega
theorem rows_eqv (a : PyData.strOk w = true) (b : PyData.strOk s = true) (n : Nat) : PyData.eqv (.list (List.replicate n (rowD w s))) (.list (List.replicate n (rowD w s))) = true := SeqAt.eqv_refl _ (rows_lay a b n)
end
theorem Ly.stpN {K : PySem.W.Frag} {H G : Hp} {r y zp bl dx : Addr} {ps : List Addr} {ns : List Int} {n : Int} {bs : List Blk} (L : Ly K H y zp bl dx ps ns n bs) (hR : Rng H r) (br : bl ≠ r) (z : ∃ dz l, H zp = some (.ins (He.ga K "Sizes") dz (szF l)) ∧ H l = some (.lst (ns.map V.int)) ∧ l ≠ r ∧ l ≠ bl) (s : StpN r H G) : Ly K G y zp bl dx ps ns n bs := by
  obtain ⟨dz, l, z1, z2, lr, lb⟩ := z
  obtain ⟨ra, rb, re, rf⟩ := id hR
  have off : ∀ c o, H c = some o → (∀ xs, o ≠ .lst xs) → c ≠ r := fun c o e n z => by
    rw [z, re] at e
    exact n _ (Option.some.inj e).symm
  have k1 := s.2 zp _ (off _ _ z1 fun _ h => by cases h) (fun ps e => by cases e) z1
  have k2 := s.2 l _ lr (fun ps e => by cases e) z2
  exact ⟨s.2 y _ (off _ _ L.at_ fun _ h => by cases h) (fun ps e => by cases e) L.at_, ⟨dz, l, k1, k2⟩, s.2 bl _ br (fun ps e => by cases e) L.lst, L.rf.mono fun p xs e => s.2 p _ (off _ _ e fun _ h => by cases h) (fun ps e => by cases e) e, L.wf, L.gd, L.n1, L.n2, L.ln, ⟨dz, l, k1, k2, lb⟩⟩
section
variable {K : PySem.W.Frag} {H : Hp} {n m : Nat}
theorem one_blk {b : Blk} {p : Addr} (h : H p = some (.tup (blkV b))) (i : InB b) : Tq K H (.ref p) (blkD b) 1 132 := by
  have b39 : (10 : Int) ^ 39 = 1000000000000000000000000000000000000000 := by decide
  obtain ⟨i1, i2, i3⟩ := i
  exact ((tqa_cons (tq_int (by omega) (by omega)) (tqa_cons (tq_int (by omega) (by omega)) (tqa_cons (tq_bl _) tqa_nil))).tup h).mono (by decide) (by show 3 * (41 + 2) + 3 ≤ 132; decide)
theorem blk_all : ∀ {qs : List Addr} {bs : List Blk}, Refs blkV H qs bs → (∀ b ∈ bs, InB b) → TqAll K H (qs.map V.ref) (bs.map blkD) 1 132
  | _, _, .nil, _ => tqa_nil
  | _, _, .cons a r, h => tqa_cons (one_blk a (h _ List.mem_cons_self)) (blk_all r fun b hb => h b (List.mem_cons_of_mem _ hb))
theorem wf_in {ns : List Int} {z : Int} {bs : List Blk} (w : Wf ns z bs) (g : Good ns) (z2 : z ≤ 1000000000000) : ∀ b ∈ bs, InB b := fun b hb => by
  obtain ⟨h1, h2, h3, h4⟩ := w.ok b hb
  have := w.pos g hb
  have := g.len
  unfold bEnd at h4
  exact ⟨h2, by omega, by omega⟩
theorem blks_tq {qs : List Addr} {bs : List Blk} {l : Addr} (r : Refs blkV H qs bs) (i : ∀ b ∈ bs, InB b) (ln : bs.length ≤ 100) (h : H l = some (.lst (qs.map V.ref))) : Tq K H (.ref l) (.list (bs.map blkD)) 3 14000 :=
  ((blk_all r i).lst h).mono (by decide) (by rw [List.length_map, r.len]; omega)
end
section
variable {P : Program} {w : World} {K : PySem.W.Frag} {mg : Str → Option Value} {base : Heap} {f : Addr} {fd : FuncData}
def spLng (K : PySem.W.Frag) : Sp := fun vs H Q _ => ∃ (y zp bl dx : Addr) (ps : List Addr) (ns : List Int) (n : Int) (bs : List Blk), vs = [.ref y] ∧ Ly K H y zp bl dx ps ns n bs ∧ Q (.int n) H
theorem sc_length : FnScope ["self"] ["self"] (defScope (inClass (top 31) 5)) := ⟨rfl, rfl, rfl, by decide +kernel, rfl, by decide +kernel, by decide +kernel⟩
theorem ok_lng (T : Tx K mg) (F : FnP K "length" "Layout.length" (inClass (top 31) 5) f fd) : FnOk P w K mg base CX0 1 f fd ["self"] (spLng K) := by
  refine F.ok sc_length (fun vs H Q E h => ?_) (fun cdv A outer s H vs Q E hr h => ⟨_, PSs.nox (pss_one (ps_ret (pe_fld (pv 0) rfl))), ?_⟩)
  · obtain ⟨y, zp, bl, dx, ps, ns, n, bs, rfl, _⟩ := h
    rfl
  · obtain ⟨y, zp, bl, dx, ps, ns, n, bs, rfl, L, q⟩ := h
    exact ⟨_, rfl, y, _, dx, _, _, rfl, L.at_, T.ly, T.nCC, lay_cc .., q⟩
def spSzs (K : PySem.W.Frag) : Sp := fun vs H Q _ => ∃ (y zp bl dx : Addr) (ps : List Addr) (ns : List Int) (n : Int) (bs : List Blk), vs = [.ref y] ∧ Ly K H y zp bl dx ps ns n bs ∧ Q (.ref zp) H
theorem sc_sizes : FnScope ["self"] ["self"] (defScope (inClass (top 31) 4)) := ⟨rfl, rfl, rfl, by decide +kernel, rfl, by decide +kernel, by decide +kernel⟩
theorem ok_szs (T : Tx K mg) (F : FnP K "sizes" "Layout.sizes" (inClass (top 31) 4) f fd) : FnOk P w K mg base CX0 1 f fd ["self"] (spSzs K) := by
  refine F.ok sc_sizes (fun vs H Q E h => ?_) (fun cdv A outer s H vs Q E hr h => ⟨_, PSs.nox (pss_one (ps_ret (pe_fld (pv 0) rfl))), ?_⟩)
  · obtain ⟨y, zp, bl, dx, ps, ns, n, bs, rfl, _⟩ := h
    rfl
  · obtain ⟨y, zp, bl, dx, ps, ns, n, bs, rfl, L, q⟩ := h
    exact ⟨_, rfl, y, _, dx, _, _, rfl, L.at_, T.ly, T.nST, lay_st .., q⟩
def layT (n : Int) (bs : List Blk) : Str := ("Layout(" : Str) ++ Str.ofString (toString n) ++ (", " : Str) ++ (PyData.list (bs.map blkD)).shown ++ (")" : Str)
def spLRepr (K : PySem.W.Frag) : Sp := fun vs H Q _ => ∃ (y zp bl dx : Addr) (ps : List Addr) (ns : List Int) (n : Int) (bs : List Blk), vs = [.ref y] ∧ Ly K H y zp bl dx ps ns n bs ∧ bs.length ≤ 100 ∧ Q (.str (layT n bs)) H
theorem num_log {n : Int} (h1 : 1 ≤ n) (h2 : n ≤ 1000000000000) : n.natAbs.log2 < 1920 := by
  have e2 : (2 : Nat) ^ 40 = 1099511627776 := by decide
  exact Nat.lt_of_lt_of_le (PySem.Flt.log2_lt_of (k := 40) (by decide) (by omega)) (by decide)
theorem num_len {n : Int} (h1 : 1 ≤ n) (h2 : n ≤ 1000000000000) : (Str.ofString (toString n)).length ≤ 41 := by
  have b39 : (10 : Int) ^ 39 = 1000000000000000000000000000000000000000 := by decide
  have t := (tq_int (K := default) (H := fun _ => none) (i := n) (by omega) (by omega)).ln
  exact t
theorem sc_Layout_repr : FnScope ["self"] ["self"] (defScope (inClass (top 31) 3)) := ⟨rfl, rfl, rfl, by decide +kernel, rfl, by decide +kernel, by decide +kernel⟩
theorem ok_lrepr (T : Tx K mg) (F : FnP K "__repr__" "Layout.__repr__" (inClass (top 31) 3) f fd) : FnG P w K mg base CX0 2 f fd ["self"] (spLRepr K) := by
  refine okG F sc_Layout_repr (fun vs H Q E h => ?_) (fun cdv A outer s H vs Q E hr h => ⟨_, PSs.nox (pss_one (ps_ret (pe_joined (.cons pe_str (.cons (pe_fmt (pe_fld (pv 0) rfl)) (.cons pe_str (.cons (pe_fmtRQ hr T.sys (pe_fld (pv 0) rfl)) (.cons pe_str .nil)))))))), ?_⟩)
  · obtain ⟨y, zp, bl, dx, ps, ns, n, bs, rfl, _⟩ := h
    rfl
  · obtain ⟨y, zp, bl, dx, ps, ns, n, bs, rfl, L, l100, q⟩ := h
    have sl : sizeLine = 16777216 := sizeLine_eq
    have tq := blks_tq (K := K) L.rf (wf_in L.wf L.gd L.n2) l100 L.lst
    have e0 : (Str.empty ++ ("Layout(" : Str)) = ("Layout(" : Str) := by decide +kernel
    have l0 : ("Layout(" : Str).length = 7 := by decide +kernel
    have l1 : (", " : Str).length = 2 := by decide +kernel
    have l2 : (")" : Str).length = 1 := by decide +kernel
    have ln := num_len L.n1 L.n2
    have l3 : (PyData.list (bs.map blkD)).shown.length ≤ 14000 := tq.ln
    refine ⟨_, rfl, by rw [e0, l0]; omega, _, rfl, y, _, dx, _, _, rfl, L.at_, T.ly, T.nCC, lay_cc .., .inr ⟨n, rfl, num_log L.n1 L.n2, ?_⟩⟩
    refine ⟨_, rfl, by rw [e0, Str.length_append, l0]; omega, _, rfl, by rw [e0, Str.length_append, Str.length_append, l0, l1]; omega, _, rfl, y, _, dx, _, _, rfl, L.at_, T.ly, T.nBL, lay_bl .., bl, _, rfl, tq.dq, tq.sh, Nat.le_trans tq.dp (by decide), by omega, ?_⟩
    refine ⟨_, rfl, by rw [e0, Str.length_append, Str.length_append, Str.length_append, l0, l1]; omega, _, rfl, by rw [e0, Str.length_append, Str.length_append, Str.length_append, Str.length_append, l0, l1, l2]; omega, ?_⟩
    rw [e0]
    exact q

end
end K26

set_option Elab.async false
set_option linter.all false
set_option maxRecDepth 100000
set_option maxHeartbeats 1600000
set_option pp.maxSteps 900
namespace Ex
open PySem PySem.Spec PySem.Calls PyProof.Rows L2 Gu
section
variable {X : Cx} {k j : Nat} {c : Str} {ps : List Str} {sp : Sp} {p pos : Pos} {e : Expr} {es : List Expr} {t : TA} {E : XK}
theorem pmakeX (D : KfX X.prog X.w X.K X.mg X.base (L2.CX X.prog X.w) k c ps sp) (hr : Room j X.A) (px : Passes (L2.CX X.prog X.w) X E) (ha : PA X (e :: es) t) (hj : k + 1 ≤ j := by decide) (hg : Gl X c := by rfl) (hdb : (c == ("__debug__" : Str)) = false := by decide)
    (he : starEach (e :: es) X.env = (false, eval e X.env) :: starEach es X.env := by rfl) (hpl : (backTo pos (starEach es X.env)).any (·.1) = false := by rfl) :
    PE X (.Call (.Name c p) (e :: es) [] pos) (tMake (He.ga X.K c) sp [] E t) := by
  obtain ⟨fd, F, b⟩ := D.ex
  exact pe_make D.mkr F (hr.mono hj) hg D.gl b .nil px ha hdb he hpl
end
end Ex
namespace K26
open PySem PySem.Spec PyProof.Rows L2 Gu Ex LamX
/-- the layout beside the drawing list -/
structure LyR (K : PySem.W.Frag) (r : Addr) (H : Hp) (y zp bl dx : Addr) (ps : List Addr) (ns : List Int) (n : Int) (bs : List Blk) : Prop where
  ly : Ly K H y zp bl dx ps ns n bs
  br : bl ≠ r
  zr : ∃ dz l, H zp = some (.ins (He.ga K "Sizes") dz (szF l)) ∧ H l = some (.lst (ns.map V.int)) ∧ l ≠ r ∧ l ≠ bl
theorem LyR.stpN {K : PySem.W.Frag} {H G : Hp} {r y zp bl dx : Addr} {ps : List Addr} {ns : List Int} {n : Int} {bs : List Blk} (L : LyR K r H y zp bl dx ps ns n bs) (hR : Rng H r) (s : StpN r H G) : LyR K r G y zp bl dx ps ns n bs := by
  refine ⟨L.ly.stpN hR L.br L.zr s, L.br, ?_⟩
  obtain ⟨dz, l, z1, z2, lr, lb⟩ := L.zr
  obtain ⟨ra, rb, re, rf⟩ := id hR
  exact ⟨dz, l, s.2 zp _ (fun z => by rw [z, re] at z1; cases z1) (fun ps e => by cases e) z1, s.2 l _ lr (fun ps e => by cases e) z2, lr, lb⟩
section
variable {P : Program} {w : World} {K : PySem.W.Frag} {mg : Str → Option Value} {base : Heap} {f : Addr} {fd : FuncData}
def spNumC (K : PySem.W.Frag) (Pt : Nat → Addr) : Sp := fun vs H Q _ => ∃ (r y zp bl dx : Addr) (ps : List Addr) (ns : List Int) (n : Int) (bs : List Blk) (k : Nat), vs = [.ref r, .ref y, .int k] ∧ Rng H r ∧ LyR K r H y zp bl dx ps ns n bs ∧ k < ns.length ∧ Tabs (tabs Pt) H ∧
  ∀ H', StpN r H H' → Tabs (tabs Pt) H' → Q (.bl true) H'
theorem sc__law_number_calls : FnScope ["_law_rng_here", "_law_layout_here", "_law_level", "_law_odd_here", "_law_told", "_law_wrong", "_law_position"] ["_law_rng_here", "_law_layout_here", "_law_level"] (defScope (top 47)) := ⟨rfl, rfl, rfl, by decide +kernel, rfl, by decide +kernel, by decide +kernel⟩
theorem ok_numc {g cd z0 : Addr} {Pt : Nat → Addr} {fdO : FuncData} (inj : Inj5 Pt) (T : Tx K mg) (KX : KitX K) (D__law_kind : DfE P w K mg base 1 "_law_kind" ["_law_e"] (spKind K)) (D__law_no_numbers : Df P w K mg base 5 "_law_no_numbers" ["_law_rng_here"] (spNoNums K)) (D__law_no_cells : Df P w K mg base 4 "_law_no_cells" ["_law_rng_here"] (spNoCells K))
    (M_slack_kw : MfKX P w K mg base 10 "Layout" "slack" ["self", "level", "kept"] 2 ["kept"] (spSlackN K)) (M_largest_kw : MfXK P w K mg base 11 "Layout" "largest" ["self", "kept"] ["kept"] [0] (spLargeR K)) (M_short_level : MfX P w K mg base 11 "Layout" "short_level" ["self", "numbers"] (spShortR K))
    (M_fits : MfS P w K mg base 12 "Layout" "fits" "kept" (.ref z0) (spFitsR K)) (D_LayoutX : KfX P w K mg base (L2.CX P w) 5 "Layout" ["self", "sizes", "length"] (spNewR K)) (P_sizes : Pf P w K mg base 1 "Layout" "sizes" (spSzs K))
    (FO : FnP K "_law_outcome" "_law_outcome" (top 41) g fdO) (gO : mg "_law_outcome" = some (.ref g)) (bO : L2.Binds K fdO ["_law_call"] []) (TB : TabB base mg cd (Pt 1)) (F : FnP K "_law_number_calls" "_law_number_calls" (top 47) f fd) (hcd : fd.code = .ref cd) :
    FnG P w K mg base CX0 16 f fd ["_law_rng_here", "_law_layout_here", "_law_level"] (spNumC K Pt) := by
  refine okGc F sc__law_number_calls (fun vs H Q E h => ?_) (fun A outer s H vs Q E hr h => ⟨_, PSs.nox (pss_cons (ps_asg (pcall D__law_no_numbers hr.r (pa_cons (pv 0) pa_nil)) (pg_tup (by rfl) (pgs_cons (pg_name (i := 5) sc__law_number_calls.nd rfl (by first | exact Or.inl rfl | exact Or.inr rfl)) (pgs_cons (pg_name (i := 6) sc__law_number_calls.nd rfl (by first | exact Or.inl rfl | exact Or.inr rfl)) pgs_nil)))) (pss_cons (ps_set (i := 3) sc__law_number_calls.nd rfl (by first | exact Or.inl rfl | exact Or.inr rfl) (pcall D__law_no_cells hr.r (pa_cons (pv 0) pa_nil))) (pss_cons (ps_set (i := 4) sc__law_number_calls.nd rfl (by first | exact Or.inl rfl | exact Or.inr rfl) (pe_lst (pa_cons (pe_lamgive (k := 12) (t := fun E => tMethKX (He.ga K "Layout") "slack" (spSlackN K) 2 (["kept"] : List Str).length E (tVar 1) (tCons (tVar 2) tNil) (tCons (tVar 5) tNil)) (T := tabs Pt) (P := Pt 1) (c := cd) (Sg := sc__law_outcome) FO (by rfl) gO bO rfl (.inl rfl) (fun cdg => outcome_gives T KX D__law_kind (hr.mono (by decide))) TB hcd (List.mem_cons_of_mem _ List.mem_cons_self) (tabs_one1 inj) (hr.r.mono (by decide)) (lamS_by (sc := defScope (top 47)) (by decide +kernel)) rfl (fun _ _ _ _ _ => by rfl) (fun A2 o2 s2 H2 E2 f2 c2 hr2 => by exact pmethKX M_slack_kw hr2 (passX (takes_of (E := E2) rfl rfl rfl rfl)) (pv 1) (pa_cons (pv 2) pa_nil) (pk_cons (pv 5) pk_nil))) pa_nil))) (pss_cons (ps_expr (pe_bm PySem.F.plainAttrs_list PySem.F.slot_list_append PySem.F.type_list_append mt_append (pv 4) (pa_cons (pe_lamgive (k := 12) (t := fun E => tMethKw (He.ga K "Layout") "largest" (spLargeR K) (["kept"] : List Str).length [0] E (tVar 1) (tCons (tVar 5) tNil)) (T := tabs Pt) (P := Pt 1) (c := cd) (Sg := sc__law_outcome) FO (by rfl) gO bO rfl (.inl rfl) (fun cdg => outcome_gives T KX D__law_kind (hr.mono (by decide))) TB hcd (List.mem_cons_of_mem _ List.mem_cons_self) (tabs_one1 inj) (hr.r.mono (by decide)) (lamS_by (sc := defScope (top 47)) (by decide +kernel)) rfl (fun _ _ _ _ _ => by rfl) (fun A2 o2 s2 H2 E2 f2 c2 hr2 => by exact pmethXK M_largest_kw hr2 (passX (takes_of (E := E2) rfl rfl rfl rfl)) (pv 1) (pk_cons (pv 5) pk_nil))) pa_nil))) (pss_cons (ps_expr (pe_bm PySem.F.plainAttrs_list PySem.F.slot_list_append PySem.F.type_list_append mt_append (pv 4) (pa_cons (pe_lamgive (k := 12) (t := fun E => tMeth (He.ga K "Layout") "short_level" (spShortR K) [] E (tVar 1) (tCons (tVar 5) tNil)) (T := tabs Pt) (P := Pt 1) (c := cd) (Sg := sc__law_outcome) FO (by rfl) gO bO rfl (.inl rfl) (fun cdg => outcome_gives T KX D__law_kind (hr.mono (by decide))) TB hcd (List.mem_cons_of_mem _ List.mem_cons_self) (tabs_one1 inj) (hr.r.mono (by decide)) (lamS_by (sc := defScope (top 47)) (by decide +kernel)) rfl (fun _ _ _ _ _ => by rfl) (fun A2 o2 s2 H2 E2 f2 c2 hr2 => by exact pmethX M_short_level hr2 (passX (takes_of (E := E2) rfl rfl rfl rfl)) (pv 1) (pa_cons (pv 5) pa_nil))) pa_nil))) (pss_cons (ps_expr (pe_bm PySem.F.plainAttrs_list PySem.F.slot_list_append PySem.F.type_list_append mt_append (pv 4) (pa_cons (pe_lamgive (k := 12) (t := fun E => tMethSK (He.ga K "Layout") "fits" (spFitsR K) E (tVar 1) (tCons (tC (.int 3)) tNil) (tCons (tVar 5) tNil)) (T := tabs Pt) (P := Pt 1) (c := cd) (Sg := sc__law_outcome) FO (by rfl) gO bO rfl (.inl rfl) (fun cdg => outcome_gives T KX D__law_kind (hr.mono (by decide))) TB hcd (List.mem_cons_of_mem _ List.mem_cons_self) (tabs_one1 inj) (hr.r.mono (by decide)) (lamS_by (sc := defScope (top 47)) (by decide +kernel)) rfl (fun _ _ _ _ _ => by rfl) (fun A2 o2 s2 H2 E2 f2 c2 hr2 => by exact pmethSK M_fits hr2 (passX (takes_of (E := E2) rfl rfl rfl rfl)) (pv 1) (pa_cons pe_int pa_nil) (pk_cons (pv 5) pk_nil))) pa_nil))) (pss_cons (ps_if (pt_cmpR (op_neD hr.r.units) (pv 4) (pe_op op_rep (pe_lst (pa_cons (pe_lst (pa_cons pe_str (pa_cons (pe_callB (call_reprQ hr T.sys) (by rfl) T.n_repr (by decide +kernel) (pa_cons (pv 6) pa_nil)) pa_nil))) pa_nil)) pe_int) (nomark _)) (pss_one (ps_ret pe_bl)) pss_nil) (pss_cons (ps_set (i := 4) sc__law_number_calls.nd rfl (by first | exact Or.inl rfl | exact Or.inr rfl) (pe_lst (pa_cons (pe_lamgive (k := 12) (t := fun E => tMethS (He.ga K "Layout") "fits" (spFitsR K) (.ref z0) E (tVar 1) (tCons (tVar 3) tNil)) (T := tabs Pt) (P := Pt 1) (c := cd) (Sg := sc__law_outcome) FO (by rfl) gO bO rfl (.inl rfl) (fun cdg => outcome_gives T KX D__law_kind (hr.mono (by decide))) TB hcd (List.mem_cons_of_mem _ List.mem_cons_self) (tabs_one1 inj) (hr.r.mono (by decide)) (lamS_by (sc := defScope (top 47)) (by decide +kernel)) rfl (fun _ _ _ _ _ => by rfl) (fun A2 o2 s2 H2 E2 f2 c2 hr2 => by exact pmethS M_fits hr2 (passX (takes_of (E := E2) rfl rfl rfl rfl)) (pv 1) (pa_cons (pv 3) pa_nil))) pa_nil))) (pss_cons (ps_expr (pe_bm PySem.F.plainAttrs_list PySem.F.slot_list_append PySem.F.type_list_append mt_append (pv 4) (pa_cons (pe_lamgive (k := 12) (t := fun E => tMethSK (He.ga K "Layout") "fits" (spFitsR K) E (tVar 1) (tCons (tC (.int 1)) (tCons (tVar 3) (tCons (tC .non) tNil))) (tCons (tVar 5) tNil)) (T := tabs Pt) (P := Pt 1) (c := cd) (Sg := sc__law_outcome) FO (by rfl) gO bO rfl (.inl rfl) (fun cdg => outcome_gives T KX D__law_kind (hr.mono (by decide))) TB hcd (List.mem_cons_of_mem _ List.mem_cons_self) (tabs_one1 inj) (hr.r.mono (by decide)) (lamS_by (sc := defScope (top 47)) (by decide +kernel)) rfl (fun _ _ _ _ _ => by rfl) (fun A2 o2 s2 H2 E2 f2 c2 hr2 => by exact pmethSK M_fits hr2 (passX (takes_of (E := E2) rfl rfl rfl rfl)) (pv 1) (pa_cons pe_int (pa_cons (pv 3) (pa_cons pe_non pa_nil))) (pk_cons (pv 5) pk_nil))) pa_nil))) (pss_cons (ps_expr (pe_bm PySem.F.plainAttrs_list PySem.F.slot_list_append PySem.F.type_list_append mt_append (pv 4) (pa_cons (pe_lamgive (k := 12) (t := fun E => tMake (He.ga K "Layout") (spNewR K) [] E (tCons (tProp (He.ga K "Layout") (spSzs K) [] E0 (tVar 1)) (tCons (tVar 3) tNil))) (T := tabs Pt) (P := Pt 1) (c := cd) (Sg := sc__law_outcome) FO (by rfl) gO bO rfl (.inl rfl) (fun cdg => outcome_gives T KX D__law_kind (hr.mono (by decide))) TB hcd (List.mem_cons_of_mem _ List.mem_cons_self) (tabs_one1 inj) (hr.r.mono (by decide)) (lamS_by (sc := defScope (top 47)) (by decide +kernel)) rfl (fun _ _ _ _ _ => by rfl) (fun A2 o2 s2 H2 E2 f2 c2 hr2 => by exact pmakeX D_LayoutX hr2 (passX (takes_of (E := E2) rfl rfl rfl rfl)) (pa_cons (pprop P_sizes hr2 (pv 1)) (pa_cons (pv 3) pa_nil)))) pa_nil))) (pss_one (ps_ret (pe_cmpR (op_eqD hr.r.units) (pv 4) (pe_op op_rep (pe_lst (pa_cons (pe_lst (pa_cons pe_str (pa_cons (pe_callB (call_reprQ hr T.sys) (by rfl) T.n_repr (by decide +kernel) (pa_cons (pv 3) pa_nil)) pa_nil))) pa_nil)) pe_int) (nomark _)))))))))))))), ?_⟩)
  · obtain ⟨r, y, zp, bl, dx, ps, ns, n, bs, k, rfl, _⟩ := h
    rfl
  · obtain ⟨r, y, zp, bl, dx, ps, ns, n, bs, k, rfl, hR, L, hk, tb, q⟩ := h
    refine ⟨_, rfl, r, rfl, hR, fun t u pos H1 t1 ht bad p3 => ?_⟩
    refine ⟨t, _, rfl, .inl (.inl ht), rfl, _, _, rfl, _, _, rfl, rfl, ?_⟩
    refine nx_of (σ' := [some (.ref r), some (.ref y), some (.int k), none, none, some u, some (.int pos)]) rfl ?_
    refine ⟨_, rfl, r, rfl, t1.1, fun v d H2 t2 vd nb => ?_⟩
    refine nx_of (σ' := [some (.ref r), some (.ref y), some (.int k), some v, none, some u, some (.int pos)]) rfl (go_asg ?_)
    have b39 : (10 : Int) ^ 39 = 1000000000000000000000000000000000000000 := by decide
    have s02 : StpN r H H2 := t1.n.trans t2.n
    have RR : Rng H2 r := t2.1
    have L2 := L.stpN hR s02
    have tb2 : Tabs (tabs Pt) H2 := tabs_stp (tabs_stp tb (rng_lst hR) t1.2) (rng_lst t1.1) t2.2
    have LY : ∀ {G}, StpN r H2 G → Ly K G y zp bl dx ps ns n bs := fun s => (L2.stpN RR s).ly
    have s00 : StpN r H2 H2 := (Stp.refl RR).n
    have bad2 : ∀ G, StpN r H2 G → NumBad G u pos := fun G s => bad G (t2.n.trans s)
    have tqp : ∀ G, StpN r H2 G → Tq K G (.int pos) (.int pos) 4 200 := fun G s => (vd_int (K := K) (r := r) (H := H2) (i := pos) (by omega) (by omega) G s).2
    refine one_at (K := K) 3 (by decide) tqp _ _ _ s00 tb2 (fun G1 E N sg ra => ?_) (fun R0 G0 s0 x0 tb0 h0 fr0 => ⟨(by show 1 ≤ sizeLine; decide), fun M hM => ?_⟩)
    · exact ⟨_, rfl, y, dx, _, rfl, (LY sg).at_, lay_nm (by decide +kernel), _, rfl, _, rfl, rfl, rfl, y, zp, bl, dx, ps, ns, n, bs, k, u, pos, rfl, LY sg, hk, bad2 G1 sg, ra⟩
    have neR : ∀ {R : Addr}, (∀ c o, H2 c = some o → (∀ ps, o ≠ .tbl ps) → c ≠ R) → R ≠ r := fun fr => by
      obtain ⟨ra, rb, re, rf⟩ := id RR
      exact (fr r _ re (fun ps e => by cases e)).symm
    have TT0 := Told.first (T := tabs Pt) (H := H2) s0 tb0 h0 (neR fr0) hM RR
    show tSeq _ _ _ _ _
    refine at_st (σ' := [some (.ref r), some (.ref y), some (.int k), some v, some (.ref M), some u, some (.int pos)]) rfl ?_
    generalize upd G0 M (.lst [.ref R0]) = F0 at TT0
    refine ⟨_, rfl, .inl ⟨rfl, _, SqL.of TT0.at_⟩, ?_⟩
    refine one_at (K := K) 3 (by decide) tqp _ _ _ TT0.st TT0.tb (fun G1 E N sg ra => ?_) (fun R1 G1 s1 x1 tb1 h1 fr1 => ?_)
    · exact ⟨_, rfl, y, dx, _, rfl, (LY sg).at_, lay_nm (by decide +kernel), _, rfl, rfl, y, zp, bl, dx, ps, ns, n, bs, u, pos, rfl, LY sg, bad2 G1 sg, ra⟩
    obtain ⟨hM1, TT1⟩ := TT0.more s1 x1 tb1 h1 fr1
    refine ⟨M, _, _, rfl, rfl, hM1, (by show 1 + 1 ≤ sizeLine; decide), ?_⟩
    generalize upd G1 M _ = F1 at TT1
    refine ⟨_, rfl, .inl ⟨rfl, _, SqL.of TT1.at_⟩, ?_⟩
    refine one_at (K := K) 3 (by decide) tqp _ _ _ TT1.st TT1.tb (fun G1 E N sg ra => ?_) (fun R2 G2 s2 x2 tb2 h2 fr2 => ?_)
    · exact ⟨_, rfl, y, dx, _, rfl, (LY sg).at_, lay_nm (by decide +kernel), _, rfl, y, zp, bl, dx, ps, ns, n, bs, u, pos, rfl, LY sg, bad2 G1 sg, ra⟩
    obtain ⟨hM2, TT2⟩ := TT1.more s2 x2 tb2 h2 fr2
    refine ⟨M, _, _, rfl, rfl, hM2, (by show 2 + 1 ≤ sizeLine; decide), ?_⟩
    generalize upd G2 M _ = F2 at TT2
    refine ⟨_, rfl, .inl ⟨rfl, _, SqL.of TT2.at_⟩, ?_⟩
    refine one_at (K := K) 3 (by decide) tqp _ _ _ TT2.st TT2.tb (fun G1 E N sg ra => ?_) (fun R3 G3 s3 x3 tb3 h3 fr3 => ?_)
    · refine ⟨_, rfl, y, dx, _, rfl, (LY sg).at_, lay_nm (by decide +kernel), _, rfl, _, _, _, rfl, rfl, (by show 1 ≤ sizeLine; decide), fun p hp => ⟨y, zp, bl, dx, ps, ns, n, bs, u, p, [.int 3], rfl, (LY sg).same (same_upd hp), upd_same, .inr ⟨fun j z hz => ⟨?_, ?_⟩, pos, (bad2 G1 sg).same (same_upd hp), Raised.same (c := "InvalidNumbers") (n := "position") ra (same_upd hp)⟩⟩⟩
      · cases j with
        | zero =>
          cases hz
          exact .int 3
        | succ j => cases hz
      · cases j with
        | zero =>
          cases hz
          rfl
        | succ j => cases hz
    obtain ⟨hM3, TT3⟩ := TT2.more s3 x3 tb3 h3 fr3
    refine ⟨M, _, _, rfl, rfl, hM3, (by show 3 + 1 ≤ sizeLine; decide), ?_⟩
    generalize upd G3 M _ = F3 at TT3
    have tqF3 := tqp F3 TT3.st
    refine ⟨_, rfl, _, rfl, _, _, rfl, tqF3.dq, tqF3.sh, Nat.le_trans tqF3.dp (by decide), Nat.le_trans tqF3.ln (by decide), (by show 2 ≤ sizeLine; decide), fun a ha => ⟨(by show 1 ≤ sizeLine; decide), fun b hb => ⟨b, 4, _, rfl, rfl, upd_same, by decide, by decide, (by show 1 * 4 ≤ sizeLine; decide), fun c hc => ?_⟩⟩⟩
    have m1F3 := same_upd (o := .lst [.str "numbers", .str (PyData.int (pos : Nat)).shown]) ha
    have kaF3 : (upd F3 a (.lst [.str "numbers", .str (PyData.int (pos : Nat)).shown])) a = some (.lst [.str "numbers", .str (PyData.int (pos : Nat)).shown]) := upd_same
    have m2F3 := m1F3.trans (same_upd (o := .lst [.ref a]) hb)
    have m3F3 := m2F3.trans (same_upd (o := .lst [.ref a, .ref a, .ref a, .ref a]) hc)
    have kbF3 := ((same_upd (o := .lst [.ref a]) hb).trans (same_upd (o := .lst [.ref a, .ref a, .ref a, .ref a]) hc)) _ _ kaF3
    have kcF3 : (upd (upd (upd F3 a (.lst [.str "numbers", .str (PyData.int (pos : Nat)).shown])) b (.lst [.ref a])) c (.lst [.ref a, .ref a, .ref a, .ref a])) c = some (.lst [.ref a, .ref a, .ref a, .ref a]) := upd_same
    have on : PyData.strOk "numbers" = true := by decide +kernel
    have oi := int_ok (pos : Nat)
    refine ⟨_, _, .lst (SqL.of (m3F3 _ _ TT3.at_)) (rows_dp fun R hR => m3F3 _ _ (TT3.ok R hR).1), .lst (SqL.of kcF3) (rows_dp (rs := [a, a, a, a]) fun R hR => ?_), rows_shp on oi 4, rows_shp on oi 4, ?_⟩
    · have e : R = a := by simpa using hR
      rw [e]
      exact kbF3
    refine ⟨_, rfl, ifF (congrArg (fun b => !b) (rows_eqv on oi 4)) ?_⟩
    have st3 := TT3.st.trans (Stp.same (Stp.refl TT3.st.1) m3F3).n
    have tbc := tabs_stp TT3.tb (rng_lst TT3.st.1) fun c o _ e => m3F3 c o e
    have tqv : ∀ G, StpN r H2 G → Tq K G v d 4 200 := fun G s => (vd G s).2
    have oi2 : PyData.strOk d.shown = true := (vd H2 s00).1.2
    have any1 : ∀ {G}, StpN r H2 G → ∀ (j : Nat) (z : V), j ≤ 0 → [v][j]? = some z → Any G z := fun s j z hj hz => by
      obtain rfl : j = 0 := by omega
      cases hz
      exact (vd _ s).1.1
    have any2 : ∀ {G}, StpN r H2 G → ∀ (j : Nat) (z : V), j ≤ 1 → [V.int 1, v, .non][j]? = some z → Any G z := fun s j z hj hz => by
      rcases (by omega : j = 0 ∨ j = 1) with rfl | rfl
      · cases hz
        exact .int 1
      · cases hz
        exact (vd _ s).1.1
    refine one_at (K := K) 2 (by decide) tqv _ _ _ st3 tbc (fun G1 E N sg ra => ?_) (fun R4 G4 s4 x4 tb4 h4 fr4 => ⟨(by show 1 ≤ sizeLine; decide), fun M2 hM2 => ?_⟩)
    · exact ⟨_, rfl, y, dx, _, rfl, (LY sg).at_, lay_nm (by decide +kernel), _, rfl, _, _, rfl, (by show 1 ≤ sizeLine; decide), fun p hp => ⟨y, zp, bl, dx, ps, ns, n, bs, .ref z0, p, [v], rfl, (LY sg).same (same_upd hp), upd_same, .inl ⟨0, v, rfl, nb, fun j z hj hz => any1 (sg.trans (Stp.same (Stp.refl sg.1) (same_upd hp)).n) j z hj hz, fun j z hj => absurd hj (Nat.not_lt_zero j), Raised.same (c := "InvalidNumber") (n := "value") ra (same_upd hp)⟩⟩⟩
    have neR2 : R4 ≠ r := by
      obtain ⟨ra, rb, re, rf⟩ := id st3.1
      exact (fr4 r _ re (fun ps e => by cases e)).symm
    have TT4 := Told.first (T := tabs Pt) (H := H2) s4 tb4 h4 neR2 hM2 RR
    show tSeq _ _ _ _ _
    refine at_st (σ' := [some (.ref r), some (.ref y), some (.int k), some v, some (.ref M2), some u, some (.int pos)]) rfl ?_
    generalize upd G4 M2 (.lst [.ref R4]) = F4 at TT4
    refine ⟨_, rfl, .inl ⟨rfl, _, SqL.of TT4.at_⟩, ?_⟩
    refine one_at (K := K) 2 (by decide) tqv _ _ _ TT4.st TT4.tb (fun G1 E N sg ra => ?_) (fun R5 G5 s5 x5 tb5 h5 fr5 => ?_)
    · refine ⟨_, rfl, y, dx, _, rfl, (LY sg).at_, lay_nm (by decide +kernel), _, rfl, _, rfl, _, _, _, rfl, rfl, (by show 3 ≤ sizeLine; decide), fun p hp => ⟨y, zp, bl, dx, ps, ns, n, bs, u, p, [.int 1, v, .non], rfl, (LY sg).same (same_upd hp), upd_same, .inl ⟨1, v, rfl, nb, fun j z hj hz => any2 (sg.trans (Stp.same (Stp.refl sg.1) (same_upd hp)).n) j z hj hz, fun j z hj hz => ?_, Raised.same (c := "InvalidNumber") (n := "value") ra (same_upd hp)⟩⟩⟩
      obtain rfl : j = 0 := by omega
      cases hz
      rfl
    obtain ⟨hM5, TT5⟩ := TT4.more s5 x5 tb5 h5 fr5
    refine ⟨M2, _, _, rfl, rfl, hM5, (by show 1 + 1 ≤ sizeLine; decide), ?_⟩
    generalize upd G5 M2 _ = F5 at TT5
    refine ⟨_, rfl, .inl ⟨rfl, _, SqL.of TT5.at_⟩, ?_⟩
    refine one_at (K := K) 2 (by decide) tqv _ _ _ TT5.st TT5.tb (fun G1 E N sg ra => ?_) (fun R6 G6 s6 x6 tb6 h6 fr6 => ?_)
    · refine ⟨_, rfl, y, dx, _, rfl, (LY sg).at_, y, zp, bl, dx, ps, ns, n, bs, rfl, LY sg, _, rfl, fun x1 d1 hx hd ne => ?_⟩
      have sm : Same G1 (upd (upd G1 d1 (.own x1)) x1 (.ins (He.ga K "Layout") d1 [])) := (same_upd hd).trans (same_upd (by rw [upd_ne ne.symm]; exact hx))
      exact ⟨_, _, v, rfl, (vd _ (sg.trans (Stp.same (Stp.refl sg.1) sm).n)).1.1, nb, Raised.same (c := "InvalidNumber") (n := "value") ra sm⟩
    obtain ⟨hM6, TT6⟩ := TT5.more s6 x6 tb6 h6 fr6
    refine ⟨M2, _, _, rfl, rfl, hM6, (by show 2 + 1 ≤ sizeLine; decide), ?_⟩
    generalize upd G6 M2 _ = F6 at TT6
    have tqF6 := tqv F6 TT6.st
    refine ⟨_, rfl, _, rfl, _, _, rfl, tqF6.dq, tqF6.sh, Nat.le_trans tqF6.dp (by decide), Nat.le_trans tqF6.ln (by decide), (by show 2 ≤ sizeLine; decide), fun a2 ha2 => ⟨(by show 1 ≤ sizeLine; decide), fun b2 hb2 => ⟨b2, 3, _, rfl, rfl, upd_same, by decide, by decide, (by show 1 * 3 ≤ sizeLine; decide), fun c2 hc2 => ?_⟩⟩⟩
    have m1F6 := same_upd (o := .lst [.str "number", .str d.shown]) ha2
    have kaF6 : (upd F6 a2 (.lst [.str "number", .str d.shown])) a2 = some (.lst [.str "number", .str d.shown]) := upd_same
    have m3F6 := (m1F6.trans (same_upd (o := .lst [.ref a2]) hb2)).trans (same_upd (o := .lst [.ref a2, .ref a2, .ref a2]) hc2)
    have kbF6 := ((same_upd (o := .lst [.ref a2]) hb2).trans (same_upd (o := .lst [.ref a2, .ref a2, .ref a2]) hc2)) _ _ kaF6
    have kcF6 : (upd (upd (upd F6 a2 (.lst [.str "number", .str d.shown])) b2 (.lst [.ref a2])) c2 (.lst [.ref a2, .ref a2, .ref a2])) c2 = some (.lst [.ref a2, .ref a2, .ref a2]) := upd_same
    have on2 : PyData.strOk "number" = true := by decide +kernel
    refine ⟨_, _, .lst (SqL.of (m3F6 _ _ TT6.at_)) (rows_dp fun R hR => m3F6 _ _ (TT6.ok R hR).1), .lst (SqL.of kcF6) (rows_dp (rs := [a2, a2, a2]) fun R hR => ?_), rows_shp on2 oi2 3, rows_shp on2 oi2 3, ?_⟩
    · have e : R = a2 := by simpa using hR
      rw [e]
      exact kbF6
    have fin : StpN r H2 _ := TT6.st.trans (Stp.same (Stp.refl TT6.st.1) m3F6).n
    have e : _ = true := rows_eqv on2 oi2 3
    have qq := q _ (s02.trans fin) (tabs_stp TT6.tb (rng_lst TT6.st.1) fun c o _ e => m3F6 c o e)
    rw [← e] at qq
    exact qq
end
end K26

set_option Elab.async false
set_option linter.all false
set_option maxRecDepth 100000
set_option maxHeartbeats 1600000
set_option pp.maxSteps 900
namespace K26
open PySem PySem.Spec PyProof.Rows L2 Gu Ex LamX
section
variable {K : PySem.W.Frag} {H : Hp} {w s : Str} {R : Addr}
theorem row_dp1 (h : H R = some (.lst [.str w, .str s])) : Dp K H (.ref R) (rowD w s) := .lst (SqL.of h) (.cons (.str _) (.cons (.str _) .nil))
theorem row_lay1 (a : PyData.strOk w = true) (b : PyData.strOk s = true) : (rowD w s).canLay0 = true := by
  unfold rowD
  simp only [PyData.canLay0, PyData.canLayAll0, a, b, Bool.and_self]
theorem row_shp1 (a : PyData.strOk w = true) (b : PyData.strOk s = true) : SeqAt.shaped (rowD w s) = true := by
  unfold SeqAt.shaped
  rw [row_lay1 a b]
  rfl
theorem row_eqv1 (a : PyData.strOk w = true) (b : PyData.strOk s = true) : PyData.eqv (rowD w s) (rowD w s) = true := SeqAt.eqv_refl _ (row_lay1 a b)
end
/-- the layout, its sizes' list and its blocks' list beside the drawing list -/
structure Wd (K : PySem.W.Frag) (r : Addr) (H : Hp) (y zp bl dx : Addr) (ps : List Addr) (ns : List Int) (n : Int) (bs : List Blk) (s lb : Addr) (qs : List Addr) : Prop where
  ly : LyR K r H y zp bl dx ps ns n bs
  rg : Rng H r
  hs : H s = some (.lst (ns.map V.int))
  sr : s ≠ r
  hb : H lb = some (.lst (qs.map V.ref))
  lr : lb ≠ r
  rf : Refs blkV H qs bs
  n2 : n ≤ 1000
  ln : bs.length ≤ 100
theorem Wd.stpN {K : PySem.W.Frag} {H G : Hp} {r y zp bl dx s lb : Addr} {ps qs : List Addr} {ns : List Int} {n : Int} {bs : List Blk} (W : Wd K r H y zp bl dx ps ns n bs s lb qs) (t : StpN r H G) : Wd K r G y zp bl dx ps ns n bs s lb qs := by
  obtain ⟨ra, rb, re, rf⟩ := id W.rg
  exact ⟨W.ly.stpN W.rg t, t.1, t.2 s _ W.sr (fun ps e => by cases e) W.hs, W.sr, t.2 lb _ W.lr (fun ps e => by cases e) W.hb, W.lr, W.rf.mono fun p xs e => t.2 p _ (fun z => by rw [z, re] at e; cases e) (fun ps e => by cases e) e, W.n2, W.ln⟩
section
variable {P : Program} {w : World} {K : PySem.W.Frag} {mg : Str → Option Value} {base : Heap} {f : Addr} {fd : FuncData}
def spPlaceC (K : PySem.W.Frag) (Pt : Nat → Addr) : Sp := fun vs H Q _ => ∃ (r y zp bl dx : Addr) (ps : List Addr) (ns : List Int) (n : Int) (bs : List Blk) (s lb : Addr) (qs : List Addr) (k : Nat), vs = [.ref r, .ref y, .ref s, .int n, .ref lb, .int k] ∧ Wd K r H y zp bl dx ps ns n bs s lb qs ∧ k < ns.length ∧ Tabs (tabs Pt) H ∧
  ∀ H', StpN r H H' → Tabs (tabs Pt) H' → Q (.bl true) H'
theorem sc__law_place_calls : FnScope ["_law_rng_here", "_law_layout_here", "_law_sizes_here", "_law_length", "_law_blocks_here", "_law_level", "_law_address", "_law_odd_here", "_law_starts", "_law_inside", "_law_lost", "_law_told", "_law_one", "_law_at"] ["_law_rng_here", "_law_layout_here", "_law_sizes_here", "_law_length", "_law_blocks_here", "_law_level"] (defScope (top 48)) := ⟨rfl, rfl, rfl, by decide +kernel, rfl, by decide +kernel, by decide +kernel⟩
theorem ok_placec {g cd : Addr} {Pt : Nat → Addr} {fdO : FuncData} (inj : Inj5 Pt) (T : Tx K mg) (KX : KitX K) (D__law_kind : DfE P w K mg base 1 "_law_kind" ["_law_e"] (spKind K)) (D__law_draw : Df P w K mg base 1 "_law_draw" ["_law_rng_here", "_law_many"] spDraw) (D__law_choice : Df P w K mg base 2 "_law_choice" ["_law_rng_here", "_law_options"] spChoice)
    (D__law_odd : Df P w K mg base 3 "_law_odd" ["_law_rng_here"] (spOddV K)) (D__law_no_region : Df P w K mg base 4 "_law_no_region" ["_law_rng_here", "_law_sizes_here", "_law_length", "_law_level"] (spNoReg K))
    (M_put_d : MfXD P w K mg base 9 "Layout" "put" ["self", "level", "address", "pinned"] [.bl false] (spPut K)) (M_block_at : MfX P w K mg base 7 "Layout" "block_at" ["self", "address"] (spAt K)) (M_take_out : MfX P w K mg base 6 "Layout" "take_out" ["self", "address"] (spTake K)) (M_set_pinned : MfX P w K mg base 5 "Layout" "set_pinned" ["self", "address", "pinned"] (spPin K))
    (FO : FnP K "_law_outcome" "_law_outcome" (top 41) g fdO) (gO : mg "_law_outcome" = some (.ref g)) (bO : L2.Binds K fdO ["_law_call"] []) (TB : TabB base mg cd (Pt 2)) (F : FnP K "_law_place_calls" "_law_place_calls" (top 48) f fd) (hcd : fd.code = .ref cd) :
    FnG P w K mg base CX0 16 f fd ["_law_rng_here", "_law_layout_here", "_law_sizes_here", "_law_length", "_law_blocks_here", "_law_level"] (spPlaceC K Pt) := by
  refine okGc F sc__law_place_calls (fun vs H Q E h => ?_) (fun A outer s H vs Q E hr h => ⟨_, PSs.nox (pss_cons (ps_set (i := 6) sc__law_place_calls.nd rfl (by first | exact Or.inl rfl | exact Or.inr rfl) (pcall D__law_no_region hr.r (pa_cons (pv 0) (pa_cons (pv 2) (pa_cons (pv 3) (pa_cons (pv 5) pa_nil)))))) (pss_cons (ps_if (pt_cmpR (op_neD hr.r.units) (pe_lamgive (k := 12) (t := fun E => tMeth (He.ga K "Layout") "put" (spPut K) [.bl false] E (tVar 1) (tCons (tVar 5) (tCons (tVar 6) tNil))) (T := tabs Pt) (P := Pt 2) (c := cd) (Sg := sc__law_outcome) FO (by rfl) gO bO rfl (.inl rfl) (fun cdg => outcome_gives T KX D__law_kind (hr.mono (by decide))) TB hcd (List.mem_cons_of_mem _ (List.mem_cons_of_mem _ List.mem_cons_self)) (tabs_one2 inj) (hr.r.mono (by decide)) (lamS_by (sc := defScope (top 48)) (by decide +kernel)) rfl (fun _ _ _ _ _ => by rfl) (fun A2 o2 s2 H2 E2 f2 c2 hr2 => by exact pmethXD M_put_d hr2 (passX (takes_of (E := E2) rfl rfl rfl rfl)) (pv 1) (pa_cons (pv 5) (pa_cons (pv 6) pa_nil)))) (pe_lst (pa_cons pe_str (pa_cons (pe_callB (call_reprQ hr T.sys) (by rfl) T.n_repr (by decide +kernel) (pa_cons (pv 6) pa_nil)) pa_nil))) (nomark _)) (pss_one (ps_ret pe_bl)) pss_nil) (pss_cons (ps_set (i := 7) sc__law_place_calls.nd rfl (by first | exact Or.inl rfl | exact Or.inr rfl) (pcall D__law_choice hr.r (pa_cons (pv 0) (pa_cons (pe_lst (pa_cons (pcall D__law_odd hr.r (pa_cons (pv 0) pa_nil)) (pa_cons (pv 3) (pa_cons (pe_op op_add (pv 3) (pcall D__law_draw hr.r (pa_cons (pv 0) (pa_cons pe_int pa_nil)))) pa_nil)))) pa_nil)))) (pss_cons (ps_if (pt_cmpR (op_neD hr.r.units) (pe_lamgive (k := 12) (t := fun E => tMeth (He.ga K "Layout") "block_at" (spAt K) [] E (tVar 1) (tCons (tVar 7) tNil)) (T := tabs Pt) (P := Pt 2) (c := cd) (Sg := sc__law_outcome) FO (by rfl) gO bO rfl (.inl rfl) (fun cdg => outcome_gives T KX D__law_kind (hr.mono (by decide))) TB hcd (List.mem_cons_of_mem _ (List.mem_cons_of_mem _ List.mem_cons_self)) (tabs_one2 inj) (hr.r.mono (by decide)) (lamS_by (sc := defScope (top 48)) (by decide +kernel)) rfl (fun _ _ _ _ _ => by rfl) (fun A2 o2 s2 H2 E2 f2 c2 hr2 => by exact pmethX M_block_at hr2 (passX (takes_of (E := E2) rfl rfl rfl rfl)) (pv 1) (pa_cons (pv 7) pa_nil))) (pe_lst (pa_cons pe_str (pa_cons (pe_callB (call_reprQ hr T.sys) (by rfl) T.n_repr (by decide +kernel) (pa_cons (pv 7) pa_nil)) pa_nil))) (nomark _)) (pss_one (ps_ret pe_bl)) pss_nil) (pss_cons (ps_set (i := 8) sc__law_place_calls.nd rfl (by first | exact Or.inl rfl | exact Or.inr rfl) (pe_lc (own := [("_law_one", 12)]) (g := gName 12) rfl sc__law_place_calls.nd (pi_list (pv 4)) (blkOk_by (own := [("_law_one", 12)]) (N := ["_law_rng_here", "_law_layout_here", "_law_sizes_here", "_law_length", "_law_blocks_here", "_law_level", "_law_address", "_law_odd_here", "_law_starts", "_law_inside", "_law_lost", "_law_told", "_law_one", "_law_at"]) (sc := defScope (top 48)) (by decide +kernel)) (fun _ _ _ _ _ => pg_name (i := 12) sc__law_place_calls.nd rfl (Or.inl rfl)) (fun _ _ _ _ _ => pts_nil) (fun _ _ _ _ _ => (pe_ix (r := rIxT K) ix_tup (pv 12) pe_int (fun _ _ => rfl))))) (pss_cons (ps_setLc (i := 9) (own := [("_law_at", 13)]) (g := gName 13) rfl sc__law_place_calls.nd rfl rfl (sw_true rfl rfl rfl (by decide +kernel)) (pi_range1 rfl T.n_range (pa_cons (pe_callB (call_min2 rfl) (by rfl) T.n_min (by decide +kernel) (pa_cons (pv 3) (pa_cons pe_int pa_nil))) pa_nil)) (blkOk_by (own := [("_law_at", 13)]) (N := ["_law_rng_here", "_law_layout_here", "_law_sizes_here", "_law_length", "_law_blocks_here", "_law_level", "_law_address", "_law_odd_here", "_law_starts", "_law_inside", "_law_lost", "_law_told", "_law_one", "_law_at"]) (sc := defScope (top 48)) (by decide +kernel)) (fun _ _ _ _ _ => pg_name (i := 13) sc__law_place_calls.nd rfl (Or.inl rfl)) (fun _ _ _ _ _ => (pts_one (pt_cmpR (r := rIn K true) op_notIn_seq (pv 13) (pv 8) (by rfl)))) (fun _ _ _ _ _ => (pv 13))) (pss_cons (ps_set (i := 10) sc__law_place_calls.nd rfl (by first | exact Or.inl rfl | exact Or.inr rfl) (pcall D__law_choice hr.r (pa_cons (pv 0) (pa_cons (pe_op op_cat (pe_lst (pa_cons (pv 7) pa_nil)) (pv 9)) pa_nil)))) (pss_cons (ps_set (i := 11) sc__law_place_calls.nd rfl (by first | exact Or.inl rfl | exact Or.inr rfl) (pe_lst (pa_cons (pe_lamgive (k := 12) (t := fun E => tMeth (He.ga K "Layout") "take_out" (spTake K) [] E (tVar 1) (tCons (tVar 10) tNil)) (T := tabs Pt) (P := Pt 2) (c := cd) (Sg := sc__law_outcome) FO (by rfl) gO bO rfl (.inl rfl) (fun cdg => outcome_gives T KX D__law_kind (hr.mono (by decide))) TB hcd (List.mem_cons_of_mem _ (List.mem_cons_of_mem _ List.mem_cons_self)) (tabs_one2 inj) (hr.r.mono (by decide)) (lamS_by (sc := defScope (top 48)) (by decide +kernel)) rfl (fun _ _ _ _ _ => by rfl) (fun A2 o2 s2 H2 E2 f2 c2 hr2 => by exact pmethX M_take_out hr2 (passX (takes_of (E := E2) rfl rfl rfl rfl)) (pv 1) (pa_cons (pv 10) pa_nil))) pa_nil))) (pss_cons (ps_expr (pe_bm PySem.F.plainAttrs_list PySem.F.slot_list_append PySem.F.type_list_append mt_append (pv 11) (pa_cons (pe_lamgive (k := 12) (t := fun E => tMeth (He.ga K "Layout") "set_pinned" (spPin K) [] E (tVar 1) (tCons (tVar 10) (tCons (tC (.bl true)) tNil))) (T := tabs Pt) (P := Pt 2) (c := cd) (Sg := sc__law_outcome) FO (by rfl) gO bO rfl (.inl rfl) (fun cdg => outcome_gives T KX D__law_kind (hr.mono (by decide))) TB hcd (List.mem_cons_of_mem _ (List.mem_cons_of_mem _ List.mem_cons_self)) (tabs_one2 inj) (hr.r.mono (by decide)) (lamS_by (sc := defScope (top 48)) (by decide +kernel)) rfl (fun _ _ _ _ _ => by rfl) (fun A2 o2 s2 H2 E2 f2 c2 hr2 => by exact pmethX M_set_pinned hr2 (passX (takes_of (E := E2) rfl rfl rfl rfl)) (pv 1) (pa_cons (pv 10) (pa_cons pe_bl pa_nil)))) pa_nil))) (pss_one (ps_ret (pe_cmpR (op_eqD hr.r.units) (pv 11) (pe_op op_rep (pe_lst (pa_cons (pe_lst (pa_cons pe_str (pa_cons (pe_callB (call_reprQ hr T.sys) (by rfl) T.n_repr (by decide +kernel) (pa_cons (pv 10) pa_nil)) pa_nil))) pa_nil)) pe_int) (nomark _))))))))))))), ?_⟩)
  · obtain ⟨r, y, zp, bl, dx, ps, ns, n, bs, s, lb, qs, k, rfl, _⟩ := h
    rfl
  · obtain ⟨r, y, zp, bl, dx, ps, ns, n, bs, s, lb, qs, k, rfl, W, hk, tb, q⟩ := h
    have sl : sizeLine = 16777216 := sizeLine_eq
    have oa : PyData.strOk "address" = true := by decide +kernel
    have ob : PyData.strOk "block" = true := by decide +kernel
    have L := W.ly.ly
    have n1 := L.n1
    have n2 := W.n2
    refine ⟨_, rfl, _, rfl, _, rfl, _, rfl, r, s, ns, n, k, rfl, W.rg, W.hs, W.sr, L.gd, hk, n1, L.n2, fun v d H1 t1 vd nb => ?_⟩
    refine nx_of (σ' := [some (.ref r), some (.ref y), some (.ref s), some (.int n), some (.ref lb), some (.int k), some v, none, none, none, none, none, none, none]) rfl ?_
    have s01 := t1.n
    have s11 : StpN r H1 H1 := (Stp.refl t1.1).n
    have W1 := W.stpN s01
    have tb1 : Tabs (tabs Pt) H1 := tabs_stp tb (rng_lst W.rg) t1.2
    refine one_at (K := K) 1 (by decide) (fun G s => (vd G s).2) _ _ _ s11 tb1 (fun G1 E N sg ra => ?_) (fun R0 G0 s0 x0 tb0 h0 fr0 => ?_)
    · exact ⟨_, rfl, y, dx, _, rfl, (W1.stpN sg).ly.ly.at_, lay_nm (by decide +kernel), _, rfl, _, rfl, y, zp, bl, dx, ps, ns, n, bs, k, false, v, rfl, (W1.stpN sg).ly.ly, Nat.lt_of_le_of_lt W.ln (by decide), hk, (vd G1 sg).1.1, (fun a _ z => absurd (nb.symm.trans z) Bool.false_ne_true), (fun a t _ z => absurd (nb.symm.trans z) Bool.false_ne_true), fun _ => ra⟩
    have tq0 := (vd G0 s0).2
    have ok0 := (vd G0 s0).1.2
    refine ⟨_, rfl, _, _, rfl, tq0.dq, tq0.sh, Nat.le_trans tq0.dp (by decide), Nat.le_trans tq0.ln (by decide), (by show 2 ≤ sizeLine; decide), fun a ha => ?_⟩
    have m0 := same_upd (o := .lst [.str "address", .str d.shown]) ha
    refine ⟨_, _, row_dp1 (m0 _ _ h0), row_dp1 (w := "address") (s := d.shown) upd_same, row_shp1 oa ok0, row_shp1 oa ok0, ?_⟩
    refine ⟨_, rfl, ifF (congrArg (fun b => !b) (row_eqv1 oa ok0)) ?_⟩
    have s0a : StpN r H1 _ := s0.trans (Stp.same (Stp.refl s0.1) m0).n
    have tb0a := tabs_stp tb0 (rng_lst s0.1) fun c o _ e => m0 c o e
    generalize upd G0 a (.lst [.str "address", .str d.shown]) = G0a at s0a tb0a
    refine ⟨_, rfl, _, rfl, r, rfl, s0a.1, fun u du H2 t2 vu ou => ?_⟩
    refine ⟨_, rfl, _, rfl, _, rfl, r, 99, rfl, t2.1, by decide, by decide, fun e H3 e0 e1 t3 => ⟨_, _, rfl, rfl, (by show 3 ≤ sizeLine; decide), fun po ho => ?_⟩⟩
    have t23 := t2.trans t3
    have t3p := t23.new (o := .lst [u, .int n, .int (n + e)]) ho
    refine ⟨r, po, _, rfl, t3p.1, upd_same, (Rng.ne t23.1 ho).symm, (by show 1 ≤ 3; decide), (by show 3 ≤ 1000; decide), fun o H4 ho4 t4 => ?_⟩
    have b39 : (10 : Int) ^ 39 = 1000000000000000000000000000000000000000 := by decide
    have t14 : StpN r H1 H4 := s0a.trans (t3p.trans t4).n
    obtain ⟨d4, vo, no⟩ : ∃ d4, Vd K r H4 o d4 ∧ (∀ i, o = .int i → i < 0 ∨ n ≤ i) := by
      simp only [List.mem_cons, List.not_mem_nil, or_false] at ho4
      rcases ho4 with rfl | rfl | rfl
      · refine ⟨du, (vu.stp (t3.new (o := .lst [o, .int n, .int (n + e)]) ho)).stp t4, fun i ei => ?_⟩
        have := ou i ei
        omega
      · exact ⟨_, vd_int (by omega) (by omega), fun i ei => .inr (by rw [← V.int.inj ei]; exact Int.le_refl _)⟩
      · exact ⟨_, vd_int (i := n + e) (by omega) (by omega), fun i ei => .inr (by rw [← V.int.inj ei]; omega)⟩
    have nat : atB n o = false := by
      cases o with
      | int i => exact decide_eq_false fun z => by have := no i rfl; omega
      | _ => rfl
    refine nx_of (σ' := [some (.ref r), some (.ref y), some (.ref s), some (.int n), some (.ref lb), some (.int k), some v, some o, none, none, none, none, none, none]) rfl ?_
    have W4 := W1.stpN t14
    have s44 : StpN r H4 H4 := (Stp.refl W4.rg).n
    have tb4 : Tabs (tabs Pt) H4 := tabs_stp tb0a (rng_lst s0a.1) (t3p.trans t4).2
    refine one_at (K := K) 1 (by decide) (fun G s => (vo G s).2) _ _ _ s44 tb4 (fun G1 E N sg ra => ?_) (fun R1 G1 s1 x1 tb1 h1 fr1 => ?_)
    · exact ⟨_, rfl, y, dx, _, rfl, (W4.stpN sg).ly.ly.at_, lay_nm (by decide +kernel), _, rfl, y, zp, bl, dx, ps, ns, n, bs, o, rfl, (W4.stpN sg).ly.ly, (vo G1 sg).1.1, fun a ea a0 an => by have := no a ea; omega, fun _ => ra⟩
    have tq1 := (vo G1 s1).2
    have ok1 := (vo G1 s1).1.2
    refine ⟨_, rfl, _, _, rfl, tq1.dq, tq1.sh, Nat.le_trans tq1.dp (by decide), Nat.le_trans tq1.ln (by decide), (by show 2 ≤ sizeLine; decide), fun a1 ha1 => ?_⟩
    have m1 := same_upd (o := .lst [.str "address", .str d4.shown]) ha1
    refine ⟨_, _, row_dp1 (m1 _ _ h1), row_dp1 (w := "address") (s := d4.shown) upd_same, row_shp1 oa ok1, row_shp1 oa ok1, ?_⟩
    refine ⟨_, rfl, ifF (congrArg (fun b => !b) (row_eqv1 oa ok1)) ?_⟩
    have s1a : StpN r H4 _ := s1.trans (Stp.same (Stp.refl s1.1) m1).n
    have tb1a := tabs_stp tb1 (rng_lst s1.1) fun c o _ e => m1 c o e
    generalize upd G1 a1 (.lst [.str "address", .str d4.shown]) = H5 at s1a tb1a
    have W5 := W4.stpN s1a
    have vo5 := vo.stpN s1a
    have R5 := W5.rg
    have in_n : ∀ b ∈ bs, 0 ≤ b.1 ∧ b.1 < n := fun b hb => by
      obtain ⟨h1, h2, h3, h4⟩ := L.wf.ok b hb
      have := L.wf.pos L.gd hb
      unfold bEnd at h4
      omega
    refine nx_of (σ' := [some (.ref r), some (.ref y), some (.ref s), some (.int n), some (.ref lb), some (.int k), some v, some o, none, none, none, none, none, none]) rfl (go_asg ?_)
    refine ⟨_, rfl, lb, rfl, ⟨_, SqL.of W5.hb⟩, fun D hD => ?_⟩
    refine lc_list (xs := qs.map V.ref) (fun i G => G D = some (.lst ((bs.take i).map fun b => V.int b.1)) ∧ Same H5 G) ⟨upd_same, same_upd hD⟩ (fun i G _ z => SqL.of (z.2 _ _ W5.hb)) ?_ ?_
    · rintro i x G hx ⟨gD, sm⟩
      have il : i < bs.length := by
        have := (List.getElem?_eq_some_iff.mp hx).1
        rw [List.length_map, W5.rf.len] at this
        exact this
      obtain ⟨b, hb⟩ : ∃ b, bs[i]? = some b := ⟨_, List.getElem?_eq_getElem il⟩
      obtain ⟨p, hp, hT⟩ := W5.rf.at_ hb
      rw [List.getElem?_map, hp] at hx
      obtain rfl : x = .ref p := (Option.some.inj hx).symm
      refine ⟨rfl, _, rfl, p, _, _, _, rfl, rfl, SqT.of (sm _ _ hT), rfl, _, gD, ?_, ?_, ?_⟩
      · rw [List.length_map, List.length_take]
        have := W.ln
        omega
      · rw [upd_same, List.take_add_one, hb, List.map_append]
        rfl
      · exact fun c o e => by
          rw [upd_ne (ne_of_none e hD)]
          exact sm c o e
    · rintro G ⟨gD, sm⟩
      have e1 : List.take (List.map V.ref qs).length bs = bs := by rw [List.length_map, W5.rf.len, List.take_length]
      rw [e1] at gD
      refine at_st (σ' := [some (.ref r), some (.ref y), some (.ref s), some (.int n), some (.ref lb), some (.int k), some v, some o, some (.ref D), none, none, none, none, none]) rfl (go_asg ?_)
      refine ⟨_, rfl, _, _, rfl, _, rfl, (by split <;> omega), (by split <;> omega), fun D2 hD2 => ?_⟩
      refine lc_range (fun i F => (∃ is : List Int, F D2 = some (.lst (is.map V.int)) ∧ is.length ≤ i ∧ ∀ x ∈ is, 0 ≤ x ∧ x ≤ 60 ∧ ∀ b ∈ bs, x ≠ b.1) ∧ Same G F) ⟨⟨[], upd_same, Nat.zero_le _, fun x hx => nomatch hx⟩, same_upd hD2⟩ ?_ ?_
      · rintro i F hi ⟨⟨is, gI, li, ai⟩, smF⟩
        have i60 : i < 60 := by
          split at hi <;> omega
        refine ⟨rfl, _, rfl, _, rfl, D, _, rfl, .inl (SqL.of (smF _ _ gD)), rfl, ?_, _, rfl, ?_⟩
        · rw [List.all_map]
          exact List.all_eq_true.mpr fun _ _ => rfl
        · by_cases c : inV (V.int (0 + (i : Nat))) (bs.map fun b => V.int b.1) = true
          · refine ifF (by show (!inV (V.int (0 + (i : Nat))) (bs.map fun b => V.int b.1)) = false; rw [c]; rfl) ⟨⟨is, gI, by omega, ai⟩, smF⟩
          · refine ifT (by show (!inV (V.int (0 + (i : Nat))) (bs.map fun b => V.int b.1)) = true; rw [Bool.not_eq_true _ |>.mp c]; rfl) ⟨_, rfl, _, gI, (by rw [List.length_map]; omega), ⟨is ++ [(0 + (i : Nat) : Int)], (by rw [upd_same, List.map_append]; rfl), (by rw [List.length_append]; show is.length + 1 ≤ i + 1; omega), fun x hx => ?_⟩, fun c2 o2 e2 => ?_⟩
            · rcases List.mem_append.mp hx with z | z
              · exact ai x z
              · obtain rfl := List.mem_singleton.mp z
                refine ⟨by omega, by omega, fun b hb e => c (List.any_eq_true.mpr ⟨V.int b.1, List.mem_map.mpr ⟨b, hb, rfl⟩, ?_⟩)⟩
                show (b.1 == (0 + (i : Nat) : Int)) = true
                rw [e]
                exact beq_self_eq_true _
            · rw [upd_ne (ne_of_none e2 hD2)]
              exact smF c2 o2 e2
      · rintro F ⟨⟨is, gI, li, ai⟩, smF⟩
        refine at_st (σ' := [some (.ref r), some (.ref y), some (.ref s), some (.int n), some (.ref lb), some (.int k), some v, some o, some (.ref D), some (.ref D2), none, none, none, none]) rfl (go_asg ?_)
        have k60 : is.length ≤ 60 := by
          split at li <;> omega
        have smF5 : Same H5 F := sm.trans smF
        have TF : Stp r H5 F := Stp.same (Stp.refl R5) smF5
        refine ⟨_, rfl, _, rfl, (by show 1 ≤ sizeLine; omega), fun c1 hc1 => ?_⟩
        have m2 := same_upd (o := .lst [o]) hc1
        refine ⟨_, rfl, c1, D2, _, _, rfl, rfl, upd_same, m2 _ _ gI, (by rw [List.length_map]; show 1 + is.length ≤ sizeLine; omega), fun c2 hc2 => ?_⟩
        have m3 := same_upd (o := .lst ([o] ++ is.map V.int)) hc2
        have T2 := Stp.same TF (m2.trans m3)
        refine ⟨r, c2, _, rfl, T2.1, upd_same, (Rng.ne (Stp.same TF m2).1 hc2).symm, (by rw [List.length_append]; show 1 ≤ 1 + _; omega), (by rw [List.length_append, List.length_map]; show 1 + is.length ≤ 1000; omega), fun o6 H7 ho6 t7 => ?_⟩
        have s57 : StpN r H5 H7 := (T2.trans t7).n
        obtain ⟨d6, vl, nl⟩ : ∃ d6, Vd K r H7 o6 d6 ∧ ∀ b ∈ bs, o6 ≠ .int b.1 := by
          rcases List.mem_append.mp ho6 with z | z
          · obtain rfl := List.mem_singleton.mp z
            exact ⟨d4, vo5.stpN s57, fun b hb e => by have := no _ e; have := in_n b hb; omega⟩
          · obtain ⟨x, hx, rfl⟩ := List.mem_map.mp z
            obtain ⟨x0, x60, xb⟩ := ai x hx
            exact ⟨_, vd_int (by omega) (by omega), fun b hb e => xb b hb (V.int.inj e)⟩
        have W7 := W5.stpN s57
        have s77 : StpN r H7 H7 := (Stp.refl W7.rg).n
        have tb7 : Tabs (tabs Pt) H7 := tabs_stp tb1a (rng_lst R5) (T2.trans t7).2
        refine at_st (σ' := [some (.ref r), some (.ref y), some (.ref s), some (.int n), some (.ref lb), some (.int k), some v, some o, some (.ref D), some (.ref D2), some o6, none, none, none]) rfl (go_asg ?_)
        refine one_at (K := K) 4 (by decide) (fun G s => (vl G s).2) _ _ _ s77 tb7 (fun G1 E N sg ra => ?_) (fun R2 G2 s2 x2 tb2 h2 fr2 => ⟨(by show 1 ≤ sizeLine; omega), fun M hM => ?_⟩)
        · exact ⟨_, rfl, y, dx, _, rfl, (W7.stpN sg).ly.ly.at_, lay_nm (by decide +kernel), _, rfl, y, zp, bl, dx, ps, ns, n, bs, o6, rfl, (W7.stpN sg).ly.ly, (vl G1 sg).1.1, fun _ => ra, fun j b hb e => absurd e (nl b (List.mem_of_getElem? hb))⟩
        have neR : R2 ≠ r := by
          obtain ⟨ra, rb, re, rf⟩ := id W7.rg
          exact (fr2 r _ re (fun ps e => by cases e)).symm
        have TT2 := Told.first (T := tabs Pt) (H := H7) s2 tb2 h2 neR hM W7.rg
        show tSeq _ _ _ _ _
        refine at_st (σ' := [some (.ref r), some (.ref y), some (.ref s), some (.int n), some (.ref lb), some (.int k), some v, some o, some (.ref D), some (.ref D2), some o6, some (.ref M), none, none]) rfl ?_
        generalize upd G2 M (.lst [.ref R2]) = F2 at TT2
        refine ⟨_, rfl, .inl ⟨rfl, _, SqL.of TT2.at_⟩, ?_⟩
        refine one_at (K := K) 4 (by decide) (fun G s => (vl G s).2) _ _ _ TT2.st TT2.tb (fun G1 E N sg ra => ?_) (fun R3 G3 s3 x3 tb3 h3 fr3 => ?_)
        · exact ⟨_, rfl, y, dx, _, rfl, (W7.stpN sg).ly.ly.at_, lay_nm (by decide +kernel), _, rfl, y, zp, bl, dx, ps, ns, n, bs, o6, true, rfl, (W7.stpN sg).ly.ly, (vl G1 sg).1.1, fun _ => ra, fun j b hb e => absurd e (nl b (List.mem_of_getElem? hb))⟩
        obtain ⟨hM3, TT3⟩ := TT2.more s3 x3 tb3 h3 fr3
        refine ⟨M, _, _, rfl, rfl, hM3, (by show 1 + 1 ≤ sizeLine; omega), ?_⟩
        generalize upd G3 M _ = F3 at TT3
        have ok6 := (vl F3 TT3.st).1.2
        have tqF3 := (vl F3 TT3.st).2
        refine ⟨_, rfl, _, rfl, _, _, rfl, tqF3.dq, tqF3.sh, Nat.le_trans tqF3.dp (by decide), Nat.le_trans tqF3.ln (by decide), (by show 2 ≤ sizeLine; omega), fun a2 ha2 => ⟨(by show 1 ≤ sizeLine; omega), fun b2 hb2 => ⟨b2, 2, _, rfl, rfl, upd_same, by decide, by decide, (by show 1 * 2 ≤ sizeLine; omega), fun c2 hc2 => ?_⟩⟩⟩
        have m1F3 := same_upd (o := .lst [.str "block", .str d6.shown]) ha2
        have kaF3 : (upd F3 a2 (.lst [.str "block", .str d6.shown])) a2 = some (.lst [.str "block", .str d6.shown]) := upd_same
        have m3F3 := (m1F3.trans (same_upd (o := .lst [.ref a2]) hb2)).trans (same_upd (o := .lst [.ref a2, .ref a2]) hc2)
        have kbF3 := ((same_upd (o := .lst [.ref a2]) hb2).trans (same_upd (o := .lst [.ref a2, .ref a2]) hc2)) _ _ kaF3
        have kcF3 : (upd (upd (upd F3 a2 (.lst [.str "block", .str d6.shown])) b2 (.lst [.ref a2])) c2 (.lst [.ref a2, .ref a2])) c2 = some (.lst [.ref a2, .ref a2]) := upd_same
        refine ⟨_, _, .lst (SqL.of (m3F3 _ _ TT3.at_)) (rows_dp fun R hR => m3F3 _ _ (TT3.ok R hR).1), .lst (SqL.of kcF3) (rows_dp (rs := [a2, a2]) fun R hR => ?_), rows_shp ob ok6 2, rows_shp ob ok6 2, ?_⟩
        · have e : R = a2 := by simpa using hR
          rw [e]
          exact kbF3
        have e : _ = true := rows_eqv ob ok6 2
        have fin := TT3.st.trans (Stp.same (Stp.refl TT3.st.1) m3F3).n
        have qq := q _ (s01.trans (t14.trans (s1a.trans (s57.trans fin)))) (tabs_stp TT3.tb (rng_lst TT3.st.1) fun c o _ e => m3F3 c o e)
        rw [← e] at qq
        exact qq
end
end K26

set_option Elab.async false
set_option linter.all false
set_option maxRecDepth 100000
set_option maxHeartbeats 1600000
set_option pp.maxSteps 900
namespace K26
open PySem PySem.Spec PyProof.Rows L2 Gu Ex LamX
theorem stp_free {r R : Addr} {H H' : Hp} (s : Stp r H H') (h : H' R = none) : H R = none := by
  cases e : H R with
  | none => rfl
  | some o =>
    by_cases z : R = r
    · obtain ⟨a, b, f, _⟩ := s.1
      rw [z, f] at h
      cases h
    · rw [s.2 R o z e] at h
      cases h
/-- what outcome makes of a lambda that draws and then raises Occupied with the address i -/
def TTocc (K : PySem.W.Frag) : (XK → Hp → VK → Prop) → Hp → VK → Prop := fun tl H Q => ∃ (r : Addr) (i : Int), Rng H r ∧ -(10 ^ 39) ≤ i ∧ i ≤ 10 ^ 39 ∧
  (∀ (H1 : Hp) (E : XK) (N : VK), Same H H1 → (∀ dd H2, H1 dd = none → Stp r H1 H2 → H2 dd = some (.xd [("address", .int i)]) → E (.ref (wc K 5)) (some dd) H2) → tl E H1 N) ∧
  ∀ R H3, H R = none → Stp r H H3 → H3 R = some (.lst [.str "occupied", .str (PyData.int i).shown]) → Q (.ref R) H3
theorem outcome_givesO {X : Cx} (T : Tx X.K X.mg) (KX : KitX X.K) (D__law_kind : DfE X.prog X.w X.K X.mg X.base 1 "_law_kind" ["_law_e"] (spKind X.K)) (hr : RoomG 3 X.A) {g : Addr} {cdg : Value} {q : Str} :
    GivesAt X ["_law_call", "_law_told", "_law_e"] "_law_outcome" (defScope (top 41)) g cdg (defBody (top 41)) "_law_call" q (TTocc X.K) := by
  intro f c' s H Q tl act hc ⟨r, i, hR, i1, i2, h1, h2⟩
  refine ⟨_, pss_cons (ps_set (i := 1) sc__law_outcome.nd rfl (Or.inl rfl) (pe_lst (pa_cons pe_str pa_nil)))
    (pss_cons (ps_try_as4 (X := (cxOf CX0 X.prog X.w X.K X.mg X.base ["_law_call", "_law_told", "_law_e"] "_law_outcome" (defScope (top 41)) g cdg X.A X.stack s H E0).nox) (i := 2) (n := "_law_e")
        (tb := fun W => tDrop (fun σZ HZ Q => σZ[0]? = some (some (.ref f)) ∧ HZ c' = some (CodeO c' q) ∧ tl (WE W σZ) HZ Q)) (l := [(.four (.ref (cL X.K)) (.ref (cA X.K)) (.ref (cNu X.K)) (.ref (cU X.K)), t_oc X.K "value"), (.one (.ref (cNs X.K)), t_oc X.K "position"), (.one (.ref (cO X.K)), t_oc X.K "address")]) (Wout := fun _ _ _ _ => False)
        rfl rfl sc__law_outcome.nd rfl rfl LamX.takes0 (fun W pn xe tk _ => pss_one (ps_expr (by exact (act W pn xe _ _ tk))))
        (HdAs4.four ⟨rfl, by decide, Or.inl T.g_InvalidLevel⟩ ⟨rfl, by decide, Or.inl T.g_InvalidAddress⟩ ⟨rfl, by decide, Or.inl T.g_InvalidNumber⟩ ⟨rfl, by decide, Or.inl T.g_UnknownBlock⟩
          (fun a oe cls d pn hz hf => pss_one (ps_set (i := 1) sc__law_outcome.nd rfl (Or.inl rfl) (by exact (pe_lst (pa_cons (by exact (pcallE D__law_kind (L2H.roomH_mark (hr.down (envOfC "_law_outcome" (defScope (top 41)) s.heap.objs.size g cdg)).r _) List.mem_cons_self hz hf (pa_cons (pv 2) pa_nil))) (pa_cons (by exact (pe_callB (id := "repr") (call_reprH (hr.down (envOfC "_law_outcome" (defScope (top 41)) s.heap.objs.size g cdg)).g (hr.down (envOfC "_law_outcome" (defScope (top 41)) s.heap.objs.size g cdg)).r.units T.sys) (by rfl) T.n_repr (by decide +kernel) (pa_cons (by exact (pe_xfA hz hf (pv 2))) pa_nil))) pa_nil))))))
        (HdAs4.one ⟨rfl, by decide, Or.inl T.g_InvalidNumbers⟩
          (fun a oe cls d pn hz hf => pss_one (ps_set (i := 1) sc__law_outcome.nd rfl (Or.inl rfl) (by exact (pe_lst (pa_cons (by exact (pcallE D__law_kind (L2H.roomH_mark (hr.down (envOfC "_law_outcome" (defScope (top 41)) s.heap.objs.size g cdg)).r _) List.mem_cons_self hz hf (pa_cons (pv 2) pa_nil))) (pa_cons (by exact (pe_callB (id := "repr") (call_reprH (hr.down (envOfC "_law_outcome" (defScope (top 41)) s.heap.objs.size g cdg)).g (hr.down (envOfC "_law_outcome" (defScope (top 41)) s.heap.objs.size g cdg)).r.units T.sys) (by rfl) T.n_repr (by decide +kernel) (pa_cons (by exact (pe_xfA hz hf (pv 2))) pa_nil))) pa_nil))))))
        (HdAs4.one ⟨rfl, by decide, Or.inl T.g_Occupied⟩
          (fun a oe cls d pn hz hf => pss_one (ps_set (i := 1) sc__law_outcome.nd rfl (Or.inl rfl) (by exact (pe_lst (pa_cons (by exact (pcallE D__law_kind (L2H.roomH_mark (hr.down (envOfC "_law_outcome" (defScope (top 41)) s.heap.objs.size g cdg)).r _) List.mem_cons_self hz hf (pa_cons (pv 2) pa_nil))) (pa_cons (by exact (pe_callB (id := "repr") (call_reprH (hr.down (envOfC "_law_outcome" (defScope (top 41)) s.heap.objs.size g cdg)).g (hr.down (envOfC "_law_outcome" (defScope (top 41)) s.heap.objs.size g cdg)).r.units T.sys) (by rfl) T.n_repr (by decide +kernel) (pa_cons (by exact (pe_xfA hz hf (pv 2))) pa_nil))) pa_nil))))))
        .nil))))
    (pss_one (ps_ret (pv 1)))), ?_⟩
  refine ⟨(by show 1 ≤ sizeLine; decide), fun l hl => ?_⟩
  have sl : Same H (upd H l (.lst [.str "returned"])) := same_upd hl
  refine ⟨rfl, sl _ _ hc, h1 _ _ _ sl fun dd H2 hd s2 hx => ?_⟩
  refine ⟨false, KX.e4 5 (by decide), fun z => Bool.noConfusion z, fun _ => ⟨false, KX.eN 5 (by decide), fun z => Bool.noConfusion z, fun _ => ⟨true, KX.eO 5 (by decide), fun _ a0 ha0 => ?_, fun z => Bool.noConfusion z⟩⟩⟩
  refine ⟨_, rfl, wc X.K 5, rfl, ⟨5, dd, _, by decide, rfl, KX.w 5 (by decide), rfl, hx, fun H3 s3 => ?_⟩⟩
  have sA : Stp r H H3 := Stp.same ((Stp.same (Stp.refl hR) sl).trans s2) s3
  have tq : Tq X.K H3 (.int i) (.int i) 4 200 := (tq_int i1 i2).mono (by decide) (by decide)
  refine ⟨wc X.K 5, KX.xf 5 (by decide), KX.no 5 (by decide), _, rfl, rfl, rfl, dd, _, .int i, rfl, s3 _ _ hx, (by simp [List.lookup]), _, _, rfl, tq.dq, tq.sh, Nat.le_trans tq.dp (by decide), Nat.le_trans tq.ln (by decide), (by show 2 ≤ sizeLine; decide), fun R hR2 => ?_⟩
  exact ⟨_, rfl, h2 R _ (stp_free sA hR2) (Stp.same sA (same_upd hR2)) upd_same⟩
theorem taken_first {ns : List Int} {n : Int} {bs : List Blk} {lo hi : Int} (w : Wf ns n bs) (g : Good ns) (lh : lo < hi) {b0 : Blk} {rest : List Blk} (h : bs.filter (fun b => decide (b.1 < hi ∧ lo < bEnd ns b)) = b0 :: rest) : Taken ns bs lo hi (if b0.1 > lo then b0.1 else lo) := by
  have m0 : b0 ∈ bs.filter (fun b => decide (b.1 < hi ∧ lo < bEnd ns b)) := by rw [h]; exact List.mem_cons_self
  obtain ⟨hb, z⟩ := List.mem_filter.mp m0
  obtain ⟨c1, c2⟩ := of_decide_eq_true z
  have p0 := w.pos g hb
  have so := w.so.filter (fun b => decide (b.1 < hi ∧ lo < bEnd ns b))
  rw [h] at so
  have first : ∀ b ∈ bs, b.1 < hi → lo < bEnd ns b → b0.1 ≤ b.1 := fun b hb1 d1 d2 => by
    have mb : b ∈ b0 :: rest := by
      rw [← h]
      exact List.mem_filter.mpr ⟨hb1, decide_eq_true ⟨d1, d2⟩⟩
    rcases List.mem_cons.mp mb with e | e
    · rw [e]
      exact Int.le_refl _
    · have k := List.rel_of_pairwise_cons so e
      have k : bEnd ns b0 ≤ b.1 := k
      unfold bEnd at k
      omega
  unfold bEnd at c2
  refine ⟨by split <;> omega, by split <;> omega, ⟨b0, hb, by split <;> omega, by unfold bEnd; split <;> omega⟩, fun b hb1 u u1 u2 ⟨v1, v2⟩ => ?_⟩
  have k := first b hb1 (by split at u2 <;> omega) (by omega)
  split at u2 <;> omega
section
variable {P : Program} {w : World} {K : PySem.W.Frag} {mg : Str → Option Value} {base : Heap} {f : Addr} {fd : FuncData}
theorem sc__law_occupied_right : FnScope ["_law_rng_here", "_law_layout_here", "_law_sizes_here", "_law_length", "_law_blocks_here", "_law_level", "_law_size", "_law_start", "_law_meets", "_law_due", "_law_one"] ["_law_rng_here", "_law_layout_here", "_law_sizes_here", "_law_length", "_law_blocks_here", "_law_level"] (defScope (top 49)) := ⟨rfl, rfl, rfl, by decide +kernel, rfl, by decide +kernel, by decide +kernel⟩
theorem ok_occ {g cd : Addr} {Pt : Nat → Addr} {fdO : FuncData} (inj : Inj5 Pt) (T : Tx K mg) (KX : KitX K) (D__law_kind : DfE P w K mg base 1 "_law_kind" ["_law_e"] (spKind K)) (D__law_draw : Df P w K mg base 1 "_law_draw" ["_law_rng_here", "_law_many"] spDraw)
    (M_put_p : MfKX P w K mg base 9 "Layout" "put" ["self", "level", "address", "pinned"] 3 ["pinned"] (spPut K))
    (FO : FnP K "_law_outcome" "_law_outcome" (top 41) g fdO) (gO : mg "_law_outcome" = some (.ref g)) (bO : L2.Binds K fdO ["_law_call"] []) (TB : TabB base mg cd (Pt 3)) (F : FnP K "_law_occupied_right" "_law_occupied_right" (top 49) f fd) (hcd : fd.code = .ref cd) :
    FnG P w K mg base CX0 16 f fd ["_law_rng_here", "_law_layout_here", "_law_sizes_here", "_law_length", "_law_blocks_here", "_law_level"] (spPlaceC K Pt) := by
  refine okGc F sc__law_occupied_right (fun vs H Q E h => ?_) (fun A outer s H vs Q E hr h => ⟨_, PSs.nox (pss_cons (ps_set (i := 6) sc__law_occupied_right.nd rfl (by first | exact Or.inl rfl | exact Or.inr rfl) (pe_ix ix_list (pv 2) (pv 5) (fun _ _ => rfl))) (pss_cons (ps_if (pt_cmpR op_lt (pv 3) (pv 6) (nomark _)) (pss_one (ps_ret pe_bl)) pss_nil) (pss_cons (ps_set (i := 7) sc__law_occupied_right.nd rfl (by first | exact Or.inl rfl | exact Or.inr rfl) (pe_op op_mul (pcall D__law_draw hr.r (pa_cons (pv 0) (pa_cons (pe_op op_fdivW (pv 3) (pv 6)) pa_nil))) (pv 6))) (pss_cons (ps_setLc (i := 8) (own := [("_law_one", 10)]) (g := gName 10) rfl sc__law_occupied_right.nd rfl rfl (sw_true rfl rfl rfl (by decide +kernel)) (pi_list (pv 4)) (blkOk_by (own := [("_law_one", 10)]) (N := ["_law_rng_here", "_law_layout_here", "_law_sizes_here", "_law_length", "_law_blocks_here", "_law_level", "_law_size", "_law_start", "_law_meets", "_law_due", "_law_one"]) (sc := defScope (top 49)) (by decide +kernel)) (fun _ _ _ _ _ => pg_name (i := 10) sc__law_occupied_right.nd rfl (Or.inl rfl)) (fun _ _ _ _ _ => (pts_one (PW.pt (pw_and (pt_cmpR op_lt (pe_ix (r := rIxT K) ix_tup (pv 10) pe_int (fun _ _ => rfl)) (pe_op op_add (pv 7) (pv 6)) (nomark _)) (pw_and1 (pt_cmpR op_lt (pv 7) (pe_op op_add (pe_ix (r := rIxT K) ix_tup (pv 10) pe_int (fun _ _ => rfl)) (pe_ix (r := rIxL K) ix_list (pv 2) (pe_ix (r := rIxT K) ix_tup (pv 10) pe_int (fun _ _ => rfl)) (fun _ _ => rfl))) (nomark _))))))) (fun _ _ _ _ _ => (pv 10))) (pss_cons (ps_if (pt_cmpR (op_eqD hr.r.units) (pv 8) (pe_lst pa_nil) (nomark _)) (pss_one (ps_ret pe_bl)) pss_nil) (pss_cons (ps_set (i := 9) sc__law_occupied_right.nd rfl (by first | exact Or.inl rfl | exact Or.inr rfl) (pe_lst (pa_cons pe_str (pa_cons (pe_callB (call_reprQ hr T.sys) (by rfl) T.n_repr (by decide +kernel) (pa_cons (pe_callB (call_max2 rfl) (by rfl) T.n_max (by decide +kernel) (pa_cons (pv 7) (pa_cons (pe_ix ix_tup (pe_ix ix_list (pv 8) pe_int (fun _ _ => rfl)) pe_int (fun _ _ => rfl)) pa_nil))) pa_nil)) pa_nil)))) (pss_one (ps_ret (pe_cmpR (op_eqD hr.r.units) (pe_lamgive (k := 12) (t := fun E => tMethKX (He.ga K "Layout") "put" (spPut K) 3 (["pinned"] : List Str).length E (tVar 1) (tCons (tVar 5) (tCons (tVar 7) tNil)) (tCons (tOp rEq (tCall spDraw [] E0 (tCons (tVar 0) (tCons (tC (.int 2)) tNil))) (tC (.int 0))) tNil)) (T := tabs Pt) (P := Pt 3) (c := cd) (Sg := sc__law_outcome) FO (by rfl) gO bO rfl (.inl rfl) (fun cdg => outcome_givesO T KX D__law_kind (hr.mono (by decide))) TB hcd (List.mem_cons_of_mem _ (List.mem_cons_of_mem _ (List.mem_cons_of_mem _ List.mem_cons_self))) (tabs_one3 inj) (hr.r.mono (by decide)) (lamS_by (sc := defScope (top 49)) (by decide +kernel)) rfl (fun _ _ _ _ _ => by rfl) (fun A2 o2 s2 H2 E2 f2 c2 hr2 => by exact pmethKX M_put_p hr2 (passX (takes_of (E := E2) rfl rfl rfl rfl)) (pv 1) (pa_cons (pv 5) (pa_cons (pv 7) pa_nil)) (pk_cons (pe_cmpR op_eq (pcall D__law_draw hr2 (pa_cons (pv 0) (pa_cons pe_int pa_nil))) pe_int (nomark _)) pk_nil))) (pv 9) (nomark _)))))))))), ?_⟩)
  · obtain ⟨r, y, zp, bl, dx, ps, ns, n, bs, s, lb, qs, k, rfl, _⟩ := h
    rfl
  · obtain ⟨r, y, zp, bl, dx, ps, ns, n, bs, s, lb, qs, k, rfl, W, hk, tb, q⟩ := h
    have sl : sizeLine = 16777216 := sizeLine_eq
    have oo : PyData.strOk "occupied" = true := by decide +kernel
    have L := W.ly.ly
    have n1 := L.n1
    have n2 := W.n2
    have s1 := (chain L.gd).pos _ hk
    refine ⟨_, rfl, _, rfl, s, _, _, _, rfl, rfl, SqL.of W.hs, at_map (sz_at hk), ?_⟩
    refine nx_of (σ' := [some (.ref r), some (.ref y), some (.ref s), some (.int n), some (.ref lb), some (.int k), some (.int (sz ns k)), none, none, none, none]) rfl ?_
    refine ⟨_, rfl, _, rfl, _, _, rfl, rfl, _, rfl, ?_⟩
    by_cases c0 : n < sz ns k
    · exact ifT (decide_eq_true c0) (q H (Stp.refl W.rg).n tb)
    refine ifF (decide_eq_false c0) ?_
    have d1 : 1 ≤ n / sz ns k := (Int.le_ediv_iff_mul_le (by omega)).mpr (by omega)
    have d2 : n / sz ns k ≤ n := Int.ediv_le_self _ (by omega)
    refine ⟨_, rfl, _, rfl, _, rfl, _, _, rfl, rfl, wide_div (b := 30) (by omega) (by omega) (by decide) (by decide), r, _, rfl, W.rg, d1, by omega, fun e H1 e0 e1 t1 => ⟨_, rfl, _, _, rfl, rfl, .inr ⟨by omega, by omega⟩, ?_⟩⟩
    have a0 : 0 ≤ e * sz ns k := Int.mul_nonneg e0 (by omega)
    have a1 := (dn_iff (s := sz ns k) (e := n) (i := e) s1).mp e1
    have rgT : regB ns k n (.int (e * sz ns k)) = true := by
      show (decide (0 ≤ e * sz ns k) && decide (e * sz ns k % sz ns k = 0 ∧ e * sz ns k + sz ns k ≤ n)) = true
      rw [decide_eq_true a0, decide_eq_true ⟨Int.mul_emod_left _ _, a1⟩]
      rfl
    refine nx_of (σ' := [some (.ref r), some (.ref y), some (.ref s), some (.int n), some (.ref lb), some (.int k), some (.int (sz ns k)), some (.int (e * sz ns k)), none, none, none]) rfl (go_asg ?_)
    generalize hlo : e * sz ns k = lo at a0 a1 rgT ⊢
    have W1 := W.stpN t1.n
    refine ⟨_, rfl, lb, rfl, ⟨_, SqL.of W1.hb⟩, fun D hD => ?_⟩
    refine lc_list (xs := qs.map V.ref) (fun i G => (∃ rs, G D = some (.lst (rs.map V.ref)) ∧ Refs blkV H1 rs ((bs.take i).filter (fun b => decide (b.1 < lo + sz ns k ∧ lo < bEnd ns b))) ∧ rs.length ≤ i) ∧ Same H1 G) ⟨⟨[], upd_same, .nil, Nat.zero_le _⟩, same_upd hD⟩ (fun i G _ z => SqL.of (z.2 _ _ W1.hb)) ?_ ?_
    · rintro i x G hx ⟨⟨rs, gD, rr, li⟩, sm⟩
      have il : i < bs.length := by
        have := (List.getElem?_eq_some_iff.mp hx).1
        rw [List.length_map, W1.rf.len] at this
        exact this
      obtain ⟨b, hb⟩ : ∃ b, bs[i]? = some b := ⟨_, List.getElem?_eq_getElem il⟩
      obtain ⟨p, hp, hT⟩ := W1.rf.at_ hb
      rw [List.getElem?_map, hp] at hx
      obtain rfl : x = .ref p := (Option.some.inj hx).symm
      have bk := (L.wf.ok b (List.mem_of_getElem? hb)).1
      have tk : (bs.take (i + 1)).filter (fun b => decide (b.1 < lo + sz ns k ∧ lo < bEnd ns b)) = (bs.take i).filter (fun b => decide (b.1 < lo + sz ns k ∧ lo < bEnd ns b)) ++ (if decide (b.1 < lo + sz ns k ∧ lo < bEnd ns b) then [b] else []) := by
        rw [List.take_add_one, hb, List.filter_append]
        congr 1
        show List.filter _ [b] = _
        rw [List.filter_cons]
        rfl
      refine ⟨rfl, _, rfl, p, _, _, _, rfl, rfl, SqT.of (sm _ _ hT), rfl, _, rfl, _, rfl, _, _, rfl, rfl, _, _, rfl, rfl, _, rfl, ?_⟩
      have nay : ¬ (b.1 < lo + sz ns k ∧ lo < bEnd ns b) → (∃ rs, G D = some (.lst (rs.map V.ref)) ∧ Refs blkV H1 rs ((bs.take (i + 1)).filter (fun b => decide (b.1 < lo + sz ns k ∧ lo < bEnd ns b))) ∧ rs.length ≤ i + 1) ∧ Same H1 G := fun z => by
        refine ⟨⟨rs, gD, ?_, by omega⟩, sm⟩
        rw [tk, if_neg (by rw [decide_eq_false z]; decide), List.append_nil]
        exact rr
      have hT2 := sm _ _ hT
      by_cases ca : b.1 < lo + sz ns k
      · refine ifT (decide_eq_true ca) ⟨_, rfl, _, rfl, p, _, _, _, rfl, rfl, SqT.of hT2, rfl, _, rfl, _, rfl, p, _, _, _, rfl, rfl, SqT.of hT2, rfl, s, _, _, _, rfl, rfl, SqL.of (sm _ _ W1.hs), at_map (sz_at bk), _, _, rfl, rfl, _, _, rfl, rfl, _, rfl, ?_⟩
        by_cases cb : lo < b.1 + sz ns b.2.1
        · refine ifT (decide_eq_true cb) ⟨_, rfl, _, gD, (by rw [List.length_map]; have := W.ln; omega), ⟨rs ++ [p], (by rw [upd_same, List.map_append]; rfl), ?_, (by rw [List.length_append]; show rs.length + 1 ≤ i + 1; omega)⟩, fun c2 o2 e2 => ?_⟩
          · rw [tk, if_pos (decide_eq_true ⟨ca, cb⟩)]
            exact rr.app (Refs.one hT)
          · rw [upd_ne (ne_of_none e2 hD)]
            exact sm c2 o2 e2
        · exact ifF (decide_eq_false cb) (nay fun z => cb z.2)
      · exact ifF (decide_eq_false ca) (nay fun z => ca z.1)
    · rintro G ⟨⟨rs, gD, rr, li⟩, sm⟩
      have e1 : List.take (List.map V.ref qs).length bs = bs := by rw [List.length_map, W1.rf.len, List.take_length]
      rw [e1] at rr
      refine at_st (σ' := [some (.ref r), some (.ref y), some (.ref s), some (.int n), some (.ref lb), some (.int k), some (.int (sz ns k)), some (.int lo), some (.ref D), none, none]) rfl ?_
      have TG : Stp r H1 G := Stp.same (Stp.refl W1.rg) sm
      refine ⟨_, rfl, Nat.zero_le _, fun c1 hc1 => ?_⟩
      have m1 := same_upd (o := .lst []) hc1
      generalize hms : bs.filter (fun b => decide (b.1 < lo + sz ns k ∧ lo < bEnd ns b)) = ms at rr
      have rr2 := rr.same (sm.trans m1)
      refine ⟨_, _, .lst (SqL.of (m1 _ _ gD)) rr2.dp, .lst (SqL.of upd_same) .nil, shaped_blk _, shaped_blk [], ?_⟩
      have ev : PyData.eqv (.list (ms.map blkD)) (.list ([].map blkD)) = decide (ms = []) := eqv_blks ms []
      refine ⟨_, rfl, ?_⟩
      cases ms with
      | nil =>
        exact ifT ev (q _ (t1.n.trans (Stp.same TG m1).n) (tabs_stp tb (rng_lst W.rg) (t1.trans (Stp.same TG m1)).2))
      | cons b0 rest =>
        refine ifF ev ?_
        have tk := taken_first L.wf L.gd (lo := lo) (hi := lo + sz ns k) (by omega) hms
        have m0 : b0 ∈ bs.filter (fun b => decide (b.1 < lo + sz ns k ∧ lo < bEnd ns b)) := by rw [hms]; exact List.mem_cons_self
        have hb0 := (List.mem_filter.mp m0).1
        obtain ⟨u1, u2, u3, u4⟩ := L.wf.ok b0 hb0
        have pb0 := L.wf.pos L.gd hb0
        unfold bEnd at u4
        have b39 : (10 : Int) ^ 39 = 1000000000000000000000000000000000000000 := by decide
        generalize ht : (if b0.1 > lo then b0.1 else lo) = t at tk
        have tB : 0 ≤ t ∧ t ≤ 1000 := by
          rw [← ht]
          split <;> omega
        cases rr with
        | cons e0 rt =>
          rename_i p0 rs0
          refine nx_of (σ' := [some (.ref r), some (.ref y), some (.ref s), some (.int n), some (.ref lb), some (.int k), some (.int (sz ns k)), some (.int lo), some (.ref D), none, none]) rfl (go_asg ?_)
          have tq : Tq K (upd G c1 (.lst [])) (.int t) (.int t) 4 200 := (tq_int (by omega) (by omega)).mono (by decide) (by decide)
          refine ⟨_, rfl, _, rfl, D, _, _, _, rfl, rfl, SqL.of (m1 _ _ gD), Refs.map_at (ps := p0 :: rs0) (i := 0) (p := p0) rfl, p0, _, _, _, rfl, rfl, SqT.of (m1 _ _ (sm _ _ e0)), rfl, _, _, rfl, ?_⟩
          rw [ht]
          refine ⟨_, _, rfl, tq.dq, tq.sh, Nat.le_trans tq.dp (by decide), Nat.le_trans tq.ln (by decide), (by show 2 ≤ sizeLine; omega), fun d9 hd9 => ?_⟩
          have m9 := same_upd (o := .lst [.str "occupied", .str (PyData.int t).shown]) hd9
          have k9 : (upd (upd G c1 (.lst [])) d9 (.lst [.str "occupied", .str (PyData.int t).shown])) d9 = some (.lst [.str "occupied", .str (PyData.int t).shown]) := upd_same
          have T9 : Stp r H _ := (t1.trans (Stp.same TG m1)).trans (Stp.same (Stp.refl (Stp.same TG m1).1) m9)
          have n9 : d9 ≠ r := (Rng.ne (Stp.same TG m1).1 hd9).symm
          have tb9 := tabs_stp tb (rng_lst W.rg) T9.2
          generalize upd (upd G c1 (.lst [])) d9 (.lst [.str "occupied", .str (PyData.int t).shown]) = H9 at k9 T9 tb9
          show tRet _ _ _ _
          refine ⟨tb9, fun Hx x1 tbx => ?_⟩
          have sx : StpN r H Hx := T9.n.trans (extN_stp T9.1 x1)
          refine ⟨r, t, sx.1, by omega, by omega, fun H1 E N sa ra => ?_, fun R H3 hR s3 h3 => ?_⟩
          · have L1 := (W.stpN (sx.trans (Stp.same (Stp.refl sx.1) sa).n)).ly.ly
            refine ⟨_, rfl, y, dx, _, rfl, L1.at_, lay_nm (by decide +kernel), _, rfl, _, rfl, _, rfl, r, 2, rfl, (Stp.same (Stp.refl sx.1) sa).1, by decide, by decide, fun d8 H8 e0 e1 t8 => ?_⟩
            have t18 := t8
            have L8 := (W.stpN ((sx.trans (Stp.same (Stp.refl sx.1) sa).n).trans t8.n)).ly.ly
            refine ⟨rfl, rfl, rfl, y, zp, bl, dx, ps, ns, n, bs, k, _, .int lo, rfl, L8, Nat.lt_of_le_of_lt W.ln (by decide), hk, .int lo, (fun a ea _ fr => ?_), (fun a t' ea _ tk2 => ?_), fun z => ?_⟩
            · cases ea
              exact absurd fr tk.nf
            · cases ea
              obtain rfl := tk2.one tk
              exact fun d H2 hd s2 hx => ra d H2 (stp_free t8 hd) (Stp.same t8 s2) hx
            · rw [rgT] at z
              cases z
          · have k9x := s3.2 d9 _ n9 (x1 d9 _ k9 (fun ps e => by cases e))
            have oi := int_ok t
            refine ⟨_, rfl, _, _, row_dp1 h3, row_dp1 k9x, row_shp1 oo oi, row_shp1 oo oi, ?_⟩
            rw [row_eqv1 oo oi]
            exact q _ (sx.trans s3.n) (tabs_stp tbx (rng_lst sx.1) s3.2)
end
end K26

set_option Elab.async false
set_option linter.all false
set_option maxRecDepth 100000
set_option maxHeartbeats 800000
namespace K26
open PySem PySem.Spec PyProof.Rows L2 Gu Ex M16
/-! what a layout's counts keep to: clear cells are at most the length, and at least the cells of the blocks that may move -/
theorem cnt_up {s lo hi : Int} (hs : 1 ≤ s) (h : lo ≤ hi) : cntI s lo hi * s ≤ hi - lo := by
  have a := nx_ge lo hs
  have b := fl_le hi hs
  have e : nextI s lo = nx s lo := rfl
  unfold cntI
  rw [e]
  split
  · have := Int.ediv_mul_le (hi - hi % s - nx s lo) (b := s) (by omega)
    omega
  · omega
theorem cnt_lo {s lo hi a e : Int} (hs : 1 ≤ s) (h1 : lo ≤ a) (h2 : s ∣ a) (h3 : a ≤ e) (h4 : s ∣ e) (h5 : e ≤ hi) : (e - a) + cntI s e hi * s ≤ cntI s lo hi * s := by
  have n1 := nx_least hs h2 h1
  have n2 := nx_self hs h4
  have f1 := fl_ge hs h4 h5
  have d1 := nx_dvd s lo
  have d2 := fl_dvd s hi
  have e1 : nextI s lo = nx s lo := rfl
  have e2 : nextI s e = nx s e := rfl
  unfold cntI
  rw [e1, e2, n2]
  have m1 : (hi - hi % s - nx s lo) / s * s = hi - hi % s - nx s lo := Int.ediv_mul_cancel (Int.dvd_sub d2 d1)
  have m2 : (hi - hi % s - e) / s * s = hi - hi % s - e := Int.ediv_mul_cancel (Int.dvd_sub d2 h4)
  have p1 : 0 ≤ (hi - hi % s - nx s lo) / s := Int.ediv_nonneg (by omega) (by omega)
  have p2 : 0 ≤ (hi - hi % s - e) / s := Int.ediv_nonneg (by omega) (by omega)
  have c : ∀ x : Int, 0 ≤ x → (if x > 0 then x else 0) = x := fun x hx => by split <;> omega
  rw [c _ p1, c _ p2, m1, m2]
  omega
/-- all blocks lie from low on, one behind another -/
def Fr (ns : List Int) (n : Int) : Int → List Blk → Prop
  | low, [] => low ≤ n
  | low, b :: r => low ≤ b.1 ∧ b.1 ≤ bEnd ns b ∧ Fr ns n (bEnd ns b) r
section
variable {ns : List Int} {n : Int} {k : Nat}
theorem fr_le : ∀ {bs : List Blk} {low low2 : Int}, low2 ≤ low → Fr ns n low bs → Fr ns n low2 bs
  | [], low, low2, h, f => by
    have f : low ≤ n := f
    show low2 ≤ n
    omega
  | b :: r, low, low2, h, f => ⟨Int.le_trans h f.1, f.2⟩
theorem fr_of {bs : List Blk} (w : Wf ns n bs) (g : Good ns) (n0 : 0 ≤ n) : Fr ns n 0 bs := by
  have main : ∀ (bs : List Blk) (low : Int), low ≤ n → (∀ b ∈ bs, low ≤ b.1 ∧ b.1 ≤ bEnd ns b ∧ bEnd ns b ≤ n) → (bs.Pairwise fun b c => bEnd ns b ≤ c.1) → Fr ns n low bs := by
    intro bs
    induction bs with
    | nil => exact fun low h _ _ => h
    | cons b r ih =>
      intro low h ok so
      obtain ⟨h1, h2, h3⟩ := ok b List.mem_cons_self
      obtain ⟨s1, s2⟩ := List.pairwise_cons.mp so
      exact ⟨h1, h2, ih _ h3 (fun c hc => ⟨s1 c hc, (ok c (List.mem_cons_of_mem _ hc)).2⟩) s2⟩
  refine main bs 0 n0 (fun b hb => ?_) w.so
  obtain ⟨h1, h2, h3, h4⟩ := w.ok b hb
  have := w.pos g hb
  refine ⟨h2, ?_, h4⟩
  unfold bEnd
  omega
theorem regI_cons (g : Int × Int) (gs : List (Int × Int)) : regI ns k (g :: gs) = cntI (sz ns k) g.1 g.2 + regI ns k gs := by
  unfold regI
  rw [List.map_cons, List.sum_cons]
theorem cnt_nn {s lo hi : Int} : 0 ≤ cntI s lo hi := by
  unfold cntI
  split <;> omega
theorem regI_nn : ∀ gs : List (Int × Int), 0 ≤ regI ns k gs
  | [] => Int.le_refl _
  | g :: gs => by
    rw [regI_cons]
    have := regI_nn gs
    have := cnt_nn (s := sz ns k) (lo := g.1) (hi := g.2)
    omega
/-- the regions within the gaps have at most the gaps' cells -/
theorem reg_le (hs : 1 ≤ sz ns k) : ∀ {bs : List Blk} {low : Int}, Fr ns n low bs → regI ns k (gapsI n low (bs.map (rngB ns))) * sz ns k ≤ n - low
  | [], low, f => by
    have f : low ≤ n := f
    show regI ns k (if low < n then [(low, n)] else []) * sz ns k ≤ n - low
    split
    · rw [regI_cons]
      show (cntI (sz ns k) low n + 0) * sz ns k ≤ n - low
      rw [Int.add_zero]
      exact cnt_up hs f
    · show 0 * sz ns k ≤ n - low
      omega
  | b :: r, low, ⟨h1, h2, f⟩ => by
    have ih := reg_le hs f
    show regI ns k ((if low < b.1 then [(low, b.1)] else []) ++ gapsI n (bEnd ns b) (r.map (rngB ns))) * sz ns k ≤ n - low
    split
    · show regI ns k ((low, b.1) :: gapsI n (bEnd ns b) (r.map (rngB ns))) * sz ns k ≤ n - low
      rw [regI_cons, Int.add_mul]
      have := cnt_up hs h1
      show cntI (sz ns k) low b.1 * sz ns k + _ ≤ _
      omega
    · show regI ns k (gapsI n (bEnd ns b) (r.map (rngB ns))) * sz ns k ≤ n - low
      omega
theorem fr_filter (p : Blk → Bool) : ∀ {bs : List Blk} {low : Int}, Fr ns n low bs → Fr ns n low (bs.filter p)
  | [], low, f => f
  | b :: r, low, ⟨h1, h2, f⟩ => by
    rw [List.filter_cons]
    split
    · exact ⟨h1, h2, fr_filter p f⟩
    · exact fr_le (Int.le_trans h1 h2) (fr_filter p f)
theorem free_le {bs : List Blk} (w : Wf ns n bs) (g : Good ns) (n0 : 0 ≤ n) (hk : k < ns.length) : regI ns k (fgI ns n bs) * sz ns k ≤ n := by
  have := reg_le (k := k) ((chain g).pos _ hk) (fr_of w g n0)
  unfold fgI
  omega
theorem clr_le {bs : List Blk} (w : Wf ns n bs) (g : Good ns) (n0 : 0 ≤ n) (hk : k < ns.length) : clrI ns n bs k ≤ n := by
  have := reg_le (k := k) ((chain g).pos _ hk) (fr_filter (fun b => b.2.2) (fr_of w g n0))
  unfold clrI pinR
  omega
/-- the first gap from e on is a part of the first gap from low on -/
theorem gap_lo {low a e : Int} (hs : 1 ≤ sz ns k) (h1 : low ≤ a) (h2 : sz ns k ∣ a) (h3 : a < e) (h4 : sz ns k ∣ e) : ∀ {bs : List Blk}, Fr ns n e bs → (e - a) + regI ns k (gapsI n e (bs.map (rngB ns))) * sz ns k ≤ regI ns k (gapsI n low (bs.map (rngB ns))) * sz ns k
  | [], f => by
    have f : e ≤ n := f
    have c := cnt_lo hs h1 h2 (Int.le_of_lt h3) h4 f
    have c0 : cntI (sz ns k) e n * sz ns k ≥ 0 := Int.mul_nonneg cnt_nn (by omega)
    show (e - a) + regI ns k (if e < n then [(e, n)] else []) * sz ns k ≤ regI ns k (if low < n then [(low, n)] else []) * sz ns k
    rw [if_pos (by omega : low < n), regI_cons]
    show _ ≤ (cntI (sz ns k) low n + 0) * sz ns k
    rw [Int.add_zero]
    split
    · rw [regI_cons]
      show (e - a) + (cntI (sz ns k) e n + 0) * sz ns k ≤ _
      rw [Int.add_zero]
      exact c
    · show (e - a) + 0 * sz ns k ≤ _
      omega
  | b :: r, ⟨f1, f2, f⟩ => by
    have c := cnt_lo hs h1 h2 (Int.le_of_lt h3) h4 f1
    have c0 : cntI (sz ns k) e b.1 * sz ns k ≥ 0 := Int.mul_nonneg cnt_nn (by omega)
    show (e - a) + regI ns k ((if e < b.1 then [(e, b.1)] else []) ++ gapsI n (bEnd ns b) (r.map (rngB ns))) * sz ns k ≤ regI ns k ((if low < b.1 then [(low, b.1)] else []) ++ gapsI n (bEnd ns b) (r.map (rngB ns))) * sz ns k
    rw [if_pos (by omega : low < b.1)]
    show _ ≤ regI ns k ((low, b.1) :: gapsI n (bEnd ns b) (r.map (rngB ns))) * sz ns k
    rw [regI_cons, Int.add_mul]
    show _ ≤ cntI (sz ns k) low b.1 * sz ns k + _
    split
    · show (e - a) + regI ns k ((e, b.1) :: gapsI n (bEnd ns b) (r.map (rngB ns))) * sz ns k ≤ _
      rw [regI_cons, Int.add_mul]
      show (e - a) + (cntI (sz ns k) e b.1 * sz ns k + _) ≤ _
      omega
    · show (e - a) + regI ns k (gapsI n (bEnd ns b) (r.map (rngB ns))) * sz ns k ≤ _
      omega
/-- the clear cells hold the blocks that may move -/
theorem lse_leB (g : Good ns) (hk : k < ns.length) : ∀ {bs : List Blk} {low : Int}, (∀ b ∈ bs, b.2.1 < ns.length ∧ sz ns b.2.1 ∣ b.1) → Fr ns n low bs → lseI ns bs k ≤ regI ns k (gapsI n low (pinR ns bs)) * sz ns k
  | [], low, _, f => by
    have s1 := (chain g).pos _ hk
    have := Int.mul_nonneg (regI_nn (ns := ns) (k := k) (gapsI n low (pinR ns []))) (by omega : 0 ≤ sz ns k)
    exact this
  | b :: r, low, ok, ⟨h1, h2, f⟩ => by
    have s1 := (chain g).pos _ hk
    obtain ⟨bk, bd⟩ := ok b List.mem_cons_self
    have ih := lse_leB g hk (fun c hc => ok c (List.mem_cons_of_mem _ hc)) f
    have s2 := (chain g).pos _ bk
    have e : lseI ns (b :: r) k = (if (!b.2.2 && decide (k ≤ b.2.1)) = true then sz ns b.2.1 else 0) + lseI ns r k := by
      unfold lseI unpB
      cases hp : b.2.2 with
      | true =>
        rw [List.filter_cons_of_neg (by rw [hp]; decide)]
        simp
      | false =>
        rw [List.filter_cons_of_pos (by rw [hp]; decide)]
        by_cases kb : k ≤ b.2.1
        · rw [List.filter_cons_of_pos (p := fun b : Blk => decide (k ≤ b.2.1)) (decide_eq_true kb), List.map_cons, List.sum_cons]
          simp [kb]
        · rw [List.filter_cons_of_neg (by simpa using kb)]
          simp [kb]
    rw [e]
    cases hp : b.2.2 with
    | true =>
      have ep : pinR ns (b :: r) = rngB ns b :: pinR ns r := by
        unfold pinR
        rw [List.filter_cons_of_pos (p := fun b : Blk => b.2.2) hp, List.map_cons]
      rw [ep]
      show (if (false && decide (k ≤ b.2.1)) = true then sz ns b.2.1 else 0) + _ ≤ regI ns k ((if low < b.1 then [(low, b.1)] else []) ++ gapsI n (bEnd ns b) (pinR ns r)) * sz ns k
      rw [if_neg (by simp), Int.zero_add]
      split
      · show _ ≤ regI ns k ((low, b.1) :: gapsI n (bEnd ns b) (pinR ns r)) * sz ns k
        rw [regI_cons, Int.add_mul]
        have := Int.mul_nonneg (cnt_nn (s := sz ns k) (lo := low) (hi := b.1)) (by omega : 0 ≤ sz ns k)
        show _ ≤ cntI (sz ns k) low b.1 * sz ns k + _
        omega
      · exact ih
    | false =>
      have ep : pinR ns (b :: r) = pinR ns r := by
        unfold pinR
        rw [List.filter_cons_of_neg (by rw [hp]; decide)]
      rw [ep]
      by_cases kb : k ≤ b.2.1
      · have d1 := (chain g).dvd kb bk
        have q := gap_lo (n := n) (ns := ns) (k := k) (low := low) (a := b.1) (e := bEnd ns b) s1 h1 (Int.dvd_trans d1 bd) (by unfold bEnd; omega) (by unfold bEnd; exact Int.dvd_add (Int.dvd_trans d1 bd) d1) (fr_filter (fun b => b.2.2) f)
        have q : bEnd ns b - b.1 + regI ns k (gapsI n (bEnd ns b) (pinR ns r)) * sz ns k ≤ regI ns k (gapsI n low (pinR ns r)) * sz ns k := q
        rw [if_pos (by simpa using kb)]
        unfold bEnd at q ih
        omega
      · rw [if_neg (by simpa using kb), Int.zero_add]
        exact lse_leB g hk (fun c hc => ok c (List.mem_cons_of_mem _ hc)) (fr_le (Int.le_trans h1 h2) f)
theorem slk_nn {bs : List Blk} (w : Wf ns n bs) (g : Good ns) (n0 : 0 ≤ n) (hk : k < ns.length) : 0 ≤ slkI ns n bs k [] := by
  have := lse_leB g hk (fun b hb => ⟨(w.ok b hb).1, (w.ok b hb).2.2.1⟩) (fr_of w g n0)
  show 0 ≤ clrI ns n bs k - lseI ns bs k - 0
  unfold clrI
  omega
theorem lse_nn (g : Good ns) {bs : List Blk} (ok : ∀ b ∈ bs, b.2.1 < ns.length) : 0 ≤ lseI ns bs k := by
  unfold lseI unpB
  have main : ∀ l : List Blk, (∀ b ∈ l, b.2.1 < ns.length) → 0 ≤ (l.map fun b => sz ns b.2.1).sum := by
    intro l
    induction l with
    | nil => exact fun _ => Int.le_refl _
    | cons b r ih =>
      intro h
      have := (chain g).pos _ (h b List.mem_cons_self)
      have := ih fun c hc => h c (List.mem_cons_of_mem _ hc)
      rw [List.map_cons, List.sum_cons]
      omega
  exact main _ fun b hb => ok b (List.mem_filter.mp (List.mem_filter.mp hb).1).1
theorem slk_one {bs : List Blk} (w : Wf ns n bs) (g : Good ns) (n0 : 0 ≤ n) (hk : k < ns.length) (c : Int) : slkI ns n bs k [c] ≤ n - (c - c % sz ns k) := by
  have a := clr_le (k := k) w g n0 hk
  have b := lse_nn (k := k) g (bs := bs) fun b hb => (w.ok b hb).1
  show clrI ns n bs k - lseI ns bs k - ((c - c % sz ns k) + 0) ≤ _
  omega
theorem lrg_len {bs : List Blk} (w : Wf ns n bs) (g : Good ns) (n1 : 1 ≤ n) : lrgI ns n bs [1] ≤ n := by
  have l1 := g.len.1
  have s0 := (chain g).one
  have q := slk_one (k := 0) w g (by omega) (by omega) 1
  have e : (1 : Int) % sz ns 0 = 0 := by
    rw [s0]
    rfl
  rw [e] at q
  have m : slkI ns n bs 0 [1] + sz ns 0 - 1 ∈ rowsI ns n bs [1] ns.length := List.mem_map.mpr ⟨0, List.mem_range.mpr (by omega), rfl⟩
  have h := (mnL_ok _ (List.length_pos_of_mem m)).2 _ m
  unfold lrgI
  split <;> omega
theorem sh_big {bs : List Blk} (w : Wf ns n bs) (g : Good ns) (n0 : 0 ≤ n) (n2 : n ≤ 1000) : shV ns n bs [1000000000000] = .int 0 := by
  have l1 := g.len.1
  have s0 := (chain g).one
  have q := slk_one (k := 0) w g n0 (by omega) 1000000000000
  have e : (1000000000000 : Int) % sz ns 0 = 0 := by
    rw [s0]
    rfl
  rw [e] at q
  exact sh_at (k := 0) (by omega) (by omega) fun j hj => absurd hj (Nat.not_lt_zero j)
theorem sh_none {bs : List Blk} (w : Wf ns n bs) (g : Good ns) (n0 : 0 ≤ n) : shV ns n bs [] = .non := sh_no fun j hj => by
  have := slk_nn w g n0 hj
  omega
theorem slk_big {bs : List Blk} (w : Wf ns n bs) (g : Good ns) (n0 : 0 ≤ n) (n2 : n ≤ 1000) (hk : k < ns.length) : slkI ns n bs k [1000000000000] < 0 := by
  have q := slk_one w g n0 hk 1000000000000
  have s1 := (chain g).pos _ hk
  have s2 := sz_le g hk
  have := Int.emod_lt_of_pos 1000000000000 (by omega : 0 < sz ns k)
  omega
end
end K26

set_option Elab.async false
set_option linter.all false
set_option maxRecDepth 100000
set_option maxHeartbeats 1600000
set_option pp.maxSteps 900
namespace K26
open PySem PySem.Spec PyProof.Rows L2 Gu Ex LamX
/-- so far: the list at M holds rows of two texts -/
structure ToldR (T : List (Addr × Str)) (H G : Hp) (r M : Addr) (ks : List (Addr × HO)) (rs : List (Addr × Str × Str)) : Prop where
  st : StpN r H G
  tb : Tabs T G
  at_ : G M = some (.lst (rs.map fun p => V.ref p.1))
  off : ∀ c o, H c = some o → (∀ ps, o ≠ .tbl ps) → c ≠ M
  ne : M ≠ r
  ok : ∀ p ∈ rs, G p.1 = some (.lst [.str p.2.1, .str p.2.2]) ∧ p.1 ≠ M ∧ p.1 ≠ r
  kp : ∀ q ∈ ks, G q.1 = some q.2 ∧ q.1 ≠ M ∧ ∀ ps, q.2 ≠ .tbl ps
theorem ToldR.more {T : List (Addr × Str)} {H G G3 : Hp} {r M R : Addr} {w s : Str} {ks : List (Addr × HO)} {rs : List (Addr × Str × Str)} (t : ToldR T H G r M ks rs) (s3 : StpN r H G3) (x : ExtN G G3) (tb : Tabs T G3) (hR : G3 R = some (.lst [.str w, .str s])) (fr : ∀ c o, G c = some o → (∀ ps, o ≠ .tbl ps) → c ≠ R) :
    G3 M = some (.lst (rs.map fun p => V.ref p.1)) ∧ ToldR T H (upd G3 M (.lst ((rs.map fun p => V.ref p.1) ++ [.ref R]))) r M ks (rs ++ [(R, w, s)]) := by
  have h2 := x _ _ t.at_ (fun ps e => by cases e)
  have nM : R ≠ M := (fr M _ t.at_ (fun ps e => by cases e)).symm
  obtain ⟨ra, rb, re, rf⟩ := id t.st.1
  have nr : R ≠ r := (fr r _ re (fun ps e => by cases e)).symm
  refine ⟨h2, ⟨⟨?_, fun c o n z e => ?_⟩, tabs_stp tb ⟨_, h2⟩ (fun c o n e => by rw [upd_ne n]; exact e), by rw [upd_same, List.map_append]; rfl, t.off, t.ne, fun Q hQ => ?_, fun Q hQ => ?_⟩⟩
  · obtain ⟨sa, sb, se, sf⟩ := id s3.1
    exact ⟨sa, sb, by rw [upd_ne t.ne.symm]; exact se, sf⟩
  · rw [upd_ne (t.off c o e z)]
    exact s3.2 c o n z e
  · rcases List.mem_append.mp hQ with z | z
    · obtain ⟨k1, k2, k3⟩ := t.ok Q z
      exact ⟨by rw [upd_ne k2]; exact x _ _ k1 (fun ps e => by cases e), k2, k3⟩
    · rw [List.mem_singleton.mp z]
      exact ⟨by rw [upd_ne nM]; exact hR, nM, nr⟩
  · obtain ⟨k1, k2, k3⟩ := t.kp Q hQ
    exact ⟨by rw [upd_ne k2]; exact x _ _ k1 k3, k2, k3⟩
theorem ToldR.start {T : List (Addr × Str)} {H : Hp} {r M : Addr} (R : Rng H r) (tb : Tabs T H) (hM : H M = none) : ToldR T H (upd H M (.lst [])) r M [] [] := by
  have Mr : M ≠ r := (Rng.ne R hM).symm
  have sm : Same H (upd H M (.lst [])) := same_upd hM
  exact ⟨(Stp.same (Stp.refl R) sm).n, tabs_stp tb (rng_lst R) fun c o _ e => sm c o e, upd_same, fun c o e _ => ne_of_none e hM, Mr, (fun p hp => nomatch hp), fun q hq => nomatch hq⟩
theorem ToldR.add {T : List (Addr × Str)} {H G : Hp} {r M c : Addr} {o : HO} {ks : List (Addr × HO)} {rs : List (Addr × Str × Str)} (t : ToldR T H G r M ks rs) (hc : G c = none) (no : ∀ ps, o ≠ .tbl ps) : ToldR T H (upd G c o) r M ((c, o) :: ks) rs := by
  have s : Same G (upd G c o) := same_upd hc
  refine ⟨t.st.trans (Stp.same (Stp.refl t.st.1) s).n, tabs_stp t.tb (rng_lst t.st.1) fun c o _ e => s c o e, s _ _ t.at_, t.off, t.ne, fun p hp => ⟨s _ _ (t.ok p hp).1, (t.ok p hp).2⟩, fun q hq => ?_⟩
  rcases List.mem_cons.mp hq with e | e
  · rw [e]
    exact ⟨upd_same, (ne_of_none t.at_ hc).symm, no⟩
  · obtain ⟨k1, k2, k3⟩ := t.kp q e
    exact ⟨s _ _ k1, k2, k3⟩
def dat (q : Str × Str) : PyData := rowD q.1 q.2
theorem pairs_dp {K : PySem.W.Frag} {H : Hp} : ∀ {rs : List (Addr × Str × Str)}, (∀ p ∈ rs, H p.1 = some (.lst [.str p.2.1, .str p.2.2])) → DpAll K H (rs.map fun p => V.ref p.1) ((rs.map fun p => p.2).map dat)
  | [], _ => .nil
  | p :: rs, h => .cons (row_dp1 (h p List.mem_cons_self)) (pairs_dp fun q hq => h q (List.mem_cons_of_mem _ hq))
/-- what is due for a flag -/
def nine (sh : Str) : List (Str × Str) := List.replicate 5 (("level" : Str), sh) ++ [(("number" : Str), sh)] ++ List.replicate 3 (("numbers" : Str), ("0" : Str))
def shB (b : Bool) : Str := (PyData.bool b).shown
def due2 : List (Str × Str) := nine (shB true) ++ nine (shB false)
theorem due_lay : PyData.canLayAll0 (due2.map dat) = true := by decide +kernel
theorem due_shp : SeqAt.shaped (.list (due2.map dat)) = true := by decide +kernel
section
variable {P : Program} {w : World} {K : PySem.W.Frag} {mg : Str → Option Value} {base : Heap} {f : Addr} {fd : FuncData}
def spBools (K : PySem.W.Frag) (Pt : Nat → Addr) : Sp := fun vs H Q _ => ∃ (r y zp bl dx : Addr) (ps : List Addr) (ns : List Int) (n : Int) (bs : List Blk) (s lb : Addr) (qs : List Addr), vs = [.ref y, .ref s] ∧ Wd K r H y zp bl dx ps ns n bs s lb qs ∧ Tabs (tabs Pt) H ∧
  ∀ H', StpN r H H' → Tabs (tabs Pt) H' → Q (.bl true) H'
theorem sc__law_bools_right : FnScope ["_law_layout_here", "_law_sizes_here", "_law_level", "_law_told", "_law_flag", "_law_due", "_law_shown", "_law_sums"] ["_law_layout_here", "_law_sizes_here"] (defScope (top 50)) := ⟨rfl, rfl, rfl, by decide +kernel, rfl, by decide +kernel, by decide +kernel⟩
theorem ok_bools {g cd z0 z1 : Addr} {Pt : Nat → Addr} {fdO : FuncData} (inj : Inj5 Pt) (hSt : PySem.W.subIn K (.ref (cL K)) (.type "StopIteration") = some false) (T : Tx K mg) (KX : KitX K) (D__law_kind : DfE P w K mg base 1 "_law_kind" ["_law_e"] (spKind K))
    (hz0 : ∃ (o : Obj) (m : Nat), K.lookup z0 = some o ∧ o.cls = .type "tuple" ∧ o.data = .seq #[] m) (hz1 : ∃ (o : Obj) (m : Nat), K.lookup z1 = some o ∧ o.cls = .type "tuple" ∧ o.data = .seq #[] m)
    (M_free_regions : Mf P w K mg base 9 "Layout" "free_regions" ["self", "level"] (spFr K)) (M_clear_cells : Mf P w K mg base 9 "Layout" "clear_cells" ["self", "level"] (spClear K)) (M_unpinned_cells : Mf P w K mg base 6 "Layout" "unpinned_cells" ["self", "level"] (spLoose K)) (M_slack_d : MfD P w K mg base 10 "Layout" "slack" ["self", "level", "kept"] [.ref z0] (spSlack K))
    (P_length : Pf P w K mg base 1 "Layout" "length" (spLng K)) (M_fits : MfS P w K mg base 12 "Layout" "fits" "kept" (.ref z1) (spFits K)) (M_short_level : Mf P w K mg base 11 "Layout" "short_level" ["self", "numbers"] (spShort K)) (M_largest_kw : MfXK P w K mg base 11 "Layout" "largest" ["self", "kept"] ["kept"] [0] (spLarge K))
    (X_free_regions : MfX P w K mg base 9 "Layout" "free_regions" ["self", "level"] (spLvR K)) (X_clear_cells : MfX P w K mg base 9 "Layout" "clear_cells" ["self", "level"] (spLvR K)) (X_unpinned_cells : MfX P w K mg base 6 "Layout" "unpinned_cells" ["self", "level"] (spLvR K)) (X_slack_d : MfXD P w K mg base 10 "Layout" "slack" ["self", "level", "kept"] [.ref z0] (spSlackL K))
    (M_free_addresses : Mg P w K mg base 8 "Layout" "free_addresses" ["self", "level"] (spFaR K)) (X_fits : MfS P w K mg base 12 "Layout" "fits" "kept" (.ref z1) (spFitsR K)) (X_short_level : MfX P w K mg base 11 "Layout" "short_level" ["self", "numbers"] (spShortR K)) (X_largest_kw : MfXK P w K mg base 11 "Layout" "largest" ["self", "kept"] ["kept"] [0] (spLargeR K))
    (X_slack_kw : MfKX P w K mg base 10 "Layout" "slack" ["self", "level", "kept"] 2 ["kept"] (spSlackN K))
    (FO : FnP K "_law_outcome" "_law_outcome" (top 41) g fdO) (gO : mg "_law_outcome" = some (.ref g)) (bO : L2.Binds K fdO ["_law_call"] []) (TB : TabB base mg cd (Pt 4)) (F : FnP K "_law_bools_right" "_law_bools_right" (top 50) f fd) (hcd : fd.code = .ref cd) :
    FnG P w K mg base CX0 16 f fd ["_law_layout_here", "_law_sizes_here"] (spBools K Pt) := by
  refine okGc F sc__law_bools_right (fun vs H Q E h => ?_) (fun A outer s H vs Q E hr h => ⟨_, PSs.nox (pss_cons (ps_for PassesOwn.never rfl (pi_range1 rfl T.n_range (pa_cons (pe_callB call_len_seq (by rfl) T.n_len (by decide +kernel) (pa_cons (pv 1) pa_nil)) pa_nil)) (pg_name (i := 2) sc__law_bools_right.nd rfl (by first | exact Or.inl rfl | exact Or.inr rfl)) (pss_cons (ps_set (i := 7) sc__law_bools_right.nd rfl (by first | exact Or.inl rfl | exact Or.inr rfl) (pe_lst (pa_cons (pmeth M_free_regions hr.r (pv 0) (pa_cons (pv 2) pa_nil)) (pa_cons (pmeth M_clear_cells hr.r (pv 0) (pa_cons (pv 2) pa_nil)) (pa_cons (pmeth M_unpinned_cells hr.r (pv 0) (pa_cons (pv 2) pa_nil)) pa_nil))))) (pss_one (ps_if (PW.pt (pw_or (pt_cmpR op_ne (pe_op op_sub (pe_ix ix_list (pv 7) pe_int (fun _ _ => rfl)) (pe_ix ix_list (pv 7) pe_int (fun _ _ => rfl))) (pmethD M_slack_d hr.r (pv 0) (pa_cons (pv 2) pa_nil)) (nomark _)) (pw_or1 (pt_cmpR op_gt (pe_op op_mul (pe_ix ix_list (pv 7) pe_int (fun _ _ => rfl)) (pe_ix ix_list (pv 1) (pv 2) (fun _ _ => rfl))) (pprop P_length hr.r (pv 0)) (nomark _))))) (pss_one (ps_ret pe_bl)) pss_nil)))) (pss_cons (ps_if (PW.pt (pw_or (pt_cmpR op_ne (pmethS M_fits hr.r passN (pv 0) (pa_cons pe_int pa_nil)) (pe_cmpR op_isN (pmeth M_short_level hr.r (pv 0) (pa_cons (pe_lst (pa_cons pe_int pa_nil)) pa_nil)) pe_non (nomark _)) (nomark _)) (pw_or1 (pt_cmpR op_gt (pmethXK M_largest_kw hr.r passN (pv 0) (pk_cons (pe_lst (pa_cons pe_int pa_nil)) pk_nil)) (pprop P_length hr.r (pv 0)) (nomark _))))) (pss_one (ps_ret pe_bl)) pss_nil) (pss_cons (ps_set (i := 3) sc__law_bools_right.nd rfl (by first | exact Or.inl rfl | exact Or.inr rfl) (pe_lst pa_nil)) (pss_cons (ps_for PassesOwn.never rfl (pi_list (pe_lst (pa_cons pe_bl (pa_cons pe_bl pa_nil)))) (pg_name (i := 4) sc__law_bools_right.nd rfl (by first | exact Or.inl rfl | exact Or.inr rfl)) (pss_cons (ps_expr (pe_bm PySem.F.plainAttrs_list PySem.F.slot_list_append PySem.F.type_list_append mt_append (pv 3) (pa_cons (pe_lamgive (k := 12) (t := fun E => tMeth (He.ga K "Layout") "free_regions" (spLvR K) [] E (tVar 0) (tCons (tVar 4) tNil)) (T := tabs Pt) (P := Pt 4) (c := cd) (Sg := sc__law_outcome) FO (by rfl) gO bO rfl (.inl rfl) (fun cdg => outcome_gives T KX D__law_kind (hr.mono (by decide))) TB hcd (List.mem_cons_of_mem _ (List.mem_cons_of_mem _ (List.mem_cons_of_mem _ (List.mem_cons_of_mem _ List.mem_cons_self)))) (tabs_one4 inj) (hr.r.mono (by decide)) (lamS_by (sc := defScope (top 50)) (by decide +kernel)) rfl (fun _ _ _ _ _ => by rfl) (fun A2 o2 s2 H2 E2 f2 c2 hr2 => by exact pmethX X_free_regions hr2 (passX (takes_of (E := E2) rfl rfl rfl rfl)) (pv 0) (pa_cons (pv 4) pa_nil))) pa_nil))) (pss_cons (ps_expr (pe_bm PySem.F.plainAttrs_list PySem.F.slot_list_append PySem.F.type_list_append mt_append (pv 3) (pa_cons (pe_lamgive (k := 12) (t := fun E => tMeth (He.ga K "Layout") "clear_cells" (spLvR K) [] E (tVar 0) (tCons (tVar 4) tNil)) (T := tabs Pt) (P := Pt 4) (c := cd) (Sg := sc__law_outcome) FO (by rfl) gO bO rfl (.inl rfl) (fun cdg => outcome_gives T KX D__law_kind (hr.mono (by decide))) TB hcd (List.mem_cons_of_mem _ (List.mem_cons_of_mem _ (List.mem_cons_of_mem _ (List.mem_cons_of_mem _ List.mem_cons_self)))) (tabs_one4 inj) (hr.r.mono (by decide)) (lamS_by (sc := defScope (top 50)) (by decide +kernel)) rfl (fun _ _ _ _ _ => by rfl) (fun A2 o2 s2 H2 E2 f2 c2 hr2 => by exact pmethX X_clear_cells hr2 (passX (takes_of (E := E2) rfl rfl rfl rfl)) (pv 0) (pa_cons (pv 4) pa_nil))) pa_nil))) (pss_cons (ps_expr (pe_bm PySem.F.plainAttrs_list PySem.F.slot_list_append PySem.F.type_list_append mt_append (pv 3) (pa_cons (pe_lamgive (k := 12) (t := fun E => tMeth (He.ga K "Layout") "unpinned_cells" (spLvR K) [] E (tVar 0) (tCons (tVar 4) tNil)) (T := tabs Pt) (P := Pt 4) (c := cd) (Sg := sc__law_outcome) FO (by rfl) gO bO rfl (.inl rfl) (fun cdg => outcome_gives T KX D__law_kind (hr.mono (by decide))) TB hcd (List.mem_cons_of_mem _ (List.mem_cons_of_mem _ (List.mem_cons_of_mem _ (List.mem_cons_of_mem _ List.mem_cons_self)))) (tabs_one4 inj) (hr.r.mono (by decide)) (lamS_by (sc := defScope (top 50)) (by decide +kernel)) rfl (fun _ _ _ _ _ => by rfl) (fun A2 o2 s2 H2 E2 f2 c2 hr2 => by exact pmethX X_unpinned_cells hr2 (passX (takes_of (E := E2) rfl rfl rfl rfl)) (pv 0) (pa_cons (pv 4) pa_nil))) pa_nil))) (pss_cons (ps_expr (pe_bm PySem.F.plainAttrs_list PySem.F.slot_list_append PySem.F.type_list_append mt_append (pv 3) (pa_cons (pe_lamgive (k := 12) (t := fun E => tMeth (He.ga K "Layout") "slack" (spSlackL K) [.ref z0] E (tVar 0) (tCons (tVar 4) tNil)) (T := tabs Pt) (P := Pt 4) (c := cd) (Sg := sc__law_outcome) FO (by rfl) gO bO rfl (.inl rfl) (fun cdg => outcome_gives T KX D__law_kind (hr.mono (by decide))) TB hcd (List.mem_cons_of_mem _ (List.mem_cons_of_mem _ (List.mem_cons_of_mem _ (List.mem_cons_of_mem _ List.mem_cons_self)))) (tabs_one4 inj) (hr.r.mono (by decide)) (lamS_by (sc := defScope (top 50)) (by decide +kernel)) rfl (fun _ _ _ _ _ => by rfl) (fun A2 o2 s2 H2 E2 f2 c2 hr2 => by exact pmethXD X_slack_d hr2 (passX (takes_of (E := E2) rfl rfl rfl rfl)) (pv 0) (pa_cons (pv 4) pa_nil))) pa_nil))) (pss_cons (ps_expr (pe_bm PySem.F.plainAttrs_list PySem.F.slot_list_append PySem.F.type_list_append mt_append (pv 3) (pa_cons (pe_lamgive (k := 12) (t := fun E => tListG (tMethG (He.ga K "Layout") "free_addresses" (spFaR K) [] (EnS K E) (tVar 0) (tCons (tVar 4) tNil))) (T := tabs Pt) (P := Pt 4) (c := cd) (Sg := sc__law_outcome) FO (by rfl) gO bO rfl (.inl rfl) (fun cdg => outcome_gives T KX D__law_kind (hr.mono (by decide))) TB hcd (List.mem_cons_of_mem _ (List.mem_cons_of_mem _ (List.mem_cons_of_mem _ (List.mem_cons_of_mem _ List.mem_cons_self)))) (tabs_one4 inj) (hr.r.mono (by decide)) (lamS_by (sc := defScope (top 50)) (by decide +kernel)) rfl (fun _ _ _ _ _ => by rfl) (fun A2 o2 s2 H2 E2 f2 c2 hr2 => by exact pe_listG (k := 8) (E := EnS K E2) (by exact (pgenM M_free_addresses (hr2.mono (by decide)) (pv 0) (pa_cons (pv 4) pa_nil))) (passX (takes_nS (takes_of (E := E2) rfl rfl rfl rfl))) (noStop E2) (hr2.mono (by decide)) rfl T.n_list rfl)) pa_nil))) (pss_cons (ps_expr (pe_bm PySem.F.plainAttrs_list PySem.F.slot_list_append PySem.F.type_list_append mt_append (pv 3) (pa_cons (pe_lamgive (k := 12) (t := fun E => tMethS (He.ga K "Layout") "fits" (spFitsR K) (.ref z1) E (tVar 0) (tCons (tVar 4) tNil)) (T := tabs Pt) (P := Pt 4) (c := cd) (Sg := sc__law_outcome) FO (by rfl) gO bO rfl (.inl rfl) (fun cdg => outcome_gives T KX D__law_kind (hr.mono (by decide))) TB hcd (List.mem_cons_of_mem _ (List.mem_cons_of_mem _ (List.mem_cons_of_mem _ (List.mem_cons_of_mem _ List.mem_cons_self)))) (tabs_one4 inj) (hr.r.mono (by decide)) (lamS_by (sc := defScope (top 50)) (by decide +kernel)) rfl (fun _ _ _ _ _ => by rfl) (fun A2 o2 s2 H2 E2 f2 c2 hr2 => by exact pmethS X_fits hr2 (passX (takes_of (E := E2) rfl rfl rfl rfl)) (pv 0) (pa_cons (pv 4) pa_nil))) pa_nil))) (pss_cons (ps_expr (pe_bm PySem.F.plainAttrs_list PySem.F.slot_list_append PySem.F.type_list_append mt_append (pv 3) (pa_cons (pe_lamgive (k := 12) (t := fun E => tMeth (He.ga K "Layout") "short_level" (spShortR K) [] E (tVar 0) (tCons (tLst (tCons (tVar 4) tNil)) tNil)) (T := tabs Pt) (P := Pt 4) (c := cd) (Sg := sc__law_outcome) FO (by rfl) gO bO rfl (.inl rfl) (fun cdg => outcome_gives T KX D__law_kind (hr.mono (by decide))) TB hcd (List.mem_cons_of_mem _ (List.mem_cons_of_mem _ (List.mem_cons_of_mem _ (List.mem_cons_of_mem _ List.mem_cons_self)))) (tabs_one4 inj) (hr.r.mono (by decide)) (lamS_by (sc := defScope (top 50)) (by decide +kernel)) rfl (fun _ _ _ _ _ => by rfl) (fun A2 o2 s2 H2 E2 f2 c2 hr2 => by exact pmethX X_short_level hr2 (passX (takes_of (E := E2) rfl rfl rfl rfl)) (pv 0) (pa_cons (pe_lst (pa_cons (pv 4) pa_nil)) pa_nil))) pa_nil))) (pss_cons (ps_expr (pe_bm PySem.F.plainAttrs_list PySem.F.slot_list_append PySem.F.type_list_append mt_append (pv 3) (pa_cons (pe_lamgive (k := 12) (t := fun E => tMethKw (He.ga K "Layout") "largest" (spLargeR K) (["kept"] : List Str).length [0] E (tVar 0) (tCons (tLst (tCons (tVar 4) tNil)) tNil)) (T := tabs Pt) (P := Pt 4) (c := cd) (Sg := sc__law_outcome) FO (by rfl) gO bO rfl (.inl rfl) (fun cdg => outcome_gives T KX D__law_kind (hr.mono (by decide))) TB hcd (List.mem_cons_of_mem _ (List.mem_cons_of_mem _ (List.mem_cons_of_mem _ (List.mem_cons_of_mem _ List.mem_cons_self)))) (tabs_one4 inj) (hr.r.mono (by decide)) (lamS_by (sc := defScope (top 50)) (by decide +kernel)) rfl (fun _ _ _ _ _ => by rfl) (fun A2 o2 s2 H2 E2 f2 c2 hr2 => by exact pmethXK X_largest_kw hr2 (passX (takes_of (E := E2) rfl rfl rfl rfl)) (pv 0) (pk_cons (pe_lst (pa_cons (pv 4) pa_nil)) pk_nil))) pa_nil))) (pss_one (ps_expr (pe_bm PySem.F.plainAttrs_list PySem.F.slot_list_append PySem.F.type_list_append mt_append (pv 3) (pa_cons (pe_lamgive (k := 12) (t := fun E => tMethKX (He.ga K "Layout") "slack" (spSlackN K) 2 (["kept"] : List Str).length E (tVar 0) (tCons (tC (.int 0)) tNil) (tCons (tTup (tCons (tVar 4) tNil)) tNil)) (T := tabs Pt) (P := Pt 4) (c := cd) (Sg := sc__law_outcome) FO (by rfl) gO bO rfl (.inl rfl) (fun cdg => outcome_gives T KX D__law_kind (hr.mono (by decide))) TB hcd (List.mem_cons_of_mem _ (List.mem_cons_of_mem _ (List.mem_cons_of_mem _ (List.mem_cons_of_mem _ List.mem_cons_self)))) (tabs_one4 inj) (hr.r.mono (by decide)) (lamS_by (sc := defScope (top 50)) (by decide +kernel)) rfl (fun _ _ _ _ _ => by rfl) (fun A2 o2 s2 H2 E2 f2 c2 hr2 => by exact pmethKX X_slack_kw hr2 (passX (takes_of (E := E2) rfl rfl rfl rfl)) (pv 0) (pa_cons pe_int pa_nil) (pk_cons (pe_tup (pa_cons (pv 4) pa_nil)) pk_nil))) pa_nil))))))))))))) (pss_cons (ps_set (i := 5) sc__law_bools_right.nd rfl (by first | exact Or.inl rfl | exact Or.inr rfl) (pe_lst pa_nil)) (pss_cons (ps_for PassesOwn.never rfl (pi_list (pe_lst (pa_cons pe_str (pa_cons pe_str pa_nil)))) (pg_name (i := 6) sc__law_bools_right.nd rfl (by first | exact Or.inl rfl | exact Or.inr rfl)) (pss_one (ps_set (i := 5) sc__law_bools_right.nd rfl (by first | exact Or.inl rfl | exact Or.inr rfl) (pe_op op_cat (pe_op op_cat (pe_op op_cat (pv 5) (pe_op op_rep (pe_lst (pa_cons (pe_lst (pa_cons pe_str (pa_cons (pv 6) pa_nil))) pa_nil)) pe_int)) (pe_lst (pa_cons (pe_lst (pa_cons pe_str (pa_cons (pv 6) pa_nil))) pa_nil))) (pe_op op_rep (pe_lst (pa_cons (pe_lst (pa_cons pe_str (pa_cons pe_str pa_nil))) pa_nil)) pe_int))))) (pss_one (ps_ret (pe_cmpR (op_eqD hr.r.units) (pv 3) (pv 5) (nomark _)))))))))), ?_⟩)
  · obtain ⟨r, y, zp, bl, dx, ps, ns, n, bs, s, lb, qs, rfl, _⟩ := h
    rfl
  · obtain ⟨r, y, zp, bl, dx, ps, ns, n, bs, s, lb, qs, rfl, W, tb, q⟩ := h
    have sl : sizeLine = 16777216 := sizeLine_eq
    have L := W.ly.ly
    have n1 := L.n1
    have n2 := W.n2
    have l8 := L.gd.len
    refine ⟨_, rfl, s, _, rfl, .inl (SqL.of W.hs), _, rfl, by rw [List.length_map]; omega, by rw [List.length_map]; omega, ?_⟩
    obtain ⟨o0, m0, z01, z02, z03⟩ := hz0
    obtain ⟨o1, m1, z11, z12, z13⟩ := hz1
    have kp0 : ∀ G, Kept K G z0 [] := fun G => .dft o0 m0 rfl z01 z02 z03
    have kp1 : ∀ G, Kept K G z1 [] := fun G => .dft o1 m1 rfl z11 z12 z13
    refine for_range (fun i σ G => (∃ a b, σ = [some (.ref y), some (.ref s), a, none, none, none, none, b]) ∧ Same H G) ⟨⟨_, _, rfl⟩, Same.refl H⟩ ?_ ?_
    · rintro i σ G hi ⟨⟨a, b, rfl⟩, sm⟩
      rw [Int.toNat_natCast, List.length_map] at hi
      rw [Int.zero_add]
      have LG := L.same sm
      refine ⟨_, rfl, y, dx, _, rfl, LG.at_, lay_nm (by decide +kernel), _, rfl, y, zp, bl, dx, ps, ns, n, bs, i, rfl, LG, hi, fun H1 s1 => ?_⟩
      have L1 := LG.same s1
      refine ⟨_, rfl, y, dx, _, rfl, L1.at_, lay_nm (by decide +kernel), _, rfl, y, zp, bl, dx, ps, ns, n, bs, i, rfl, L1, hi, fun H2 s2 => ?_⟩
      have L2 := L1.same s2
      refine ⟨_, rfl, y, dx, _, rfl, L2.at_, lay_nm (by decide +kernel), _, rfl, y, zp, bl, dx, ps, ns, n, bs, i, rfl, L2, hi, fun H3 s3 => ⟨(by show 3 ≤ sizeLine; omega), fun D hD => ?_⟩⟩
      have sm3 := ((sm.trans s1).trans s2).trans s3
      have m4 := same_upd (o := .lst [.int (regI ns i (fgI ns n bs)), .int (clrI ns n bs i), .int (lseI ns bs i)]) hD
      have L4 := L.same (sm3.trans m4)
      have e1 : (!decide (V.int (clrI ns n bs i - lseI ns bs i) = V.int (slkI ns n bs i []))) = false := by
        have e : V.int (clrI ns n bs i - lseI ns bs i) = V.int (slkI ns n bs i []) := congrArg V.int (by show _ = clrI ns n bs i - lseI ns bs i - 0; omega)
        rw [decide_eq_true e]
        rfl
      have z1 := (chain L.gd).pos _ hi
      have z2 := sz_le L.gd hi
      have fl := free_le L.wf L.gd (by omega) hi
      refine ⟨_, rfl, D, _, _, _, rfl, rfl, SqL.of upd_same, rfl, _, rfl, D, _, _, _, rfl, rfl, SqL.of upd_same, rfl, _, _, rfl, rfl, _, rfl, y, dx, _, rfl, L4.at_, lay_nm (by decide +kernel), _, rfl, y, zp, bl, dx, ps, ns, n, bs, i, z0, [], rfl, L4, hi, kp0 _, (fun c hc => nomatch hc), Nat.zero_le _, fun H5 s5 => ⟨rfl, _, rfl, ifF e1 ?_⟩⟩
      have L5 := L4.same s5
      refine ⟨_, rfl, D, _, _, _, rfl, rfl, SqL.of (s5 _ _ upd_same), rfl, _, rfl, _, rfl, s, _, _, _, rfl, rfl, SqL.of (s5 _ _ (m4 _ _ (sm3 _ _ W.hs))), at_map (sz_at hi), _, _, rfl, rfl, .inr ⟨by omega, by omega⟩, _, rfl, y, dx, _, rfl, L5.at_, y, zp, bl, dx, ps, ns, n, bs, rfl, L5, _, _, rfl, rfl, _, rfl, ifF (decide_eq_false (by omega)) ?_⟩
      exact ⟨⟨_, _, rfl⟩, (sm3.trans m4).trans s5⟩
    · rintro σ G ⟨⟨a, b, rfl⟩, sm⟩
      have LG := L.same sm
      refine ⟨_, rfl, y, dx, _, rfl, LG.at_, lay_nm (by decide +kernel), _, _, rfl, (by show 1 ≤ sizeLine; omega), fun p hp => ⟨y, zp, bl, dx, ps, ns, n, bs, z1, p, [1], [], rfl, LG.same (same_upd hp), upd_same, (fun c hc => by rw [List.mem_singleton.mp hc]; decide), kp1 _, (fun c hc => nomatch hc), by decide, fun H1 s1 => ?_⟩⟩
      have sm1 := (sm.trans (same_upd (o := .tup [.int 1]) hp)).trans s1
      have L1 := L.same sm1
      have e2 : (!decide (V.bl (decide (shV ns n bs ([1] ++ []) = .non)) = V.bl (decide (shV ns n bs [1] = .non)))) = false := by
        rw [List.append_nil, decide_eq_true rfl]
        rfl
      refine ⟨_, rfl, y, dx, _, rfl, L1.at_, lay_nm (by decide +kernel), (by show 1 ≤ sizeLine; omega), fun c1 hc1 => ⟨y, zp, bl, dx, ps, ns, n, bs, c1, [1], rfl, L1.same (same_upd hc1), .lst upd_same, (fun c hc => by rw [List.mem_singleton.mp hc]; decide), by decide, fun H2 s2 => ⟨rfl, rfl, _, rfl, ifF e2 ?_⟩⟩⟩
      have sm2 := (sm1.trans (same_upd (o := .lst [.int 1]) hc1)).trans s2
      have L2 := L.same sm2
      refine ⟨_, rfl, y, dx, _, rfl, L2.at_, lay_nm (by decide +kernel), (by show 1 ≤ sizeLine; omega), fun c2 hc2 => ⟨rfl, y, zp, bl, dx, ps, ns, n, bs, c2, [1], rfl, L2.same (same_upd hc2), .lst upd_same, (fun c hc => by rw [List.mem_singleton.mp hc]; decide), by decide, fun H3 s3 => ?_⟩⟩
      have sm3 := (sm2.trans (same_upd (o := .lst [.int 1]) hc2)).trans s3
      have L3 := L.same sm3
      have ll := lrg_len L.wf L.gd n1
      refine ⟨_, rfl, y, dx, _, rfl, L3.at_, y, zp, bl, dx, ps, ns, n, bs, rfl, L3, _, _, rfl, rfl, _, rfl, ifF (decide_eq_false (by omega)) ?_⟩
      refine nx_of (σ' := [some (.ref y), some (.ref s), a, none, none, none, none, b]) rfl (go_asg ?_)
      have sH : StpN r H H3 := (Stp.same (Stp.refl W.rg) sm3).n
      have tb3 : Tabs (tabs Pt) H3 := tabs_stp tb (rng_lst W.rg) fun c o _ e => sm3 c o e
      have W3 := W.stpN sH
      clear s1 s2 s3 hp hc1 hc2
      refine ⟨Nat.zero_le _, fun M hM => ?_⟩
      have TT0 := ToldR.start (T := tabs Pt) (r := r) W3.rg tb3 hM
      generalize upd H3 M (.lst []) = F0 at TT0
      show tSeq _ _ _ _ _
      refine at_st (σ' := [some (.ref y), some (.ref s), a, some (.ref M), none, none, none, b]) rfl ?_
      refine ⟨(by show 2 ≤ sizeLine; omega), fun c3 hc3 => ⟨c3, rfl, ⟨_, SqL.of upd_same⟩, ?_⟩⟩
      have TT := TT0.add (o := .lst [.bl true, .bl false]) hc3 (fun ps e => by cases e)
      have fl2 : ∀ i : Nat, [true, false].take i = [true, false].take i := fun _ => rfl
      refine for_list (xs := [.bl true, .bl false]) (fun i σ G => (∃ x, σ = [some (.ref y), some (.ref s), a, some (.ref M), x, none, none, b]) ∧ ∃ rs, ToldR (tabs Pt) H3 G r M [(c3, .lst [.bl true, .bl false])] rs ∧ rs.map (·.2) = ([true, false].take i).flatMap fun f => nine (shB f)) ⟨⟨_, rfl⟩, [], TT, rfl⟩ (fun i σ G _ ⟨_, rs, t, _⟩ => SqL.of (t.kp _ List.mem_cons_self).1) ?_ ?_
      · rintro i x σ G hx ⟨⟨x0, rfl⟩, rs, TT, er⟩
        obtain ⟨fl, hf, rfl⟩ : ∃ fl, [true, false][i]? = some fl ∧ x = .bl fl := by
          rcases i with _ | _ | i
          · cases hx
            exact ⟨true, rfl, rfl⟩
          · cases hx
            exact ⟨false, rfl, rfl⟩
          · cases hx
        have LY : ∀ {G1}, StpN r H3 G1 → Ly K G1 y zp bl dx ps ns n bs := fun sg => (W3.stpN sg).ly.ly
        have tqb : ∀ G1, StpN r H3 G1 → Tq K G1 (.bl fl) (.bool fl) 4 200 := fun G1 sg => (vd_bl (K := K) (r := r) (H := H3) fl G1 sg).2
        have tq0 : ∀ G1, StpN r H3 G1 → Tq K G1 (.int (0 : Nat)) (.int (0 : Nat)) 4 200 := fun G1 sg => (vd_int (K := K) (r := r) (H := H3) (i := (0 : Nat)) (by decide) (by decide) G1 sg).2
        have any1 : ∀ (G1 : Hp) (j : Nat) (z : V), j ≤ 0 → [V.bl fl][j]? = some z → Any G1 z := fun G1 j z hj hz => by
          obtain rfl : j = 0 := by omega
          cases hz
          exact .bl fl
        have ln : rs.length ≤ 9 := by
          have e := congrArg List.length er
          rw [List.length_map] at e
          rw [e]
          rcases i with _ | _ | i
          · decide +kernel
          · decide +kernel
          · cases hf
        refine go_nm (at_st (σ' := [some (.ref y), some (.ref s), a, some (.ref M), some (.bl fl), none, none, b]) rfl ?_)
        have U0 := TT
        refine ⟨_, rfl, .inl ⟨rfl, _, SqL.of U0.at_⟩, ?_⟩
        refine one_at (K := K) 0 (by decide) tqb _ _ _ U0.st U0.tb (fun G1 E N sg ra => ?_) (fun R1 G1 s1 x1 tb11 h1 fr1 => ?_)
        · exact ⟨_, rfl, y, dx, _, rfl, (LY sg).at_, lay_nm (by decide +kernel), _, rfl, y, zp, bl, dx, ps, ns, n, bs, .bl fl, rfl, LY sg, .bl fl, rfl, ra⟩
        obtain ⟨hM1, U1⟩ := U0.more s1 x1 tb11 h1 fr1
        refine ⟨M, _, _, rfl, rfl, hM1, (by simp only [List.length_map, List.length_append, List.length_singleton]; omega), ?_⟩
        generalize upd G1 M _ = F1 at U1
        refine ⟨_, rfl, .inl ⟨rfl, _, SqL.of U1.at_⟩, ?_⟩
        refine one_at (K := K) 0 (by decide) tqb _ _ _ U1.st U1.tb (fun G1 E N sg ra => ?_) (fun R2 G2 s2 x2 tb12 h2 fr2 => ?_)
        · exact ⟨_, rfl, y, dx, _, rfl, (LY sg).at_, lay_nm (by decide +kernel), _, rfl, y, zp, bl, dx, ps, ns, n, bs, .bl fl, rfl, LY sg, .bl fl, rfl, ra⟩
        obtain ⟨hM2, U2⟩ := U1.more s2 x2 tb12 h2 fr2
        refine ⟨M, _, _, rfl, rfl, hM2, (by simp only [List.length_map, List.length_append, List.length_singleton]; omega), ?_⟩
        generalize upd G2 M _ = F2 at U2
        refine ⟨_, rfl, .inl ⟨rfl, _, SqL.of U2.at_⟩, ?_⟩
        refine one_at (K := K) 0 (by decide) tqb _ _ _ U2.st U2.tb (fun G1 E N sg ra => ?_) (fun R3 G3 s3 x3 tb13 h3 fr3 => ?_)
        · exact ⟨_, rfl, y, dx, _, rfl, (LY sg).at_, lay_nm (by decide +kernel), _, rfl, y, zp, bl, dx, ps, ns, n, bs, .bl fl, rfl, LY sg, .bl fl, rfl, ra⟩
        obtain ⟨hM3, U3⟩ := U2.more s3 x3 tb13 h3 fr3
        refine ⟨M, _, _, rfl, rfl, hM3, (by simp only [List.length_map, List.length_append, List.length_singleton]; omega), ?_⟩
        generalize upd G3 M _ = F3 at U3
        refine ⟨_, rfl, .inl ⟨rfl, _, SqL.of U3.at_⟩, ?_⟩
        refine one_at (K := K) 0 (by decide) tqb _ _ _ U3.st U3.tb (fun G1 E N sg ra => ?_) (fun R4 G4 s4 x4 tb14 h4 fr4 => ?_)
        · exact ⟨_, rfl, y, dx, _, rfl, (LY sg).at_, lay_nm (by decide +kernel), _, rfl, y, zp, bl, dx, ps, ns, n, bs, .bl fl, .ref z0, rfl, LY sg, .bl fl, rfl, ra⟩
        obtain ⟨hM4, U4⟩ := U3.more s4 x4 tb14 h4 fr4
        refine ⟨M, _, _, rfl, rfl, hM4, (by simp only [List.length_map, List.length_append, List.length_singleton]; omega), ?_⟩
        generalize upd G4 M _ = F4 at U4
        refine ⟨_, rfl, .inl ⟨rfl, _, SqL.of U4.at_⟩, ?_⟩
        refine one_at (K := K) 0 (by decide) tqb _ _ _ U4.st U4.tb (fun G1 E N sg ra => ?_) (fun R5 G5 s5 x5 tb15 h5 fr5 => ?_)
        · exact ⟨_, rfl, y, dx, _, rfl, (LY sg).at_, lay_nm (by decide +kernel), _, rfl, y, zp, bl, dx, ps, ns, n, bs, .bl fl, rfl, LY sg, .bl fl, rfl, fun a b c e f => ⟨ra a b c e f, hSt⟩⟩
        obtain ⟨hM5, U5⟩ := U4.more s5 x5 tb15 h5 fr5
        refine ⟨M, _, _, rfl, rfl, hM5, (by simp only [List.length_map, List.length_append, List.length_singleton]; omega), ?_⟩
        generalize upd G5 M _ = F5 at U5
        refine ⟨_, rfl, .inl ⟨rfl, _, SqL.of U5.at_⟩, ?_⟩
        refine one_at (K := K) 2 (by decide) tqb _ _ _ U5.st U5.tb (fun G1 E N sg ra => ?_) (fun R6 G6 s6 x6 tb16 h6 fr6 => ?_)
        · exact ⟨_, rfl, y, dx, _, rfl, (LY sg).at_, lay_nm (by decide +kernel), _, rfl, _, _, rfl, (by show 1 ≤ sizeLine; omega), fun p hp => ⟨y, zp, bl, dx, ps, ns, n, bs, .ref z1, p, [.bl fl], rfl, (LY sg).same (same_upd hp), upd_same, .inl ⟨0, .bl fl, rfl, rfl, fun j z hj hz => any1 _ j z hj hz, fun j z hj => absurd hj (Nat.not_lt_zero j), Raised.same (c := "InvalidNumber") (n := "value") ra (same_upd hp)⟩⟩⟩
        obtain ⟨hM6, U6⟩ := U5.more s6 x6 tb16 h6 fr6
        refine ⟨M, _, _, rfl, rfl, hM6, (by simp only [List.length_map, List.length_append, List.length_singleton]; omega), ?_⟩
        generalize upd G6 M _ = F6 at U6
        refine ⟨_, rfl, .inl ⟨rfl, _, SqL.of U6.at_⟩, ?_⟩
        refine one_at (K := K) 3 (by decide) tq0 _ _ _ U6.st U6.tb (fun G1 E N sg ra => ?_) (fun R7 G7 s7 x7 tb17 h7 fr7 => ?_)
        · exact ⟨_, rfl, y, dx, _, rfl, (LY sg).at_, lay_nm (by decide +kernel), _, rfl, (by show 1 ≤ sizeLine; omega), fun c hc => ⟨y, zp, bl, dx, ps, ns, n, bs, .ref c, 0, rfl, (LY sg).same (same_upd hc), (.inr ⟨c, [.bl fl], .bl fl, rfl, .inl upd_same, rfl, rfl, fun j z hj hz => any1 _ j z hj hz, fun j z hj => absurd hj (Nat.not_lt_zero j)⟩), Raised.same (c := "InvalidNumbers") (n := "position") ra (same_upd hc)⟩⟩
        obtain ⟨hM7, U7⟩ := U6.more s7 x7 tb17 h7 fr7
        refine ⟨M, _, _, rfl, rfl, hM7, (by simp only [List.length_map, List.length_append, List.length_singleton]; omega), ?_⟩
        generalize upd G7 M _ = F7 at U7
        refine ⟨_, rfl, .inl ⟨rfl, _, SqL.of U7.at_⟩, ?_⟩
        refine one_at (K := K) 3 (by decide) tq0 _ _ _ U7.st U7.tb (fun G1 E N sg ra => ?_) (fun R8 G8 s8 x8 tb18 h8 fr8 => ?_)
        · exact ⟨_, rfl, y, dx, _, rfl, (LY sg).at_, lay_nm (by decide +kernel), _, rfl, (by show 1 ≤ sizeLine; omega), fun c hc => ⟨rfl, y, zp, bl, dx, ps, ns, n, bs, .ref c, 0, rfl, (LY sg).same (same_upd hc), (.inr ⟨c, [.bl fl], .bl fl, rfl, .inl upd_same, rfl, rfl, fun j z hj hz => any1 _ j z hj hz, fun j z hj => absurd hj (Nat.not_lt_zero j)⟩), Raised.same (c := "InvalidNumbers") (n := "position") ra (same_upd hc)⟩⟩
        obtain ⟨hM8, U8⟩ := U7.more s8 x8 tb18 h8 fr8
        refine ⟨M, _, _, rfl, rfl, hM8, (by simp only [List.length_map, List.length_append, List.length_singleton]; omega), ?_⟩
        generalize upd G8 M _ = F8 at U8
        refine ⟨_, rfl, .inl ⟨rfl, _, SqL.of U8.at_⟩, ?_⟩
        refine one_at (K := K) 3 (by decide) tq0 _ _ _ U8.st U8.tb (fun G1 E N sg ra => ?_) (fun R9 G9 s9 x9 tb19 h9 fr9 => ?_)
        · exact ⟨_, rfl, y, dx, _, rfl, (LY sg).at_, lay_nm (by decide +kernel), _, rfl, (by show 1 ≤ sizeLine; omega), fun c hc => ⟨rfl, rfl, y, zp, bl, dx, ps, ns, n, bs, 0, .ref c, 0, rfl, (LY sg).same (same_upd hc), by omega, (.inr ⟨c, [.bl fl], .bl fl, rfl, .inr upd_same, rfl, rfl, fun j z hj hz => any1 _ j z hj hz, fun j z hj => absurd hj (Nat.not_lt_zero j)⟩), Raised.same (c := "InvalidNumbers") (n := "position") ra (same_upd hc)⟩⟩
        obtain ⟨hM9, U9⟩ := U8.more s9 x9 tb19 h9 fr9
        refine ⟨M, _, _, rfl, rfl, hM9, (by simp only [List.length_map, List.length_append, List.length_singleton]; omega), ?_⟩
        generalize upd G9 M _ = F9 at U9
        refine ⟨⟨_, rfl⟩, _, U9, ?_⟩
        have e0 : (PyData.int ((0 : Nat) : Int)).shown = ("0" : Str) := by decide +kernel
        rw [List.take_add_one, hf, List.flatMap_append, ← er]
        simp only [List.map_append, List.append_assoc, List.map_cons, List.map_nil, e0]
        rfl
      · rintro σ F ⟨⟨x4, rfl⟩, rs, U, er⟩
        have er2 : rs.map (·.2) = due2 := er
        refine nx_of (σ' := [some (.ref y), some (.ref s), a, some (.ref M), x4, none, none, b]) rfl (go_asg ?_)
        refine ⟨Nat.zero_le _, fun D0 hD0 => ?_⟩
        show tSeq _ _ _ _ _
        refine at_st (σ' := [some (.ref y), some (.ref s), a, some (.ref M), x4, some (.ref D0), none, b]) rfl ?_
        have mD := same_upd (o := .lst []) hD0
        refine ⟨(by show 2 ≤ sizeLine; omega), fun c5 hc5 => ⟨c5, rfl, ⟨_, SqL.of upd_same⟩, ?_⟩⟩
        have m5 := same_upd (o := .lst [.str "True", .str "False"]) hc5
        have k5 : (upd (upd F D0 (.lst [])) c5 (.lst [.str "True", .str "False"])) c5 = some (.lst [.str "True", .str "False"]) := upd_same
        have kD := m5 D0 _ (upd_same (H := F) (a := D0) (o := .lst []))
        have smF := mD.trans m5
        generalize upd (upd F D0 (.lst [])) c5 (.lst [.str "True", .str "False"]) = F5 at k5 kD smF
        refine for_list (xs := [.str "True", .str "False"]) (fun i σ G => (∃ (x : Option V) (D : Addr) (es : List (Addr × Str × Str)), σ = [some (.ref y), some (.ref s), a, some (.ref M), x4, some (.ref D), x, b] ∧ G D = some (.lst (es.map fun p => V.ref p.1)) ∧ (∀ p ∈ es, G p.1 = some (.lst [.str p.2.1, .str p.2.2])) ∧ es.map (·.2) = ([true, false].take i).flatMap fun f => nine (shB f)) ∧ Same F5 G) ⟨⟨none, D0, [], rfl, kD, (fun p hp => nomatch hp), rfl⟩, Same.refl F5⟩ (fun i σ G _ z => SqL.of (z.2 _ _ k5)) ?_ ?_
        · rintro i x σ G hx ⟨⟨x6, D, es, rfl, gD, ok, ee⟩, sm⟩
          obtain ⟨fl, hf, rfl⟩ : ∃ fl, [true, false][i]? = some fl ∧ x = .str (shB fl) := by
            rcases i with _ | _ | i
            · cases hx
              exact ⟨true, rfl, rfl⟩
            · cases hx
              exact ⟨false, rfl, rfl⟩
            · cases hx
          have ln : es.length ≤ 9 := by
            have e := congrArg List.length ee
            rw [List.length_map] at e
            rw [e]
            rcases i with _ | _ | i
            · decide +kernel
            · decide +kernel
            · cases hf
          refine go_nm (at_st (σ' := [some (.ref y), some (.ref s), a, some (.ref M), x4, some (.ref D), some (.str (shB fl)), b]) rfl ?_)
          refine ⟨_, rfl, _, rfl, (by show 2 ≤ sizeLine; omega), fun a1 ha1 => ⟨(by show 1 ≤ sizeLine; omega), fun b1 hb1 => ⟨b1, 5, _, rfl, rfl, upd_same, by decide, by decide, (by show 1 * 5 ≤ sizeLine; omega), fun c1 hc1 => ?_⟩⟩⟩
          have n1 := same_upd (o := .lst [.str "level", .str (shB fl)]) ha1
          have n2 := same_upd (o := .lst [.ref a1]) hb1
          have n3 := same_upd (o := .lst [.ref a1, .ref a1, .ref a1, .ref a1, .ref a1]) hc1
          have n13 := (n1.trans n2).trans n3
          refine ⟨D, c1, _, _, rfl, rfl, n13 _ _ gD, upd_same, (by rw [List.length_map]; show es.length + 5 ≤ sizeLine; omega), fun d1 hd1 => ?_⟩
          have n4 := same_upd (o := .lst ((es.map fun p => V.ref p.1) ++ [.ref a1, .ref a1, .ref a1, .ref a1, .ref a1])) hd1
          refine ⟨_, rfl, (by show 2 ≤ sizeLine; omega), fun a2 ha2 => ⟨(by show 1 ≤ sizeLine; omega), fun b2 hb2 => ?_⟩⟩
          have n5 := same_upd (o := .lst [.str "number", .str (shB fl)]) ha2
          have n6 := same_upd (o := .lst [.ref a2]) hb2
          refine ⟨d1, b2, _, _, rfl, rfl, (n5.trans n6) _ _ upd_same, upd_same, (by rw [List.length_append, List.length_map]; show es.length + 5 + 1 ≤ sizeLine; omega), fun d2 hd2 => ?_⟩
          have n7 := same_upd (o := .lst (((es.map fun p => V.ref p.1) ++ [.ref a1, .ref a1, .ref a1, .ref a1, .ref a1]) ++ [.ref a2])) hd2
          refine ⟨(by show 2 ≤ sizeLine; omega), fun a3 ha3 => ⟨(by show 1 ≤ sizeLine; omega), fun b3 hb3 => ⟨b3, 3, _, rfl, rfl, upd_same, by decide, by decide, (by show 1 * 3 ≤ sizeLine; omega), fun c3 hc3 => ?_⟩⟩⟩
          have n8 := same_upd (o := .lst [.str "numbers", .str "0"]) ha3
          have n9 := same_upd (o := .lst [.ref a3]) hb3
          have n10 := same_upd (o := .lst [.ref a3, .ref a3, .ref a3]) hc3
          refine ⟨d2, c3, _, _, rfl, rfl, ((n8.trans n9).trans n10) _ _ upd_same, upd_same, (by rw [List.length_append, List.length_append, List.length_map]; show es.length + 5 + 1 + 3 ≤ sizeLine; omega), fun d3 hd3 => ?_⟩
          have n11 := same_upd (o := .lst ((((es.map fun p => V.ref p.1) ++ [.ref a1, .ref a1, .ref a1, .ref a1, .ref a1]) ++ [.ref a2]) ++ [.ref a3, .ref a3, .ref a3])) hd3
          have q1 := ((n8.trans n9).trans n10).trans n11
          have q2 := ((n5.trans n6).trans n7).trans q1
          have q3 := ((n2.trans n3).trans n4).trans q2
          have w1 := q3 a1 _ upd_same
          have w2 := ((n6.trans n7).trans q1) a2 _ upd_same
          have w3 := ((n9.trans n10).trans n11) a3 _ upd_same
          refine ⟨⟨_, d3, es ++ (List.replicate 5 (a1, (("level" : Str), shB fl)) ++ [(a2, (("number" : Str), shB fl))] ++ List.replicate 3 (a3, (("numbers" : Str), ("0" : Str)))), rfl, ?_, fun p hp => ?_, ?_⟩, sm.trans (n1.trans q3)⟩
          · rw [upd_same, List.map_append]
            simp only [List.append_assoc]
            rfl
          · rcases List.mem_append.mp hp with z | z
            · exact (n1.trans q3) _ _ (ok p z)
            · rcases List.mem_append.mp z with z | z
              · rcases List.mem_append.mp z with z | z
                · rw [List.eq_of_mem_replicate z]
                  exact w1
                · rw [List.mem_singleton.mp z]
                  exact w2
              · rw [List.eq_of_mem_replicate z]
                exact w3
          · rw [List.take_add_one, hf, List.flatMap_append, ← ee, List.map_append]
            rfl
        · rintro σ G ⟨⟨x6, D, es, rfl, gD, ok, ee⟩, sm⟩
          have sG := smF.trans sm
          have ee2 : es.map (·.2) = due2 := ee
          have dl := pairs_dp (K := K) (H := G) (rs := rs) fun p hp => sG _ _ (U.ok p hp).1
          have dr := pairs_dp (K := K) (H := G) (rs := es) ok
          rw [show (rs.map fun p => p.2) = due2 from er2] at dl
          rw [show (es.map fun p => p.2) = due2 from ee2] at dr
          refine ⟨_, rfl, _, rfl, _, _, .lst (SqL.of (sG _ _ U.at_)) dl, .lst (SqL.of gD) dr, due_shp, due_shp, ?_⟩
          rw [SeqAt.eqv_refl _ (show PyData.canLay0 (.list (due2.map dat)) = true from due_lay)]
          have U2 := U.st.trans (Stp.same (Stp.refl U.st.1) sG).n
          exact q _ (sH.trans U2) (tabs_stp U.tb (rng_lst U.st.1) fun c o _ e => sG c o e)
end
end K26

set_option Elab.async false
set_option linter.all false
set_option maxRecDepth 100000
set_option maxHeartbeats 1600000
set_option pp.maxSteps 900
namespace K26
open PySem PySem.Spec PyProof.Rows L2 Gu Ex LamX
section
variable {P : Program} {w : World} {K : PySem.W.Frag} {mg : Str → Option Value} {base : Heap} {f : Addr} {fd : FuncData}
def spRightL (Pt : Nat → Addr) : Sp := fun vs H Q _ => ∃ r : Addr, vs = [.ref r] ∧ Rng H r ∧ Tabs (tabs Pt) H ∧ ∀ H', StpN r H H' → Tabs (tabs Pt) H' → Q (.bl true) H'
theorem sc__law_right : FnScope ["_law_rng_here", "_law_blocks_here", "_law_layout_here", "_law_shown", "_law_turn", "_law_last", "_law_sizes_here", "_law_length", "_law_level", "_law_odd_here", "_law_one"] ["_law_rng_here"] (defScope (top 51)) := ⟨rfl, rfl, rfl, by decide +kernel, rfl, by decide +kernel, by decide +kernel⟩
theorem ok_right {z1 : Addr} {Pt : Nat → Addr} (T : Tx K mg) (hz1 : ∃ (o : Obj) (m : Nat), K.lookup z1 = some o ∧ o.cls = .type "tuple" ∧ o.data = .seq #[] m) (D__law_sizes : Df P w K mg base 2 "_law_sizes" ["_law_rng_here", "_law_levels", "_law_greatest"] spSizes) (D__law_draw : Df P w K mg base 1 "_law_draw" ["_law_rng_here", "_law_many"] spDraw) (D__law_choice : Df P w K mg base 2 "_law_choice" ["_law_rng_here", "_law_options"] spChoice)
    (D__law_odd : Df P w K mg base 3 "_law_odd" ["_law_rng_here"] (spOddV K)) (D__law_blocks : Df P w K mg base 2 "_law_blocks" ["_law_rng_here", "_law_sizes_here", "_law_length", "_law_many", "_law_one_in"] spBlocks) (D__law_layout : Df P w K mg base 10 "_law_layout" ["_law_sizes_here", "_law_length", "_law_blocks_here"] (spLayout K))
    (D__law_level_calls : DfG P w K mg base 15 "_law_level_calls" ["_law_rng_here", "_law_layout_here", "_law_odd_here"] (spLevel K Pt)) (D__law_number_calls : DfG P w K mg base 16 "_law_number_calls" ["_law_rng_here", "_law_layout_here", "_law_level"] (spNumC K Pt))
    (D__law_place_calls : DfG P w K mg base 16 "_law_place_calls" ["_law_rng_here", "_law_layout_here", "_law_sizes_here", "_law_length", "_law_blocks_here", "_law_level"] (spPlaceC K Pt)) (D__law_occupied_right : DfG P w K mg base 16 "_law_occupied_right" ["_law_rng_here", "_law_layout_here", "_law_sizes_here", "_law_length", "_law_blocks_here", "_law_level"] (spPlaceC K Pt))
    (D__law_bools_right : DfG P w K mg base 16 "_law_bools_right" ["_law_layout_here", "_law_sizes_here"] (spBools K Pt)) (M_lrepr : MfG P w K mg base 2 "Layout" "__repr__" ["self"] (spLRepr K)) (M_fits : MfS P w K mg base 12 "Layout" "fits" "kept" (.ref z1) (spFits K)) (M_slack_kw : MfK P w K mg base 10 "Layout" "slack" ["self", "level", "kept"] 2 ["kept"] (spSlack K))
    (M_block_at : MfX P w K mg base 7 "Layout" "block_at" ["self", "address"] (spAt K)) (M_short_level : Mf P w K mg base 11 "Layout" "short_level" ["self", "numbers"] (spShort K))
    (F : FnP K "_law_right" "_law_right" (top 51) f fd) : FnG P w K mg base CX0 17 f fd ["_law_rng_here"] (spRightL Pt) := by
  refine okG F sc__law_right (fun vs H Q E h => ?_) (fun cdv A outer s H vs Q E hr h => ⟨_, PSs.nox (pss_cons (ps_asg (pe_tup (pa_cons (pcall D__law_sizes hr.r (pa_cons (pv 0) (pa_cons pe_int (pa_cons pe_int pa_nil)))) (pa_cons (pe_op op_add pe_int (pcall D__law_draw hr.r (pa_cons (pv 0) (pa_cons pe_int pa_nil)))) pa_nil))) (pg_tup (by rfl) (pgs_cons (pg_name (i := 6) sc__law_right.nd rfl (by first | exact Or.inl rfl | exact Or.inr rfl)) (pgs_cons (pg_name (i := 7) sc__law_right.nd rfl (by first | exact Or.inl rfl | exact Or.inr rfl)) pgs_nil)))) (pss_cons (ps_set (i := 1) sc__law_right.nd rfl (by first | exact Or.inl rfl | exact Or.inr rfl) (pcall D__law_blocks hr.r (pa_cons (pv 0) (pa_cons (pv 6) (pa_cons (pv 7) (pa_cons pe_int (pa_cons pe_int pa_nil))))))) (pss_cons (ps_set (i := 2) sc__law_right.nd rfl (by first | exact Or.inl rfl | exact Or.inr rfl) (pcall D__law_layout hr.r (pa_cons (pv 6) (pa_cons (pv 7) (pa_cons (pv 1) pa_nil))))) (pss_cons (ps_set (i := 3) sc__law_right.nd rfl (by first | exact Or.inl rfl | exact Or.inr rfl) (pe_callB (call_reprO M_lrepr hr) (by rfl) T.n_repr (by decide +kernel) (pa_cons (pv 2) pa_nil))) (pss_cons (ps_for PassesOwn.never rfl (pi_range1 rfl T.n_range (pa_cons pe_int pa_nil)) (pg_name (i := 4) sc__law_right.nd rfl (by first | exact Or.inl rfl | exact Or.inr rfl)) (pss_cons (ps_par (by rfl) sc__law_right.nd (i := 8) (j := 9) rfl rfl (by decide) rfl rfl (pa_cons (pcall D__law_draw hr.r (pa_cons (pv 0) (pa_cons (pe_callB call_len_seq (by rfl) T.n_len (by decide +kernel) (pa_cons (pv 6) pa_nil)) pa_nil))) (pa_cons (pcall D__law_choice hr.r (pa_cons (pv 0) (pa_cons (pe_lst (pa_cons (pcall D__law_odd hr.r (pa_cons (pv 0) pa_nil)) (pa_cons (pe_callB call_len_seq (by rfl) T.n_len (by decide +kernel) (pa_cons (pv 6) pa_nil)) (pa_cons (pe_op op_add (pe_callB call_len_seq (by rfl) T.n_len (by decide +kernel) (pa_cons (pv 6) pa_nil)) pe_int) pa_nil)))) pa_nil))) pa_nil)) (by rfl)) (pss_cons (ps_if (PW.pt (pw_or (pt_not (pt_val (pcallG D__law_level_calls hr (pa_cons (pv 0) (pa_cons (pv 2) (pa_cons (pv 9) pa_nil)))))) (pw_or1 (pt_not (pt_val (pcallG D__law_number_calls hr (pa_cons (pv 0) (pa_cons (pv 2) (pa_cons (pv 8) pa_nil))))))))) (pss_one (ps_ret pe_bl)) pss_nil) (pss_cons (ps_if (pt_not (pt_val (pcallG D__law_place_calls hr (pa_cons (pv 0) (pa_cons (pv 2) (pa_cons (pv 6) (pa_cons (pv 7) (pa_cons (pv 1) (pa_cons (pv 8) pa_nil))))))))) (pss_one (ps_ret pe_bl)) pss_nil) (pss_cons (ps_if (pt_not (pt_val (pcallG D__law_occupied_right hr (pa_cons (pv 0) (pa_cons (pv 2) (pa_cons (pv 6) (pa_cons (pv 7) (pa_cons (pv 1) (pa_cons (pv 8) pa_nil))))))))) (pss_one (ps_ret pe_bl)) pss_nil) (pss_one (ps_if (pt_cmpR op_ne (pe_callB (call_reprO M_lrepr hr) (by rfl) T.n_repr (by decide +kernel) (pa_cons (pv 2) pa_nil)) (pv 3) (nomark _)) (pss_one (ps_ret pe_bl)) pss_nil))))))) (pss_cons (ps_if (PW.pt (pw_or (pt_not (pt_val (pcallG D__law_bools_right hr (pa_cons (pv 2) (pa_cons (pv 6) pa_nil))))) (pw_or1 (pt_cmpR op_ne (pe_callB (call_reprO M_lrepr hr) (by rfl) T.n_repr (by decide +kernel) (pa_cons (pv 2) pa_nil)) (pv 3) (nomark _))))) (pss_one (ps_ret pe_bl)) pss_nil) (pss_cons (ps_if (PW.pt (pw_or (pt_cmpR op_notBA (pmethS M_fits hr.r passN (pv 2) (pa_cons (pe_op op_pow pe_int pe_int) pa_nil)) pe_bl (nomark _)) (pw_or1 (pt_cmpR op_ge (pmethK M_slack_kw hr.r (pv 2) (pa_cons (pe_op op_sub (pe_callB call_len_seq (by rfl) T.n_len (by decide +kernel) (pa_cons (pv 6) pa_nil)) pe_int) pa_nil) (pk_cons (pe_lst (pa_cons (pe_op op_pow pe_int pe_int) pa_nil)) pk_nil)) pe_int (nomark _))))) (pss_one (ps_ret pe_bl)) pss_nil) (pss_cons (ps_set (i := 5) sc__law_right.nd rfl (by first | exact Or.inl rfl | exact Or.inr rfl) (pe_op op_cat (pe_lc (own := [("_law_one", 10)]) (g := gName 10) rfl sc__law_right.nd (pi_list (pv 1)) (blkOk_by (own := [("_law_one", 10)]) (N := ["_law_rng_here", "_law_blocks_here", "_law_layout_here", "_law_shown", "_law_turn", "_law_last", "_law_sizes_here", "_law_length", "_law_level", "_law_odd_here", "_law_one"]) (sc := defScope (top 51)) (by decide +kernel)) (fun _ _ _ _ _ => pg_name (i := 10) sc__law_right.nd rfl (Or.inl rfl)) (fun _ _ _ _ _ => (pts_one (pt_chain op_le op_lt (pe_ix (r := rIxT K) ix_tup (pv 10) pe_int (fun _ _ => rfl)) (pe_op op_sub (pv 7) pe_int) (pe_op op_add (pe_ix (r := rIxT K) ix_tup (pv 10) pe_int (fun _ _ => rfl)) (pe_ix (r := rIxL K) ix_list (pv 6) (pe_ix (r := rIxT K) ix_tup (pv 10) pe_int (fun _ _ => rfl)) (fun _ _ => rfl)))))) (fun _ _ _ _ _ => (pv 10))) (pe_lst (pa_cons pe_non pa_nil)))) (pss_one (ps_ret (pe_and (pe_cmpR (op_eqD hr.r.units) (pmethX M_block_at hr.r passN (pv 2) (pa_cons (pe_op op_sub (pv 7) pe_int) pa_nil)) (pe_ix ix_list (pv 5) pe_int (fun _ _ => rfl)) (nomark _)) (pe_and (pe_cmpR op_isN (pmeth M_short_level hr.r (pv 2) (pa_cons (pe_tup pa_nil) pa_nil)) pe_non (nomark _)) (pe_one (pe_cmpR op_eq (pe_callB (call_reprO M_lrepr hr) (by rfl) T.n_repr (by decide +kernel) (pa_cons (pv 2) pa_nil)) (pv 3) (nomark _))))))))))))))), ?_⟩)
  · obtain ⟨r, rfl, _⟩ := h
    rfl
  · obtain ⟨r, rfl, hR, tb, q⟩ := h
    have sl : sizeLine = 16777216 := sizeLine_eq
    have big : (10 : Int) ^ 40 = 10000000000000000000000000000000000000000 := by decide
    have b39 : (10 : Int) ^ 39 = 1000000000000000000000000000000000000000 := by decide
    refine ⟨_, rfl, r, 5, 4, rfl, hR, by decide, by decide, by decide, by decide, fun s ns H1 g hs0 hs s1 => ?_⟩
    have sr : s ≠ r := fun z => hR.ne hs0 z.symm
    refine ⟨_, rfl, r, 200, rfl, s1.1, by decide, by omega, fun d H2 a0 a1 t2 => ⟨_, _, rfl, rfl, (by show 2 ≤ sizeLine; omega), fun tp htp => ?_⟩⟩
    refine ⟨tp, _, rfl, .inl (.inl upd_same), rfl, _, _, rfl, _, _, rfl, rfl, ?_⟩
    refine nx_of (σ' := [some (.ref r), none, none, none, none, none, some (.ref s), some (.int (1 + d)), none, none, none]) rfl (go_asg ?_)
    have mtp := same_upd (o := .tup [.ref s, .int (1 + d)]) htp
    have s2 := (s1.trans t2).trans (Stp.same (Stp.refl t2.1) mtp)
    have hs2 := mtp _ _ (t2.2 _ _ sr hs)
    refine ⟨_, rfl, _, rfl, _, rfl, r, s, ns, 1 + d, 12, 3, rfl, s2.1, hs2, sr, g, by omega, by omega, by decide, by decide, by decide, by decide, fun a qs bs H6 ha0 t6 ha rf wf bn => ?_⟩
    show tSeq _ _ _ _ _
    refine at_st (σ' := [some (.ref r), some (.ref a), none, none, none, none, some (.ref s), some (.int (1 + d)), none, none, none]) rfl (go_asg ?_)
    obtain ⟨n, hn⟩ : ∃ n, 1 + d = n := ⟨_, rfl⟩
    have b1 : 1 ≤ n := by omega
    have b2 : n ≤ 200 := by omega
    rw [hn] at wf ⊢
    have hs6 := t6.2 _ _ sr hs2
    have s6 := s2.trans t6
    have ar : a ≠ r := (Rng.ne s2.1 ha0).symm
    have yH6 : True := trivial
    refine ⟨_, rfl, _, rfl, _, rfl, s, a, ns, n, qs, bs, rfl, hs6, g, ha, rf, wf, by omega, by omega, by omega, fun y zp bl dx dz l ps H7 sm L y0 bl0 hz l0 => ?_⟩
    have s7 := Stp.same s6 sm
    have hll : H7 l = some (.lst (ns.map V.int)) ∧ l ≠ bl := by
      obtain ⟨dz', l', e1, e2, e3⟩ := L.ap
      rw [hz] at e1
      have e4 : l' = l := by
        have := (HO.ins.inj (Option.some.inj e1)).2.2
        unfold szF at this
        have := (Prod.mk.inj (List.cons.inj this).1).2
        exact (V.ref.inj this).symm
      rw [e4] at e2 e3
      exact ⟨e2, e3⟩
    have lr : l ≠ r := (s6.1.ne l0).symm
    have W : Wd K r H7 y zp bl dx ps ns n bs s a qs := ⟨⟨L, (s6.1.ne bl0).symm, dz, l, hz, hll.1, lr, hll.2⟩, s7.1, sm _ _ hs6, sr, sm _ _ ha, ar, rf.same sm, by omega, by omega⟩
    have tb7 : Tabs (tabs Pt) H7 := tabs_stp tb (rng_lst hR) s7.2
    show tSeq _ _ _ _ _
    refine at_st (σ' := [some (.ref r), some (.ref a), some (.ref y), none, none, none, some (.ref s), some (.int n), none, none, none]) rfl (go_asg ?_)
    refine ⟨_, rfl, y, dx, _, rfl, L.at_, y, zp, bl, dx, ps, ns, n, bs, rfl, L, W.ln, _, rfl, ?_⟩
    show tSeq _ _ _ _ _
    refine at_st (σ' := [some (.ref r), some (.ref a), some (.ref y), some (.str (layT n bs)), none, none, some (.ref s), some (.int n), none, none, none]) rfl ?_
    have eR : (!decide (V.str (layT n bs) = V.str (layT n bs))) = false := by
      rw [decide_eq_true rfl]
      rfl
    have s77 : StpN r H7 H7 := (Stp.refl W.rg).n
    refine ⟨3, rfl, by decide, by decide, ?_⟩
    refine for_range (fun i σ G => (∃ x u v, σ = [some (.ref r), some (.ref a), some (.ref y), some (.str (layT n bs)), x, none, some (.ref s), some (.int n), u, v, none]) ∧ StpN r H7 G ∧ Tabs (tabs Pt) G) ⟨⟨_, _, _, rfl⟩, s77, tb7⟩ ?_ ?_
    · rintro i σ G hi ⟨⟨x, u, v, rfl⟩, sG, tG⟩
      have WG := W.stpN sG
      have lg := WG.ly.ly.gd.len
      refine ⟨_, rfl, _, rfl, s, _, rfl, .inl (SqL.of WG.hs), r, _, rfl, WG.rg, by rw [List.length_map]; omega, by rw [List.length_map]; omega, fun e G1 e0 e1 t1 => ?_⟩
      rw [List.length_map] at e1
      obtain ⟨k, rfl⟩ : ∃ k : Nat, e = (k : Int) := ⟨e.toNat, by omega⟩
      have hk : k < ns.length := by omega
      have W1 := WG.stpN t1.n
      refine ⟨_, rfl, _, rfl, r, rfl, W1.rg, fun o d2 G2 t2 vo oo => ?_⟩
      have W2 := W1.stpN t2.n
      refine ⟨_, rfl, s, _, rfl, .inl (SqL.of W2.hs), _, rfl, s, _, rfl, .inl (SqL.of W2.hs), _, _, rfl, rfl, (by show 3 ≤ sizeLine; omega), fun po ho => ?_⟩
      have el : (ns.map V.int).length = ns.length := List.length_map _
      have T3 := (Stp.refl W2.rg).new (o := .lst [o, .int ((ns.map V.int).length : Nat), .int (((ns.map V.int).length : Nat) + 5)]) ho
      refine ⟨r, po, _, rfl, T3.1, upd_same, (Rng.ne W2.rg ho).symm, (by show 1 ≤ 3; decide), (by show 3 ≤ 1000; decide), fun u2 G3 hu t3 => ?_⟩
      have s23 : StpN r G2 G3 := T3.n.trans t3.n
      have W3 := W2.stpN s23
      obtain ⟨d3, vu, nu⟩ : ∃ d3, Vd K r G3 u2 d3 ∧ lvB ns u2 = false := by
        simp only [List.mem_cons, List.not_mem_nil, or_false] at hu
        rcases hu with rfl | rfl | rfl
        · exact ⟨d2, vo.stpN s23, odd_lv g oo⟩
        · exact ⟨_, vd_int (by omega) (by omega), decide_eq_false fun z => by omega⟩
        · exact ⟨_, vd_int (by omega) (by omega), decide_eq_false fun z => by omega⟩
      have tb3 : Tabs (tabs Pt) G3 := tabs_stp tG (rng_lst WG.rg) ((t1.trans t2).trans (T3.trans t3)).2
      refine ⟨_, _, rfl, ?_⟩
      refine nx_of (σ' := [some (.ref r), some (.ref a), some (.ref y), some (.str (layT n bs)), some (.int (0 + (i : Nat))), none, some (.ref s), some (.int n), some (.int k), some u2, none]) rfl ?_
      refine ⟨_, rfl, _, rfl, _, rfl, r, y, zp, bl, dx, ps, ns, n, bs, u2, d3, rfl, W3.rg, W3.ly.ly, W3.ly.br, W3.ly.zr, vu, nu, tb3, fun G4 s4 tb4 => ⟨_, rfl, iteF ?_⟩⟩
      have W4 := W3.stpN s4
      refine ⟨_, rfl, _, rfl, _, rfl, r, y, zp, bl, dx, ps, ns, n, bs, k, rfl, W4.rg, W4.ly, hk, tb4, fun G5 s5 tb5 => ⟨_, rfl, iteF ?_⟩⟩
      have W5 := W4.stpN s5
      refine ⟨_, rfl, _, rfl, _, rfl, _, rfl, _, rfl, _, rfl, r, y, zp, bl, dx, ps, ns, n, bs, s, a, qs, k, rfl, W5, hk, tb5, fun G6 s6' tb6 => ⟨_, rfl, iteF ?_⟩⟩
      have W6 := W5.stpN s6'
      refine ⟨_, rfl, _, rfl, _, rfl, _, rfl, _, rfl, _, rfl, r, y, zp, bl, dx, ps, ns, n, bs, s, a, qs, k, rfl, W6, hk, tb6, fun G7 s7' tb7' => ⟨_, rfl, iteF ?_⟩⟩
      have W7 := W6.stpN s7'
      have fin := (((((sG.trans t1.n).trans t2.n).trans s23).trans s4).trans s5).trans (s6'.trans s7')
      refine ⟨_, rfl, y, dx, _, rfl, W7.ly.ly.at_, y, zp, bl, dx, ps, ns, n, bs, rfl, W7.ly.ly, W.ln, _, rfl, _, rfl, rfl, _, rfl, ifF eR ?_⟩
      exact ⟨⟨_, _, _, rfl⟩, fin, tb7'⟩
    · rintro σ G ⟨⟨x, u, v, rfl⟩, sG, tG⟩
      have WG := W.stpN sG
      refine nx_of (σ' := [some (.ref r), some (.ref a), some (.ref y), some (.str (layT n bs)), x, none, some (.ref s), some (.int n), u, v, none]) rfl ?_
      refine ⟨_, rfl, _, rfl, r, y, zp, bl, dx, ps, ns, n, bs, s, a, qs, rfl, WG, tG, fun G1 s1 tb1 => ⟨_, rfl, iteF ?_⟩⟩
      have W1 := WG.stpN s1
      refine ⟨_, rfl, y, dx, _, rfl, W1.ly.ly.at_, y, zp, bl, dx, ps, ns, n, bs, rfl, W1.ly.ly, W.ln, _, rfl, _, rfl, rfl, _, rfl, ifF eR ?_⟩
      have p12 : (10 : Int) ^ (12 : Int).toNat = 1000000000000 := by decide
      have L1 := W1.ly.ly
      have lg := L1.gd.len
      have el : (ns.map V.int).length = ns.length := List.length_map _
      obtain ⟨o1, m1, z11, z12, z13⟩ := hz1
      have kp1 : ∀ G, Kept K G z1 [] := fun G => .dft o1 m1 rfl z11 z12 z13
      have rg12 : ∀ c ∈ [(10 : Int) ^ (12 : Int).toNat], 1 ≤ c ∧ c ≤ 1000000000000 := fun c hc => by
        rw [List.mem_singleton.mp hc]
        omega
      have e3 : (!decide (decide (shV ns n bs ([(10 : Int) ^ (12 : Int).toNat] ++ []) = V.non) = false)) = false := by
        have e : shV ns n bs ([(10 : Int) ^ (12 : Int).toNat] ++ []) = .int 0 := by
          rw [p12]
          exact sh_big L1.wf L1.gd (by omega) (by omega)
        rw [e]
        rfl
      refine ⟨_, rfl, y, dx, _, rfl, L1.at_, lay_nm (by decide +kernel), _, _, rfl, rfl, ⟨by decide, by decide, by decide⟩, _, _, rfl, (by show 1 ≤ sizeLine; omega), fun p hp => ⟨y, zp, bl, dx, ps, ns, n, bs, z1, p, [(10 : Int) ^ (12 : Int).toNat], [], rfl, L1.same (same_upd hp), upd_same, rg12, kp1 _, (fun c hc => nomatch hc), by decide, fun H2 s2' => ⟨false, rfl, .inl ⟨_, rfl, _, rfl, ifF e3 ?_⟩⟩⟩⟩
      have sm2 := (same_upd (o := .tup [.int ((10 : Int) ^ (12 : Int).toNat)]) hp).trans s2'
      have W2 := W1.stpN (Stp.same (Stp.refl W1.rg) sm2).n
      have L2 := W2.ly.ly
      have ek : (((ns.map V.int).length : Nat) : Int) - 1 = ((ns.length - 1 : Nat) : Int) := by omega
      refine ⟨_, rfl, y, dx, _, rfl, L2.at_, lay_nm (by decide +kernel), _, rfl, s, _, rfl, .inl (SqL.of W2.hs), _, _, rfl, rfl, _, _, rfl, rfl, ⟨by decide, by decide, by decide⟩, (by show 1 ≤ sizeLine; omega), fun c hc => ⟨rfl, rfl, y, zp, bl, dx, ps, ns, n, bs, ns.length - 1, c, [(10 : Int) ^ (12 : Int).toNat], congrArg (fun z => [V.ref y, V.int z, V.ref c]) ek, L2.same (same_upd hc), by omega, .lst upd_same, rg12, by decide, fun H3 s3 => ?_⟩⟩
      have e4 : ¬ (0 : Int) ≤ slkI ns n bs (ns.length - 1) [(10 : Int) ^ (12 : Int).toNat] := by
        rw [p12]
        have := slk_big (k := ns.length - 1) L1.wf L1.gd (by omega) (by omega) (by omega)
        omega
      refine ⟨_, _, rfl, rfl, _, rfl, ifF (decide_eq_false e4) ?_⟩
      have sm3 := (sm2.trans (same_upd (o := .lst [.int ((10 : Int) ^ (12 : Int).toNat)]) hc)).trans s3
      have W3 := W1.stpN (Stp.same (Stp.refl W1.rg) sm3).n
      have T3 : StpN r H7 H3 := (sG.trans s1).trans (Stp.same (Stp.refl s1.1) sm3).n
      have tb3 : Tabs (tabs Pt) H3 := tabs_stp tb1 (rng_lst s1.1) fun c o _ e => sm3 c o e
      refine nx_of (σ' := [some (.ref r), some (.ref a), some (.ref y), some (.str (layT n bs)), x, none, some (.ref s), some (.int n), u, v, none]) rfl (go_asg ?_)
      refine ⟨_, rfl, a, rfl, ⟨_, SqL.of W3.hb⟩, fun D hD => ?_⟩
      refine lc_list (xs := qs.map V.ref) (fun i G => (∃ rs, G D = some (.lst (rs.map V.ref)) ∧ Refs blkV H3 rs ((bs.take i).filter (fun b => decide (b.1 ≤ n - 1 ∧ n - 1 < bEnd ns b))) ∧ rs.length ≤ i) ∧ Same H3 G) ⟨⟨[], upd_same, .nil, Nat.zero_le _⟩, same_upd hD⟩ (fun i G _ z => SqL.of (z.2 _ _ W3.hb)) ?_ ?_
      · rintro i x2 G hx ⟨⟨rs, gD, rr, li⟩, sm4⟩
        have il : i < bs.length := by
          have := (List.getElem?_eq_some_iff.mp hx).1
          rw [List.length_map, W3.rf.len] at this
          exact this
        obtain ⟨b, hb⟩ : ∃ b, bs[i]? = some b := ⟨_, List.getElem?_eq_getElem il⟩
        obtain ⟨p2, hp2, hT⟩ := W3.rf.at_ hb
        rw [List.getElem?_map, hp2] at hx
        obtain rfl : x2 = .ref p2 := (Option.some.inj hx).symm
        have bk := (L1.wf.ok b (List.mem_of_getElem? hb)).1
        have tk := filter_at (i := i) (fun b => decide (b.1 ≤ n - 1 ∧ n - 1 < bEnd ns b)) hb
        have nay : ¬ (b.1 ≤ n - 1 ∧ n - 1 < bEnd ns b) → (∃ rs, G D = some (.lst (rs.map V.ref)) ∧ Refs blkV H3 rs ((bs.take (i + 1)).filter (fun b => decide (b.1 ≤ n - 1 ∧ n - 1 < bEnd ns b))) ∧ rs.length ≤ i + 1) ∧ Same H3 G := fun z => by
          refine ⟨⟨rs, gD, ?_, by omega⟩, sm4⟩
          rw [tk, if_neg (by rw [decide_eq_false z]; decide), List.append_nil]
          exact rr
        have hT2 := sm4 _ _ hT
        refine ⟨rfl, _, rfl, p2, _, _, _, rfl, rfl, SqT.of hT2, rfl, _, rfl, _, _, rfl, rfl, _, _, rfl, rfl, _, rfl, ?_⟩
        by_cases ca : b.1 ≤ n - 1
        · refine ifT (decide_eq_true ca) ⟨_, rfl, p2, _, _, _, rfl, rfl, SqT.of hT2, rfl, _, rfl, _, rfl, p2, _, _, _, rfl, rfl, SqT.of hT2, rfl, s, _, _, _, rfl, rfl, SqL.of (sm4 _ _ W3.hs), at_map (sz_at bk), _, _, rfl, rfl, _, _, rfl, rfl, _, rfl, ?_⟩
          by_cases cb : n - 1 < b.1 + sz ns b.2.1
          · refine ifT (decide_eq_true cb) ⟨_, rfl, _, gD, (by rw [List.length_map]; have := W3.ln; omega), ⟨rs ++ [p2], (by rw [upd_same, List.map_append]; rfl), ?_, (by rw [List.length_append]; show rs.length + 1 ≤ i + 1; omega)⟩, fun c2 o2 e2 => ?_⟩
            · rw [tk, if_pos (decide_eq_true ⟨ca, cb⟩)]
              exact rr.app (Refs.one hT)
            · rw [upd_ne (ne_of_none e2 hD)]
              exact sm4 c2 o2 e2
          · exact ifF (decide_eq_false cb) (nay fun z => cb z.2)
        · exact ifF (decide_eq_false ca) ⟨_, rfl, nay fun z => ca z.1⟩
      · rintro G ⟨⟨rs, gD, rr, li⟩, sm4⟩
        have ee : List.take (List.map V.ref qs).length bs = bs := by rw [List.length_map, W3.rf.len, List.take_length]
        rw [ee] at rr
        have rl := W3.rf.len
        have ln3 := W3.ln
        rw [List.length_map] at li
        refine ⟨(by show 1 ≤ sizeLine; omega), fun c1 hc1 => ?_⟩
        have mc := same_upd (o := .lst [.non]) hc1
        refine ⟨D, c1, _, _, rfl, rfl, mc _ _ gD, upd_same, (by rw [List.length_map]; show rs.length + 1 ≤ sizeLine; omega), fun d1 hd1 => ?_⟩
        have md := same_upd (o := .lst (rs.map V.ref ++ [.non])) hd1
        have kd : (upd (upd G c1 (.lst [.non])) d1 (.lst (rs.map V.ref ++ [.non]))) d1 = some (.lst (rs.map V.ref ++ [.non])) := upd_same
        have sm5 := (sm4.trans mc).trans md
        generalize upd (upd G c1 (.lst [.non])) d1 (.lst (rs.map V.ref ++ [.non])) = G5 at kd sm5
        have W5 := W3.stpN (Stp.same (Stp.refl W3.rg) sm5).n
        have L5 := W5.ly.ly
        have rr5 := rr.same sm5
        have fin : ∀ G6, Same G5 G6 → Q (.bl true) G6 := fun G6 s6' => q G6 (s7.n.trans (T3.trans (Stp.same (Stp.refl W3.rg) (sm5.trans s6')).n)) (tabs_stp tb3 (rng_lst W3.rg) fun c o _ e => s6' _ _ (sm5 c o e))
        show tRet _ _ _ _
        have b0n : atB n (.int (n - 1)) = true := decide_eq_true (by omega)
        generalize hms : bs.filter (fun b => decide (b.1 ≤ n - 1 ∧ n - 1 < bEnd ns b)) = ms at rr5
        have mem : ∀ b, b ∈ ms ↔ b ∈ bs ∧ b.1 ≤ n - 1 ∧ n - 1 < bEnd ns b := fun b => by
          rw [← hms, List.mem_filter]
          exact ⟨fun z => ⟨z.1, of_decide_eq_true z.2⟩, fun z => ⟨z.1, decide_eq_true z.2⟩⟩
        have two : ∀ b ∈ ms, ∀ c ∈ ms, b = c := fun b hb c hc => by
          obtain ⟨hb1, hb2, hb3⟩ := (mem b).mp hb
          obtain ⟨hc1, hc2, hc3⟩ := (mem c).mp hc
          obtain ⟨i, hi, rfl⟩ := List.getElem_of_mem hb1
          obtain ⟨j, hj, rfl⟩ := List.getElem_of_mem hc1
          rcases Nat.lt_trichotomy i j with h1 | h1 | h1
          · have := List.pairwise_iff_getElem.mp L5.wf.so i j hi hj h1
            omega
          · subst h1
            rfl
          · have := List.pairwise_iff_getElem.mp L5.wf.so j i hj hi h1
            omega
        have tail : ∀ G6, Same G5 G6 → (tAndV (tOp (fun x y H Q => y = V.non ∧ Q (.bl (decide (x = V.non))) H) (tMeth (He.ga K "Layout") "short_level" (spShort K) [] E0 (tVar 2) (tCons (tTup tNil) tNil)) (tC V.non)) (tOp rEq (tCB (rReprO (He.ga K "Layout") (spLRepr K)) (tCons (tVar 2) tNil)) (tVar 3)))
            [some (.ref r), some (.ref a), some (.ref y), some (.str (layT n bs)), x, some (.ref d1), some (.ref s), some (.int n), u, v, none] G6 Q := fun G6 s6' => by
          have L6 := L5.same s6'
          refine ⟨_, rfl, y, dx, _, rfl, L6.at_, lay_nm (by decide +kernel), Nat.zero_le _, fun p6 hp6 => ⟨y, zp, bl, dx, ps, ns, n, bs, p6, [], rfl, L6.same (same_upd hp6), .tup upd_same, (fun c hc => nomatch hc), Nat.zero_le _, fun G7 s7' => ⟨rfl, _, rfl, ?_⟩⟩⟩
          have s57 := (s6'.trans (same_upd (o := .tup []) hp6)).trans s7'
          have L7 := L5.same s57
          refine ifT (decide_eq_true (sh_none L7.wf L7.gd (by omega))) ?_
          refine ⟨_, rfl, y, dx, _, rfl, L7.at_, y, zp, bl, dx, ps, ns, n, bs, rfl, L7, W3.ln, _, rfl, _, rfl, rfl, ?_⟩
          have e : decide (V.str (layT n bs) = V.str (layT n bs)) = true := decide_eq_true rfl
          rw [e]
          exact fin G7 s57
        refine ⟨_, rfl, y, dx, _, rfl, L5.at_, lay_nm (by decide +kernel), _, rfl, _, _, rfl, rfl, y, zp, bl, dx, ps, ns, n, bs, .int (n - 1), rfl, L5, .int _, fun a' ea a0' an => ⟨fun no => ?_, fun b hb hb1 hb2 t ht => ?_⟩, fun z => ?_⟩
        · cases ea
          have e : ms = [] := List.eq_nil_iff_forall_not_mem.mpr fun b hb => by
            obtain ⟨h1, h2, h3⟩ := (mem b).mp hb
            exact no b h1 ⟨h2, h3⟩
          subst e
          cases rr5
          exact ⟨_, rfl, d1, _, _, _, rfl, rfl, SqL.of kd, (show atI _ ((0 : Nat) : Int) = _ from atI_nat rfl), .none, .none, .non, .non, rfl, rfl, _, rfl, ifT rfl (tail G5 (Same.refl G5))⟩
        · cases ea
          have mt := same_upd (o := .tup (blkV b)) ht
          have kt : (upd G5 t (.tup (blkV b))) t = some (.tup (blkV b)) := upd_same
          have hbm := (mem b).mpr ⟨hb, hb1, hb2⟩
          cases rr5 with
          | nil => cases hbm
          | cons e0 rt =>
            rename_i b0 rest p0 rs0
            obtain rfl := two b hbm _ List.mem_cons_self
            have dpb : ∀ {p : Addr}, (upd G5 t (.tup (blkV b))) p = some (.tup (blkV b)) → Dp K (upd G5 t (.tup (blkV b))) (.ref p) (blkD b) := fun e => .tup (SqT.of e) (.cons (.int _) (.cons (.int _) (.cons (.bl _) .nil)))
            refine ⟨_, rfl, d1, _, _, _, rfl, rfl, SqL.of (mt _ _ kd), (show atI _ ((0 : Nat) : Int) = _ from atI_nat rfl), blkD b, blkD b, dpb kt, dpb (mt _ _ e0), rfl, rfl, _, rfl, ifT ?_ (tail _ mt)⟩
            rw [eqv_blk]
            exact decide_eq_true rfl
        · rw [b0n] at z
          cases z
end
end K26

set_option Elab.async false
set_option linter.all false
set_option maxRecDepth 100000
set_option maxHeartbeats 1600000
set_option pp.maxSteps 900
namespace K26
open PySem PySem.Spec PyProof.Rows L2 Gu Ex LamX
section
variable {K : PySem.W.Frag} {H H' : Hp} {a : Addr} {xs : List V} {L : List (Addr × Str)}
theorem seq_extN26 (x : ExtN H H') (h : SqL K H a xs) : SqL K H' a xs := by
  rcases h with (h | ⟨o, h⟩) | h
  · exact .inl (.inl (x _ _ h fun ps e => by cases e))
  · exact .inl (.inr ⟨o, x _ _ h fun ps e => by cases e⟩)
  · exact .inr h
theorem tabs_same (t : Tabs L H) (s : Same H H') : Tabs L H' := fun p hp => by
  obtain ⟨ps, h1, h2, h3⟩ := t p hp
  refine ⟨ps, s _ _ h1, h2, fun pos cv hc => ?_⟩
  obtain ⟨c, e1, e2⟩ := h3 pos cv hc
  exact ⟨c, e1, s _ _ e2⟩
end
section
variable {P : Program} {w : World} {K : PySem.W.Frag} {mg : Str → Option Value} {base : Heap} {f : Addr} {fd : FuncData}
def spLaw (K : PySem.W.Frag) (Pt : Nat → Addr) : Sp := fun vs H Q _ => ∃ (a : Addr) (ns : List Int), vs = [.ref a] ∧ SqL K H a (ns.map V.int) ∧ ns.length ≤ 63 ∧ Tabs (tabs Pt) H ∧ ∀ H', Q (.bl true) H'
theorem sc_law : FnScope ["_law_script", "_law_k"] ["_law_script"] (defScope (top 52)) := ⟨rfl, rfl, rfl, by decide +kernel, rfl, by decide +kernel, by decide +kernel⟩
theorem ok_law {Pt : Nat → Addr} (T : Tx K mg) (D__law_rng : Df P w K mg base 1 "_law_rng" ["_law_script", "_law_k"] (spRng K)) (D__law_right : DfG P w K mg base 17 "_law_right" ["_law_rng_here"] (spRightL Pt))
    (F : FnP K "law" "law" (top 52) f fd) : FnG P w K mg base CX0 18 f fd ["_law_script"] (spLaw K Pt) := by
  refine okG F sc_law (fun vs H Q E h => ?_) (fun cdv A outer s H vs Q E hr h => ⟨_, PSs.nox (pss_one (ps_ret (pe_callB (cr_all rfl) (by rfl) T.n_all (by decide +kernel) (pa_cons (pe_lc (own := [("_law_k", 1)]) (g := gName 1) rfl sc_law.nd (pi_range1 rfl T.n_range (pa_cons (pe_callB (call_max2 rfl) (by rfl) T.n_max (by decide +kernel) (pa_cons pe_int (pa_cons (pe_callB (call_min2 rfl) (by rfl) T.n_min (by decide +kernel) (pa_cons (pe_callB call_len_seq (by rfl) T.n_len (by decide +kernel) (pa_cons (pv 0) pa_nil)) (pa_cons pe_int pa_nil))) pa_nil))) pa_nil)) (blkOk_by (own := [("_law_k", 1)]) (N := ["_law_script", "_law_k"]) (sc := defScope (top 52)) (by decide +kernel)) (fun _ _ _ _ _ => pg_name (i := 1) sc_law.nd rfl (Or.inl rfl)) (fun _ _ _ _ _ => pts_nil) (fun _ _ _ _ _ => (pcallG D__law_right hr (pa_cons (pcall D__law_rng hr.r (pa_cons (pv 0) (pa_cons (pv 1) pa_nil))) pa_nil)))) pa_nil)))), ?_⟩)
  · obtain ⟨a, ns, rfl, _⟩ := h
    rfl
  · obtain ⟨a, ns, rfl, hS, hlen, tb, q⟩ := h
    refine ⟨_, rfl, a, _, rfl, .inl hS, _, _, rfl, _, _, rfl, ?_⟩
    obtain ⟨j, ej, j1, j2⟩ : ∃ j : Int, (if (if (5 : Int) < ((ns.map V.int).length : Int) then 5 else ((ns.map V.int).length : Int)) > 1 then (if (5 : Int) < ((ns.map V.int).length : Int) then 5 else ((ns.map V.int).length : Int)) else 1) = j ∧ 1 ≤ j ∧ j ≤ 5 := by
      refine ⟨_, rfl, ?_, ?_⟩
      · split <;> omega
      · split <;> split <;> omega
    refine ⟨j, (by rw [ej]), by omega, by omega, fun D hD => ?_⟩
    refine lc_range (fun i H' => H' D = some (.lst ((List.replicate i true).map V.bl)) ∧ ExtN H H' ∧ Tabs (tabs Pt) H') ⟨upd_same, ExtN.of (same_upd hD), tabs_same tb (same_upd hD)⟩ ?_ ?_
    · rintro i H' hi ⟨hD', sm, tb'⟩
      have hi2 : i < 5 := by omega
      refine ⟨rfl, _, rfl, _, rfl, a, ns, i, (by rw [Int.zero_add]; rfl), seq_extN26 sm hS, by omega, fun p H1 hp sm1 rg => ?_⟩
      refine ⟨p, rfl, rg, tabs_same tb' sm1, fun H2 st tb2 => ?_⟩
      have hD1 : H1 D = some (.lst ((List.replicate i true).map V.bl)) := sm1 _ _ hD'
      have nDp : D ≠ p := ne_of_none hD' hp
      have hD2 := st.2 D _ nDp (fun ps e => by cases e) hD1
      refine ⟨_, hD2, (by rw [trues_len]; show i < sizeLine; exact Nat.lt_trans hi2 (by decide)), by rw [upd_same, trues_more], fun b o e nt => ?_, tabs_stp tb2 ⟨_, hD2⟩ fun c o n e => by rw [upd_ne n]; exact e⟩
      have e' := sm b o e nt
      rw [upd_ne (ne_of_none e hD)]
      exact st.2 b o (ne_of_none e' hp) nt (sm1 b o e')
    · rintro H' ⟨hD', sm, _⟩
      refine ⟨D, List.replicate j.toNat true, rfl, SqL.of hD', ?_⟩
      rw [all_trues]
      exact q _
end
end K26

set_option Elab.async false
set_option linter.all false
set_option maxRecDepth 100000
set_option maxHeartbeats 0
namespace K26
open PySem PySem.Spec PyProof.Rows L2 Gu Ex
/-! ### facts for the end: what the six classes are to each other -/
theorem ecB_ok {K : PySem.W.Frag} {C : Addr} (h : ecB K C = true) : ExcC K C ∧ XfC K C := by
  obtain ⟨a1, h⟩ := He.ba h
  obtain ⟨a2, h⟩ := He.ba h
  obtain ⟨a3, h⟩ := He.ba h
  obtain ⟨a4, a5⟩ := He.ba h
  have x := xfB_ok a1
  exact ⟨⟨x.ga, x.gg, x.exC, x.hdC, He.eqO_ok a2, He.eqO_ok a3, bOf_ok a4, bOf_ok a5⟩, x⟩
theorem kit_ok {K : PySem.W.Frag} (h : ∀ j, j < 6 → kxB K j = true) : KitX K := by
  have p : ∀ j, j < 6 → (KitW K (wc K j) j ∧ XfC K (wc K j)) ∧ PySem.W.findIn K (.ref (wc K j)) (fldOf j) = some none ∧ PySem.W.exmAny K (.ref (wc K j)) [.ref (cL K), .ref (cA K), .ref (cNu K), .ref (cU K)] = some (decide (j ≠ 3 ∧ j ≠ 5)) ∧
      PySem.W.exmOne K (.ref (wc K j)) (.ref (cNs K)) = some (decide (j = 3)) ∧ PySem.W.exmOne K (.ref (wc K j)) (.ref (cO K)) = some (decide (j = 5)) := fun j hj => by
    have h := h j hj
    obtain ⟨a1, h⟩ := He.ba h
    obtain ⟨a2, h⟩ := He.ba h
    obtain ⟨a3, h⟩ := He.ba h
    obtain ⟨a4, h⟩ := He.ba h
    obtain ⟨a5, h⟩ := He.ba h
    obtain ⟨a6, h⟩ := He.ba h
    obtain ⟨a7, h⟩ := He.ba h
    obtain ⟨a8, h⟩ := He.ba h
    obtain ⟨a9, a10⟩ := He.ba h
    exact ⟨⟨⟨(ecB_ok a1).1, fun i hi => bOf_ok (List.all_eq_true.mp a2 i (List.mem_range.mpr hi)), bOf_ok a3, bOf_ok a4, bOf_ok a5, bOf_ok a6⟩, (ecB_ok a1).2⟩, He.eqO_ok a7, bOf_ok a8, bOf_ok a9, bOf_ok a10⟩
  exact ⟨fun j hj => (p j hj).1.1, fun j hj => (p j hj).1.2, fun j hj => (p j hj).2.1, fun j hj => (p j hj).2.2.1, fun j hj => (p j hj).2.2.2.1, fun j hj => (p j hj).2.2.2.2⟩
theorem kit_six {K : PySem.W.Frag} (h0 : kxB K 0 = true) (h1 : kxB K 1 = true) (h2 : kxB K 2 = true) (h3 : kxB K 3 = true) (h4 : kxB K 4 = true) (h5 : kxB K 5 = true) : KitX K := kit_ok fun j hj => by
  have : j = 0 ∨ j = 1 ∨ j = 2 ∨ j = 3 ∨ j = 4 ∨ j = 5 := by omega
  rcases this with rfl | rfl | rfl | rfl | rfl | rfl <;> assumption
theorem injB_ok {K : PySem.W.Frag} (h : injB K = true) : Inj5 (PtK K) := fun i j hi hj e => by
  have h1 := List.all_eq_true.mp (List.all_eq_true.mp h i (List.mem_range.mpr hi)) j (List.mem_range.mpr hj)
  by_cases z : i = j
  · exact z
  · rw [decide_eq_false z, decide_eq_true e] at h1
    cases h1
theorem tabs_nil {K : PySem.W.Frag} {H : Hp} (h : ∀ x ∈ tabNs, H (ptA K x) = some (.tbl #[])) : LamX.Tabs (tabs (PtK K)) H := fun p hp => by
  simp only [tabs, List.mem_cons, List.not_mem_nil, or_false] at hp
  rcases hp with rfl | rfl | rfl | rfl | rfl
  · exact LamX.TabS.nil (h "_law_level_calls" (by simp [tabNs]))
  · exact LamX.TabS.nil (h "_law_number_calls" (by simp [tabNs]))
  · exact LamX.TabS.nil (h "_law_place_calls" (by simp [tabNs]))
  · exact LamX.TabS.nil (h "_law_occupied_right" (by simp [tabNs]))
  · exact LamX.TabS.nil (h "_law_bools_right" (by simp [tabNs]))
end K26

set_option Elab.async false
set_option linter.all false
set_option maxRecDepth 100000
set_option maxHeartbeats 0
namespace K26
open PySem PySem.Spec PyProof.Rows L2 Gu Ex
theorem run (w : World) : HandSHeadRun.RunEq R (PySem.W.view R.prog [52]) hk ob 16000 loose w :=
  fun os => in_parts (r_looks w os) (r_seen w os) (r_fa w os) (r_fn w os) (r_fw w os) (r_ex w os) (r_pr w os) (r_tab w os)
section
variable {P : Program} {w : World} {K : PySem.W.Frag} {h : Heap} {mg : Str → Option Value} {base : Heap}
theorem tx (X : K.In h) (G : h.Ns mainGlobals mg) (c : He.SaysD fa fn K) (x : exB K = true) : Tx K mg := by
  obtain ⟨x1, x⟩ := He.ba x
  obtain ⟨x2, x⟩ := He.ba x
  obtain ⟨x3, x⟩ := He.ba x
  obtain ⟨x4, x⟩ := He.ba x
  obtain ⟨x5, x⟩ := He.ba x
  obtain ⟨x_kw, x⟩ := He.ba x
  obtain ⟨x_kw2, x⟩ := He.ba x
  obtain ⟨x_kw3, x⟩ := He.ba x
  obtain ⟨xn_S, x⟩ := He.ba x
  obtain ⟨xi_S, x⟩ := He.ba x
  obtain ⟨xi_L, x⟩ := He.ba x
  obtain ⟨xA, x⟩ := He.ba x
  obtain ⟨xU, x⟩ := He.ba x
  obtain ⟨xO, x⟩ := He.ba x
  obtain ⟨xL, x⟩ := He.ba x
  obtain ⟨xNu, x⟩ := He.ba x
  obtain ⟨xNs, x⟩ := He.ba x
  obtain ⟨yA, x⟩ := He.ba x
  obtain ⟨yU, x⟩ := He.ba x
  obtain ⟨yO, x⟩ := He.ba x
  obtain ⟨yN, x⟩ := He.ba x
  obtain ⟨xSt, x⟩ := He.ba x
  obtain ⟨xk0, x⟩ := He.ba x
  obtain ⟨xk1, x⟩ := He.ba x
  obtain ⟨xk2, x⟩ := He.ba x
  obtain ⟨xk3, x⟩ := He.ba x
  obtain ⟨xk4, x⟩ := He.ba x
  obtain ⟨xk5, x⟩ := He.ba x
  obtain ⟨x_tab0, x⟩ := He.ba x
  obtain ⟨x_tab1, x⟩ := He.ba x
  obtain ⟨x_tab2, x⟩ := He.ba x
  obtain ⟨x_tab3, x⟩ := He.ba x
  obtain ⟨x_tab4, x⟩ := He.ba x
  obtain ⟨x_inj, x⟩ := He.ba x
  obtain ⟨xp_top, x⟩ := He.ba x
  obtain ⟨xo_top, x⟩ := He.ba x
  obtain ⟨xp_sizes, x⟩ := He.ba x
  obtain ⟨xo_sizes, x⟩ := He.ba x
  obtain ⟨xp_length, x⟩ := He.ba x
  obtain ⟨xo_length, x⟩ := He.ba x
  have hsys : SysOk K := by
    unfold sysB at x4
    split at x4
    · rename_i o e
      exact ⟨o, e, of_decide_eq_true x4⟩
    · cases x4
  exact ⟨He.free_ok X G (c.fact 45 (f := .free "len") rfl),
    He.free_ok X G (c.fact 46 (f := .free "isinstance") rfl),
    He.free_ok X G (c.fact 47 (f := .free "int") rfl),
    He.free_ok X G (c.fact 48 (f := .free "bool") rfl),
    He.free_ok X G (c.fact 49 (f := .free "list") rfl),
    He.free_ok X G (c.fact 50 (f := .free "range") rfl),
    He.free_ok X G (c.fact 51 (f := .free "divmod") rfl),
    He.free_ok X G (c.fact 52 (f := .free "abs") rfl),
    He.free_ok X G (c.fact 53 (f := .free "max") rfl),
    He.free_ok X G (c.fact 54 (f := .free "min") rfl),
    He.free_ok X G (c.fact 55 (f := .free "enumerate") rfl),
    He.free_ok X G (c.fact 56 (f := .free "all") rfl),
    He.free_ok X G (c.fact 57 (f := .free "sum") rfl),
    He.free_ok X G (c.fact 58 (f := .free "tuple") rfl),
    He.free_ok X G (c.fact 59 (f := .free "sorted") rfl),
    He.free_ok X G (c.fact 60 (f := .free "repr") rfl),
    He.free_ok X G (c.fact 61 (f := .free "set") rfl),
    He.free_ok X G (c.fact 62 (f := .free "dict") rfl),
    He.free_ok X G (c.fact 63 (f := .free "any") rfl),
    He.glo_ok X G (c.fact 34 (f := .glo "Sizes") rfl),
    He.cls_ok (c.fact 68 (f := .cls "Sizes") rfl),
    He.noat_ok (c.fact 69 (f := .noat "Sizes" "size_list") rfl),
    rdB_ok x1,
    cvB_ok x2,
    cvB_ok x3,
    hsys,
    cvB_ok x5,
    He.glo_ok X G (c.fact 35 (f := .glo "Layout") rfl),
    He.cls_ok (c.fact 76 (f := .cls "Layout") rfl),
    He.noat_ok (c.fact 78 (f := .noat "Layout" "size_table") rfl),
    He.noat_ok (c.fact 79 (f := .noat "Layout" "cell_count") rfl),
    He.noat_ok (c.fact 80 (f := .noat "Layout" "free_count") rfl),
    He.noat_ok (c.fact 81 (f := .noat "Layout" "block_list") rfl),
    insB_ok (He.cls_ok (c.fact 68 (f := .cls "Sizes") rfl)) xi_S,
    insB_ok (He.cls_ok (c.fact 76 (f := .cls "Layout") rfl)) xi_L,
    He.free_ok X G (c.fact 64 (f := .free "str") rfl),
    He.free_ok X G (c.fact 65 (f := .free "LookupError") rfl),
    He.free_ok X G (c.fact 66 (f := .free "RuntimeError") rfl),
    He.free_ok X G (c.fact 67 (f := .free "ValueError") rfl),
    He.glo_ok X G (c.fact 36 (f := .glo "InvalidAddress") rfl),
    He.glo_ok X G (c.fact 37 (f := .glo "UnknownBlock") rfl),
    He.glo_ok X G (c.fact 38 (f := .glo "Occupied") rfl),
    errG_ok base_VE xA,
    errG_ok base_LE xU,
    errG_ok base_RE xO,
    bOf_ok yA,
    bOf_ok yU,
    bOf_ok yO,
    bOf_ok yN,
    neB_ok xn_S,
    He.glo_ok X G (c.fact 39 (f := .glo "InvalidLevel") rfl),
    He.glo_ok X G (c.fact 40 (f := .glo "InvalidNumber") rfl),
    He.glo_ok X G (c.fact 41 (f := .glo "InvalidNumbers") rfl),
    He.glo_ok X G (c.fact 42 (f := .glo "RoomError") rfl),
    He.glo_ok X G (c.fact 43 (f := .glo "UnknownName") rfl),
    He.glo_ok X G (c.fact 44 (f := .glo "NoRoom") rfl),
    errG_ok base_VE xL,
    errG_ok base_VE xNu,
    errG_ok base_VE xNs⟩
theorem df {x : Str} {ps : List Str} {sp : Sp} {k : Nat} {st : Stmt} {fd : FuncData} (X : K.In h) (G : h.Ns mainGlobals mg) (g : (He.Fa.glo x).ok K = true) (F : FnP K x x st (He.ga K x) fd)
    (hb : ∀ (kV doc pm : Value) (an : Option Addr) (cdv ct : Value) (us : List Value), us.length = ps.length → bindArgs (PySem.W.fnOf x x (defArgs st) (defBody st) (defScope st) .none kV doc pm an cdv ct) ⟨us, []⟩ = pure (ps.zip us))
    (ok : FnOk P w K mg base CX0 k (He.ga K x) fd ps sp) : Df P w K mg base k x ps sp := ⟨⟨fd, ok, F.bindsN hb⟩, He.glo_ok X G g, F.kp⟩
theorem dfG {x : Str} {ps : List Str} {sp : Sp} {k : Nat} {st : Stmt} {fd : FuncData} (X : K.In h) (G : h.Ns mainGlobals mg) (g : (He.Fa.glo x).ok K = true) (F : FnP K x x st (He.ga K x) fd)
    (hb : ∀ (kV doc pm : Value) (an : Option Addr) (cdv ct : Value) (us : List Value), us.length = ps.length → bindArgs (PySem.W.fnOf x x (defArgs st) (defBody st) (defScope st) .none kV doc pm an cdv ct) ⟨us, []⟩ = pure (ps.zip us))
    (ok : FnG P w K mg base CX0 k (He.ga K x) fd ps sp) : DfG P w K mg base k x ps sp := ⟨⟨fd, ok, F.bindsN hb⟩, He.glo_ok X G g, F.kp⟩
theorem dfX {x : Str} {ps : List Str} {sp : Sp} {k : Nat} {st : Stmt} {fd : FuncData} (X : K.In h) (G : h.Ns mainGlobals mg) (g : (He.Fa.glo x).ok K = true) (F : FnP K x x st (He.ga K x) fd)
    (hb : ∀ (kV doc pm : Value) (an : Option Addr) (cdv ct : Value) (us : List Value), us.length = ps.length → bindArgs (PySem.W.fnOf x x (defArgs st) (defBody st) (defScope st) .none kV doc pm an cdv ct) ⟨us, []⟩ = pure (ps.zip us))
    (ok : FnOk P w K mg base (L2.CX P w) k (He.ga K x) fd ps sp) : DfX P w K mg base k x ps sp := ⟨⟨fd, ok, F.bindsN hb⟩, He.glo_ok X G g, F.kp⟩
theorem dfK {x : Str} {ps ks : List Str} {j : List Nat} {sp : Sp} {k : Nat} {st : Stmt} {fd : FuncData} (X : K.In h) (G : h.Ns mainGlobals mg) (g : (He.Fa.glo x).ok K = true) (F : FnP K x x st (He.ga K x) fd)
    (hb : ∀ (kV doc pm : Value) (an : Option Addr) (cdv ct : Value) (ws : List Value), ws.length = ks.length → bindArgs (PySem.W.fnOf x x (defArgs st) (defBody st) (defScope st) .none kV doc pm an cdv ct) ⟨[], ks.zip ws⟩ = pure (ps.zip (j.filterMap fun i => ws[i]?)))
    (ok : FnOk P w K mg base CX0 k (He.ga K x) fd ps sp) : DfK P w K mg base k x ps ks j sp := by
  refine ⟨⟨fd, ok, fun s ws hl => ?_⟩, He.glo_ok X G g, F.kp⟩
  obtain ⟨oc, od, dV, kV, doc, pm, an, cdv, ct, osl, rfl, lk, hcd, hD, hK⟩ := F.ex
  rcases hD with ⟨_, rfl⟩ | ⟨e, _⟩
  · exact .of_eq (hb kV doc pm an cdv ct ws hl)
  · exact absurd rfl e
theorem tab_facts (c0 : ob0 K = vl0) : ∀ x ∈ tabNs, PySem.W.tabIn K x = some (cdA K x, ptA K x) ∧ PySem.W.codeHdIn K (cdA K x) (ptA K x) = true ∧ K.lookup (ptA K x) = none := by
  have x : exB K = true := congrArg (fun z : AlE => z.2.1) c0
  obtain ⟨x1, x⟩ := He.ba x
  obtain ⟨x2, x⟩ := He.ba x
  obtain ⟨x3, x⟩ := He.ba x
  obtain ⟨x4, x⟩ := He.ba x
  obtain ⟨x5, x⟩ := He.ba x
  obtain ⟨x_kw, x⟩ := He.ba x
  obtain ⟨x_kw2, x⟩ := He.ba x
  obtain ⟨x_kw3, x⟩ := He.ba x
  obtain ⟨xn_S, x⟩ := He.ba x
  obtain ⟨xi_S, x⟩ := He.ba x
  obtain ⟨xi_L, x⟩ := He.ba x
  obtain ⟨xA, x⟩ := He.ba x
  obtain ⟨xU, x⟩ := He.ba x
  obtain ⟨xO, x⟩ := He.ba x
  obtain ⟨xL, x⟩ := He.ba x
  obtain ⟨xNu, x⟩ := He.ba x
  obtain ⟨xNs, x⟩ := He.ba x
  obtain ⟨yA, x⟩ := He.ba x
  obtain ⟨yU, x⟩ := He.ba x
  obtain ⟨yO, x⟩ := He.ba x
  obtain ⟨yN, x⟩ := He.ba x
  obtain ⟨xSt, x⟩ := He.ba x
  obtain ⟨xk0, x⟩ := He.ba x
  obtain ⟨xk1, x⟩ := He.ba x
  obtain ⟨xk2, x⟩ := He.ba x
  obtain ⟨xk3, x⟩ := He.ba x
  obtain ⟨xk4, x⟩ := He.ba x
  obtain ⟨xk5, x⟩ := He.ba x
  obtain ⟨x_tab0, x⟩ := He.ba x
  obtain ⟨x_tab1, x⟩ := He.ba x
  obtain ⟨x_tab2, x⟩ := He.ba x
  obtain ⟨x_tab3, x⟩ := He.ba x
  obtain ⟨x_tab4, x⟩ := He.ba x
  obtain ⟨x_inj, x⟩ := He.ba x
  obtain ⟨xp_top, x⟩ := He.ba x
  obtain ⟨xo_top, x⟩ := He.ba x
  obtain ⟨xp_sizes, x⟩ := He.ba x
  obtain ⟨xo_sizes, x⟩ := He.ba x
  obtain ⟨xp_length, x⟩ := He.ba x
  obtain ⟨xo_length, x⟩ := He.ba x
  intro x hx
  simp only [tabNs, List.mem_cons, List.not_mem_nil, or_false] at hx
  rcases hx with rfl | rfl | rfl | rfl | rfl
  · exact tabB_ok x_tab0
  · exact tabB_ok x_tab1
  · exact tabB_ok x_tab2
  · exact tabB_ok x_tab3
  · exact tabB_ok x_tab4
theorem facts {f : Addr} (X : K.In h) (G : h.Ns mainGlobals mg) (hfa : mg ("law" : Str) = some (.ref f)) (c0 : ob0 K = vl0) :
    ∃ fd : FuncData, (∀ (s : Shared) (v : Value), BindsTo s fd ⟨[v], []⟩ [("_law_script", v)]) ∧ ∀ base : Heap, K.In base → base.Ns mainGlobals mg → (∀ x ∈ tabNs, LamX.TabB base mg (cdA K x) (ptA K x)) → FnG P w K mg base CX0 18 f fd ["_law_script"] (spLaw K (PtK K)) := by
  have c : He.SaysD fa fn K := congrArg (fun z : AlE => z.1) c0
  have x : exB K = true := congrArg (fun z : AlE => z.2.1) c0
  have vt_top : fnAt K (pgA K (He.ga K "Sizes") "top") = v_top := congrArg (fun z : AlE => z.2.2.1) c0
  have vt_sizes : fnAt K (pgA K (He.ga K "Layout") "sizes") = v_sizes := congrArg (fun z : AlE => z.2.2.2.1) c0
  have vt_length : fnAt K (pgA K (He.ga K "Layout") "length") = v_length := congrArg (fun z : AlE => z.2.2.2.2) c0
  have T := tx X G c x
  obtain ⟨x1, x⟩ := He.ba x
  obtain ⟨x2, x⟩ := He.ba x
  obtain ⟨x3, x⟩ := He.ba x
  obtain ⟨x4, x⟩ := He.ba x
  obtain ⟨x5, x⟩ := He.ba x
  obtain ⟨x_kw, x⟩ := He.ba x
  obtain ⟨x_kw2, x⟩ := He.ba x
  obtain ⟨x_kw3, x⟩ := He.ba x
  obtain ⟨xn_S, x⟩ := He.ba x
  obtain ⟨xi_S, x⟩ := He.ba x
  obtain ⟨xi_L, x⟩ := He.ba x
  obtain ⟨xA, x⟩ := He.ba x
  obtain ⟨xU, x⟩ := He.ba x
  obtain ⟨xO, x⟩ := He.ba x
  obtain ⟨xL, x⟩ := He.ba x
  obtain ⟨xNu, x⟩ := He.ba x
  obtain ⟨xNs, x⟩ := He.ba x
  obtain ⟨yA, x⟩ := He.ba x
  obtain ⟨yU, x⟩ := He.ba x
  obtain ⟨yO, x⟩ := He.ba x
  obtain ⟨yN, x⟩ := He.ba x
  obtain ⟨xSt, x⟩ := He.ba x
  obtain ⟨xk0, x⟩ := He.ba x
  obtain ⟨xk1, x⟩ := He.ba x
  obtain ⟨xk2, x⟩ := He.ba x
  obtain ⟨xk3, x⟩ := He.ba x
  obtain ⟨xk4, x⟩ := He.ba x
  obtain ⟨xk5, x⟩ := He.ba x
  obtain ⟨x_tab0, x⟩ := He.ba x
  obtain ⟨x_tab1, x⟩ := He.ba x
  obtain ⟨x_tab2, x⟩ := He.ba x
  obtain ⟨x_tab3, x⟩ := He.ba x
  obtain ⟨x_tab4, x⟩ := He.ba x
  obtain ⟨x_inj, x⟩ := He.ba x
  obtain ⟨xp_top, x⟩ := He.ba x
  obtain ⟨xo_top, x⟩ := He.ba x
  obtain ⟨xp_sizes, x⟩ := He.ba x
  obtain ⟨xo_sizes, x⟩ := He.ba x
  obtain ⟨xp_length, x⟩ := He.ba x
  obtain ⟨xo_length, x⟩ := He.ba x
  obtain ⟨fdP_top, FP_top⟩ := fun_at vt_top xo_top
  obtain ⟨fdP_sizes, FP_sizes⟩ := fun_at vt_sizes xo_sizes
  obtain ⟨fdP_length, FP_length⟩ := fun_at vt_length xo_length
  obtain ⟨fd0, F0⟩ : ∃ fd, FnP K "is_integer" "is_integer" (top 14) (He.ga K "is_integer") fd := c.def_ 0 (d := dOf ("is_integer", none) "is_integer" "is_integer" (top 14)) rfl
  obtain ⟨fd1, F1⟩ : ∃ fd, FnP K "size_problem" "size_problem" (top 18) (He.ga K "size_problem") fd := c.def_ 1 (d := dOf ("size_problem", none) "size_problem" "size_problem" (top 18)) rfl
  obtain ⟨fd2, F2⟩ : ∃ fd, FnP K "check_sizes" "check_sizes" (top 19) (He.ga K "check_sizes") fd := c.def_ 2 (d := dOf ("check_sizes", none) "check_sizes" "check_sizes" (top 19)) rfl
  obtain ⟨fd3, F3⟩ : ∃ fd, FnP K "is_cells" "is_cells" (top 15) (He.ga K "is_cells") fd := c.def_ 3 (d := dOf ("is_cells", none) "is_cells" "is_cells" (top 15)) rfl
  obtain ⟨fd4, F4⟩ : ∃ fd, FnP K "check_cells" "check_cells" (top 16) (He.ga K "check_cells") fd := c.def_ 4 (d := dOf ("check_cells", none) "check_cells" "check_cells" (top 16)) rfl
  obtain ⟨fd5, F5⟩ : ∃ fd, FnP K "check_numbers" "check_numbers" (top 17) (He.ga K "check_numbers") fd := c.def_ 5 (d := dOf ("check_numbers", none) "check_numbers" "check_numbers" (top 17)) rfl
  obtain ⟨fd6, F6⟩ : ∃ fd, FnP K "__init__" "Sizes.__init__" (inClass (top 20) 4) (He.ma K (He.ga K "Sizes") "__init__") fd := c.def_ 6 (d := dOf ("Sizes", some "__init__") "__init__" "Sizes.__init__" (inClass (top 20) 4)) rfl
  obtain ⟨fd7, F7⟩ : ∃ fd, FnP K "has_level" "Sizes.has_level" (inClass (top 20) 12) (He.ma K (He.ga K "Sizes") "has_level") fd := c.def_ 7 (d := dOf ("Sizes", some "has_level") "has_level" "Sizes.has_level" (inClass (top 20) 12)) rfl
  obtain ⟨fd8, F8⟩ : ∃ fd, FnP K "check_level" "Sizes.check_level" (inClass (top 20) 13) (He.ma K (He.ga K "Sizes") "check_level") fd := c.def_ 8 (d := dOf ("Sizes", some "check_level") "check_level" "Sizes.check_level" (inClass (top 20) 13)) rfl
  obtain ⟨fd9, F9⟩ : ∃ fd, FnP K "size" "Sizes.size" (inClass (top 20) 14) (He.ma K (He.ga K "Sizes") "size") fd := c.def_ 9 (d := dOf ("Sizes", some "size") "size" "Sizes.size" (inClass (top 20) 14)) rfl
  obtain ⟨fd10, F10⟩ : ∃ fd, FnP K "whole" "Sizes.whole" (inClass (top 20) 16) (He.ma K (He.ga K "Sizes") "whole") fd := c.def_ 10 (d := dOf ("Sizes", some "whole") "whole" "Sizes.whole" (inClass (top 20) 16)) rfl
  obtain ⟨fd11, F11⟩ : ∃ fd, FnP K "__len__" "Sizes.__len__" (inClass (top 20) 6) (He.ma K (He.ga K "Sizes") "__len__") fd := c.def_ 11 (d := dOf ("Sizes", some "__len__") "__len__" "Sizes.__len__" (inClass (top 20) 6)) rfl
  obtain ⟨fd12, F12⟩ : ∃ fd, FnP K "__init__" "Layout.__init__" (inClass (top 31) 0) (He.ma K (He.ga K "Layout") "__init__") fd := c.def_ 12 (d := dOf ("Layout", some "__init__") "__init__" "Layout.__init__" (inClass (top 31) 0)) rfl
  obtain ⟨fd13, F13⟩ : ∃ fd, FnP K "count_below" "Layout.count_below" (inClass (top 31) 9) (He.ma K (He.ga K "Layout") "count_below") fd := c.def_ 13 (d := dOf ("Layout", some "count_below") "count_below" "Layout.count_below" (inClass (top 31) 9)) rfl
  obtain ⟨fd14, F14⟩ : ∃ fd, FnP K "index_of" "Layout.index_of" (inClass (top 31) 10) (He.ma K (He.ga K "Layout") "index_of") fd := c.def_ 14 (d := dOf ("Layout", some "index_of") "index_of" "Layout.index_of" (inClass (top 31) 10)) rfl
  obtain ⟨fd15, F15⟩ : ∃ fd, FnP K "block_at" "Layout.block_at" (inClass (top 31) 11) (He.ma K (He.ga K "Layout") "block_at") fd := c.def_ 15 (d := dOf ("Layout", some "block_at") "block_at" "Layout.block_at" (inClass (top 31) 11)) rfl
  obtain ⟨fd16, F16⟩ : ∃ fd, FnP K "first_taken" "Layout.first_taken" (inClass (top 31) 12) (He.ma K (He.ga K "Layout") "first_taken") fd := c.def_ 16 (d := dOf ("Layout", some "first_taken") "first_taken" "Layout.first_taken" (inClass (top 31) 12)) rfl
  obtain ⟨fd17, F17⟩ : ∃ fd, FnK K "put" "Layout.put" (inClass (top 31) 13) [("pinned", .bl false)] (He.ma K (He.ga K "Layout") "put") fd := c.def_ 17 (d := dOfK ("Layout", some "put") "put" "Layout.put" (inClass (top 31) 13) [("pinned", .bl false)]) rfl
  obtain ⟨fd18, F18⟩ : ∃ fd, FnP K "take_out" "Layout.take_out" (inClass (top 31) 14) (He.ma K (He.ga K "Layout") "take_out") fd := c.def_ 18 (d := dOf ("Layout", some "take_out") "take_out" "Layout.take_out" (inClass (top 31) 14)) rfl
  obtain ⟨fd19, F19⟩ : ∃ fd, FnP K "set_pinned" "Layout.set_pinned" (inClass (top 31) 15) (He.ma K (He.ga K "Layout") "set_pinned") fd := c.def_ 19 (d := dOf ("Layout", some "set_pinned") "set_pinned" "Layout.set_pinned" (inClass (top 31) 15)) rfl
  obtain ⟨fd20, F20⟩ : ∃ fd, FnP K "ranges_of" "Layout.ranges_of" (inClass (top 31) 16) (He.ma K (He.ga K "Layout") "ranges_of") fd := c.def_ 20 (d := dOf ("Layout", some "ranges_of") "ranges_of" "Layout.ranges_of" (inClass (top 31) 16)) rfl
  obtain ⟨fd21, F21⟩ : ∃ fd, FnP K "pinned_ranges" "Layout.pinned_ranges" (inClass (top 31) 18) (He.ma K (He.ga K "Layout") "pinned_ranges") fd := c.def_ 21 (d := dOf ("Layout", some "pinned_ranges") "pinned_ranges" "Layout.pinned_ranges" (inClass (top 31) 18)) rfl
  obtain ⟨fd22, F22⟩ : ∃ fd, FnP K "unpinned_levels" "Layout.unpinned_levels" (inClass (top 31) 19) (He.ma K (He.ga K "Layout") "unpinned_levels") fd := c.def_ 22 (d := dOf ("Layout", some "unpinned_levels") "unpinned_levels" "Layout.unpinned_levels" (inClass (top 31) 19)) rfl
  obtain ⟨fd23, F23⟩ : ∃ fd, FnP K "regions_in" "Layout.regions_in" (inClass (top 31) 21) (He.ma K (He.ga K "Layout") "regions_in") fd := c.def_ 23 (d := dOf ("Layout", some "regions_in") "regions_in" "Layout.regions_in" (inClass (top 31) 21)) rfl
  obtain ⟨fd24, F24⟩ : ∃ fd, FnP K "free_gaps" "Layout.free_gaps" (inClass (top 31) 17) (He.ma K (He.ga K "Layout") "free_gaps") fd := c.def_ 24 (d := dOf ("Layout", some "free_gaps") "free_gaps" "Layout.free_gaps" (inClass (top 31) 17)) rfl
  obtain ⟨fd25, F25⟩ : ∃ fd, FnP K "free_regions" "Layout.free_regions" (inClass (top 31) 22) (He.ma K (He.ga K "Layout") "free_regions") fd := c.def_ 25 (d := dOf ("Layout", some "free_regions") "free_regions" "Layout.free_regions" (inClass (top 31) 22)) rfl
  obtain ⟨fd26, F26⟩ : ∃ fd, FnP K "free_addresses" "Layout.free_addresses" (inClass (top 31) 23) (He.ma K (He.ga K "Layout") "free_addresses") fd := c.def_ 26 (d := dOf ("Layout", some "free_addresses") "free_addresses" "Layout.free_addresses" (inClass (top 31) 23)) rfl
  obtain ⟨fd27, F27⟩ : ∃ fd, FnP K "clear_cells" "Layout.clear_cells" (inClass (top 31) 24) (He.ma K (He.ga K "Layout") "clear_cells") fd := c.def_ 27 (d := dOf ("Layout", some "clear_cells") "clear_cells" "Layout.clear_cells" (inClass (top 31) 24)) rfl
  obtain ⟨fd28, F28⟩ : ∃ fd, FnP K "unpinned_cells" "Layout.unpinned_cells" (inClass (top 31) 25) (He.ma K (He.ga K "Layout") "unpinned_cells") fd := c.def_ 28 (d := dOf ("Layout", some "unpinned_cells") "unpinned_cells" "Layout.unpinned_cells" (inClass (top 31) 25)) rfl
  obtain ⟨fd29, F29⟩ : ∃ fd, FnP K "slack" "Layout.slack" (inClass (top 31) 26) (He.ma K (He.ga K "Layout") "slack") fd := c.def_ 29 (d := dOf ("Layout", some "slack") "slack" "Layout.slack" (inClass (top 31) 26)) rfl
  obtain ⟨fd30, F30⟩ : ∃ fd, FnP K "short_level" "Layout.short_level" (inClass (top 31) 27) (He.ma K (He.ga K "Layout") "short_level") fd := c.def_ 30 (d := dOf ("Layout", some "short_level") "short_level" "Layout.short_level" (inClass (top 31) 27)) rfl
  obtain ⟨fd31, F31⟩ : ∃ fd, FnP K "fits" "Layout.fits" (inClass (top 31) 28) (He.ma K (He.ga K "Layout") "fits") fd := c.def_ 31 (d := dOf ("Layout", some "fits") "fits" "Layout.fits" (inClass (top 31) 28)) rfl
  obtain ⟨fd32, F32⟩ : ∃ fd, FnP K "largest" "Layout.largest" (inClass (top 31) 29) (He.ma K (He.ga K "Layout") "largest") fd := c.def_ 32 (d := dOf ("Layout", some "largest") "largest" "Layout.largest" (inClass (top 31) 29)) rfl
  obtain ⟨fd33, F33⟩ : ∃ fd, FnP K "__repr__" "Layout.__repr__" (inClass (top 31) 3) (He.ma K (He.ga K "Layout") "__repr__") fd := c.def_ 33 (d := dOf ("Layout", some "__repr__") "__repr__" "Layout.__repr__" (inClass (top 31) 3)) rfl
  obtain ⟨fd34, F34⟩ : ∃ fd, FnP K "__init__" "InvalidAddress.__init__" (inClass (top 7) 0) (He.ma K (He.ga K "InvalidAddress") "__init__") fd := c.def_ 34 (d := dOf ("InvalidAddress", some "__init__") "__init__" "InvalidAddress.__init__" (inClass (top 7) 0)) rfl
  obtain ⟨fd35, F35⟩ : ∃ fd, FnP K "__init__" "UnknownBlock.__init__" (inClass (top 8) 0) (He.ma K (He.ga K "UnknownBlock") "__init__") fd := c.def_ 35 (d := dOf ("UnknownBlock", some "__init__") "__init__" "UnknownBlock.__init__" (inClass (top 8) 0)) rfl
  obtain ⟨fd36, F36⟩ : ∃ fd, FnP K "__init__" "Occupied.__init__" (inClass (top 10) 0) (He.ma K (He.ga K "Occupied") "__init__") fd := c.def_ 36 (d := dOf ("Occupied", some "__init__") "__init__" "Occupied.__init__" (inClass (top 10) 0)) rfl
  obtain ⟨fd37, F37⟩ : ∃ fd, FnP K "__init__" "InvalidLevel.__init__" (inClass (top 4) 0) (He.ma K (He.ga K "InvalidLevel") "__init__") fd := c.def_ 37 (d := dOf ("InvalidLevel", some "__init__") "__init__" "InvalidLevel.__init__" (inClass (top 4) 0)) rfl
  obtain ⟨fd38, F38⟩ : ∃ fd, FnP K "__init__" "InvalidNumber.__init__" (inClass (top 5) 0) (He.ma K (He.ga K "InvalidNumber") "__init__") fd := c.def_ 38 (d := dOf ("InvalidNumber", some "__init__") "__init__" "InvalidNumber.__init__" (inClass (top 5) 0)) rfl
  obtain ⟨fd39, F39⟩ : ∃ fd, FnP K "__init__" "InvalidNumbers.__init__" (inClass (top 6) 0) (He.ma K (He.ga K "InvalidNumbers") "__init__") fd := c.def_ 39 (d := dOf ("InvalidNumbers", some "__init__") "__init__" "InvalidNumbers.__init__" (inClass (top 6) 0)) rfl
  obtain ⟨fd40, F40⟩ : ∃ fd, FnP K "is_address" "is_address" (top 22) (He.ga K "is_address") fd := c.def_ 40 (d := dOf ("is_address", none) "is_address" "is_address" (top 22)) rfl
  obtain ⟨fd41, F41⟩ : ∃ fd, FnP K "check_range" "check_range" (top 23) (He.ga K "check_range") fd := c.def_ 41 (d := dOf ("check_range", none) "check_range" "check_range" (top 23)) rfl
  obtain ⟨fd42, F42⟩ : ∃ fd, FnP K "next_start" "next_start" (top 24) (He.ga K "next_start") fd := c.def_ 42 (d := dOf ("next_start", none) "next_start" "next_start" (top 24)) rfl
  obtain ⟨fd43, F43⟩ : ∃ fd, FnP K "gaps_between" "gaps_between" (top 25) (He.ga K "gaps_between") fd := c.def_ 43 (d := dOf ("gaps_between", none) "gaps_between" "gaps_between" (top 25)) rfl
  obtain ⟨fd44, F44⟩ : ∃ fd, FnP K "lies_below" "lies_below" (top 26) (He.ga K "lies_below") fd := c.def_ 44 (d := dOf ("lies_below", none) "lies_below" "lies_below" (top 26)) rfl
  obtain ⟨fd45, F45⟩ : ∃ fd, FnP K "is_region" "is_region" (top 27) (He.ga K "is_region") fd := c.def_ 45 (d := dOf ("is_region", none) "is_region" "is_region" (top 27)) rfl
  obtain ⟨fd46, F46⟩ : ∃ fd, FnP K "region_start" "region_start" (top 28) (He.ga K "region_start") fd := c.def_ 46 (d := dOf ("region_start", none) "region_start" "region_start" (top 28)) rfl
  obtain ⟨fd47, F47⟩ : ∃ fd, FnP K "count_regions" "count_regions" (top 29) (He.ga K "count_regions") fd := c.def_ 47 (d := dOf ("count_regions", none) "count_regions" "count_regions" (top 29)) rfl
  obtain ⟨fd48, F48⟩ : ∃ fd, FnP K "_law_rng" "_law_rng" (top 33) (He.ga K "_law_rng") fd := c.def_ 48 (d := dOf ("_law_rng", none) "_law_rng" "_law_rng" (top 33)) rfl
  obtain ⟨fd49, F49⟩ : ∃ fd, FnP K "_law_draw" "_law_draw" (top 34) (He.ga K "_law_draw") fd := c.def_ 49 (d := dOf ("_law_draw", none) "_law_draw" "_law_draw" (top 34)) rfl
  obtain ⟨fd50, F50⟩ : ∃ fd, FnP K "_law_choice" "_law_choice" (top 35) (He.ga K "_law_choice") fd := c.def_ 50 (d := dOf ("_law_choice", none) "_law_choice" "_law_choice" (top 35)) rfl
  obtain ⟨fd51, F51⟩ : ∃ fd, FnP K "_law_sizes" "_law_sizes" (top 36) (He.ga K "_law_sizes") fd := c.def_ 51 (d := dOf ("_law_sizes", none) "_law_sizes" "_law_sizes" (top 36)) rfl
  obtain ⟨fd52, F52⟩ : ∃ fd, FnP K "_law_has_space" "_law_has_space" (top 37) (He.ga K "_law_has_space") fd := c.def_ 52 (d := dOf ("_law_has_space", none) "_law_has_space" "_law_has_space" (top 37)) rfl
  obtain ⟨fd53, F53⟩ : ∃ fd, FnP K "_law_blocks" "_law_blocks" (top 38) (He.ga K "_law_blocks") fd := c.def_ 53 (d := dOf ("_law_blocks", none) "_law_blocks" "_law_blocks" (top 38)) rfl
  obtain ⟨fd54, F54⟩ : ∃ fd, FnP K "_law_layout" "_law_layout" (top 39) (He.ga K "_law_layout") fd := c.def_ 54 (d := dOf ("_law_layout", none) "_law_layout" "_law_layout" (top 39)) rfl
  obtain ⟨fd55, F55⟩ : ∃ fd, FnP K "_law_kind" "_law_kind" (top 40) (He.ga K "_law_kind") fd := c.def_ 55 (d := dOf ("_law_kind", none) "_law_kind" "_law_kind" (top 40)) rfl
  obtain ⟨fd56, F56⟩ : ∃ fd, FnP K "_law_outcome" "_law_outcome" (top 41) (He.ga K "_law_outcome") fd := c.def_ 56 (d := dOf ("_law_outcome", none) "_law_outcome" "_law_outcome" (top 41)) rfl
  obtain ⟨fd57, F57⟩ : ∃ fd, FnP K "_law_odd" "_law_odd" (top 42) (He.ga K "_law_odd") fd := c.def_ 57 (d := dOf ("_law_odd", none) "_law_odd" "_law_odd" (top 42)) rfl
  obtain ⟨fd58, F58⟩ : ∃ fd, FnP K "_law_no_cells" "_law_no_cells" (top 43) (He.ga K "_law_no_cells") fd := c.def_ 58 (d := dOf ("_law_no_cells", none) "_law_no_cells" "_law_no_cells" (top 43)) rfl
  obtain ⟨fd59, F59⟩ : ∃ fd, FnP K "_law_no_numbers" "_law_no_numbers" (top 44) (He.ga K "_law_no_numbers") fd := c.def_ 59 (d := dOf ("_law_no_numbers", none) "_law_no_numbers" "_law_no_numbers" (top 44)) rfl
  obtain ⟨fd60, F60⟩ : ∃ fd, FnP K "_law_no_region" "_law_no_region" (top 45) (He.ga K "_law_no_region") fd := c.def_ 60 (d := dOf ("_law_no_region", none) "_law_no_region" "_law_no_region" (top 45)) rfl
  obtain ⟨fd61, F61⟩ : ∃ fd, FnP K "_law_level_calls" "_law_level_calls" (top 46) (He.ga K "_law_level_calls") fd := c.def_ 61 (d := dOf ("_law_level_calls", none) "_law_level_calls" "_law_level_calls" (top 46)) rfl
  obtain ⟨fd62, F62⟩ : ∃ fd, FnP K "_law_number_calls" "_law_number_calls" (top 47) (He.ga K "_law_number_calls") fd := c.def_ 62 (d := dOf ("_law_number_calls", none) "_law_number_calls" "_law_number_calls" (top 47)) rfl
  obtain ⟨fd63, F63⟩ : ∃ fd, FnP K "_law_place_calls" "_law_place_calls" (top 48) (He.ga K "_law_place_calls") fd := c.def_ 63 (d := dOf ("_law_place_calls", none) "_law_place_calls" "_law_place_calls" (top 48)) rfl
  obtain ⟨fd64, F64⟩ : ∃ fd, FnP K "_law_occupied_right" "_law_occupied_right" (top 49) (He.ga K "_law_occupied_right") fd := c.def_ 64 (d := dOf ("_law_occupied_right", none) "_law_occupied_right" "_law_occupied_right" (top 49)) rfl
  obtain ⟨fd65, F65⟩ : ∃ fd, FnP K "_law_bools_right" "_law_bools_right" (top 50) (He.ga K "_law_bools_right") fd := c.def_ 65 (d := dOf ("_law_bools_right", none) "_law_bools_right" "_law_bools_right" (top 50)) rfl
  obtain ⟨fd66, F66⟩ : ∃ fd, FnP K "_law_right" "_law_right" (top 51) (He.ga K "_law_right") fd := c.def_ 66 (d := dOf ("_law_right", none) "_law_right" "_law_right" (top 51)) rfl
  obtain ⟨fd67, F67⟩ : ∃ fd, FnP K "law" "law" (top 52) (He.ga K "law") fd := c.def_ 67 (d := dOf ("law", none) "law" "law" (top 52)) rfl
  have e := hfa.symm.trans (He.glo_ok X G (c.fact 33 (f := .glo "law") rfl))
  cases e
  have b := FunD.bindsA (ps := ["_law_script"]) F67 (fun _ _ _ _ _ _ us hl => match us, hl with | [_], _ => rfl)
  refine ⟨_, fun s v => b s [v] rfl, fun base _ _ TB => ?_⟩
  have D_is_integer := df (P := P) (w := w) (base := base) X G (c.fact 0 (f := .glo "is_integer") rfl) F0 (ps := ["value"]) (fun _ _ _ _ _ _ us hl => match us, hl with | [_], _ => rfl) (ok_is_integer T F0)
  have D_is_integerA := df (P := P) (w := w) (base := base) X G (c.fact 0 (f := .glo "is_integer") rfl) F0 (ps := ["value"]) (fun _ _ _ _ _ _ us hl => match us, hl with | [_], _ => rfl) (ok_is_integerA T F0)
  have D_size_problem := df (P := P) (w := w) (base := base) X G (c.fact 1 (f := .glo "size_problem") rfl) F1 (ps := ["values", "position"]) (fun _ _ _ _ _ _ us hl => match us, hl with | [_, _], _ => rfl) (ok_size_problem T D_is_integer F1)
  have D_check_sizes := df (P := P) (w := w) (base := base) X G (c.fact 2 (f := .glo "check_sizes") rfl) F2 (ps := ["values"]) (fun _ _ _ _ _ _ us hl => match us, hl with | [_], _ => rfl) (ok_check_sizes T D_size_problem F2)
  have D_Sizes : Kf P w K mg base _ "Sizes" ["self", "values"] _ := ⟨⟨fd6, ok_init T D_check_sizes F6, F6.bindsN (fun _ _ _ _ _ _ us hl => match us, hl with | [_, _], _ => rfl)⟩, He.glo_ok X G (c.fact 34 (f := .glo "Sizes") rfl), He.mkr_ok (c.fact 70 (f := .mkr "Sizes") rfl)⟩
  have P_top : Pf P w K mg base 1 "Sizes" "top" (spTop K) := ⟨He.cls_ok (c.fact 68 (f := .cls "Sizes") rfl), _, _, fdP_top, prB_ok xp_top, ok_top T FP_top, FunD.bindsN FP_top (fun _ _ _ _ _ _ us hl => match us, hl with | [_], _ => rfl)⟩
  have M_len : Mf P w K mg base _ "Sizes" "__len__" ["self"] _ := ⟨⟨fd11, ok_len T F11, F11.bindsN (fun _ _ _ _ _ _ us hl => match us, hl with | [_], _ => rfl)⟩, He.cls_ok (c.fact 68 (f := .cls "Sizes") rfl), He.meth_ok (c.fact 75 (f := .meth "Sizes" "__len__") rfl)⟩
  have MA : Ex.Ei P w K mg base "InvalidAddress" "value" := ⟨⟨fd34, ok_errA T F34, F34.bindsN (fun _ _ _ _ _ _ us hl => match us, hl with | [_, _], _ => rfl)⟩⟩
  have MU : Ex.Ei P w K mg base "UnknownBlock" "value" := ⟨⟨fd35, ok_errU T F35, F35.bindsN (fun _ _ _ _ _ _ us hl => match us, hl with | [_, _], _ => rfl)⟩⟩
  have MO : Ex.Ei P w K mg base "Occupied" "address" := ⟨⟨fd36, ok_errO T F36, F36.bindsN (fun _ _ _ _ _ _ us hl => match us, hl with | [_, _], _ => rfl)⟩⟩
  have ML : Ex.Ei P w K mg base "InvalidLevel" "value" := ⟨⟨fd37, ok_errL T F37, F37.bindsN (fun _ _ _ _ _ _ us hl => match us, hl with | [_, _], _ => rfl)⟩⟩
  have MN : Ex.Ei P w K mg base "InvalidNumber" "value" := ⟨⟨fd38, ok_errN T F38, F38.bindsN (fun _ _ _ _ _ _ us hl => match us, hl with | [_, _], _ => rfl)⟩⟩
  have MS : Ex.Ei P w K mg base "InvalidNumbers" "position" := ⟨⟨fd39, ok_errNs T F39, F39.bindsN (fun _ _ _ _ _ _ us hl => match us, hl with | [_, _], _ => rfl)⟩⟩
  have M_has_level : Mf P w K mg base _ "Sizes" "has_level" ["self", "level"] _ := ⟨⟨fd7, ok_has T D_is_integer P_top F7, F7.bindsN (fun _ _ _ _ _ _ us hl => match us, hl with | [_, _], _ => rfl)⟩, He.cls_ok (c.fact 68 (f := .cls "Sizes") rfl), He.meth_ok (c.fact 71 (f := .meth "Sizes" "has_level") rfl)⟩
  have M_check_level : Mf P w K mg base _ "Sizes" "check_level" ["self", "level"] _ := ⟨⟨fd8, ok_check_level T M_has_level F8, F8.bindsN (fun _ _ _ _ _ _ us hl => match us, hl with | [_, _], _ => rfl)⟩, He.cls_ok (c.fact 68 (f := .cls "Sizes") rfl), He.meth_ok (c.fact 72 (f := .meth "Sizes" "check_level") rfl)⟩
  have M_size : Mf P w K mg base _ "Sizes" "size" ["self", "level"] _ := ⟨⟨fd9, ok_size T M_check_level F9, F9.bindsN (fun _ _ _ _ _ _ us hl => match us, hl with | [_, _], _ => rfl)⟩, He.cls_ok (c.fact 68 (f := .cls "Sizes") rfl), He.meth_ok (c.fact 73 (f := .meth "Sizes" "size") rfl)⟩
  have X_has_level : Mf P w K mg base _ "Sizes" "has_level" ["self", "level"] _ := ⟨⟨fd7, ok_hasA T D_is_integerA P_top F7, F7.bindsN (fun _ _ _ _ _ _ us hl => match us, hl with | [_, _], _ => rfl)⟩, He.cls_ok (c.fact 68 (f := .cls "Sizes") rfl), He.meth_ok (c.fact 71 (f := .meth "Sizes" "has_level") rfl)⟩
  have X_check_level : MfX P w K mg base _ "Sizes" "check_level" ["self", "level"] _ := ⟨⟨fd8, ok_chkR T X_has_level ML F8, F8.bindsN (fun _ _ _ _ _ _ us hl => match us, hl with | [_, _], _ => rfl)⟩, He.cls_ok (c.fact 68 (f := .cls "Sizes") rfl), He.meth_ok (c.fact 72 (f := .meth "Sizes" "check_level") rfl)⟩
  have X_size : MfX P w K mg base _ "Sizes" "size" ["self", "level"] _ := ⟨⟨fd9, ok_sizeR T X_check_level F9, F9.bindsN (fun _ _ _ _ _ _ us hl => match us, hl with | [_, _], _ => rfl)⟩, He.cls_ok (c.fact 68 (f := .cls "Sizes") rfl), He.meth_ok (c.fact 73 (f := .meth "Sizes" "size") rfl)⟩
  have D_is_cells := df (P := P) (w := w) (base := base) X G (c.fact 3 (f := .glo "is_cells") rfl) F3 (ps := ["value"]) (fun _ _ _ _ _ _ us hl => match us, hl with | [_], _ => rfl) (ok_is_cells T D_is_integer F3)
  have D_check_cells := df (P := P) (w := w) (base := base) X G (c.fact 4 (f := .glo "check_cells") rfl) F4 (ps := ["value"]) (fun _ _ _ _ _ _ us hl => match us, hl with | [_], _ => rfl) (ok_check_cells T D_is_cells F4)
  have D_check_numbers := df (P := P) (w := w) (base := base) X G (c.fact 5 (f := .glo "check_numbers") rfl) F5 (ps := ["value"]) (fun _ _ _ _ _ _ us hl => match us, hl with | [_], _ => rfl) (ok_nums T D_is_cells F5)
  have D_is_cellsA := df (P := P) (w := w) (base := base) X G (c.fact 3 (f := .glo "is_cells") rfl) F3 (ps := ["value"]) (fun _ _ _ _ _ _ us hl => match us, hl with | [_], _ => rfl) (ok_is_cellsA T D_is_integerA F3)
  have X_check_cells := dfX (P := P) (w := w) (base := base) X G (c.fact 4 (f := .glo "check_cells") rfl) F4 (ps := ["value"]) (fun _ _ _ _ _ _ us hl => match us, hl with | [_], _ => rfl) (ok_check_cellsX T D_is_cellsA MN F4)
  have X_check_numbers := dfX (P := P) (w := w) (base := base) X G (c.fact 5 (f := .glo "check_numbers") rfl) F5 (ps := ["value"]) (fun _ _ _ _ _ _ us hl => match us, hl with | [_], _ => rfl) (ok_numsR T D_is_cellsA MS F5)
  have M_whole : Mf P w K mg base _ "Sizes" "whole" ["self", "cells", "level"] _ := ⟨⟨fd10, ok_whole T D_check_cells M_size F10, F10.bindsN (fun _ _ _ _ _ _ us hl => match us, hl with | [_, _, _], _ => rfl)⟩, He.cls_ok (c.fact 68 (f := .cls "Sizes") rfl), He.meth_ok (c.fact 74 (f := .meth "Sizes" "whole") rfl)⟩
  have D_is_address := df (P := P) (w := w) (base := base) X G (c.fact 6 (f := .glo "is_address") rfl) F40 (ps := ["value"]) (fun _ _ _ _ _ _ us hl => match us, hl with | [_], _ => rfl) (ok_is_address T D_is_integer F40)
  have D_is_addressA := df (P := P) (w := w) (base := base) X G (c.fact 6 (f := .glo "is_address") rfl) F40 (ps := ["value"]) (fun _ _ _ _ _ _ us hl => match us, hl with | [_], _ => rfl) (ok_is_addressA T D_is_integerA F40)
  have D_check_range := df (P := P) (w := w) (base := base) X G (c.fact 7 (f := .glo "check_range") rfl) F41 (ps := ["low", "high"]) (fun _ _ _ _ _ _ us hl => match us, hl with | [_, _], _ => rfl) (ok_check_range T D_is_integer D_is_address F41)
  have D_next_start := df (P := P) (w := w) (base := base) X G (c.fact 8 (f := .glo "next_start") rfl) F42 (ps := ["size", "address"]) (fun _ _ _ _ _ _ us hl => match us, hl with | [_, _], _ => rfl) (ok_next_start T F42)
  have D_gaps_between := df (P := P) (w := w) (base := base) X G (c.fact 9 (f := .glo "gaps_between") rfl) F43 (ps := ["ranges", "length"]) (fun _ _ _ _ _ _ us hl => match us, hl with | [_, _], _ => rfl) (ok_gaps T F43)
  have D_lies_below := df (P := P) (w := w) (base := base) X G (c.fact 10 (f := .glo "lies_below") rfl) F44 (ps := ["sizes", "level", "address", "end"]) (fun _ _ _ _ _ _ us hl => match us, hl with | [_, _, _, _], _ => rfl) (ok_below T M_size F44)
  have D_is_regionA := df (P := P) (w := w) (base := base) X G (c.fact 11 (f := .glo "is_region") rfl) F45 (ps := ["sizes", "length", "level", "address"]) (fun _ _ _ _ _ _ us hl => match us, hl with | [_, _, _, _], _ => rfl) (ok_is_regionA T D_check_cells M_has_level D_is_addressA D_lies_below F45)
  have D_region_start := df (P := P) (w := w) (base := base) X G (c.fact 12 (f := .glo "region_start") rfl) F46 (ps := ["sizes", "level", "address"]) (fun _ _ _ _ _ _ us hl => match us, hl with | [_, _, _], _ => rfl) (ok_region_start T D_is_address M_size F46)
  have D_count_regions := df (P := P) (w := w) (base := base) X G (c.fact 13 (f := .glo "count_regions") rfl) F47 (ps := ["sizes", "level", "low", "high"]) (fun _ _ _ _ _ _ us hl => match us, hl with | [_, _, _, _], _ => rfl) (ok_count_regions T D_check_range D_region_start D_next_start M_size F47)
  have D_Layout : Kf P w K mg base _ "Layout" ["self", "sizes", "length"] _ := ⟨⟨fd12, ok_new T D_check_cells F12, F12.bindsN (fun _ _ _ _ _ _ us hl => match us, hl with | [_, _, _], _ => rfl)⟩, He.glo_ok X G (c.fact 35 (f := .glo "Layout") rfl), He.mkr_ok (c.fact 77 (f := .mkr "Layout") rfl)⟩
  have X_Layout : KfX P w K mg base (L2.CX P w) 5 "Layout" ["self", "sizes", "length"] (spNewR K) := ⟨⟨fd12, ok_newR T X_check_cells F12, F12.bindsN (fun _ _ _ _ _ _ us hl => match us, hl with | [_, _, _], _ => rfl)⟩, He.glo_ok X G (c.fact 35 (f := .glo "Layout") rfl), He.mkr_ok (c.fact 77 (f := .mkr "Layout") rfl)⟩
  have P_sizes : Pf P w K mg base 1 "Layout" "sizes" (spSzs K) := ⟨He.cls_ok (c.fact 76 (f := .cls "Layout") rfl), _, _, fdP_sizes, prB_ok xp_sizes, ok_szs T FP_sizes, FunD.bindsN FP_sizes (fun _ _ _ _ _ _ us hl => match us, hl with | [_], _ => rfl)⟩
  have P_length : Pf P w K mg base 1 "Layout" "length" (spLng K) := ⟨He.cls_ok (c.fact 76 (f := .cls "Layout") rfl), _, _, fdP_length, prB_ok xp_length, ok_lng T FP_length, FunD.bindsN FP_length (fun _ _ _ _ _ _ us hl => match us, hl with | [_], _ => rfl)⟩
  have M_lrepr : MfG P w K mg base _ "Layout" "__repr__" ["self"] _ := ⟨⟨fd33, ok_lrepr T F33, F33.bindsN (fun _ _ _ _ _ _ us hl => match us, hl with | [_], _ => rfl)⟩, He.cls_ok (c.fact 76 (f := .cls "Layout") rfl), He.meth_ok (c.fact 102 (f := .meth "Layout" "__repr__") rfl)⟩
  have M_count_below : Mf P w K mg base _ "Layout" "count_below" ["self", "address"] _ := ⟨⟨fd13, ok_cb T F13, F13.bindsN (fun _ _ _ _ _ _ us hl => match us, hl with | [_, _], _ => rfl)⟩, He.cls_ok (c.fact 76 (f := .cls "Layout") rfl), He.meth_ok (c.fact 82 (f := .meth "Layout" "count_below") rfl)⟩
  have M_index_of : MfX P w K mg base _ "Layout" "index_of" ["self", "address"] _ := ⟨⟨fd14, ok_ix T D_is_integerA M_count_below MU F14, F14.bindsN (fun _ _ _ _ _ _ us hl => match us, hl with | [_, _], _ => rfl)⟩, He.cls_ok (c.fact 76 (f := .cls "Layout") rfl), He.meth_ok (c.fact 83 (f := .meth "Layout" "index_of") rfl)⟩
  have M_block_at : MfX P w K mg base _ "Layout" "block_at" ["self", "address"] _ := ⟨⟨fd15, ok_at T D_is_addressA M_count_below M_size MA F15, F15.bindsN (fun _ _ _ _ _ _ us hl => match us, hl with | [_, _], _ => rfl)⟩, He.cls_ok (c.fact 76 (f := .cls "Layout") rfl), He.meth_ok (c.fact 84 (f := .meth "Layout" "block_at") rfl)⟩
  have M_first_taken : Mf P w K mg base _ "Layout" "first_taken" ["self", "low", "high"] _ := ⟨⟨fd16, ok_first T M_block_at M_count_below F16, F16.bindsN (fun _ _ _ _ _ _ us hl => match us, hl with | [_, _, _], _ => rfl)⟩, He.cls_ok (c.fact 76 (f := .cls "Layout") rfl), He.meth_ok (c.fact 85 (f := .meth "Layout" "first_taken") rfl)⟩
  have M_put_d : MfXD P w K mg base 9 "Layout" "put" ["self", "level", "address", "pinned"] [.bl false] (spPut K) := by
    obtain ⟨ds, vd, bd⟩ := FunD.binds0 F17 (ps := ["self", "level", "address", "pinned"]) 3 (List.cons_ne_nil _ _) rfl (fun D doc pm an cdv ct us ks h1 h2 => match us, ks, h1, h2 with | [_, _, _], [_], _, _ => ⟨_, _, _, _, _, _, rfl, rfl, rfl⟩)
    exact ⟨⟨fd17, ds, ok_put T M_size D_is_regionA M_first_taken MA MO M_count_below F17, vd, bd⟩, He.cls_ok (c.fact 76 (f := .cls "Layout") rfl), He.meth_ok (c.fact 86 (f := .meth "Layout" "put") rfl)⟩
  have M_put_p : MfKX P w K mg base 9 "Layout" "put" ["self", "level", "address", "pinned"] 3 ["pinned"] (spPut K) := ⟨⟨fd17, ok_put T M_size D_is_regionA M_first_taken MA MO M_count_below F17, bindsK F17 (fun _ _ _ _ _ _ us ws hu hw => match us, ws, hu, hw with | [_, _, _], [_], _, _ => rfl)⟩, He.cls_ok (c.fact 76 (f := .cls "Layout") rfl), He.meth_ok (c.fact 86 (f := .meth "Layout" "put") rfl)⟩
  have X_put_p : MfKX P w K mg base 9 "Layout" "put" ["self", "level", "address", "pinned"] 3 ["pinned"] (spPutL K) := ⟨⟨fd17, ok_putL T X_size D_is_regionA M_first_taken M_count_below F17, bindsK F17 (fun _ _ _ _ _ _ us ws hu hw => match us, ws, hu, hw with | [_, _, _], [_], _, _ => rfl)⟩, He.cls_ok (c.fact 76 (f := .cls "Layout") rfl), He.meth_ok (c.fact 86 (f := .meth "Layout" "put") rfl)⟩
  have M_take_out : MfX P w K mg base _ "Layout" "take_out" ["self", "address"] _ := ⟨⟨fd18, ok_take T M_index_of M_size F18, F18.bindsN (fun _ _ _ _ _ _ us hl => match us, hl with | [_, _], _ => rfl)⟩, He.cls_ok (c.fact 76 (f := .cls "Layout") rfl), He.meth_ok (c.fact 87 (f := .meth "Layout" "take_out") rfl)⟩
  have M_set_pinned : MfX P w K mg base _ "Layout" "set_pinned" ["self", "address", "pinned"] _ := ⟨⟨fd19, ok_pin T M_index_of F19, F19.bindsN (fun _ _ _ _ _ _ us hl => match us, hl with | [_, _, _], _ => rfl)⟩, He.cls_ok (c.fact 76 (f := .cls "Layout") rfl), He.meth_ok (c.fact 88 (f := .meth "Layout" "set_pinned") rfl)⟩
  have M_ranges_of : Mf P w K mg base _ "Layout" "ranges_of" ["self", "blocks"] _ := ⟨⟨fd20, ok_ranges T M_size F20, F20.bindsN (fun _ _ _ _ _ _ us hl => match us, hl with | [_, _], _ => rfl)⟩, He.cls_ok (c.fact 76 (f := .cls "Layout") rfl), He.meth_ok (c.fact 89 (f := .meth "Layout" "ranges_of") rfl)⟩
  have M_pinned_ranges : Mf P w K mg base _ "Layout" "pinned_ranges" ["self"] _ := ⟨⟨fd21, ok_pinned T M_ranges_of F21, F21.bindsN (fun _ _ _ _ _ _ us hl => match us, hl with | [_], _ => rfl)⟩, He.cls_ok (c.fact 76 (f := .cls "Layout") rfl), He.meth_ok (c.fact 90 (f := .meth "Layout" "pinned_ranges") rfl)⟩
  have M_regions_in : Mf P w K mg base _ "Layout" "regions_in" ["self", "gaps", "level"] _ := ⟨⟨fd23, ok_regin T M_check_level D_count_regions F23, F23.bindsN (fun _ _ _ _ _ _ us hl => match us, hl with | [_, _, _], _ => rfl)⟩, He.cls_ok (c.fact 76 (f := .cls "Layout") rfl), He.meth_ok (c.fact 92 (f := .meth "Layout" "regions_in") rfl)⟩
  have X_regions_in : MfX P w K mg base _ "Layout" "regions_in" ["self", "gaps", "level"] _ := ⟨⟨fd23, ok_rinR T X_check_level D_count_regions F23, F23.bindsN (fun _ _ _ _ _ _ us hl => match us, hl with | [_, _, _], _ => rfl)⟩, He.cls_ok (c.fact 76 (f := .cls "Layout") rfl), He.meth_ok (c.fact 92 (f := .meth "Layout" "regions_in") rfl)⟩
  have M_free_gaps : Mf P w K mg base _ "Layout" "free_gaps" ["self"] _ := ⟨⟨fd24, ok_fg T M_ranges_of D_gaps_between F24, F24.bindsN (fun _ _ _ _ _ _ us hl => match us, hl with | [_], _ => rfl)⟩, He.cls_ok (c.fact 76 (f := .cls "Layout") rfl), He.meth_ok (c.fact 93 (f := .meth "Layout" "free_gaps") rfl)⟩
  have M_free_regions : Mf P w K mg base _ "Layout" "free_regions" ["self", "level"] _ := ⟨⟨fd25, ok_fr T M_free_gaps M_regions_in F25, F25.bindsN (fun _ _ _ _ _ _ us hl => match us, hl with | [_, _], _ => rfl)⟩, He.cls_ok (c.fact 76 (f := .cls "Layout") rfl), He.meth_ok (c.fact 94 (f := .meth "Layout" "free_regions") rfl)⟩
  have X_free_regions : MfX P w K mg base _ "Layout" "free_regions" ["self", "level"] _ := ⟨⟨fd25, ok_frR T M_free_gaps X_regions_in F25, F25.bindsN (fun _ _ _ _ _ _ us hl => match us, hl with | [_, _], _ => rfl)⟩, He.cls_ok (c.fact 76 (f := .cls "Layout") rfl), He.meth_ok (c.fact 94 (f := .meth "Layout" "free_regions") rfl)⟩
  have M_clear_cells : Mf P w K mg base _ "Layout" "clear_cells" ["self", "level"] _ := ⟨⟨fd27, ok_clear T M_pinned_ranges D_gaps_between M_regions_in M_size F27, F27.bindsN (fun _ _ _ _ _ _ us hl => match us, hl with | [_, _], _ => rfl)⟩, He.cls_ok (c.fact 76 (f := .cls "Layout") rfl), He.meth_ok (c.fact 96 (f := .meth "Layout" "clear_cells") rfl)⟩
  have X_clear_cells : MfX P w K mg base _ "Layout" "clear_cells" ["self", "level"] _ := ⟨⟨fd27, ok_clearR T M_pinned_ranges D_gaps_between X_regions_in M_size F27, F27.bindsN (fun _ _ _ _ _ _ us hl => match us, hl with | [_, _], _ => rfl)⟩, He.cls_ok (c.fact 76 (f := .cls "Layout") rfl), He.meth_ok (c.fact 96 (f := .meth "Layout" "clear_cells") rfl)⟩
  have M_unpinned_levels : Mf P w K mg base _ "Layout" "unpinned_levels" ["self"] _ := ⟨⟨fd22, ok_levels T F22, F22.bindsN (fun _ _ _ _ _ _ us hl => match us, hl with | [_], _ => rfl)⟩, He.cls_ok (c.fact 76 (f := .cls "Layout") rfl), He.meth_ok (c.fact 91 (f := .meth "Layout" "unpinned_levels") rfl)⟩
  have M_unpinned_cells : Mf P w K mg base _ "Layout" "unpinned_cells" ["self", "level"] _ := ⟨⟨fd28, ok_loose T M_check_level M_unpinned_levels M_size F28, F28.bindsN (fun _ _ _ _ _ _ us hl => match us, hl with | [_, _], _ => rfl)⟩, He.cls_ok (c.fact 76 (f := .cls "Layout") rfl), He.meth_ok (c.fact 97 (f := .meth "Layout" "unpinned_cells") rfl)⟩
  have X_unpinned_cells : MfX P w K mg base _ "Layout" "unpinned_cells" ["self", "level"] _ := ⟨⟨fd28, ok_looseR T X_check_level M_unpinned_levels M_size F28, F28.bindsN (fun _ _ _ _ _ _ us hl => match us, hl with | [_, _], _ => rfl)⟩, He.cls_ok (c.fact 76 (f := .cls "Layout") rfl), He.meth_ok (c.fact 97 (f := .meth "Layout" "unpinned_cells") rfl)⟩
  obtain ⟨z0, oz, nz, FS, hz1, hz2, hz3⟩ := kwB_ok F29 x_kw
  obtain ⟨z9, o9, n9, FL, h91, h92, h93⟩ := kwB_ok F32 x_kw2
  obtain ⟨z1, o1, n1, FF, h11, h12, h13⟩ := kwB_ok F31 x_kw3
  have hz0 : ∃ (o : Obj) (m : Nat), K.lookup z0 = some o ∧ o.cls = .type "tuple" ∧ o.data = .seq #[] m := ⟨oz, nz, hz1, hz2, hz3⟩
  have hzf : ∃ (o : Obj) (m : Nat), K.lookup z1 = some o ∧ o.cls = .type "tuple" ∧ o.data = .seq #[] m := ⟨o1, n1, h11, h12, h13⟩
  have M_slack_kw : MfK P w K mg base 10 "Layout" "slack" ["self", "level", "kept"] 2 ["kept"] (spSlack K) := ⟨⟨fd29, ok_slack T M_clear_cells M_unpinned_cells D_check_numbers M_whole FS, bindsK FS (fun _ _ _ _ _ _ us ws hu hw => match us, ws, hu, hw with | [_, _], [_], _, _ => rfl)⟩, He.cls_ok (c.fact 76 (f := .cls "Layout") rfl), He.meth_ok (c.fact 98 (f := .meth "Layout" "slack") rfl)⟩
  have M_slack_d : MfD P w K mg base 10 "Layout" "slack" ["self", "level", "kept"] [.ref z0] (spSlack K) := by
    obtain ⟨ds, vd, bd⟩ := FunD.binds0 FS (ps := ["self", "level", "kept"]) 2 (List.cons_ne_nil _ _) rfl (fun D doc pm an cdv ct us ks h1 h2 => match us, ks, h1, h2 with | [_, _], [_], _, _ => ⟨_, _, _, _, _, _, rfl, rfl, rfl⟩)
    exact ⟨⟨fd29, ds, ok_slack T M_clear_cells M_unpinned_cells D_check_numbers M_whole FS, vd, bd⟩, He.cls_ok (c.fact 76 (f := .cls "Layout") rfl), He.meth_ok (c.fact 98 (f := .meth "Layout" "slack") rfl)⟩
  have X_slack_d : MfXD P w K mg base 10 "Layout" "slack" ["self", "level", "kept"] [.ref z0] (spSlackL K) := by
    obtain ⟨ds, vd, bd⟩ := FunD.binds0 FS (ps := ["self", "level", "kept"]) 2 (List.cons_ne_nil _ _) rfl (fun D doc pm an cdv ct us ks h1 h2 => match us, ks, h1, h2 with | [_, _], [_], _, _ => ⟨_, _, _, _, _, _, rfl, rfl, rfl⟩)
    exact ⟨⟨fd29, ds, ok_slackL T X_clear_cells M_unpinned_cells D_check_numbers M_whole FS, vd, bd⟩, He.cls_ok (c.fact 76 (f := .cls "Layout") rfl), He.meth_ok (c.fact 98 (f := .meth "Layout" "slack") rfl)⟩
  have X_slackL_kw : MfKX P w K mg base 10 "Layout" "slack" ["self", "level", "kept"] 2 ["kept"] (spSlackL K) := ⟨⟨fd29, ok_slackL T X_clear_cells M_unpinned_cells D_check_numbers M_whole FS, bindsK FS (fun _ _ _ _ _ _ us ws hu hw => match us, ws, hu, hw with | [_, _], [_], _, _ => rfl)⟩, He.cls_ok (c.fact 76 (f := .cls "Layout") rfl), He.meth_ok (c.fact 98 (f := .meth "Layout" "slack") rfl)⟩
  have X_slackN_kw : MfKX P w K mg base 10 "Layout" "slack" ["self", "level", "kept"] 2 ["kept"] (spSlackN K) := ⟨⟨fd29, ok_slackN T M_clear_cells M_unpinned_cells X_check_numbers M_whole FS, bindsK FS (fun _ _ _ _ _ _ us ws hu hw => match us, ws, hu, hw with | [_, _], [_], _, _ => rfl)⟩, He.cls_ok (c.fact 76 (f := .cls "Layout") rfl), He.meth_ok (c.fact 98 (f := .meth "Layout" "slack") rfl)⟩
  have M_short_level : Mf P w K mg base _ "Layout" "short_level" ["self", "numbers"] _ := ⟨⟨fd30, ok_short T M_len M_slack_kw F30, F30.bindsN (fun _ _ _ _ _ _ us hl => match us, hl with | [_, _], _ => rfl)⟩, He.cls_ok (c.fact 76 (f := .cls "Layout") rfl), He.meth_ok (c.fact 99 (f := .meth "Layout" "short_level") rfl)⟩
  have X_short_level : MfX P w K mg base _ "Layout" "short_level" ["self", "numbers"] _ := ⟨⟨fd30, ok_shortR T M_len X_slackN_kw F30, F30.bindsN (fun _ _ _ _ _ _ us hl => match us, hl with | [_, _], _ => rfl)⟩, He.cls_ok (c.fact 76 (f := .cls "Layout") rfl), He.meth_ok (c.fact 99 (f := .meth "Layout" "short_level") rfl)⟩
  have M_largest_kw : MfXK P w K mg base 11 "Layout" "largest" ["self", "kept"] ["kept"] [0] (spLarge K) := ⟨⟨fd32, Ex.FnOk.up (ok_large T M_len M_slack_kw M_size FL), bindsKwD FL (fun _ _ _ _ _ _ _ ws hl => match ws, hl with | [_], _ => rfl)⟩, He.cls_ok (c.fact 76 (f := .cls "Layout") rfl), He.meth_ok (c.fact 101 (f := .meth "Layout" "largest") rfl)⟩
  have X_largest_kw : MfXK P w K mg base 11 "Layout" "largest" ["self", "kept"] ["kept"] [0] (spLargeR K) := ⟨⟨fd32, ok_largeR T M_len X_slackN_kw M_size FL, bindsKwD FL (fun _ _ _ _ _ _ _ ws hl => match ws, hl with | [_], _ => rfl)⟩, He.cls_ok (c.fact 76 (f := .cls "Layout") rfl), He.meth_ok (c.fact 101 (f := .meth "Layout" "largest") rfl)⟩
  have M_fits : MfS P w K mg base 12 "Layout" "fits" "kept" (.ref z1) (spFits K) := ok_fits T X_check_cells D_check_numbers M_short_level (He.cls_ok (c.fact 76 (f := .cls "Layout") rfl)) (He.meth_ok (c.fact 100 (f := .meth "Layout" "fits") rfl)) FF
  have X_fits : MfS P w K mg base 12 "Layout" "fits" "kept" (.ref z1) (spFitsR K) := ok_fitsR T X_check_cells X_check_numbers M_short_level (He.cls_ok (c.fact 76 (f := .cls "Layout") rfl)) (He.meth_ok (c.fact 100 (f := .meth "Layout" "fits") rfl)) FF
  have M_free_addresses : Mg P w K mg base 8 "Layout" "free_addresses" ["self", "level"] (spFaR K) := ⟨⟨fd26, ok_faR T X_size M_free_gaps D_next_start F26, F26.bindsN (fun _ _ _ _ _ _ us hl => match us, hl with | [_, _], _ => rfl)⟩, He.cls_ok (c.fact 76 (f := .cls "Layout") rfl), He.meth_ok (c.fact 95 (f := .meth "Layout" "free_addresses") rfl)⟩
  have D__law_rng := df (P := P) (w := w) (base := base) X G (c.fact 14 (f := .glo "_law_rng") rfl) F48 (ps := ["_law_script", "_law_k"]) (fun _ _ _ _ _ _ us hl => match us, hl with | [_, _], _ => rfl) (ok_rng T F48)
  have D__law_draw := df (P := P) (w := w) (base := base) X G (c.fact 15 (f := .glo "_law_draw") rfl) F49 (ps := ["_law_rng_here", "_law_many"]) (fun _ _ _ _ _ _ us hl => match us, hl with | [_, _], _ => rfl) (ok_draw T F49)
  have D__law_choice := df (P := P) (w := w) (base := base) X G (c.fact 16 (f := .glo "_law_choice") rfl) F50 (ps := ["_law_rng_here", "_law_options"]) (fun _ _ _ _ _ _ us hl => match us, hl with | [_, _], _ => rfl) (ok_choice T D__law_draw F50)
  have D__law_sizes := df (P := P) (w := w) (base := base) X G (c.fact 17 (f := .glo "_law_sizes") rfl) F51 (ps := ["_law_rng_here", "_law_levels", "_law_greatest"]) (fun _ _ _ _ _ _ us hl => match us, hl with | [_, _, _], _ => rfl) (ok_sizes T D__law_draw F51)
  have D__law_has_space := df (P := P) (w := w) (base := base) X G (c.fact 18 (f := .glo "_law_has_space") rfl) F52 (ps := ["_law_sizes_here", "_law_length", "_law_blocks_here", "_law_level", "_law_address"]) (fun _ _ _ _ _ _ us hl => match us, hl with | [_, _, _, _, _], _ => rfl) (ok_space T F52)
  have D__law_blocks := df (P := P) (w := w) (base := base) X G (c.fact 19 (f := .glo "_law_blocks") rfl) F53 (ps := ["_law_rng_here", "_law_sizes_here", "_law_length", "_law_many", "_law_one_in"]) (fun _ _ _ _ _ _ us hl => match us, hl with | [_, _, _, _, _], _ => rfl) (ok_blocks T D__law_draw D__law_has_space F53)
  have D__law_layout := df (P := P) (w := w) (base := base) X G (c.fact 20 (f := .glo "_law_layout") rfl) F54 (ps := ["_law_sizes_here", "_law_length", "_law_blocks_here"]) (fun _ _ _ _ _ _ us hl => match us, hl with | [_, _, _], _ => rfl) (ok_layout T D_Sizes D_Layout M_put_p F54)
  have D__law_odd := df (P := P) (w := w) (base := base) X G (c.fact 23 (f := .glo "_law_odd") rfl) F57 (ps := ["_law_rng_here"]) (fun _ _ _ _ _ _ us hl => match us, hl with | [_], _ => rfl) (ok_oddv T D__law_choice F57)
  have D__law_no_cells := df (P := P) (w := w) (base := base) X G (c.fact 24 (f := .glo "_law_no_cells") rfl) F58 (ps := ["_law_rng_here"]) (fun _ _ _ _ _ _ us hl => match us, hl with | [_], _ => rfl) (ok_nocells T D__law_draw D__law_choice D__law_odd F58)
  have D__law_no_numbers := df (P := P) (w := w) (base := base) X G (c.fact 25 (f := .glo "_law_no_numbers") rfl) F59 (ps := ["_law_rng_here"]) (fun _ _ _ _ _ _ us hl => match us, hl with | [_], _ => rfl) (ok_nonums T D__law_draw D__law_choice D__law_odd D__law_no_cells F59)
  have D__law_no_region := df (P := P) (w := w) (base := base) X G (c.fact 26 (f := .glo "_law_no_region") rfl) F60 (ps := ["_law_rng_here", "_law_sizes_here", "_law_length", "_law_level"]) (fun _ _ _ _ _ _ us hl => match us, hl with | [_, _, _, _], _ => rfl) (ok_noreg T D__law_draw D__law_choice D__law_odd F60)
  have D__law_kind : DfE P w K mg base 1 "_law_kind" ["_law_e"] (spKind K) := ⟨⟨fd55, ok_kind T F55, F55.bindsN (fun _ _ _ _ _ _ us hl => match us, hl with | [_], _ => rfl)⟩, He.glo_ok X G (c.fact 21 (f := .glo "_law_kind") rfl), F55.kp⟩
  have KX := kit_six xk0 xk1 xk2 xk3 xk4 xk5
  have inj := injB_ok x_inj
  have hSt := bOf_ok xSt
  have tbf := tab_facts c0
  have gO := He.glo_ok X G (c.fact 22 (f := .glo "_law_outcome") rfl)
  have bO : L2.Binds K fd56 ["_law_call"] [] := F56.bindsN (fun _ _ _ _ _ _ us hl => match us, hl with | [_], _ => rfl)
  have hcd0 := tab_code (tbf "_law_level_calls" (by simp [tabNs])).1 F61
  have TB0 : LamX.TabB base mg (cdA K "_law_level_calls") (PtK K 0) := TB "_law_level_calls" (by simp [tabNs])
  have D__law_level_calls := dfG (P := P) (w := w) (base := base) X G (c.fact 27 (f := .glo "_law_level_calls") rfl) F61 (ps := ["_law_rng_here", "_law_layout_here", "_law_odd_here"]) (fun _ _ _ _ _ _ us hl => match us, hl with | [_, _, _], _ => rfl) ((fun F => ok_level inj hSt T KX D__law_kind D__law_no_numbers X_free_regions X_clear_cells X_unpinned_cells X_slack_d X_slackL_kw X_put_p M_free_addresses F56 gO bO TB0 F hcd0) F61)
  have hcd1 := tab_code (tbf "_law_number_calls" (by simp [tabNs])).1 F62
  have TB1 : LamX.TabB base mg (cdA K "_law_number_calls") (PtK K 1) := TB "_law_number_calls" (by simp [tabNs])
  have D__law_number_calls := dfG (P := P) (w := w) (base := base) X G (c.fact 28 (f := .glo "_law_number_calls") rfl) F62 (ps := ["_law_rng_here", "_law_layout_here", "_law_level"]) (fun _ _ _ _ _ _ us hl => match us, hl with | [_, _, _], _ => rfl) ((fun F => ok_numc inj T KX D__law_kind D__law_no_numbers D__law_no_cells X_slackN_kw X_largest_kw X_short_level X_fits X_Layout P_sizes F56 gO bO TB1 F hcd1) F62)
  have hcd2 := tab_code (tbf "_law_place_calls" (by simp [tabNs])).1 F63
  have TB2 : LamX.TabB base mg (cdA K "_law_place_calls") (PtK K 2) := TB "_law_place_calls" (by simp [tabNs])
  have D__law_place_calls := dfG (P := P) (w := w) (base := base) X G (c.fact 29 (f := .glo "_law_place_calls") rfl) F63 (ps := ["_law_rng_here", "_law_layout_here", "_law_sizes_here", "_law_length", "_law_blocks_here", "_law_level"]) (fun _ _ _ _ _ _ us hl => match us, hl with | [_, _, _, _, _, _], _ => rfl) ((fun F => ok_placec inj T KX D__law_kind D__law_draw D__law_choice D__law_odd D__law_no_region M_put_d M_block_at M_take_out M_set_pinned F56 gO bO TB2 F hcd2) F63)
  have hcd3 := tab_code (tbf "_law_occupied_right" (by simp [tabNs])).1 F64
  have TB3 : LamX.TabB base mg (cdA K "_law_occupied_right") (PtK K 3) := TB "_law_occupied_right" (by simp [tabNs])
  have D__law_occupied_right := dfG (P := P) (w := w) (base := base) X G (c.fact 30 (f := .glo "_law_occupied_right") rfl) F64 (ps := ["_law_rng_here", "_law_layout_here", "_law_sizes_here", "_law_length", "_law_blocks_here", "_law_level"]) (fun _ _ _ _ _ _ us hl => match us, hl with | [_, _, _, _, _, _], _ => rfl) ((fun F => ok_occ inj T KX D__law_kind D__law_draw M_put_p F56 gO bO TB3 F hcd3) F64)
  have hcd4 := tab_code (tbf "_law_bools_right" (by simp [tabNs])).1 F65
  have TB4 : LamX.TabB base mg (cdA K "_law_bools_right") (PtK K 4) := TB "_law_bools_right" (by simp [tabNs])
  have D__law_bools_right := dfG (P := P) (w := w) (base := base) X G (c.fact 31 (f := .glo "_law_bools_right") rfl) F65 (ps := ["_law_layout_here", "_law_sizes_here"]) (fun _ _ _ _ _ _ us hl => match us, hl with | [_, _], _ => rfl) ((fun F => ok_bools inj hSt T KX D__law_kind hz0 hzf M_free_regions M_clear_cells M_unpinned_cells M_slack_d P_length M_fits M_short_level M_largest_kw X_free_regions X_clear_cells X_unpinned_cells X_slack_d M_free_addresses X_fits X_short_level X_largest_kw X_slackN_kw F56 gO bO TB4 F hcd4) F65)
  have D__law_right := dfG (P := P) (w := w) (base := base) X G (c.fact 32 (f := .glo "_law_right") rfl) F66 (ps := ["_law_rng_here"]) (fun _ _ _ _ _ _ us hl => match us, hl with | [_], _ => rfl) (ok_right T hzf D__law_sizes D__law_draw D__law_choice D__law_odd D__law_blocks D__law_layout D__law_level_calls D__law_number_calls D__law_place_calls D__law_occupied_right D__law_bools_right M_lrepr M_fits M_slack_kw M_block_at M_short_level F66)
  exact ok_law T D__law_rng D__law_right F67
end
end K26
open PySem PySem.W PySem.Calls PyProof.Rows
theorem PySem.Challenge.cw_exactroom_k26_layout_errors_holds : PySem.Challenge.rw_exactroom_k26_layout_errors.Holds := by
  w_on; o_law
  refine HandSHeadRun.head_any (r := OpenLaw.row PySem.Challenge.rw_exactroom_k26_layout_errors) (q := view (OpenLaw.row PySem.Challenge.rw_exactroom_k26_layout_errors).prog [52]) (H := K26.hk) (ob := K26.ob) (M := 16000)
    (loose := K26.loose) (d := HandSHeadRun.topDef (OpenLaw.row PySem.Challenge.rw_exactroom_k26_layout_errors).prog 52) (kwd := []) K26.ob_eq
    (by kernel_rfl) (fun s => by kernel_rfl) K26.run (by kernel_rfl) (by kernel_rfl) (by kernel_rfl) (by rfl) (by first | assumption | decide +kernel) (by decide +kernel) ⟨rfl, rfl, rfl, rfl, rfl, by decide +kernel⟩ ?hw ?hc
  case hw => w_witness2
  case hc =>
    refine Gu.walkGT (l := PySem.Challenge.rw_exactroom_k26_layout_errors) (n := 63) (k := 18) (x := "_law_script") (CX := L2.CX0) rfl (by decide) (by kernel_rfl) ⟨⟨rfl, by decide, by decide⟩, rfl⟩ ?F (fun _ _ _ _ z => z)
    intro w mg fa h Y G hmg0
    obtain ⟨K, KX, c, ht⟩ := Y
    have hmg : mg ("law" : PySem.Str) = some (.ref fa) := by
      have e : (HandSHeadRun.topDef (OpenLaw.row PySem.Challenge.rw_exactroom_k26_layout_errors).prog 52).name = ("law" : PySem.Str) := by kernel_rfl
      rw [← e]
      exact hmg0
    obtain ⟨fd, hb, hF⟩ := K26.facts (P := (PySem.Challenge.rw_exactroom_k26_layout_errors).prog) (w := w) KX G hmg c
    have tf := K26.tab_facts c
    refine ⟨K, fd, K26.spLaw K (K26.PtK K), K26.tabNs.map fun x => (Ex.cdA K x, Ex.ptA K x), KX, fun p hp => ?_, fun p hp => ?_, fun p hp => ?_, hb, fun H a ns hl h0 hS => ⟨a, ns, rfl, hS, hl, K26.tabs_nil fun x hx => h0.at_ _ (List.mem_map.mpr ⟨x, hx, rfl⟩), fun _ => rfl⟩, fun base hK hN hT => hF base hK hN fun x hx => hT _ (List.mem_map.mpr ⟨x, hx, rfl⟩)⟩
    · obtain ⟨x, hx, rfl⟩ := List.mem_map.mp hp; exact ht x hx
    · obtain ⟨x, hx, rfl⟩ := List.mem_map.mp hp; exact (tf x hx).2.2
    · obtain ⟨x, hx, rfl⟩ := List.mem_map.mp hp; exact PySem.W.codeHd_of_K KX (tf x hx).2.1

