import PyProof.Rows.All
import Wide.All
import OpenK.AllK
import Wide.FinOn
import PyProof.ReprRoads
import HandS.ForMost
import HandS.ForExc
import HandS.Property
import HandS.ClsMeth
import HandS.Defaults
import HandS.IsInst
import HandS.Wide
import HandS.WideBits
import HandS.Ends
import HandS.HeadEnd
import HandS.Head0
import HandS.Head1
import HandS.Head2
import HandS.HeadHook1
import HandS.HeadHook2
import HandS.Flow
import HandS.Style
import HandS.ExcInit
import HandS.ExcField
import HandS.ExcIs
import HandS.TryOnly
import HandS.OwnEq
import PyProof.Rows.SetFrom
import HandS.TupSets
import PyProof.InstNe
import HandS.More
import PyProof.EqKinds
import HandS.FStr
import KE.KExcInit
import PyProof.ExcBaseAll.ArithmeticError
import PyProof.ExcBaseAll.LookupError
import PyProof.ExcBaseAll.RuntimeError
import HandS.TryMany
import HandS.EndTab
import HandS.CallLocal
import HandS.ExcInitHot
import HandS.SuiteRaise
import HandS.RaiseFrom
import HandS.Comp
import HandS.Dict
import HandS.Text
import KE.IntTextLaws
import HandS.Iter
import HandS.Walk
import PyProof.LongRange
import HandS.Conv
import HandS.HotCalls
import KE.KTryMore
import HandS.List
import HandS.SetFor
import HandS.Codes
import HandS.Deep
import KE.KStateDown
import Lean
import KE.KNestM
import PySem.Challenge.RW_exactroom_k18_values_refused
set_option Elab.async false
set_option linter.all false
set_option maxRecDepth 100000
set_option maxHeartbeats 4000000
/-! Own layer: defs that are called where no repr is under way (the guards are known to be none), so that repr of data can be walked. -/
namespace Gu
open PySem PySem.Spec PyProof.Rows L2
structure RoomG (k : Nat) (A : Around) : Prop where
  r : Room k A
  g : A.guards = some []
theorem RoomG.mono {j k : Nat} {A : Around} (x : RoomG k A) (h : j ≤ k) : RoomG j A := ⟨x.r.mono h, x.g⟩
theorem RoomG.down {k : Nat} {A : Around} (x : RoomG (k + 1) A) (env : Env) : RoomG k (A.deeper env) := ⟨x.r.deeper env, x.g⟩
structure FnG (P : Program) (w : World) (K : PySem.W.Frag) (mg : Str → Option Value) (base : Heap) (CX : CXT) (k : Nat) (f : Addr) (fd : FuncData) (ps : List Str) (sp : Sp) : Prop where
  len : ∀ vs H Q E, sp vs H Q E → vs.length = ps.length
  run : ∀ (A : Around) (outer : List Env) (s : Shared) (H : Hp) (args : Args) (us : List Value) (vs : List V) (Q : VK) (E : XK),
    RoomG k A → Env0 P w K mg base A outer s H → BindsTo s fd args (ps.zip us) → Vals vs us → sp vs H Q E →
    codeAny (model P w) A (.call (.ref f) args) (CR CX outer P w H s Q E) s
section
variable {P : Program} {w : World} {K : PySem.W.Frag} {mg : Str → Option Value} {base : Heap} {CX : CXT} {k : Nat} {f : Addr} {fd : FuncData} {ps : List Str} {sp : Sp}
theorem FnG.of (F : FnOk P w K mg base CX k f fd ps sp) : FnG P w K mg base CX k f fd ps sp :=
  ⟨F.len, fun A outer s H args us vs Q E hr => F.run A outer s H args us vs Q E hr.r⟩
/-- a def by its body -/
theorem okG {x qual : Str} {params : Arguments} {body : List Stmt} {scope : Scope} {dvs : List V} {kws : List (Str × V)} {N : List Str}
    (F : FunD K x qual params body scope dvs kws f fd) (S : FnScope N ps scope) (len : ∀ vs H Q E, sp vs H Q E → vs.length = ps.length)
    (hbody : ∀ (cdv : Value) (A : Around) (outer : List Env) (s : Shared) (H : Hp) (vs : List V) (Q : VK) (E : XK),
      RoomG k (A.deeper (envOfC qual scope s.heap.objs.size f cdv)) → sp vs H Q E →
      ∃ t, PSs (cxOf CX P w K mg base N qual scope f cdv A outer s H E) body t ∧ t { nx := fun _ H' => Q .non H', rt := Q } (start N vs) H) :
    FnG P w K mg base CX (k + 1) f fd ps sp := by
  obtain ⟨oc, od, dV, kV, doc, pm, an, cdv, ct, osl, rfl, lk, hcd, _, _⟩ := F.ex
  refine ⟨len, fun A outer s H args us vs Q E hr e0 hb rv hsp => ?_⟩
  have KX : K.In s.heap := e0.mod.kin.keeps fun b o e => (e0.bs b o e).1
  have hkinds : ∀ y ∈ ps.zip us, scope.names.lookup y.1 = some .local ∨
      (scope.names.lookup y.1 = some .cell ∧ ((cellsFrom (s.heap.objs.size + 1) scope.names []).lookup y.1).isSome = true) := by
    rintro ⟨n, v⟩ hy
    rcases S.par n (List.of_mem_zip hy).1 with q | q
    · exact .inl q
    · exact .inr ⟨q, PySem.W.cellsFrom_some _ _ _ (.inl q)⟩
  refine codeAny_call_function hr.r.depth (KX _ _ lk) rfl S.co S.gen rfl (PySem.W.codeRec_of KX hcd) (hb _ _ _ _ ?_)
  refine wpAny_newFunctionEnv_cells S.kind hkinds fun env he s1 x => ?_
  subst he
  refine ⟨(e0.mod.nolimit.keeps fun b o e => (e0.bs b o e).1).keeps x.toInCall.keep, codeAny_func ?_⟩
  obtain ⟨t, ht, hq⟩ := hbody cdv A outer s H vs Q E (hr.down _) hsp
  have I := inv_start (CX := CX) (E := E) (N := N) (qual := qual) (f := f) (cd := cdv) S hr.r.hd e0 (len _ _ _ _ hsp) rv x
  refine wpAny_mono (ht.run [] s1 (start N vs) H _ I hq) (fun fl s' hs => ?_) fun e s' hs => hs
  cases fl with
  | ret u =>
    obtain ⟨v, σ', H', J, rv', q⟩ := hs
    exact ⟨v, H', J.os, J.bare, J.base, J.hok, rv', q⟩
  | next =>
    obtain ⟨σ', H', J, q⟩ := hs
    exact ⟨V.non, H', J.os, J.bare, J.base, J.hok, rfl, q⟩
  | brk => exact hs.elim fun _ z => z.elim fun _ z => z.2.elim
  | cont => exact hs.elim fun _ z => z.elim fun _ z => z.2.elim
end
section
variable {X : Cx} {CX : CXT} {k : Nat} {f : Addr} {fd : FuncData} {ps : List Str} {sp : Sp} {dvs : List V} {ds : List Value} {E : XK} {x : Str} {p pos : Pos} {e : Expr} {es : List Expr} {t : TA}
theorem runG {pins : List (Addr × Obj)} {σ : L2.St} {H : Hp} {s : Shared} {Q : VK} {us : List Value} {vs : List V} (F : FnG X.prog X.w X.K X.mg X.base CX k f fd ps sp)
    (hr : RoomG k X.A) (hb : Binds X.K fd ps ds) (hd : Vals dvs ds) (hx : Passes CX X E) (I : Inv X pins σ H s) (r : Vals vs us) (h : sp (vs ++ dvs) H Q E) :
    wpAny (model X.prog X.w) X.A (call (.ref f) us) (EP X pins σ Q) X.xe s := by
  have r2 := r.append hd
  have hl : (us ++ ds).length = ps.length := r2.length.symm.trans (F.len _ _ _ _ h)
  refine wpAny_call (codeAny_mono (F.run X.A X.stack s H ⟨us, []⟩ _ _ Q E hr I.env0 (hb s us I.kIn hl) r2 h) fun r s' hq => ?_)
  match r, hq with
  | .error e, hq => exact hx pins σ H s e s' I hq
  | .ok (.ret u), hq => exact I.after hq
/-- f(e, ..) -/
theorem pe_callG (F : FnG X.prog X.w X.K X.mg X.base CX k f fd ps sp) (hr : RoomG k X.A) (hg : Gl X x) (hm : X.mg x = some (.ref f)) (hk : PySem.W.keepIn X.K (.ref f) = true)
    (hb : Binds X.K fd ps ds) (hd : Vals dvs ds) (hx : Passes CX X E) (ha : PA X (e :: es) t) (hdb : (x == ("__debug__" : Str)) = false := by decide)
    (he : starEach (e :: es) X.env = (false, eval e X.env) :: starEach es X.env := by rfl) (hpl : (backTo pos (starEach es X.env)).any (·.1) = false := by rfl) :
    PE X (.Call (.Name x p) (e :: es) [] pos) (tCall sp dvs E t) :=
  ⟨fun pins s σ H Q I h => wpAny_Call_Name_kw (ld_glob I hg hm (PySem.W.callWith_K (h₀ := X.base) I.ok.mod.kin hk
    (thn (ha.run pos pins s σ H _ I h) fun us s1 ⟨vs, H1, I1, r, q⟩ => ⟨I1.kIn, runG F hr hb hd hx I1 r q⟩) he hpl) hdb)⟩
/-- repr of a list or a tuple of data -/
def rReprD (K : PySem.W.Frag) : List V → Hp → VK → Prop := fun xs H Q => ∃ (a : Addr) (d : PyData), xs = [.ref a] ∧ Dp K H (.ref a) d ∧ d.showable = true ∧ d.hasDict = false ∧ d.depth ≤ 60 ∧ d.shown.length ≤ sizeLine ∧ Q (.str d.shown) H
theorem call_reprD (hr : RoomG k X.A) : CallR X (.builtin "repr") (rReprD X.K) := by
  intro pins s σ H xs us Q I r h
  obtain ⟨a, d, rfl, hd, hs, hn, hdep, hz, q⟩ := h
  obtain ⟨u, rfl, ru⟩ := vals1 r
  obtain rfl : u = Value.ref a := ru
  obtain ⟨as, rd⟩ := Dp.reads I d (.ref a) (.ref a) hd rfl
  have hu := hr.r.units
  exact repr_of_reads' rd hs (PyData.noDict_hsm hn) hr.g (by omega) (fun _ _ e => e) (fun h' u tk hk => ⟨.str d.shown, H, I.kept hk, ⟨u, rfl⟩, q⟩) hz
end
/-- the law's call, from its promise where no repr is under way -/
theorem law_go {P : Program} {w : World} {K : PySem.W.Frag} {mg mb : Str → Option Value} {CX : CXT} {k : Nat} {fa a : Addr} {fd : FuncData} {x : Str} {sp : Sp} {s₁ : Shared} {vs : List Value} {H : Hp}
    (KX : K.In s₁.heap) (hns : s₁.heap.Ns mainGlobals mg) (hb : s₁.heap.Ns builtinsNs mb) (hbb : ∀ x : Str, x ≠ "__name__" → mb x = bootBuiltins x) (hlim : s₁.heap.NoLimit) (hg : s₁.gens = #[])
    (ha : s₁.heap.get? a = some { cls := .type "list", data := .seq vs.toArray }) (hr : RoomG k callerA)
    (F : ∀ base : Heap, K.In base → base.Ns mainGlobals mg → FnG P w K mg base CX k fa fd [x] sp) (hbind : ∀ (s : Shared) (u : Value), BindsTo s fd ⟨[u], []⟩ [(x, u)])
    (hsp : sp [.ref a] H (fun v _ => v = .bl true) fun _ _ _ => False) (hCX : ∀ e s', CX [] H s₁ (fun _ _ _ => False) e s' → False)
    (hO : Only H) (hok : HOk P w H s₁.heap) (hA : ∀ b, H b ≠ none → b = a) (hK : H a ≠ none → K.lookup a = none) :
    codeAny (model P w) callerA (.call (.ref fa) ⟨[.ref a], []⟩) (fun r s' => r = .ok (.ret (.bool true)) ∧ OldK s₁.heap s'.heap ∧ s'.os = s₁.os ∧ AllBare s'.gens) s₁ := by
  have free : ∀ {b : Addr} {o : Obj}, s₁.heap.get? b = some o → (b = a → False) → (hidT s₁.heap H).get? b = some o := fun {b o} e n => hidT_get e (by
    cases q : H b with
    | none => rfl
    | some u => exact (n (hA b (by rw [q]; exact fun z => nomatch z))).elim)
  have nsK : ∀ {b : Addr} {m : Str → Option Value}, s₁.heap.Ns b m → (hidT s₁.heap H).Ns b m := fun {b m} ⟨o, es, ep, e, d, r⟩ => ⟨o, es, ep, free e (fun z => by
    rw [z, ha] at e
    have e' := Option.some.inj e
    rw [← e'] at d
    exact nomatch d), d, r⟩
  have hKb : K.In (hidT s₁.heap H) := fun b o e => hidT_get (KX b o e) (by
    cases q : H b with
    | none => rfl
    | some u =>
      have z : b = a := hA b (by rw [q]; exact fun z => nomatch z)
      rw [z] at e q
      rw [hK (by rw [q]; exact fun z => nomatch z)] at e
      exact nomatch e)
  obtain ⟨mc, l1, l2⟩ := hlim
  have e0 : Env0 P w K mg (hidT s₁.heap H) callerA [] s₁ H :=
    ⟨rfl, ⟨hKb, nsK hns, ⟨mb, nsK hb, hbb⟩, ⟨mc, nsK l1, l2⟩⟩, fun b o e => of_hidT e, Nat.le_of_eq (hidT_size _ _), trivial, fun b hb => absurd (show b ∈ ([] : List Addr) from hb) List.not_mem_nil, hok, .of_eq hg⟩
  refine codeAny_mono ((F _ hKb (nsK hns)).run callerA [] s₁ H ⟨[.ref a], []⟩ [.ref a] [.ref a] _ _ hr e0 (hbind s₁ (.ref a)) (.cons rfl .nil) hsp) fun r s' h => ?_
  match r, h with
  | .error e, h => exact (hCX e s' h).elim
  | .ok (.ret u), h =>
    obtain ⟨v, H', os, bare, un, hok', r', q⟩ := h
    obtain rfl : v = .bl true := q
    obtain rfl : u = Value.bool true := r'
    refine ⟨rfl, OldK.of_keep fun b o e => ?_, os, bare⟩
    cases q : H b with
    | none => exact un.keep b o e q (fun z => absurd (show b ∈ ([] : List Addr) from z) List.not_mem_nil) (fun z => absurd (show b ∈ ([] : List Addr) from z) List.not_mem_nil)
    | some u =>
      rcases hO b with z | ⟨ob, xs, z⟩
      · rw [q] at z
        exact nomatch z
      · obtain ⟨e1, _⟩ := hok b _ z
        obtain ⟨e2, _⟩ := hok' b _ (un.frzs b ob _ z)
        rw [e] at e1
        rw [Option.some.inj e1]
        exact e2
theorem law_callG {P : Program} {w : World} {K : PySem.W.Frag} {mg mb : Str → Option Value} {CX : CXT} {k : Nat} {fa a : Addr} {fd : FuncData} {x : Str} {sp : Sp} {s₁ : Shared} {vs : List Value} {ns : List Int}
    (KX : K.In s₁.heap) (hns : s₁.heap.Ns mainGlobals mg) (hb : s₁.heap.Ns builtinsNs mb) (hbb : ∀ x : Str, x ≠ "__name__" → mb x = bootBuiltins x) (hlim : s₁.heap.NoLimit) (hg : s₁.gens = #[])
    (ha : s₁.heap.get? a = some { cls := .type "list", data := .seq vs.toArray }) (hi : IntsAre vs ns) (hl : ns.length ≤ sizeLine) (hr : RoomG k callerA)
    (F : ∀ base : Heap, K.In base → base.Ns mainGlobals mg → FnG P w K mg base CX k fa fd [x] sp) (hbind : ∀ (s : Shared) (u : Value), BindsTo s fd ⟨[u], []⟩ [(x, u)])
    (hsp : ∀ H : Hp, Only H → SqL K H a (ns.map V.int) → sp [.ref a] H (fun v _ => v = .bl true) fun _ _ _ => False) (hCX : ∀ H e s', CX [] H s₁ (fun _ _ _ => False) e s' → False) :
    codeAny (model P w) callerA (.call (.ref fa) ⟨[.ref a], []⟩) (fun r s' => r = .ok (.ret (.bool true)) ∧ OldK s₁.heap s'.heap ∧ s'.os = s₁.os ∧ AllBare s'.gens) s₁ := by
  have rv := vals_ints hi
  have lenV := hi.length
  cases hk : K.lookup a with
  | some o =>
    have e := (KX a o hk).symm.trans ha
    obtain rfl := Option.some.inj e
    have hO : Only (fun _ => none) := fun _ => .inl rfl
    exact law_go (H := fun _ => none) KX hns hb hbb hlim hg ha hr F hbind
      (hsp _ hO (.inr ⟨_, vs.toArray, _, hk, rfl, rfl, rfl, by rw [List.size_toArray, lenV]; exact hl, by simpa using rv⟩)) (hCX _) hO
      (fun b u z => nomatch (show (none : Option HO) = some u from z)) (fun b z => (z rfl).elim) (fun z => (z rfl).elim)
  | none =>
    let H0 : Hp := fun b => if b = a then some (.frz { cls := .type "list", data := .seq vs.toArray } (.lst (ns.map V.int))) else none
    have at_ : H0 a = some (.frz { cls := .type "list", data := .seq vs.toArray } (.lst (ns.map V.int))) := if_pos rfl
    have off : ∀ b, b ≠ a → H0 b = none := fun b h => if_neg h
    have hO : Only H0 := fun b => by
      by_cases h : b = a
      · rw [h]
        exact .inr ⟨_, _, at_⟩
      · exact .inl (off b h)
    refine law_go (H := H0) KX hns hb hbb hlim hg ha hr F hbind (hsp _ hO (.inl (.inr ⟨_, at_⟩))) (hCX _) hO (fun b u z => ?_) (fun b z => ?_) (fun _ => hk)
    · by_cases h : b = a
      · rw [h, at_] at z
        obtain rfl := Option.some.inj z
        rw [h]
        exact ⟨ha, by rw [List.length_map]; exact hl, vs, _, rv, ha⟩
      · rw [off b h] at z
        exact nomatch z
    · by_cases h : b = a
      · exact h
      · exact (z (off b h)).elim
/-- the end of a law, over a head by facts -/
theorem walkG {l : PySem.W.OpenLaw} {n k : Nat} {q : Program} {loose : List Str} {XP : (Str → Option Value) → Heap → Prop} {YP : World → Heap → Prop} {d : DefRec} {CX : CXT} {x : Str}
    (hn : l.most = some n) (hn2 : n ≤ sizeLine) (hdf : d.params.defaults = []) (hr : RoomG k callerA)
    (F : ∀ (w : World) (mg : Str → Option Value) (fa : Addr) (h : Heap), YP w h → h.Ns mainGlobals mg → mg d.name = some (.ref fa) →
      ∃ (K : PySem.W.Frag) (fd : FuncData) (sp : Sp), K.In h ∧ (∀ (s : Shared) (u : Value), BindsTo s fd ⟨[u], []⟩ [(x, u)]) ∧
        (∀ (H : Hp) (a : Addr) (ns : List Int), ns.length ≤ n → Only H → SqL K H a (ns.map V.int) → sp [.ref a] H (fun v _ => v = .bl true) fun _ _ _ => False) ∧
        ∀ base : Heap, K.In base → base.Ns mainGlobals mg → FnG l.prog w K mg base CX k fa fd [x] sp)
    (hCX : ∀ (H : Hp) (s : Shared) (e : Value) (s' : Shared), CX [] H s (fun _ _ _ => False) e s' → False) :
    PySem.W.WalkO q loose XP YP l.row.toRowW d [] (fun f vs => PySem.call f vs) := by
  refine Att.attach_call hn hdf fun w s₀ s₁ mg mb fa o pm cd doc a vs ns G Y ho hd hcd hmg hobj hints hlen hg => ?_
  obtain ⟨K, fd, sp, KX, hb, hsp, hF⟩ := F w mg fa _ Y G.T.g hmg
  exact law_callG KX G.T.g G.T.b G.T.builtins G.T.nolimit hg hobj hints (Nat.le_trans hlen hn2) hr hF hb (fun H hO hS => hsp H a ns hlen hO hS) fun H e s' => hCX H s₁ e s'
end Gu

set_option Elab.async false
set_option linter.all false
set_option maxRecDepth 100000
set_option maxHeartbeats 4000000
/-! Own layer: defs, methods, makers and properties by their names. -/
namespace Ex
open PySem PySem.Spec PyProof.Rows L2 Gu
section
variable (P : Program) (w : World) (K : PySem.W.Frag) (mg : Str → Option Value) (base : Heap)
/-- the module's def x keeps sp -/
structure Df (k : Nat) (x : Str) (ps : List Str) (sp : Sp) : Prop where
  ex : ∃ fd, FnOk P w K mg base CX0 k (He.ga K x) fd ps sp ∧ Binds K fd ps []
  gl : mg x = some (.ref (He.ga K x))
  kp : PySem.W.keepIn K (.ref (He.ga K x)) = true
structure DfG (k : Nat) (x : Str) (ps : List Str) (sp : Sp) : Prop where
  ex : ∃ fd, FnG P w K mg base CX0 k (He.ga K x) fd ps sp ∧ Binds K fd ps []
  gl : mg x = some (.ref (He.ga K x))
  kp : PySem.W.keepIn K (.ref (He.ga K x)) = true
/-- .. called by keywords ks alone; j: the places of the parameters among the keywords -/
structure DfK (k : Nat) (x : Str) (ps ks : List Str) (j : List Nat) (sp : Sp) : Prop where
  ex : ∃ fd, FnOk P w K mg base CX0 k (He.ga K x) fd ps sp ∧ ∀ (s : Shared) (ws : List Value), ws.length = ks.length → BindsTo s fd ⟨[], ks.zip ws⟩ (ps.zip (j.filterMap fun i => ws[i]?))
  gl : mg x = some (.ref (He.ga K x))
  kp : PySem.W.keepIn K (.ref (He.ga K x)) = true
structure Mf (k : Nat) (c m : Str) (ps : List Str) (sp : Sp) : Prop where
  ex : ∃ fd, FnOk P w K mg base CX0 k (He.ma K (He.ga K c) m) fd ps sp ∧ Binds K fd ps []
  cl : Cls K (He.ga K c)
  me : Meth K (He.ga K c) m (He.ma K (He.ga K c) m)
structure Pf (k : Nat) (c m : Str) (sp : Sp) : Prop where
  cl : Cls K (He.ga K c)
  ex : ∃ (p g : Addr) (fd : FuncData), PropOf K (He.ga K c) m p g ∧ FnOk P w K mg base CX0 k g fd ["self"] sp ∧ Binds K fd ["self"] []
structure Kf (k : Nat) (c : Str) (ps : List Str) (sp : Sp) : Prop where
  ex : ∃ fd, FnOk P w K mg base CX0 k (He.ma K (He.ga K c) "__init__") fd ps sp ∧ Binds K fd ps []
  gl : mg c = some (.ref (He.ga K c))
  mkr : Mk K (He.ga K c) (He.ma K (He.ga K c) "__init__")
end
section
variable {X : Cx} {k j : Nat} {x c m : Str} {ps ks : List Str} {ji : List Nat} {sp : Sp} {p pos apos : Pos} {e o : Expr} {es : List Expr} {kws : List Keyword} {t tk : TA} {ta : TE}
theorem pcall (D : Df X.prog X.w X.K X.mg X.base k x ps sp) (hr : Room j X.A) (ha : PA X (e :: es) t) (hj : k ≤ j := by decide) (hg : Gl X x := by rfl) (hdb : (x == ("__debug__" : Str)) = false := by decide)
    (he : starEach (e :: es) X.env = (false, eval e X.env) :: starEach es X.env := by rfl) (hpl : (backTo pos (starEach es X.env)).any (·.1) = false := by rfl) :
    PE X (.Call (.Name x p) (e :: es) [] pos) (tCall sp [] E0 t) := by
  obtain ⟨fd, F, b⟩ := D.ex
  exact pe_call F (hr.mono hj) hg D.gl D.kp b .nil pass0 ha hdb he hpl
theorem pcallG (D : DfG X.prog X.w X.K X.mg X.base k x ps sp) (hr : RoomG j X.A) (ha : PA X (e :: es) t) (hj : k ≤ j := by decide) (hg : Gl X x := by rfl) (hdb : (x == ("__debug__" : Str)) = false := by decide)
    (he : starEach (e :: es) X.env = (false, eval e X.env) :: starEach es X.env := by rfl) (hpl : (backTo pos (starEach es X.env)).any (·.1) = false := by rfl) :
    PE X (.Call (.Name x p) (e :: es) [] pos) (tCall sp [] E0 t) := by
  obtain ⟨fd, F, b⟩ := D.ex
  exact pe_callG F (hr.mono hj) hg D.gl D.kp b .nil pass0 ha hdb he hpl
def tKw (sp : Sp) (n : Nat) (j : List Nat) (tk : TA) : TE := fun σ H Q => tk σ H fun zs H2 => zs.length = n ∧ sp (j.filterMap fun i => zs[i]?) H2 Q E0
theorem vals_pick {zs : List V} {ws : List Value} (r : Vals zs ws) : ∀ j : List Nat, Vals (j.filterMap fun i => zs[i]?) (j.filterMap fun i => ws[i]?)
  | [] => .nil
  | i :: j => by
    rw [List.filterMap_cons, List.filterMap_cons]
    cases e : zs[i]? with
    | none =>
      rw [r.none_of e]
      exact vals_pick r j
    | some z =>
      obtain ⟨u, hu, ru⟩ := r.get e
      rw [hu]
      exact .cons ru (vals_pick r j)
theorem pcallK (D : DfK X.prog X.w X.K X.mg X.base k x ps ks ji sp) (hr : Room j X.A) (hkw : PK X kws tk) (hj : k ≤ j := by decide) (hg : Gl X x := by rfl)
    (hall : (backToKw pos (keywordEach kws X.env)).all (·.1.isSome) = true := by rfl) (hks : (backToKw pos (keywordEach kws X.env)).filterMap (·.1) = ks := by rfl)
    (hdb : (x == ("__debug__" : Str)) = false := by decide)
    (hpl : ((backTo pos (starEach [] X.env)).any (·.1) || (backToKw pos (keywordEach kws X.env)).any (·.1.isNone)) = false := by rfl) :
    PE X (.Call (.Name x p) [] kws pos) (tKw sp ks.length ji tk) := by
  obtain ⟨fd, F, b⟩ := D.ex
  refine ⟨fun pins s σ H Q I h => wpAny_Call_Name_kw (ld_glob I hg D.gl ?_ hdb)⟩
  refine PySem.W.callWith_KW0 (h₀ := X.base) I.ok.mod.kin D.kp hall (thn (hkw.run pos pins s σ H _ I h) fun ws s2 ⟨zs, H2, I2, rz, l2, q2⟩ => ⟨I2.kIn, ?_⟩) hpl
  rw [hks]
  refine wpAny_call (codeAny_mono (F.run X.A X.stack s2 H2 ⟨[], ks.zip ws⟩ _ _ Q E0 (hr.mono hj) I2.env0 (b s2 ws (rz.length.symm.trans l2)) (vals_pick rz ji) q2) fun r s' hq => ?_)
  match r, hq with
  | .ok (.ret u), hq => exact I2.after hq
theorem pmeth {pl : Sem Bool} (D : Mf X.prog X.w X.K X.mg X.base k c m ps sp) (hr : Room j X.A) (he : PE X o ta) (ha : PA X (e :: es) t) (hj : k ≤ j := by decide)
    (hst : starEach (e :: es) X.env = (false, eval e X.env) :: starEach es X.env := by rfl) (hpl : (backTo pos (starEach es X.env)).any (·.1) = false := by rfl)
    (ht : eval (.Call (.Attribute o m apos) (e :: es) [] pos) X.env = (do
      let ov ← eval o X.env
      standAt apos.atName
      let (f, first) ← holding [ov] (getMethod ov m pl)
      callWith pos f first (backTo pos (starEach (e :: es) X.env)) (backToKw pos (keywordEach [] X.env))) := by rfl) :
    PE X (.Call (.Attribute o m apos) (e :: es) [] pos) (tMeth (He.ga X.K c) m sp [] E0 ta t) := by
  obtain ⟨fd, F, b⟩ := D.ex
  exact pe_meth he D.cl D.me F (hr.mono hj) b .nil pass0 ha hst hpl ht
theorem pmeth0 {pl : Sem Bool} (D : Mf X.prog X.w X.K X.mg X.base k c m ps sp) (hr : Room j X.A) (he : PE X o ta) (hj : k ≤ j := by decide)
    (ht : eval (.Call (.Attribute o m apos) [] [] pos) X.env = (do
      let ov ← eval o X.env
      standAt apos.atName
      let (f, first) ← holding [ov] (getMethod ov m pl)
      callWith pos f first (backTo pos (starEach [] X.env)) (backToKw pos (keywordEach [] X.env))) := by rfl) :
    PE X (.Call (.Attribute o m apos) [] [] pos) (tMeth (He.ga X.K c) m sp [] E0 ta tNil) := by
  obtain ⟨fd, F, b⟩ := D.ex
  exact pe_meth0 he D.cl D.me F (hr.mono hj) b .nil pass0 ht
theorem pprop (D : Pf X.prog X.w X.K X.mg X.base k c m sp) (hr : Room j X.A) (he : PE X o ta) (hj : k + 1 ≤ j := by decide) (hab : attributeBase o m X.env (eval o X.env) = eval o X.env := by rfl) :
    PE X (.Attribute o m pos) (tProp (He.ga X.K c) sp [] E0 ta) := by
  obtain ⟨p, g, fd, hp, F, b⟩ := D.ex
  exact pe_prop he D.cl hp F (hr.mono hj) b .nil pass0 hab
theorem pmake (D : Kf X.prog X.w X.K X.mg X.base k c ps sp) (hr : Room j X.A) (ha : PA X (e :: es) t) (hj : k + 1 ≤ j := by decide) (hg : Gl X c := by rfl) (hdb : (c == ("__debug__" : Str)) = false := by decide)
    (he : starEach (e :: es) X.env = (false, eval e X.env) :: starEach es X.env := by rfl) (hpl : (backTo pos (starEach es X.env)).any (·.1) = false := by rfl) :
    PE X (.Call (.Name c p) (e :: es) [] pos) (tMake (He.ga X.K c) sp [] E0 t) := by
  obtain ⟨fd, F, b⟩ := D.ex
  exact pe_make D.mkr F (hr.mono hj) hg D.gl b .nil pass0 ha hdb he hpl
end
end Ex

set_option Elab.async false
set_option linter.all false
set_option maxRecDepth 100000
set_option maxHeartbeats 4000000
/-! Own layer: data of any depth, dicts among it, as repr shows it. -/
namespace Ex
open PySem PySem.Spec PyProof.Rows L2 Gu
mutual
inductive Dq (K : PySem.W.Frag) (H : Hp) : V → PyData → Prop
  | non : Dq K H .non .none
  | bl (b : Bool) : Dq K H (.bl b) (.bool b)
  | int (i : Int) : Dq K H (.int i) (.int i)
  | str (x : Str) : Dq K H (.str x) (.str x)
  | lst {a : Addr} {xs : List V} {ds : List PyData} : SqL K H a xs → DqAll K H xs ds → Dq K H (.ref a) (.list ds)
  | tup {a : Addr} {xs : List V} {ds : List PyData} : SqT K H a xs → DqAll K H xs ds → Dq K H (.ref a) (.tuple ds)
  | dct {a : Addr} {kvs : List (Key × V)} {ds : List (PyData × PyData)} : H a = some (.dK kvs) → DqAll K H (kvs.map fun p => kV p.1) (ds.map (·.1)) → DqAll K H (kvs.map (·.2)) (ds.map (·.2)) → Dq K H (.ref a) (.dict ds)
inductive DqAll (K : PySem.W.Frag) (H : Hp) : List V → List PyData → Prop
  | nil : DqAll K H [] []
  | cons {v : V} {vs : List V} {d : PyData} {ds : List PyData} : Dq K H v d → DqAll K H vs ds → DqAll K H (v :: vs) (d :: ds)
end
/-- the table of modules stands in the written part: no list lies there -/
def SysOk (K : PySem.W.Frag) : Prop := ∃ o, K.lookup sysModules = some o ∧ o.cls ≠ .type "list"
section
variable {X : Cx} {pins : List (Addr × Obj)} {σ : L2.St} {H : Hp} {s : Shared}
theorem key_rel {k : Key} {v : Value} (h : keyIs k v = true) : RelV (kV k) v := by
  rcases keyIs_shape h with ⟨i, t, rfl, rfl⟩ | ⟨x, t, rfl, rfl⟩
  · exact ⟨t, rfl⟩
  · exact ⟨t, rfl⟩
theorem not_sys {a : Addr} {o : Obj} (hs : SysOk X.K) (I : Inv X pins σ H s) (ho : s.heap.get? a = some o) (hc : o.cls = .type "list") : a ≠ sysModules := fun z => by
  obtain ⟨u, e, n⟩ := hs
  have h2 := I.kIn _ _ e
  rw [z, h2] at ho
  rw [Option.some.inj ho] at n
  exact n hc
theorem pairs_rel {es : List DictEntry} {vs : List (Key × Value)} (h : Pairs (mixKind X.prog X.w) es vs) : ∀ {kvs : List (Key × V)}, KV kvs vs → Vals (kvs.map fun p => kV p.1) (es.map (·.key)) ∧ Vals (kvs.map (·.2)) (es.map (·.val)) := by
  induction h with
  | nil =>
    intro kvs r
    cases r
    exact ⟨.nil, .nil⟩
  | @cons e kv es vs h1 h2 h3 ih =>
    intro kvs r
    cases r with
    | @cons p _ l _ r1 r2 =>
      obtain ⟨i1, i2⟩ := ih r2
      have k1 : RelV (kV p.1) e.key := by
        rw [r1.1]
        exact key_rel h1
      have k2 : RelV p.2 e.val := by
        rw [h2]
        exact r1.2
      exact ⟨.cons k1 i1, .cons k2 i2⟩
mutual
theorem Dq.reads (hs : SysOk X.K) (I : Inv X pins σ H s) : ∀ {v : V} {d : PyData}, Dq X.K H v d → ∀ u, RelV v u → ∃ as, Reads s.heap u d as ∧ sysModules ∉ as
  | _, _, .non, u, r => by
    cases r
    exact ⟨_, Reads.none, List.not_mem_nil⟩
  | _, _, .bl b, u, r => by
    cases r
    exact ⟨_, Reads.bool b, List.not_mem_nil⟩
  | _, _, .int i, u, r => by
    obtain ⟨t, rfl⟩ := r
    exact ⟨_, Reads.int i t, List.not_mem_nil⟩
  | _, _, .str x, u, r => by
    obtain ⟨t, rfl⟩ := r
    exact ⟨_, Reads.str x t, List.not_mem_nil⟩
  | _, _, .lst (a := a) hq ha, u, r => by
    cases r
    obtain ⟨its, rv, ⟨o, n, ho, hc, _, hd⟩, _⟩ := I.list hq
    obtain ⟨as, hr, na⟩ := Dq.readsAll hs I ha its rv
    refine ⟨_, Reads.list ho hc hd hr, fun hm => ?_⟩
    rcases List.mem_cons.mp hm with z | z
    · exact not_sys hs I ho hc z.symm
    · exact na z
  | _, _, .tup (a := a) hq ha, u, r => by
    cases r
    obtain ⟨its, rv, ⟨o, ho, hc, n, hd⟩, _⟩ := I.tuple hq
    obtain ⟨as, hr, na⟩ := Dq.readsAll hs I ha its rv
    exact ⟨_, Reads.tuple ho hc hd hr, na⟩
  | _, _, .dct (a := a) (kvs := kvs) hq h1 h2, u, r => by
    cases r
    obtain ⟨_, ns, vs, rk, o, es, ep, ho, hx, hd, _, hp, _⟩ := (show ObjOk X.prog X.w H s.heap a (.dK kvs) from I.hok a _ hq)
    obtain ⟨r1, r2⟩ := pairs_rel hp rk
    obtain ⟨as, q1, n1⟩ := Dq.readsAll hs I h1 _ r1
    obtain ⟨bs, q2, n2⟩ := Dq.readsAll hs I h2 _ r2
    refine ⟨_, Reads.dict ho hx.1 hd q1 q2, fun hm => ?_⟩
    rcases List.mem_append.mp hm with z | z
    · rcases List.mem_cons.mp z with z | z
      · rw [← z, beq_self_eq_true] at ns
        cases ns
      · exact n1 z
    · exact n2 z
theorem Dq.readsAll (hs : SysOk X.K) (I : Inv X pins σ H s) : ∀ {vs : List V} {ds : List PyData}, DqAll X.K H vs ds → ∀ us : List Value, Vals vs us → ∃ as, ReadsAll s.heap us ds as ∧ sysModules ∉ as
  | _, _, .nil, us, r => by
    cases r
    exact ⟨_, ReadsAll.nil, List.not_mem_nil⟩
  | _, _, .cons h1 h2, us, r => by
    cases r with
    | cons r1 r2 =>
      obtain ⟨as, q1, n1⟩ := Dq.reads hs I h1 _ r1
      obtain ⟨bs, q2, n2⟩ := Dq.readsAll hs I h2 _ r2
      refine ⟨_, ReadsAll.cons q1 q2, fun hm => ?_⟩
      rcases List.mem_append.mp hm with z | z
      · exact n1 z
      · exact n2 z
end
end
section
variable {X : Cx} {k : Nat}
/-- repr of any data -/
def rReprQ (K : PySem.W.Frag) : List V → Hp → VK → Prop := fun xs H Q => ∃ (v : V) (d : PyData), xs = [v] ∧ Dq K H v d ∧ d.showable = true ∧ d.depth ≤ 60 ∧ d.shown.length ≤ sizeLine ∧ Q (.str d.shown) H
theorem call_reprQ (hr : RoomG k X.A) (hs : SysOk X.K) : CallR X (.builtin "repr") (rReprQ X.K) := by
  intro pins s σ H xs us Q I r h
  obtain ⟨v, d, rfl, hd, hsh, hdep, hz, q⟩ := h
  obtain ⟨u, rfl, ru⟩ := vals1 r
  obtain ⟨as, rd, na⟩ := Dq.reads hs I hd u ru
  have hu := hr.r.units
  cases hd with
  | non =>
    cases ru
    exact PySem.P.repr_of_none ⟨.str _, H, I.tok _, ⟨_, rfl⟩, by simpa only [PyData.shown] using q⟩
  | bl b =>
    cases ru
    exact PySem.P.repr_of_bool ⟨.str _, H, I.tok _, ⟨_, rfl⟩, by simpa only [PyData.shown] using q⟩
  | int i =>
    obtain ⟨t, rfl⟩ := ru
    exact PySem.P.repr_of_int (by simpa [PyData.showable] using hsh) ⟨.str _, H, I.tok _, ⟨_, rfl⟩, by simpa only [PyData.shown] using q⟩
  | str x =>
    obtain ⟨t, rfl⟩ := ru
    exact PySem.P.repr_of_str ⟨.str _, H, I.tok _, ⟨_, rfl⟩, by simpa only [PyData.shown] using q⟩ (by simpa only [PyData.shown] using hz)
  | @lst a xs ds hq ha =>
    obtain rfl : u = Value.ref a := ru
    exact repr_of_reads' rd hsh (fun _ => na) hr.g (by omega) (fun _ _ e => e) (fun h' u tk hk => ⟨.str _, H, I.kept hk, ⟨u, rfl⟩, q⟩) hz
  | @tup a xs ds hq ha =>
    obtain rfl : u = Value.ref a := ru
    exact repr_of_reads' rd hsh (fun _ => na) hr.g (by omega) (fun _ _ e => e) (fun h' u tk hk => ⟨.str _, H, I.kept hk, ⟨u, rfl⟩, q⟩) hz
  | @dct a kvs ds hq h1 h2 =>
    obtain rfl : u = Value.ref a := ru
    exact repr_of_reads' rd hsh (fun _ => na) hr.g (by omega) (fun _ _ e => e) (fun h' u tk hk => ⟨.str _, H, I.kept hk, ⟨u, rfl⟩, q⟩) hz
/-- x is not True, x is not False, of any scalar -/
def rNotBA : R2 := fun x y H Q => ∃ b : Bool, y = .bl b ∧ ((∃ a : Bool, x = .bl a ∧ Q (.bl (!decide (a = b))) H) ∨ (∃ i : Int, x = .int i ∧ Q (.bl true) H))
theorem op_notBA : OpR X (compareOp .IsNot) rNotBA := by
  intro pins s σ H x y v u Q I rx ry h
  obtain ⟨b, rfl, h⟩ := h
  rcases h with ⟨a, rfl, q⟩ | ⟨i, rfl, q⟩
  · exact op_notBl pins s σ H _ _ v u Q I rx ry ⟨a, b, rfl, rfl, q⟩
  · cases (show u = Value.bool b from ry)
    obtain ⟨t, rfl⟩ := (show ∃ t, v = Value.int i t from rx)
    exact wpAny_isNot_other rfl (fun z => nomatch z) ⟨.bl true, H, I, rfl, q⟩
end
end Ex

set_option Elab.async false
set_option linter.all false
set_option maxRecDepth 100000
set_option maxHeartbeats 4000000
/-! Own layer: isinstance of a caught error that has a dict of its own; errors with fields, raised. -/
namespace Ex
open PySem PySem.Spec PySem.Calls PyProof.Rows L2 Gu
section
variable {prog : Program} {w : World} {A : Around} {E : Value → Shared → Prop} {s : Shared} {K : PySem.W.Frag} {x D : Addr} {ox od : Obj}
theorem class_of_exc {Q : Option Value → Shared → Prop} (c : ExcC K D) (X : K.In s.heap) (I : PySem.W.InstAt s.heap x ox D (some od)) (h : Q (some (.ref D)) { s with toks := s.toks + 1 }) :
    wpAny (model prog w) A (getAttr? (.ref x) "__class__") Q E s := by
  have found : PySem.W.findObj K D (some od) "__class__" = some (.bind (.builtin "getset_descriptor.__get__") (.builtin "object.__class__")) :=
    PySem.W.findObj_data (by obtain ⟨cd, e, _⟩ := PySem.W.any_some c.hd; rw [e]; rfl) c.ha c.hn c.ht
  obtain ⟨hp, g, d, t, os⟩ := s
  have lt := I.type (M := model prog w)
  have lg := PySem.W.looks_findIn (M := model prog w) X c.hg
  have lk := PySem.W.looks_findIn (M := model prog w) X c.hk
  have lf := PySem.W.looks_find (M := model prog w) X I found
  have other : (onTheHeap (Value.ref D) && Value.builtin "BaseException.__getattribute__" == Value.builtin "object.__getattribute__") = false := by
    rw [show (Value.builtin "BaseException.__getattribute__" == Value.builtin "object.__getattribute__") = false by decide +kernel]
    rfl
  unfold getAttr? getAttrBy? getAttrBy
  refine wpAny_bind (wpAny_mkText (wpAny_bind (wpAny_attempt (wpAny_holding (wpAny_bind (lt.at (wpAny_bind (lg.at ?own))))))))
  case own =>
    show wpAny _ _ (if (onTheHeap (Value.ref D) && Value.builtin "BaseException.__getattribute__" == Value.builtin "object.__getattribute__") = true then _ else _) _ _ _
    rw [other, if_neg Bool.false_ne_true]
    unfold getAttrByItsOwn hookBefore
    refine wpAny_bind ?_
    rw [if_pos (show onTheHeap (Value.ref D) = true from rfl)]
    refine lk.at (wpAny_bind (wpAny_attempt (wpAny_holding ?_)))
    unfold callGetattribute
    rw [show (false && onTheHeap (Value.builtin "BaseException.__getattribute__")) = false from rfl, if_neg Bool.false_ne_true]
    unfold boundAndCalled
    rw [PySem.F.excAttr_ValueError.ga.bind (.ref x)]
    refine wpAny_bind (wpAny_pure ?_)
    show wpAny _ _ (call (.builtin "BaseException.__getattribute__") [.ref x, .str "__class__" t]) _ _ _
    refine wpAny_call (codeAny_call_builtin PySem.F.excAttr_ValueError.ga.plain PySem.F.entry_bexc_ga
      (@PySem.W.check_slot (model prog w) _ _ ⟨hp, g, d, t + 1, os⟩ "BaseException.__getattribute__" "BaseException" "__getattribute__" (.ref x) [.str "__class__" t] [] _
        (by decide +kernel) (by decide +kernel) (lt.andThen (PySem.W.looks_subIn X c.hs)) (PySem.F.args_bexc_ga (.ref x) (.str "__class__" t)) ?_))
    unfold Builtin.«object.__getattribute__»
    refine wpAny_bind (wpAny_of_eq (a := ((Value.ref x : Value), [Value.str "__class__" t])) (by first | rfl | (simp only [slotArgs]; rfl)) (wpAny_bind (wpAny_pure (wpAny_bind (lt.at (wpAny_bind (lf.at ?_)))))))
    show wpAny _ _ (holding [Value.builtin "object.__class__"] (call (.builtin "getset_descriptor.__get__") [.builtin "object.__class__", .ref x, .ref D]) >>= ret) _ _ _
    refine wpAny_bind (wpAny_holding (wpAny_call (PySem.W.class_get (s := ⟨hp, g, d, t + 1, os⟩) (ox := ox) (od := some od) X I c.hm (wpAny_pure ?_))))
    show wpAny _ _ (handedOut (.ref D)) _ _ _
    rw [PySem.W.handedOut_of (v := .ref D) rfl]
    first
      | exact wpAny_pure (wpAny_pure h)
      | exact wpAny_pure h
      | exact wpAny_pure (wpAny_bind (wpAny_pure (wpAny_pure h)))
theorem kitx_exc (c : ExcC K D) : PySem.W.KitX K (.ref x) (.ref D) (fun h => PySem.W.InstAt h x ox D (some od)) where
  ty := fun _ _ _ I => I.type
  it := fun _ _ X _ => by
    obtain ⟨cd, e, _⟩ := PySem.W.any_some c.hd
    unfold PySem.W.clsIn at e
    split at e
    · rename_i ho
      exact fun A' Q' E' s' k q => by
        unfold isType loadHead
        exact wpAny_bind (wpAny_loadPart (k _ _ (X _ _ ho)) (wpAny_pure q))
    · cases e
  ne := fun h tp dd its n sl X htp => by
    obtain ⟨cd, e, _⟩ := PySem.W.any_some c.hd
    cases q : (Value.ref D == Value.ref tp) with
    | false => rfl
    | true =>
      have z : D = tp := Value.ref.inj (beq_iff_eq.mp q)
      rw [← z] at htp
      unfold PySem.W.clsIn at e
      split at e
      · rename_i ho
        have y := (X _ _ ho).symm.trans htp
        cases y
      · cases e
  ca := fun X I k => class_of_exc c X I k
end
section
variable {X : Cx} {a D : Addr} {oe : Obj} {d : Addr} {pn : List (Addr × Obj)}
/-- the caught error as the machine sees it -/
theorem inst_exc {pins : List (Addr × Obj)} {σ : L2.St} {H : Hp} {s : Shared} {fs : List (Str × V)} (I : Inv (X.suite a ((a, oe) :: pn)) pins σ H s) (hz : Zc (.ref D) (some d) oe) (hf : ∃ vs, oe.data = .fields vs) (hd : H d = some (.xd fs)) :
    ∃ od, PySem.W.InstAt s.heap a oe D (some od) := by
  obtain ⟨hget, _⟩ := I.pin (a, oe) (List.mem_append_left _ List.mem_cons_self)
  obtain ⟨vs, hv⟩ := hf
  obtain ⟨mA, hns, _⟩ := (show ObjOk X.prog X.w H s.heap d (.xd fs) from I.hok d _ hd)
  obtain ⟨od, ho, _⟩ := lookIn_ns hns
  exact ⟨od, hget, hz.1, by unfold PySem.W.notCls; rw [hv] <;> rfl, by rw [hz.2]; exact ho⟩
/-- isinstance(e, c) -/
def rIsX (K : PySem.W.Frag) (D a : Addr) (cls : Value) (d : Option Addr) : List V → Hp → VK → Prop := fun xs H Q => ∃ (c : V) (u : Value) (b : Bool) (dd : Addr) (fs : List (Str × V)), xs = [.ref a, c] ∧ cls = .ref D ∧ d = some dd ∧ ClsV c u ∧ H dd = some (.xd fs) ∧ PySem.W.kitOne K (.ref D) u = some b ∧ Q (.bl b) H
theorem call_isX {cls : Value} {d : Option Addr} (c : ExcC X.K D) (hz : Zc cls d oe) (hf : ∃ vs, oe.data = .fields vs) : CallR (X.suite a ((a, oe) :: pn)) (.builtin "isinstance") (rIsX X.K D a cls d) := by
  intro pins s σ H xs us Q I r h
  obtain ⟨cv, u, b, dd, fs, rfl, rfl, rfl, k, hd, e, q⟩ := h
  obtain ⟨u1, u2, rfl, r1, r2⟩ := vals2 r
  obtain rfl : u1 = Value.ref a := r1
  have e2 := k.eq r2
  subst e2
  obtain ⟨od, J⟩ := inst_exc I hz hf hd
  exact PySem.W.kia_one (kitx_exc c) I.kIn J e (fun z => nomatch z) fun tk => ⟨.bl b, H, I.tok tk, rfl, q⟩
/-- isinstance(e, (c1, c2, ..)) -/
def rIsXT (K : PySem.W.Frag) (D a : Addr) (cls : Value) (d : Option Addr) : List V → Hp → VK → Prop := fun xs H Q => ∃ (tp : Addr) (cs : List V) (us : List Value) (b : Bool) (dd : Addr) (fs : List (Str × V)), xs = [.ref a, .ref tp] ∧ cls = .ref D ∧ d = some dd ∧
  H tp = some (.tup cs) ∧ Paired ClsV cs us ∧ H dd = some (.xd fs) ∧ PySem.W.kitAny K (.ref D) us = some b ∧ Q (.bl b) H
theorem call_isXT {cls : Value} {d : Option Addr} (c : ExcC X.K D) (hz : Zc cls d oe) (hf : ∃ vs, oe.data = .fields vs) : CallR (X.suite a ((a, oe) :: pn)) (.builtin "isinstance") (rIsXT X.K D a cls d) := by
  intro pins s σ H xs us Q I r h
  obtain ⟨tp, cs, ws, b, dd, fs, rfl, rfl, rfl, hT, k, hd, e, q⟩ := h
  obtain ⟨u1, u2, rfl, r1, r2⟩ := vals2 r
  obtain rfl : u1 = Value.ref a := r1
  obtain rfl : u2 = Value.ref tp := r2
  obtain ⟨od, J⟩ := inst_exc I hz hf hd
  obtain ⟨_, its, rv, o, h1, h2, n, h3⟩ := (show ObjOk X.prog X.w H s.heap tp (.tup cs) from I.hok tp _ hT)
  have e3 := ClsV.all k rv
  subst e3
  obtain ⟨oc, odd, dt, sl⟩ := o
  simp only at h2 h3
  subst h2 h3
  exact PySem.W.kia_tup (kitx_exc c) I.kIn J h1 e (fun z => nomatch z) fun tk => ⟨.bl b, H, I.tok tk, rfl, q⟩
end
section
variable {X : Cx}
/-- repr of any data, also while an error is handled -/
theorem call_reprH (hg : X.A.guards = some []) (hu : X.A.units + 64 < cLine) (hs : SysOk X.K) : CallR X (.builtin "repr") (rReprQ X.K) := by
  intro pins s σ H xs us Q I r h
  obtain ⟨v, d, rfl, hd, hsh, hdep, hz, q⟩ := h
  obtain ⟨u, rfl, ru⟩ := vals1 r
  obtain ⟨as, rd, na⟩ := Dq.reads hs I hd u ru
  have viaRef : ∀ {a : Addr}, u = Value.ref a → wpAny (model X.prog X.w) X.A (call (.builtin "repr") [u]) (EP X pins σ Q) X.xe s := fun {a} e => by
    subst e
    exact repr_of_reads' rd hsh (fun _ => na) hg (by omega) (fun _ _ e => e) (fun h' u tk hk => ⟨.str _, H, I.kept hk, ⟨u, rfl⟩, q⟩) hz
  cases hd with
  | non =>
    cases ru
    exact PySem.P.repr_of_none ⟨.str _, H, I.tok _, ⟨_, rfl⟩, by simpa only [PyData.shown] using q⟩
  | bl b =>
    cases ru
    exact PySem.P.repr_of_bool ⟨.str _, H, I.tok _, ⟨_, rfl⟩, by simpa only [PyData.shown] using q⟩
  | int i =>
    obtain ⟨t, rfl⟩ := ru
    exact PySem.P.repr_of_int (by simpa [PyData.showable] using hsh) ⟨.str _, H, I.tok _, ⟨_, rfl⟩, by simpa only [PyData.shown] using q⟩
  | str x =>
    obtain ⟨t, rfl⟩ := ru
    exact PySem.P.repr_of_str ⟨.str _, H, I.tok _, ⟨_, rfl⟩, by simpa only [PyData.shown] using q⟩ (by simpa only [PyData.shown] using hz)
  | lst hq ha => exact viaRef ru
  | tup hq ha => exact viaRef ru
  | dct hq h1 h2 => exact viaRef ru
end
end Ex

set_option Elab.async false
set_option linter.all false
set_option maxRecDepth 100000
set_option maxHeartbeats 4000000
/-! Own layer: len(o) by an own __len__; what repr shows, within bounds; both law-free. -/
namespace Ex
open PySem PySem.Spec PySem.Calls PyProof.Rows L2 Gu
section
variable {X : Cx} {k j : Nat} {c : Str} {ps : List Str} {sp : Sp}
/-- len(o) by the class's own __len__ -/
def rLenO (C : Addr) (sp : Sp) : List V → Hp → VK → Prop := fun xs H Q => ∃ (a dx : Addr) (fs : List (Str × V)), xs = [.ref a] ∧ H a = some (.ins C dx fs) ∧ sp [.ref a] H (fun v H' => ∃ n : Nat, v = .int n ∧ n ≤ sizeLine ∧ Q (.int n) H') E0
theorem call_lenO (D : Mf X.prog X.w X.K X.mg X.base k c "__len__" ps sp) (hr : Room j X.A) (hj : k + 1 ≤ j := by decide) : CallR X (.builtin "len") (rLenO (He.ga X.K c) sp) := by
  intro pins s σ H xs us Q I r h
  obtain ⟨a, dx, fs, rfl, ha, hq⟩ := h
  obtain ⟨u, rfl, ru⟩ := vals1 r
  obtain rfl : u = Value.ref a := ru
  obtain ⟨fd, F, b⟩ := D.ex
  obtain ⟨mA, J, _⟩ := ins_get I.hok ha
  obtain ⟨od, J, _⟩ := J.look
  have rm : Room k X.A.in1 := (hr.mono hj).in1
  refine Calls.call_function_entry kind_len plain_len entry_len (args_len1 _) ?_
  unfold Builtin.«len»
  refine wpAny_bind (m := oneArg "len" _) (wpAny_pure ?_)
  refine wpAny_bind (m := callSpecial? (.ref a) (Str.ofString "__len__")) (PySem.W.special_fn (name := Str.ofString "__len__") (args := []) I.kIn J D.me.at_ (beq_iff_eq.mp D.me.fn) ?_)
  have e0 : Env0 X.prog X.w X.K X.mg X.base X.A.in1 X.stack s H := by
    have e := I.env0
    exact ⟨e.frames, e.mod, e.bs, e.bsz, e.funs, e.frf, e.hok, e.bare⟩
  have hl := F.len _ _ _ _ hq
  refine wpAny_call (codeAny_mono (F.run X.A.in1 X.stack s H ⟨[.ref a], []⟩ [.ref a] [.ref a] _ E0 rm e0 (by
    have := b s [.ref a] I.kIn (by simpa using hl)
    simpa using this) (.cons rfl .nil) hq) fun r s' hq' => ?_)
  match r, hq' with
  | .ok (.ret u), hq' =>
    obtain ⟨v, H', I', rv, n, rfl, hn, q⟩ := I.after hq'
    obtain ⟨t, rfl⟩ := rv
    have hs : sizeLine = 16777216 := sizeLine_eq
    refine wpAny_bind (wpAny_holding (wpAny_pure ?_))
    refine wpAny_bind (wpAny_letGo ?_)
    show wpAny _ _ (if ((n : Nat) : Int) < 0 then _ else _) _ _ _
    rw [if_neg (by omega)]
    show wpAny _ _ (if ((n : Nat) : Int) ≥ 2 ^ 63 then _ else _) _ _ _
    rw [if_neg (by omega)]
    exact wpAny_bind (wpAny_mkInt (wpAny_pure ⟨_, rfl, ⟨.int n, H', I'.tok _, ⟨_, rfl⟩, q⟩⟩))
end
theorem seqT {K : PySem.W.Frag} {H H' : Hp} {a : Addr} {xs : List V} (e : Same H H') (h : SqT K H a xs) : SqT K H' a xs := by
  rcases h with (h | ⟨o, h⟩) | h
  · exact .inl (.inl (e _ _ h))
  · exact .inl (.inr ⟨o, e _ _ h⟩)
  · exact .inr h
mutual
theorem dq_same {K : PySem.W.Frag} {H H' : Hp} (e : Same H H') : ∀ {v : V} {d : PyData}, Dq K H v d → Dq K H' v d
  | _, _, .non => .non
  | _, _, .bl b => .bl b
  | _, _, .int i => .int i
  | _, _, .str x => .str x
  | _, _, .lst hq ha => .lst (e.seq hq) (dqAll_same e ha)
  | _, _, .tup hq ha => .tup (seqT e hq) (dqAll_same e ha)
  | _, _, .dct hq h1 h2 => .dct (e _ _ hq) (dqAll_same e h1) (dqAll_same e h2)
theorem dqAll_same {K : PySem.W.Frag} {H H' : Hp} (e : Same H H') : ∀ {vs : List V} {ds : List PyData}, DqAll K H vs ds → DqAll K H' vs ds
  | _, _, .nil => .nil
  | _, _, .cons h1 h2 => .cons (dq_same e h1) (dqAll_same e h2)
end
/-- a value as repr shows it: nested at most n deep, at most m signs -/
structure Tq (K : PySem.W.Frag) (H : Hp) (v : V) (d : PyData) (n m : Nat) : Prop where
  dq : Dq K H v d
  sh : d.showable = true
  dp : d.depth ≤ n
  ln : d.shown.length ≤ m
structure TqAll (K : PySem.W.Frag) (H : Hp) (xs : List V) (ds : List PyData) (n m : Nat) : Prop where
  dq : DqAll K H xs ds
  sh : PyData.showableAll ds = true
  dp : PyData.depthAll ds ≤ n
  ln : ((PyData.shownAll ds).map (·.length)).sum + 2 * (PyData.shownAll ds).length ≤ xs.length * (m + 2)
section
variable {K : PySem.W.Frag} {H H' : Hp} {n m : Nat}
theorem Tq.same {v : V} {d : PyData} (t : Tq K H v d n m) (e : Same H H') : Tq K H' v d n m := ⟨dq_same e t.dq, t.sh, t.dp, t.ln⟩
theorem Tq.mono {v : V} {d : PyData} {n' m' : Nat} (t : Tq K H v d n m) (h1 : n ≤ n') (h2 : m ≤ m') : Tq K H v d n' m' := ⟨t.dq, t.sh, Nat.le_trans t.dp h1, Nat.le_trans t.ln h2⟩
theorem TqAll.same {xs : List V} {ds : List PyData} (t : TqAll K H xs ds n m) (e : Same H H') : TqAll K H' xs ds n m := ⟨dqAll_same e t.dq, t.sh, t.dp, t.ln⟩
theorem tq_all : ∀ {xs : List V}, (∀ v ∈ xs, ∃ d, Tq K H v d n m) → ∃ ds, TqAll K H xs ds n m
  | [], _ => ⟨[], .nil, rfl, Nat.zero_le _, Nat.zero_le _⟩
  | v :: xs, h => by
    obtain ⟨d, t⟩ := h v List.mem_cons_self
    obtain ⟨ds, a, b, c, e⟩ := tq_all (xs := xs) fun u hu => h u (List.mem_cons_of_mem _ hu)
    refine ⟨d :: ds, .cons t.dq a, ?_, ?_, ?_⟩
    · show (d.showable && PyData.showableAll ds) = true
      rw [t.sh, b]
      rfl
    · show max d.depth (PyData.depthAll ds) ≤ n
      have := t.dp
      omega
    · show (d.shown.length + ((PyData.shownAll ds).map (·.length)).sum) + 2 * ((PyData.shownAll ds).length + 1) ≤ (xs.length + 1) * (m + 2)
      have := t.ln
      rw [Nat.add_mul, Nat.one_mul]
      omega
theorem TqAll.lst {a : Addr} {xs : List V} {ds : List PyData} (t : TqAll K H xs ds n m) (h : H a = some (.lst xs)) : Tq K H (.ref a) (.list ds) (n + 1) (xs.length * (m + 2) + 3) := by
  refine ⟨.lst (SqL.of h) t.dq, t.sh, ?_, ?_⟩
  · show PyData.depthAll ds + 1 ≤ n + 1
    have := t.dp
    omega
  · have e := listText_len_le (PyData.shownAll ds)
    show (listText (PyData.shownAll ds)).length ≤ _
    have := t.ln
    omega
theorem TqAll.tup {a : Addr} {xs : List V} {ds : List PyData} (t : TqAll K H xs ds n m) (h : H a = some (.tup xs)) : Tq K H (.ref a) (.tuple ds) (n + 1) (xs.length * (m + 2) + 3) := by
  refine ⟨.tup (SqT.of h) t.dq, t.sh, ?_, ?_⟩
  · show PyData.depthAll ds + 1 ≤ n + 1
    have := t.dp
    omega
  · have e := tupleText_len_le (PyData.shownAll ds)
    show (tupleText (PyData.shownAll ds)).length ≤ _
    have := t.ln
    omega
theorem tq_non : Tq K H .non .none 0 41 := ⟨.non, rfl, Nat.le_refl _, by decide +kernel⟩
theorem tq_bl (b : Bool) : Tq K H (.bl b) (.bool b) 0 41 := ⟨.bl b, rfl, Nat.le_refl _, by cases b <;> decide +kernel⟩
theorem tq_int {i : Int} (h1 : -(10 ^ 39) ≤ i) (h2 : i ≤ 10 ^ 39) : Tq K H (.int i) (.int i) 0 41 := by
  have b39 : (10 : Int) ^ 39 = 1000000000000000000000000000000000000000 := by decide
  have e : i.natAbs < 10 ^ 40 := by
    have z : (10 : Nat) ^ 40 = 10000000000000000000000000000000000000000 := by decide
    omega
  have a : i.natAbs.log2 < 1920 := Nat.lt_of_lt_of_le (PySem.Flt.log2_lt_of (k := 200) (by decide) (Nat.lt_trans e (by decide))) (by decide)
  refine ⟨.int i, decide_eq_true a, Nat.le_refl _, ?_⟩
  have z := int_text_length_le10 (k := 40) (by decide) e
  show (Str.ofString (toString i)).length ≤ 41
  rw [PySem.ofString_length]
  exact z
theorem tq_text (z : String) (h : (reprText (Str.ofString z)).length ≤ 41) : Tq K H (.str (Str.ofString z)) (.str (Str.ofString z)) 0 41 := ⟨.str _, rfl, Nat.le_refl _, h⟩
theorem tq_dct {a : Addr} (h : H a = some (.dK [])) : Tq K H (.ref a) (.dict []) 1 41 := ⟨.dct h .nil .nil, rfl, by decide, by decide +kernel⟩
end
theorem code_lt {z : String} {c : Nat} (hc : c ∈ (Str.ofString z).cps.toList) : c < 1114112 := by
  have hc2 : c ∈ z.toList.map Char.toNat := by
    rw [← cpsOfBytes_string]
    simpa [Str.ofString] using hc
  obtain ⟨ch, _, rfl⟩ := List.mem_map.mp hc2
  have v : ch.val.toNat < 55296 ∨ (57343 < ch.val.toNat ∧ ch.val.toNat < 1114112) := ch.valid
  show ch.val.toNat < 1114112
  omega
/-- repr of such a value -/
theorem repr_tq {K : PySem.W.Frag} {H : Hp} {v : V} {d : PyData} {n m : Nat} {Q : VK} (t : Tq K H v d n m) (q : Q (.str d.shown) H) (hn : n ≤ 60 := by decide) (hm : m ≤ sizeLine := by decide) : rReprQ K [v] H Q :=
  ⟨v, d, rfl, t.dq, t.sh, Nat.le_trans t.dp hn, Nat.le_trans t.ln hm, q⟩
end Ex

set_option Elab.async false
set_option linter.all false
set_option maxRecDepth 100000
set_option maxHeartbeats 4000000
/-! Own layer: a == b by an own __eq__ that answers True or False; len(set(xs)) of ints that may be equal. -/
namespace Ex
open PySem PySem.Spec PySem.Calls PyProof.Rows L2 Gu
/-- a class's own == -/
structure EqOf (P : Program) (w : World) (K : PySem.W.Frag) (mg : Str → Option Value) (base : Heap) (k : Nat) (c : Str) (sp : Sp) : Prop where
  ex : ∃ fd, FnOk P w K mg base CX0 k (He.ma K (He.ga K c) "__eq__") fd ["self", "other"] sp ∧ Binds K fd ["self", "other"] []
  at_ : PySem.W.findIn K (.ref (He.ga K c)) "__eq__" = some (some (.ref (He.ma K (He.ga K c) "__eq__")))
  fn : PySem.W.isFn K (.ref (He.ma K (He.ga K c) "__eq__")) = true
/-- what isinstance asks of an own class, and that it knows itself -/
structure InsOk (K : PySem.W.Frag) (C : Addr) : Prop where
  cl : Cls K C
  ha : PySem.W.findIn K (.ref C) "__class__" = some (some (.builtin "object.__class__"))
  hn : PySem.W.specialIn K (.builtin "object.__class__") "__get__" = some (some (.builtin "getset_descriptor.__get__"))
  ht : PySem.W.takesIn K (.builtin "object.__class__") = some true
  hm : PySem.W.mroIn K C (.type "object") = some true
  ki : PySem.W.kitOne K (.ref C) (.ref C) = some true
def insB (K : PySem.W.Frag) (C : Addr) : Bool := He.eqO (PySem.W.findIn K (.ref C) "__class__") (some (some (.builtin "object.__class__"))) && (He.eqO (PySem.W.specialIn K (.builtin "object.__class__") "__get__") (some (some (.builtin "getset_descriptor.__get__"))) &&
  (decide (PySem.W.takesIn K (.builtin "object.__class__") = some true) && (decide (PySem.W.mroIn K C (.type "object") = some true) && decide (PySem.W.kitOne K (.ref C) (.ref C) = some true))))
theorem insB_ok {K : PySem.W.Frag} {C : Addr} (cl : Cls K C) (h : insB K C = true) : InsOk K C := by
  obtain ⟨h1, h⟩ := He.ba h
  obtain ⟨h2, h⟩ := He.ba h
  obtain ⟨h3, h⟩ := He.ba h
  obtain ⟨h4, h5⟩ := He.ba h
  exact ⟨cl, He.eqO_ok h1, He.eqO_ok h2, of_decide_eq_true h3, of_decide_eq_true h4, of_decide_eq_true h5⟩
theorem InsOk.ty {K : PySem.W.Frag} {C a dx : Addr} {fs : List (Str × V)} {H : Hp} (i : InsOk K C) (e : H a = some (.ins C dx fs)) : TyX K H (.ref a) (.ref C) := .base (.ins e i.cl i.ha i.hn i.ht i.hm)
/-- the facts of an own == by one Bool -/
def eqB (K : PySem.W.Frag) (C : Addr) : Bool := He.eqO (PySem.W.findIn K (.ref C) "__eq__") (some (some (.ref (He.ma K C "__eq__")))) && PySem.W.isFn K (.ref (He.ma K C "__eq__"))
theorem eqB_ok {K : PySem.W.Frag} {C : Addr} (h : eqB K C = true) : PySem.W.findIn K (.ref C) "__eq__" = some (some (.ref (He.ma K C "__eq__"))) ∧ PySem.W.isFn K (.ref (He.ma K C "__eq__")) = true := by
  obtain ⟨h1, h2⟩ := He.ba h
  exact ⟨He.eqO_ok h1, h2⟩
def rOwnEq (C : Addr) (sp : Sp) : R2 := fun x y H Q => ∃ a b dx dy fs gs, x = .ref a ∧ y = .ref b ∧ H a = some (.ins C dx fs) ∧ H b = some (.ins C dy gs) ∧ sp [.ref a, .ref b] H (fun v H' => (∃ t, v = .bl t) ∧ Q v H') E0
section
variable {X : Cx} {k j : Nat} {c : Str} {sp : Sp}
theorem op_own (D : EqOf X.prog X.w X.K X.mg X.base k c sp) (hr : Room j X.A) (hj : k ≤ j := by decide) : OpR X (compareOp .Eq) (rOwnEq (He.ga X.K c) sp) := by
  intro pins s σ H x y u v Q I rx ry ⟨a, b, dx, dy, fs, gs, ex, ey, ha, hb, hsp⟩
  subst ex ey
  obtain rfl : u = Value.ref a := rx
  obtain rfl : v = Value.ref b := ry
  obtain ⟨fd, F, bi⟩ := D.ex
  have hr' := hr.mono hj
  obtain ⟨mA, J, _⟩ := ins_get I.hok ha
  obtain ⟨mB, J', _⟩ := ins_get I.hok hb
  obtain ⟨od, J, _⟩ := J.look
  obtain ⟨od', J', _⟩ := J'.look
  obtain ⟨m, hF⟩ := I.fr
  show wpAny (model X.prog X.w) X.A (richCompare .Eq (.ref a) (.ref b)) (EP X pins σ Q) X.xe s
  refine PySem.W.cmp_K (op := .Eq) (tb := .ref (He.ga X.K c)) hr'.units0 hF I.ok.mod.kin J J'.type (by simp [PySem.W.notFirst]) D.at_ D.fn ?_
  have r2 : Vals [V.ref a, V.ref b] [Value.ref a, Value.ref b] := .cons rfl (.cons rfl .nil)
  have bb := bi s [.ref a, .ref b] I.kIn rfl
  refine wpAny_call (codeAny_mono (F.run X.A X.stack s H ⟨[.ref a, .ref b], []⟩ [.ref a, .ref b] [.ref a, .ref b] _ E0 hr' I.env0 (by simpa using bb) r2 hsp) fun r s' hq => ?_)
  match r, hq with
  | .ok (.ret w), hq =>
    obtain ⟨z, H', I', rz, ⟨t, ez⟩, q⟩ := I.after hq
    subst ez
    cases rz
    exact ⟨.bl t, H', I', rfl, q⟩
/-- how many different ones -/
def diff (ns : List Int) : Nat := (ns.foldl step_dedup []).length
theorem range_get (ns : List Int) : (List.range ns.length).map (fun i => ns.getD i 0) = ns := by
  apply List.ext_getElem?
  intro i
  by_cases h : i < ns.length
  · rw [List.getElem?_map, List.getElem?_range h, List.getElem?_eq_getElem h]
    simp [h]
  · rw [List.getElem?_eq_none (by rw [List.length_map, List.length_range]; omega), List.getElem?_eq_none (by omega)]
def tLenSetD (K : PySem.W.Frag) (ta : TE) : TE := fun σ H Q => ta σ H fun x H1 => ∃ (l : Addr) (ns : List Int), x = V.ref l ∧ SqL K H1 l (ns.map V.int) ∧ ns.length < 64 ∧ Q (.int (diff ns : Nat)) H1
theorem pe_lenSetD {a : Expr} {ta : TE} {p p2 q pos : Pos} (hc : X.calm = true) (hg : Gl X "len") (hm : X.mg "len" = none) (hg2 : Gl X "set") (hm2 : X.mg "set" = none) (ha : PE X a ta)
    (na : starEach [a] X.env = (false, eval a X.env) :: starEach [] X.env := by rfl) : PE X (.Call (.Name "len" p) [.Call (.Name "set" p2) [a] [] q] [] pos) (tLenSetD X.K ta) := by
  refine ⟨fun pins s σ H Q I h => Call_ (ld_blt I hg hm PySem.boot_len (PyProof.Rows.callWith_builtin1 (PyProof.Rows.args_cons (Call_ (ld_blt I hg2 hm2 PyProof.Rows.boot_set ?_)) rfl) rfl rfl))⟩
  refine PyProof.Rows.callWith_type1 (PyProof.Rows.args_cons (thn (ha.run pins s σ H _ I h) fun v s1 ⟨x, H1, I1, r1, l, ns, ex, hq, h1, q1⟩ => PyProof.Rows.args_nil ?_) na) na rfl
  subst ex
  obtain rfl : v = Value.ref l := r1
  obtain ⟨its, r, pl, hz⟩ := I1.list hq
  have hl : its.toArray.size = ns.length := by rw [List.size_toArray, ← r.length, List.length_map]
  refine call_set_list (I1.ok.hd hc) pl.isList (ns := ns) (by simpa using r.ints) (by unfold scanBound; omega) fun h' tk hS hk => PyProof.Rows.args_nil ?_
  have ed : (PyProof.Rows.firstMet (fun i => ns.getD i 0) its.toArray.size).length = diff ns := by
    unfold PyProof.Rows.firstMet diff
    rw [hl, range_get]
  have le : diff ns ≤ ns.length := by
    rw [← ed, ← hl]
    exact PyProof.Rows.firstMet_length_le _ _
  obtain ⟨o, es, ep, t, ho, hex, hd, _, _, _, hf, hn⟩ := hS
  rw [ed] at hn
  exact call_len_set ho hex hd hf (by rw [hn] <;> omega) ⟨.int (diff ns : Nat), H1, (I1.kept fun b o e => hk b o (Heap.lt_size e) e).tok _, ⟨_, by rw [hn]⟩, q1⟩
end
end Ex

set_option Elab.async false
set_option linter.all false
set_option maxRecDepth 100000
set_option maxHeartbeats 4000000
/-! Own layer: a != b by an own __eq__ and object's __ne__. -/
namespace HN
open PySem PySem.Spec PyProof.Rows PySem.SeqAt
section
variable {prog : Program} {w : World} {A : Around} {E : Value → Shared → Prop} {s : Shared} {K : PySem.W.Frag} {x C f : Addr} {b tb : Value} {ox : Obj} {od : Option Obj}
theorem objNe_entry {Q : Fin → Shared → Prop} (X : K.In s.heap) (I : PySem.W.InstAt s.heap x ox C od) (hs : PySem.W.findIn K (.ref C) "__eq__" = some (some (.ref f))) (hf : PySem.W.isFn K (.ref f) = true) (hu : A.units < cLine)
    (hcall : wpAny (model prog w) A (call (.ref f) [.ref x, b]) (fun v s' => ∃ t, v = .bool t ∧ Q (.done (.ret (.bool (!t)))) s') E s) :
    wpAny (model prog w) A (Builtin.«object.__ne__» ⟨[.ref x, b], []⟩) Q E s := by
  unfold Builtin.«object.__ne__»
  repeat (first
    | with_reducible refine wpAny_cRoomFor hu ?_
    | (refine wpAny_bind (m := callSpecialIfBound? (.ref x) (Str.ofString "__eq__") [b])
        (PySem.W.ifBound_K X I hs hf (wpAny_mono hcall (fun r s' hr => by
          obtain ⟨t, rfl, hq⟩ := hr
          repeat (first | exact hq | exact wpAny_pure hq | exact wpAny_truthy_bool hq | (refine wpAny_bind (m := truthy (.bool _)) (wpAny_truthy_bool ?_)) | wp_step)) fun _ _ e => e)))
    | wp_step)
theorem call_objNe {Q : Value → Shared → Prop} (X : K.In s.heap) (I : PySem.W.InstAt s.heap x ox C od) (hm : PySem.W.mroIn K C (.type "object") = some true) (hs : PySem.W.findIn K (.ref C) "__eq__" = some (some (.ref f))) (hf : PySem.W.isFn K (.ref f) = true) (hu : A.in1.units < cLine)
    (hcall : wpAny (model prog w) A.in1 (call (.ref f) [.ref x, b]) (fun v s' => ∃ t, v = .bool t ∧ Q (.bool (!t)) s') E s) :
    wpAny (model prog w) A (call (.builtin "object.__ne__") [.ref x, b]) Q E s :=
  wpAny_call (codeAny_call_builtin F.cmp_object.ne.plain F.cmpEntry_ne (PySem.W.check_slot F.cmpKind_ne F.cmpSplit_ne (I.type.andThen (PySem.W.looks_mroIn X hm)) (F.cmpArgs_ne _ _) (objNe_entry X I hs hf hu hcall)))
theorem ifBound_objNe {args : List Value} {Q : Option Value → Shared → Prop} {M : Model} (X : K.In s.heap) (I : PySem.W.InstAt s.heap x ox C od) (hs : PySem.W.findIn K (.ref C) "__ne__" = some (some (.builtin "object.__ne__")))
    (h : wpAny M A (call (.builtin "object.__ne__") (.ref x :: args)) (fun v => Q (some v)) E s) : wpAny M A (callSpecialIfBound? (.ref x) "__ne__" args) Q E s := by
  simp only [callSpecialIfBound?, bindSpecialIfBound?]
  refine wpAny_holding (wpAny_bind (wpAny_bind (wpAny_bind (I.type.here ((PySem.W.looks_findIn X hs).here ?_)))))
  refine wpAny_bind (wpAny_askSetting (wpAny_ite ?_))
  have fin : wpAny M A (call (.builtin "object.__ne__") ([.ref x] ++ args) >>= fun v => pure (some v)) Q E s := wpAny_bind (wpAny_mono h (fun v s' h' => wpAny_pure h') fun _ _ h' => h')
  split
  · exact wpAny_bind (wpAny_of_eq (F.cmp_object.ne.bind _) (wpAny_pure (by exact fin)))
  · exact wpAny_tryCatch (wpAny_bind (wpAny_of_eq (F.cmp_object.ne.bind _) (wpAny_pure (by exact fin))))
theorem ne_K {Q : Value → Shared → Prop} (hu : A.units < cLine) (hu1 : A.in1.units < cLine) (X : K.In s.heap) (I : PySem.W.InstAt s.heap x ox C od) (hb : PySem.W.Looks (model prog w) s.heap (typeOf b) (.ref C)) (hm : PySem.W.mroIn K C (.type "object") = some true)
    (hn : PySem.W.findIn K (.ref C) "__ne__" = some (some (.builtin "object.__ne__"))) (hs : PySem.W.findIn K (.ref C) "__eq__" = some (some (.ref f))) (hf : PySem.W.isFn K (.ref f) = true)
    (hcall : wpAny (model prog w) A.in1 (call (.ref f) [.ref x, b]) (fun v s' => ∃ t, v = .bool t ∧ Q (.bool (!t)) s') E s) : wpAny (model prog w) A (richCompare .NotEq (.ref x) b) Q E s := by
  have one : wpAny (model prog w) A (tryCompare (.ref x) "__ne__" b) (fun r s' => ∃ v, r = some v ∧ Q v s') E s := by
    unfold tryCompare
    refine wpAny_bind (ifBound_objNe X I hn (call_objNe X I hm hs hf hu1 (wpAny_mono hcall (fun v s' hv => ?_) fun _ _ e => e)))
    obtain ⟨t, rfl, q⟩ := hv
    exact ⟨t, rfl, wpAny_pure ⟨_, rfl, q⟩⟩
  simp only [richCompare, cmpInfo_NotEq, oneThing_ref]
  refine wpAny_holding (wpAny_bind (wpAny_cRoomFor hu ?_))
  refine wpAny_bind (I.type.here (wpAny_bind (hb.here ?_)))
  rw [show (Value.ref C != Value.ref C) = false from by simp]
  simp only [Bool.false_eq_true, if_false]
  refine wpAny_bind (wpAny_pure ?_)
  simp only [Bool.false_eq_true, if_false]
  refine wpAny_bind (wpAny_mono one (fun r s' z => ?_) fun _ _ e => e)
  obtain ⟨v, rfl, hq⟩ := z
  exact wpAny_pure hq
end
end HN
namespace Ex
open PySem PySem.Spec PySem.Calls PyProof.Rows L2 Gu
structure NeOk (K : PySem.W.Frag) (C : Addr) : Prop where
  ne : PySem.W.findIn K (.ref C) "__ne__" = some (some (.builtin "object.__ne__"))
  hm : PySem.W.mroIn K C (.type "object") = some true
def neB (K : PySem.W.Frag) (C : Addr) : Bool := He.eqO (PySem.W.findIn K (.ref C) "__ne__") (some (some (.builtin "object.__ne__"))) && decide (PySem.W.mroIn K C (.type "object") = some true)
theorem neB_ok {K : PySem.W.Frag} {C : Addr} (h : neB K C = true) : NeOk K C := by
  obtain ⟨h1, h2⟩ := He.ba h
  exact ⟨He.eqO_ok h1, of_decide_eq_true h2⟩
def rOwnNe (C : Addr) (sp : Sp) : R2 := fun x y H Q => ∃ a b dx dy fs gs, x = .ref a ∧ y = .ref b ∧ H a = some (.ins C dx fs) ∧ H b = some (.ins C dy gs) ∧ sp [.ref a, .ref b] H (fun v H' => ∃ t, v = .bl t ∧ Q (.bl (!t)) H') E0
section
variable {X : Cx} {k j : Nat} {c : Str} {sp : Sp}
theorem op_ownN (D : EqOf X.prog X.w X.K X.mg X.base k c sp) (N : NeOk X.K (He.ga X.K c)) (hr : Room j X.A) (hj : k + 1 ≤ j := by decide) : OpR X (compareOp .NotEq) (rOwnNe (He.ga X.K c) sp) := by
  intro pins s σ H x y u v Q I rx ry ⟨a, b, dx, dy, fs, gs, ex, ey, ha, hb, hsp⟩
  subst ex ey
  obtain rfl : u = Value.ref a := rx
  obtain rfl : v = Value.ref b := ry
  obtain ⟨fd, F, bi⟩ := D.ex
  have hr' := hr.mono hj
  obtain ⟨mA, J, _⟩ := ins_get I.hok ha
  obtain ⟨mB, J', _⟩ := ins_get I.hok hb
  obtain ⟨od, J, _⟩ := J.look
  obtain ⟨od', J', _⟩ := J'.look
  show wpAny (model X.prog X.w) X.A (richCompare .NotEq (.ref a) (.ref b)) (EP X pins σ Q) X.xe s
  refine HN.ne_K hr'.units0 hr'.in1.units0 I.kIn J J'.type N.hm N.ne D.at_ D.fn ?_
  have r2 : Vals [V.ref a, V.ref b] [Value.ref a, Value.ref b] := .cons rfl (.cons rfl .nil)
  have bb := bi s [.ref a, .ref b] I.kIn rfl
  refine wpAny_call (codeAny_mono (F.run X.A.in1 X.stack s H ⟨[.ref a, .ref b], []⟩ [.ref a, .ref b] [.ref a, .ref b] _ E0 hr'.in1 I.env0.in1 (by simpa using bb) r2 hsp) fun r s' hq => ?_)
  match r, hq with
  | .ok (.ret w), hq =>
    obtain ⟨z, H', I', rz, ⟨t, ez, q⟩⟩ := I.after hq
    subst ez
    cases rz
    exact ⟨t, rfl, .bl (!t), H', I', rfl, q⟩
end
end Ex

set_option Elab.async false
set_option linter.all false
set_option maxRecDepth 100000
set_option maxHeartbeats 4000000
/-! Own layer: a built-in value == an instance with its own __eq__ (the built-in declines, then the own one is asked); instance == any value; instance != any value. -/
namespace HQ
open PySem PySem.Spec PyProof.Rows PySem.SeqAt PySem.W
section
variable {prog : Program} {w : World} {A : Around} {E : Value → Shared → Prop} {s : Shared} {K : PySem.W.Frag} {x C f : Addr} {a tb : Value} {ox : Obj} {od : Option Obj} {T id : String}
theorem try_own {nm : Str} {Q : Value → Shared → Prop} (X : K.In s.heap) (I : InstAt s.heap x ox C od) (hs : findIn K (.ref C) nm = some (some (.ref f))) (hf : isFn K (.ref f) = true)
    (h : wpAny (model prog w) A (call (.ref f) [.ref x, a]) (PySem.W.CmpBack Q) E s) : wpAny (model prog w) A (tryCompare (.ref x) nm a) (fun r s' => ∃ v, r = some v ∧ Q v s') E s := by
  unfold tryCompare
  refine wpAny_bind (ifBound_K X I hs hf (wpAny_mono h (fun v s' hv => ?_) fun _ _ e => e))
  cases v <;> first | exact hv.elim | exact wpAny_pure ⟨_, rfl, hv⟩
theorem refl_K {Q : Value → Shared → Prop} (hu : A.units < cLine) (X : K.In s.heap) (I : InstAt s.heap x ox C od) (hs : findIn K (.ref C) "__eq__" = some (some (.ref f))) (hf : isFn K (.ref f) = true)
    (ha : s.TypeIs a T) (slot : Slot T "__eq__" id) (hsub : subIn K (.ref C) (.type T) = some false)
    (hd : ∀ Q' : Value → Shared → Prop, Q' .notImplemented s → wpAny (model prog w) A (call (.builtin id) [a, .ref x]) Q' E s)
    (h : wpAny (model prog w) A (call (.ref f) [.ref x, a]) (PySem.W.CmpBack Q) E s) : wpAny (model prog w) A (richCompare .Eq a (.ref x)) Q E s := by
  have one := try_own X I hs hf h
  simp only [richCompare, cmpInfo_Eq, ha.oneThing_none]
  try with_reducible refine wpAny_holding ?_
  refine wpAny_bind (wpAny_cRoomFor hu ?_)
  refine wpAny_bind (wpAny_typeOf ha (wpAny_bind (I.type.here ?_)))
  rw [show (Value.type T != Value.ref C) = true from by simp, if_pos rfl]
  refine wpAny_bind ((looks_subIn X hsub).here ?_)
  simp only [Bool.false_eq_true, if_false, Bool.not_false, if_true]
  refine wpAny_bind (m := tryCompare a _ (.ref x)) (wpAny_tryCompare_declines ha slot (hd _ ⟨rfl, ?_⟩))
  refine wpAny_bind (m := tryCompare (.ref x) _ a) (wpAny_mono one (fun r s' z => ?_) fun _ _ e => e)
  obtain ⟨v, rfl, hq⟩ := z
  exact wpAny_pure hq
/-! the built-ins decline -/
theorem dec_none (l : Addr) : Gives (Builtin.«NoneType.__eq__» ⟨[.none, .ref l], []⟩) (.val (Value.notImplemented)) :=
  .of_wp fun M A E s Q h => by obtain ⟨hp, g, d, tk, os⟩ := s; wp_walk; exact ⟨_, rfl, h⟩
theorem dec_bool {dx : Addr} {Q : Fin → Shared → Prop}  (X : K.In s.heap) (I : InstAt s.heap x (instObj C dx) C od) (b : Bool) (hsub : subIn K (.ref C) (.type "int") = some false) (h : Q (.done (.ret .notImplemented)) s) :
    wpAny (model prog w) A (Builtin.«int.__eq__» ⟨[.bool b, .ref x], []⟩) Q E s := by
  unfold Builtin.«int.__eq__»
  repeat (first
    | exact h
    | (refine I.type.here ?_)
    | (refine (looks_subIn X hsub).here ?_)
    | (with_reducible refine wpAny_load I.at_ ?_)
    | wp_step)
theorem dec_int {dx : Addr} {Q : Fin → Shared → Prop}  (X : K.In s.heap) (I : InstAt s.heap x (instObj C dx) C od) (i : Int) (t : Tok) (hsub : subIn K (.ref C) (.type "int") = some false) (h : Q (.done (.ret .notImplemented)) s) :
    wpAny (model prog w) A (Builtin.«int.__eq__» ⟨[.int i t, .ref x], []⟩) Q E s := by
  unfold Builtin.«int.__eq__»
  repeat (first
    | exact h
    | (refine I.type.here ?_)
    | (refine (looks_subIn X hsub).here ?_)
    | (with_reducible refine wpAny_load I.at_ ?_)
    | wp_step)
theorem dec_str {dx : Addr} {Q : Fin → Shared → Prop}  (X : K.In s.heap) (I : InstAt s.heap x (instObj C dx) C od) (z : Str) (t : Tok) (hsub : subIn K (.ref C) (.type "str") = some false) (h : Q (.done (.ret .notImplemented)) s) :
    wpAny (model prog w) A (Builtin.«str.__eq__» ⟨[.str z t, .ref x], []⟩) Q E s := by
  unfold Builtin.«str.__eq__»
  repeat (first
    | exact h
    | (refine I.type.here ?_)
    | (refine (looks_subIn X hsub).here ?_)
    | (with_reducible refine wpAny_load I.at_ ?_)
    | wp_step)
theorem dec_list {dx : Addr} {Q : Fin → Shared → Prop} {l : Addr} {items : Array Value} {n : Nat} {dd : Option Addr} {sl : Array (Option Value)} (X : K.In s.heap) (I : InstAt s.heap x (instObj C dx) C od) (hl : s.heap.get? l = some { cls := .type "list", dict := dd, data := .seq items n, slots := sl }) (hsub : subIn K (.ref C) (.type "list") = some false) (h : Q (.done (.ret .notImplemented)) s) :
    wpAny (model prog w) A (Builtin.«list.__eq__» ⟨[.ref l, .ref x], []⟩) Q E s := by
  unfold Builtin.«list.__eq__»
  repeat (first
    | exact h
    | (refine I.type.here ?_)
    | (refine (looks_subIn X hsub).here ?_)
    | (with_reducible refine wpAny_load I.at_ ?_)
    | wp_step)
theorem dec_tuple {dx : Addr} {Q : Fin → Shared → Prop} {l : Addr} {items : Array Value} {n : Nat} {dd : Option Addr} {sl : Array (Option Value)} (X : K.In s.heap) (I : InstAt s.heap x (instObj C dx) C od) (hl : s.heap.get? l = some { cls := .type "tuple", dict := dd, data := .seq items n, slots := sl }) (hsub : subIn K (.ref C) (.type "tuple") = some false) (h : Q (.done (.ret .notImplemented)) s) :
    wpAny (model prog w) A (Builtin.«tuple.__eq__» ⟨[.ref l, .ref x], []⟩) Q E s := by
  unfold Builtin.«tuple.__eq__»
  repeat (first
    | exact h
    | (refine I.type.here ?_)
    | (refine (looks_subIn X hsub).here ?_)
    | (with_reducible refine wpAny_load I.at_ ?_)
    | wp_step)
theorem dec_dict {dx : Addr} {Q : Fin → Shared → Prop} {l : Addr} {es : Array DictEntry} {n : Nat} {dd : Option Addr} {sl : Array (Option Value)} (X : K.In s.heap) (I : InstAt s.heap x (instObj C dx) C od) (hl : s.heap.get? l = some { cls := .type "dict", dict := dd, data := .dict es n, slots := sl }) (hsub : subIn K (.ref C) (.type "dict") = some false) (h : Q (.done (.ret .notImplemented)) s) :
    wpAny (model prog w) A (Builtin.«dict.__eq__» ⟨[.ref l, .ref x], []⟩) Q E s := by
  unfold Builtin.«dict.__eq__»
  repeat (first
    | exact h
    | (refine I.type.here ?_)
    | (refine (looks_subIn X hsub).here ?_)
    | (with_reducible refine wpAny_load I.at_ ?_)
    | wp_step)
end
end HQ

set_option Elab.async false
set_option linter.all false
set_option maxRecDepth 100000
set_option maxHeartbeats 4000000
/-! Own layer: == and != between an instance with its own __eq__ and any built-in value, in both sequences. -/
namespace HQ
open PySem PySem.Spec PyProof.Rows PySem.SeqAt PySem.W
section
variable {prog : Program} {w : World} {A : Around} {E : Value → Shared → Prop} {s : Shared} {K : PySem.W.Frag} {x C f dx l : Addr} {a b tb : Value} {od : Option Obj} {T id : String}
variable {items : Array Value} {n : Nat} {dd : Option Addr} {sl : Array (Option Value)}
/-- an instance of C at x, C's relations in K -/
def At (K : PySem.W.Frag) (x C dx : Addr) (od : Option Obj) (s : Shared) : Prop := K.In s.heap ∧ InstAt s.heap x (instObj C dx) C od
theorem m_none : Meets (Builtin.«NoneType.__eq__» ⟨[.none, .ref x], []⟩) (fun _ R s => R (.ok (.ret .notImplemented)) s) :=
  .of_wp fun prog w A R s h => by obtain ⟨hp, g, d, tk, os⟩ := s; wp_walk; exact ⟨_, rfl, h⟩
theorem m_bool (p : Bool) (hsub : subIn K (.ref C) (.type "int") = some false) : Meets (Builtin.«int.__eq__» ⟨[.bool p, .ref x], []⟩) (fun _ R s => At K x C dx od s ∧ R (.ok (.ret .notImplemented)) s) :=
  .of_wp fun prog w A R s h => dec_bool h.1.1 h.1.2 p hsub ⟨_, rfl, h.2⟩
theorem m_int (i : Int) (t : Tok) (hsub : subIn K (.ref C) (.type "int") = some false) : Meets (Builtin.«int.__eq__» ⟨[.int i t, .ref x], []⟩) (fun _ R s => At K x C dx od s ∧ R (.ok (.ret .notImplemented)) s) :=
  .of_wp fun prog w A R s h => dec_int h.1.1 h.1.2 i t hsub ⟨_, rfl, h.2⟩
theorem m_str (z : Str) (t : Tok) (hsub : subIn K (.ref C) (.type "str") = some false) : Meets (Builtin.«str.__eq__» ⟨[.str z t, .ref x], []⟩) (fun _ R s => At K x C dx od s ∧ R (.ok (.ret .notImplemented)) s) :=
  .of_wp fun prog w A R s h => dec_str h.1.1 h.1.2 z t hsub ⟨_, rfl, h.2⟩
theorem m_list (hsub : subIn K (.ref C) (.type "list") = some false) : Meets (Builtin.«list.__eq__» ⟨[.ref l, .ref x], []⟩) (fun _ R s => At K x C dx od s ∧ s.heap.get? l = some { cls := .type "list", dict := dd, data := .seq items n, slots := sl } ∧ R (.ok (.ret .notImplemented)) s) :=
  .of_wp fun prog w A R s h => dec_list h.1.1 h.1.2 h.2.1 hsub ⟨_, rfl, h.2.2⟩
theorem m_tuple (hsub : subIn K (.ref C) (.type "tuple") = some false) : Meets (Builtin.«tuple.__eq__» ⟨[.ref l, .ref x], []⟩) (fun _ R s => At K x C dx od s ∧ s.heap.get? l = some { cls := .type "tuple", dict := dd, data := .seq items n, slots := sl } ∧ R (.ok (.ret .notImplemented)) s) :=
  .of_wp fun prog w A R s h => dec_tuple h.1.1 h.1.2 h.2.1 hsub ⟨_, rfl, h.2.2⟩
theorem m_dict {es : Array DictEntry} (hsub : subIn K (.ref C) (.type "dict") = some false) : Meets (Builtin.«dict.__eq__» ⟨[.ref l, .ref x], []⟩) (fun _ R s => At K x C dx od s ∧ s.heap.get? l = some { cls := .type "dict", dict := dd, data := .dict es n, slots := sl } ∧ R (.ok (.ret .notImplemented)) s) :=
  .of_wp fun prog w A R s h => dec_dict h.1.1 h.1.2 h.2.1 hsub ⟨_, rfl, h.2.2⟩
theorem ne_KB {Q : Value → Shared → Prop} (hu : A.units < cLine) (hu1 : A.in1.units < cLine) (X : K.In s.heap) (I : InstAt s.heap x (instObj C dx) C od) (hb : Looks (model prog w) s.heap (typeOf b) tb) (hn0 : notFirst K C tb = true) (hm : mroIn K C (.type "object") = some true)
    (hn : findIn K (.ref C) "__ne__" = some (some (.builtin "object.__ne__"))) (hs : findIn K (.ref C) "__eq__" = some (some (.ref f))) (hf : isFn K (.ref f) = true)
    (hcall : wpAny (model prog w) A.in1 (call (.ref f) [.ref x, b]) (fun v s' => ∃ t, v = .bool t ∧ Q (.bool (!t)) s') E s) : wpAny (model prog w) A (richCompare .NotEq (.ref x) b) Q E s := by
  have one : wpAny (model prog w) A (tryCompare (.ref x) "__ne__" b) (fun r s' => ∃ v, r = some v ∧ Q v s') E s := by
    unfold tryCompare
    refine wpAny_bind (HN.ifBound_objNe X I hn (HN.call_objNe X I hm hs hf hu1 (wpAny_mono hcall (fun v s' hv => ?_) fun _ _ e => e)))
    obtain ⟨t, rfl, q⟩ := hv
    exact ⟨t, rfl, wpAny_pure ⟨_, rfl, q⟩⟩
  simp only [richCompare, cmpInfo_NotEq, oneThing_ref]
  refine wpAny_holding (wpAny_bind (wpAny_cRoomFor hu ?_))
  refine wpAny_bind (I.type.here (wpAny_bind (hb.here ?_)))
  split
  · rename_i q
    have e : subIn K tb (.ref C) = some false := by
      rcases Bool.or_eq_true_iff.mp hn0 with e | e
      · rw [beq_iff_eq.mp e] at q; simp at q
      · exact beq_iff_eq.mp e
    refine wpAny_bind ((looks_subIn X e).here ?_)
    simp only [Bool.false_eq_true, if_false]
    refine wpAny_bind (wpAny_mono one (fun r s' z => ?_) fun _ _ e => e)
    obtain ⟨v, rfl, hq⟩ := z
    exact wpAny_pure hq
  · refine wpAny_bind (wpAny_pure ?_)
    simp only [Bool.false_eq_true, if_false]
    refine wpAny_bind (wpAny_mono one (fun r s' z => ?_) fun _ _ e => e)
    obtain ⟨v, rfl, hq⟩ := z
    exact wpAny_pure hq
end
end HQ
namespace Ex
open PySem PySem.Spec PySem.Calls PyProof.Rows L2 Gu
/-- built-in values and their types -/
inductive Bv (H : Hp) : V → String → Prop
  | non : Bv H .non "NoneType"
  | bl (b : Bool) : Bv H (.bl b) "bool"
  | int (i : Int) : Bv H (.int i) "int"
  | str (x : Str) : Bv H (.str x) "str"
  | lst {a : Addr} {xs : List V} : H a = some (.lst xs) → Bv H (.ref a) "list"
  | tup {a : Addr} {xs : List V} : H a = some (.tup xs) → Bv H (.ref a) "tuple"
  | dct {a : Addr} {kvs : List (Key × V)} : H a = some (.dK kvs) → Bv H (.ref a) "dict"
theorem Bv.tyx {K : PySem.W.Frag} {H : Hp} {v : V} {T : String} (h : Bv H v T) : TyX K H v (.type T) := by
  cases h with
  | non => exact .base .non
  | bl b => exact .base (.bl b)
  | int i => exact .base (.int i)
  | str x => exact .base (.str x)
  | lst e => exact .base (.lst e)
  | tup e => exact .base (.tup e)
  | dct e => exact .base (.dK e)
def bus : List String := ["NoneType", "bool", "int", "str", "list", "tuple", "dict"]
theorem Bv.mem {H : Hp} {v : V} {T : String} (h : Bv H v T) : T ∈ bus := by cases h <;> decide
/-- what comparisons with built-in values ask of an own class -/
structure BuOk (K : PySem.W.Frag) (C : Addr) : Prop where
  all : ∀ T ∈ bus, PySem.W.notFirst K C (.type T) = true ∧ PySem.W.subIn K (.ref C) (.type T) = some false ∧ PySem.W.kitOne K (.type T) (.ref C) = some false
def buB (K : PySem.W.Frag) (C : Addr) : Bool := bus.all fun T => PySem.W.notFirst K C (.type T) && (decide (PySem.W.subIn K (.ref C) (.type T) = some false) && decide (PySem.W.kitOne K (.type T) (.ref C) = some false))
theorem buB_ok {K : PySem.W.Frag} {C : Addr} (h : buB K C = true) : BuOk K C := ⟨fun T hT => by
  obtain ⟨h1, h2⟩ := He.ba (List.all_eq_true.mp h T hT)
  obtain ⟨h2, h3⟩ := He.ba h2
  exact ⟨h1, of_decide_eq_true h2, of_decide_eq_true h3⟩⟩
theorem BuOk.kit {K : PySem.W.Frag} {C : Addr} {H : Hp} {v : V} {T : String} (h : BuOk K C) (b : Bv H v T) : PySem.W.kitOne K (.type T) (.ref C) = some false := (h.all T b.mem).2.2
section
variable {X : Cx} {pins : List (Addr × Obj)} {σ : L2.St} {H : Hp} {s : Shared} {k j : Nat} {c : Str} {sp : Sp}
theorem Bv.typeIs (I : Inv X pins σ H s) {v : V} {T : String} {u : Value} (h : Bv H v T) (r : RelV v u) : s.TypeIs u T := by
  cases h with
  | non => cases r; rfl
  | bl b => cases r; rfl
  | int i => obtain ⟨t, rfl⟩ := r; rfl
  | str x => obtain ⟨t, rfl⟩ := r; rfl
  | lst e =>
    cases r
    obtain ⟨its, _, ⟨o, n, ho, hc, _, hd⟩, _⟩ := I.list (SqL.of e)
    exact ⟨o, ho, hc⟩
  | tup e =>
    cases r
    obtain ⟨its, _, ⟨o, ho, hc, n, hd⟩, _⟩ := I.tuple (SqT.of e)
    exact ⟨o, ho, hc⟩
  | dct e =>
    cases r
    obtain ⟨_, _, vs, _, dd⟩ := dk_of I.hok e
    exact dd.typeIs
theorem looks_of {prog : Program} {w : World} {u : Value} {T : String} (h : s.TypeIs u T) : PySem.W.Looks (model prog w) s.heap (typeOf u) (.type T) := by
  cases u with
  | ref a =>
    obtain ⟨o, ho, hc⟩ := h
    exact hc ▸ (PySem.W.Looks.ld ho).andThen .now
  | _ => exact PySem.W.Looks.of_pure h
def rEqB (C : Addr) (sp : Sp) : R2 := fun x y H Q => ∃ a dx fs T, x = .ref a ∧ H a = some (.ins C dx fs) ∧ Bv H y T ∧ sp [.ref a, y] H (fun v H' => (∃ t, v = .bl t) ∧ Q v H') E0
theorem op_eqB (D : EqOf X.prog X.w X.K X.mg X.base k c sp) (B : BuOk X.K (He.ga X.K c)) (hr : Room j X.A) (hj : k ≤ j := by decide) : OpR X (compareOp .Eq) (rEqB (He.ga X.K c) sp) := by
  intro pins s σ H x y u v Q I rx ry ⟨a, dx, fs, T, ex, ha, bv, hsp⟩
  subst ex
  obtain rfl : u = Value.ref a := rx
  obtain ⟨fd, F, bi⟩ := D.ex
  have hr' := hr.mono hj
  obtain ⟨mA, J, _⟩ := ins_get I.hok ha
  obtain ⟨od, J, _⟩ := J.look
  obtain ⟨m, hF⟩ := I.fr
  have ty := bv.typeIs I ry
  show wpAny (model X.prog X.w) X.A (richCompare .Eq (.ref a) v) (EP X pins σ Q) X.xe s
  refine PySem.W.cmp_K (op := .Eq) (tb := .type T) hr'.units0 hF I.ok.mod.kin J (looks_of ty) (B.all T bv.mem).1 D.at_ D.fn ?_
  have r2 : Vals [V.ref a, y] [Value.ref a, v] := .cons rfl (.cons ry .nil)
  have bb := bi s [.ref a, v] I.kIn rfl
  refine wpAny_call (codeAny_mono (F.run X.A X.stack s H ⟨[.ref a, v], []⟩ [.ref a, v] [.ref a, y] _ E0 hr' I.env0 (by simpa using bb) r2 hsp) fun r s' hq => ?_)
  match r, hq with
  | .ok (.ret w), hq =>
    obtain ⟨z, H', I', rz, ⟨t, ez⟩, q⟩ := I.after hq
    subst ez
    cases rz
    exact ⟨.bl t, H', I', rfl, q⟩
def rNeB (C : Addr) (sp : Sp) : R2 := fun x y H Q => ∃ a dx fs T, x = .ref a ∧ H a = some (.ins C dx fs) ∧ Bv H y T ∧ sp [.ref a, y] H (fun v H' => ∃ t, v = .bl t ∧ Q (.bl (!t)) H') E0
theorem op_neB (D : EqOf X.prog X.w X.K X.mg X.base k c sp) (N : NeOk X.K (He.ga X.K c)) (B : BuOk X.K (He.ga X.K c)) (hr : Room j X.A) (hj : k + 1 ≤ j := by decide) : OpR X (compareOp .NotEq) (rNeB (He.ga X.K c) sp) := by
  intro pins s σ H x y u v Q I rx ry ⟨a, dx, fs, T, ex, ha, bv, hsp⟩
  subst ex
  obtain rfl : u = Value.ref a := rx
  obtain ⟨fd, F, bi⟩ := D.ex
  have hr' := hr.mono hj
  obtain ⟨mA, J, _⟩ := ins_get I.hok ha
  obtain ⟨od, J, _⟩ := J.look
  have ty := bv.typeIs I ry
  show wpAny (model X.prog X.w) X.A (richCompare .NotEq (.ref a) v) (EP X pins σ Q) X.xe s
  refine HQ.ne_KB hr'.units0 hr'.in1.units0 I.kIn J (looks_of ty) (B.all T bv.mem).1 N.hm N.ne D.at_ D.fn ?_
  have r2 : Vals [V.ref a, y] [Value.ref a, v] := .cons rfl (.cons ry .nil)
  have bb := bi s [.ref a, v] I.kIn rfl
  refine wpAny_call (codeAny_mono (F.run X.A.in1 X.stack s H ⟨[.ref a, v], []⟩ [.ref a, v] [.ref a, y] _ E0 hr'.in1 I.env0.in1 (by simpa using bb) r2 hsp) fun r s' hq => ?_)
  match r, hq with
  | .ok (.ret w), hq =>
    obtain ⟨z, H', I', rz, ⟨t, ez, q⟩⟩ := I.after hq
    subst ez
    cases rz
    exact ⟨t, rfl, .bl (!t), H', I', rfl, q⟩
def rEqR (C : Addr) (sp : Sp) : R2 := fun x y H Q => ∃ b dx fs T, y = .ref b ∧ H b = some (.ins C dx fs) ∧ Bv H x T ∧ sp [.ref b, x] H (fun v H' => (∃ t, v = .bl t) ∧ Q v H') E0
theorem op_eqR (D : EqOf X.prog X.w X.K X.mg X.base k c sp) (B : BuOk X.K (He.ga X.K c)) (hr : Room j X.A) (hj : k ≤ j := by decide) : OpR X (compareOp .Eq) (rEqR (He.ga X.K c) sp) := by
  intro pins s σ H x y u v Q I rx ry ⟨b, dx, fs, T, ey, hb, bv, hsp⟩
  subst ey
  obtain rfl : v = Value.ref b := ry
  obtain ⟨fd, F, bi⟩ := D.ex
  have hr' := hr.mono hj
  obtain ⟨mA, J, _⟩ := ins_get I.hok hb
  obtain ⟨od, J, _⟩ := J.look
  have ty := bv.typeIs I rx
  have at0 : HQ.At X.K b (He.ga X.K c) dx (some od) s := ⟨I.kIn, J⟩
  have su : ∀ T ∈ bus, PySem.W.subIn X.K (.ref (He.ga X.K c)) (.type T) = some false := fun T hT => (B.all T hT).2.1
  have r2 : Vals [V.ref b, x] [Value.ref b, u] := .cons rfl (.cons rx .nil)
  have bb := bi s [.ref b, u] I.kIn rfl
  have own : wpAny (model X.prog X.w) X.A (call (.ref (He.ma X.K (He.ga X.K c) "__eq__")) [.ref b, u]) (PySem.W.CmpBack (EP X pins σ Q)) X.xe s := by
    refine wpAny_call (codeAny_mono (F.run X.A X.stack s H ⟨[.ref b, u], []⟩ [.ref b, u] [.ref b, x] _ E0 hr' I.env0 (by simpa using bb) r2 hsp) fun r s' hq => ?_)
    match r, hq with
    | .ok (.ret w), hq =>
      obtain ⟨z, H', I', rz, ⟨t, ez⟩, q⟩ := I.after hq
      subst ez
      cases rz
      exact ⟨.bl t, H', I', rfl, q⟩
  have tyT := ty
  show wpAny (model X.prog X.w) X.A (richCompare .Eq u (.ref b)) (EP X pins σ Q) X.xe s
  cases bv with
  | non =>
    cases rx
    exact HQ.refl_K hr'.units0 I.kIn J D.at_ D.fn ty PySem.F.slot_NoneType_eq (su _ (by decide)) (fun Q' q' => call_meets PySem.F.slot_NoneType_eq ty PySem.F.entry_NoneType_eq (PySem.F.args_NoneType_eq_2 _ _) HQ.m_none q') own
  | bl p =>
    cases rx
    exact HQ.refl_K hr'.units0 I.kIn J D.at_ D.fn ty PySem.F.slot_bool_eq (su _ (by decide)) (fun Q' q' => call_meets PySem.F.slot_bool_eq ty PySem.F.entry_int_eq (PySem.F.args_int_eq_2 _ _) (HQ.m_bool p (su "int" (by decide))) ⟨at0, q'⟩) own
  | int i =>
    obtain ⟨t, rfl⟩ := rx
    exact HQ.refl_K hr'.units0 I.kIn J D.at_ D.fn ty PySem.F.slot_int_eq (su _ (by decide)) (fun Q' q' => call_meets PySem.F.slot_int_eq ty PySem.F.entry_int_eq (PySem.F.args_int_eq_2 _ _) (HQ.m_int i t (su "int" (by decide))) ⟨at0, q'⟩) own
  | str z =>
    obtain ⟨t, rfl⟩ := rx
    exact HQ.refl_K hr'.units0 I.kIn J D.at_ D.fn ty PySem.F.slot_str_eq (su _ (by decide)) (fun Q' q' => call_meets PySem.F.slot_str_eq ty PySem.F.entry_str_eq (PySem.F.args_str_eq_2 _ _) (HQ.m_str z t (su "str" (by decide))) ⟨at0, q'⟩) own
  | lst e =>
    cases rx
    obtain ⟨its, _, ⟨⟨oc, od1, odt, osl⟩, n, ho, hc, _, hd⟩, _⟩ := I.list (SqL.of e)
    simp only at hc hd
    subst hc hd
    exact HQ.refl_K hr'.units0 I.kIn J D.at_ D.fn ty PySem.F.slot_list_eq (su _ (by decide)) (fun Q' q' => call_meets PySem.F.slot_list_eq ty PySem.F.entry_list_eq (PySem.F.args_list_eq_2 _ _) (HQ.m_list (su "list" (by decide))) ⟨at0, ho, q'⟩) own
  | tup e =>
    cases rx
    obtain ⟨its, _, ⟨⟨oc, od1, odt, osl⟩, ho, hc, n, hd⟩, _⟩ := I.tuple (SqT.of e)
    simp only at hc hd
    subst hc hd
    exact HQ.refl_K hr'.units0 I.kIn J D.at_ D.fn ty PySem.F.slot_tuple_eq (su _ (by decide)) (fun Q' q' => call_meets PySem.F.slot_tuple_eq ty PySem.F.entry_tuple_eq (PySem.F.args_tuple_eq_2 _ _) (HQ.m_tuple (su "tuple" (by decide))) ⟨at0, ho, q'⟩) own
  | dct e =>
    cases rx
    obtain ⟨_, _, vs, _, ⟨oc, od1, odt, osl⟩, es, ep, ho, hx, hd, _⟩ := dk_of I.hok e
    have hc : oc = .type "dict" := hx.1
    simp only at hd
    subst hc hd
    exact HQ.refl_K hr'.units0 I.kIn J D.at_ D.fn ty PySem.F.slot_dict_eq (su _ (by decide)) (fun Q' q' => call_meets PySem.F.slot_dict_eq ty PySem.F.entry_dict_eq (PySem.F.args_dict_eq_2 _ _) (HQ.m_dict (su "dict" (by decide))) ⟨at0, ho, q'⟩) own
end
end Ex

set_option Elab.async false
set_option linter.all false
set_option maxRecDepth 100000
set_option maxHeartbeats 4000000
/-! Own layer: repr(o) by the class's own __repr__; {x!r} of a list or a tuple of data in an f-string. -/
namespace Ex
open PySem PySem.Spec PySem.Calls PyProof.Rows L2 Gu
/-- methods that are called where no repr is under way -/
structure MfG (P : Program) (w : World) (K : PySem.W.Frag) (mg : Str → Option Value) (base : Heap) (k : Nat) (c m : Str) (ps : List Str) (sp : Sp) : Prop where
  ex : ∃ fd, FnG P w K mg base CX0 k (He.ma K (He.ga K c) m) fd ps sp ∧ Binds K fd ps []
  cl : Cls K (He.ga K c)
  me : Meth K (He.ga K c) m (He.ma K (He.ga K c) m)
section
variable {X : Cx} {k j : Nat} {c : Str} {ps : List Str} {sp : Sp}
def rReprO (C : Addr) (sp : Sp) : List V → Hp → VK → Prop := fun xs H Q => ∃ (a dx : Addr) (fs : List (Str × V)), xs = [.ref a] ∧ H a = some (.ins C dx fs) ∧ sp [.ref a] H (fun v H' => ∃ z : Str, v = .str z ∧ Q (.str z) H') E0
theorem call_reprO (D : MfG X.prog X.w X.K X.mg X.base k c "__repr__" ps sp) (hr : RoomG j X.A) (hj : k + 1 ≤ j := by decide) : CallR X (.builtin "repr") (rReprO (He.ga X.K c) sp) := by
  intro pins s σ H xs us Q I r h
  obtain ⟨a, dx, fs, rfl, ha, hq⟩ := h
  obtain ⟨u, rfl, ru⟩ := vals1 r
  obtain rfl : u = Value.ref a := ru
  obtain ⟨fd, F, b⟩ := D.ex
  obtain ⟨mA, J, _⟩ := ins_get I.hok ha
  obtain ⟨od, J, _⟩ := J.look
  obtain ⟨m, hF⟩ := I.fr
  have rm : RoomG k X.A.in1 := ⟨(hr.r.mono hj).in1, hr.g⟩
  have hl := F.len _ _ _ _ hq
  refine PySem.W.repr_K rm.r.units0 hF I.ok.mod.kin J D.me.at_ D.me.fn ?_
  refine wpAny_call (codeAny_mono (F.run X.A.in1 X.stack s H ⟨[.ref a], []⟩ [.ref a] [.ref a] _ E0 rm I.env0.in1 (by
    have := b s [.ref a] I.kIn (by simpa using hl)
    simpa using this) (.cons rfl .nil) hq) fun r s' hq' => ?_)
  match r, hq' with
  | .ok (.ret u), hq' =>
    obtain ⟨v, H', I', rv, z, rfl, q⟩ := I.after hq'
    obtain ⟨t, rfl⟩ := rv
    exact ⟨.str z, H', I', ⟨t, rfl⟩, q⟩
/-- {x!r}, x a list or a tuple -/
def tFmtRQ (K : PySem.W.Frag) (te : TE) : TE := fun σ H Q => te σ H fun x H1 => ∃ (a : Addr) (d : PyData), x = .ref a ∧ Dq K H1 (.ref a) d ∧ d.showable = true ∧ d.depth ≤ 60 ∧ d.shown.length ≤ sizeLine ∧ Q (.str d.shown) H1
theorem pe_fmtRQ (hr : RoomG k X.A) (hs : SysOk X.K) {e : Expr} {te : TE} {pos : Pos} (he : PE X e te) : PE X (.FormattedValue e 114 none pos) (tFmtRQ X.K te) := by
  refine ⟨fun pins s σ H Q I h => ?_⟩
  refine wpAny_FormattedValue_repr (thn (he.run pins s σ H _ I h) fun v s1 hv => ?_)
  obtain ⟨x, H1, I1, r1, a, d, rfl, hd, hsh, hdep, hz, q⟩ := hv
  obtain ⟨as, rd, na⟩ := Dq.reads hs I1 hd v r1
  obtain rfl : v = Value.ref a := r1
  have hu := hr.r.units
  refine pyReprObj_of_reads rd hsh (fun _ => na) hr.g (by omega) (fun _ _ e => e) (fun h' u tk hk => ?_) hz
  exact wpAny_formatField_str ⟨.str d.shown, H1, I1.kept hk, ⟨_, rfl⟩, q⟩ ⟨.str d.shown, H1, I1.kept hk, ⟨_, rfl⟩, q⟩ hz
end
end Ex

set_option Elab.async false
set_option linter.all false
set_option maxRecDepth 100000
set_option maxHeartbeats 4000000
/-! Own layer: errors with a field over any built-in base (ArithmeticError, LookupError, RuntimeError, ValueError), made and raised. -/
namespace Ex
open PySem PySem.Spec PySem.Calls PyProof.Rows L2 Gu
/-- own classes, then the mro of a built-in base -/
def refsB (tl : List Value) : List Value → Bool
  | .ref _ :: r => refsB tl r
  | l => l == tl
theorem refsB_two (tl : List Value) (l : List Value) (e : refsB tl l = true) : (∃ c r, l = .ref c :: r ∧ refsB tl r = true) ∨ l = tl := by
  cases l with
  | nil => exact .inr (beq_iff_eq.mp e)
  | cons v r => cases v with
    | ref c => exact .inl ⟨c, r, rfl, e⟩
    | _ => exact .inr (beq_iff_eq.mp e)
/-- a built-in base of errors -/
structure BaseE (B : String) (tl : List Value) : Prop where
  ex : ExcBaseFacts B (B ++ ".__new__") (B ++ ".__init__") tl
  pa : ∀ self : Value, refuseLoop self "__setattr__" tl = pure ()
  ob : tl.contains (.type "object") = true
  ne : tl.isEmpty = false
abbrev tailE (B : String) : List Value := [.type B, .type "Exception", .type "BaseException", .type "object"]
theorem base_AE : BaseE "ArithmeticError" (tailE "ArithmeticError") := ⟨F.excBase_ArithmeticError, F.store_ArithmeticError.passes, by decide +kernel, rfl⟩
theorem base_LE : BaseE "LookupError" (tailE "LookupError") := ⟨F.excBase_LookupError, F.store_LookupError.passes, by decide +kernel, rfl⟩
theorem base_RE : BaseE "RuntimeError" (tailE "RuntimeError") := ⟨F.excBase_RuntimeError, F.store_RuntimeError.passes, by decide +kernel, rfl⟩
theorem base_VE : BaseE "ValueError" (tailE "ValueError") := ⟨F.excBase_ValueError, F.store_ValueError.passes, by decide +kernel, rfl⟩
section
variable {B : String} {tl : List Value}
theorem BaseE.pass (b : BaseE B tl) (self : Value) : ∀ l, refsB tl l = true → refuseLoop self "__setattr__" l = pure ()
  | [], e => by
    have z : ([] : List Value) = tl := beq_iff_eq.mp e
    have n := b.ne
    rw [← z] at n
    cases n
  | v :: r, e => by
    rcases refsB_two tl _ e with ⟨c, r', q, h⟩ | q
    · cases q
      rw [refuseLoop_ref]
      exact b.pass self r h
    · rw [q]
      exact b.pa self
theorem BaseE.has (b : BaseE B tl) (Y : String) : ∀ l, refsB tl l = true → l.contains (.type Y) = tl.contains (.type Y)
  | [], e => by
    have z : ([] : List Value) = tl := beq_iff_eq.mp e
    rw [z]
  | v :: r, e => by
    rcases refsB_two tl _ e with ⟨c, r', q, h⟩ | q
    · cases q
      rw [List.contains_cons, b.has Y r h]
      rfl
    · rw [q]
theorem BaseE.some (b : BaseE B tl) {l : List Value} (e : refsB tl l = true) : l.isEmpty = false := by
  cases l with
  | cons _ _ => rfl
  | nil =>
    have z : ([] : List Value) = tl := beq_iff_eq.mp e
    have n := b.ne
    rw [← z] at n
    exact n
end
section
open Builtin Builtin.ObjectAttr
variable {prog : Program} {w : World} {A : Around} {R : Result → Shared → Prop} {hp : Heap} {g : Array GenState} {d : Drawn} {t : Nat} {os : OsState}
/-- the first field of an error is stored by object.__setattr__ -/
theorem first_field {B : String} {tl : List Value} (b : BaseE B tl) {K : W.Frag} {nm : Str} {tk : Tok} {v : Value} {x C : Addr} {fv : Array Value} {cd : ClassData}
    (KX : K.In hp) (hx : hp.get? x = some { cls := .ref C, data := .fields fv }) (hcd : W.clsIn K C = some cd) (mr : refsB tl cd.mro = true) (hdt : cd.hasDict = true) (no : W.findIn K (.ref C) nm = some none)
    (go : ∀ h' tk' dx, (∀ b o, b ≠ x → hp.get? b = some o → h'.get? b = some o) → hp.objs.size ≤ dx → dx ≠ x → h'.get? x = some { cls := .ref C, dict := some dx, data := .fields fv } →
      h'.Ns1 dx (fun y => if y = nm then some v else none) → R (.ok (.ret .none)) ⟨h', g, d, tk', os⟩) :
    codeAny (model prog w) A (.call (.builtin "object.__setattr__") ⟨[.ref x, .str nm tk, v], []⟩) R ⟨hp, g, d, t, os⟩ := by
  have IA : W.InstAt hp x { cls := .ref C, data := .fields fv } C none := ⟨hx, rfl, rfl, trivial⟩
  have so := F.store_object
  have nE := b.some mr
  have isO : cd.mro.contains (.type "object") = true := (b.has "object" _ mr).trans b.ob
  have far : x ≠ hp.objs.size := Nat.ne_of_lt (Heap.lt_size hx)
  have isI : W.Looks (model prog w) hp (isInstance (.ref x) (.type "object")) true := IA.type.andThen (W.looks_mroIn KX (by unfold W.mroIn; rw [hcd, Option.bind_some, if_neg (by rw [nE]; decide), isO]))
  refine codeAny_call_builtin so.slot.plain so.entry (@W.check_slot (model prog w) _ _ ⟨hp, g, d, t, os⟩ "object.__setattr__" "object" "__setattr__" (.ref x) [.str nm tk, v] [] _ so.kind so.split isI (so.args (.ref x) (.str nm tk) v) ?_)
  have lm : W.Looks (model prog w) hp (mroOf (.ref C)) cd.mro := (W.looks_clsIn KX hcd).andThen .now
  have ln : W.Looks (model prog w) hp (storeTaker? none) none := .now
  have lc : W.Looks (model prog w) hp (classData C) cd := W.looks_clsIn KX hcd
  rw [W.osa_eq, refuse_eq]
  refine wpAny_bind (wpAny_bind (IA.type.at (wpAny_bind (lm.at ?_))))
  rw [b.pass _ _ mr]
  refine wpAny_pure (wpAny_bind (IA.type.at (wpAny_bind ((W.looks_findIn KX no).at (wpAny_bind (ln.at ?_))))))
  show wpAny _ _ (storeInOwnDict (.ref x) (.ref C) (.str nm tk) nm v false) _ _ _
  obtain ⟨n1, n2, n3, n4, n5, hd, n7, n8, n9, n10, n11⟩ := cd
  dsimp only at hdt
  subst hdt
  unfold storeInOwnDict ownDictForStores
  repeat (first | with_reducible refine HandSPX.store_in_new ?_ ?_ | with_reducible refine wpAny_loadPart_at hx ?_ | with_reducible refine lc.at ?_ | wp_step)
  · exact ⟨_, #[], _, (Heap.get?_update_ne _ _ _ _ far.symm).trans (Heap.get?_push_at rfl rfl), rfl, fun e he => absurd he (by simp), fun _ => rfl⟩
  · intro h' tk' nn' sb
    have hx1 : (hp.push { cls := .type "dict", data := .dict #[] }).get? x = some { cls := .ref C, data := .fields fv } := Heap.get?_push_of_some _ hx
    exact go h' tk' hp.objs.size (fun c o hc ho => (sb.2 c (Nat.ne_of_lt (Heap.lt_size ho))).trans ((Heap.get?_update_ne _ _ _ _ hc).trans (Heap.get?_push_of_some _ ho))) (Nat.le_refl _) far.symm
      ((sb.2 x far).trans (Heap.get?_update_self _ hx1 rfl)) nn'
end
/-- what the written part says of an error's class over the base B -/
structure OexG (B : String) (tl : List Value) (K : PySem.W.Frag) (C : Addr) : Prop where
  base : BaseE B tl
  cls : ∃ nm q N bs bm sn sub ab col dd k0 k1 k2 k3 k5, K.lookup C = some (excClassObj nm q C N bs bm true sn sub ab col dd k0 k1 k2 k3 k5 (B ++ ".__new__")) ∧ refsB tl bm = true
  sa : PySem.W.findIn K (.ref C) "__setattr__" = some (some (.builtin "object.__setattr__"))
  exC : PySem.W.subIn K (.ref C) (.type "BaseException") = some true
  tyC : PySem.W.typeIn K (.ref C) = some (.type "type")
  kC : PySem.W.keepIn K (.ref C) = true
section
variable {X : Cx} {pins : List (Addr × Obj)} {σ : L2.St} {H : Hp} {s : Shared} {a C dx : Addr} {f : Str} {y : V} {u : Value} {Q : Unit → Shared → Prop} {E : Value → Shared → Prop} {A : Around} {B : String} {tl : List Value}
/-- self.f = y, the first one -/
theorem field_new (T : OexG B tl X.K C) (I : Inv X pins σ H s) (e : H a = some (exo a C none)) (no : PySem.W.findIn X.K (.ref C) f = some none) (ry : RelV y u)
    (go : ∀ dx s', H dx = none → dx ≠ a → Inv X pins σ (upd (upd H dx (exd dx [(f, y)])) a (exo a C (some dx))) s' → Q () s') : wpAny (model X.prog X.w) A (setAttr (.ref a) f u) Q E s := by
  obtain ⟨nm, q, N, bs, bm, sn, sub, ab, col, dd, k0, k1, k2, k3, k5, hC, mr⟩ := T.cls
  have hcl : PySem.W.clsIn X.K C = some { name := nm, bases := bs, mro := .ref C :: bm, ns := N, qualname := q, hasDict := true, slotNames := sn, subclasses := sub, abstract := ab, collection := col, hasDel := false } := by
    unfold PySem.W.clsIn
    rw [hC] <;> rfl
  obtain ⟨t1, at1⟩ := exo_at I.hok e
  obtain ⟨hp, g, dr, tk, os⟩ := s
  refine PySem.W.set_plain I.kIn (ox := { cls := .ref C, dict := none, data := .fields #[.ref t1, .none, .none, .none, .bool false, .none] }) (od := none) ⟨at1, rfl, rfl, trivial⟩ T.sa ?_
  refine first_field T.base I.kIn at1 hcl (show refsB tl (.ref C :: bm) = true from mr) rfl no (fun h' tk' dx k dn dne hx hn => ?_)
  have free : H dx = none := I.hok.fresh dn
  have far : ∀ {b : Addr} {o : Obj}, hp.get? b = some o → b ≠ dx := fun {b o} q => Nat.ne_of_lt (Nat.lt_of_lt_of_le (Heap.lt_size q) dn)
  have na : ∀ {b : Addr}, H b = none → b ≠ a := fun {b} n z => by
    rw [z, e] at n
    cases n
  have at2 : ∀ {b : Addr} {o : HO}, H b = some o → b ≠ a → upd (upd H dx (exd dx [(f, y)])) a (exo a C (some dx)) b = some o := fun {b o} q n => by
    rw [upd_ne n, upd_ne (ne_of_none q free)]
    exact q
  have U : Un X.fs [] H (upd (upd H dx (exd dx [(f, y)])) a (exo a C (some dx))) hp h' := {
    keep := fun b o q n _ _ => k b o (na n) q
    slot := fun b o q n _ _ => ⟨o.slots, k b o (na n) q⟩
    free := fun b o q n _ => (upd_ne (na n)).trans ((upd_ne (far q)).trans n)
    there := fun b o q _ => by
      by_cases hb : b = a
      · rw [hb]
        exact ⟨_, hx⟩
      · exact ⟨o, k b o hb q⟩
    tups := fun b xs q => at2 q (at_ne e q exo_tup)
    frzs := fun b o v q => at2 q (at_ne e q exo_frz)
    tbls := fun b ps q => ⟨#[], by rw [at2 q (at_ne e q exo_tbl)]; simp⟩ }
  refine go dx _ free dne (I.un (t' := tk') U fun b o q => ?_)
  by_cases hb : b = a
  · subst hb
    rw [upd_same] at q
    cases q
    exact exo_ok hx
  · rw [upd_ne hb] at q
    by_cases hd : b = dx
    · subst hd
      rw [upd_same] at q
      cases q
      exact exd_ok hn (relO_put (fs := []) ry fun g => True.intro)
    · rw [upd_ne hd] at q
      refine (I.hok b o q).stay (fun c v hc z => k c v ?_ z) (fun c hc => at2 hc (at_ne e hc exo_own)) (fun c xs hc => at2 hc (at_ne e hc exo_tup))
      rcases hc with hc | hc
      · rw [hc]
        exact hb
      · exact at_ne e hc exo_own
end
/-- self.f = e, the first field of an error -/
def tFst (B : String) (tl : List Value) (K : PySem.W.Frag) (f : Str) (to te : TE) : TS := fun D σ H => te σ H fun y H1 => to σ H1 fun x H2 => ∃ a C : Addr, x = .ref a ∧ OexG B tl K C ∧ PySem.W.findIn K (.ref C) f = some none ∧
  H2 a = some (exo a C none) ∧ ∀ dx, H2 dx = none → dx ≠ a → D.nx σ (upd (upd H2 dx (exd dx [(f, y)])) a (exo a C (some dx)))
section
variable {X : Cx} {o e : Expr} {es : List Expr} {to te : TE} {ta : TA} {f : Str} {p p' pos : Pos} {B : String} {tl : List Value}
theorem ps_fst (ho : PE X o to) (he : PE X e te) (hs : swapsWith e (some (.Attribute o f p')) pos.line X.env = pure false := by rfl) : PS X (.Assign [.Attribute o f p'] e pos) (tFst B tl X.K f to te) := by
  refine ⟨fun pins s σ H D I h => plainObj_wpAny_Assign_Attribute (thn (he.run pins s σ H _ I h) fun v s1 ⟨y, H1, I1, r1, q1⟩ => thn (ho.run pins s1 σ H1 _ I1 q1) fun u s2 ⟨x, H2, I2, r2, a, C, ex, T, no, ea, q⟩ => ?_) hs⟩
  subst ex
  obtain rfl : u = Value.ref a := r2
  exact field_new T I2 ea no r1 fun dx s' n ne J => ⟨σ, _, J, q dx n ne⟩
/-- C(e, ..) for a raise, C's own __init__ keeping sp -/
theorem pmk_oexG {CX : CXT} {x : Str} {C fI : Addr} {k : Nat} {fd : FuncData} {ps : List Str} {sp : Sp} {ds : List Value} {dvs : List V} (T : OexG B tl X.K C) (iC : PySem.W.findIn X.K (.ref C) "__init__" = some (some (.ref fI))) (tI : PySem.W.typeIn X.K (.ref fI) = some (.type "function"))
    (F1 : FnOk X.prog X.w X.K X.mg X.base CX k fI fd ps sp) (hr : Room (k + 1) X.A) (hb : Binds X.K fd ps ds) (hd : Vals dvs ds) (hx : Passes CX X (fun _ _ _ => False)) (hg : Gl X x) (hm : X.mg x = some (.ref C)) (ha : PA X (e :: es) ta)
    (hdb : (x == ("__debug__" : Str)) = false := by decide) (he : starEach (e :: es) X.env = (false, eval e X.env) :: starEach es X.env := by rfl) (hpl : (backTo pos (starEach es X.env)).any (·.1) = false := by rfl) :
    PMk X (.Call (.Name x p) (e :: es) [] pos) (tMkO C sp dvs ta) := by
  intro pins s σ H Q I h
  obtain ⟨nm, q, N, bs, bm, sn, sub, ab, col, dd, k0, k1, k2, k3, k5, hC, mr⟩ := T.cls
  refine wpAny_Call_Name_kw (ld_glob I hg hm (PySem.W.callWith_K (h₀ := X.base) I.ok.mod.kin T.kC (thn (ha.run pos pins s σ H _ I h) fun us s1 ⟨vs, H1, I1, r1, hz, q1⟩ => ⟨I1.kIn, ?_⟩) he hpl) hdb)
  show wpAny _ _ (call (.ref C) us) _ _ _
  obtain ⟨hp, g, dr, tk, os⟩ := s1
  generalize en : hp.objs.size + 1 = n
  have sz : hp.objs.size ≤ n := by omega
  have hq := q1 n (I1.hok.fresh sz)
  generalize ehp : (hp.push (PySem.W.kdv_tup us)).push (PySem.HandSPX.excO C hp.objs.size) = hp2
  have kk : ∀ b o, hp.get? b = some o → hp2.get? b = some o := fun b o e => by
    rw [← ehp]
    exact Heap.get?_push_of_some _ (Heap.get?_push_of_some _ e)
  have hget : hp2.get? n = some (PySem.HandSPX.excO C hp.objs.size) := by
    rw [← ehp, ← en]
    heap_get
  have I2 : Inv X pins σ (upd H1 n (exo n C none)) ⟨hp2, g, dr, tk, os⟩ := I1.laid (t' := tk) kk sz (exo_ok hget)
  have r2 : Vals (V.ref n :: (vs ++ dvs)) (Value.ref n :: (us ++ ds)) := .cons rfl (r1.append hd)
  have hl : (Value.ref n :: us ++ ds).length = ps.length := r2.length.symm.trans (F1.len _ _ _ _ hq)
  have few : us.length ≤ sizeLine := by
    rw [← Paired.length r1, sizeLine_eq]
    omega
  refine wpAny_call (PySem.HandSPX.call_own T.base.ex (fun Y => T.base.has Y bm mr) (I1.kIn _ _ hC) (PySem.W.looks_findIn I1.kIn iC) (fun self => PySem.W.bind_fn I1.kIn self tI) few ?_)
  rw [en, ehp]
  refine codeAny_mono (F1.run _ X.stack _ _ ⟨Value.ref n :: us, []⟩ (Value.ref n :: (us ++ ds)) _ _ (fun _ _ _ => False) (hr.make C us []) (I2.env0.make C us []) (hb _ (Value.ref n :: us) I2.kIn hl) r2 hq) fun r s' hq' => ?_
  match r, hq' with
  | .error er, hq' => exact hx pins σ _ _ er s' I2 hq'
  | .ok (.ret u), hq' =>
    obtain ⟨v, H2, os2, bare2, un2, hok2, rv, ev, d, fs, ea, ed, hd1, q2⟩ := hq'
    subst ev
    obtain ⟨h2, g2, d2, t2, os'⟩ := s'
    exact ⟨rv, mk_end (raises_own T.exC T.tyC) I1 sz kk un2 hok2 os2 bare2 ea ed hd1 q2⟩
end
end Ex

set_option Elab.async false
set_option linter.all false
set_option maxRecDepth 100000
set_option maxHeartbeats 4000000
/-! Own layer: several clauses 'except x as n' of one try, all with the same name n. -/
namespace Ex
open PySem PySem.Spec PySem.Calls PyProof.Rows L2 Gu
abbrev Suites : Type := List (Value × (Addr → Value → Option Addr → TS))
/-- what the clauses wish of an error of the body, one after the other: slot i is n's -/
def wAsAll (K : PySem.W.Frag) (i : Nat) (Wout : WX) (D : Ends) : Suites → WX
  | [] => Wout
  | (c, ts) :: r => wAs K c i ts (wAsAll K i Wout D r) D
inductive HdAs (X : Cx) (n : Str) : List ExceptHandler → Suites → Prop
  | nil : HdAs X n [] []
  | cons {x : Str} {c : Value} {ts : Addr → Value → Option Addr → TS} {b0 : Stmt} {su : List Stmt} {np p2 : Pos} {hs : List ExceptHandler} {l : Suites} (hc : Names X x c)
      (hsu : ∀ (a : Addr) (oe : Obj) (cls : Value) (d : Option Addr) (pn : List (Addr × Obj)), Zc cls d oe → (∃ vs, oe.data = .fields vs) → PSs (X.suite a ((a, oe) :: pn)) (b0 :: su) (ts a cls d)) (r : HdAs X n hs l) :
      HdAs X n (.ExceptHandler (some (.Name x np)) (some n) (b0 :: su) p2 :: hs) ((c, ts) :: l)
section
variable {X : Cx} {n : Str} {i : Nat} {body : List Stmt} {h0 : ExceptHandler} {hds : List ExceptHandler} {l : Suites} {pos : Pos} {tb : WX → TS} {Wout : WX}
theorem ps_try_asAll (hs : X.stack = X.env :: X.outer) (hf : X.env.frame = some X.env.locals) (hN : X.N.Nodup) (hi : X.N[i]? = some n) (hln : X.env.kindOf n = some .local) (tk : Takes X Wout)
    (hb : ∀ (W : WX) (pn : List (Addr × Obj)) (xe : Value → Shared → Prop), Takes (X.tr pn xe) W → PassesOwn (model X.prog X.w) X.A X.env xe → PSs (X.tr pn xe) body (tb W))
    (hh : HdAs X n (h0 :: hds) l) : PS X (.Try body (h0 :: hds) [] [] pos) (fun D σ H => tb (wAsAll X.K i Wout D l) D σ H) := by
  refine ⟨fun pins s σ H D I h => ?_⟩
  have ok := I.ok
  have fr : X.A.frames = some (X.env :: X.outer) := by
    rw [ok.frames, hs]
  refine wpAny_Try_except (wpAny_mono ((hb (wAsAll X.K i Wout D l) (X.pn ++ pins) (fun e s1 => wpAny (model X.prog X.w) X.A (noteFrame e X.env) (fun _ s2 => wpAny (model X.prog X.w) X.A (setFlight e none) (fun _ s3 =>
    wpAny (model X.prog X.w) X.A (handleBy e X.env (h0 :: hds)) (SP X pins D) X.xe s3) X.xe s2) X.xe s1) (fun u s' xx => ?_) PassesOwn.looking).run [] s σ H D (I.toTry _) h) (fun f s1 hsp => ?_) (fun e s1 he => he))
  · obtain ⟨a, B, sI, pins', σ1, H1, cls, d, rfl, J0, nb, up, sky, na, os, ag, w⟩ := xx
    have J : Inv X pins σ1 H1 sI := J0.ofTry ok
    rw [hs] at sky
    show wpAny (model X.prog X.w) X.A (noteFrame (.ref a) X.env) _ _ _
    refine Sky.land Zc.steady fr hf sky fun h3 fl up3 => ?_
    have J3 : Inv X pins σ1 H1 { s' with heap := h3 } := J.landed nb fl.1 (up.trans up3) os ag
    obtain ⟨o3, v3, he3, hz3, hd3⟩ := fl.there
    have nfr : a ∉ frs (X.env :: X.outer) := fun hm => by
      obtain ⟨_, o', e', hnf⟩ := fl.2.2.1.mem hm
      rw [he3] at e'
      cases e'
      exact hnf _ hd3
    have nL : a ≠ X.env.locals := fun z => nfr (List.mem_filterMap.mpr ⟨X.env, List.mem_cons_self, by rw [hf, z]⟩)
    have nF : a ∉ X.fs := fun hm => by
      obtain ⟨e, he, q⟩ := List.mem_filterMap.mp hm
      exact nfr (List.mem_filterMap.mpr ⟨e, List.mem_cons_of_mem _ he, q⟩)
    have S3 := J3.suite he3 hd3 na nL nF
    have go : ∀ {hs2 : List ExceptHandler} {l2 : Suites}, HdAs X n hs2 l2 → wAsAll X.K i Wout D l2 cls d σ1 H1 → wpAny (model X.prog X.w) X.A (handleBy (.ref a) X.env hs2) (SP X pins D) X.xe { s' with heap := h3 } := by
      intro hs2 l2 hk
      induction hk with
      | nil =>
        intro w
        refine wpAny_handleBy_nil ?_
        obtain ⟨_, _, _, oe, vs, Tb, oT, tsT, he, hz, hd, h1, hr⟩ := id fl
        unfold PySem.passOn
        refine wpAny_bind (wpAny_field he hd h1 ?_)
        rw [if_neg (show ¬ ((Value.ref Tb == Value.none) = true) from by simp)]
        have fin : wpAny (model X.prog X.w) X.A (setFlight (.ref a) X.env.frame) (fun _ s4 => wpAny (model X.prog X.w) X.A (throw (.ref a) : Sem Flow) (SP X pins D) X.xe s4) X.xe { s' with heap := h3 } := by
          rw [hf]
          exact HandSPX.setFlight_upZ fl fun h4 hh4 up4 => wpAny_throw (tk _ _ ⟨a, B, sI, pins, σ1, H1, cls, d, rfl, J, nb, (up.trans up3).trans up4, .inr (.inr (by rw [hs]; exact hh4)), na, os, ag, w⟩)
        first
          | exact wpAny_bind (wpAny_pure (wpAny_bind fin))
          | exact wpAny_bind fin
      | @cons x c ts b0 su np p2 hs3 l3 hc hsu r ih =>
        intro w
        obtain ⟨b, hb1, yes, no⟩ := w
        refine wpAny_handleBy_cons (codeAny_handlers_test ?_) (by intro q; cases q)
        have lt : PySem.W.Looks (model X.prog X.w) h3 (typeOf (.ref a)) cls := fun A Q E s k q => wpAny_typeOf_ref (k _ _ he3) (by rw [hz3.1]; exact q)
        have lm := PySem.W.exm_one (M := model X.prog X.w) J3.kIn lt hb1
        have name : ∀ {Q : Value → Shared → Prop} {E : Value → Shared → Prop}, Q c { s' with heap := h3 } → wpAny (model X.prog X.w) (X.A.mark (some (.ref a))) (eval (.Name x np) X.env) Q E { s' with heap := h3 } := fun {Q E} q => by
          obtain ⟨hg, hdbg, hm | ⟨hm, hv, hnn⟩⟩ := hc
          · exact ld_glob (X := X.suite a ((a, o3) :: (X.pn ++ pins))) S3 hg hm q hdbg
          · exact ld_blt (X := X.suite a ((a, o3) :: (X.pn ++ pins))) S3 hg hm hv q hnn hdbg
        refine name (lm.here ?_)
        cases b with
        | false =>
          show wpAny _ X.A (handleBy (.ref a) X.env hs3) _ _ _
          exact ih (no rfl)
        | true =>
          refine codeAny_handlers_suite_as (HandSPX.lands_againZ fl fun h4 fl4 up4 => ?_)
          have J4 : Inv X pins σ1 H1 { s' with heap := h4 } := J.landed nb fl4.1 ((up.trans up3).trans up4) os ag
          obtain ⟨o4, v4, he4, hz4, hd4⟩ := fl4.there
          have S4 := J4.suite he4 hd4 na nL nF
          refine store_ok (X := X.suite a ((a, o4) :: (X.pn ++ pins))) (v := .ref a) S4 hN hi (.inl hln) rfl (fun s5 S5 => ?_) (.inr hln)
          refine wpAny_mono ((hsu a o4 cls d (X.pn ++ pins) hz4 ⟨_, hd4⟩).run [] s5 _ H1 _ S5 (yes rfl a na)) (fun f s6 hsp => ?_) (fun _ _ z => False.elim z)
          have out : ∀ {σ6 : L2.St} {H6 : Hp} {Q : Shared → Prop}, Inv (X.suite a ((a, o4) :: (X.pn ++ pins))) [] σ6 H6 s6 → (∀ s7, Inv X pins (σ6.set i none) H6 s7 → Q s7) →
              wpAny (model X.prog X.w) X.A (do bindName X.env n .none; unbindBehindTheSuite X.env n p2) (fun _ s7 => Q s7) X.xe s6 := fun {σ6 H6 Q} S6 hq => gone_ok (S6.unsuite ok) hN hi hln hq
          match f, hsp with
          | .next, ⟨σ6, H6, S6, q6⟩ => exact out S6 fun s7 J7 => ⟨_, _, J7, q6⟩
          | .brk, ⟨σ6, H6, S6, q6⟩ => exact out S6 fun s7 J7 => ⟨_, _, J7, q6⟩
          | .cont, ⟨σ6, H6, S6, q6⟩ => exact out S6 fun s7 J7 => ⟨_, _, J7, q6⟩
          | .ret u, ⟨v6, σ6, H6, S6, r6, q6⟩ => exact out S6 fun s7 J7 => ⟨_, _, _, J7, r6, q6⟩
    exact go hh w
  · match f, hsp with
    | .next, ⟨σ1, H1, J1, q⟩ => exact wpAny_execs_nil ⟨σ1, H1, J1.ofTry ok, q⟩
    | .brk, ⟨σ1, H1, J1, q⟩ => exact ⟨σ1, H1, J1.ofTry ok, q⟩
    | .cont, ⟨σ1, H1, J1, q⟩ => exact ⟨σ1, H1, J1.ofTry ok, q⟩
    | .ret u, ⟨v, σ1, H1, J1, r, q⟩ => exact ⟨v, σ1, H1, J1.ofTry ok, r, q⟩
end
end Ex

set_option Elab.async false
set_option linter.all false
set_option maxRecDepth 100000
set_option maxHeartbeats 4000000
/-! Own layer: defs that make lambdas; the end of a law whose defs write the tables of their code objects, where no repr is under way. -/
namespace Gu
open PySem PySem.Spec PyProof.Rows L2
section
variable {P : Program} {w : World} {K : PySem.W.Frag} {mg : Str → Option Value} {base : Heap} {CX : CXT} {k : Nat} {f : Addr} {fd : FuncData} {ps : List Str} {sp : Sp}
/-- a def by its body, its code object known -/
theorem okGc {x qual : Str} {params : Arguments} {body : List Stmt} {scope : Scope} {dvs : List V} {kws : List (Str × V)} {N : List Str}
    (F : FunD K x qual params body scope dvs kws f fd) (S : FnScope N ps scope) (len : ∀ vs H Q E, sp vs H Q E → vs.length = ps.length)
    (hbody : ∀ (A : Around) (outer : List Env) (s : Shared) (H : Hp) (vs : List V) (Q : VK) (E : XK),
      RoomG k (A.deeper (envOfC qual scope s.heap.objs.size f fd.code)) → sp vs H Q E →
      ∃ t, PSs (cxOf CX P w K mg base N qual scope f fd.code A outer s H E) body t ∧ t { nx := fun _ H' => Q .non H', rt := Q } (start N vs) H) :
    FnG P w K mg base CX (k + 1) f fd ps sp := by
  obtain ⟨oc, od, dV, kV, doc, pm, an, cdv, ct, osl, rfl, lk, hcd, _, _⟩ := F.ex
  refine ⟨len, fun A outer s H args us vs Q E hr e0 hb rv hsp => ?_⟩
  have KX : K.In s.heap := e0.mod.kin.keeps fun b o e => (e0.bs b o e).1
  have kinds : ∀ y ∈ ps.zip us, scope.names.lookup y.1 = some .local ∨
      (scope.names.lookup y.1 = some .cell ∧ ((cellsFrom (s.heap.objs.size + 1) scope.names []).lookup y.1).isSome = true) := fun ⟨n, v⟩ hy => by
    rcases S.par n (List.of_mem_zip hy).1 with q | q
    · exact .inl q
    · exact .inr ⟨q, PySem.W.cellsFrom_some _ _ _ (.inl q)⟩
  refine codeAny_call_function hr.r.depth (KX _ _ lk) rfl S.co S.gen rfl (PySem.W.codeRec_of KX hcd) (hb _ _ _ _ ?_)
  refine wpAny_newFunctionEnv_cells S.kind kinds fun env he s1 x => ?_
  subst he
  refine ⟨(e0.mod.nolimit.keeps fun b o e => (e0.bs b o e).1).keeps x.toInCall.keep, codeAny_func ?_⟩
  obtain ⟨t, ht, hq⟩ := hbody A outer s H vs Q E (hr.down _) hsp
  have I := inv_start (CX := CX) (E := E) (N := N) (qual := qual) (f := f) (cd := cdv) S hr.r.hd e0 (len _ _ _ _ hsp) rv x
  refine wpAny_mono (ht.run [] s1 (start N vs) H _ I hq) (fun fl s' hs => ?_) fun e s' hs => hs
  match fl, hs with
  | .ret u, ⟨v, σ', H', J, rv', q⟩ => exact ⟨v, H', J.os, J.bare, J.base, J.hok, rv', q⟩
  | .next, ⟨σ', H', J, q⟩ => exact ⟨V.non, H', J.os, J.bare, J.base, J.hok, rfl, q⟩
  | .brk, ⟨_, _, z⟩ => exact z.2.elim
  | .cont, ⟨_, _, z⟩ => exact z.2.elim
end
/-- what stands in the heap before the law's call: the script, and the tables of the code objects cs -/
structure Tab0 (cs : List (Addr × Addr)) (H : Hp) : Prop where
  at_ : ∀ p ∈ cs, H p.2 = some (.tbl #[])
theorem law_goT {P : Program} {w : World} {K : PySem.W.Frag} {mg mb : Str → Option Value} {CX : CXT} {k : Nat} {fa a : Addr} {cs : List (Addr × Addr)} {fd : FuncData} {x : Str} {sp : Sp} {s₁ : Shared} {vs : List Value} {H : Hp}
    (KX : K.In s₁.heap) (hns : s₁.heap.Ns mainGlobals mg) (hb : s₁.heap.Ns builtinsNs mb) (hbb : ∀ x : Str, x ≠ "__name__" → mb x = bootBuiltins x) (hlim : s₁.heap.NoLimit) (hg : s₁.gens = #[])
    (tab : ∀ p ∈ cs, s₁.heap.get? p.2 = some { cls := .none, data := .fields #[] }) (cod : ∀ p ∈ cs, PySem.W.CodeHd s₁.heap p.1 p.2)
    (hbm : ∃ (bm : Addr) (ob : Obj), mg "__builtins__" = some (.ref bm) ∧ bm ≠ builtinsNs ∧ s₁.heap.get? bm = some ob ∧ ob.cls = .type "module" ∧ ob.dict = some builtinsNs ∧ ob.data = .plain)
    (ha : s₁.heap.get? a = some { cls := .type "list", data := .seq vs.toArray }) (hr : RoomG k callerA)
    (F : ∀ base : Heap, K.In base → base.Ns mainGlobals mg → (∀ p ∈ cs, LamX.TabB base mg p.1 p.2) → FnG P w K mg base CX k fa fd [x] sp) (hbind : ∀ (s : Shared) (u : Value), BindsTo s fd ⟨[u], []⟩ [(x, u)])
    (hsp : sp [.ref a] H (fun v _ => v = .bl true) fun _ _ _ => False) (hCX : ∀ e s', CX [] H s₁ (fun _ _ _ => False) e s' → False)
    (hT : Tab0 cs H) (hO : ∀ b, H b = none ∨ b ∈ cs.map (·.2) ∨ ∃ o xs, H b = some (.frz o (.lst xs))) (hok : HOk P w H s₁.heap) (hA : ∀ b, H b ≠ none → b = a ∨ b ∈ cs.map (·.2)) (hK : ∀ b, H b ≠ none → K.lookup b = none) :
    codeAny (model P w) callerA (.call (.ref fa) ⟨[.ref a], []⟩) (fun r s' => r = .ok (.ret (.bool true)) ∧ OldK s₁.heap s'.heap ∧ s'.os = s₁.os ∧ AllBare s'.gens) s₁ := by
  have isT : ∀ b : Addr, b ∈ cs.map (·.2) → s₁.heap.get? b = some { cls := .none, data := .fields #[] } := fun b hb => by
    obtain ⟨p, hp, e⟩ := List.mem_map.mp hb
    rw [← e]
    exact tab p hp
  have un : ∀ {b : Addr} {o : Obj}, s₁.heap.get? b = some o → (∀ zs n, o.data ≠ .seq zs n) → o.data ≠ .fields #[] → H b = none := fun {b o} e h1 h2 => by
    cases q : H b with
    | none => rfl
    | some u =>
      rcases hA b (by rw [q]; exact fun z => nomatch z) with z | z
      · rw [z, ha] at e
        exact (h1 _ _ (congrArg Obj.data (Option.some.inj e)).symm).elim
      · rw [isT b z] at e
        exact (h2 (congrArg Obj.data (Option.some.inj e)).symm).elim
  have nsK : ∀ {b : Addr} {m : Str → Option Value}, s₁.heap.Ns b m → (hidT s₁.heap H).Ns b m := fun {b m} ⟨o, es, ep, e, d, r⟩ =>
    ⟨o, es, ep, hidT_get e (un e (fun zs n z => by rw [d] at z; cases z) (fun z => by rw [d] at z; cases z)), d, r⟩
  have kb : K.In (hidT s₁.heap H) := fun b o e => hidT_get (KX b o e) (by
    cases q : H b with
    | none => rfl
    | some u =>
      rw [hK b (by rw [q]; exact fun z => nomatch z)] at e
      cases e)
  obtain ⟨mc, l1, l2⟩ := hlim
  have tb : ∀ p ∈ cs, LamX.TabB (hidT s₁.heap H) mg p.1 p.2 := fun p hp => by
    refine ⟨?_, ?_, fun z => ?_⟩
    · obtain ⟨o, us, file, tf, flags, tg, inF, text, tt, e1, r1, r2, r3, r4⟩ := cod p hp
      refine ⟨o, us, file, tf, flags, tg, inF, text, tt, hidT_get e1 (un e1 (fun zs n z => by rw [r2] at z; cases z) fun z => ?_), r1, r2, r3, r4⟩
      rw [r2] at z
      cases z
      simp at r3
    · obtain ⟨bm, ob, b1, b2, b3, b4, b5, b6⟩ := hbm
      refine ⟨bm, ob, b1, b2, fun q => ?_, fun q => ?_, hidT_get b3 (un b3 (fun zs n z => by rw [b6] at z; cases z) fun z => by rw [b6] at z; cases z), b4, b5, b6⟩
      · obtain ⟨o, es, ep, e, hd, _⟩ := hns
        rw [q, e] at b3
        cases b3
        rw [hd] at b6
        cases b6
      · rw [q, tab p hp] at b3
        cases b3
        cases b6
    · obtain ⟨o, es, ep, e, hd, _⟩ := hns
      rw [z, tab p hp] at e
      cases e
      cases hd
  have e0 : Env0 P w K mg (hidT s₁.heap H) callerA [] s₁ H :=
    ⟨rfl, ⟨kb, nsK hns, ⟨mb, nsK hb, hbb⟩, ⟨mc, nsK l1, l2⟩⟩, fun b o e => of_hidT e, Nat.le_of_eq (hidT_size _ _), trivial, fun b hb => absurd (show b ∈ ([] : List Addr) from hb) List.not_mem_nil, hok, .of_eq hg⟩
  refine codeAny_mono ((F _ kb (nsK hns) tb).run callerA [] s₁ H ⟨[.ref a], []⟩ [.ref a] [.ref a] _ _ hr e0 (hbind s₁ (.ref a)) (.cons rfl .nil) hsp) fun r s' h => ?_
  match r, h with
  | .error e, h => exact (hCX e s' h).elim
  | .ok (.ret u), h =>
    obtain ⟨v, H', os, bare, un', hok', r', q⟩ := h
    obtain rfl : v = .bl true := q
    obtain rfl : u = Value.bool true := r'
    have key : ∀ b o, b ∉ cs.map (·.2) → s₁.heap.get? b = some o → s'.heap.get? b = some o := fun b o nb e => by
      rcases hO b with z | z | ⟨ob, xs, z⟩
      · exact un'.keep b o e z (fun z => absurd (show b ∈ ([] : List Addr) from z) List.not_mem_nil) (fun z => absurd (show b ∈ ([] : List Addr) from z) List.not_mem_nil)
      · exact absurd z nb
      · obtain ⟨e1, _⟩ := hok b _ z
        obtain ⟨e2, _⟩ := hok' b _ (un'.frzs b ob _ z)
        rw [e] at e1
        rw [Option.some.inj e1]
        exact e2
    have more : ∀ p ∈ cs, ∃ m : Array Value, s'.heap.get? p.2 = some { cls := .none, data := .fields m } := fun p hp => by
      obtain ⟨m, z⟩ := un'.tbls p.2 #[] (hT.at_ p hp)
      exact ⟨_, hok' p.2 _ z⟩
    refine ⟨rfl, ⟨fun b o e => ?_, fun b o e => ?_⟩, os, bare⟩
    · by_cases hb : b ∈ cs.map (·.2)
      · obtain ⟨p, hp, ep⟩ := List.mem_map.mp hb
        obtain ⟨m, hm⟩ := more p hp
        rw [← ep] at e ⊢
        rw [tab p hp] at e
        cases e
        exact .inr (.inl ⟨((cod p hp).tab (tab p hp)).isCodeTable, rfl, #[], m, rfl, by rw [Array.empty_append]; exact hm⟩)
      · exact .inl (key b o hb e)
    · by_cases hb : b ∈ cs.map (·.2)
      · obtain ⟨p, hp, ep⟩ := List.mem_map.mp hb
        obtain ⟨m, hm⟩ := more p hp
        rw [← ep]
        exact ⟨_, hm⟩
      · exact ⟨o, key b o hb e⟩
theorem law_callTG {P : Program} {w : World} {K : PySem.W.Frag} {mg mb : Str → Option Value} {CX : CXT} {k : Nat} {fa a : Addr} {cs : List (Addr × Addr)} {fd : FuncData} {x : Str} {sp : Sp} {s₁ : Shared} {vs : List Value} {ns : List Int}
    (KX : K.In s₁.heap) (hns : s₁.heap.Ns mainGlobals mg) (hb : s₁.heap.Ns builtinsNs mb) (hbb : ∀ x : Str, x ≠ "__name__" → mb x = bootBuiltins x) (hlim : s₁.heap.NoLimit) (hg : s₁.gens = #[])
    (tab : ∀ p ∈ cs, s₁.heap.get? p.2 = some { cls := .none, data := .fields #[] }) (nT : ∀ p ∈ cs, K.lookup p.2 = none) (cod : ∀ p ∈ cs, PySem.W.CodeHd s₁.heap p.1 p.2)
    (hbm : ∃ (bm : Addr) (ob : Obj), mg "__builtins__" = some (.ref bm) ∧ bm ≠ builtinsNs ∧ s₁.heap.get? bm = some ob ∧ ob.cls = .type "module" ∧ ob.dict = some builtinsNs ∧ ob.data = .plain)
    (ha : s₁.heap.get? a = some { cls := .type "list", data := .seq vs.toArray }) (hi : IntsAre vs ns) (hl : ns.length ≤ sizeLine) (hr : RoomG k callerA)
    (F : ∀ base : Heap, K.In base → base.Ns mainGlobals mg → (∀ p ∈ cs, LamX.TabB base mg p.1 p.2) → FnG P w K mg base CX k fa fd [x] sp) (hbind : ∀ (s : Shared) (u : Value), BindsTo s fd ⟨[u], []⟩ [(x, u)])
    (hsp : ∀ H : Hp, Tab0 cs H → SqL K H a (ns.map V.int) → sp [.ref a] H (fun v _ => v = .bl true) fun _ _ _ => False) (hCX : ∀ H e s', CX [] H s₁ (fun _ _ _ => False) e s' → False) :
    codeAny (model P w) callerA (.call (.ref fa) ⟨[.ref a], []⟩) (fun r s' => r = .ok (.ret (.bool true)) ∧ OldK s₁.heap s'.heap ∧ s'.os = s₁.os ∧ AllBare s'.gens) s₁ := by
  have rv := vals_ints hi
  have lenV := hi.length
  have isT : ∀ b : Addr, b ∈ cs.map (·.2) → s₁.heap.get? b = some { cls := .none, data := .fields #[] } ∧ K.lookup b = none := fun b hb => by
    obtain ⟨p, hp, e⟩ := List.mem_map.mp hb
    rw [← e]
    exact ⟨tab p hp, nT p hp⟩
  have aT : a ∉ cs.map (·.2) := fun z => by
    have q := (isT a z).1
    rw [ha] at q
    cases congrArg Obj.data (Option.some.inj q)
  have memT : ∀ p ∈ cs, p.2 ∈ cs.map (·.2) := fun p hp => List.mem_map.mpr ⟨p, hp, rfl⟩
  let H0 : Option HO → Hp := fun z b => if b = a then z else if b ∈ cs.map (·.2) then some (.tbl #[]) else none
  have h_a : ∀ z, H0 z a = z := fun z => if_pos rfl
  have h_t : ∀ z b, b ∈ cs.map (·.2) → H0 z b = some (.tbl #[]) := fun z b hb => (if_neg fun e => aT (by rw [← e]; exact hb)).trans (if_pos hb)
  have h_n : ∀ z b, b ≠ a → b ∉ cs.map (·.2) → H0 z b = none := fun z b n hb => (if_neg n).trans (if_neg hb)
  have t0 : ∀ z, Tab0 cs (H0 z) := fun z => ⟨fun p hp => h_t z _ (memT p hp)⟩
  have two : ∀ z b, H0 z b ≠ none → b = a ∨ b ∈ cs.map (·.2) := fun z b h => by
    by_cases h1 : b = a
    · exact .inl h1
    · by_cases h2 : b ∈ cs.map (·.2)
      · exact .inr h2
      · exact (h (h_n z b h1 h2)).elim
  have tok : ∀ z b u, b ∈ cs.map (·.2) → H0 z b = some u → ObjOk P w (H0 z) s₁.heap b u := fun z b u hb e => by
    rw [h_t z b hb] at e
    cases e
    exact (isT b hb).1
  cases hk : K.lookup a with
  | some o =>
    have e := (KX a o hk).symm.trans ha
    obtain rfl := Option.some.inj e
    refine law_goT (H := H0 none) KX hns hb hbb hlim hg tab cod hbm ha hr F hbind (hsp _ (t0 _) (.inr ⟨_, vs.toArray, _, hk, rfl, rfl, rfl, by rw [List.size_toArray, lenV]; exact hl, by simpa using rv⟩)) (hCX _) (t0 _) (fun b => ?_) (fun b u z => ?_) (two _) (fun b z => ?_)
    · by_cases h2 : b ∈ cs.map (·.2)
      · exact .inr (.inl h2)
      · by_cases h1 : b = a
        · exact .inl (by rw [h1]; exact h_a none)
        · exact .inl (h_n _ b h1 h2)
    · rcases two _ b (by rw [z]; exact fun y => nomatch y) with h1 | h2
      · rw [h1, h_a] at z
        cases z
      · exact tok _ b u h2 z
    · rcases two _ b z with h1 | h2
      · rw [h1, h_a] at z
        exact (z rfl).elim
      · exact (isT b h2).2
  | none =>
    refine law_goT (H := H0 (some (.frz { cls := .type "list", data := .seq vs.toArray } (.lst (ns.map V.int))))) KX hns hb hbb hlim hg tab cod hbm ha hr F hbind (hsp _ (t0 _) (.inl (.inr ⟨_, h_a _⟩))) (hCX _) (t0 _) (fun b => ?_) (fun b u z => ?_) (two _) (fun b z => ?_)
    · by_cases h2 : b ∈ cs.map (·.2)
      · exact .inr (.inl h2)
      · by_cases h1 : b = a
        · exact .inr (.inr ⟨_, _, by rw [h1]; exact h_a _⟩)
        · exact .inl (h_n _ b h1 h2)
    · rcases two _ b (by rw [z]; exact fun y => nomatch y) with h1 | h2
      · rw [h1, h_a] at z
        obtain rfl := Option.some.inj z
        rw [h1]
        exact ⟨ha, by rw [List.length_map]; exact hl, vs, _, rv, ha⟩
      · exact tok _ b u h2 z
    · rcases two _ b z with h1 | h2
      · rw [h1]
        exact hk
      · exact (isT b h2).2
/-- the end of a law with tables, over a head by facts -/
theorem walkGT {l : PySem.W.OpenLaw} {n k : Nat} {q : Program} {loose : List Str} {XP : (Str → Option Value) → Heap → Prop} {YP : World → Heap → Prop} {d : DefRec} {CX : CXT} {x : Str}
    (hn : l.most = some n) (hn2 : n ≤ sizeLine) (hdf : d.params.defaults = []) (hr : RoomG k callerA)
    (F : ∀ (w : World) (mg : Str → Option Value) (fa : Addr) (h : Heap), YP w h → h.Ns mainGlobals mg → mg d.name = some (.ref fa) →
      ∃ (K : PySem.W.Frag) (fd : FuncData) (sp : Sp) (cs : List (Addr × Addr)), K.In h ∧ (∀ p ∈ cs, h.get? p.2 = some { cls := .none, data := .fields #[] }) ∧ (∀ p ∈ cs, K.lookup p.2 = none) ∧ (∀ p ∈ cs, PySem.W.CodeHd h p.1 p.2) ∧ (∀ (s : Shared) (u : Value), BindsTo s fd ⟨[u], []⟩ [(x, u)]) ∧
        (∀ (H : Hp) (a : Addr) (ns : List Int), ns.length ≤ n → Tab0 cs H → SqL K H a (ns.map V.int) → sp [.ref a] H (fun v _ => v = .bl true) fun _ _ _ => False) ∧
        ∀ base : Heap, K.In base → base.Ns mainGlobals mg → (∀ p ∈ cs, LamX.TabB base mg p.1 p.2) → FnG l.prog w K mg base CX k fa fd [x] sp)
    (hCX : ∀ (H : Hp) (s : Shared) (e : Value) (s' : Shared), CX [] H s (fun _ _ _ => False) e s' → False) :
    PySem.W.WalkO q loose XP YP l.row.toRowW d [] (fun f vs => PySem.call f vs) := by
  refine Att.attach_call hn hdf fun w s₀ s₁ mg mb fa o pm cd doc a vs ns G Y ho hd hcd hmg hobj hints hlen hg => ?_
  obtain ⟨K, fd, sp, cs, KX, h1, h2, h3, hb, hsp, hF⟩ := F w mg fa _ Y G.T.g hmg
  exact law_callTG KX G.T.g G.T.b G.T.builtins G.T.nolimit hg h1 h2 h3 G.T.bmain hobj hints (Nat.le_trans hlen hn2) hr hF hb (fun H hT hS => hsp H a ns hlen hT hS) fun H e s' => hCX H s₁ e s'
end Gu

set_option Elab.async false
set_option linter.all false
set_option maxRecDepth 100000
set_option maxHeartbeats 4000000
/-! Own layer: defs and methods that may raise, by their names: called where nothing is let out, in a def that lets errors out, in a try's body; by position and by keywords. -/
namespace Ex
open PySem PySem.Spec PySem.Calls PyProof.Rows L2 Gu
theorem passN {X : Cx} : Passes (L2.CX X.prog X.w) X E0 := fun _ _ _ _ _ _ _ ⟨_, _, _, _, _, _, _, _, _, _, _, _, z⟩ => z.elim
theorem passX {X : Cx} {E : XK} (tk : Takes X (fun cls d _ H => E cls d H)) : Passes (L2.CX X.prog X.w) X E := passes_call tk fun _ _ _ _ h => h
structure DfX (P : Program) (w : World) (K : PySem.W.Frag) (mg : Str → Option Value) (base : Heap) (k : Nat) (x : Str) (ps : List Str) (sp : Sp) : Prop where
  ex : ∃ fd, FnOk P w K mg base (L2.CX P w) k (He.ga K x) fd ps sp ∧ Binds K fd ps []
  gl : mg x = some (.ref (He.ga K x))
  kp : PySem.W.keepIn K (.ref (He.ga K x)) = true
structure MfX (P : Program) (w : World) (K : PySem.W.Frag) (mg : Str → Option Value) (base : Heap) (k : Nat) (c m : Str) (ps : List Str) (sp : Sp) : Prop where
  ex : ∃ fd, FnOk P w K mg base (L2.CX P w) k (He.ma K (He.ga K c) m) fd ps sp ∧ Binds K fd ps []
  cl : Cls K (He.ga K c)
  me : Meth K (He.ga K c) m (He.ma K (He.ga K c) m)
/-- .. called by the keywords ks alone behind self; j: the places of the other parameters among the keywords -/
structure MfXK (P : Program) (w : World) (K : PySem.W.Frag) (mg : Str → Option Value) (base : Heap) (k : Nat) (c m : Str) (ps ks : List Str) (j : List Nat) (sp : Sp) : Prop where
  ex : ∃ fd, FnOk P w K mg base (L2.CX P w) k (He.ma K (He.ga K c) m) fd ps sp ∧ ∀ (s : Shared) (u : Value) (ws : List Value), ws.length = ks.length → BindsTo s fd ⟨[u], ks.zip ws⟩ (ps.zip (u :: j.filterMap fun i => ws[i]?))
  cl : Cls K (He.ga K c)
  me : Meth K (He.ga K c) m (He.ma K (He.ga K c) m)
section
variable {X : Cx} {k j : Nat} {x c m : Str} {ps ks : List Str} {ji : List Nat} {sp : Sp} {p pos apos : Pos} {e o : Expr} {es : List Expr} {kws : List Keyword} {t tk : TA} {ta : TE} {E : XK} {W : WX}
theorem pcallX (D : DfX X.prog X.w X.K X.mg X.base k x ps sp) (hr : Room j X.A) (px : Passes (L2.CX X.prog X.w) X E) (ha : PA X (e :: es) t) (hj : k ≤ j := by decide) (hg : Gl X x := by rfl) (hdb : (x == ("__debug__" : Str)) = false := by decide)
    (he : starEach (e :: es) X.env = (false, eval e X.env) :: starEach es X.env := by rfl) (hpl : (backTo pos (starEach es X.env)).any (·.1) = false := by rfl) :
    PE X (.Call (.Name x p) (e :: es) [] pos) (tCall sp [] E t) := by
  obtain ⟨fd, F, b⟩ := D.ex
  exact pe_call F (hr.mono hj) hg D.gl D.kp b .nil px ha hdb he hpl
theorem pmethX {pl : Sem Bool} (D : MfX X.prog X.w X.K X.mg X.base k c m ps sp) (hr : Room j X.A) (px : Passes (L2.CX X.prog X.w) X E) (he : PE X o ta) (ha : PA X (e :: es) t) (hj : k ≤ j := by decide)
    (hst : starEach (e :: es) X.env = (false, eval e X.env) :: starEach es X.env := by rfl) (hpl : (backTo pos (starEach es X.env)).any (·.1) = false := by rfl)
    (ht : eval (.Call (.Attribute o m apos) (e :: es) [] pos) X.env = (do
      let ov ← eval o X.env
      standAt apos.atName
      let (f, first) ← holding [ov] (getMethod ov m pl)
      callWith pos f first (backTo pos (starEach (e :: es) X.env)) (backToKw pos (keywordEach [] X.env))) := by rfl) :
    PE X (.Call (.Attribute o m apos) (e :: es) [] pos) (tMeth (He.ga X.K c) m sp [] E ta t) := by
  obtain ⟨fd, F, b⟩ := D.ex
  exact pe_meth he D.cl D.me F (hr.mono hj) b .nil px ha hst hpl ht
/-- within a comprehension's block the reading names K by hand -/
theorem pmethXB {pl : Sem Bool} (K : PySem.W.Frag) (D : MfX X.prog X.w X.K X.mg X.base k c m ps sp) (hr : Room j X.A) (px : Passes (L2.CX X.prog X.w) X E) (he : PE X o ta) (ha : PA X (e :: es) t) (hj : k ≤ j := by decide) (hK : X.K = K := by rfl)
    (hst : starEach (e :: es) X.env = (false, eval e X.env) :: starEach es X.env := by rfl) (hpl : (backTo pos (starEach es X.env)).any (·.1) = false := by rfl)
    (ht : eval (.Call (.Attribute o m apos) (e :: es) [] pos) X.env = (do
      let ov ← eval o X.env
      standAt apos.atName
      let (f, first) ← holding [ov] (getMethod ov m pl)
      callWith pos f first (backTo pos (starEach (e :: es) X.env)) (backToKw pos (keywordEach [] X.env))) := by rfl) :
    PE X (.Call (.Attribute o m apos) (e :: es) [] pos) (tMeth (He.ga K c) m sp [] E ta t) := by
  subst hK
  exact pmethX D hr px he ha hj hst hpl ht
def tMethKw (C : Addr) (m : Str) (sp : Sp) (n : Nat) (j : List Nat) (E : XK) (ta : TE) (tk : TA) : TE := fun σ H Q => ta σ H fun x H1 => ∃ a dx fs, x = .ref a ∧ H1 a = some (.ins C dx fs) ∧ fs.lookup m = none ∧
  tk σ H1 fun zs H2 => zs.length = n ∧ sp (x :: j.filterMap fun i => zs[i]?) H2 Q E
theorem pmethXK {pl : Sem Bool} (D : MfXK X.prog X.w X.K X.mg X.base k c m ps ks ji sp) (hr : Room j X.A) (px : Passes (L2.CX X.prog X.w) X E) (he : PE X o ta) (hkw : PK X kws tk) (hj : k ≤ j := by decide)
    (hall : (backToKw pos (keywordEach kws X.env)).all (·.1.isSome) = true := by rfl) (hks : (backToKw pos (keywordEach kws X.env)).filterMap (·.1) = ks := by rfl)
    (hpl : ((backTo pos (starEach [] X.env)).any (·.1) || (backToKw pos (keywordEach kws X.env)).any (·.1.isNone)) = false := by rfl)
    (ht : eval (.Call (.Attribute o m apos) [] kws pos) X.env = (do
      let ov ← eval o X.env
      standAt apos.atName
      let (f, first) ← holding [ov] (getMethod ov m pl)
      callWith pos f first (backTo pos (starEach [] X.env)) (backToKw pos (keywordEach kws X.env))) := by rfl) :
    PE X (.Call (.Attribute o m apos) [] kws pos) (tMethKw (He.ga X.K c) m sp ks.length ji E ta tk) := by
  obtain ⟨fd, F, b⟩ := D.ex
  refine ⟨fun pins s σ H Q I h => PySem.W.methodCall_KW (pl := pl) (thn (he.run pins s σ H _ I h) fun u s1 ⟨x, H1, I1, rx, a, dx, fs, ex, ea, l, q⟩ => ?_) ht⟩
  subst ex
  obtain rfl : u = Value.ref a := rx
  refine getmeth_ok I1 ea D.cl D.me l (PySem.W.callWith_KW0 (first := [.ref a]) (h₀ := X.base) I.ok.mod.kin D.me.kp hall (thn (hkw.run pos pins s1 σ H1 _ I1 q) fun ws s2 ⟨zs, H2, I2, rz, hz, q2⟩ => ⟨I2.kIn, ?_⟩) hpl)
  rw [hks]
  have rv : Vals (V.ref a :: ji.filterMap fun i => zs[i]?) (Value.ref a :: ji.filterMap fun i => ws[i]?) := .cons rfl (vals_pick rz ji)
  refine wpAny_call (codeAny_mono (F.run X.A X.stack s2 H2 ⟨[Value.ref a] ++ [], ks.zip ws⟩ _ _ Q E (hr.mono hj) I2.env0 (b s2 (.ref a) ws (rz.length.symm.trans hz)) rv q2) fun r s' hq => ?_)
  match r, hq with
  | .error e, hq => exact px pins σ H2 s2 e s' I2 hq
  | .ok (.ret u), hq => exact I2.after hq
end
section
variable {X : Cx} {k j : Nat} {c m : Str} {ps : List Str} {sp : Sp} {pos apos : Pos} {e o : Expr} {es : List Expr} {t : TA} {ta : TE} {W : WX}
/-- o.m(e, ..) in a try's body -/
def tMethT (C : Addr) (m : Str) (sp : Sp) (E : L2.St → XK) (ta : TE) (t : TA) : TE := fun σ H Q => ta σ H fun x H1 => ∃ a dx fs, x = .ref a ∧ H1 a = some (.ins C dx fs) ∧ fs.lookup m = none ∧ t σ H1 fun vs H2 => sp (x :: vs) H2 Q (E σ)
theorem pmethT {pl : Sem Bool} (D : MfX X.prog X.w X.K X.mg X.base k c m ps sp) (hr : Room j X.A) (tk : Takes X W) (he : PE X o ta) (ha : PA X (e :: es) t) (hj : k ≤ j := by decide)
    (hst : starEach (e :: es) X.env = (false, eval e X.env) :: starEach es X.env := by rfl) (hpl : (backTo pos (starEach es X.env)).any (·.1) = false := by rfl)
    (ht : eval (.Call (.Attribute o m apos) (e :: es) [] pos) X.env = (do
      let ov ← eval o X.env
      standAt apos.atName
      let (f, first) ← holding [ov] (getMethod ov m pl)
      callWith pos f first (backTo pos (starEach (e :: es) X.env)) (backToKw pos (keywordEach [] X.env))) := by rfl) :
    PE X (.Call (.Attribute o m apos) (e :: es) [] pos) (tMethT (He.ga X.K c) m sp (WE W) ta t) := by
  obtain ⟨fd, F, b⟩ := D.ex
  refine ⟨fun pins s σ H Q I h => PySem.W.methodCall_KW (pl := pl) (thn (he.run pins s σ H _ I h) fun u s1 ⟨x, H1, I1, rx, a, dx, fs, ex, ea, l, q⟩ => ?_) ht⟩
  subst ex
  obtain rfl : u = Value.ref a := rx
  refine getmeth_ok I1 ea D.cl D.me l (PySem.W.callWith_K (first := [.ref a]) (h₀ := X.base) I.ok.mod.kin D.me.kp (thn (ha.run pos pins s1 σ H1 _ I1 q) fun us s2 ⟨vs, H2, I2, r, q2⟩ => ⟨I2.kIn, ?_⟩) hst hpl)
  exact run_fnS (E := WE W) (us := .ref a :: us) (vs := .ref a :: vs) F (hr.mono hj) b (passAt tk σ) I2 (.cons rfl r) q2
end
/-! ### facts of an error's class over any base -/
def oexGB (B : String) (K : PySem.W.Frag) (C : Addr) : Bool := match K.lookup C with
  | some ⟨.type "type", _, .cls cd, sl⟩ => (match cd.mro, sl.toList with
    | .ref c :: bm, [_, _, _, _, some (.builtin n), _] => (c == C && n == B ++ ".__new__") && ((!cd.hasDel && cd.hasDict) && refsB (tailE B) bm)
    | _, _ => false)
  | _ => false
theorem oexGB_ok {B : String} {K : PySem.W.Frag} {C : Addr} (h : oexGB B K C = true) :
    ∃ nm q N bs bm sn sub ab col dd k0 k1 k2 k3 k5, K.lookup C = some (excClassObj nm q C N bs bm true sn sub ab col dd k0 k1 k2 k3 k5 (B ++ ".__new__")) ∧ refsB (tailE B) bm = true := by
  unfold oexGB at h
  split at h
  · rename_i dd cd sl ho
    split at h
    · rename_i c bm k0 k1 k2 k3 n k5 hm hs
      obtain ⟨⟨h1, h2⟩, h3⟩ := (He.ba h).imp_left He.ba
      obtain ⟨h4, h5⟩ := He.ba h3
      obtain ⟨h6, h7⟩ := He.ba h4
      have e1 : c = C := beq_iff_eq.mp h1
      have e2 : n = B ++ ".__new__" := beq_iff_eq.mp h2
      have e3 : cd.hasDel = false := by simpa using h6
      subst e1 e2
      obtain ⟨nm, bs, mro, ns, qn, hd, sn, sub, ab, col, del⟩ := cd
      dsimp only at hm e3 h7
      subst hm e3 h7
      have e4 : sl = #[k0, k1, k2, k3, some (.builtin (B ++ ".__new__")), k5] := by
        obtain ⟨l⟩ := sl
        simp only at hs
        rw [hs]
      subst e4
      exact ⟨nm, qn, ns, bs, bm, sn, sub, ab, col, dd, k0, k1, k2, k3, k5, ho, h5⟩
    · cases h
  · cases h
def bOf (a : Option Bool) (b : Bool) : Bool := decide (a = some b)
theorem bOf_ok {a : Option Bool} {b : Bool} (h : bOf a b = true) : a = some b := of_decide_eq_true h
/-- what the rules ask of an error's class at C, over B, with the field n -/
def errG (B : String) (K : PySem.W.Frag) (C : Addr) (n : Str) : Bool := oexGB B K C && (He.eqO (PySem.W.findIn K (.ref C) "__setattr__") (some (some (.builtin "object.__setattr__"))) && (bOf (PySem.W.subIn K (.ref C) (.type "BaseException")) true &&
  (decide (PySem.W.typeIn K (.ref C) = some (.type "type")) && (PySem.W.keepIn K (.ref C) && (xfB K C && (He.eqO (PySem.W.findIn K (.ref C) "__class__") (some (some (.builtin "object.__class__"))) &&
  (He.eqO (PySem.W.specialIn K (.builtin "object.__class__") "__get__") (some (some (.builtin "getset_descriptor.__get__"))) && (bOf (PySem.W.takesIn K (.builtin "object.__class__")) true && (bOf (PySem.W.mroIn K C (.type "object")) true &&
  (He.eqO (PySem.W.findIn K (.ref C) n) (some none) && (He.eqO (PySem.W.findIn K (.ref C) "__init__") (some (some (.ref (He.ma K C "__init__")))) && (decide (PySem.W.typeIn K (.ref (He.ma K C "__init__")) = some (.type "function")) && bOf (PySem.W.exmOne K (.ref C) (.ref C)) true))))))))))))
structure ErrG (B : String) (K : PySem.W.Frag) (C : Addr) (n : Str) : Prop where
  ox : OexG B (tailE B) K C
  xf : XfC K C
  ec : ExcC K C
  no : PySem.W.findIn K (.ref C) n = some none
  ii : PySem.W.findIn K (.ref C) "__init__" = some (some (.ref (He.ma K C "__init__")))
  ti : PySem.W.typeIn K (.ref (He.ma K C "__init__")) = some (.type "function")
  em : PySem.W.exmOne K (.ref C) (.ref C) = some true
theorem errG_ok {B : String} {K : PySem.W.Frag} {C : Addr} {n : Str} (b : BaseE B (tailE B)) (h : errG B K C n = true) : ErrG B K C n := by
  obtain ⟨a1, h⟩ := He.ba h
  obtain ⟨a2, h⟩ := He.ba h
  obtain ⟨a3, h⟩ := He.ba h
  obtain ⟨a4, h⟩ := He.ba h
  obtain ⟨a5, h⟩ := He.ba h
  obtain ⟨a6, h⟩ := He.ba h
  obtain ⟨a7, h⟩ := He.ba h
  obtain ⟨a8, h⟩ := He.ba h
  obtain ⟨a9, h⟩ := He.ba h
  obtain ⟨a10, h⟩ := He.ba h
  obtain ⟨a11, h⟩ := He.ba h
  obtain ⟨a12, h⟩ := He.ba h
  obtain ⟨a13, a14⟩ := He.ba h
  have x := xfB_ok a6
  exact ⟨⟨b, oexGB_ok a1, He.eqO_ok a2, bOf_ok a3, of_decide_eq_true a4, a5⟩, x, ⟨x.ga, x.gg, x.exC, x.hdC, He.eqO_ok a7, He.eqO_ok a8, bOf_ok a9, bOf_ok a10⟩, He.eqO_ok a11, He.eqO_ok a12, of_decide_eq_true a13, bOf_ok a14⟩
/-- an error's __init__ with one field -/
def spErr (C : Addr) (n : Str) : Sp := fun vs H Q _ => ∃ (a : Addr) (v : V), vs = [.ref a, v] ∧ H a = some (exo a C none) ∧ ∀ dx, H dx = none → dx ≠ a → Q .non (upd (upd H dx (exd dx [(n, v)])) a (exo a C (some dx)))
/-- the error's maker, for a raise -/
structure Ei (P : Program) (w : World) (K : PySem.W.Frag) (mg : Str → Option Value) (base : Heap) (c n : Str) : Prop where
  ex : ∃ fd, FnOk P w K mg base CX0 1 (He.ma K (He.ga K c) "__init__") fd ["self", n] (spErr (He.ga K c) n) ∧ Binds K fd ["self", n] []
theorem heap_err {H : Hp} {a dx : Addr} {fs : List (Str × V)} {o1 o2 o3 : HO} (ha : H a = none) (hd : H dx = none) : Same H (upd (del (upd (upd (upd H a o1) dx o2) a o3) a) dx (.xd fs)) := fun b o e => by
  have nb : b ≠ a := ne_of_none e ha
  have nd : b ≠ dx := ne_of_none e hd
  rw [upd_ne nd, del_ne nb, upd_ne nb, upd_ne nd, upd_ne nb]
  exact e
/-- what is asked at a raise of C(v): that the def's own wish of errors holds of it -/
theorem raise_ok {K : PySem.W.Frag} {c n : Str} {v : V} {H : Hp} {E : XK} (q : ∀ d H', H d = none → Same H H' → H' d = some (.xd [(n, v)]) → E (.ref (He.ga K c)) (some d) H') :
    ∀ a, H a = none → spErr (He.ga K c) n (.ref a :: ([v] ++ [])) (upd H a (exo a (He.ga K c) none))
      (fun u H2 => u = .non ∧ ∃ (d : Addr) (fs : List (Str × V)), H2 a = some (exo a (He.ga K c) (some d)) ∧ H2 d = some (exd d fs) ∧ H d = none ∧ E (.ref (He.ga K c)) (some d) (upd (del H2 a) d (.xd fs))) (fun _ _ _ => False) := fun a ha => by
  refine ⟨a, v, rfl, upd_same, fun dx hdx ne => ⟨rfl, dx, [(n, v)], upd_same, ?_, ?_, ?_⟩⟩
  · rw [upd_ne ne, upd_same]
  · rw [upd_ne ne] at hdx
    exact hdx
  · rw [upd_ne ne] at hdx
    exact q dx _ hdx (heap_err ha hdx) upd_same
end Ex

set_option Elab.async false
set_option linter.all false
set_option maxRecDepth 100000
set_option maxHeartbeats 4000000
/-! Own layer: classmethods by their names (also in a try's body, also by keywords), making an object through a local name or by keywords. -/
namespace Ex
open PySem PySem.Spec PySem.Calls PyProof.Rows L2 Gu
theorem fnR_of {P : Program} {w : World} {K : PySem.W.Frag} {mg : Str → Option Value} {base : Heap} {CX : CXT} {k : Nat} {f : Addr} {fd : FuncData} {ps : List Str} {sp : Sp} (F : FnOk P w K mg base CX k f fd ps sp) (b : Binds K fd ps []) : FnR P w K mg base CX k f sp :=
  fun A outer s H us vs Q E hr e0 rv h => by
    have hl := F.len _ _ _ _ h
    have KX : K.In s.heap := e0.mod.kin.keeps fun b o e => (e0.bs b o e).1
    have z := b s us KX (by rw [List.append_nil, ← rv.length]; exact hl)
    rw [List.append_nil] at z
    exact F.run A outer s H ⟨us, []⟩ us vs Q E hr e0 z rv h
/-- the classmethod m of the class c -/
structure Cm (P : Program) (w : World) (K : PySem.W.Frag) (mg : Str → Option Value) (base : Heap) (CX : CXT) (k : Nat) (c m : Str) (ps : List Str) (sp : Sp) : Prop where
  rd : ClX.CRead K (He.ga K c) (.type "type")
  ex : ∃ (p g : Addr) (fd : FuncData), ClX.CMet K (He.ga K c) (.type "type") m p g ∧ FnOk P w K mg base CX k g fd ps sp ∧ Binds K fd ps []
def tCMethT (C : Addr) (sp : Sp) (E : L2.St → XK) (ta : TE) (t : TA) : TE := fun σ H Q => ta σ H fun x H1 => x = .ref C ∧ t σ H1 fun vs H2 => sp (.ref C :: vs) H2 Q (E σ)
section
variable {X : Cx} {k j i : Nat} {c m x : Str} {ps : List Str} {sp : Sp} {p pos apos : Pos} {o e : Expr} {es : List Expr} {kws : List Keyword} {t : TA} {ta : TE} {W : WX} {E : XK} {pl : Sem Bool}
open ClX in
theorem pcmT (D : Cm X.prog X.w X.K X.mg X.base (L2.CX X.prog X.w) k c m ps sp) (hr : Room j X.A) (tk : Takes X W) (he : PE X o ta) (ha : PA X (e :: es) t) (hj : k ≤ j := by decide)
    (hst : starEach (e :: es) X.env = (false, eval e X.env) :: starEach es X.env := by rfl) (hpl : (backTo pos (starEach es X.env)).any (·.1) = false := by rfl)
    (ht : eval (.Call (.Attribute o m apos) (e :: es) [] pos) X.env = (do
      let ov ← eval o X.env
      standAt apos.atName
      let (f, first) ← holding [ov] (getMethod ov m pl)
      callWith pos f first (backTo pos (starEach (e :: es) X.env)) (backToKw pos (keywordEach [] X.env))) := by rfl) :
    PE X (.Call (.Attribute o m apos) (e :: es) [] pos) (tCMethT (He.ga X.K c) sp (WE W) ta t) := by
  obtain ⟨pa, g, fd, cm, F, b⟩ := D.ex
  have R := fnR_of F b
  refine ⟨fun pins s σ H Q I h => ?_⟩
  refine PySem.W.methodCall_KW (pl := pl) (thn (he.run pins s σ H _ I h) fun u s1 ⟨x, H1, I1, rx, ex, q⟩ => ?_) ht
  subst ex
  obtain rfl : u = Value.ref (He.ga X.K c) := rx
  refine getmethcm_ok I1 D.rd cm fun s2 I2 => ?_
  refine callwith_cm I2 (base_none I1 (Nat.le_refl _)) cm.fi (thn (ha.run pos _ s2 σ H1 _ I2 q) fun us s3 ⟨vs, H2, I3, rv, q2⟩ => ⟨⟨pin_at I3, I3.kIn⟩, ?_⟩) hst hpl
  have z : wpAny (model X.prog X.w) X.A (call (.ref s1.heap.objs.size) us) (EP X ((s1.heap.objs.size, PySem.W.methodObj (.ref g) (.ref (He.ga X.K c))) :: pins) σ Q) X.xe s3 := by
    refine wpAny_call (PySem.W.method_call (pin_at I3) (codeAny_mono (R X.A X.stack s3 H2 (.ref (He.ga X.K c) :: us) (.ref (He.ga X.K c) :: vs) Q (WE W σ) (hr.mono hj) I3.env0 (.cons rfl rv) q2) fun r s' hq => ?_))
    match r, hq with
    | .error e, hq => exact passAt tk σ _ H2 s3 e s' I3 hq
    | .ok (.ret v), hq => exact I3.after hq
  exact thn z fun _ _ y => unpinE y
theorem pcm (D : Cm X.prog X.w X.K X.mg X.base (L2.CX X.prog X.w) k c m ps sp) (hr : Room j X.A) (hx : Passes (L2.CX X.prog X.w) X E) (he : PE X o ta) (ha : PA X (e :: es) t) (hj : k ≤ j := by decide)
    (hst : starEach (e :: es) X.env = (false, eval e X.env) :: starEach es X.env := by rfl) (hpl : (backTo pos (starEach es X.env)).any (·.1) = false := by rfl)
    (ht : eval (.Call (.Attribute o m apos) (e :: es) [] pos) X.env = (do
      let ov ← eval o X.env
      standAt apos.atName
      let (f, first) ← holding [ov] (getMethod ov m pl)
      callWith pos f first (backTo pos (starEach (e :: es) X.env)) (backToKw pos (keywordEach [] X.env))) := by rfl) :
    PE X (.Call (.Attribute o m apos) (e :: es) [] pos) (ClX.tCMeth (He.ga X.K c) sp E ta t) := by
  obtain ⟨pa, g, fd, cm, F, b⟩ := D.ex
  exact ClX.pe_cmeth he D.rd cm (fnR_of F b) (hr.mono hj) hx ha hst hpl ht
/-- C(e, ..), C in a local slot, its __init__ may raise -/
def tMakeL (i : Nat) (C : Addr) (sp : Sp) (E : L2.St → XK) (t : TA) : TE := fun σ H Q => σ[i]? = some (some (.ref C)) ∧ t σ H fun vs H1 => ∀ x dx, H1 x = none → H1 dx = none → dx ≠ x →
  sp (.ref x :: vs) (upd (upd H1 dx (.own x)) x (.ins C dx [])) (fun v H2 => v = .non ∧ Q (.ref x) H2) (E σ)
structure KfX (P : Program) (w : World) (K : PySem.W.Frag) (mg : Str → Option Value) (base : Heap) (CX : CXT) (k : Nat) (c : Str) (ps : List Str) (sp : Sp) : Prop where
  ex : ∃ fd, FnOk P w K mg base CX k (He.ma K (He.ga K c) "__init__") fd ps sp ∧ Binds K fd ps []
  gl : mg c = some (.ref (He.ga K c))
  mkr : Mk K (He.ga K c) (He.ma K (He.ga K c) "__init__")
def tMakeT (C : Addr) (sp : Sp) (E : L2.St → XK) (t : TA) : TE := fun σ H Q => t σ H fun vs H1 => ∀ x dx, H1 x = none → H1 dx = none → dx ≠ x →
  sp (.ref x :: vs) (upd (upd H1 dx (.own x)) x (.ins C dx [])) (fun v H2 => v = .non ∧ Q (.ref x) H2) (E σ)
theorem run_makeT {pins : List (Addr × Obj)} {σ : L2.St} {H1 : Hp} {s1 : Shared} {Q : VK} {us : List Value} {vs : List V} {CX : CXT} {E : L2.St → XK} (D : KfX X.prog X.w X.K X.mg X.base CX k c ps sp) (hr : Room j X.A) (hx : PassesAt CX X σ (E σ)) (hj : k + 1 ≤ j) (I1 : Inv X pins σ H1 s1) (r : Vals vs us)
    (q : ∀ x dx, H1 x = none → H1 dx = none → dx ≠ x → sp (.ref x :: vs) (upd (upd H1 dx (.own x)) x (.ins (He.ga X.K c) dx [])) (fun v H2 => v = .non ∧ Q (.ref x) H2) (E σ)) :
    wpAny (model X.prog X.w) X.A (call (.ref (He.ga X.K c)) us) (EP X pins σ Q) X.xe s1 := by
  obtain ⟨fd, F, hb⟩ := D.ex
  have hq := q (s1.heap.objs.size + 1) s1.heap.objs.size (I1.hok.fresh (Nat.le_succ _)) (I1.hok.fresh (Nat.le_refl _)) (Nat.ne_of_lt (Nat.lt_succ_self _))
  have J := Inv.made (C := He.ga X.K c) I1
  have r2 : Vals (V.ref (s1.heap.objs.size + 1) :: vs) (Value.ref (s1.heap.objs.size + 1) :: us) := .cons rfl r
  have hl : ((Value.ref (s1.heap.objs.size + 1) :: us) ++ []).length = ps.length := by
    rw [List.append_nil, ← r2.length]
    exact F.len _ _ _ _ hq
  have hb2 := hb _ (Value.ref (s1.heap.objs.size + 1) :: us) J.kIn hl
  rw [List.append_nil] at hb2
  refine wpAny_call (make_map (f := He.ma X.K (He.ga X.K c) "__init__") I1.kIn D.mkr.makes D.mkr.init (beq_iff_eq.mp D.mkr.fn)
    (codeAny_mono (F.run _ X.stack _ _ ⟨Value.ref (s1.heap.objs.size + 1) :: us, []⟩ _ _ _ _ ((hr.mono hj).make (He.ga X.K c) us []) (J.env0.make (He.ga X.K c) us []) hb2 r2 hq) fun o s' z => ?_))
  match o, z with
  | .error er, z => exact hx pins _ _ er s' J z
  | .ok (.ret u), z =>
    obtain ⟨v, H', I3, rv, ev, q3⟩ := J.after z
    subst ev
    exact ⟨rv, ⟨V.ref (s1.heap.objs.size + 1), H', I3, rfl, q3⟩⟩
theorem pmakeT {CX : CXT} {E : L2.St → XK} (D : KfX X.prog X.w X.K X.mg X.base CX k c ps sp) (hr : Room j X.A) (hx : ∀ σ, PassesAt CX X σ (E σ)) (ha : PA X (e :: es) t) (hj : k + 1 ≤ j := by decide) (hg : Gl X c := by rfl) (hdb : (c == ("__debug__" : Str)) = false := by decide)
    (he : starEach (e :: es) X.env = (false, eval e X.env) :: starEach es X.env := by rfl) (hpl : (backTo pos (starEach es X.env)).any (·.1) = false := by rfl) :
    PE X (.Call (.Name c p) (e :: es) [] pos) (tMakeT (He.ga X.K c) sp E t) :=
  ⟨fun pins s σ H Q I h => wpAny_Call_Name_kw (ld_glob I hg D.gl (PySem.W.callWith_K (h₀ := X.base) I.ok.mod.kin D.mkr.kp
    (thn (ha.run pos pins s σ H _ I h) fun us s1 ⟨vs, H1, I1, r, q⟩ => ⟨I1.kIn, run_makeT D hr (hx σ) hj I1 r q⟩) he hpl) hdb)⟩
theorem pmakeLT {CX : CXT} {E : L2.St → XK} (D : KfX X.prog X.w X.K X.mg X.base CX k c ps sp) (hr : Room j X.A) (hx : ∀ σ, PassesAt CX X σ (E σ)) (hN : X.N[i]? = some x) (hv : Vis X.env.scope x) (ha : PA X (e :: es) t) (hj : k + 1 ≤ j := by decide)
    (hdb : (x == ("__debug__" : Str)) = false := by decide) (hcd : (x == ("__classdict__" : Str)) = false := by decide)
    (he : starEach (e :: es) X.env = (false, eval e X.env) :: starEach es X.env := by rfl) (hpl : (backTo pos (starEach es X.env)).any (·.1) = false := by rfl) :
    PE X (.Call (.Name x p) (e :: es) [] pos) (tMakeL i (He.ga X.K c) sp E t) := by
  refine ⟨fun pins s σ H Q I h => ?_⟩
  obtain ⟨hs, ht⟩ := h
  refine wpAny_Call_Name_kw (thn ((pe_var (pos := p) hN hv hdb hcd).run pins s σ H (fun v H1 => v = .ref (He.ga X.K c) ∧ H1 = H) I ⟨.ref (He.ga X.K c), hs, rfl, rfl⟩) fun u s1 ⟨v, H1, I1, r1, q1⟩ => ?_)
  obtain ⟨rfl, rfl⟩ := q1
  cases r1
  exact PySem.W.callWith_K (h₀ := X.base) I.ok.mod.kin D.mkr.kp (thn (ha.run pos pins s1 σ _ _ I1 ht) fun us s2 ⟨vs, H2, I2, r, q⟩ => ⟨I2.kIn, run_makeT D hr (hx σ) hj I2 r q⟩) he hpl
end
/-- a def by its body, for calls while an exception is handled -/
theorem okH {P : Program} {w : World} {K : PySem.W.Frag} {mg : Str → Option Value} {base : Heap} {CX : CXT} {x qual : Str} {params : Arguments} {body : List Stmt} {scope : Scope} {dvs : List V} {kws : List (Str × V)} {f : Addr} {fd : FuncData} {N ps : List Str} {k : Nat} {sp : Sp}
    (F : FunD K x qual params body scope dvs kws f fd) (S : FnScope N ps scope) (len : ∀ vs H Q E, sp vs H Q E → vs.length = ps.length)
    (hbody : ∀ (cdv : Value) (A : Around) (outer : List Env) (s : Shared) (H : Hp) (vs : List V) (Q : VK) (E : XK) (p : Addr × Obj), L2H.Hot1 A p → L2H.RoomH k (A.deeper (envOfC qual scope s.heap.objs.size f cdv)) → sp vs H Q E →
      ∃ t, PSs (L2H.cxH CX P w K mg base N qual scope f cdv A outer s H E p) body t ∧ t { nx := fun _ H' => Q .non H', rt := Q } (L2.start N vs) H) : L2H.FnH P w K mg base CX (k + 1) f fd ps sp := by
  obtain ⟨oc, od, dV, kV, doc, pm, an, cdv, ct, osl, rfl, lk, hcd, _, _⟩ := F.ex
  exact L2H.fn_ofH lk hcd S len fun A outer s H vs Q E p hot hr hsp => hbody cdv A outer s H vs Q E p hot hr hsp
end Ex

set_option Elab.async false
set_option linter.all false
set_option maxRecDepth 100000
set_option maxHeartbeats 4000000
/-! Own layer: raises whose exception has no context, as a suite that raises anew wants them. -/
namespace Ex
open PySem PySem.Spec PySem.Calls PyProof.Rows L2 Gu
section
variable {X : Cx} {o e : Expr} {es : List Expr} {to te : TE} {ta : TA} {f : Str} {p p' pos : Pos} {B : String} {tl : List Value}
/-- C(e, ..) for a raise, C's own __init__ keeping sp -/
theorem pmk_oexN {CX : CXT} {x : Str} {C fI : Addr} {k : Nat} {fd : FuncData} {ps : List Str} {sp : Sp} {ds : List Value} {dvs : List V} (T : OexG B tl X.K C) (iC : PySem.W.findIn X.K (.ref C) "__init__" = some (some (.ref fI))) (tI : PySem.W.typeIn X.K (.ref fI) = some (.type "function"))
    (F1 : FnOk X.prog X.w X.K X.mg X.base CX k fI fd ps sp) (hr : Room (k + 1) X.A) (hb : Binds X.K fd ps ds) (hd : Vals dvs ds) (hx : Passes CX X (fun _ _ _ => False)) (hg : Gl X x) (hm : X.mg x = some (.ref C)) (ha : PA X (e :: es) ta)
    (hdb : (x == ("__debug__" : Str)) = false := by decide) (he : starEach (e :: es) X.env = (false, eval e X.env) :: starEach es X.env := by rfl) (hpl : (backTo pos (starEach es X.env)).any (·.1) = false := by rfl) :
    L2N.PMk X (.Call (.Name x p) (e :: es) [] pos) (tMkO C sp dvs ta) := by
  intro pins s σ H Q I h
  obtain ⟨nm, q, N, bs, bm, sn, sub, ab, col, dd, k0, k1, k2, k3, k5, hC, mr⟩ := T.cls
  refine wpAny_Call_Name_kw (ld_glob I hg hm (PySem.W.callWith_K (h₀ := X.base) I.ok.mod.kin T.kC (thn (ha.run pos pins s σ H _ I h) fun us s1 ⟨vs, H1, I1, r1, hz, q1⟩ => ⟨I1.kIn, ?_⟩) he hpl) hdb)
  show wpAny _ _ (call (.ref C) us) _ _ _
  obtain ⟨hp, g, dr, tk, os⟩ := s1
  generalize en : hp.objs.size + 1 = n
  have sz : hp.objs.size ≤ n := by omega
  have hq := q1 n (I1.hok.fresh sz)
  generalize ehp : (hp.push (PySem.W.kdv_tup us)).push (PySem.HandSPX.excO C hp.objs.size) = hp2
  have kk : ∀ b o, hp.get? b = some o → hp2.get? b = some o := fun b o e => by
    rw [← ehp]
    exact Heap.get?_push_of_some _ (Heap.get?_push_of_some _ e)
  have hget : hp2.get? n = some (PySem.HandSPX.excO C hp.objs.size) := by
    rw [← ehp, ← en]
    heap_get
  have I2 : Inv X pins σ (upd H1 n (exo n C none)) ⟨hp2, g, dr, tk, os⟩ := I1.laid (t' := tk) kk sz (exo_ok hget)
  have r2 : Vals (V.ref n :: (vs ++ dvs)) (Value.ref n :: (us ++ ds)) := .cons rfl (r1.append hd)
  have hl : (Value.ref n :: us ++ ds).length = ps.length := r2.length.symm.trans (F1.len _ _ _ _ hq)
  have few : us.length ≤ sizeLine := by
    rw [← Paired.length r1, sizeLine_eq]
    omega
  refine wpAny_call (PySem.HandSPX.call_own T.base.ex (fun Y => T.base.has Y bm mr) (I1.kIn _ _ hC) (PySem.W.looks_findIn I1.kIn iC) (fun self => PySem.W.bind_fn I1.kIn self tI) few ?_)
  rw [en, ehp]
  refine codeAny_mono (F1.run _ X.stack _ _ ⟨Value.ref n :: us, []⟩ (Value.ref n :: (us ++ ds)) _ _ (fun _ _ _ => False) (hr.make C us []) (I2.env0.make C us []) (hb _ (Value.ref n :: us) I2.kIn hl) r2 hq) fun r s' hq' => ?_
  match r, hq' with
  | .error er, hq' => exact hx pins σ _ _ er s' I2 hq'
  | .ok (.ret u), hq' =>
    obtain ⟨v, H2, os2, bare2, un2, hok2, rv, ev, d, fs, ea, ed, hd1, q2⟩ := hq'
    subst ev
    obtain ⟨h2, g2, d2, t2, os'⟩ := s'
    obtain ⟨t0, G, J, kG, ge, hoe, na⟩ := mk_end0 (d2 := d2) (t2 := t2) I1 sz kk un2 hok2 os2 bare2 ea ed hd1
    exact ⟨rv, ⟨n, _, _, ⟨G, g2, d2, t2, os'⟩, _, .ref C, some d, rfl, J, kG, ge, hoe, ⟨rfl, rfl, fun vs hv => (by cases hv; rfl)⟩, rfl, rfl, na, rfl, bare2, raises_own T.exC T.tyC, q2⟩⟩
end
/-- a def that may raise, without a context -/
structure DfN (P : Program) (w : World) (K : PySem.W.Frag) (mg : Str → Option Value) (base : Heap) (k : Nat) (x : Str) (ps : List Str) (sp : Sp) : Prop where
  ex : ∃ fd, FnOk P w K mg base (L2N.CX P w) k (He.ga K x) fd ps sp ∧ Binds K fd ps []
  gl : mg x = some (.ref (He.ga K x))
  kp : PySem.W.keepIn K (.ref (He.ga K x)) = true
section
variable {X : Cx} {k j : Nat} {x : Str} {ps : List Str} {sp : Sp} {p pos : Pos} {e : Expr} {es : List Expr} {t : TA} {E : XK}
theorem pcallN (D : DfN X.prog X.w X.K X.mg X.base k x ps sp) (hr : Room j X.A) (tk : L2N.Takes X (fun cls d _ H => E cls d H)) (ha : PA X (e :: es) t) (hj : k ≤ j := by decide) (hg : Gl X x := by rfl) (hdb : (x == ("__debug__" : Str)) = false := by decide)
    (he : starEach (e :: es) X.env = (false, eval e X.env) :: starEach es X.env := by rfl) (hpl : (backTo pos (starEach es X.env)).any (·.1) = false := by rfl) :
    PE X (.Call (.Name x p) (e :: es) [] pos) (tCall sp [] E t) := by
  obtain ⟨fd, F, b⟩ := D.ex
  exact pe_call F (hr.mono hj) hg D.gl D.kp b .nil (L2N.passes_call tk fun _ _ _ _ h => h) ha hdb he hpl
theorem pass0N : ∀ σ : L2.St, PassesAt (L2N.CX X.prog X.w) X σ E0 := fun _ _ _ _ _ _ _ ⟨_, _, _, _, _, _, _, _, _, _, _, _, z⟩ => z.elim
end
end Ex

set_option Elab.async false
set_option linter.all false
set_option maxRecDepth 100000
set_option maxHeartbeats 4000000
namespace K18
open PySem PySem.Spec PyProof.Rows L2 Gu Ex
def top (i : Nat) : Stmt := PySem.Challenge.pw_exactroom_k18_values_refused.main.body.getD i (.Pass ⟨0, 0, 0, 0⟩)
abbrev FnP (K : PySem.W.Frag) (x qual : Str) (st : Stmt) (f : Addr) (fd : FuncData) : Prop := FunD K x qual (defArgs st) (defBody st) (defScope st) [] [] f fd
abbrev cS (K : PySem.W.Frag) : Addr := He.ga K "Sizes"
abbrev cE (K : PySem.W.Frag) : Addr := He.ga K "InvalidSizes"
abbrev cC (K : PySem.W.Frag) : Addr := He.ga K "InvalidCount"
abbrev cX (K : PySem.W.Frag) : Addr := He.ga K "InvalidText"
abbrev cNu (K : PySem.W.Frag) : Addr := He.ga K "InvalidNumber"
abbrev cL (K : PySem.W.Frag) : Addr := He.ga K "InvalidLevel"
abbrev cA (K : PySem.W.Frag) : Addr := He.ga K "InvalidAddress"
abbrev cT (K : PySem.W.Frag) : Addr := He.ga K "TooManyPieces"
def digits : Str := "0123456789"
/-- what the top has left -/
structure Tx (K : PySem.W.Frag) (mg : Str → Option Value) : Prop where
  n_len : mg "len" = none
  n_isinstance : mg "isinstance" = none
  n_int : mg "int" = none
  n_bool : mg "bool" = none
  n_str : mg "str" = none
  n_list : mg "list" = none
  n_tuple : mg "tuple" = none
  n_range : mg "range" = none
  n_divmod : mg "divmod" = none
  n_abs : mg "abs" = none
  n_max : mg "max" = none
  n_min : mg "min" = none
  n_all : mg "all" = none
  n_repr : mg "repr" = none
  g_Sizes : mg "Sizes" = some (.ref (cS K))
  cl : Cls K (cS K)
  nSL : NoAttr K (cS K) "size_list"
  rd : ClX.CRead K (cS K) (.type "type")
  cS : ∃ u, ClX.CVal K (cS K) (.type "type") "MAX_SIZE" (.int 1000000000) u
  cN : ∃ u, ClX.CVal K (K18.cS K) (.type "type") "MAX_SIZES" (.int 8) u
  cM : ∃ u, ClX.CVal K (K18.cS K) (.type "type") "MAX_CELLS" (.int 1000000000000) u
  cP : ∃ u, ClX.CVal K (K18.cS K) (.type "type") "MAX_PIECES" (.int 64) u
  sys : SysOk K
  g_InvalidSizes : mg "InvalidSizes" = some (.ref (cE K))
  ox : OexC K (cE K)
  oE : OexG "ValueError" (tailE "ValueError") K (cE K)
  noP : PySem.W.findIn K (.ref (cE K)) "problem" = some none
  noQ : PySem.W.findIn K (.ref (cE K)) "position" = some none
  iN : PySem.W.findIn K (.ref (cE K)) "__init__" = some (some (.ref (He.ma K (cE K) "__init__")))
  tI : PySem.W.typeIn K (.ref (He.ma K (cE K) "__init__")) = some (.type "function")
  em : PySem.W.exmOne K (.ref (cE K)) (.ref (cE K)) = some true
  g_RoomError : mg "RoomError" = some (.ref (He.ga K "RoomError"))
  g_InvalidCount : mg "InvalidCount" = some (.ref (cC K))
  g_InvalidText : mg "InvalidText" = some (.ref (cX K))
  eC : ErrG "ValueError" K (cC K) "value"
  eX : ErrG "ValueError" K (cX K) "line"
  oX : OexC K (cX K)
  gD : ∃ t, mg "DIGITS" = some (.str digits t)
  gM : ∃ t, mg "MAX_DIGITS" = some (.int 4000 t)
  n_sum : mg "sum" = none
  n_reversed : mg "reversed" = none
  n_ArithmeticError : mg "ArithmeticError" = none
  g_InvalidNumber : mg "InvalidNumber" = some (.ref (cNu K))
  g_InvalidLevel : mg "InvalidLevel" = some (.ref (cL K))
  g_InvalidAddress : mg "InvalidAddress" = some (.ref (cA K))
  g_TooManyPieces : mg "TooManyPieces" = some (.ref (cT K))
  eN : ErrG "ValueError" K (cNu K) "value"
  eL : ErrG "ValueError" K (cL K) "value"
  eA : ErrG "ValueError" K (cA K) "value"
  eT : ErrG "ArithmeticError" K (cT K) "limit"
  kP : ∃ u, Con K (K18.cS K) "MAX_PIECES" (.int 64) u
  gL : ∃ t, mg "LETTERS" = some (.str "abcdefghijklmnopqrstuvwxyz" t)
  gN : ∃ t, mg "MAX_NAME" = some (.int 8 t)
  bu : BuOk K (K18.cS K)
  ne : NeOk K (K18.cS K)
  io : InsOk K (K18.cS K)
theorem bT {c : Prop} [Decidable c] (h : c) : V.bl (decide c) = V.bl true := congrArg V.bl (decide_eq_true h)
theorem bF {c : Prop} [Decidable c] (h : ¬ c) : V.bl (decide c) = V.bl false := congrArg V.bl (decide_eq_false h)
theorem ifT {c : Bool} {A B : Prop} (h : c = true) (x : A) : if c = true then A else B := by rw [h]; exact iteT x
theorem ifF {c : Bool} {A B : Prop} (h : c = false) (x : B) : if c = true then A else B := by rw [h]; exact iteF x
theorem vT {a b : Int} (h : a = b) : decide (V.int a = V.int b) = true := decide_eq_true (by rw [h])
theorem vF {a b : Int} (h : a ≠ b) : decide (V.int a = V.int b) = false := decide_eq_false fun z => h (V.int.inj z)
theorem same_upd {H : Hp} {p : Addr} {o : HO} (h : H p = none) : Same H (upd H p o) := fun b x e => by
  rw [upd_ne (ne_of_none e h)]
  exact e
/-- values of any kind -/
inductive Any (H : Hp) : V → Prop
  | non : Any H .non
  | bl (b : Bool) : Any H (.bl b)
  | int (i : Int) : Any H (.int i)
  | str (x : Str) : (x.length ≤ 1000 ∧ ∀ c ∈ x.cps.toList, c < 1114112) → Any H (.str x)
  | lst {a : Addr} {xs : List V} : H a = some (.lst xs) → Any H (.ref a)
  | tup {a : Addr} {xs : List V} : H a = some (.tup xs) → Any H (.ref a)
  | dct {a : Addr} {kvs : List (Key × V)} : H a = some (.dK kvs) → Any H (.ref a)
def isI : V → Bool
  | .int _ => true
  | _ => false
def isB : V → Bool
  | .bl _ => true
  | _ => false
def isS : V → Bool
  | .str _ => true
  | _ => false
theorem Any.ty {K : PySem.W.Frag} {H : Hp} {v : V} (h : Any H v) : ∃ T, TyX K H v (.type T) ∧ kitB T "int" = some (isI v || isB v) ∧ kitB T "bool" = some (isB v) ∧ kitB T "str" = some (isS v) := by
  cases h with
  | non => exact ⟨"NoneType", .base .non, (show kitB "NoneType" "int" = some false by decide +kernel), (show kitB "NoneType" "bool" = some false by decide +kernel), (show kitB "NoneType" "str" = some false by decide +kernel)⟩
  | bl b => exact ⟨"bool", .base (.bl b), (show kitB "bool" "int" = some true by decide +kernel), (show kitB "bool" "bool" = some true by decide +kernel), (show kitB "bool" "str" = some false by decide +kernel)⟩
  | int i => exact ⟨"int", .base (.int i), (show kitB "int" "int" = some true by decide +kernel), (show kitB "int" "bool" = some false by decide +kernel), (show kitB "int" "str" = some false by decide +kernel)⟩
  | str x _ => exact ⟨"str", .base (.str x), (show kitB "str" "int" = some false by decide +kernel), (show kitB "str" "bool" = some false by decide +kernel), (show kitB "str" "str" = some true by decide +kernel)⟩
  | lst e => exact ⟨"list", .base (.lst e), (show kitB "list" "int" = some false by decide +kernel), (show kitB "list" "bool" = some false by decide +kernel), (show kitB "list" "str" = some false by decide +kernel)⟩
  | tup e => exact ⟨"tuple", .base (.tup e), (show kitB "tuple" "int" = some false by decide +kernel), (show kitB "tuple" "bool" = some false by decide +kernel), (show kitB "tuple" "str" = some false by decide +kernel)⟩
  | dct e => exact ⟨"dict", .base (.dK e), (show kitB "dict" "int" = some false by decide +kernel), (show kitB "dict" "bool" = some false by decide +kernel), (show kitB "dict" "str" = some false by decide +kernel)⟩
theorem Any.same {H H' : Hp} {v : V} (h : Any H v) (s : Same H H') : Any H' v := by
  cases h with
  | non => exact .non
  | bl b => exact .bl b
  | int i => exact .int i
  | str x l => exact .str x l
  | lst e => exact .lst (s _ _ e)
  | tup e => exact .tup (s _ _ e)
  | dct e => exact .dct (s _ _ e)
section
variable {P : Program} {w : World} {K : PySem.W.Frag} {mg : Str → Option Value} {base : Heap} {f : Addr} {fd : FuncData}
def spInt : Sp := fun vs H Q _ => ∃ v : V, vs = [v] ∧ Any H v ∧ Q (.bl (isI v)) H
theorem sc_is_integer : FnScope ["value"] ["value"] (defScope (top 14)) := ⟨rfl, rfl, rfl, by decide +kernel, rfl, by decide +kernel, by decide +kernel⟩
theorem ok_is_integer (T : Tx K mg) (F : FnP K "is_integer" "is_integer" (top 14) f fd) : FnOk P w K mg base CX0 1 f fd ["value"] spInt := by
  refine F.ok sc_is_integer (fun vs H Q E h => ?_) (fun cdv A outer s H vs Q E hr h => ⟨_, PSs.nox (pss_one (ps_ret (pe_and (pe_callB call_isi (by rfl) T.n_isinstance (by decide +kernel) (pa_cons (pv 0) (pa_cons (pe_bltn (v := .ty "int") (by rfl) T.n_int (by decide +kernel) rfl) pa_nil))) (pe_one (pe_not (pe_callB call_isi (by rfl) T.n_isinstance (by decide +kernel) (pa_cons (pv 0) (pa_cons (pe_bltn (v := .ty "bool") (by rfl) T.n_bool (by decide +kernel) rfl) pa_nil)))))))), ?_⟩)
  · obtain ⟨v, rfl, _⟩ := h
    rfl
  · obtain ⟨v, rfl, hv, q⟩ := h
    obtain ⟨Ty, ty, k1, k2, _⟩ := hv.ty (K := K)
    refine ⟨_, rfl, _, _, _, _, _, rfl, .ty "int", ty, kit_ty k1, _, rfl, ?_⟩
    cases e : (isI v || isB v) with
    | true =>
      refine iteT ⟨_, rfl, _, _, _, _, _, rfl, .ty "bool", ty, kit_ty k2, _, rfl, ?_⟩
      have e2 : (!isB v) = isI v := by cases v <;> first | rfl | cases e
      rw [e2]
      exact q
    | false =>
      have e2 : isI v = false := by cases v <;> first | rfl | cases e
      rw [e2] at q
      exact iteF q
/-- the error's __init__, with its two fields -/
def spErr (C : Addr) : Sp := fun vs H Q _ => ∃ (a : Addr) (u v : V), vs = [.ref a, u, v] ∧ H a = some (exo a C none) ∧
  ∀ dx, H dx = none → dx ≠ a → Q .non (upd (upd (upd H dx (exd dx [("problem", u)])) a (exo a C (some dx))) dx (exd dx [("position", v), ("problem", u)]))
theorem sc_InvalidSizes_init : FnScope ["self", "problem", "position"] ["self", "problem", "position"] (defScope (inClass (top 2) 0)) := ⟨rfl, rfl, rfl, by decide +kernel, rfl, by decide +kernel, by decide +kernel⟩
theorem ok_err (T : Tx K mg) (F : FnP K "__init__" "InvalidSizes.__init__" (inClass (top 2) 0) f fd) : FnOk P w K mg base CX0 1 f fd ["self", "problem", "position"] (spErr (cE K)) := by
  refine F.ok sc_InvalidSizes_init (fun vs H Q E h => ?_) (fun cdv A outer s H vs Q E hr h => ⟨_, PSs.nox (pss_cons (ps_ost (pv 0) (pv 1)) (pss_one (ps_ost (pv 0) (pv 2)))), ?_⟩)
  · obtain ⟨a, u, v, rfl, _⟩ := h
    rfl
  · obtain ⟨a, u, v, rfl, ha, q⟩ := h
    refine ⟨_, rfl, _, rfl, a, cE K, rfl, T.ox, T.noP, .inl ⟨ha, fun dx hdx ne => ?_⟩⟩
    exact ⟨_, rfl, _, rfl, a, cE K, rfl, T.ox, T.noQ, .inr ⟨dx, _, upd_same, (by rw [upd_ne ne, upd_same]), (by show 1 ≤ 900; decide), q dx hdx ne⟩⟩
structure Ei (P : Program) (w : World) (K : PySem.W.Frag) (mg : Str → Option Value) (base : Heap) : Prop where
  ex : ∃ fd, FnOk P w K mg base CX0 1 (He.ma K (cE K) "__init__") fd ["self", "problem", "position"] (spErr (cE K)) ∧ Binds K fd ["self", "problem", "position"] []
/-- what is wrong with the size at a place, if those ahead of it are right -/
def probB (z : Int) : Option V → Option Str
  | some (.int b) => if z ≤ b ∨ z % b ≠ 0 then some ("multiple" : Str) else none
  | _ => none
def probV (p : Nat) (prev : Option V) : V → Option Str
  | .int z => if 1 ≤ z ∧ z ≤ 1000000000 then (if p = 0 then (if z = 1 then none else some ("first" : Str)) else probB z prev) else some ("number" : Str)
  | _ => some ("number" : Str)
def prob (xs : List V) (p : Nat) : Option Str := match xs[p]? with
  | some v => probV p xs[p - 1]? v
  | none => none
def ofO : Option Str → V
  | none => .non
  | some x => .str x
def spProblem (K : PySem.W.Frag) : Sp := fun vs H Q _ => ∃ (a : Addr) (xs : List V) (p : Nat), vs = [.ref a, .int p] ∧ SqL K H a xs ∧ p < xs.length ∧ (∀ v ∈ xs, Any H v) ∧ (0 < p → ∃ b : Int, xs[p - 1]? = some (.int b) ∧ 1 ≤ b) ∧ Q (ofO (prob xs p)) H
theorem sc_size_problem : FnScope ["values", "position", "size", "before"] ["values", "position"] (defScope (top 19)) := ⟨rfl, rfl, rfl, by decide +kernel, rfl, by decide +kernel, by decide +kernel⟩
theorem ok_size_problem (T : Tx K mg) (D_is_integer : Df P w K mg base 1 "is_integer" ["value"] spInt) (F : FnP K "size_problem" "size_problem" (top 19) f fd) :
    FnOk P w K mg base CX0 2 f fd ["values", "position"] (spProblem K) := by
  refine F.ok sc_size_problem (fun vs H Q E h => ?_) (fun cdv A outer s H vs Q E hr h => ⟨_, PSs.nox (pss_cons (ps_set (i := 2) sc_size_problem.nd rfl (by first | exact Or.inl rfl | exact Or.inr rfl) (pe_ix ix_list (pv 0) (pv 1) (fun _ _ => rfl))) (pss_cons (ps_if (PW.pt (pw_or (pt_not (pt_val (pcall D_is_integer hr (pa_cons (pv 2) pa_nil)))) (pw_or1 (pt_not (pt_chain op_le op_le pe_int (pv 2) (ClX.pe_cval (pe_glob (v := .ref _) rfl T.g_Sizes rfl))))))) (pss_one (ps_ret pe_str)) pss_nil) (pss_cons (ps_if (pt_cmpR op_eq (pv 1) pe_int (nomark _)) (pss_one (ps_ret (pe_ifExp (pt_cmpR op_eq (pv 2) pe_int (nomark _)) pe_non pe_str))) pss_nil) (pss_cons (ps_set (i := 3) sc_size_problem.nd rfl (by first | exact Or.inl rfl | exact Or.inr rfl) (pe_ix ix_list (pv 0) (pe_op op_sub (pv 1) pe_int) (fun _ _ => rfl))) (pss_cons (ps_if (PW.pt (pw_or (pt_cmpR op_le (pv 2) (pv 3) (nomark _)) (pw_or1 (pt_cmpR op_ne (pe_op op_mod (pv 2) (pv 3)) pe_int (nomark _))))) (pss_one (ps_ret pe_str)) pss_nil) (pss_one (ps_ret pe_non))))))), ?_⟩)
  · obtain ⟨a, xs, p, rfl, _⟩ := h
    rfl
  · obtain ⟨a, xs, p, rfl, hS, hp, ha, hb, q⟩ := h
    have hx : xs[p]? = some xs[p] := List.getElem?_eq_getElem hp
    have hy := ha _ (List.getElem_mem hp)
    obtain ⟨u, cS⟩ := T.cS
    refine ⟨_, rfl, _, rfl, a, _, _, _, rfl, rfl, hS, atI_nat hx, ?_⟩
    refine ⟨_, rfl, _, rfl, hy, _, rfl, ?_⟩
    have pr : prob xs p = probV p xs[p - 1]? xs[p] := by
      unfold prob
      rw [hx]
    rw [pr] at q
    generalize xs[p] = v at hx hy q
    cases v with
    | int z =>
      refine iteF ⟨_, rfl, _, _, rfl, rfl, _, rfl, ?_⟩
      by_cases h1 : (1 : Int) ≤ z
      · refine ifT (decide_eq_true h1) ⟨_, _, _, _, rfl, T.rd, cS, _, _, rfl, rfl, _, rfl, ?_⟩
        by_cases h2 : z ≤ 1000000000
        · refine ifF (by rw [decide_eq_true h2]; rfl) ?_
          have q1 : Q (ofO (if p = 0 then (if z = 1 then none else some ("first" : Str)) else probB z xs[p - 1]?)) H := by
            have e : probV p xs[p - 1]? (.int z) = (if p = 0 then (if z = 1 then none else some ("first" : Str)) else probB z xs[p - 1]?) := if_pos ⟨h1, h2⟩
            rw [e] at q
            exact q
          by_cases h0 : p = 0
          · subst h0
            rw [if_pos rfl] at q1
            refine ⟨_, rfl, rfl, _, rfl, ifT (vT rfl) ⟨_, rfl, rfl, _, rfl, ?_⟩⟩
            by_cases hz : z = 1
            · rw [if_pos hz] at q1
              exact ifT (vT hz) q1
            · rw [if_neg hz] at q1
              exact ifF (vF hz) q1
          · rw [if_neg h0] at q1
            obtain ⟨b, hb1, hb2⟩ := hb (by omega)
            rw [hb1] at q1
            have q2 : Q (ofO (if z ≤ b ∨ z % b ≠ 0 then some ("multiple" : Str) else none)) H := q1
            refine ⟨_, rfl, rfl, _, rfl, ifF (vF (by omega)) ?_⟩
            refine ⟨_, rfl, _, rfl, _, _, rfl, rfl, a, _, _, _, rfl, rfl, hS, (by rw [show ((p : Int) - 1) = ((p - 1 : Nat) : Int) by omega]; exact atI_nat hb1), ?_⟩
            refine ⟨_, rfl, _, rfl, _, _, rfl, rfl, _, rfl, ?_⟩
            by_cases h3 : z ≤ b
            · rw [if_pos (Or.inl h3)] at q2
              exact ifT (decide_eq_true h3) (iteT q2)
            · refine ifF (decide_eq_false h3) ⟨_, rfl, _, rfl, _, _, rfl, rfl, (by show (0 : Int) < b; omega), rfl, _, rfl, ?_⟩
              by_cases h4 : z % b = 0
              · rw [if_neg fun zz => zz.elim h3 fun y => y h4] at q2
                exact ifF (by rw [vT h4]; rfl) q2
              · rw [if_pos (Or.inr h4)] at q2
                exact ifT (by rw [vF h4]; rfl) q2
        · have q1 : Q (.str "number") H := by
            have e : probV p xs[p - 1]? (.int z) = some ("number" : Str) := if_neg fun zz => h2 zz.2
            rw [e] at q
            exact q
          exact ifT (by rw [decide_eq_false h2]; rfl) q1
      · have q1 : Q (.str "number") H := by
          have e : probV p xs[p - 1]? (.int z) = some ("number" : Str) := if_neg fun zz => h1 zz.1
          rw [e] at q
          exact q
        exact ifF (decide_eq_false h1) ⟨_, rfl, iteT q1⟩
    | _ => exact iteT (iteT q)
end
end K18

set_option Elab.async false
set_option linter.all false
set_option maxRecDepth 100000
set_option maxHeartbeats 4000000
namespace K18
open PySem PySem.Spec PyProof.Rows L2 Gu Ex
/-- the first problem of a list of sizes from the place p on, n places left -/
def firstFrom (xs : List V) (p : Nat) : Nat → Option (Str × Nat)
  | 0 => none
  | n + 1 => match prob xs p with
    | some s => some (s, p)
    | none => firstFrom xs (p + 1) n
/-- what is wrong with a list that shall be one of sizes -/
def wrong (xs : List V) : Option (Str × Nat) := match firstFrom xs 0 xs.length with
  | some e => some e
  | none => if 1 ≤ xs.length ∧ xs.length ≤ 8 then none else some ("count", 0)
theorem first_skip {xs : List V} {p n : Nat} (h : prob xs p = none) : firstFrom xs p (n + 1) = firstFrom xs (p + 1) n := by
  show (match prob xs p with | some s => some (s, p) | none => firstFrom xs (p + 1) n) = _
  rw [h]
theorem first_hit {xs : List V} {p n : Nat} {s : Str} (h : prob xs p = some s) : firstFrom xs p (n + 1) = some (s, p) := by
  show (match prob xs p with | some s => some (s, p) | none => firstFrom xs (p + 1) n) = _
  rw [h]
/-- a right place holds a whole number of at least 1 -/
theorem prob_int {xs : List V} {p : Nat} (hp : p < xs.length) (h : prob xs p = none) : ∃ z : Int, xs[p]? = some (.int z) ∧ 1 ≤ z ∧ z ≤ 1000000000 := by
  unfold prob at h
  rw [List.getElem?_eq_getElem hp] at h
  have h2 : probV p xs[p - 1]? xs[p] = none := h
  rw [List.getElem?_eq_getElem hp]
  generalize xs[p] = v at h2
  cases v with
  | int z =>
    by_cases hz : 1 ≤ z ∧ z ≤ 1000000000
    · exact ⟨z, rfl, hz⟩
    · have e : probV p xs[p - 1]? (.int z) = some ("number" : Str) := if_neg hz
      rw [e] at h2
      cases h2
  | _ => cases h2
section
variable {P : Program} {w : World} {K : PySem.W.Frag} {mg : Str → Option Value} {base : Heap} {f : Addr} {fd : FuncData}
/-- an error with these two fields -/
def ErrAt (K : PySem.W.Frag) (H : Hp) (E : XK) (s : Str) (p : Nat) : Prop := ∀ d H', H d = none → Same H H' → H' d = some (.xd [("position", .int p), ("problem", .str s)]) → E (.ref (cE K)) (some d) H'
/-- a value that shall be a list of sizes: no list, or a list with these items -/
inductive Cand (K : PySem.W.Frag) (H : Hp) : V → Option (List V) → Prop
  | other {v : V} : Any H v → (∀ a xs, v = .ref a → H a ≠ some (.lst xs)) → Cand K H v none
  | list {a : Addr} {xs : List V} : H a = some (.lst xs) → xs.length ≤ 1000 → (∀ v ∈ xs, Any H v) → Cand K H (.ref a) (some xs)
def judge : Option (List V) → Option (Str × Nat)
  | none => some ("list", 0)
  | some xs => wrong xs
def spCheck (K : PySem.W.Frag) : Sp := fun vs H Q E => ∃ (v : V) (o : Option (List V)), vs = [v] ∧ Cand K H v o ∧ (judge o = none → Q .non H) ∧ (∀ s p, judge o = some (s, p) → ErrAt K H E s p)
theorem heap_err {H : Hp} {a dx : Addr} {fs : List (Str × V)} {o1 o2 o3 o4 : HO} (ha : H a = none) (hd : H dx = none) : Same H (upd (del (upd (upd (upd (upd H a o1) dx o2) a o3) dx o4) a) dx (.xd fs)) := fun b o e => by
  have nb : b ≠ a := ne_of_none e ha
  have nd : b ≠ dx := ne_of_none e hd
  rw [upd_ne nd, del_ne nb, upd_ne nd, upd_ne nb, upd_ne nd, upd_ne nb]
  exact e
theorem sc_check_sizes : FnScope ["values", "position", "problem"] ["values"] (defScope (top 20)) := ⟨rfl, rfl, rfl, by decide +kernel, rfl, by decide +kernel, by decide +kernel⟩
theorem ok_check_sizes (T : Tx K mg) (D_size_problem : Df P w K mg base 2 "size_problem" ["values", "position"] (spProblem K)) (M : Ei P w K mg base) (F : FnP K "check_sizes" "check_sizes" (top 20) f fd) : FnOk P w K mg base (L2N.CX P w) 4 f fd ["values"] (spCheck K) := by
  obtain ⟨fdI, FI, bI⟩ := M.ex
  refine F.ok sc_check_sizes (fun vs H Q E h => ?_) (fun cdv A outer s H vs Q E hr h => ⟨_, (pss_cons (ps_if (pt_not (pt_val (pe_callB call_isi (by rfl) T.n_isinstance (by decide +kernel) (pa_cons (pv 0) (pa_cons (pe_bltn (v := .ty "list") (by rfl) T.n_list (by decide +kernel) rfl) pa_nil))))) (pss_one (L2N.ps_raise rfl (L2N.takes_of (E := E) rfl rfl rfl rfl) (pmk_oexN T.oE T.iN T.tI FI (hr.mono (by decide)) bI .nil pass0 rfl T.g_InvalidSizes (pa_cons pe_str (pa_cons pe_int pa_nil))))) pss_nil) (pss_cons (ps_for (passes_of rfl) rfl (pi_range1 rfl T.n_range (pa_cons (pe_callB call_len_seq (by rfl) T.n_len (by decide +kernel) (pa_cons (pv 0) pa_nil)) pa_nil)) (pg_name (i := 1) sc_check_sizes.nd rfl (by first | exact Or.inl rfl | exact Or.inr rfl)) (pss_cons (ps_set (i := 2) sc_check_sizes.nd rfl (by first | exact Or.inl rfl | exact Or.inr rfl) (pcall D_size_problem hr (pa_cons (pv 0) (pa_cons (pv 1) pa_nil)))) (pss_one (ps_if (pt_cmpR op_notN (pv 2) pe_non (nomark _)) (pss_one (L2N.ps_raise rfl (L2N.takes_of (E := E) rfl rfl rfl rfl) (pmk_oexN T.oE T.iN T.tI FI (hr.mono (by decide)) bI .nil pass0 rfl T.g_InvalidSizes (pa_cons (pv 2) (pa_cons (pv 1) pa_nil))))) pss_nil)))) (pss_one (ps_if (pt_not (pt_chain op_le op_le pe_int (pe_callB call_len_seq (by rfl) T.n_len (by decide +kernel) (pa_cons (pv 0) pa_nil)) (ClX.pe_cval (pe_glob (v := .ref _) rfl T.g_Sizes rfl)))) (pss_one (L2N.ps_raise rfl (L2N.takes_of (E := E) rfl rfl rfl rfl) (pmk_oexN T.oE T.iN T.tI FI (hr.mono (by decide)) bI .nil pass0 rfl T.g_InvalidSizes (pa_cons pe_str (pa_cons pe_int pa_nil))))) pss_nil)))), ?_⟩)
  · obtain ⟨v, o, rfl, _⟩ := h
    rfl
  · obtain ⟨v, o, rfl, hc, q1, q2⟩ := h
    obtain ⟨u, cN⟩ := T.cN
    -- the error with the fields s, p, at any heap that holds what stood before
    have bad : ∀ {G : Hp} {x y : V} {z : Str} {p : Nat}, Same H G → judge o = some (z, p) → x = .str z → y = .int p → ∀ a, G a = none → ∀ dx, (upd G a (exo a (cE K) none)) dx = none → dx ≠ a →
        E (.ref (cE K)) (some dx) (upd (del (upd (upd (upd (upd G a (exo a (cE K) none)) dx (exd dx [("problem", x)])) a (exo a (cE K) (some dx))) dx (exd dx [("position", y), ("problem", x)])) a) dx (.xd [("position", y), ("problem", x)])) := by
      rintro G x y z p sm e rfl rfl a ha dx hdx ne
      rw [upd_ne ne] at hdx
      exact q2 z p e dx _ (sm.free hdx) (sm.trans (heap_err ha hdx)) upd_same
    cases hc with
    | other an nl =>
      obtain ⟨Ty, ty, k⟩ : ∃ Ty, TyX K H v (.type Ty) ∧ kitB Ty "list" = some false := by
        cases an with
        | non => exact ⟨"NoneType", .base .non, by decide +kernel⟩
        | bl b => exact ⟨"bool", .base (.bl b), by decide +kernel⟩
        | int i => exact ⟨"int", .base (.int i), by decide +kernel⟩
        | str x _ => exact ⟨"str", .base (.str x), by decide +kernel⟩
        | lst e => exact absurd e (nl _ _ rfl)
        | tup e => exact ⟨"tuple", .base (.tup e), by decide +kernel⟩
        | dct e => exact ⟨"dict", .base (.dK e), by decide +kernel⟩
      refine ⟨_, rfl, _, _, _, _, _, rfl, .ty "list", ty, kit_ty k, _, rfl, iteT ?_⟩
      refine ⟨(by show 2 ≤ 1000; decide), fun a ha => ⟨a, _, _, rfl, upd_same, fun dx hdx ne => ⟨rfl, dx, _, (by rw [upd_ne ne.symm, upd_same]), upd_same, ?_, bad (Same.refl H) rfl rfl rfl a ha dx hdx ne⟩⟩⟩
      rw [upd_ne ne] at hdx
      exact hdx
    | @list a xs hl hlen ha =>
      refine ⟨_, rfl, _, _, _, _, _, rfl, .ty "list", .base (.lst hl), kit_ty (show kitB "list" "list" = some true by decide +kernel), _, rfl, iteF ?_⟩
      refine ⟨_, rfl, a, _, rfl, .inl (SqL.of hl), _, rfl, by omega, by omega, ?_⟩
      refine for_range (fun i σ H' => H' = H ∧ (∃ x y, σ = [some (.ref a), x, y]) ∧ firstFrom xs 0 xs.length = firstFrom xs i (xs.length - i) ∧ (0 < i → prob xs (i - 1) = none)) ⟨rfl, ⟨none, none, rfl⟩, rfl, fun z => absurd z (by decide)⟩ ?_ ?_
      · rintro i σ H' hi ⟨rfl, ⟨x, y, rfl⟩, hf, hp⟩
        have hi2 : i < xs.length := by simpa using hi
        refine ⟨_, rfl, _, rfl, a, xs, i, (by rw [Int.zero_add]; rfl), SqL.of hl, hi2, ha, fun i0 => ?_, ?_⟩
        · obtain ⟨z, e1, e2, _⟩ := prob_int (xs := xs) (p := i - 1) (by omega) (hp i0)
          exact ⟨z, e1, e2⟩
        · have ex : xs.length - i = (xs.length - (i + 1)) + 1 := by omega
          cases e : prob xs i with
          | none =>
            refine ⟨_, rfl, rfl, _, rfl, iteF ⟨rfl, ⟨_, _, rfl⟩, ?_, fun _ => by rw [Nat.add_sub_cancel]; exact e⟩⟩
            rw [hf, ex, first_skip e]
          | some z =>
            have jd : judge (some xs) = some (z, i) := by
              show wrong xs = _
              unfold wrong
              rw [hf, ex, first_hit e]
            refine ⟨_, rfl, rfl, _, rfl, iteT ⟨_, rfl, _, rfl, (by show 2 ≤ 1000; decide), fun a' ha' => ⟨a', _, _, rfl, upd_same, fun dx hdx ne => ⟨rfl, dx, _, (by rw [upd_ne ne.symm, upd_same]), upd_same, ?_, bad (Same.refl _) jd rfl (by rw [Int.zero_add]) a' ha' dx hdx ne⟩⟩⟩⟩
            rw [upd_ne ne] at hdx
            exact hdx
      · rintro σ H' ⟨rfl, ⟨x, y, rfl⟩, hf, hp⟩
        have hn : ((xs.length : Int)).toNat = xs.length := by simp
        rw [hn, Nat.sub_self] at hf
        have hw : wrong xs = if 1 ≤ xs.length ∧ xs.length ≤ 8 then none else some (("count" : Str), 0) := by
          unfold wrong
          rw [hf]
          rfl
        refine ⟨_, rfl, a, _, rfl, .inl (SqL.of hl), _, _, rfl, rfl, _, rfl, ?_⟩
        have cnt : ¬ (1 ≤ xs.length ∧ xs.length ≤ 8) → judge (some xs) = some (("count" : Str), 0) := fun n => by
          show wrong xs = _
          rw [hw, if_neg n]
        by_cases h1 : (1 : Int) ≤ (xs.length : Int)
        · refine ifT (decide_eq_true h1) ⟨_, _, _, _, rfl, T.rd, cN, _, _, rfl, rfl, _, rfl, ?_⟩
          by_cases h2 : (xs.length : Int) ≤ 8
          · refine ifF (by rw [decide_eq_true h2]; rfl) (q1 ?_)
            show wrong xs = none
            rw [hw, if_pos ⟨by omega, by omega⟩]
          · refine ifT (by rw [decide_eq_false h2]; rfl) ⟨(by show 2 ≤ 1000; decide), fun a' ha' => ⟨a', _, _, rfl, upd_same, fun dx hdx ne => ⟨rfl, dx, _, (by rw [upd_ne ne.symm, upd_same]), upd_same, ?_, bad (Same.refl _) (cnt (by omega)) rfl rfl a' ha' dx hdx ne⟩⟩⟩
            rw [upd_ne ne] at hdx
            exact hdx
        · refine ifF (decide_eq_false h1) ⟨_, rfl, iteT ⟨(by show 2 ≤ 1000; decide), fun a' ha' => ⟨a', _, _, rfl, upd_same, fun dx hdx ne => ⟨rfl, dx, _, (by rw [upd_ne ne.symm, upd_same]), upd_same, ?_, bad (Same.refl _) (cnt (by omega)) rfl rfl a' ha' dx hdx ne⟩⟩⟩⟩
          rw [upd_ne ne] at hdx
          exact hdx
end
end K18

set_option Elab.async false
set_option linter.all false
set_option maxRecDepth 100000
set_option maxHeartbeats 4000000
namespace K18
open PySem PySem.Spec PyProof.Rows L2 Gu Ex
def szF (l : Addr) : List (Str × V) := [("size_list", V.ref l)]
theorem szF_get (l : Addr) : (szF l).lookup ("size_list" : Str) = some (.ref l) := by simp [szF, List.lookup]
theorem szF_no (l : Addr) {m : Str} (h : (m == ("size_list" : Str)) = false) : (szF l).lookup m = none := by simp [szF, List.lookup, h]
/-- at p an object of Sizes with the list xs -/
def SzAt (C : Addr) (H : Hp) (p : Addr) (xs : List V) : Prop := ∃ dx l, H p = some (.ins C dx (szF l)) ∧ H l = some (.lst xs)
section
variable {P : Program} {w : World} {K : PySem.W.Frag} {mg : Str → Option Value} {base : Heap} {f : Addr} {fd : FuncData}
def spMade (K : PySem.W.Frag) : Sp := fun vs H Q E => ∃ (x dx : Addr) (v : V) (o : Option (List V)), vs = [.ref x, v] ∧ H x = some (.ins (He.ga K "Sizes") dx []) ∧ Cand K H v o ∧
  (∀ xs, o = some xs → wrong xs = none → ∀ l, H l = none → Q .non (upd (upd H l (.lst xs)) x (.ins (He.ga K "Sizes") dx (szF l)))) ∧ (∀ s p, judge o = some (s, p) → ErrAt K H E s p)
theorem sc_Sizes_init : FnScope ["self", "values"] ["self", "values"] (defScope (inClass (top 21) 4)) := ⟨rfl, rfl, rfl, by decide +kernel, rfl, by decide +kernel, by decide +kernel⟩
theorem ok_init (T : Tx K mg) (D_check_sizes : DfN P w K mg base 4 "check_sizes" ["values"] (spCheck K)) (F : FnP K "__init__" "Sizes.__init__" (inClass (top 21) 4) f fd) :
    FnOk P w K mg base (L2N.CX P w) 5 f fd ["self", "values"] (spMade K) := by
  refine F.ok sc_Sizes_init (fun vs H Q E h => ?_) (fun cdv A outer s H vs Q E hr h => ⟨_, (pss_cons (ps_expr (pcallN D_check_sizes hr (L2N.takes_of (E := E) rfl rfl rfl rfl) (pa_cons (pv 1) pa_nil))) (pss_one (ps_fld (pv 0) (pe_callTy call_list_of (by rfl) T.n_list (by decide +kernel) (pa_cons (pv 1) pa_nil)) rfl))), ?_⟩)
  · obtain ⟨x, dx, v, o, rfl, _⟩ := h
    rfl
  · obtain ⟨x, dx, v, o, rfl, hx, hc, q1, q2⟩ := h
    refine ⟨_, rfl, v, o, rfl, hc, fun hj => ?_, q2⟩
    cases hc with
    | other _ _ => cases hj
    | @list a xs hl hlen ha =>
      refine ⟨_, rfl, a, _, rfl, .inl (SqL.of hl), fun l hn => ?_⟩
      refine ⟨_, rfl, x, He.ga K "Sizes", dx, [], rfl, (by rw [upd_ne (ne_of_none hx hn)]; exact hx), T.cl, T.nSL, (by show 0 < 1000; decide), ?_⟩
      exact q1 xs rfl hj l hn
def spAll (K : PySem.W.Frag) : Sp := fun vs H Q _ => ∃ (p : Addr) (xs : List V), vs = [.ref p] ∧ SzAt (He.ga K "Sizes") H p xs ∧ ∀ l, H l = none → Q (.ref l) (upd H l (.lst xs))
theorem sc_all_sizes : FnScope ["self"] ["self"] (defScope (inClass (top 21) 11)) := ⟨rfl, rfl, rfl, by decide +kernel, rfl, by decide +kernel, by decide +kernel⟩
theorem ok_all (T : Tx K mg) (F : FnP K "all_sizes" "Sizes.all_sizes" (inClass (top 21) 11) f fd) : FnOk P w K mg base CX0 1 f fd ["self"] (spAll K) := by
  refine F.ok sc_all_sizes (fun vs H Q E h => ?_) (fun cdv A outer s H vs Q E hr h => ⟨_, PSs.nox (pss_one (ps_ret (pe_callTy call_list_of (by rfl) T.n_list (by decide +kernel) (pa_cons (pe_fld (pv 0) rfl) pa_nil)))), ?_⟩)
  · obtain ⟨p, xs, rfl, _⟩ := h
    rfl
  · obtain ⟨p, xs, rfl, ⟨dx, l, h1, h2⟩, q⟩ := h
    exact ⟨_, rfl, p, _, dx, _, _, rfl, h1, T.cl, T.nSL, szF_get l, l, _, rfl, .inl (SqL.of h2), q⟩
end
end K18

set_option Elab.async false
set_option linter.all false
set_option maxRecDepth 100000
set_option maxHeartbeats 4000000
namespace K18
open PySem PySem.Spec PyProof.Rows L2 Gu Ex
structure Good (ns : List Int) : Prop where
  len : 1 ≤ ns.length ∧ ns.length ≤ 8
  one : ns[0]? = some 1
  rng : ∀ (i : Nat) x, ns[i]? = some x → 1 ≤ x ∧ x ≤ 1000000000
  up : ∀ (i : Nat) x y, ns[i]? = some x → ns[i + 1]? = some y → x < y ∧ y % x = 0
theorem at_map {ns : List Int} {p : Nat} {x : Int} (h : ns[p]? = some x) : atI (ns.map V.int) (p : Int) = some (.int x) := atI_nat (by rw [List.getElem?_map, h]; rfl)
/-- the drawing list at r -/
def Rng (H : Hp) (r : Addr) : Prop := ∃ a b : Int, H r = some (.lst [.int a, .int b]) ∧ 0 ≤ a ∧ 0 ≤ b ∧ b < 2147483587
/-- only the drawing list at r may have changed -/
def Stp (r : Addr) (H H' : Hp) : Prop := Rng H' r ∧ ∀ b o, b ≠ r → H b = some o → H' b = some o
theorem Stp.trans {r : Addr} {H H1 H2 : Hp} (a : Stp r H H1) (b : Stp r H1 H2) : Stp r H H2 := ⟨b.1, fun c o n e => b.2 c o n (a.2 c o n e)⟩
theorem Stp.refl {r : Addr} {H : Hp} (h : Rng H r) : Stp r H H := ⟨h, fun _ _ _ e => e⟩
/-- the ways of a choice come together: what holds of every value -/
theorem join {α : Type} {G : Prop} (Pc : α → Prop) {R : α → Prop} (h1 : (∀ c, Pc c → R c) → G) (h2 : ∀ c, Pc c → R c) : G := h1 h2
theorem Rng.ne {H : Hp} {r p : Addr} (h : Rng H r) (hp : H p = none) : r ≠ p := fun z => by
  obtain ⟨_, _, e, _⟩ := h
  rw [z, hp] at e
  cases e
theorem Stp.new {r p : Addr} {H H1 : Hp} {o : HO} (a : Stp r H H1) (hp : H1 p = none) : Stp r H (upd H1 p o) := by
  obtain ⟨⟨x, y, e, z⟩, k⟩ := a
  refine ⟨⟨x, y, ?_, z⟩, fun b u n e2 => ?_⟩
  · rw [upd_ne (ne_of_none e hp)]
    exact e
  · rw [upd_ne (ne_of_none (k b u n e2) hp)]
    exact k b u n e2
theorem Stp.free {r p : Addr} {H H1 : Hp} (a : Stp r H H1) (h : H1 p = none) : H p = none := by
  cases e : H p with
  | none => rfl
  | some o =>
    have n : p ≠ r := fun z => (a.1.ne h) z.symm
    rw [a.2 p o n e] at h
    cases h
section
variable {P : Program} {w : World} {K : PySem.W.Frag} {mg : Str → Option Value} {base : Heap} {f : Addr} {fd : FuncData}
def spRng (K : PySem.W.Frag) : Sp := fun vs H Q _ => ∃ (a : Addr) (ns : List Int) (k : Nat), vs = [.ref a, .int k] ∧ SqL K H a (ns.map V.int) ∧ k ≤ 63 ∧ ∀ p H', H p = none → Same H H' → Rng H' p → Q (.ref p) H'
theorem sc__law_rng : FnScope ["_law_script", "_law_k", "_law_cell"] ["_law_script", "_law_k"] (defScope (top 34)) := ⟨rfl, rfl, rfl, by decide +kernel, rfl, by decide +kernel, by decide +kernel⟩
theorem ok_rng (T : Tx K mg) (F : FnP K "_law_rng" "_law_rng" (top 34) f fd) : FnOk P w K mg base CX0 1 f fd ["_law_script", "_law_k"] (spRng K) := by
  refine F.ok sc__law_rng (fun vs H Q E h => ?_) (fun cdv A outer s H vs Q E hr h => ⟨_, PSs.nox (pss_cons (ps_set (i := 2) sc__law_rng.nd rfl (by first | exact Or.inl rfl | exact Or.inr rfl) (pe_ifExp (pt_cmpR op_lt (pv 1) (pe_callB call_len_seq (by rfl) T.n_len (by decide +kernel) (pa_cons (pv 0) pa_nil)) (nomark _)) (pe_callB call_abs (by rfl) T.n_abs (by decide +kernel) (pa_cons (pe_ix ix_list (pv 0) (pv 1) (fun _ _ => rfl)) pa_nil)) pe_int)) (pss_one (ps_ret (pe_lst (pa_cons (pe_callB (call_max2 rfl) (by rfl) T.n_max (by decide +kernel) (pa_cons pe_int (pa_cons (pe_op op_sub (pv 2) (pe_op op_pow pe_int pe_int)) pa_nil))) (pa_cons (pe_op op_add (pe_op op_mod (pe_op op_pow (pe_op op_add (pe_op op_add (pe_op op_mod (pv 2) pe_int) (pe_op op_mul pe_int (pv 1))) pe_int) pe_int) pe_int) pe_int) pa_nil)))))), ?_⟩)
  · obtain ⟨a, ns, k, rfl, _⟩ := h
    rfl
  · obtain ⟨a, ns, k, rfl, hS, hk, q⟩ := h
    refine join (fun c : Int => 0 ≤ c) (R := ?R) (fun tail => ?main) ?tl
    case main =>
      refine ⟨_, rfl, _, rfl, a, _, rfl, .inl hS, _, _, rfl, rfl, _, rfl, ?_⟩
      by_cases hl : (k : Int) < (((ns.map V.int).length : Nat) : Int)
      · have hk2 : k < ns.length := by rw [List.length_map] at hl; omega
        refine ifT (decide_eq_true hl) ?_
        refine ⟨_, rfl, _, rfl, a, _, _, _, rfl, rfl, hS, at_map (List.getElem?_eq_getElem hk2), _, rfl, ?_⟩
        obtain ⟨c, hc, ec⟩ : ∃ c : Int, 0 ≤ c ∧ (if ns[k] < 0 then -ns[k] else ns[k]) = c := ⟨if ns[k] < 0 then -ns[k] else ns[k], by split <;> omega, rfl⟩
        rw [ec]
        exact tail c hc
      · refine ifF (decide_eq_false hl) ?_
        exact tail 0 (by decide)
    case tl =>
      intro c hc
      have c0 := Int.emod_nonneg c (show (2147483543 : Int) ≠ 0 by decide)
      have c1 := Int.emod_lt_of_pos c (show (0 : Int) < 2147483543 by decide)
      refine ⟨_, rfl, _, _, rfl, rfl, ⟨by decide, by decide, by decide⟩, _, _, rfl, rfl, _, _, rfl, ?_⟩
      refine ⟨_, rfl, _, _, rfl, rfl, (by show (0 : Int) < 2147483543; decide), _, rfl, _, _, rfl, rfl, .inl ⟨by decide, by decide⟩, _, _, rfl, rfl, _, _, rfl, rfl, _, _, rfl, rfl, ⟨by decide, by decide, by omega⟩, _, _, rfl, rfl, (by show (0 : Int) < 2147483497; decide), _, _, rfl, rfl, ?_⟩
      refine ⟨(by show 2 ≤ sizeLine; decide), fun p hp => q p _ hp (fun b o e => by rw [upd_ne (ne_of_none e hp)]; exact e) ⟨_, _, upd_same, ?_, ?_, ?_⟩⟩
      · split <;> omega
      · have := Int.emod_nonneg ((c % 2147483543 + 101 * (k : Int) + 7) ^ (2 : Int).toNat) (show (2147483497 : Int) ≠ 0 by decide)
        omega
      · have := Int.emod_lt_of_pos ((c % 2147483543 + 101 * (k : Int) + 7) ^ (2 : Int).toNat) (show (0 : Int) < 2147483497 by decide)
        omega
def spDraw : Sp := fun vs H Q _ => ∃ (r : Addr) (m : Int), vs = [.ref r, .int m] ∧ Rng H r ∧ 1 ≤ m ∧ m ≤ 10 ^ 40 ∧ ∀ d H', 0 ≤ d → d < m → Stp r H H' → Q (.int d) H'
theorem sc__law_draw : FnScope ["_law_rng_here", "_law_many", "_law_mixed", "_law_digit"] ["_law_rng_here", "_law_many"] (defScope (top 35)) := ⟨rfl, rfl, rfl, by decide +kernel, rfl, by decide +kernel, by decide +kernel⟩
theorem ok_draw (T : Tx K mg) (F : FnP K "_law_draw" "_law_draw" (top 35) f fd) : FnOk P w K mg base CX0 1 f fd ["_law_rng_here", "_law_many"] spDraw := by
  refine F.ok sc__law_draw (fun vs H Q E h => ?_) (fun cdv A outer s H vs Q E hr h => ⟨_, PSs.nox (pss_cons (ps_if (pt_cmpR op_gt (pe_ix ix_list (pv 0) pe_int (fun _ _ => rfl)) pe_int (nomark _)) (pss_cons (ps_asg (pe_callB call_divmodW (by rfl) T.n_divmod (by decide +kernel) (pa_cons (pe_ix ix_list (pv 0) pe_int (fun _ _ => rfl)) (pa_cons (pv 1) pa_nil))) (pg_tup (by rfl) (pgs_cons (pg_sub (pv 0) pe_int set_list) (pgs_cons (pg_name (i := 3) sc__law_draw.nd rfl (by first | exact Or.inl rfl | exact Or.inr rfl)) pgs_nil)))) (pss_one (ps_ret (pv 3)))) pss_nil) (pss_cons (ps_asg (pe_op op_mod (pe_op op_add (pe_op op_mul (pe_ix ix_list (pv 0) pe_int (fun _ _ => rfl)) pe_int) pe_int) pe_int) (pg_sub (pv 0) pe_int set_list)) (pss_cons (ps_set (i := 2) sc__law_draw.nd rfl (by first | exact Or.inl rfl | exact Or.inr rfl) (pe_op op_fdivW (pe_op op_mod (pe_op op_mul (pe_ix ix_list (pv 0) pe_int (fun _ _ => rfl)) (pe_ix ix_list (pv 0) pe_int (fun _ _ => rfl))) pe_int) pe_int)) (pss_one (ps_ret (pe_ifExp (pt_cmpR op_lt (pv 1) (pe_op op_pow pe_int pe_int) (nomark _)) (pe_op op_mod (pv 2) (pv 1)) (pe_op op_mod (pe_op op_mul (pe_op op_add (pe_op op_mul (pv 2) pe_int) (pe_ix ix_list (pv 0) pe_int (fun _ _ => rfl))) pe_int) (pv 1)))))))), ?_⟩)
  · obtain ⟨r, m, rfl, _⟩ := h
    rfl
  · obtain ⟨r, m, rfl, ⟨a, b, hR, ha, hb, hb2⟩, m1, m2, q⟩ := h
    have mb : m.natAbs < 2 ^ 200 := by
      have : (10 : Int) ^ 40 < 2 ^ 200 := by decide
      have e : ((2 : Nat) ^ 200 : Nat) = ((2 : Int) ^ 200).natAbs := by decide
      omega
    refine ⟨_, rfl, r, _, _, _, rfl, rfl, SqL.of hR, rfl, _, _, rfl, rfl, _, rfl, ?_⟩
    by_cases h0 : 0 < a
    · refine ifT (decide_eq_true h0) ?_
      refine ⟨_, rfl, r, _, _, _, rfl, rfl, SqL.of hR, rfl, _, rfl, _, _, rfl, ⟨by omega, PyProof.noPylong_of_log2 (Nat.lt_of_lt_of_le (PySem.Flt.log2_lt_of (by decide) mb) (by decide))⟩, fun p hp => ?_⟩
      have nrp : r ≠ p := ne_of_none hR hp
      have hR2 : (upd H p (.tup [.int (a / m), .int (a % m)])) r = some (.lst [.int a, .int b]) := by rw [upd_ne nrp]; exact hR
      refine ⟨p, _, rfl, .inl (.inl upd_same), rfl, _, _, rfl, _, rfl, r, _, _, 0, rfl, rfl, hR2, rfl, _, _, rfl, rfl, ?_⟩
      refine ⟨_, rfl, q _ _ (Int.emod_nonneg _ (by omega)) (Int.emod_lt_of_pos _ (by omega)) ⟨⟨a / m, b, upd_same, Int.ediv_nonneg (by omega) (by omega), hb, hb2⟩, fun c o n e => ?_⟩⟩
      rw [upd_ne n, upd_ne (ne_of_none e hp)]
      exact e
    · refine ifF (decide_eq_false h0) ?_
      have b0 := Int.emod_nonneg (b * 48271 + 10007) (show (2147483587 : Int) ≠ 0 by decide)
      have b1 := Int.emod_lt_of_pos (b * 48271 + 10007) (show (0 : Int) < 2147483587 by decide)
      refine ⟨_, rfl, r, _, _, _, rfl, rfl, SqL.of hR, rfl, _, _, rfl, rfl, .inr ⟨by decide, by decide⟩, _, _, rfl, rfl, _, _, rfl, rfl, (by show (0 : Int) < 2147483587; decide), _, rfl, r, _, _, 1, rfl, rfl, hR, rfl, ?_⟩
      dsimp only
      generalize hB : (b * 48271 + 10007) % 2147483587 = B at *
      have hR2 : (upd H r (.lst [.int a, .int B])) r = some (.lst [.int a, .int B]) := upd_same
      have st : Stp r H (upd H r (.lst [.int a, .int B])) := ⟨⟨a, B, upd_same, ha, b0, b1⟩, fun c o n e => by rw [upd_ne n]; exact e⟩
      refine ⟨_, rfl, r, _, _, _, rfl, rfl, SqL.of hR2, rfl, _, rfl, r, _, _, _, rfl, rfl, SqL.of hR2, rfl, _, _, rfl, rfl, .inl ⟨by omega, by omega⟩, _, _, rfl, rfl, (by show (0 : Int) < 2147483549; decide), _, _, rfl, rfl, wide_div (b := 64) (by decide) (by decide) (by decide) (by decide), ?_⟩
      refine ⟨_, rfl, _, _, rfl, rfl, ⟨by decide, by decide, by decide⟩, _, _, rfl, rfl, _, rfl, ite2 (fun _ => ?_) (fun _ => ?_)⟩
      · exact ⟨_, rfl, _, rfl, _, _, rfl, rfl, (by show (0 : Int) < m; omega), q _ _ (Int.emod_nonneg _ (by omega)) (Int.emod_lt_of_pos _ (by omega)) st⟩
      · refine ⟨_, rfl, _, _, rfl, rfl, .inr ⟨by decide, by decide⟩, _, rfl, r, _, _, _, rfl, rfl, SqL.of hR2, rfl, _, _, rfl, rfl, _, _, rfl, rfl, .inr ⟨by decide, by decide⟩, _, rfl, _, _, rfl, rfl, (by show (0 : Int) < m; omega), ?_⟩
        exact q _ _ (Int.emod_nonneg _ (by omega)) (Int.emod_lt_of_pos _ (by omega)) st
theorem at_of {xs : List V} {d : Int} (h0 : 0 ≤ d) (h1 : d < xs.length) : ∃ v, atI xs d = some v ∧ v ∈ xs := by
  obtain ⟨n, rfl⟩ := Int.eq_ofNat_of_zero_le h0
  have hn : n < xs.length := by omega
  exact ⟨xs[n], atI_nat (List.getElem?_eq_getElem hn), List.getElem_mem hn⟩
def spChoice : Sp := fun vs H Q _ => ∃ (r o : Addr) (xs : List V), vs = [.ref r, .ref o] ∧ Rng H r ∧ H o = some (.lst xs) ∧ o ≠ r ∧ 1 ≤ xs.length ∧ xs.length ≤ 1000 ∧ ∀ v H', v ∈ xs → Stp r H H' → Q v H'
theorem sc__law_choice : FnScope ["_law_rng_here", "_law_options"] ["_law_rng_here", "_law_options"] (defScope (top 36)) := ⟨rfl, rfl, rfl, by decide +kernel, rfl, by decide +kernel, by decide +kernel⟩
theorem ok_choice (T : Tx K mg) (D__law_draw : Df P w K mg base 1 "_law_draw" ["_law_rng_here", "_law_many"] spDraw) (F : FnP K "_law_choice" "_law_choice" (top 36) f fd) : FnOk P w K mg base CX0 2 f fd ["_law_rng_here", "_law_options"] spChoice := by
  refine F.ok sc__law_choice (fun vs H Q E h => ?_) (fun cdv A outer s H vs Q E hr h => ⟨_, PSs.nox (pss_one (ps_ret (pe_ix ix_list (pv 1) (pcall D__law_draw hr (pa_cons (pv 0) (pa_cons (pe_callB call_len_seq (by rfl) T.n_len (by decide +kernel) (pa_cons (pv 1) pa_nil)) pa_nil))) (fun _ _ => rfl)))), ?_⟩)
  · obtain ⟨r, o, xs, rfl, _⟩ := h
    rfl
  · obtain ⟨r, o, xs, rfl, hR, hO, ne, l1, l2, q⟩ := h
    refine ⟨_, rfl, _, rfl, _, rfl, o, _, rfl, .inl (SqL.of hO), r, _, rfl, hR, by omega, ?_, fun d H1 d0 d1 st => ?_⟩
    · have : (1000 : Int) ≤ 10 ^ 40 := by decide
      omega
    · obtain ⟨v, hv, hm⟩ := at_of d0 d1
      exact ⟨o, _, _, v, rfl, rfl, SqL.of (st.2 o _ ne hO), hv, q v H1 hm st⟩
theorem good_one : Good [1] := ⟨⟨by decide, by decide⟩, rfl, fun i x h => by
    cases i with
    | zero => cases h; decide
    | succ i => simp at h, fun i x y h1 h2 => by
    cases i with
    | zero => simp at h2
    | succ i => simp at h1⟩
theorem good_more {ns : List Int} {x k : Int} (g : Good ns) (hl : ns.length < 8) (hx : ns[ns.length - 1]? = some x) (hk : 2 ≤ k) (hm : x * k ≤ 1000000000) : Good (ns ++ [x * k]) := by
  have l := g.len
  have xr := g.rng _ _ hx
  have gt : x < x * k := by
    have := Int.mul_le_mul_of_nonneg_left hk (show (0 : Int) ≤ x by omega)
    omega
  refine ⟨⟨by rw [List.length_append, List.length_singleton]; omega, by rw [List.length_append, List.length_singleton]; omega⟩, ?_, fun i y h => ?_, fun i y z h1 h2 => ?_⟩
  · rw [List.getElem?_append_left (by omega)]
    exact g.one
  · by_cases hi : i < ns.length
    · rw [List.getElem?_append_left hi] at h
      exact g.rng i y h
    · rw [List.getElem?_append_right (by omega)] at h
      have hi2 : i - ns.length = 0 := by
        cases e : i - ns.length with
        | zero => rfl
        | succ n => rw [e] at h; simp at h
      rw [hi2] at h
      have e : x * k = y := Option.some.inj h
      omega
  · by_cases hi : i + 1 < ns.length
    · rw [List.getElem?_append_left hi] at h2
      rw [List.getElem?_append_left (by omega)] at h1
      exact g.up i y z h1 h2
    · by_cases hi2 : i + 1 = ns.length
      · rw [List.getElem?_append_left (by omega)] at h1
        rw [List.getElem?_append_right (by omega), hi2, Nat.sub_self] at h2
        have e : x * k = z := Option.some.inj h2
        rw [show i = ns.length - 1 by omega, hx] at h1
        have e2 : x = y := Option.some.inj h1
        rw [← e, ← e2]
        exact ⟨gt, Int.mul_emod_right x k⟩
      · rw [List.getElem?_append_right (by omega)] at h2
        cases e : i + 1 - ns.length with
        | zero => omega
        | succ n => rw [e] at h2; simp at h2
/-- each size is at most g times the one below -/
def Gap (g : Int) (ns : List Int) : Prop := ∀ (i : Nat) (x y : Int), ns[i]? = some x → ns[i + 1]? = some y → y ≤ g * x
theorem gap_one (g : Int) : Gap g [1] := fun i x y h1 h2 => by
  cases i with
  | zero => simp at h2
  | succ i => simp at h1
theorem gap_more {g : Int} {ns : List Int} {x k : Int} (h : Gap g ns) (hl : 1 ≤ ns.length) (hx : ns[ns.length - 1]? = some x) (x0 : 0 ≤ x) (hk : k ≤ g) : Gap g (ns ++ [x * k]) := fun i y z h1 h2 => by
  by_cases hi : i + 1 < ns.length
  · rw [List.getElem?_append_left hi] at h2
    rw [List.getElem?_append_left (by omega)] at h1
    exact h i y z h1 h2
  · have hl2 := (List.getElem?_eq_some_iff.mp h2).1
    rw [List.length_append] at hl2
    have hl2 : i + 1 < ns.length + 1 := hl2
    have e : i = ns.length - 1 := by omega
    subst e
    rw [List.getElem?_append_left (by omega), hx] at h1
    rw [List.getElem?_append_right (by omega), show ns.length - 1 + 1 - ns.length = 0 by omega] at h2
    have e1 : x = y := Option.some.inj h1
    have e2 : x * k = z := Option.some.inj h2
    rw [← e1, ← e2, Int.mul_comm g x]
    exact Int.mul_le_mul_of_nonneg_left hk x0
def spSizes : Sp := fun vs H Q _ => ∃ (r : Addr) (lv gr : Int), vs = [.ref r, .int lv, .int gr] ∧ Rng H r ∧ 1 ≤ lv ∧ lv ≤ 8 ∧ 2 ≤ gr ∧ gr ≤ 1000000 ∧
  ∀ l ns H', Good ns → Gap gr ns → H l = none → H' l = some (.lst (ns.map V.int)) → Stp r H H' → Q (.ref l) H'
theorem at_last (ys : List Int) (x : Int) : atI ((ys ++ [x]).map V.int) (-1) = some (.int x) := by
  rw [List.map_append]
  exact atI_last _ _
theorem last_of : ∀ {ns : List Int}, 1 ≤ ns.length → ∃ ys x, ns = ys ++ [x]
  | [], h => absurd h (by decide)
  | [x], _ => ⟨[], x, rfl⟩
  | a :: b :: r, _ => by
    obtain ⟨ys, x, e⟩ := last_of (ns := b :: r) (by simp)
    exact ⟨a :: ys, x, by rw [e]; rfl⟩
theorem last_get (ys : List Int) (x : Int) : (ys ++ [x])[(ys ++ [x]).length - 1]? = some x := by
  rw [List.length_append, List.length_singleton, Nat.add_sub_cancel, List.getElem?_append_right (Nat.le_refl _), Nat.sub_self]
  rfl
theorem sc__law_sizes : FnScope ["_law_rng_here", "_law_levels", "_law_greatest", "_law_result", "_law_k", "_law_factor"] ["_law_rng_here", "_law_levels", "_law_greatest"] (defScope (top 37)) := ⟨rfl, rfl, rfl, by decide +kernel, rfl, by decide +kernel, by decide +kernel⟩
theorem ok_sizes (T : Tx K mg) (D__law_draw : Df P w K mg base 1 "_law_draw" ["_law_rng_here", "_law_many"] spDraw) (F : FnP K "_law_sizes" "_law_sizes" (top 37) f fd) :
    FnOk P w K mg base CX0 2 f fd ["_law_rng_here", "_law_levels", "_law_greatest"] spSizes := by
  refine F.ok sc__law_sizes (fun vs H Q E h => ?_) (fun cdv A outer s H vs Q E hr h => ⟨_, PSs.nox (pss_cons (ps_set (i := 3) sc__law_sizes.nd rfl (by first | exact Or.inl rfl | exact Or.inr rfl) (pe_lst (pa_cons pe_int pa_nil))) (pss_cons (ps_for PassesOwn.never rfl (pi_range1 rfl T.n_range (pa_cons (pcall D__law_draw hr (pa_cons (pv 0) (pa_cons (pv 1) pa_nil))) pa_nil)) (pg_name (i := 4) sc__law_sizes.nd rfl (by first | exact Or.inl rfl | exact Or.inr rfl)) (pss_cons (ps_set (i := 5) sc__law_sizes.nd rfl (by first | exact Or.inl rfl | exact Or.inr rfl) (pe_ix ix_list (pe_lst (pa_cons pe_int (pa_cons pe_int (pa_cons pe_int (pa_cons pe_int (pa_cons (pe_op op_add pe_int (pcall D__law_draw hr (pa_cons (pv 0) (pa_cons (pe_op op_sub (pv 2) pe_int) pa_nil)))) pa_nil)))))) (pcall D__law_draw hr (pa_cons (pv 0) (pa_cons pe_int pa_nil))) (fun _ _ => rfl))) (pss_one (ps_if (PW.pt (pw_and (pt_cmpR op_le (pe_op op_mul (pe_ix ix_list (pv 3) (pe_un un_neg pe_int) (fun _ _ => rfl)) (pv 5)) (pe_op op_pow pe_int pe_int) (nomark _)) (pw_and1 (pt_cmpR op_le (pv 5) (pv 2) (nomark _))))) (pss_one (ps_expr (pe_bm PySem.F.plainAttrs_list PySem.F.slot_list_append PySem.F.type_list_append mt_append (pv 3) (pa_cons (pe_op op_mul (pe_ix ix_list (pv 3) (pe_un un_neg pe_int) (fun _ _ => rfl)) (pv 5)) pa_nil)))) pss_nil)))) (pss_one (ps_ret (pv 3))))), ?_⟩)
  · obtain ⟨r, lv, gr, rfl, _⟩ := h
    rfl
  · obtain ⟨r, lv, gr, rfl, hR, l1, l2, g1, g2, q⟩ := h
    have big : (10 : Int) ^ 40 = 10000000000000000000000000000000000000000 := by decide
    refine ⟨(by show 1 ≤ sizeLine; decide), fun l hl => ?_⟩
    have nrl : r ≠ l := hR.ne hl
    have s0 : Stp r H (upd H l (.lst [.int 1])) := (Stp.refl hR).new hl
    refine ⟨_, rfl, _, rfl, r, lv, rfl, s0.1, l1, by omega, fun d H1 d0 d1 s1 => ?_⟩
    refine ⟨d, rfl, by omega, by omega, ?_⟩
    have s01 := s0.trans s1
    refine for_range (fun i σ H' => ∃ ns x y, σ = [some (.ref r), some (.int lv), some (.int gr), some (.ref l), x, y] ∧ Good ns ∧ ns.length ≤ i + 1 ∧ H' l = some (.lst (ns.map V.int)) ∧ Stp r H H' ∧ Gap gr ns) ⟨[1], none, none, rfl, good_one, by simp, s1.2 l _ nrl.symm upd_same, s01, gap_one gr⟩ ?_ ?_
    · rintro i σ H' hi ⟨ns, x, y, rfl, g, hlen, hL, st, gp⟩
      have hi8 : i < 8 := by omega
      obtain ⟨ys, z, rfl⟩ := last_of g.len.1
      have zr := g.rng _ _ (last_get ys z)
      refine ⟨_, rfl, _, rfl, _, _, rfl, rfl, r, gr - 1, rfl, st.1, by omega, by omega, fun d1 H1 a0 a1 t1 => ?_⟩
      have st1 := st.trans t1
      have hL1 : H1 l = some (.lst ((ys ++ [z]).map V.int)) := t1.2 l _ nrl.symm hL
      refine ⟨_, _, rfl, rfl, (by show 5 ≤ sizeLine; decide), fun t ht => ?_⟩
      have st2 := st1.new (o := .lst [.int 2, .int 2, .int 3, .int 4, .int (2 + d1)]) ht
      have nrt : r ≠ t := st1.1.ne ht
      have hL2 : (upd H1 t (.lst [.int 2, .int 2, .int 3, .int 4, .int (2 + d1)])) l = some (.lst ((ys ++ [z]).map V.int)) := by rw [upd_ne (ne_of_none hL1 ht)]; exact hL1
      refine ⟨_, rfl, r, 5, rfl, st2.1, by decide, by omega, fun d2 H3 b0 b1 t3 => ?_⟩
      have st3 := st2.trans t3
      have hL3 : H3 l = some (.lst ((ys ++ [z]).map V.int)) := t3.2 l _ nrl.symm hL2
      obtain ⟨v, hv, hm⟩ := at_of (xs := [.int 2, .int 2, .int 3, .int 4, .int (2 + d1)]) b0 b1
      obtain ⟨k, rfl, k2⟩ : ∃ k : Int, v = .int k ∧ 2 ≤ k := by
        simp only [List.mem_cons, List.not_mem_nil, or_false] at hm
        rcases hm with rfl | rfl | rfl | rfl | rfl
        · exact ⟨_, rfl, by omega⟩
        · exact ⟨_, rfl, by omega⟩
        · exact ⟨_, rfl, by omega⟩
        · exact ⟨_, rfl, by omega⟩
        · exact ⟨_, rfl, by omega⟩
      refine ⟨t, _, _, _, rfl, rfl, SqL.of (t3.2 t _ nrt.symm upd_same), hv, ?_⟩
      refine ⟨_, rfl, _, rfl, l, _, _, _, rfl, rfl, SqL.of hL3, at_last ys z, _, rfl, _, _, rfl, rfl, .inl ⟨by omega, by omega⟩, _, _, rfl, rfl, ⟨by decide, by decide, by decide⟩, _, _, rfl, rfl, _, rfl, ?_⟩
      by_cases hc : z * k ≤ 10 ^ (9 : Int).toNat
      · refine ifT (decide_eq_true hc) ?_
        refine ⟨_, rfl, _, rfl, _, _, rfl, rfl, _, rfl, ite2 (fun hk => ?_) (fun _ => ?_)⟩
        · refine ⟨_, rfl, .inl ⟨rfl, _, SqL.of hL3⟩, _, rfl, _, rfl, l, _, _, _, rfl, rfl, SqL.of hL3, at_last ys z, _, rfl, _, _, rfl, rfl, .inl ⟨by omega, by omega⟩, l, _, _, rfl, rfl, hL3, ?_, ?_⟩
          · exact small1000 (by rw [List.length_map]; omega)
          · have hc2 : z * k ≤ 1000000000 := hc
            refine ⟨(ys ++ [z]) ++ [z * k], _, _, rfl, good_more g (by omega) (last_get ys z) k2 hc2, by rw [List.length_append (bs := [z * k]), List.length_singleton]; omega, ?_, ?_⟩
            · rw [upd_same, List.map_append (l₂ := [z * k])]
              rfl
            · obtain ⟨⟨x1, x2, e1, e2⟩, kk⟩ := st3
              refine ⟨⟨⟨x1, x2, by rw [upd_ne nrl]; exact e1, e2⟩, fun b o n e => ?_⟩, gap_more gp g.len.1 (last_get ys z) (by omega) (of_decide_eq_true hk)⟩
              rw [upd_ne (ne_of_none e hl)]
              exact kk b o n e
        · exact ⟨_, _, _, rfl, g, by omega, hL3, st3, gp⟩
      · exact ifF (decide_eq_false hc) ⟨_, _, _, rfl, g, by omega, hL3, st3, gp⟩
    · rintro σ H' ⟨ns, x, y, rfl, g, hlen, hL, st, gp⟩
      exact ⟨_, rfl, q l ns H' g gp hl hL st⟩
end
end K18

set_option Elab.async false
set_option linter.all false
set_option maxRecDepth 100000
set_option maxHeartbeats 4000000
set_option pp.maxSteps 900
namespace K18
open PySem PySem.Spec PyProof.Rows L2 Gu Ex
abbrev SzI (K : PySem.W.Frag) (H : Hp) (p : Addr) (ns : List Int) : Prop := SzAt (cS K) H p (ns.map V.int)
theorem dp_ints {K : PySem.W.Frag} {H : Hp} : ∀ ns : List Int, DpAll K H (ns.map V.int) (ns.map PyData.int)
  | [] => .nil
  | n :: r => .cons (.int n) (dp_ints r)
theorem flat : ∀ ns : List Int, PyData.depthAll (ns.map PyData.int) = 0
  | [] => rfl
  | n :: r => by
    show max 0 (PyData.depthAll (r.map PyData.int)) = 0
    rw [flat r]
    rfl
theorem can_lay : ∀ ns : List Int, PyData.canLayAll0 (ns.map PyData.int) = true
  | [] => rfl
  | n :: r => by simp only [List.map_cons, PyData.canLayAll0, PyData.canLay0, can_lay r, Bool.and_self]
theorem shaped_ints (ns : List Int) : SeqAt.shaped (.list (ns.map PyData.int)) = true := by
  have e : (PyData.list (ns.map PyData.int)).depth = 1 := by
    show PyData.depthAll (ns.map PyData.int) + 1 = 1
    rw [flat]
  have c : (PyData.list (ns.map PyData.int)).canLay0 = true := can_lay ns
  unfold SeqAt.shaped
  rw [c, e]
  rfl
theorem eqv_ints : ∀ ns ms : List Int, PyData.eqvAll (ns.map PyData.int) (ms.map PyData.int) = decide (ns = ms)
  | [], [] => rfl
  | [], _ :: _ => rfl
  | _ :: _, [] => rfl
  | n :: ns, m :: ms => by
    show ((n == m) && PyData.eqvAll (ns.map PyData.int) (ms.map PyData.int)) = _
    rw [eqv_ints ns ms]
    by_cases h : n = m
    · subst h
      simp
    · simp [h]
theorem ints_tq {K : PySem.W.Frag} {H : Hp} : ∀ {ns : List Int}, (∀ x ∈ ns, -(10 ^ 39) ≤ x ∧ x ≤ 10 ^ 39) → TqAll K H (ns.map V.int) (ns.map PyData.int) 0 41
  | [], _ => ⟨.nil, rfl, Nat.zero_le _, Nat.zero_le _⟩
  | q :: r, h => by
    have a := ints_tq (K := K) (H := H) (ns := r) fun x hx => h x (List.mem_cons_of_mem _ hx)
    obtain ⟨l1, l2⟩ := h q List.mem_cons_self
    have t := tq_int (K := K) (H := H) l1 l2
    obtain ⟨a1, a2, a3, a4⟩ := a
    refine ⟨.cons t.dq a1, ?_, ?_, ?_⟩
    · show ((PyData.int q).showable && PyData.showableAll (r.map PyData.int)) = true
      rw [t.sh, a2]
      rfl
    · show max (PyData.int q).depth (PyData.depthAll (r.map PyData.int)) ≤ 0
      have := t.dp
      omega
    · show ((PyData.int q).shown.length + ((PyData.shownAll (r.map PyData.int)).map (·.length)).sum) + 2 * ((PyData.shownAll (r.map PyData.int)).length + 1) ≤ ((r.map V.int).length + 1) * (41 + 2)
      have := t.ln
      rw [Nat.add_mul, Nat.one_mul]
      omega
theorem Good.bnd {ns : List Int} (g : Good ns) : ∀ x ∈ ns, -(10 ^ 39) ≤ x ∧ x ≤ 10 ^ 39 := fun x hx => by
  obtain ⟨i, hi⟩ := List.getElem?_of_mem hx
  have := g.rng i x hi
  have b39 : (10 : Int) ^ 39 = 1000000000000000000000000000000000000000 := by decide
  omega
def shI (ns : List Int) : Str := (PyData.list (ns.map PyData.int)).shown
theorem good_tq {K : PySem.W.Frag} {H : Hp} {l : Addr} {ns : List Int} (g : Good ns) (h : H l = some (.lst (ns.map V.int))) : Tq K H (.ref l) (.list (ns.map PyData.int)) 1 400 := by
  have t := (ints_tq (K := K) (H := H) g.bnd).lst h
  have l8 := g.len
  refine t.mono (by decide) ?_
  rw [List.length_map]
  omega
section
variable {P : Program} {w : World} {K : PySem.W.Frag} {mg : Str → Option Value} {base : Heap} {f : Addr} {fd : FuncData}
def spTop (K : PySem.W.Frag) : Sp := fun vs H Q _ => ∃ (p : Addr) (ns : List Int), vs = [.ref p] ∧ SzI K H p ns ∧ Q (.int ((ns.length : Int) - 1)) H
theorem sc_top : FnScope ["self"] ["self"] (defScope (inClass (top 21) 10)) := ⟨rfl, rfl, rfl, by decide +kernel, rfl, by decide +kernel, by decide +kernel⟩
theorem ok_top (T : Tx K mg) (F : FnP K "top" "Sizes.top" (inClass (top 21) 10) f fd) : FnOk P w K mg base CX0 1 f fd ["self"] (spTop K) := by
  refine F.ok sc_top (fun vs H Q E h => ?_) (fun cdv A outer s H vs Q E hr h => ⟨_, PSs.nox (pss_one (ps_ret (pe_op op_sub (pe_callB call_len_seq (by rfl) T.n_len (by decide +kernel) (pa_cons (pe_fld (pv 0) rfl) pa_nil)) pe_int))), ?_⟩)
  · obtain ⟨p, ns, rfl, _⟩ := h
    rfl
  · obtain ⟨p, ns, rfl, ⟨dx, l, h1, h2⟩, q⟩ := h
    refine ⟨_, rfl, p, _, dx, _, _, rfl, h1, T.cl, T.nSL, szF_get l, l, _, rfl, .inl (SqL.of h2), _, _, rfl, rfl, ?_⟩
    rw [List.length_map]
    exact q
def spSEq (K : PySem.W.Frag) : Sp := fun vs H Q _ => ∃ (p : Addr) (y : V) (ns : List Int), vs = [.ref p, y] ∧ SzI K H p ns ∧ ((∃ (q : Addr) (ms : List Int), y = .ref q ∧ SzI K H q ms ∧ Q (.bl (decide (ns = ms))) H) ∨ (∃ T, Bv H y T ∧ Q (.bl false) H))
theorem sc_Sizes_eq : FnScope ["self", "other"] ["self", "other"] (defScope (inClass (top 21) 5)) := ⟨rfl, rfl, rfl, by decide +kernel, rfl, by decide +kernel, by decide +kernel⟩
theorem ok_seq (T : Tx K mg) (F : FnP K "__eq__" "Sizes.__eq__" (inClass (top 21) 5) f fd) : FnOk P w K mg base CX0 1 f fd ["self", "other"] (spSEq K) := by
  refine F.ok sc_Sizes_eq (fun vs H Q E h => ?_) (fun cdv A outer s H vs Q E hr h => ⟨_, PSs.nox (pss_one (ps_ret (pe_and (pe_callB call_isi (by rfl) T.n_isinstance (by decide +kernel) (pa_cons (pv 1) (pa_cons (pe_glob (v := .ref _) rfl T.g_Sizes rfl) pa_nil))) (pe_one (pe_cmpR (op_eqD hr.units) (pe_fld (pv 0) rfl) (pe_fld (pv 1) rfl) (nomark _)))))), ?_⟩)
  · obtain ⟨p, y, ns, rfl, _⟩ := h
    rfl
  · obtain ⟨p, y, ns, rfl, ⟨dx, l, h1, h2⟩, ⟨r, ms, rfl, ⟨dy, m, k1, k2⟩, q⟩ | ⟨Ty, bv, q⟩⟩ := h
    · refine ⟨_, rfl, _, _, _, _, true, rfl, .own _, T.io.ty k1, T.io.ki, _, rfl, iteT ?_⟩
      refine ⟨_, rfl, p, _, dx, _, _, rfl, h1, T.cl, T.nSL, szF_get l, _, rfl, r, _, dy, _, _, rfl, k1, T.cl, T.nSL, szF_get m, _, _, .lst (SqL.of h2) (dp_ints ns), .lst (SqL.of k2) (dp_ints ms), shaped_ints _, shaped_ints _, ?_⟩
      show Q (.bl (PyData.eqvAll (ns.map PyData.int) (ms.map PyData.int))) H
      rw [eqv_ints]
      exact q
    · exact ⟨_, rfl, _, _, _, _, false, rfl, .own _, bv.tyx, T.bu.kit bv, _, rfl, iteF q⟩
def spLen (K : PySem.W.Frag) : Sp := fun vs H Q _ => ∃ (p : Addr) (ns : List Int), vs = [.ref p] ∧ SzI K H p ns ∧ Q (.int (ns.length : Nat)) H
theorem sc_Sizes_len : FnScope ["self"] ["self"] (defScope (inClass (top 21) 6)) := ⟨rfl, rfl, rfl, by decide +kernel, rfl, by decide +kernel, by decide +kernel⟩
theorem ok_len (T : Tx K mg) (F : FnP K "__len__" "Sizes.__len__" (inClass (top 21) 6) f fd) : FnOk P w K mg base CX0 1 f fd ["self"] (spLen K) := by
  refine F.ok sc_Sizes_len (fun vs H Q E h => ?_) (fun cdv A outer s H vs Q E hr h => ⟨_, PSs.nox (pss_one (ps_ret (pe_callB call_len_seq (by rfl) T.n_len (by decide +kernel) (pa_cons (pe_fld (pv 0) rfl) pa_nil)))), ?_⟩)
  · obtain ⟨p, ns, rfl, _⟩ := h
    rfl
  · obtain ⟨p, ns, rfl, ⟨dx, l, h1, h2⟩, q⟩ := h
    refine ⟨_, rfl, p, _, dx, _, _, rfl, h1, T.cl, T.nSL, szF_get l, l, _, rfl, .inl (SqL.of h2), ?_⟩
    rw [List.length_map]
    exact q
def spRepr (K : PySem.W.Frag) : Sp := fun vs H Q _ => ∃ (p : Addr) (ns : List Int), vs = [.ref p] ∧ SzI K H p ns ∧ Good ns ∧ Q (.str (("Sizes(" : Str) ++ shI ns ++ (")" : Str))) H
theorem sc_Sizes_repr : FnScope ["self"] ["self"] (defScope (inClass (top 21) 7)) := ⟨rfl, rfl, rfl, by decide +kernel, rfl, by decide +kernel, by decide +kernel⟩
theorem ok_repr (T : Tx K mg) (F : FnP K "__repr__" "Sizes.__repr__" (inClass (top 21) 7) f fd) : FnG P w K mg base CX0 2 f fd ["self"] (spRepr K) := by
  refine okG F sc_Sizes_repr (fun vs H Q E h => ?_) (fun cdv A outer s H vs Q E hr h => ⟨_, PSs.nox (pss_one (ps_ret (pe_joined (.cons pe_str (.cons (pe_fmtRQ hr T.sys (pe_fld (pv 0) rfl)) (.cons pe_str .nil)))))), ?_⟩)
  · obtain ⟨p, ns, rfl, _⟩ := h
    rfl
  · obtain ⟨p, ns, rfl, ⟨dx, l, h1, h2⟩, g, q⟩ := h
    have t := good_tq (K := K) g h2
    have sl : sizeLine = 16777216 := sizeLine_eq
    have e0 : (Str.empty ++ ("Sizes(" : Str)) = ("Sizes(" : Str) := by decide +kernel
    have l0 : ("Sizes(" : Str).length = 6 := by decide +kernel
    have l1 : (")" : Str).length = 1 := by decide +kernel
    have ln : (PyData.list (ns.map PyData.int)).shown.length ≤ 400 := t.ln
    refine ⟨_, rfl, by rw [e0, l0]; omega, _, rfl, p, _, dx, _, _, rfl, h1, T.cl, T.nSL, szF_get l, l, _, rfl, t.dq, t.sh, Nat.le_trans t.dp (by decide), by omega, ?_⟩
    refine ⟨_, rfl, by rw [e0, Str.length_append, l0]; omega, _, rfl, by rw [e0, Str.length_append, Str.length_append, l0, l1]; omega, ?_⟩
    rw [e0]
    exact q
end
end K18

set_option Elab.async false
set_option linter.all false
set_option maxRecDepth 100000
set_option maxHeartbeats 4000000
/-! Mathematics of k11: words read as sizes. -/
namespace K18
open PySem PySem.Spec PyProof.Rows L2 Gu Ex
abbrev cs (x : Str) : List Nat := x.cps.toList
theorem len_cs (x : Str) : x.length = (cs x).length := (Array.length_toList ..).symm
theorem cs_inj {x y : Str} (h : cs x = cs y) : x = y := by
  obtain ⟨a⟩ := x
  obtain ⟨b⟩ := y
  have : a = b := Array.toList_inj.mp h
  rw [this]
theorem digit_in {c : Nat} : c ∈ digits.cps.toList ↔ (48 ≤ c ∧ c ≤ 57) := by
  have e : digits.cps.toList = [48, 49, 50, 51, 52, 53, 54, 55, 56, 57] := by decide +kernel
  rw [e]
  simp only [List.mem_cons, List.not_mem_nil, or_false]
  omega
def allD (l : List Nat) : Bool := l.all fun c => decide (c ∈ digits.cps.toList)
theorem allD_iff {l : List Nat} : allD l = true ↔ NumText.AllDigits l := by
  unfold allD NumText.AllDigits
  rw [List.all_eq_true]
  constructor
  · intro h c hc
    exact digit_in.mp (of_decide_eq_true (h c hc))
  · intro h c hc
    exact decide_eq_true (digit_in.mpr (h c hc))
theorem fold_pos : ∀ (l : List Nat) (a : Nat), 1 ≤ a → 1 ≤ l.foldl (fun acc c => acc * 10 + (c - 48)) a
  | [], _, h => h
  | c :: l, a, h => fold_pos l (a * 10 + (c - 48)) (by omega)
/-- the law's view of a word: a number without a leading 0 -/
def isW (x : Str) : Bool := match cs x with
  | [] => false
  | c :: r => decide (c ≠ 48) && allD (c :: r)
theorem sw_dash (x : Str) : Txt.startswith x "-" = true ↔ ∃ r, cs x = 45 :: r := by
  have hy : TL.tl ("-" : Str) = [45] := by decide +kernel
  have a := TL.at_iff (x := x) (y := "-") (by rw [hy]; simp) 0
  have e : Txt.startswith x "-" = true ↔ TL.pre (TL.tl ("-" : Str)) ((TL.tl x).drop 0) = true := by
    rw [← a]
    unfold Txt.startswith
    rw [Bool.and_eq_true, decide_eq_true_eq]
    exact Iff.rfl
  rw [e, hy, List.drop_zero]
  unfold TL.pre
  show (List.take 1 (cs x) == [45]) = true ↔ _
  cases h : cs x with
  | nil => simp
  | cons c r =>
    simp only [List.take_succ_cons, List.take_zero, beq_iff_eq, List.cons.injEq, and_true]
    constructor
    · rintro rfl
      exact ⟨r, rfl, rfl⟩
    · rintro ⟨_, h, _⟩
      exact h
theorem cut_head {x : Str} {c : Nat} {r : List Nat} (h : cs x = c :: r) : cs (cutS x (some 1) none) = r := by
  have hl : x.length = r.length + 1 := by rw [len_cs, h]; rfl
  show ((cs x).drop (HT.sIx x.length 0 (some 1))).take (HT.sIx x.length x.length none - HT.sIx x.length 0 (some 1)) = r
  have e1 : HT.sIx x.length 0 (some 1) = 1 := by
    have := HT.sIx_nat x.length 0 1
    rw [show ((1 : Nat) : Int) = 1 from rfl] at this
    rw [this]
    omega
  rw [e1, HT.sIx_none, h, List.drop_succ_cons, List.drop_zero]
  exact List.take_of_length_le (by omega)
/-- what a word may be read as -/
def RdOk (x : Str) (v : V) : Prop := (isW x = true → ∃ n : Int, intText? x = some n ∧ 1 ≤ n ∧ v = .int n) ∧ (isW x = false → v = .non ∨ ∃ n : Int, v = .int n ∧ n ≤ 0)
theorem isW_num {x : Str} (h : isW x = true) (hl : x.length ≤ 4000) : ∃ n : Int, intText? x = some n ∧ 1 ≤ n ∧ NumText.AllDigits (cs x) ∧ cs x ≠ [] := by
  unfold isW at h
  cases hc : cs x with
  | nil => rw [hc] at h; cases h
  | cons c r =>
    rw [hc] at h
    obtain ⟨h1, h2⟩ := He.ba (show (decide (c ≠ 48) && allD (c :: r)) = true from h)
    have ad := allD_iff.mp h2
    have c0 := of_decide_eq_true h1
    have c1 := ad.head
    have e := intText_digits (x := x) (by rw [show x.cps.toList = c :: r from hc]; exact ad) (by rw [show x.cps.toList = c :: r from hc]; simp) (by omega)
    refine ⟨_, e, ?_, ad, by simp⟩
    have : 1 ≤ NumText.digitsVal (cs x) := by
      rw [hc]
      show 1 ≤ r.foldl (fun acc c => acc * 10 + (c - 48)) (0 * 10 + (c - 48))
      exact fold_pos r _ (by omega)
    show (1 : Int) ≤ ((NumText.digitsVal (cs x) : Nat) : Int)
    omega
end K18

set_option Elab.async false
set_option linter.all false
set_option maxRecDepth 100000
set_option maxHeartbeats 4000000
set_option pp.maxSteps 900
namespace K18
open PySem PySem.Spec PyProof.Rows L2 Gu Ex
/-- a comprehension over a text's signs -/
theorem lc_text {x : Str} {g : TG} {tt : TT} {te : TE} {vs : List Nat} {σ : L2.St} {H1 : Hp} {D : Addr} {Qd : Hp → Prop} (Pv : Nat → Hp → Prop) (h0 : Pv 0 (upd H1 D (.lst [])))
    (hs : ∀ i c H, x.cps.toList[i]? = some c → Pv i H → g (.str ⟨#[c]⟩) (wipe σ vs) H fun σ2 H2 => wipe σ2 vs = wipe σ vs ∧ tt σ2 H2 fun b H3 =>
      if b = true then te σ2 H3 fun y H4 => ∃ acc, H4 D = some (.lst acc) ∧ acc.length < sizeLine ∧ Pv (i + 1) (upd H4 D (.lst (acc ++ [y]))) else Pv (i + 1) H3) (hd : ∀ H, Pv x.cps.toList.length H → Qd H) :
    ∃ W : Nat → Nat → Hp → Prop, (∃ m, W 0 m (upd H1 D (.lst []))) ∧ ∀ i m H, W i m H →
      ((Its x).stop i H ∧ Qd H) ∨ ((Its x).go i H ∧ ∃ Nx : Hp → Prop, (∀ H', Nx H' → ∃ m', m' < m ∧ W (i + 1) m' H') ∧ ∀ v H', (Its x).yld i H v H' → g v (wipe σ vs) H' fun σ2 H2 => wipe σ2 vs = wipe σ vs ∧ tt σ2 H2 fun b H3 =>
        if b = true then te σ2 H3 fun y H4 => ∃ acc, H4 D = some (.lst acc) ∧ acc.length < sizeLine ∧ Nx (upd H4 D (.lst (acc ++ [y]))) else Nx H3) := by
  have hsz : x.cps.size = x.cps.toList.length := (Array.length_toList ..).symm
  refine ⟨fun i m H => m = x.cps.size - i ∧ i ≤ x.cps.size ∧ Pv i H, ⟨x.cps.size, by simp, Nat.zero_le _, h0⟩, ?_⟩
  rintro i m H ⟨rfl, hi, p⟩
  by_cases hlt : i < x.cps.size
  · refine .inr ⟨hlt, Pv (i + 1), fun H' p' => ⟨x.cps.size - (i + 1), by omega, rfl, hlt, p'⟩, fun v H' y => ?_⟩
    obtain ⟨rfl, c, hc, rfl⟩ := y
    exact hs i c _ (by rw [Array.getElem?_toList]; exact hc) p
  · have e : i = x.cps.size := by omega
    subst e
    refine .inl ⟨Nat.le_refl _, hd H (by rw [← hsz]; exact p)⟩
theorem join2 {α β : Type} {G : Prop} (Pc : α → β → Prop) {R : α → β → Prop} (h1 : (∀ a b, Pc a b → R a b) → G) (h2 : ∀ a b, Pc a b → R a b) : G := h1 h2
theorem sv_ne {a b : Str} (h : ¬ a = b) : ¬ V.str a = V.str b := fun z => h (V.str.inj z)
theorem at_head {c : Nat} {r : List Nat} : atI (c :: r) 0 = some c := (show atI (c :: r) ((0 : Nat) : Int) = some c from atI_nat rfl)
theorem one_sign {c d : Nat} (h : c ≠ d) : ¬ (⟨#[c]⟩ : Str) = ⟨#[d]⟩ := fun z => by
  have e := congrArg (fun y : Str => y.cps.toList) z
  exact h (List.cons.inj (show [c] = [d] from e)).1
section
variable {P : Program} {w : World} {K : PySem.W.Frag} {mg : Str → Option Value} {base : Heap} {f : Addr} {fd : FuncData}
def spRead : Sp := fun vs H Q _ => ∃ x : Str, vs = [.str x] ∧ x.length ≤ 600 ∧ ∀ v H', Same H H' → RdOk x v → Q v H'
theorem sc_read_integer : FnScope ["word", "digits", "digit"] ["word"] (defScope (top 18)) := ⟨rfl, rfl, rfl, by decide +kernel, rfl, by decide +kernel, by decide +kernel⟩
theorem ok_read (T : Tx K mg) (F : FnP K "read_integer" "read_integer" (top 18) f fd) : FnOk P w K mg base CX0 1 f fd ["word"] spRead := by
  obtain ⟨td, hD⟩ := T.gD
  obtain ⟨tm, hM⟩ := T.gM
  refine F.ok sc_read_integer (fun vs H Q E h => ?_) (fun cdv A outer s H vs Q E hr h => ⟨_, PSs.nox (pss_cons (ps_set (i := 1) sc_read_integer.nd rfl (by first | exact Or.inl rfl | exact Or.inr rfl) (pe_ifExp (pt_val (pe_m1 PySem.F.slot_str_startswith PySem.F.type_str_startswith mt_startswith (pv 0) pe_str)) (pe_slice sl_str (pv 0) (po_some pe_int) po_none) (pv 0))) (pss_cons (ps_if (PW.pt (pw_or (pt_not (pt_chain op_le op_le pe_int (pe_callB call_len_str (by rfl) T.n_len (by decide +kernel) (pa_cons (pv 1) pa_nil)) (pe_glob (v := .int 4000) rfl hM ⟨_, rfl⟩))) (pw_or1 (pt_not (pt_val (pe_callB (cr_all rfl) (by rfl) T.n_all (by decide +kernel) (pa_cons (pe_lc (own := [("digit", 2)]) (g := gName 2) rfl sc_read_integer.nd (pi_str (pv 1)) (blkOk_by (own := [("digit", 2)]) (N := ["word", "digits", "digit"]) (sc := defScope (top 18)) (by decide +kernel)) (fun _ _ _ _ _ => pg_name (i := 2) sc_read_integer.nd rfl (Or.inl rfl)) (fun _ _ _ _ _ => pts_nil) (fun _ _ _ _ _ => (pe_cmpR op_in_sign (pv 2) (pe_glob (v := .str digits) rfl hD ⟨_, rfl⟩) (by rfl)))) pa_nil))))))) (pss_one (ps_ret pe_non)) pss_nil) (pss_one (ps_ret (pe_ifExp (PW.pt (pw_or (pt_cmpR op_ne (pe_ix ix_str (pv 1) pe_int (fun _ _ => rfl)) pe_str (nomark _)) (pw_or1 (pt_cmpR op_eq (pv 0) pe_str (nomark _))))) (pe_callTy call_int_str (by rfl) T.n_int (by decide +kernel) (pa_cons (pv 0) pa_nil)) pe_non))))), ?_⟩)
  · obtain ⟨x, rfl, _⟩ := h
    rfl
  · obtain ⟨x, rfl, hl, q⟩ := h
    have sl : sizeLine = 16777216 := sizeLine_eq
    have z48 : ("0" : Str) = ⟨#[48]⟩ := by decide +kernel
    have cz : cs ("0" : Str) = [48] := by decide +kernel
    refine join (fun y : Str => y.length ≤ 600 ∧ ((∃ r, cs x = 45 :: r ∧ cs y = r) ∨ ((¬ ∃ r, cs x = 45 :: r) ∧ y = x))) (R := ?R) (fun tail => ?main) ?tl
    case main =>
      refine ⟨_, rfl, ⟨x, rfl⟩, x, "-", rfl, rfl, _, rfl, ?_⟩
      by_cases h1 : Txt.startswith x "-" = true
      · obtain ⟨r, hr⟩ := (sw_dash x).mp h1
        refine ifT h1 ⟨_, rfl, _, rfl, x, rfl, by omega, ?_⟩
        have hc := cut_head hr
        have hcl : (cutS x (some 1) none).length ≤ 600 := by
          rw [len_cs, hc]
          have := len_cs x
          rw [hr] at this
          simp only [List.length_cons] at this
          omega
        generalize cutS x (some 1) none = y at *
        exact tail y ⟨hcl, .inl ⟨r, hr, hc⟩⟩
      · refine ifF (eq_false_of_ne_true h1) ⟨_, rfl, ?_⟩
        exact tail x ⟨hl, .inr ⟨fun z => h1 ((sw_dash x).mpr z), rfl⟩⟩
    case tl =>
      rintro y ⟨yl, hy⟩
      have ylc := len_cs y
      have xlc := len_cs x
      have no : ∀ H', Same H H' → isW x = false → Q .non H' := fun H' s h => q .non H' s ⟨fun z => (by rw [h] at z; cases z), fun _ => .inl rfl⟩
      -- a word that is one of the law's has all signs in digits, and begins not with a dash
      have good : isW x = true → y = x ∧ allD (cs y) = true ∧ cs y ≠ [] ∧ ∀ c r, cs y = c :: r → c ≠ 48 := fun h => by
        obtain ⟨n, _, _, ad, ne⟩ := isW_num h (by omega)
        rcases hy with ⟨r, h1, _⟩ | ⟨_, rfl⟩
        · rw [h1] at ad
          exact absurd ad.head (by omega)
        · refine ⟨rfl, allD_iff.mpr ad, ne, fun c r e => ?_⟩
          unfold isW at h
          rw [e] at h
          exact of_decide_eq_true (He.ba (show (decide (c ≠ 48) && allD (c :: r)) = true from h)).1
      refine ⟨_, rfl, y, rfl, by omega, _, _, rfl, rfl, _, rfl, ?_⟩
      by_cases h1 : (1 : Int) ≤ (y.length : Int)
      case neg =>
        have w0 : isW x = false := by
          cases hw : isW x with
          | false => rfl
          | true =>
            obtain ⟨_, _, ne, _⟩ := good hw
            have : (cs y).length ≠ 0 := fun z => ne (List.eq_nil_of_length_eq_zero z)
            omega
        exact ifF (decide_eq_false h1) ⟨_, rfl, iteT (no H (Same.refl H) w0)⟩
      case pos =>
        refine ifT (decide_eq_true h1) ⟨_, _, rfl, rfl, _, rfl, ?_⟩
        refine ifF (by rw [decide_eq_true (show (y.length : Int) ≤ 4000 by omega)]; rfl) ?_
        refine ⟨_, rfl, y, rfl, fun D hD => ?_⟩
        refine lc_text (fun i H' => H' D = some (.lst (((cs y).take i).map fun c => V.bl (decide (c ∈ digits.cps.toList)))) ∧ Same H H') ⟨upd_same, same_upd hD⟩ ?_ ?_
        · rintro i c H' hc ⟨hD', sm⟩
          have hi : i < (cs y).length := (List.getElem?_eq_some_iff.mp hc).1
          refine ⟨rfl, _, rfl, c, digits, rfl, rfl, _, hD', small1000 ?_, ?_, fun b o e => ?_⟩
          · rw [List.length_map, List.length_take]
            omega
          · rw [upd_same, List.take_add_one, hc, List.map_append]
            rfl
          · rw [upd_ne (ne_of_none e hD)]
            exact sm b o e
        · rintro H' ⟨hD', sm⟩
          rw [List.take_length] at hD'
          have eq : ((cs y).map fun c => V.bl (decide (c ∈ digits.cps.toList))) = ((cs y).map fun c => decide (c ∈ digits.cps.toList)).map V.bl := by rw [List.map_map]; rfl
          rw [eq] at hD'
          refine ⟨D, _, rfl, SqL.of hD', ?_⟩
          have ea : (List.map (fun c => decide (c ∈ digits.cps.toList)) (cs y)).all id = allD (cs y) := by
            rw [List.all_map]
            rfl
          rw [ea]
          refine ⟨_, rfl, ?_⟩
          cases hall : allD (cs y) with
          | false =>
            have w0 : isW x = false := by
              cases hw : isW x with
              | false => rfl
              | true =>
                obtain ⟨_, a, _, _⟩ := good hw
                rw [hall] at a
                cases a
            exact iteT (no H' sm w0)
          | true =>
            have ad := allD_iff.mp hall
            refine iteF ?_
            cases hcy : cs y with
            | nil => rw [hcy] at ylc; simp at ylc; omega
            | cons c r =>
              refine ⟨_, rfl, y, 0, c, rfl, rfl, by omega, by rw [show y.cps.toList = c :: r from hcy]; exact at_head, rfl, _, rfl, ?_⟩
              have dec : ∀ n : Int, intText? x = some n → RdOk x (.int n) → Q (.int n) H' := fun n e k => q (.int n) H' sm k
              by_cases hc : c = 48
              · -- begins with 0
                have w0 : isW x = false := by
                  cases hw : isW x with
                  | false => rfl
                  | true =>
                    obtain ⟨_, _, _, z⟩ := good hw
                    exact absurd hc (z c r hcy)
                refine ifF (by rw [z48, hc, decide_eq_true rfl]; rfl) ⟨_, rfl, rfl, _, rfl, ?_⟩
                by_cases hx0 : x = "0"
                · refine ifT (decide_eq_true (congrArg V.str hx0)) ⟨_, rfl, x, 0, rfl, ?_, by omega, ?_⟩
                  · rw [hx0]
                    decide +kernel
                  · exact q (.int 0) H' sm ⟨fun z => (by rw [w0] at z; cases z), fun _ => .inr ⟨0, rfl, by decide⟩⟩
                · exact ifF (decide_eq_false (sv_ne hx0)) (no H' sm w0)
              · refine ifT (by rw [z48, decide_eq_false (sv_ne (one_sign hc))]; rfl) ?_
                rcases hy with ⟨r', h1', h2'⟩ | ⟨_, rfl⟩
                · -- a negative number
                  have en := intText_neg (x := x) h1' (by rw [← h2']; exact ad) (by rw [← h2', hcy]; simp) (by omega)
                  have w0 : isW x = false := by
                    cases hw : isW x with
                    | false => rfl
                    | true =>
                      obtain ⟨_, _, _, ad2, _⟩ := isW_num hw (by omega)
                      rw [h1'] at ad2
                      exact absurd ad2.head (by omega)
                  refine ⟨_, rfl, x, _, rfl, en, by omega, ?_⟩
                  exact q _ H' sm ⟨fun z => (by rw [w0] at z; cases z), fun _ => .inr ⟨_, rfl, by omega⟩⟩
                · have hw : isW y = true := by
                    unfold isW
                    rw [hcy]
                    show (decide (c ≠ 48) && allD (c :: r)) = true
                    rw [decide_eq_true hc, ← hcy, hall]
                    rfl
                  obtain ⟨n, e1, e2, _, _⟩ := isW_num hw (by omega)
                  refine ⟨_, rfl, y, n, rfl, e1, by omega, ?_⟩
                  exact q _ H' sm ⟨fun _ => ⟨n, e1, e2, rfl⟩, fun z => (by rw [hw] at z; cases z)⟩
end
end K18

set_option Elab.async false
set_option linter.all false
set_option maxRecDepth 100000
set_option maxHeartbeats 4000000
/-! Mathematics of k11: lists that are sizes. -/
namespace K18
open PySem PySem.Spec PyProof.Rows L2 Gu Ex
theorem first_none {xs : List V} : ∀ {n p : Nat}, firstFrom xs p n = none ↔ ∀ i, p ≤ i → i < p + n → prob xs i = none
  | 0, p => ⟨fun _ i h1 h2 => absurd h2 (by omega), fun _ => rfl⟩
  | n + 1, p => by
    cases hp : prob xs p with
    | none =>
      rw [first_skip hp, first_none (n := n) (p := p + 1)]
      constructor
      · intro h i h1 h2
        by_cases hi : i = p
        · rw [hi]; exact hp
        · exact h i (by omega) (by omega)
      · exact fun h i h1 h2 => h i (by omega) (by omega)
    | some s =>
      rw [first_hit hp]
      constructor
      · intro h
        cases h
      · intro h
        rw [h p (Nat.le_refl _) (by omega)] at hp
        cases hp
theorem wrong_none {xs : List V} : wrong xs = none ↔ (∀ i, i < xs.length → prob xs i = none) ∧ 1 ≤ xs.length ∧ xs.length ≤ 8 := by
  unfold wrong
  cases h : firstFrom xs 0 xs.length with
  | none =>
    have h2 := first_none.mp h
    have h3 : ∀ i, i < xs.length → prob xs i = none := fun i hi => h2 i (Nat.zero_le _) (by omega)
    show (if 1 ≤ xs.length ∧ xs.length ≤ 8 then none else some (("count" : Str), 0)) = none ↔ _
    by_cases hl : 1 ≤ xs.length ∧ xs.length ≤ 8
    · rw [if_pos hl]
      exact ⟨fun _ => ⟨h3, hl⟩, fun _ => rfl⟩
    · rw [if_neg hl]
      constructor
      · intro z
        cases z
      · intro z
        exact absurd z.2 hl
  | some e =>
    show some e = none ↔ _
    constructor
    · intro z
      cases z
    · intro z
      have := (first_none (xs := xs) (n := xs.length) (p := 0)).mpr fun i (_ : 0 ≤ i) hi => z.1 i (by omega)
      rw [h] at this
      cases this
theorem prob_at {xs : List V} {i : Nat} {z : Int} (h : xs[i]? = some (.int z)) : prob xs i = if 1 ≤ z ∧ z ≤ 1000000000 then (if i = 0 then (if z = 1 then none else some ("first" : Str)) else probB z xs[i - 1]?) else some ("number" : Str) := by
  unfold prob
  rw [h]
  rfl
theorem good_wrong {ns : List Int} (g : Good ns) : wrong (ns.map V.int) = none := by
  refine wrong_none.mpr ⟨fun i hi => ?_, by rw [List.length_map]; exact g.len.1, by rw [List.length_map]; exact g.len.2⟩
  rw [List.length_map] at hi
  have hz := List.getElem?_eq_getElem hi
  generalize ns[i] = z at hz
  have hz2 : (ns.map V.int)[i]? = some (.int z) := by rw [List.getElem?_map, hz]; rfl
  rw [prob_at hz2, if_pos (g.rng i z hz)]
  by_cases h0 : i = 0
  · rw [if_pos h0]
    rw [h0, g.one] at hz
    cases hz
    rfl
  · rw [if_neg h0]
    have hb : i - 1 < ns.length := by omega
    have hb2 := List.getElem?_eq_getElem hb
    generalize ns[i - 1] = b at hb2
    rw [List.getElem?_map, hb2]
    show (if z ≤ b ∨ z % b ≠ 0 then some ("multiple" : Str) else none) = none
    have u := g.up (i - 1) b z hb2 (by rw [show i - 1 + 1 = i by omega]; exact hz)
    rw [if_neg (by omega)]
def toI : V → Int
  | .int z => z
  | _ => 0
theorem wrong_good {xs : List V} (h : wrong xs = none) : ∃ ns : List Int, xs = ns.map V.int ∧ Good ns := by
  obtain ⟨hp, l1, l2⟩ := wrong_none.mp h
  have hi : ∀ i, i < xs.length → ∃ z : Int, xs[i]? = some (.int z) ∧ 1 ≤ z ∧ z ≤ 1000000000 := fun i hi => prob_int hi (hp i hi)
  have e : xs = (xs.map toI).map V.int := by
    apply List.ext_getElem?
    intro i
    by_cases h2 : i < xs.length
    · obtain ⟨z, hz, _⟩ := hi i h2
      rw [List.getElem?_map, List.getElem?_map, hz]
      rfl
    · rw [List.getElem?_eq_none (by omega), List.getElem?_eq_none (by rw [List.length_map, List.length_map]; omega)]
  refine ⟨xs.map toI, e, ⟨by rw [List.length_map]; exact l1, by rw [List.length_map]; exact l2⟩, ?_, fun i x hx => ?_, fun i x y hx hy => ?_⟩
  · obtain ⟨z, hz, r⟩ := hi 0 (by omega)
    have p0 := hp 0 (by omega)
    rw [prob_at hz, if_pos r, if_pos rfl] at p0
    by_cases h1 : z = 1
    · rw [List.getElem?_map, hz, h1]
      rfl
    · rw [if_neg h1] at p0
      cases p0
  · rw [List.getElem?_map] at hx
    obtain ⟨v, hv, e2⟩ := Option.map_eq_some_iff.mp hx
    have hl := (List.getElem?_eq_some_iff.mp hv).1
    obtain ⟨z, hz, r⟩ := hi i hl
    rw [hv] at hz
    cases hz
    cases e2
    exact r
  · rw [List.getElem?_map] at hx hy
    obtain ⟨v, hv, e2⟩ := Option.map_eq_some_iff.mp hx
    obtain ⟨v', hv', e3⟩ := Option.map_eq_some_iff.mp hy
    have hl := (List.getElem?_eq_some_iff.mp hv').1
    obtain ⟨z, hz, r⟩ := hi i (by omega)
    obtain ⟨z', hz', r'⟩ := hi (i + 1) hl
    rw [hv] at hz
    rw [hv'] at hz'
    cases hz
    cases hz'
    cases e2
    cases e3
    have p0 := hp (i + 1) hl
    rw [prob_at hv', if_pos r', if_neg (by omega), show i + 1 - 1 = i by omega, hv] at p0
    have p1 : (if z' ≤ z ∨ z' % z ≠ 0 then some ("multiple" : Str) else none) = none := p0
    show z < z' ∧ z' % z = 0
    by_cases hc : z' ≤ z ∨ z' % z ≠ 0
    · rw [if_pos hc] at p1
      cases p1
    · omega
end K18

set_option Elab.async false
set_option linter.all false
set_option maxRecDepth 100000
set_option maxHeartbeats 4000000
/-! Mathematics of k11: texts of sizes. -/
namespace K18
open PySem PySem.Spec PyProof.Rows L2 Gu Ex
theorem spl_bnd (S : List Nat) : ∀ (l : List Nat) (k : Nat) (acc : List Nat), (TL.spl S k acc l).length ≤ l.length + 1 ∧ (∀ p ∈ TL.spl S k acc l, p.length ≤ acc.length + l.length) ∧ TL.spl S k acc l ≠ []
  | [], k, acc => by
    rw [TL.spl_nil]
    refine ⟨Nat.le_refl _, fun p hp => ?_, by simp⟩
    rw [List.mem_singleton.mp hp]
    exact Nat.le_refl _
  | c :: r, 0, acc => by
    cases hp : TL.pre S (c :: r) with
    | true =>
      rw [TL.spl_hit hp]
      obtain ⟨h1, h2, h3⟩ := spl_bnd S r (S.length - 1) []
      refine ⟨by simp only [List.length_cons]; omega, fun p hq => ?_, by simp⟩
      rcases List.mem_cons.mp hq with rfl | z
      · omega
      · have := h2 p z
        simp only [List.length_cons, List.length_nil] at this ⊢
        omega
    | false =>
      rw [TL.spl_miss hp]
      obtain ⟨h1, h2, h3⟩ := spl_bnd S r 0 (acc ++ [c])
      refine ⟨by simp only [List.length_cons]; omega, fun p hq => ?_, h3⟩
      have := h2 p hq
      simp only [List.length_append, List.length_cons, List.length_nil] at this ⊢
      omega
  | c :: r, k + 1, acc => by
    have e : TL.spl S (k + 1) acc (c :: r) = TL.spl S k acc r := rfl
    rw [e]
    obtain ⟨h1, h2, h3⟩ := spl_bnd S r k acc
    refine ⟨by simp only [List.length_cons]; omega, fun p hq => ?_, h3⟩
    have := h2 p hq
    simp only [List.length_cons]
    omega
abbrev wds (x : Str) : List Str := Txt.split x " "
theorem wds_bnd (x : Str) : (wds x).length ≤ x.length + 1 ∧ (∀ w ∈ wds x, w.length ≤ x.length) ∧ wds x ≠ [] := by
  have hy : TL.tl (" " : Str) = [32] := by decide +kernel
  have e := TL.split_spl x " " (by rw [hy]; simp) (TL.kind_ok (by decide +kernel))
  obtain ⟨h1, h2, h3⟩ := spl_bnd (TL.tl (" " : Str)) (TL.tl x) 0 []
  rw [← e] at h1 h2 h3
  have lx := len_cs x
  refine ⟨?_, fun w hw => ?_, fun z => h3 (by rw [show Txt.split x " " = [] from z]; rfl)⟩
  · rw [List.length_map] at h1
    have : (TL.tl x).length = (cs x).length := rfl
    show (Txt.split x " ").length ≤ _
    omega
  · have := h2 _ (List.mem_map.mpr ⟨w, hw, rfl⟩)
    have lw := len_cs w
    have e1 : (TL.tl w).length = (cs w).length := rfl
    have e2 : (TL.tl x).length = (cs x).length := rfl
    simp only [List.length_nil] at this
    omega
def rd (w : Str) : Int := (intText? w).getD 0
/-- the text is that of these sizes -/
def RdS (x : Str) (ns : List Int) : Prop := (∀ w ∈ wds x, isW w = true) ∧ ns = (wds x).map rd ∧ Good ns
theorem read_sizes : ∀ {ws : List Str} {xs : List V}, Paired RdOk ws xs → (∀ w ∈ ws, isW w = true) → xs = (ws.map rd).map V.int
  | _, _, .nil, _ => rfl
  | w :: ws, _, .cons h r, a => by
    obtain ⟨n, e, _, rfl⟩ := h.1 (a w List.mem_cons_self)
    have z := read_sizes r fun u hu => a u (List.mem_cons_of_mem _ hu)
    rw [List.map_cons, List.map_cons, ← z]
    show V.int n :: _ = V.int ((intText? w).getD 0) :: _
    rw [e]
    rfl
theorem read_words : ∀ {ws : List Str} {xs : List V}, Paired RdOk ws xs → (∀ v ∈ xs, ∃ z : Int, v = .int z ∧ 1 ≤ z) → ∀ w ∈ ws, isW w = true
  | _, _, .nil, _, w, hw => absurd hw List.not_mem_nil
  | w' :: ws, v :: xs, .cons h r, a, w, hw => by
    rcases List.mem_cons.mp hw with rfl | z
    · cases e : isW w with
      | true => rfl
      | false =>
        obtain ⟨z, rfl, hz⟩ := a v List.mem_cons_self
        rcases h.2 e with q | ⟨n, q, hn⟩
        · cases q
        · cases q
          omega
    · exact read_words r (fun u hu => a u (List.mem_cons_of_mem _ hu)) w z
theorem read_iff {x : Str} {xs : List V} (h : Paired RdOk (wds x) xs) : (wrong xs = none → RdS x ((wds x).map rd) ∧ xs = ((wds x).map rd).map V.int) ∧ (wrong xs ≠ none → ∀ ns, ¬ RdS x ns) := by
  constructor
  · intro hw
    obtain ⟨ns, rfl, g⟩ := wrong_good hw
    have a := read_words h fun v hv => by
      obtain ⟨z, hz, rfl⟩ := List.mem_map.mp hv
      obtain ⟨i, hi⟩ := List.getElem?_of_mem hz
      exact ⟨z, rfl, (g.rng i z hi).1⟩
    have e := read_sizes h a
    have e2 : ns = (wds x).map rd := by
      have inj : ∀ {a b : List Int}, a.map V.int = b.map V.int → a = b := fun {a b} z => by
        have := congrArg (List.map toI) z
        rw [List.map_map, List.map_map] at this
        have id' : toI ∘ V.int = id := rfl
        rw [id', List.map_id, List.map_id] at this
        exact this
      exact inj e
    subst e2
    exact ⟨⟨a, rfl, g⟩, rfl⟩
  · rintro hw ns ⟨a, rfl, g⟩
    rw [read_sizes h a] at hw
    exact hw (good_wrong g)
end K18

set_option Elab.async false
set_option linter.all false
set_option maxRecDepth 100000
set_option maxHeartbeats 4000000
set_option pp.maxSteps 900
namespace K18
open PySem PySem.Spec PyProof.Rows L2 Gu Ex
theorem rd_any {H : Hp} : ∀ {ws : List Str} {xs : List V}, Paired RdOk ws xs → ∀ v ∈ xs, Any H v
  | _, _, .nil, v, hv => absurd hv List.not_mem_nil
  | w :: ws, v' :: xs, .cons h r, v, hv => by
    rcases List.mem_cons.mp hv with rfl | z
    · cases e : isW w with
      | true =>
        obtain ⟨n, _, _, rfl⟩ := h.1 e
        exact .int n
      | false =>
        rcases h.2 e with rfl | ⟨n, rfl, _⟩
        · exact .non
        · exact .int n
    · exact rd_any r v z
/-- the sizes of doubling(k) -/
def pows (k : Nat) : List Int := (List.range k).map fun i => ((2 ^ i : Nat) : Int)
theorem pows_more (k : Nat) : pows k ++ [((2 ^ k : Nat) : Int)] = pows (k + 1) := by
  unfold pows
  rw [List.range_succ, List.map_append]
  rfl
theorem pows_len (k : Nat) : (pows k).length = k := by unfold pows; rw [List.length_map, List.length_range]
theorem pows_get {k i : Nat} {x : Int} (h : (pows k)[i]? = some x) : i < k ∧ x = ((2 ^ i : Nat) : Int) := by
  unfold pows at h
  rw [List.getElem?_map] at h
  obtain ⟨v, hv, e⟩ := Option.map_eq_some_iff.mp h
  have hl := (List.getElem?_eq_some_iff.mp hv).1
  rw [List.length_range] at hl
  rw [List.getElem?_range hl] at hv
  cases hv
  exact ⟨hl, e.symm⟩
theorem pows_good {k : Nat} (h1 : 1 ≤ k) (h8 : k ≤ 8) : Good (pows k) := by
  refine ⟨by rw [pows_len]; exact ⟨h1, h8⟩, ?_, fun i x hx => ?_, fun i x y hx hy => ?_⟩
  · unfold pows
    rw [List.getElem?_map, List.getElem?_range h1]
    rfl
  · obtain ⟨hi, rfl⟩ := pows_get hx
    have h2 : 2 ^ i ≤ 2 ^ 8 := Nat.pow_le_pow_right (by decide) (by omega)
    have h3 : 1 ≤ 2 ^ i := Nat.one_le_two_pow
    have h4 : (2 : Nat) ^ 8 = 256 := by decide
    omega
  · obtain ⟨hi, rfl⟩ := pows_get hx
    obtain ⟨hi2, rfl⟩ := pows_get hy
    have e : 2 ^ (i + 1) = 2 ^ i * 2 := Nat.pow_succ ..
    have h3 : 1 ≤ 2 ^ i := Nat.one_le_two_pow
    rw [e]
    refine ⟨by omega, ?_⟩
    have z := Int.mul_emod_right ((2 ^ i : Nat) : Int) 2
    rw [show (((2 ^ i * 2 : Nat)) : Int) = ((2 ^ i : Nat) : Int) * 2 by omega]
    exact z
section
variable {P : Program} {w : World} {K : PySem.W.Frag} {mg : Str → Option Value} {base : Heap} {f : Addr} {fd : FuncData}
theorem sc_InvalidCount_init : FnScope ["self", "value"] ["self", "value"] (defScope (inClass (top 6) 0)) := ⟨rfl, rfl, rfl, by decide +kernel, rfl, by decide +kernel, by decide +kernel⟩
theorem ok_errC (T : Tx K mg) (F : FnP K "__init__" "InvalidCount.__init__" (inClass (top 6) 0) f fd) : FnOk P w K mg base CX0 1 f fd ["self", "value"] (Ex.spErr (cC K) "value") := by
  refine F.ok sc_InvalidCount_init (fun vs H Q E h => ?_) (fun cdv A outer s H vs Q E hr h => ⟨_, PSs.nox (pss_one (ps_fst (B := "ValueError") (tl := tailE "ValueError") (pv 0) (pv 1))), ?_⟩)
  · obtain ⟨a, v, rfl, _⟩ := h
    rfl
  · obtain ⟨a, v, rfl, ha, q⟩ := h
    exact ⟨_, rfl, _, rfl, a, cC K, rfl, T.eC.ox, T.eC.no, ha, q⟩
theorem sc_InvalidText_init : FnScope ["self", "line"] ["self", "line"] (defScope (inClass (top 7) 0)) := ⟨rfl, rfl, rfl, by decide +kernel, rfl, by decide +kernel, by decide +kernel⟩
theorem ok_errX (T : Tx K mg) (F : FnP K "__init__" "InvalidText.__init__" (inClass (top 7) 0) f fd) : FnOk P w K mg base CX0 1 f fd ["self", "line"] (Ex.spErr (cX K) "line") := by
  refine F.ok sc_InvalidText_init (fun vs H Q E h => ?_) (fun cdv A outer s H vs Q E hr h => ⟨_, PSs.nox (pss_one (ps_fst (B := "ValueError") (tl := tailE "ValueError") (pv 0) (pv 1))), ?_⟩)
  · obtain ⟨a, v, rfl, _⟩ := h
    rfl
  · obtain ⟨a, v, rfl, ha, q⟩ := h
    exact ⟨_, rfl, _, rfl, a, cX K, rfl, T.eX.ox, T.eX.no, ha, q⟩
theorem ok_errXH (T : Tx K mg) (F : FnP K "__init__" "InvalidText.__init__" (inClass (top 7) 0) f fd) : L2H.FnH P w K mg base CX0 1 f fd ["self", "line"] (Ex.spErr (cX K) "line") := by
  refine okH F sc_InvalidText_init (fun vs H Q E h => ?_) (fun cdv A outer s H vs Q E p hot hr h => ⟨_, pss_one (ps_fst (B := "ValueError") (tl := tailE "ValueError") (pv 0) (pv 1)), ?_⟩)
  · obtain ⟨a, v, rfl, _⟩ := h
    rfl
  · obtain ⟨a, v, rfl, ha, q⟩ := h
    exact ⟨_, rfl, _, rfl, a, cX K, rfl, T.eX.ox, T.eX.no, ha, q⟩
/-- the error's maker while another error is handled -/
structure EiH (P : Program) (w : World) (K : PySem.W.Frag) (mg : Str → Option Value) (base : Heap) : Prop where
  ex : ∃ fd, L2H.FnH P w K mg base CX0 1 (He.ma K (cX K) "__init__") fd ["self", "line"] (Ex.spErr (cX K) "line") ∧ Binds K fd ["self", "line"] []
/-- the error with this field -/
def Err1 (H : Hp) (E : XK) (C : Addr) (n : Str) (v : V) : Prop := ∀ d H', H d = none → Same H H' → H' d = some (.xd [(n, v)]) → E (.ref C) (some d) H'
def spDbl (K : PySem.W.Frag) : Sp := fun vs H Q E => ∃ v : V, vs = [.ref (cS K), v] ∧ Any H v ∧ (∀ n : Nat, v = .int n → 1 ≤ n → n ≤ 8 → ∀ p H', Same H H' → SzI K H' p (pows n) → Q (.ref p) H') ∧ ((∀ n : Nat, v = .int n → 1 ≤ n → n ≤ 8 → False) → Err1 H E (cC K) "value" v)
theorem sc_doubling : FnScope ["cls", "count", "sizes"] ["cls", "count"] (defScope (inClass (top 21) 8)) := ⟨rfl, rfl, rfl, by decide +kernel, rfl, by decide +kernel, by decide +kernel⟩
theorem ok_dbl (T : Tx K mg) (D_is_integer : Df P w K mg base 1 "is_integer" ["value"] spInt) (K_Sizes : KfX P w K mg base (L2N.CX P w) 5 "Sizes" ["self", "values"] (spMade K)) (M : Ex.Ei P w K mg base "InvalidCount" "value") (F : FnP K "doubling" "Sizes.doubling" (inClass (top 21) 8) f fd) :
    FnOk P w K mg base (L2.CX P w) 7 f fd ["cls", "count"] (spDbl K) := by
  obtain ⟨fdI, FI, bI⟩ := M.ex
  obtain ⟨u8, cN⟩ := T.cN
  refine F.ok sc_doubling (fun vs H Q E h => ?_) (fun cdv A outer s H vs Q E hr h => ⟨_, (pss_cons (ps_if (PW.pt (pw_or (pt_not (pt_val (pcall D_is_integer hr (pa_cons (pv 1) pa_nil)))) (pw_or1 (pt_not (pt_chain op_le op_le pe_int (pv 1) (ClX.pe_cval (pv 0))))))) (pss_one (ps_raise rfl (takes_of (E := E) rfl rfl rfl rfl) (pmk_oexG T.eC.ox T.eC.ii T.eC.ti FI (hr.mono (by decide)) bI .nil pass0 rfl T.g_InvalidCount (pa_cons (pv 1) pa_nil)))) pss_nil) (pss_cons (ps_set (i := 2) sc_doubling.nd rfl (by first | exact Or.inl rfl | exact Or.inr rfl) (pe_lst (pa_cons pe_int pa_nil))) (pss_cons (ps_while (passes_of rfl) (pt_cmpR op_lt (pe_callB call_len_seq (by rfl) T.n_len (by decide +kernel) (pa_cons (pv 2) pa_nil)) (pv 1) (nomark _)) (pss_one (ps_expr (pe_bm PySem.F.plainAttrs_list PySem.F.slot_list_append PySem.F.type_list_append mt_append (pv 2) (pa_cons (pe_op op_mul pe_int (pe_ix ix_list (pv 2) (pe_un un_neg pe_int) (fun _ _ => rfl))) pa_nil))))) (pss_one (ps_ret (pmakeLT (i := 0) (E := fun _ => E0) K_Sizes hr pass0N rfl (Or.inl rfl) (pa_cons (pv 2) pa_nil))))))), ?_⟩)
  · obtain ⟨v, rfl, _⟩ := h
    rfl
  · obtain ⟨v, rfl, hv, q1, q2⟩ := h
    refine ⟨_, rfl, v, rfl, hv, _, rfl, ?_⟩
    cases v with
    | int z =>
      refine iteF ⟨_, rfl, _, _, rfl, rfl, _, rfl, ?_⟩
      by_cases h1 : (1 : Int) ≤ z
      · refine ifT (decide_eq_true h1) ⟨_, rfl, _, _, _, _, rfl, T.rd, cN, _, _, rfl, rfl, _, rfl, ?_⟩
        by_cases h2 : z ≤ 8
        · refine ifF (by rw [decide_eq_true h2]; rfl) ?_
          obtain ⟨n, rfl⟩ : ∃ n : Nat, z = (n : Int) := ⟨z.toNat, by omega⟩
          have h2' : n ≤ 8 := by omega
          refine ⟨(by show 1 ≤ sizeLine; decide), fun l hl => ?_⟩
          have sm0 := same_upd (o := .lst [.int 1]) hl
          refine ⟨fun m σ G => ∃ k : Nat, m = n - k ∧ 1 ≤ k ∧ k ≤ n ∧ σ = [some (.ref (cS K)), some (.int (n : Int)), some (.ref l)] ∧ G l = some (.lst ((pows k).map V.int)) ∧ Same H G, ⟨n - 1, 1, rfl, Nat.le_refl _, by omega, rfl, upd_same, sm0⟩, ?_⟩
          rintro m σ G ⟨k, rfl, k1, kn, rfl, hG, sm⟩
          refine ⟨_, rfl, l, _, rfl, .inl (SqL.of hG), _, rfl, _, _, rfl, rfl, _, rfl, ?_⟩
          rw [List.length_map, pows_len]
          by_cases hk : k < n
          · rw [decide_eq_true (show (k : Int) < (n : Int) by omega)]
            refine iteT ⟨fun σ' G' => ∃ k' : Nat, k' = k + 1 ∧ σ' = [some (.ref (cS K)), some (.int (n : Int)), some (.ref l)] ∧ G' l = some (.lst ((pows k').map V.int)) ∧ Same H G', ?_, ?_⟩
            · rintro σ' G' ⟨k', rfl, e1, e2, e3⟩
              exact ⟨n - (k + 1), by omega, k + 1, rfl, by omega, by omega, e1, e2, e3⟩
            · obtain ⟨j, rfl⟩ : ∃ j, k = j + 1 := ⟨k - 1, by omega⟩
              have hp2 : 2 ^ j ≤ 2 ^ 8 := Nat.pow_le_pow_right (by decide) (by omega)
              have p8 : (2 : Nat) ^ 8 = 256 := by decide
              have hat : atI ((pows (j + 1)).map V.int) (-1) = some (.int ((2 ^ j : Nat) : Int)) := by rw [← pows_more]; exact at_last _ _
              have lp : ((pows (j + 1)).map V.int).length = j + 1 := by rw [List.length_map, pows_len]
              refine ⟨_, rfl, .inl ⟨rfl, _, SqL.of hG⟩, _, rfl, _, rfl, l, _, _, _, rfl, rfl, SqL.of hG, hat, _, _, rfl, rfl, .inl ⟨by decide, by decide⟩, l, _, _, rfl, rfl, hG, small1000 (by omega), j + 2, rfl, rfl, ?_, fun b o e => ?_⟩
              · rw [upd_same, ← pows_more (j + 1), List.map_append]
                have e : (2 : Int) * ((2 ^ j : Nat) : Int) = ((2 ^ (j + 1) : Nat) : Int) := by
                  rw [Nat.pow_succ]
                  omega
                show some (HO.lst (List.map V.int (pows (j + 1)) ++ [V.int (2 * ((2 ^ j : Nat) : Int))])) = _
                rw [e]
                rfl
              · rw [upd_ne (ne_of_none e hl)]
                exact sm b o e
          · rw [decide_eq_false (show ¬ (k : Int) < (n : Int) by omega)]
            obtain rfl : k = n := by omega
            refine iteF ⟨rfl, _, rfl, fun x dx hx hdx ne => ?_⟩
            have smA : Same H (upd (upd G dx (.own x)) x (.ins (cS K) dx [])) := sm.trans ((same_upd hdx).trans (same_upd (by rw [upd_ne (Ne.symm ne)]; exact hx)))
            have gl : (upd (upd G dx (.own x)) x (.ins (cS K) dx [])) l = some (.lst ((pows k).map V.int)) := by
              rw [upd_ne (ne_of_none hG hx), upd_ne (ne_of_none hG hdx)]
              exact hG
            refine ⟨x, dx, .ref l, some ((pows k).map V.int), rfl, upd_same, .list gl (by rw [List.length_map, pows_len]; omega) (fun v hv => by obtain ⟨i, _, rfl⟩ := List.mem_map.mp hv; exact .int i), fun xs ho hw l2 hl2 => ⟨rfl, ?_⟩, fun s p hj => ?_⟩
            · cases ho
              have nx : H x = none := sm.free hx
              have lx : l2 ≠ x := fun z => by
                rw [z, upd_same] at hl2
                cases hl2
              refine q1 k rfl k1 h2' x _ (fun b o e => ?_) ⟨dx, l2, upd_same, by rw [upd_ne lx]; exact upd_same⟩
              have e' := smA b o e
              rw [upd_ne (ne_of_none e nx), upd_ne (ne_of_none e' hl2)]
              exact e'
            · rw [show judge (some ((pows k).map V.int)) = wrong ((pows k).map V.int) from rfl, good_wrong (pows_good k1 h2')] at hj
              cases hj
        · exact ifT (by rw [decide_eq_false h2]; rfl) ⟨_, rfl, (by show 1 ≤ 1000; decide), raise_ok (q2 fun n e a b => by cases e; omega)⟩
      · exact ifF (decide_eq_false h1) ⟨_, rfl, iteT ⟨_, rfl, (by show 1 ≤ 1000; decide), raise_ok (q2 fun n e a b => by cases e; omega)⟩⟩
    | _ => exact iteT ⟨_, rfl, (by show 1 ≤ 1000; decide), raise_ok (q2 fun n e _ _ => by cases e)⟩
def spFrom (K : PySem.W.Frag) : Sp := fun vs H Q E => ∃ v : V, vs = [.ref (cS K), v] ∧ Any H v ∧ (∀ x, v = .str x → x.length ≤ 500 ∧
  (∀ ns, RdS x ns → ∀ p H', Same H H' → SzI K H' p ns → Q (.ref p) H') ∧ ((∀ ns, ¬ RdS x ns) → Err1 H E (cX K) "line" (.int 1))) ∧ (isS v = false → Err1 H E (cX K) "line" (.int 0))
def t_bad (K : PySem.W.Frag) (E : XK) : Addr → Value → Option Addr → TS := fun _ _ _ _ σ H => tMkO (cX K) (Ex.spErr (cX K) "line") [] (tCons (tC (.int 1)) tNil) σ H fun cls d H' => E cls d H'
theorem Err1.same {H G : Hp} {E : XK} {C : Addr} {n : Str} {v : V} (h : Err1 H E C n v) (s : Same H G) : Err1 G E C n v := fun d H' hd sm e => h d H' (s.free hd) (s.trans sm) e
theorem sc_from_text : FnScope ["cls", "text", "sizes", "word"] ["cls", "text"] (defScope (inClass (top 21) 9)) := ⟨rfl, rfl, rfl, by decide +kernel, rfl, by decide +kernel, by decide +kernel⟩
theorem ok_from (T : Tx K mg) (D_read_integer : Df P w K mg base 1 "read_integer" ["word"] spRead) (K_Sizes : KfX P w K mg base (L2N.CX P w) 5 "Sizes" ["self", "values"] (spMade K)) (M : Ex.Ei P w K mg base "InvalidText" "line") (MH : EiH P w K mg base)
    (F : FnP K "from_text" "Sizes.from_text" (inClass (top 21) 9) f fd) : FnOk P w K mg base (L2.CX P w) 7 f fd ["cls", "text"] (spFrom K) := by
  obtain ⟨fdI, FI, bI⟩ := M.ex
  obtain ⟨fdH, FH, bH⟩ := MH.ex
  refine F.ok sc_from_text (fun vs H Q E h => ?_) (fun cdv A outer s H vs Q E hr h => ⟨_, (pss_cons (ps_if (pt_not (pt_val (pe_callB call_isi (by rfl) T.n_isinstance (by decide +kernel) (pa_cons (pv 1) (pa_cons (pe_bltn (v := .ty "str") (by rfl) T.n_str (by decide +kernel) rfl) pa_nil))))) (pss_one (ps_raise rfl (takes_of (E := E) rfl rfl rfl rfl) (pmk_oexG T.eX.ox T.eX.ii T.eX.ti FI (hr.mono (by decide)) bI .nil pass0 rfl T.g_InvalidText (pa_cons pe_int pa_nil)))) pss_nil)
    (pss_cons (ps_setLc (i := 2) (own := [("word", 3)]) (g := gName 3) rfl sc_from_text.nd rfl rfl (sw_true rfl rfl rfl (by decide +kernel)) (pi_list (pe_split (pv 1) pe_str)) (blkOk_by (own := [("word", 3)]) (N := ["cls", "text", "sizes", "word"]) (sc := defScope (inClass (top 21) 9)) (by decide +kernel)) (fun _ _ _ _ _ => pg_name (i := 3) sc_from_text.nd rfl (Or.inl rfl)) (fun _ _ _ _ _ => pts_nil) (fun _ _ _ _ _ => (pcall D_read_integer hr (pa_cons (pv 3) pa_nil))))
    (pss_one (L2H.ps_try_onlyX (tb := fun W => tRet (tMakeL 0 (cS K) (spMade K) (WE W) (tCons (tVar 2) tNil))) (ts := t_bad K E) (Wout := fun cls d _ H => E cls d H) rfl rfl ⟨rfl, by decide, Or.inl T.g_InvalidSizes⟩ (L2H.passesAt_of rfl) (takes_of (E := E) rfl rfl rfl rfl)
      (fun W pn xe tk _ _ => pss_one (ps_ret (by exact (pmakeLT (i := 0) (E := WE W) K_Sizes hr (fun σ => L2N.passAt tk σ) rfl (Or.inl rfl) (by exact (pa_cons (pv 2) pa_nil))))))
      (fun a oe cls d pn hz hf tk hot => pss_one (L2H.ps_raiseHN hot tk (by exact (L2H.pmk5_oexH T.oX T.eX.ii T.eX.ti FH (L2H.roomH_mark (hr.mono (by decide)) _) hot bH pass0 rfl T.g_InvalidText (by exact (pa_cons pe_int pa_nil)))))))))), ?_⟩)
  · obtain ⟨v, rfl, _⟩ := h
    rfl
  · obtain ⟨v, rfl, hv, q1, q2⟩ := h
    obtain ⟨Ty, ty, _, _, k3⟩ := hv.ty (K := K)
    have sl : sizeLine = 16777216 := sizeLine_eq
    refine ⟨_, rfl, _, _, _, _, _, rfl, .ty "str", ty, kit_ty k3, _, rfl, ?_⟩
    cases v with
    | str x =>
      obtain ⟨xl, q3, q4⟩ := q1 x rfl
      obtain ⟨wl, ww, wn⟩ := wds_bnd x
      refine iteF ⟨_, rfl, ⟨x, rfl⟩, x, " ", rfl, rfl, (by decide +kernel), by omega, fun p hp => ⟨p, rfl, ⟨_, SqL.of upd_same⟩, fun D hD => ?_⟩⟩
      have s1 := same_upd (o := .lst ((wds x).map V.str)) hp
      have hp1 : (upd H p (.lst ((wds x).map V.str))) p = some (.lst ((wds x).map V.str)) := upd_same
      generalize (upd H p (.lst ((wds x).map V.str))) = H1 at *
      refine lc_it (walk_list (xs := (wds x).map V.str)) (fun i G => Same H1 G ∧ ∃ xs, G D = some (.lst xs) ∧ xs.length = i ∧ Paired RdOk ((wds x).take i) xs) ⟨same_upd hD, [], upd_same, rfl, .nil⟩ (fun i G _ h => SqL.of (h.1 _ _ hp1)) ?_ ?_
      · rintro i v G1 G2 hi ⟨sm, xs, hG, xsl, pr⟩ ⟨rfl, hv2⟩
        rw [List.getElem?_map] at hv2
        obtain ⟨u, hu, rfl⟩ := Option.map_eq_some_iff.mp hv2
        have ul := ww u (List.mem_of_getElem? hu)
        have hi2 : i < (wds x).length := (List.getElem?_eq_some_iff.mp hu).1
        refine ⟨rfl, _, rfl, u, rfl, by omega, fun v2 G2 sm2 rok => ?_⟩
        refine ⟨xs, sm2 _ _ hG, small1000 (by omega), fun b o e => ?_, xs ++ [v2], upd_same, by rw [List.length_append, xsl]; rfl, ?_⟩
        · rw [upd_ne (ne_of_none e hD)]
          exact sm2 _ _ (sm _ _ e)
        · rw [List.take_add_one, hu]
          exact Paired.snoc pr rok
      · rintro G ⟨sm, xs, hG, xsl, pr⟩
        rw [List.length_map] at xsl
        rw [List.length_map, List.take_length] at pr
        obtain ⟨r1, r2⟩ := read_iff pr
        have sHG := s1.trans sm
        refine ⟨rfl, _, rfl, fun z dx hz hdx ne => ?_⟩
        have smA : Same H (upd (upd G dx (.own z)) z (.ins (cS K) dx [])) := sHG.trans ((same_upd hdx).trans (same_upd (by rw [upd_ne (Ne.symm ne)]; exact hz)))
        have gl : (upd (upd G dx (.own z)) z (.ins (cS K) dx [])) D = some (.lst xs) := by
          rw [upd_ne (ne_of_none hG hz), upd_ne (ne_of_none hG hdx)]
          exact hG
        refine ⟨z, dx, .ref D, some xs, rfl, upd_same, .list gl (by omega) (fun v hv => ?_), fun xs' ho hw l2 hl2 => ⟨rfl, ?_⟩, fun s p hj => ?_⟩
        · exact rd_any pr v hv
        · cases ho
          obtain ⟨rs, ex⟩ := r1 hw
          have nx : H z = none := sHG.free hz
          have lx : l2 ≠ z := fun y => by
            rw [y, upd_same] at hl2
            cases hl2
          refine q3 _ rs z _ (fun b o e => ?_) ⟨dx, l2, upd_same, by rw [upd_ne lx, upd_same, ← ex]⟩
          have e' := smA b o e
          rw [upd_ne (ne_of_none e nx), upd_ne (ne_of_none e' hl2)]
          exact e'
        · intro dd H2 hdd sm2 hx2
          refine ⟨true, T.em, fun _ a ha => ?_, fun y => Bool.noConfusion y⟩
          refine ⟨(by show 1 ≤ 1000; decide), raise_ok ((q4 (r2 ?_)).same (smA.trans sm2))⟩
          intro y
          have : judge (some xs) = none := y
          rw [this] at hj
          cases hj
    | _ => exact iteT ⟨(by show 1 ≤ 1000; decide), raise_ok (q2 rfl)⟩
end
end K18

set_option Elab.async false
set_option linter.all false
/-! The mathematics of maximal regions: sizes that divide each other, a range from lo to hi. -/
namespace M16
structure Ch (s : Nat → Int) (m : Nat) : Prop where
  m1 : 1 ≤ m
  one : s 0 = 1
  pos : ∀ k, k < m → 1 ≤ s k
  dv : ∀ k, k + 1 < m → s k ∣ s (k + 1)
theorem Ch.dvd {s : Nat → Int} {m : Nat} (c : Ch s m) {j : Nat} : ∀ {k : Nat}, j ≤ k → k < m → s j ∣ s k
  | 0, h, _ => by
    rw [show j = 0 by omega]
    exact Int.dvd_refl _
  | k + 1, h, hk => by
    by_cases e : j = k + 1
    · rw [e]
      exact Int.dvd_refl _
    · exact Int.dvd_trans (Ch.dvd c (show j ≤ k by omega) (by omega)) (c.dv k hk)
theorem gap {z q e : Int} (h1 : z ∣ q) (h2 : z ∣ e) (h : q < e) : q + z ≤ e := by
  have := Int.le_of_dvd (by omega) (Int.dvd_sub h2 h1)
  omega
theorem mod0 {z x : Int} (h : z ∣ x) : x % z = 0 := Int.emod_eq_zero_of_dvd h
theorem dvd0 {z x : Int} (h : x % z = 0) : z ∣ x := Int.dvd_of_emod_eq_zero h
theorem fl_dvd (z x : Int) : z ∣ x - x % z := ⟨x / z, by have := Int.mul_ediv_add_emod x z; omega⟩
theorem fl_le {z : Int} (x : Int) (hz : 1 ≤ z) : x - x % z ≤ x := by
  have := Int.emod_nonneg x (show z ≠ 0 by omega)
  omega
theorem fl_lt {z : Int} (x : Int) (hz : 1 ≤ z) : x < x - x % z + z := by
  have := Int.emod_lt_of_pos x (show 0 < z by omega)
  omega
theorem fl_eq {z q x : Int} (hz : 1 ≤ z) (h : z ∣ q) (h1 : q ≤ x) (h2 : x < q + z) : x - x % z = q := by
  have a := fl_le x hz
  have b := fl_lt x hz
  have d := fl_dvd z x
  rcases Int.lt_trichotomy (x - x % z) q with e | e | e
  · have := gap d h e
    omega
  · exact e
  · have := gap h d e
    omega
theorem fl_ge {z q x : Int} (hz : 1 ≤ z) (h : z ∣ q) (h1 : q ≤ x) : q ≤ x - x % z := by
  have b := fl_lt x hz
  refine Int.not_lt.mp fun e => ?_
  have := gap (fl_dvd z x) h e
  omega
/-- the least multiple from a on -/
def nx (z a : Int) : Int := -(-a / z) * z
theorem nx_is (z a : Int) : nx z a = a + (-a) % z := by
  have e := Int.mul_ediv_add_emod (-a) z
  have h : nx z a = -(z * (-a / z)) := by
    unfold nx
    rw [Int.neg_mul, Int.mul_comm]
  omega
theorem nx_dvd (z a : Int) : z ∣ nx z a := ⟨-(-a / z), by unfold nx; rw [Int.mul_comm]⟩
theorem nx_ge {z : Int} (a : Int) (hz : 1 ≤ z) : a ≤ nx z a := by
  have := Int.emod_nonneg (-a) (show z ≠ 0 by omega)
  rw [nx_is]
  omega
theorem nx_lt {z : Int} (a : Int) (hz : 1 ≤ z) : nx z a < a + z := by
  have := Int.emod_lt_of_pos (-a) (show 0 < z by omega)
  rw [nx_is]
  omega
theorem nx_least {z a q : Int} (hz : 1 ≤ z) (h : z ∣ q) (ha : a ≤ q) : nx z a ≤ q := by
  refine Int.not_lt.mp fun e => ?_
  have := gap h (nx_dvd z a) e
  have := nx_lt a hz
  omega
theorem nx_self {z a : Int} (hz : 1 ≤ z) (h : z ∣ a) : nx z a = a := by
  have := nx_ge a hz
  have := nx_least hz h (Int.le_refl a)
  omega
/-- count_regions is positive just if the first region ends by b -/
theorem cnt_pos {z a b : Int} (hz : 1 ≤ z) : 0 < ((b - b % z) - nx z a) / z ↔ nx z a + z ≤ b := by
  have h : (1 : Int) ≤ ((b - b % z) - nx z a) / z ↔ 1 * z ≤ (b - b % z) - nx z a := Int.le_ediv_iff_mul_le (by omega)
  rw [Int.one_mul] at h
  have l := fl_le b hz
  constructor
  · intro k
    have := h.mp (by omega)
    omega
  · intro k
    have d : z ∣ nx z a + z := Int.dvd_add (nx_dvd z a) (Int.dvd_refl z)
    have := fl_ge hz d k
    have := h.mpr (by omega)
    omega
section
variable (s : Nat → Int) (m : Nat) (hi : Int)
def Lies (a : Int) (k : Nat) : Prop := a % s k = 0 ∧ a + s k ≤ hi
instance (a : Int) (k : Nat) : Decidable (Lies s hi a k) := inferInstanceAs (Decidable (a % s k = 0 ∧ a + s k ≤ hi))
/-- the highest level of a region at a, sought from n down -/
def lev (a : Int) : Nat → Nat
  | 0 => 0
  | n + 1 => if Lies s hi a (n + 1) then n + 1 else lev a n
def L (a : Int) : Nat := lev s hi a (m - 1)
def en (a : Int) : Int := if L s m hi a + 1 < m ∧ nx (s (L s m hi a + 1)) a + s (L s m hi a + 1) ≤ hi then nx (s (L s m hi a + 1)) a else hi - hi % s (L s m hi a)
/-- no region that lies in the range goes across a -/
def B (lo a : Int) : Prop := ∀ j, j < m → a % s j ≠ 0 → ¬ (lo ≤ a - a % s j ∧ a - a % s j + s j ≤ hi)
abbrev Run : Type := Nat × Int × Int
def run (a : Int) : Run := (L s m hi a, a, (en s m hi a - a) / s (L s m hi a))
def lay : Nat → Int → List Run
  | 0, _ => []
  | n + 1, a => if a < hi then run s m hi a :: lay n (en s m hi a) else []
def R (a : Int) : List Run := lay s m hi (hi - a).toNat a
end
section
variable {s : Nat → Int} {m : Nat} {hi a lo : Int}
theorem lev_le : ∀ n, lev s hi a n ≤ n
  | 0 => Nat.le_refl _
  | n + 1 => by
    show (if Lies s hi a (n + 1) then n + 1 else lev s hi a n) ≤ n + 1
    split
    · exact Nat.le_refl _
    · have := lev_le n
      omega
theorem lev_lies (h0 : Lies s hi a 0) : ∀ n, Lies s hi a (lev s hi a n)
  | 0 => h0
  | n + 1 => by
    show Lies s hi a (if Lies s hi a (n + 1) then n + 1 else lev s hi a n)
    split
    · assumption
    · exact lev_lies h0 n
theorem lev_max : ∀ n j, j ≤ n → lev s hi a n < j → ¬ Lies s hi a j
  | 0, j, h, h2 => by
    have : lev s hi a 0 = 0 := rfl
    omega
  | n + 1, j, h, h2 => by
    have e : lev s hi a (n + 1) = if Lies s hi a (n + 1) then n + 1 else lev s hi a n := rfl
    by_cases hl : Lies s hi a (n + 1)
    · rw [e, if_pos hl] at h2
      omega
    · rw [e, if_neg hl] at h2
      by_cases ej : j = n + 1
      · rw [ej]
        exact hl
      · exact lev_max n j (by omega) h2
theorem lies0 (c : Ch s m) (h : a < hi) : Lies s hi a 0 := by
  unfold Lies
  rw [c.one]
  exact ⟨Int.emod_one a, by omega⟩
theorem L_lt (c : Ch s m) : L s m hi a < m := by
  have := lev_le (s := s) (hi := hi) (a := a) (m - 1)
  have := c.m1
  show lev s hi a (m - 1) < m
  omega
theorem L_lies (c : Ch s m) (h : a < hi) : Lies s hi a (L s m hi a) := lev_lies (lies0 c h) _
theorem L_max (c : Ch s m) {j : Nat} (hj : j < m) (h : L s m hi a < j) : ¬ Lies s hi a j := lev_max (m - 1) j (by omega) h
theorem lies_down (c : Ch s m) {j k : Nat} (h : j ≤ k) (hk : k < m) (x : Lies s hi a k) : Lies s hi a j := by
  have d := c.dvd h hk
  have p := c.pos k hk
  have l := Int.le_of_dvd (by omega) d
  exact ⟨mod0 (Int.dvd_trans d (dvd0 x.1)), by have := x.2; omega⟩
theorem en1 (c1 : L s m hi a + 1 < m ∧ nx (s (L s m hi a + 1)) a + s (L s m hi a + 1) ≤ hi) : en s m hi a = nx (s (L s m hi a + 1)) a := if_pos c1
theorem en2 (c2 : ¬ (L s m hi a + 1 < m ∧ nx (s (L s m hi a + 1)) a + s (L s m hi a + 1) ≤ hi)) : en s m hi a = hi - hi % s (L s m hi a) := if_neg c2
theorem en_gt (c : Ch s m) (h : a < hi) : a < en s m hi a := by
  have hl := L_lies c h
  have hm := L_lt (a := a) (hi := hi) c
  by_cases c1 : L s m hi a + 1 < m ∧ nx (s (L s m hi a + 1)) a + s (L s m hi a + 1) ≤ hi
  · rw [en1 c1]
    have z := c.pos _ c1.1
    have g := nx_ge a z
    refine Int.not_le.mp fun hle => ?_
    have e : a = nx (s (L s m hi a + 1)) a := by omega
    refine L_max c c1.1 (Nat.lt_succ_self _) ⟨mod0 ?_, ?_⟩
    · have d := nx_dvd (s (L s m hi a + 1)) a
      rw [← e] at d
      exact d
    · have := c1.2
      rw [← e] at this
      exact this
  · rw [en2 c1]
    have z := c.pos _ hm
    have := fl_ge (x := hi) z (Int.dvd_add (dvd0 hl.1) (Int.dvd_refl _)) hl.2
    omega
theorem en_le (c : Ch s m) : en s m hi a ≤ hi := by
  by_cases c1 : L s m hi a + 1 < m ∧ nx (s (L s m hi a + 1)) a + s (L s m hi a + 1) ≤ hi
  · rw [en1 c1]
    have := c.pos _ c1.1
    have := c1.2
    omega
  · rw [en2 c1]
    exact fl_le hi (c.pos _ (L_lt c))
theorem en_dvd (c : Ch s m) : s (L s m hi a) ∣ en s m hi a := by
  by_cases c1 : L s m hi a + 1 < m ∧ nx (s (L s m hi a + 1)) a + s (L s m hi a + 1) ≤ hi
  · rw [en1 c1]
    exact Int.dvd_trans (c.dv _ c1.1) (nx_dvd _ _)
  · rw [en2 c1]
    exact fl_dvd _ _
/-- one way up, the other down -/
theorem up (c : Ch s m) (c1 : L s m hi a + 1 < m ∧ nx (s (L s m hi a + 1)) a + s (L s m hi a + 1) ≤ hi) : en s m hi a < hi ∧ L s m hi a < L s m hi (en s m hi a) := by
  have z := c.pos _ c1.1
  have e := en1 c1
  have h2 := c1.2
  rw [← e] at h2
  refine ⟨by omega, Nat.lt_of_not_le fun hle => ?_⟩
  refine L_max (a := en s m hi a) c c1.1 (by omega) ⟨mod0 ?_, h2⟩
  rw [e]
  exact nx_dvd _ _
def NoHi (s : Nat → Int) (m : Nat) (hi a : Int) : Prop := ¬ (L s m hi a + 1 < m ∧ nx (s (L s m hi a + 1)) a + s (L s m hi a + 1) ≤ hi)
theorem down (c : Ch s m) (c2 : NoHi s m hi a) (h : en s m hi a < hi) : L s m hi (en s m hi a) < L s m hi a ∧ NoHi s m hi (en s m hi a) := by
  have e := en2 c2
  have hm := L_lt (a := a) (hi := hi) c
  have z := c.pos _ hm
  have l := fl_lt hi z
  have dk : s (L s m hi a) ∣ en s m hi a := en_dvd c
  have lt : L s m hi (en s m hi a) < L s m hi a := Nat.lt_of_not_le fun hle => by
    have x := lies_down c hle (L_lt c) (L_lies c h)
    have := x.2
    omega
  refine ⟨lt, fun c1 => ?_⟩
  have d := Int.dvd_trans (c.dvd (show L s m hi (en s m hi a) + 1 ≤ L s m hi a by omega) hm) dk
  have n := nx_self (c.pos _ c1.1) d
  have k := c1.2
  rw [n] at k
  exact L_max (a := en s m hi a) c c1.1 (Nat.lt_succ_self _) ⟨mod0 d, k⟩
theorem other (c : Ch s m) (h : en s m hi a < hi) : L s m hi a ≠ L s m hi (en s m hi a) := by
  by_cases c1 : L s m hi a + 1 < m ∧ nx (s (L s m hi a + 1)) a + s (L s m hi a + 1) ≤ hi
  · have := (up c c1).2
    omega
  · have := (down c c1 h).1
    omega
theorem B_lo (c : Ch s m) : B s m hi lo lo := fun j hj n h => by
  have := Int.emod_nonneg lo (show s j ≠ 0 by have := c.pos j hj; omega)
  omega
theorem B_next (c : Ch s m) (h : a < hi) (b : B s m hi lo a) : B s m hi lo (en s m hi a) := fun j hj n ⟨h1, h2⟩ => by
  have hm := L_lt (a := a) (hi := hi) c
  have zj := c.pos j hj
  have q0 := fl_dvd (s j) (en s m hi a)
  have q1 := fl_le (en s m hi a) zj
  have q2 := fl_lt (en s m hi a) zj
  have gt := en_gt c h
  have nq : en s m hi a - en s m hi a % s j < en s m hi a := by
    have := Int.emod_nonneg (en s m hi a) (show s j ≠ 0 by omega)
    omega
  generalize en s m hi a - en s m hi a % s j = q at *
  have hk : L s m hi a < j := Nat.lt_of_not_le fun hle => n (mod0 (Int.dvd_trans (c.dvd hle hm) (en_dvd c)))
  have k1 : L s m hi a + 1 < m := by omega
  have z1 := c.pos _ k1
  have dq : s (L s m hi a + 1) ∣ q := Int.dvd_trans (c.dvd (by omega) hj) q0
  have lz : s (L s m hi a + 1) ≤ s j := Int.le_of_dvd (by omega) (c.dvd (by omega) hj)
  have qa : q < a := by
    by_cases c1 : L s m hi a + 1 < m ∧ nx (s (L s m hi a + 1)) a + s (L s m hi a + 1) ≤ hi
    · have e := en1 c1
      have l := nx_lt a z1
      have d := nx_dvd (s (L s m hi a + 1)) a
      rw [← e] at l d
      have := gap dq d nq
      omega
    · refine Int.not_le.mp fun ha => c1 ⟨k1, ?_⟩
      have := nx_least z1 dq ha
      omega
  have f := fl_eq zj q0 (show q ≤ a by omega) (by omega)
  refine b j hj ?_ ?_
  · omega
  · rw [f]
    exact ⟨h1, h2⟩
/-- no higher region around an address of the run lies in the range -/
theorem no_high (c : Ch s m) (h : a < hi) (b : B s m hi lo a) (k1 : L s m hi a + 1 < m) {x : Int} (x1 : a ≤ x) (x2 : x < en s m hi a) :
    ¬ (lo ≤ x - x % s (L s m hi a + 1) ∧ x - x % s (L s m hi a + 1) + s (L s m hi a + 1) ≤ hi) := fun ⟨h1, h2⟩ => by
  have z1 := c.pos _ k1
  have q0 := fl_dvd (s (L s m hi a + 1)) x
  have q1 := fl_le x z1
  have q2 := fl_lt x z1
  generalize x - x % s (L s m hi a + 1) = q at *
  by_cases qa : q < a
  · have f := fl_eq z1 q0 (show q ≤ a by omega) (by omega)
    refine b _ k1 ?_ ?_
    · omega
    · rw [f]
      exact ⟨h1, h2⟩
  · have n := nx_least z1 q0 (show a ≤ q by omega)
    by_cases c1 : L s m hi a + 1 < m ∧ nx (s (L s m hi a + 1)) a + s (L s m hi a + 1) ≤ hi
    · rw [en1 c1] at x2
      omega
    · exact c1 ⟨k1, by omega⟩
theorem top_in (c : Ch s m) (h : a < hi) {x : Int} (x1 : a ≤ x) (x2 : x < en s m hi a) : a ≤ x - x % s (L s m hi a) ∧ x - x % s (L s m hi a) + s (L s m hi a) ≤ en s m hi a := by
  have z := c.pos _ (L_lt (a := a) (hi := hi) c)
  have l := fl_le x z
  refine ⟨fl_ge z (dvd0 (L_lies c h).1) x1, gap (fl_dvd _ _) (en_dvd c) (by omega)⟩
theorem top_max (c : Ch s m) (h : a < hi) (b : B s m hi lo a) {x : Int} (x1 : a ≤ x) (x2 : x < en s m hi a) {j : Nat} (hj : j < m) (h1 : lo ≤ x - x % s j) (h2 : x - x % s j + s j ≤ hi) : j ≤ L s m hi a := by
  refine Nat.le_of_not_lt fun hlt => ?_
  have k1 : L s m hi a + 1 < m := by omega
  have z1 := c.pos _ k1
  have zj := c.pos j hj
  have d := c.dvd (show L s m hi a + 1 ≤ j by omega) hj
  have g1 := fl_ge (x := x) z1 (Int.dvd_trans d (fl_dvd (s j) x)) (fl_le x zj)
  have g2 := gap (fl_dvd (s (L s m hi a + 1)) x) (Int.dvd_add (Int.dvd_trans d (fl_dvd (s j) x)) d) (show x - x % s (L s m hi a + 1) < x - x % s j + s j by
    have := fl_le x z1
    have := fl_lt x zj
    omega)
  exact no_high c h b k1 x1 x2 ⟨by omega, by omega⟩
theorem lay_eq (c : Ch s m) : ∀ n n' a, (hi - a).toNat ≤ n → (hi - a).toNat ≤ n' → lay s m hi n a = lay s m hi n' a
  | 0, 0, _, _, _ => rfl
  | 0, n' + 1, a, h, _ => by
    show ([] : List Run) = if a < hi then run s m hi a :: lay s m hi n' (en s m hi a) else []
    rw [if_neg (by omega)]
  | n + 1, 0, a, _, h => by
    show (if a < hi then run s m hi a :: lay s m hi n (en s m hi a) else []) = []
    rw [if_neg (by omega)]
  | n + 1, n' + 1, a, h, h' => by
    show (if a < hi then run s m hi a :: lay s m hi n (en s m hi a) else []) = if a < hi then run s m hi a :: lay s m hi n' (en s m hi a) else []
    by_cases e : a < hi
    · have g := en_gt c e
      rw [if_pos e, if_pos e, lay_eq c n n' (en s m hi a) (by omega) (by omega)]
    · rw [if_neg e, if_neg e]
theorem R_end (h : ¬ a < hi) : R s m hi a = [] := by
  unfold R
  rw [show (hi - a).toNat = 0 by omega]
  rfl
theorem R_step (c : Ch s m) (h : a < hi) : R s m hi a = run s m hi a :: R s m hi (en s m hi a) := by
  unfold R
  obtain ⟨n, e⟩ : ∃ n, (hi - a).toNat = n + 1 := ⟨(hi - a).toNat - 1, by omega⟩
  rw [e]
  show (if a < hi then run s m hi a :: lay s m hi n (en s m hi a) else []) = _
  have g := en_gt c h
  rw [if_pos h, lay_eq c n (hi - en s m hi a).toNat (en s m hi a) (by omega) (Nat.le_refl _)]
theorem R_down (c : Ch s m) : ∀ (n : Nat) (a : Int), (hi - a).toNat ≤ n → a < hi → NoHi s m hi a → (R s m hi a).length ≤ L s m hi a + 1
  | 0, a, h, h2, _ => by omega
  | n + 1, a, h, h2, c2 => by
    rw [R_step c h2, List.length_cons]
    by_cases e : en s m hi a < hi
    · obtain ⟨d1, d2⟩ := down c c2 e
      have g := en_gt c h2
      have := R_down c n (en s m hi a) (by omega) e d2
      omega
    · rw [R_end e]
      simp
theorem R_len (c : Ch s m) : ∀ (n : Nat) (a : Int), (hi - a).toNat ≤ n → a < hi → (R s m hi a).length + L s m hi a ≤ 2 * m
  | 0, a, h, h2 => by omega
  | n + 1, a, h, h2 => by
    have l := L_lt (a := a) (hi := hi) c
    by_cases c1 : L s m hi a + 1 < m ∧ nx (s (L s m hi a + 1)) a + s (L s m hi a + 1) ≤ hi
    · obtain ⟨u1, u2⟩ := up c c1
      have g := en_gt c h2
      have := R_len c n (en s m hi a) (by omega) u1
      rw [R_step c h2, List.length_cons]
      omega
    · have := R_down c (n + 1) a h h2 c1
      omega
theorem R_short (c : Ch s m) (h8 : m ≤ 8) : (R s m hi a).length ≤ 16 := by
  by_cases h : a < hi
  · have := R_len c _ a (Nat.le_refl _) h
    omega
  · rw [R_end h]
    simp
/-- a place between two runs -/
structure Mid (s : Nat → Int) (m : Nat) (hi lo a : Int) (done : List Run) : Prop where
  eq : R s m hi lo = done ++ R s m hi a
  lo_le : lo ≤ a
  le_hi : a ≤ hi
  bd : B s m hi lo a
  last : a < hi → ∀ t, done.getLast? = some t → t.1 ≠ L s m hi a
theorem mid0 (c : Ch s m) (h : lo ≤ hi) : Mid s m hi lo lo [] := ⟨rfl, Int.le_refl _, h, B_lo c, fun _ t e => by cases e⟩
theorem Mid.next {done : List Run} (c : Ch s m) (M : Mid s m hi lo a done) (h : a < hi) : Mid s m hi lo (en s m hi a) (done ++ [run s m hi a]) := by
  have g := en_gt c h
  have l := M.lo_le
  refine ⟨?_, by omega, en_le c, B_next c h M.bd, fun h2 t e => ?_⟩
  · rw [M.eq, R_step c h, List.append_assoc]
    rfl
  · rw [List.getLast?_concat] at e
    cases e
    exact other c h2
/-- the number of cells of a run -/
theorem run_cells (c : Ch s m) (h : a < hi) : (en s m hi a - a) / s (L s m hi a) * s (L s m hi a) = en s m hi a - a := Int.ediv_mul_cancel (Int.dvd_sub (en_dvd c) (dvd0 (L_lies c h).1))
theorem run_one (c : Ch s m) (h : a < hi) : 1 ≤ (en s m hi a - a) / s (L s m hi a) := by
  have z := c.pos _ (L_lt (a := a) (hi := hi) c)
  have g := gap (dvd0 (L_lies c h).1) (en_dvd c) (en_gt c h)
  exact (Int.le_ediv_iff_mul_le (by omega)).mpr (by omega)
/-- multiples of z below y, from 0 on -/
def cd (z y : Int) : Int := (y + z - 1) / z
theorem cd_zero {z : Int} (hz : 1 ≤ z) : cd z 0 = 0 := by
  unfold cd
  exact Int.ediv_eq_zero_of_lt (by omega) (by omega)
theorem cd_mul {z y : Int} (hz : 1 ≤ z) (h : z ∣ y) : cd z y = y / z := by
  obtain ⟨q, rfl⟩ := h
  unfold cd
  rw [show z * q + z - 1 = (z - 1) + z * q by omega, Int.add_mul_ediv_left _ _ (by omega), Int.mul_ediv_cancel_left _ (by omega), Int.ediv_eq_zero_of_lt (by omega) (by omega)]
  omega
theorem cd_next {z y : Int} (hz : 1 ≤ z) (h : z ∣ y) : cd z (y + 1) = y / z + 1 := by
  obtain ⟨q, rfl⟩ := h
  unfold cd
  rw [show z * q + 1 + z - 1 = z * (q + 1) by rw [Int.mul_add]; omega, Int.mul_ediv_cancel_left _ (by omega), Int.mul_ediv_cancel_left _ (by omega)]
theorem cd_stay {z y : Int} (hz : 1 ≤ z) (h : ¬ z ∣ y) : cd z (y + 1) = cd z y := by
  unfold cd
  have e := Int.mul_ediv_add_emod y z
  have e1 := Int.emod_nonneg y (show z ≠ 0 by omega)
  have e2 := Int.emod_lt_of_pos y (show 0 < z by omega)
  have n : y % z ≠ 0 := fun q => h (dvd0 q)
  have a1 : (y + 1 + z - 1) / z = y / z + 1 := by
    rw [show y + 1 + z - 1 = (y % z) + z * (y / z + 1) by rw [Int.mul_add]; omega, Int.add_mul_ediv_left _ _ (by omega), Int.ediv_eq_zero_of_lt e1 e2]
    omega
  have a2 : (y + z - 1) / z = y / z + 1 := by
    rw [show y + z - 1 = (y % z - 1) + z * (y / z + 1) by rw [Int.mul_add]; omega, Int.add_mul_ediv_left _ _ (by omega), Int.ediv_eq_zero_of_lt (by omega) (by omega)]
    omega
  rw [a1, a2]
end
end M16

/-! The mathematics of pieces: counts by remainders, the level of a number, the fewest blocks. -/
namespace M13
open M16
/-- what is left for level k -/
def rest (s : Nat → Int) (m : Nat) (n : Int) (k : Nat) : Int := if k + 1 < m then n % s (k + 1) else n
def cnt (s : Nat → Int) (m : Nat) (n : Int) (k : Nat) : Int := rest s m n k / s k
section
variable {s : Nat → Int} {m : Nat}
theorem rest_nn (c : Ch s m) {n : Int} (hn : 0 ≤ n) (k : Nat) : 0 ≤ rest s m n k := by
  unfold rest
  split
  · rename_i h
    have := c.pos _ h
    exact Int.emod_nonneg _ (by omega)
  · exact hn
theorem rest_le (c : Ch s m) {n : Int} (hn : 0 ≤ n) (k : Nat) : rest s m n k ≤ n := by
  unfold rest
  split
  · rename_i h
    have p := c.pos _ h
    have e := Int.mul_ediv_add_emod n (s (k + 1))
    have q := Int.mul_nonneg (show (0 : Int) ≤ s (k + 1) by omega) (Int.ediv_nonneg hn (show (0 : Int) ≤ s (k + 1) by omega))
    omega
  · exact Int.le_refl _
theorem cnt_nn (c : Ch s m) {n : Int} (hn : 0 ≤ n) {k : Nat} (hk : k < m) : 0 ≤ cnt s m n k := Int.ediv_nonneg (rest_nn c hn k) (by have := c.pos k hk; omega)
theorem rest_next (c : Ch s m) (n : Int) {k : Nat} (hk : k < m) : rest s m n k % s k = n % s k := by
  unfold rest
  split
  · rename_i h
    exact Int.emod_emod_of_dvd n (c.dv k h)
  · rfl
/-- cnt k cells of level k: what is between the remainders -/
theorem cnt_mul (c : Ch s m) (n : Int) {k : Nat} (hk : k < m) : cnt s m n k * s k = rest s m n k - n % s k := by
  have dv := Int.mul_ediv_add_emod (rest s m n k) (s k)
  rw [rest_next c n hk] at dv
  unfold cnt
  rw [Int.mul_comm]
  omega
/-- sums of the j highest levels -/
def from_ (f : Nat → Int) (m : Nat) : Nat → Int
  | 0 => 0
  | j + 1 => f (m - (j + 1)) + from_ f m j
theorem from_is (c : Ch s m) (n : Int) : ∀ j, j + 1 ≤ m → from_ (fun k => cnt s m n k * s k) m (j + 1) = n - n % s (m - (j + 1))
  | 0, h => by
    show cnt s m n (m - (0 + 1)) * s (m - (0 + 1)) + 0 = _
    rw [cnt_mul c n (by omega)]
    unfold rest
    rw [if_neg (by omega)]
    omega
  | j + 1, h => by
    have ih := from_is c n j (by omega)
    show cnt s m n (m - (j + 1 + 1)) * s (m - (j + 1 + 1)) + from_ _ m (j + 1) = _
    rw [ih, cnt_mul c n (by omega)]
    unfold rest
    rw [if_pos (by omega), show m - (j + 1 + 1) + 1 = m - (j + 1) by omega]
    omega
/-- the greatest level whose size is at most n -/
def IsLv (s : Nat → Int) (m : Nat) (n : Int) (k : Nat) : Prop := k < m ∧ s k ≤ n ∧ ∀ j, k < j → j < m → n < s j
theorem lv_high (c : Ch s m) {n : Int} {k j : Nat} (hn : 0 ≤ n) (h : IsLv s m n k) (hj : k < j) (hm : j < m) : cnt s m n j = 0 := by
  have := h.2.2 j hj hm
  have r1 := rest_nn c hn j
  have r2 := rest_le c hn j
  unfold cnt
  exact Int.ediv_eq_zero_of_lt r1 (by omega)
theorem lv_pos (c : Ch s m) {n : Int} {k : Nat} (hn : 0 ≤ n) (h : IsLv s m n k) : 0 < cnt s m n k := by
  obtain ⟨h1, h2, h3⟩ := h
  have e : rest s m n k = n := by
    unfold rest
    split
    · rename_i hk
      exact Int.emod_eq_of_lt hn (h3 (k + 1) (by omega) hk)
    · rfl
  unfold cnt
  rw [e]
  have := c.pos k h1
  have e1 := Int.mul_ediv_add_emod n (s k)
  have e2 := Int.emod_lt_of_pos n (show 0 < s k by omega)
  by_cases z : n / s k ≤ 0
  · have := Int.mul_le_mul_of_nonneg_left z (show (0 : Int) ≤ s k by omega)
    rw [Int.mul_zero] at this
    omega
  · omega
end
end M13
namespace M13
open M16
/-- how many blocks greedily -/
def F (s : Nat → Int) : Nat → Int → Int
  | 0, _ => 0
  | m + 1, n => n / s m + F s m (n % s m)
theorem _root_.M16.Ch.less {s : Nat → Int} {m : Nat} (c : Ch s (m + 1 + 1)) : Ch s (m + 1) := ⟨by omega, c.one, fun k h => c.pos k (by omega), fun k h => c.dv k (by omega)⟩
theorem cnt_less {s : Nat → Int} {m : Nat} (c : Ch s (m + 1)) (n : Int) {k : Nat} (hk : k < m) : cnt s (m + 1) n k = cnt s m (n % s m) k := by
  unfold cnt rest
  rw [if_pos (by omega)]
  by_cases h : k + 1 < m
  · rw [if_pos h, Int.emod_emod_of_dvd n (c.dvd (by omega) (by omega))]
  · rw [if_neg h, show k + 1 = m by omega]
theorem F_sum {s : Nat → Int} : ∀ (m : Nat) (n : Int), Ch s m → ((List.range m).map (cnt s m n)).sum = F s m n
  | 0, n, c => rfl
  | m + 1, n, c => by
    have e1 : (List.range m).map (cnt s (m + 1) n) = (List.range m).map (cnt s m (n % s m)) := List.map_congr_left fun k hk => cnt_less c n (List.mem_range.mp hk)
    have e2 : cnt s (m + 1) n m = n / s m := by
      unfold cnt rest
      rw [if_neg (by omega)]
    rw [List.range_succ, List.map_append, List.sum_append, e1]
    show _ + (cnt s (m + 1) n m + 0) = n / s m + F s m (n % s m)
    rw [e2]
    cases m with
    | zero =>
      show 0 + (n / s 0 + 0) = n / s 0 + 0
      omega
    | succ m =>
      rw [F_sum (m + 1) _ c.less]
      omega
theorem F_zero {s : Nat → Int} : ∀ m, F s m 0 = 0
  | 0 => rfl
  | m + 1 => by
    show (0 : Int) / s m + F s m (0 % s m) = 0
    rw [Int.zero_ediv, Int.zero_emod, F_zero m]
    rfl
/-- what stands below level j is the same with a multiple of it more -/
theorem F_more {s : Nat → Int} : ∀ (m j : Nat) (r c : Int), Ch s m → j < m → 0 ≤ r → r < s j → 0 ≤ c → s j ∣ c → F s m r ≤ F s m (r + c)
  | 0, j, r, c, ch, hj, _, _, _, _ => by omega
  | m + 1, j, r, c, ch, hj, r0, r1, c0, dv => by
    have pm := ch.pos m (by omega)
    have pj := ch.pos j hj
    show r / s m + F s m (r % s m) ≤ (r + c) / s m + F s m ((r + c) % s m)
    have q0 : 0 ≤ (r + c) / s m := Int.ediv_nonneg (by omega) (by omega)
    have le : s j ≤ s m := Int.le_of_dvd (by omega) (ch.dvd (by omega) (by omega))
    rw [Int.ediv_eq_zero_of_lt r0 (show r < s m by omega), Int.emod_eq_of_lt r0 (show r < s m by omega)]
    have e := Int.mul_ediv_add_emod (r + c) (s m)
    by_cases h : j = m
    · subst h
      obtain ⟨t, rfl⟩ := dv
      rw [Int.add_mul_emod_self_left, Int.emod_eq_of_lt r0 r1]
      omega
    · generalize (r + c) / s m = q at *
      have e2 : (r + c) % s m = r + (c - s m * q) := by omega
      rw [e2]
      have d2 : s j ∣ c - s m * q := Int.dvd_sub dv (Int.dvd_trans (ch.dvd (show j ≤ m by omega) (by omega)) (Int.dvd_mul_right _ _))
      have n2 := Int.emod_nonneg (r + c) (show s m ≠ 0 by omega)
      have c2 : 0 ≤ c - s m * q := by
        obtain ⟨t, ht⟩ := d2
        rw [ht] at e2 ⊢
        have t0 : 0 ≤ t := by
          apply Int.le_of_lt_add_one
          by_cases z : t + 1 ≤ 0
          · have := Int.mul_le_mul_of_nonneg_left z (show (0 : Int) ≤ s j by omega)
            rw [Int.mul_add, Int.mul_one, Int.mul_zero] at this
            omega
          · omega
        exact Int.mul_nonneg (by omega) t0
      cases m with
      | zero => omega
      | succ m =>
        have := F_more (m + 1) j r (c - s (m + 1) * q) ch.less (by omega) r0 r1 c2 d2
        omega
/-- a block more is at most one block more -/
theorem F_add {s : Nat → Int} : ∀ (m j : Nat) (n : Int), Ch s m → j < m → 0 ≤ n → F s m (n + s j) ≤ F s m n + 1
  | 0, j, n, ch, hj, _ => by omega
  | m + 1, j, n, ch, hj, n0 => by
    have pm := ch.pos m (by omega)
    have pj := ch.pos j hj
    have le : s j ≤ s m := Int.le_of_dvd (by omega) (ch.dvd (by omega) (by omega))
    show (n + s j) / s m + F s m ((n + s j) % s m) ≤ n / s m + F s m (n % s m) + 1
    by_cases h : j = m
    · subst h
      rw [Int.add_ediv_of_dvd_right (Int.dvd_refl _), Int.ediv_self (by omega), Int.add_emod_right]
      omega
    · cases m with
      | zero => omega
      | succ m =>
        have e := Int.mul_ediv_add_emod n (s (m + 1))
        have r0 := Int.emod_nonneg n (show s (m + 1) ≠ 0 by omega)
        have r1 := Int.emod_lt_of_pos n (show 0 < s (m + 1) by omega)
        generalize n / s (m + 1) = q at *
        generalize n % s (m + 1) = r at *
        have e3 : n + s j = (r + s j) + s (m + 1) * q := by omega
        rw [e3, Int.add_mul_ediv_left _ _ (by omega), Int.add_mul_emod_self_left]
        by_cases h2 : r + s j < s (m + 1)
        · rw [Int.ediv_eq_zero_of_lt (by omega) h2, Int.emod_eq_of_lt (by omega) h2]
          have := F_add (m + 1) j r ch.less (by omega) r0
          omega
        · have e4 : (r + s j) = (r + s j - s (m + 1)) + s (m + 1) * 1 := by omega
          have lt : r + s j - s (m + 1) < s j := by omega
          rw [e4, Int.add_mul_ediv_left _ _ (by omega), Int.add_mul_emod_self_left, Int.ediv_eq_zero_of_lt (by omega) (show r + s j - s (m + 1) < s (m + 1) by omega), Int.emod_eq_of_lt (by omega) (show r + s j - s (m + 1) < s (m + 1) by omega)]
          have := F_more (m + 1) j (r + s j - s (m + 1)) (s (m + 1) - s j) ch.less (by omega) (by omega) lt (by omega) (Int.dvd_sub (ch.dvd (by omega) (by omega)) (Int.dvd_refl _))
          rw [show r + s j - s (m + 1) + (s (m + 1) - s j) = r by omega] at this
          omega
/-- some block less is one block less -/
theorem F_sub {s : Nat → Int} : ∀ (m : Nat) (n : Int), Ch s m → 1 ≤ n → ∃ j, j < m ∧ s j ≤ n ∧ F s m n = 1 + F s m (n - s j)
  | 0, n, ch, _ => absurd ch.m1 (by omega)
  | m + 1, n, ch, n1 => by
    have pm := ch.pos m (by omega)
    by_cases h : s m ≤ n
    · refine ⟨m, by omega, h, ?_⟩
      show n / s m + F s m (n % s m) = 1 + ((n - s m) / s m + F s m ((n - s m) % s m))
      have e : n = (n - s m) + s m * 1 := by omega
      have e1 : n / s m = (n - s m) / s m + 1 := by
        conv => lhs; rw [e]
        exact Int.add_mul_ediv_left _ _ (by omega)
      have e2 : n % s m = (n - s m) % s m := by
        conv => lhs; rw [e]
        exact Int.add_mul_emod_self_left _ _ _
      rw [e1, e2]
      omega
    · cases m with
      | zero =>
        have := ch.one
        omega
      | succ m =>
        obtain ⟨j, h1, h2, h3⟩ := F_sub (m + 1) n ch.less n1
        have pj := ch.pos j (by omega)
        refine ⟨j, by omega, h2, ?_⟩
        show n / s (m + 1) + F s (m + 1) (n % s (m + 1)) = 1 + ((n - s j) / s (m + 1) + F s (m + 1) ((n - s j) % s (m + 1)))
        rw [Int.ediv_eq_zero_of_lt (by omega) (by omega), Int.emod_eq_of_lt (by omega) (by omega), Int.ediv_eq_zero_of_lt (by omega) (by omega), Int.emod_eq_of_lt (by omega) (by omega), h3]
        omega
end M13

set_option Elab.async false
set_option linter.all false
set_option maxRecDepth 100000
set_option maxHeartbeats 4000000
/-! Own layer: range(a, b) of any whole numbers (walked by one or the other iterator of the machine). -/
namespace Ex
open PySem PySem.Spec PyProof.Rows L2 Gu
theorem turn_long {P : Program} {w : World} {K : PySem.W.Frag} {tg : Expr} (it : Addr) (lo : Int) (n : Nat) :
    Turn P w K tg (Itr lo n) [it] it (fun i h => IsLongIter h it (lo + (i : Nat) * 1) ((n : Int) - (i : Nat)) 1) where
  mem := List.mem_singleton.mpr rfl
  obj := fun i h st b hb => by
    obtain rfl := List.mem_singleton.mp hb
    exact ⟨_, st, fun v z => nomatch (show Data.fields _ = Data.cell v from z)⟩
  keep := fun i h h' st k => k it (List.mem_singleton.mpr rfl) _ st
  item := by
    rintro X rfl rfl rfl hc i pins s σ H E I hf st hg
    obtain ⟨f0, f1, f2, f3, f4, f5⟩ := hf it (List.mem_singleton.mpr rfl)
    refine (Walks.longrange (prog := X.prog) (w := X.w) (I.ok.hd hc) it lo 1 n).item i s _ _ hg st fun v h' tk hv st' kk => ?_
    obtain ⟨t, rfl⟩ := hv
    have J : Inv X pins σ H { s with heap := h', toks := tk } := I.turned (fun b o hb e => kk b o (fun z => hb (List.mem_singleton.mp z)) e) f0 f1 f3 f4 f5
    refine ⟨_, rfl, go_of (s := { s with heap := h', toks := tk }) (n := "longrange_iterator") st' rfl rfl (by decide) ⟨.int (lo + i), H, J, ⟨t, ?_⟩, ⟨rfl, rfl⟩, st', fun b hb => (hf b hb).1⟩⟩
    rw [Int.mul_one]
  done := by
    rintro X rfl rfl rfl hc i pins s σ H E I hf st hg
    obtain ⟨f0, f1, f2, f3, f4, f5⟩ := hf it (List.mem_singleton.mpr rfl)
    have hn : n ≤ i := hg
    exact wpAny_pyNext_long_end (I.ok.hd hc) st (by omega) fun h' eb => ⟨rfl, I.turned (t' := s.toks) (fun b o hb e => eb b o hb e) f0 f1 f3 f4 f5⟩
  self := fun _ _ _ _ _ st h => wpAny_pyIter_longiter st h
section
variable {X : Cx} {tg : Expr}
theorem range_any {pins : List (Addr × Obj)} {σ : L2.St} {H : Hp} {s : Shared} {R : It → Hp → Prop} {E : Value → Shared → Prop} {lo hi : Int} {t u v : Tok} {tk : Nat} (I : Inv X pins σ H s) (q : R (Itr lo (hi - lo).toNat) H) :
    wpAny (model X.prog X.w) X.A (pyIter (.ref s.heap.objs.size)) (PIE X pins σ tg R) E { s with heap := s.heap.push { cls := .type "range", data := .fields #[.int lo t, .int hi u, .int 1 v] }, toks := tk } := by
  have J : Inv X pins σ H { s with heap := s.heap.push { cls := .type "range", data := .fields #[.int lo t, .int hi u, .int 1 v] }, toks := tk } := I.kept fun b o e => Heap.get?_push_of_some _ e
  have e1 : lo + ((0 : Nat) : Int) * 1 = lo := by simp
  have e2 : (((hi - lo).toNat : Nat) : Int) - ((0 : Nat) : Int) = Builtin.Range.rangeSize lo hi 1 := by rw [rangeSize_one]; split <;> omega
  have fr : ∀ b ∈ [(s.heap.push { cls := .type "range", data := .fields #[.int lo t, .int hi u, .int 1 v] }).objs.size], _ := fun b hb => by
    obtain rfl := List.mem_singleton.mp hb
    exact J.fpOk (Nat.le_refl _) (J.hok.fresh (Nat.le_refl _))
  cases hs : Builtin.Range.small lo hi 1 with
  | true =>
    refine wpAny_pyIter_range (IsRange.new ..) hs ⟨_, [_], _, _, H, rfl, J.kept (t' := tk) fun b o e => Heap.get?_push_of_some _ e, turn_range _ lo (hi - lo).toNat, ?_, fr, q⟩
    show IsRangeIter _ _ (lo + ((0 : Nat) : Int) * 1) ((((hi - lo).toNat : Nat) : Int) - ((0 : Nat) : Int)) 1
    rw [e1, e2]
    exact Heap.get?_push_size _ rfl
  | false =>
    refine wpAny_pyIter_longrange (IsRange.new ..) hs ⟨_, [_], _, _, H, rfl, J.kept (t' := tk) fun b o e => Heap.get?_push_of_some _ e, turn_long _ lo (hi - lo).toNat, ?_, fr, q⟩
    show IsLongIter _ _ (lo + ((0 : Nat) : Int) * 1) ((((hi - lo).toNat : Nat) : Int) - ((0 : Nat) : Int)) 1
    rw [e1, e2]
    exact Heap.get?_push_size _ rfl
def iRngA (ta : TA) : TI := fun σ H R => ta σ H fun vs H1 => ∃ i j : Int, vs = [.int i, .int j] ∧ R (Itr i (j - i).toNat) H1
theorem pi_rangeA {a b : Expr} {ta : TA} {p pos : Pos} (hg : Gl X "range") (hm : X.mg "range" = none) (ha : PA X [a, b] ta) (hs : starEach [a, b] X.env = [(false, eval a X.env), (false, eval b X.env)] := by rfl)
    (hs2 : starEach [b] X.env = [(false, eval b X.env)] := by rfl) : PI X tg (.Call (.Name "range" p) [a, b] [] pos) (iRngA ta) := by
  refine ⟨fun pins s σ H R I h => Call_ (ld_blt I hg hm boot_range (PyProof.Rows.callWith_type1 (thn (ha.run pos pins s σ H _ I h) fun us s1 ⟨vs, H1, I1, r1, q1⟩ => ?_) (by rw [hs, hs2]) (by rw [hs2]; rfl)))⟩
  obtain ⟨i, j, rfl, q⟩ := q1
  obtain ⟨u, z, rfl, ⟨t, rfl⟩, ⟨t', rfl⟩⟩ := vals2 r1
  exact call_range_2 (range_any I1 q)
end
end Ex

set_option Elab.async false
set_option linter.all false
set_option maxRecDepth 100000
set_option maxHeartbeats 4000000
/-! Own layer: range(a, b, c) of any whole numbers a, b and a step from 1 to 2^30; a comprehension over it. -/
namespace Ex
open PySem PySem.Spec PyProof.Rows L2 Gu
theorem turn_longC {P : Program} {w : World} {K : PySem.W.Frag} {tg : Expr} (it : Addr) (lo c : Int) (n : Nat) :
    Turn P w K tg (Itc lo c n) [it] it (fun i h => IsLongIter h it (lo + (i : Nat) * c) ((n : Int) - (i : Nat)) c) where
  mem := List.mem_singleton.mpr rfl
  obj := fun i h st b hb => by
    obtain rfl := List.mem_singleton.mp hb
    exact ⟨_, st, fun v z => nomatch (show Data.fields _ = Data.cell v from z)⟩
  keep := fun i h h' st k => k it (List.mem_singleton.mpr rfl) _ st
  item := by
    rintro X rfl rfl rfl hc i pins s σ H E I hf st hg
    obtain ⟨f0, f1, f2, f3, f4, f5⟩ := hf it (List.mem_singleton.mpr rfl)
    refine (Walks.longrange (prog := X.prog) (w := X.w) (I.ok.hd hc) it lo c n).item i s _ _ hg st fun v h' tk hv st' kk => ?_
    obtain ⟨t, rfl⟩ := hv
    have J : Inv X pins σ H { s with heap := h', toks := tk } := I.turned (fun b o hb e => kk b o (fun z => hb (List.mem_singleton.mp z)) e) f0 f1 f3 f4 f5
    exact ⟨_, rfl, go_of (s := { s with heap := h', toks := tk }) (n := "longrange_iterator") st' rfl rfl (by decide) ⟨.int (lo + (i : Nat) * c), H, J, ⟨t, rfl⟩, ⟨rfl, rfl⟩, st', fun b hb => (hf b hb).1⟩⟩
  done := by
    rintro X rfl rfl rfl hc i pins s σ H E I hf st hg
    obtain ⟨f0, f1, f2, f3, f4, f5⟩ := hf it (List.mem_singleton.mpr rfl)
    have hn : n ≤ i := hg
    exact wpAny_pyNext_long_end (I.ok.hd hc) st (by omega) fun h' eb => ⟨rfl, I.turned (t' := s.toks) (fun b o hb e => eb b o hb e) f0 f1 f3 f4 f5⟩
  self := fun _ _ _ _ _ st h => wpAny_pyIter_longiter st h
section
variable {X : Cx} {tg : Expr}
theorem range_anyC {pins : List (Addr × Obj)} {σ : L2.St} {H : Hp} {s : Shared} {R : It → Hp → Prop} {E : Value → Shared → Prop} {lo hi c : Int} {t u v : Tok} {tk : Nat} (I : Inv X pins σ H s) (q : R (Itc lo c (Builtin.Range.rangeSize lo hi c).toNat) H) :
    wpAny (model X.prog X.w) X.A (pyIter (.ref s.heap.objs.size)) (PIE X pins σ tg R) E { s with heap := s.heap.push { cls := .type "range", data := .fields #[.int lo t, .int hi u, .int c v] }, toks := tk } := by
  have J : Inv X pins σ H { s with heap := s.heap.push { cls := .type "range", data := .fields #[.int lo t, .int hi u, .int c v] }, toks := tk } := I.kept fun b o e => Heap.get?_push_of_some _ e
  have e1 : lo + ((0 : Nat) : Int) * c = lo := by simp
  have e2 : (((Builtin.Range.rangeSize lo hi c).toNat : Nat) : Int) - ((0 : Nat) : Int) = Builtin.Range.rangeSize lo hi c := by
    rw [← rangeSize_toNat]
    simp
  have fr : ∀ b ∈ [(s.heap.push { cls := .type "range", data := .fields #[.int lo t, .int hi u, .int c v] }).objs.size], _ := fun b hb => by
    obtain rfl := List.mem_singleton.mp hb
    exact J.fpOk (Nat.le_refl _) (J.hok.fresh (Nat.le_refl _))
  cases hs : Builtin.Range.small lo hi c with
  | true =>
    refine wpAny_pyIter_range (IsRange.new ..) hs ⟨_, [_], _, _, H, rfl, J.kept (t' := tk) fun b o e => Heap.get?_push_of_some _ e, turn_rangeC _ lo c (Builtin.Range.rangeSize lo hi c).toNat, ?_, fr, q⟩
    show IsRangeIter _ _ (lo + ((0 : Nat) : Int) * c) ((((Builtin.Range.rangeSize lo hi c).toNat : Nat) : Int) - ((0 : Nat) : Int)) c
    rw [e1, e2]
    exact Heap.get?_push_size _ rfl
  | false =>
    refine wpAny_pyIter_longrange (IsRange.new ..) hs ⟨_, [_], _, _, H, rfl, J.kept (t' := tk) fun b o e => Heap.get?_push_of_some _ e, turn_longC _ lo c (Builtin.Range.rangeSize lo hi c).toNat, ?_, fr, q⟩
    show IsLongIter _ _ (lo + ((0 : Nat) : Int) * c) ((((Builtin.Range.rangeSize lo hi c).toNat : Nat) : Int) - ((0 : Nat) : Int)) c
    rw [e1, e2]
    exact Heap.get?_push_size _ rfl
/-- how many turns range(i, j, c) has -/
def stepsN (i j c : Int) : Nat := (Builtin.Range.rangeSize i j c).toNat
def iRngS (ta : TA) : TI := fun σ H R => ta σ H fun vs H1 => ∃ i j c : Int, vs = [.int i, .int j, .int c] ∧ 1 ≤ c ∧ c < 1073741824 ∧ R (Itc i c (stepsN i j c)) H1
theorem pi_rangeS {a b c : Expr} {ta : TA} {p pos : Pos} (hg : Gl X "range") (hm : X.mg "range" = none) (ha : PA X [a, b, c] ta)
    (hs : starEach [a, b, c] X.env = (false, eval a X.env) :: starEach [b, c] X.env := by rfl) (hpl : (backTo pos (starEach [b, c] X.env)).any (·.1) = false := by rfl) :
    PI X tg (.Call (.Name "range" p) [a, b, c] [] pos) (iRngS ta) := by
  refine ⟨fun pins s σ H R I h => ?_⟩
  refine Call_ (ld_blt I hg hm boot_range (PyProof.Rows.callWith_type1 (thn (ha.run pos pins s σ H _ I h) fun us s1 ⟨vs, H1, I1, r1, q1⟩ => ?_) hs hpl))
  obtain ⟨i, j, k, e, c0, c1, q⟩ := q1
  subst e
  cases r1 with
  | cons r rr =>
    cases rr with
    | cons r' rr =>
      cases rr with
      | cons r'' rr =>
        cases rr
        obtain ⟨t, rfl⟩ := r
        obtain ⟨t', rfl⟩ := r'
        obtain ⟨t'', rfl⟩ := r''
        exact call_range_3 (by omega) (range_anyC (tk := s1.toks) I1 q) (.inl (PyProof.noPylong_small (by omega)))
end
theorem steps_le {i j c : Int} (hc : 1 ≤ c) (h : j - i ≤ 100) : stepsN i j c ≤ 100 := by
  unfold stepsN Builtin.Range.rangeSize
  rw [if_pos (by omega)]
  split
  · have h1 := Int.ediv_le_self c (show (0 : Int) ≤ j - i - 1 by omega)
    omega
  · decide
/-- the turns reach every step below the end, and no other -/
theorem steps_lt {i j c : Int} (hc : 1 ≤ c) (n : Nat) : n < stepsN i j c ↔ i + (n : Int) * c < j := by
  unfold stepsN Builtin.Range.rangeSize
  rw [if_pos (by omega)]
  by_cases hij : i < j
  · rw [if_pos hij]
    have d0 : 0 ≤ (j - i - 1) / c := Int.ediv_nonneg (by omega) (by omega)
    have e1 := Int.mul_ediv_add_emod (j - i - 1) c
    have e2 := Int.emod_nonneg (j - i - 1) (show c ≠ 0 by omega)
    have e3 := Int.emod_lt_of_pos (j - i - 1) (show 0 < c by omega)
    generalize (j - i - 1) / c = q at *
    constructor
    · intro h
      have h2 : (n : Int) ≤ q := by omega
      have h3 := Int.mul_le_mul_of_nonneg_left h2 (show 0 ≤ c by omega)
      have h4 : (n : Int) * c = c * n := Int.mul_comm _ _
      omega
    · intro h
      have h4 : (n : Int) * c = c * n := Int.mul_comm _ _
      have h2 : (n : Int) ≤ q := by
        refine Int.not_lt.mp fun z => ?_
        have h3 := Int.mul_le_mul_of_nonneg_left (show q + 1 ≤ (n : Int) by omega) (show 0 ≤ c by omega)
        rw [Int.mul_add, Int.mul_one] at h3
        omega
      omega
  · rw [if_neg hij]
    have : 0 ≤ (n : Int) * c := Int.mul_nonneg (by omega) (by omega)
    constructor
    · intro h
      have : n < (0 : Int).toNat := h
      exact absurd this (Nat.not_lt_zero _)
    · intro h
      omega
/-- a comprehension over such a range -/
theorem lc_rangeC {lo c : Int} {n : Nat} {g : TG} {tt : TT} {te : TE} {vs : List Nat} {σ : L2.St} {H1 : Hp} {D : Addr} {Qd : Hp → Prop} (Pv : Nat → Hp → Prop) (h0 : Pv 0 (upd H1 D (.lst [])))
    (hs : ∀ i H, i < n → Pv i H → g (.int (lo + (i : Nat) * c)) (wipe σ vs) H fun σ2 H2 => wipe σ2 vs = wipe σ vs ∧ tt σ2 H2 fun b H3 =>
      if b = true then te σ2 H3 fun y H4 => ∃ acc, H4 D = some (.lst acc) ∧ acc.length < sizeLine ∧ Pv (i + 1) (upd H4 D (.lst (acc ++ [y]))) else Pv (i + 1) H3) (hd : ∀ H, Pv n H → Qd H) :
    ∃ W : Nat → Nat → Hp → Prop, (∃ m, W 0 m (upd H1 D (.lst []))) ∧ ∀ i m H, W i m H →
      ((Itc lo c n).stop i H ∧ Qd H) ∨ ((Itc lo c n).go i H ∧ ∃ Nx : Hp → Prop, (∀ H', Nx H' → ∃ m', m' < m ∧ W (i + 1) m' H') ∧ ∀ x H', (Itc lo c n).yld i H x H' → g x (wipe σ vs) H' fun σ2 H2 => wipe σ2 vs = wipe σ vs ∧ tt σ2 H2 fun b H3 =>
        if b = true then te σ2 H3 fun y H4 => ∃ acc, H4 D = some (.lst acc) ∧ acc.length < sizeLine ∧ Nx (upd H4 D (.lst (acc ++ [y]))) else Nx H3) := by
  refine ⟨fun i m H => m = n - i ∧ i ≤ n ∧ Pv i H, ⟨n, by simp, Nat.zero_le _, h0⟩, ?_⟩
  rintro i m H ⟨rfl, hi, p⟩
  by_cases hlt : i < n
  · refine .inr ⟨hlt, Pv (i + 1), fun H' p' => ⟨n - (i + 1), by omega, rfl, hlt, p'⟩, fun x H' y => ?_⟩
    obtain ⟨e, y⟩ := y
    subst e y
    exact hs i _ hlt p
  · have e : i = n := by omega
    subst e
    exact .inl ⟨Nat.le_refl _, hd H p⟩
end Ex

set_option Elab.async false
set_option linter.all false
set_option maxRecDepth 100000
set_option maxHeartbeats 4000000
set_option pp.maxSteps 900
namespace K18
open PySem PySem.Spec PyProof.Rows L2 Gu Ex
def cellsB : V → Bool
  | .int i => decide (1 ≤ i ∧ i ≤ 1000000000000)
  | _ => false
section
variable {P : Program} {w : World} {K : PySem.W.Frag} {mg : Str → Option Value} {base : Heap} {f : Addr} {fd : FuncData}
def spCells : Sp := fun vs H Q _ => ∃ v : V, vs = [v] ∧ Any H v ∧ Q (.bl (cellsB v)) H
theorem sc_is_cells : FnScope ["value"] ["value"] (defScope (top 16)) := ⟨rfl, rfl, rfl, by decide +kernel, rfl, by decide +kernel, by decide +kernel⟩
theorem ok_is_cells (T : Tx K mg) (D_is_integer : Df P w K mg base 1 "is_integer" ["value"] spInt) (F : FnP K "is_cells" "is_cells" (top 16) f fd) : FnOk P w K mg base CX0 2 f fd ["value"] spCells := by
  refine F.ok sc_is_cells (fun vs H Q E h => ?_) (fun cdv A outer s H vs Q E hr h => ⟨_, PSs.nox (pss_one (ps_ret (pe_and (pcall D_is_integer hr (pa_cons (pv 0) pa_nil)) (pe_one (pe_chain op_le op_le pe_int (pv 0) (ClX.pe_cval (pe_glob (v := .ref _) rfl T.g_Sizes rfl))))))), ?_⟩)
  · obtain ⟨v, rfl, _⟩ := h
    rfl
  · obtain ⟨v, rfl, hv, q⟩ := h
    obtain ⟨u, cC⟩ := T.cM
    refine ⟨_, rfl, v, rfl, hv, _, rfl, ?_⟩
    cases v with
    | int i =>
      refine iteT ⟨_, rfl, _, _, rfl, rfl, _, rfl, ?_⟩
      by_cases h1 : (1 : Int) ≤ i
      · refine ifT (decide_eq_true h1) ⟨_, _, _, _, rfl, T.rd, cC, _, _, rfl, rfl, ?_⟩
        have e : cellsB (.int i) = decide (i ≤ 1000000000000) := by
          show decide (1 ≤ i ∧ i ≤ 1000000000000) = _
          by_cases h2 : i ≤ 1000000000000
          · rw [decide_eq_true ⟨h1, h2⟩, decide_eq_true h2]
          · rw [decide_eq_false fun z => h2 z.2, decide_eq_false h2]
        rw [e] at q
        exact q
      · have e : cellsB (.int i) = false := decide_eq_false fun z => h1 z.1
        rw [e] at q
        exact ifF (decide_eq_false h1) q
    | _ => exact iteF q
theorem sc_InvalidNumber_init : FnScope ["self", "value"] ["self", "value"] (defScope (inClass (top 4) 0)) := ⟨rfl, rfl, rfl, by decide +kernel, rfl, by decide +kernel, by decide +kernel⟩
theorem ok_errN (T : Tx K mg) (F : FnP K "__init__" "InvalidNumber.__init__" (inClass (top 4) 0) f fd) : FnOk P w K mg base CX0 1 f fd ["self", "value"] (Ex.spErr (cNu K) "value") := by
  refine F.ok sc_InvalidNumber_init (fun vs H Q E h => ?_) (fun cdv A outer s H vs Q E hr h => ⟨_, PSs.nox (pss_one (ps_fst (B := "ValueError") (tl := tailE "ValueError") (pv 0) (pv 1))), ?_⟩)
  · obtain ⟨a, v, rfl, _⟩ := h
    rfl
  · obtain ⟨a, v, rfl, ha, q⟩ := h
    exact ⟨_, rfl, _, rfl, a, cNu K, rfl, T.eN.ox, T.eN.no, ha, q⟩
theorem sc_InvalidLevel_init : FnScope ["self", "value"] ["self", "value"] (defScope (inClass (top 3) 0)) := ⟨rfl, rfl, rfl, by decide +kernel, rfl, by decide +kernel, by decide +kernel⟩
theorem ok_errL (T : Tx K mg) (F : FnP K "__init__" "InvalidLevel.__init__" (inClass (top 3) 0) f fd) : FnOk P w K mg base CX0 1 f fd ["self", "value"] (Ex.spErr (cL K) "value") := by
  refine F.ok sc_InvalidLevel_init (fun vs H Q E h => ?_) (fun cdv A outer s H vs Q E hr h => ⟨_, PSs.nox (pss_one (ps_fst (B := "ValueError") (tl := tailE "ValueError") (pv 0) (pv 1))), ?_⟩)
  · obtain ⟨a, v, rfl, _⟩ := h
    rfl
  · obtain ⟨a, v, rfl, ha, q⟩ := h
    exact ⟨_, rfl, _, rfl, a, cL K, rfl, T.eL.ox, T.eL.no, ha, q⟩
theorem sc_TooManyPieces_init : FnScope ["self", "limit"] ["self", "limit"] (defScope (inClass (top 8) 0)) := ⟨rfl, rfl, rfl, by decide +kernel, rfl, by decide +kernel, by decide +kernel⟩
theorem ok_errT (T : Tx K mg) (F : FnP K "__init__" "TooManyPieces.__init__" (inClass (top 8) 0) f fd) : FnOk P w K mg base CX0 1 f fd ["self", "limit"] (Ex.spErr (cT K) "limit") := by
  refine F.ok sc_TooManyPieces_init (fun vs H Q E h => ?_) (fun cdv A outer s H vs Q E hr h => ⟨_, PSs.nox (pss_one (ps_fst (B := "ArithmeticError") (tl := tailE "ArithmeticError") (pv 0) (pv 1))), ?_⟩)
  · obtain ⟨a, v, rfl, _⟩ := h
    rfl
  · obtain ⟨a, v, rfl, ha, q⟩ := h
    exact ⟨_, rfl, _, rfl, a, cT K, rfl, T.eT.ox, T.eT.no, ha, q⟩
def spCheckC (K : PySem.W.Frag) : Sp := fun vs H Q E => ∃ v : V, vs = [v] ∧ Any H v ∧ (cellsB v = true → Q .non H) ∧ (cellsB v = false → ∀ d H', H d = none → Same H H' → H' d = some (.xd [("value", v)]) → E (.ref (cNu K)) (some d) H')
theorem sc_check_cells : FnScope ["value"] ["value"] (defScope (top 17)) := ⟨rfl, rfl, rfl, by decide +kernel, rfl, by decide +kernel, by decide +kernel⟩
theorem ok_check_cells (T : Tx K mg) (D_is_cells : Df P w K mg base 2 "is_cells" ["value"] spCells) (M : Ex.Ei P w K mg base "InvalidNumber" "value") (F : FnP K "check_cells" "check_cells" (top 17) f fd) : FnOk P w K mg base (L2.CX P w) 4 f fd ["value"] (spCheckC K) := by
  obtain ⟨fdI, FI, bI⟩ := M.ex
  refine F.ok sc_check_cells (fun vs H Q E h => ?_) (fun cdv A outer s H vs Q E hr h => ⟨_, (pss_one (ps_if (pt_not (pt_val (pcall D_is_cells hr (pa_cons (pv 0) pa_nil)))) (pss_one (ps_raise rfl (takes_of (E := E) rfl rfl rfl rfl) (pmk_oexG T.eN.ox T.eN.ii T.eN.ti FI (hr.mono (by decide)) bI .nil pass0 rfl T.g_InvalidNumber (pa_cons (pv 0) pa_nil)))) pss_nil)), ?_⟩)
  · obtain ⟨v, rfl, _⟩ := h
    rfl
  · obtain ⟨v, rfl, hv, q1, q2⟩ := h
    refine ⟨_, rfl, v, rfl, hv, _, rfl, ?_⟩
    cases e : cellsB v with
    | true => exact iteF (q1 e)
    | false => exact iteT ⟨_, rfl, (by show 1 ≤ 1000; decide), raise_ok (q2 e)⟩
/-- is it a level? -/
def lvB (n : Nat) : V → Bool
  | .int i => decide (0 ≤ i ∧ i < n)
  | _ => false
def spHas (K : PySem.W.Frag) : Sp := fun vs H Q _ => ∃ (p : Addr) (ns : List Int) (v : V), vs = [.ref p, v] ∧ SzI K H p ns ∧ Any H v ∧ Q (.bl (lvB ns.length v)) H
theorem sc_has_level : FnScope ["self", "level"] ["self", "level"] (defScope (inClass (top 21) 12)) := ⟨rfl, rfl, rfl, by decide +kernel, rfl, by decide +kernel, by decide +kernel⟩
theorem ok_has (T : Tx K mg) (D_is_integer : Df P w K mg base 1 "is_integer" ["value"] spInt) (P_top : Pf P w K mg base 1 "Sizes" "top" (spTop K)) (F : FnP K "has_level" "Sizes.has_level" (inClass (top 21) 12) f fd) :
    FnOk P w K mg base CX0 3 f fd ["self", "level"] (spHas K) := by
  refine F.ok sc_has_level (fun vs H Q E h => ?_) (fun cdv A outer s H vs Q E hr h => ⟨_, PSs.nox (pss_one (ps_ret (pe_and (pcall D_is_integer hr (pa_cons (pv 1) pa_nil)) (pe_one (pe_chain op_le op_le pe_int (pv 1) (pprop P_top hr (pv 0))))))), ?_⟩)
  · obtain ⟨p, ns, v, rfl, _⟩ := h
    rfl
  · obtain ⟨p, ns, v, rfl, hz, hv, q⟩ := h
    obtain ⟨dx, l, h1, h2⟩ := id hz
    refine ⟨_, rfl, v, rfl, hv, _, rfl, ?_⟩
    cases v with
    | int i =>
      refine iteT ⟨_, rfl, _, _, rfl, rfl, _, rfl, ?_⟩
      by_cases h0 : (0 : Int) ≤ i
      · refine ifT (decide_eq_true h0) ⟨_, rfl, p, dx, _, rfl, h1, p, ns, rfl, hz, _, _, rfl, rfl, ?_⟩
        have e : lvB ns.length (.int i) = decide (i ≤ (ns.length : Int) - 1) := by
          show decide (0 ≤ i ∧ i < (ns.length : Int)) = _
          by_cases h2 : i ≤ (ns.length : Int) - 1
          · rw [decide_eq_true h2, decide_eq_true ⟨h0, by omega⟩]
          · rw [decide_eq_false h2, decide_eq_false fun z => h2 (by omega)]
        rw [e] at q
        exact q
      · have e : lvB ns.length (.int i) = false := decide_eq_false fun z => h0 z.1
        rw [e] at q
        exact ifF (decide_eq_false h0) q
    | _ => exact iteF q
theorem lv_nat {n : Nat} {v : V} (h : lvB n v = true) : ∃ i : Nat, v = .int (i : Int) ∧ i < n := by
  cases v with
  | int i =>
    obtain ⟨h1, h2⟩ := of_decide_eq_true (show decide (0 ≤ i ∧ i < (n : Int)) = true from h)
    obtain ⟨k, rfl⟩ := Int.eq_ofNat_of_zero_le h1
    exact ⟨k, rfl, by omega⟩
  | _ => cases h
theorem lv_of {n i : Nat} (h : i < n) : lvB n (.int (i : Int)) = true := decide_eq_true ⟨by omega, by omega⟩
theorem cells_int {v : V} (h : cellsB v = true) : ∃ n, v = .int n ∧ 1 ≤ n ∧ n ≤ 1000000000000 := by
  cases v with
  | int i => exact ⟨i, rfl, of_decide_eq_true (show decide (1 ≤ i ∧ i ≤ 1000000000000) = true from h)⟩
  | _ => cases h
/-- the def's wish of errors holds of an error of c that has v -/
def Raised (K : PySem.W.Frag) (c n : Str) (v : V) (H : Hp) (E : XK) : Prop := ∀ d H', H d = none → Same H H' → H' d = some (.xd [(n, v)]) → E (.ref (He.ga K c)) (some d) H'
theorem Raised.same {K : PySem.W.Frag} {c n : Str} {v : V} {H H1 : Hp} {E : XK} (h : Raised K c n v H E) (s : Same H H1) : Raised K c n v H1 E := fun d H' e s2 x => h d H' (s.free e) (s.trans s2) x
theorem SzI.same {H H' : Hp} {p : Addr} {ns : List Int} (h : SzI K H p ns) (s : Same H H') : SzI K H' p ns := by
  obtain ⟨dx, l, a, b⟩ := h
  exact ⟨dx, l, s _ _ a, s _ _ b⟩
def sz (ns : List Int) (k : Nat) : Int := ns.getD k 0
theorem sz_at {ns : List Int} {k : Nat} (h : k < ns.length) : ns[k]? = some (sz ns k) := by
  unfold sz
  rw [List.getD_eq_getElem?_getD, List.getElem?_eq_getElem h]
  rfl
theorem chain {ns : List Int} (g : Good ns) : M16.Ch (sz ns) ns.length := by
  refine ⟨g.len.1, ?_, fun k h => (g.rng k _ (sz_at h)).1, fun k h => Int.dvd_of_emod_eq_zero (g.up k _ _ (sz_at (by omega)) (sz_at h)).2⟩
  have := (sz_at (ns := ns) (k := 0) (by have := g.len.1; omega)).symm.trans g.one
  exact Option.some.inj this
theorem sz_le {ns : List Int} (g : Good ns) {k : Nat} (h : k < ns.length) : sz ns k ≤ 1000000000 := (g.rng k _ (sz_at h)).2
theorem at_sz {ns : List Int} {k : Nat} (h : k < ns.length) : atI (ns.map V.int) (k : Int) = some (.int (sz ns k)) := at_map (sz_at h)
theorem div_ok {i s : Int} (h1 : 1 ≤ s) (h2 : s ≤ 1000000000) : CDivW i s := wide_div (b := 64) (by omega) (by omega) (by decide) (by decide)
def spCheckL (K : PySem.W.Frag) : Sp := fun vs H Q E => ∃ (p : Addr) (ns : List Int) (v : V), vs = [.ref p, v] ∧ SzI K H p ns ∧ Any H v ∧ (lvB ns.length v = true → Q .non H) ∧ (lvB ns.length v = false → Raised K "InvalidLevel" "value" v H E)
theorem sc_check_level : FnScope ["self", "level"] ["self", "level"] (defScope (inClass (top 21) 13)) := ⟨rfl, rfl, rfl, by decide +kernel, rfl, by decide +kernel, by decide +kernel⟩
theorem ok_check_level (T : Tx K mg) (M_has_level : Mf P w K mg base 3 "Sizes" "has_level" ["self", "level"] (spHas K)) (M : Ex.Ei P w K mg base "InvalidLevel" "value") (F : FnP K "check_level" "Sizes.check_level" (inClass (top 21) 13) f fd) :
    FnOk P w K mg base (L2.CX P w) 4 f fd ["self", "level"] (spCheckL K) := by
  obtain ⟨fdI, FI, bI⟩ := M.ex
  refine F.ok sc_check_level (fun vs H Q E h => ?_) (fun cdv A outer s H vs Q E hr h => ⟨_, (pss_one (ps_if (pt_not (pt_val (pmeth M_has_level hr (pv 0) (pa_cons (pv 1) pa_nil)))) (pss_one (ps_raise rfl (takes_of (E := E) rfl rfl rfl rfl) (pmk_oexG T.eL.ox T.eL.ii T.eL.ti FI (hr.mono (by decide)) bI .nil pass0 rfl T.g_InvalidLevel (pa_cons (pv 1) pa_nil)))) pss_nil)), ?_⟩)
  · obtain ⟨p, ns, v, rfl, _⟩ := h
    rfl
  · obtain ⟨p, ns, v, rfl, hz, hv, q1, q2⟩ := h
    obtain ⟨dx, l, h1, h2⟩ := id hz
    refine ⟨_, rfl, p, dx, _, rfl, h1, szF_no l (by decide +kernel), _, rfl, p, ns, v, rfl, hz, hv, _, rfl, ?_⟩
    cases e : lvB ns.length v with
    | true => exact iteF (q1 e)
    | false => exact iteT ⟨_, rfl, (by show 1 ≤ 1000; decide), raise_ok (q2 e)⟩
def spSize (K : PySem.W.Frag) : Sp := fun vs H Q E => ∃ (p : Addr) (ns : List Int) (v : V), vs = [.ref p, v] ∧ SzI K H p ns ∧ Any H v ∧ (∀ i : Nat, v = .int (i : Int) → i < ns.length → Q (.int (sz ns i)) H) ∧ (lvB ns.length v = false → Raised K "InvalidLevel" "value" v H E)
theorem sc_size : FnScope ["self", "level"] ["self", "level"] (defScope (inClass (top 21) 14)) := ⟨rfl, rfl, rfl, by decide +kernel, rfl, by decide +kernel, by decide +kernel⟩
theorem ok_size (T : Tx K mg) (M_check_level : MfX P w K mg base 4 "Sizes" "check_level" ["self", "level"] (spCheckL K)) (F : FnP K "size" "Sizes.size" (inClass (top 21) 14) f fd) :
    FnOk P w K mg base (L2.CX P w) 5 f fd ["self", "level"] (spSize K) := by
  refine F.ok sc_size (fun vs H Q E h => ?_) (fun cdv A outer s H vs Q E hr h => ⟨_, (pss_cons (ps_expr (pmethX M_check_level hr (passX (takes_of (E := E) rfl rfl rfl rfl)) (pv 0) (pa_cons (pv 1) pa_nil))) (pss_one (ps_ret (pe_ix ix_list (pe_fld (pv 0) rfl) (pv 1) (fun _ _ => rfl))))), ?_⟩)
  · obtain ⟨p, ns, v, rfl, _⟩ := h
    rfl
  · obtain ⟨p, ns, v, rfl, hz, hv, q1, q2⟩ := h
    obtain ⟨dx, l, h1, h2⟩ := id hz
    refine ⟨_, rfl, p, dx, _, rfl, h1, szF_no l (by decide +kernel), _, rfl, p, ns, v, rfl, hz, hv, fun e => ?_, q2⟩
    obtain ⟨i, rfl, hi⟩ := lv_nat e
    exact ⟨_, rfl, p, _, dx, _, _, rfl, h1, T.cl, T.nSL, szF_get l, _, rfl, l, _, _, _, rfl, rfl, SqL.of h2, at_sz hi, q1 i rfl hi⟩
def spWhole (K : PySem.W.Frag) : Sp := fun vs H Q E => ∃ (p : Addr) (ns : List Int) (c v : V), vs = [.ref p, c, v] ∧ SzI K H p ns ∧ Good ns ∧ Any H c ∧ Any H v ∧
  (∀ (n : Int) (i : Nat), c = .int n → cellsB c = true → v = .int (i : Int) → i < ns.length → Q (.int (n - n % sz ns i)) H) ∧ (cellsB c = false → Raised K "InvalidNumber" "value" c H E) ∧ (cellsB c = true → lvB ns.length v = false → Raised K "InvalidLevel" "value" v H E)
theorem sc_whole : FnScope ["self", "cells", "level"] ["self", "cells", "level"] (defScope (inClass (top 21) 16)) := ⟨rfl, rfl, rfl, by decide +kernel, rfl, by decide +kernel, by decide +kernel⟩
theorem ok_whole (T : Tx K mg) (D_check_cells : DfX P w K mg base 4 "check_cells" ["value"] (spCheckC K)) (M_size : MfX P w K mg base 5 "Sizes" "size" ["self", "level"] (spSize K)) (F : FnP K "whole" "Sizes.whole" (inClass (top 21) 16) f fd) :
    FnOk P w K mg base (L2.CX P w) 6 f fd ["self", "cells", "level"] (spWhole K) := by
  refine F.ok sc_whole (fun vs H Q E h => ?_) (fun cdv A outer s H vs Q E hr h => ⟨_, (pss_cons (ps_expr (pcallX D_check_cells hr (passX (takes_of (E := E) rfl rfl rfl rfl)) (pa_cons (pv 1) pa_nil))) (pss_one (ps_ret (pe_op op_sub (pv 1) (pe_op op_mod (pv 1) (pmethX M_size hr (passX (takes_of (E := E) rfl rfl rfl rfl)) (pv 0) (pa_cons (pv 2) pa_nil))))))), ?_⟩)
  · obtain ⟨p, ns, c, v, rfl, _⟩ := h
    rfl
  · obtain ⟨p, ns, c, v, rfl, hz, g, hc, hv, q1, q2, q3⟩ := h
    obtain ⟨dx, l, h1, h2⟩ := id hz
    refine ⟨_, rfl, c, rfl, hc, fun e => ?_, q2⟩
    obtain ⟨n, rfl, n1, n2⟩ := cells_int e
    refine ⟨_, rfl, _, rfl, _, rfl, p, dx, _, rfl, h1, szF_no l (by decide +kernel), _, rfl, p, ns, v, rfl, hz, hv, fun i ev hi => ?_, q3 e⟩
    have := (chain g).pos i hi
    exact ⟨_, _, rfl, rfl, (by show (0 : Int) < sz ns i; omega), _, _, rfl, rfl, q1 n i rfl e ev hi⟩
def spLv (K : PySem.W.Frag) : Sp := fun vs H Q E => ∃ (p : Addr) (ns : List Int) (c : V), vs = [.ref p, c] ∧ SzI K H p ns ∧ Good ns ∧ Any H c ∧
  (∀ (n : Int) (k : Nat), c = .int n → cellsB c = true → M13.IsLv (sz ns) ns.length n k → Q (.int (k : Int)) H) ∧ (cellsB c = false → Raised K "InvalidNumber" "value" c H E)
theorem sc_level_of : FnScope ["self", "cells", "level"] ["self", "cells"] (defScope (inClass (top 21) 15)) := ⟨rfl, rfl, rfl, by decide +kernel, rfl, by decide +kernel, by decide +kernel⟩
theorem ok_level_of (T : Tx K mg) (D_check_cells : DfX P w K mg base 4 "check_cells" ["value"] (spCheckC K)) (P_top : Pf P w K mg base 1 "Sizes" "top" (spTop K)) (F : FnP K "level_of" "Sizes.level_of" (inClass (top 21) 15) f fd) :
    FnOk P w K mg base (L2.CX P w) 5 f fd ["self", "cells"] (spLv K) := by
  refine F.ok sc_level_of (fun vs H Q E h => ?_) (fun cdv A outer s H vs Q E hr h => ⟨_, (pss_cons (ps_expr (pcallX D_check_cells hr (passX (takes_of (E := E) rfl rfl rfl rfl)) (pa_cons (pv 1) pa_nil))) (pss_cons (ps_set (i := 2) sc_level_of.nd rfl (by first | exact Or.inl rfl | exact Or.inr rfl) (pprop P_top hr (pv 0))) (pss_cons (ps_while (passes_of rfl) (pt_cmpR op_gt (pe_ix ix_list (pe_fld (pv 0) rfl) (pv 2) (fun _ _ => rfl)) (pv 1) (nomark _)) (pss_one (ps_aug (i := 2) sc_level_of.nd rfl (by first | exact Or.inl rfl | exact Or.inr rfl) pe_int ip_sub))) (pss_one (ps_ret (pv 2)))))), ?_⟩)
  · obtain ⟨p, ns, c, rfl, _⟩ := h
    rfl
  · obtain ⟨p, ns, c, rfl, hz, g, hc, q1, q2⟩ := h
    obtain ⟨dx, l, h1, h2⟩ := id hz
    refine ⟨_, rfl, c, rfl, hc, fun e => ?_, q2⟩
    obtain ⟨n, rfl, n1, n2⟩ := cells_int e
    have l1 := g.len.1
    refine ⟨_, rfl, p, dx, _, rfl, h1, p, ns, rfl, hz, ?_⟩
    refine ⟨fun m σ G => G = H ∧ ∃ k : Nat, m = k ∧ k < ns.length ∧ (∀ j, k < j → j < ns.length → n < sz ns j) ∧ σ = [some (.ref p), some (.int n), some (.int (k : Int))], ⟨ns.length - 1, rfl, ns.length - 1, rfl, by omega, fun j a b => by omega, ?_⟩, ?_⟩
    · rw [show (((ns.length - 1 : Nat) : Int)) = (ns.length : Int) - 1 by omega]
      rfl
    · rintro m σ G ⟨rfl, k, em, hk, hj, rfl⟩
      refine ⟨_, rfl, p, _, dx, _, _, rfl, h1, T.cl, T.nSL, szF_get l, _, rfl, l, _, _, _, rfl, rfl, SqL.of h2, at_sz hk, _, rfl, _, _, rfl, rfl, _, rfl, ?_⟩
      by_cases hc2 : sz ns k > n
      · refine ifT (decide_eq_true hc2) ?_
        have k0 : k ≠ 0 := fun z => by
          have := (chain g).one
          rw [z] at hc2
          omega
        refine ⟨fun σ' H' => H' = G ∧ σ' = [some (.ref p), some (.int n), some (.int ((k : Int) - 1))], ?_, ⟨_, rfl, _, _, rfl, rfl, rfl, rfl⟩⟩
        rintro σ' H' ⟨rfl, rfl⟩
        refine ⟨k - 1, by omega, rfl, k - 1, rfl, by omega, fun j a b => ?_, by rw [show ((k - 1 : Nat) : Int) = (k : Int) - 1 by omega]⟩
        by_cases z : j = k
        · rw [z]
          exact hc2
        · exact hj j (by omega) b
      · exact ifF (decide_eq_false hc2) ⟨_, rfl, q1 n k rfl e ⟨hk, by omega, hj⟩⟩
/-- how many blocks of each level -/
def cnts (ns : List Int) (n : Int) : List Int := (List.range ns.length).map (M13.cnt (sz ns) ns.length n)
theorem cnts_len (ns : List Int) (n : Int) : (cnts ns n).length = ns.length := by
  unfold cnts
  rw [List.length_map, List.length_range]
theorem cnts_at {ns : List Int} {n : Int} {k : Nat} (h : k < ns.length) : (cnts ns n)[k]? = some (M13.cnt (sz ns) ns.length n k) := by
  unfold cnts
  rw [List.getElem?_map, List.getElem?_range h]
  rfl
/-- the highest i levels, falling -/
def falls (ns : List Int) (n : Int) (i : Nat) : List Int := (List.range i).map fun j => M13.cnt (sz ns) ns.length n (ns.length - 1 - j)
theorem falls_more (ns : List Int) (n : Int) (i : Nat) : falls ns n i ++ [M13.cnt (sz ns) ns.length n (ns.length - 1 - i)] = falls ns n (i + 1) := by
  unfold falls
  rw [List.range_succ, List.map_append]
  rfl
theorem falls_len (ns : List Int) (n : Int) (i : Nat) : (falls ns n i).length = i := by
  unfold falls
  rw [List.length_map, List.length_range]
theorem falls_all (ns : List Int) (n : Int) : (falls ns n ns.length).reverse = cnts ns n := by
  apply List.ext_getElem?
  intro k
  by_cases h : k < ns.length
  · rw [List.getElem?_reverse (by rw [falls_len]; exact h), falls_len, cnts_at h]
    unfold falls
    rw [List.getElem?_map, List.getElem?_range (by omega)]
    show some (M13.cnt _ _ _ (ns.length - 1 - (ns.length - 1 - k))) = _
    rw [show ns.length - 1 - (ns.length - 1 - k) = k by omega]
  · rw [List.getElem?_eq_none (by rw [List.length_reverse, falls_len]; omega), List.getElem?_eq_none (by rw [cnts_len]; omega)]
def spCounts (K : PySem.W.Frag) : Sp := fun vs H Q E => ∃ (p : Addr) (ns : List Int) (c : V), vs = [.ref p, c] ∧ SzI K H p ns ∧ Good ns ∧ Any H c ∧
  (∀ n a H', c = .int n → cellsB c = true → H a = none → Same H H' → H' a = some (.lst ((cnts ns n).map V.int)) → Q (.ref a) H') ∧ (cellsB c = false → Raised K "InvalidNumber" "value" c H E)
theorem sc_counts : FnScope ["self", "cells", "rest", "falling", "size"] ["self", "cells"] (defScope (inClass (top 21) 17)) := ⟨rfl, rfl, rfl, by decide +kernel, rfl, by decide +kernel, by decide +kernel⟩
theorem ok_counts (T : Tx K mg) (D_check_cells : DfX P w K mg base 4 "check_cells" ["value"] (spCheckC K)) (F : FnP K "counts" "Sizes.counts" (inClass (top 21) 17) f fd) :
    FnOk P w K mg base (L2.CX P w) 5 f fd ["self", "cells"] (spCounts K) := by
  refine F.ok sc_counts (fun vs H Q E h => ?_) (fun cdv A outer s H vs Q E hr h => ⟨_, (pss_cons (ps_expr (pcallX D_check_cells hr (passX (takes_of (E := E) rfl rfl rfl rfl)) (pa_cons (pv 1) pa_nil))) (pss_cons (ps_set (i := 2) sc_counts.nd rfl (by first | exact Or.inl rfl | exact Or.inr rfl) (pv 1)) (pss_cons (ps_set (i := 3) sc_counts.nd rfl (by first | exact Or.inl rfl | exact Or.inr rfl) (pe_lst pa_nil)) (pss_cons (ps_for (passes_of rfl) rfl (pi_reversed rfl T.n_reversed (pa_cons (pe_fld (pv 0) rfl) pa_nil)) (pg_name (i := 4) sc_counts.nd rfl (by first | exact Or.inl rfl | exact Or.inr rfl)) (pss_cons (ps_expr (pe_bm PySem.F.plainAttrs_list PySem.F.slot_list_append PySem.F.type_list_append mt_append (pv 3) (pa_cons (pe_op op_fdivW (pv 2) (pv 4)) pa_nil))) (pss_one (ps_set (i := 2) sc_counts.nd rfl (by first | exact Or.inl rfl | exact Or.inr rfl) (pe_op op_mod (pv 2) (pv 4)))))) (pss_one (ps_ret (pe_revL (pv 3)))))))), ?_⟩)
  · obtain ⟨p, ns, c, rfl, _⟩ := h
    rfl
  · obtain ⟨p, ns, c, rfl, hz, g, hc, q1, q2⟩ := h
    obtain ⟨dx, l, h1, h2⟩ := id hz
    refine ⟨_, rfl, c, rfl, hc, fun e => ?_, q2⟩
    obtain ⟨n, rfl, n1, n2⟩ := cells_int e
    have ch := chain g
    have l8 := g.len
    refine ⟨_, rfl, (by show 0 ≤ sizeLine; decide), fun a ha => ?_⟩
    have sm : Same H (upd H a (.lst [])) := same_upd ha
    refine ⟨_, rfl, p, _, dx, _, _, rfl, sm _ _ h1, T.cl, T.nSL, szF_get l, l, _, rfl, SqL.of (sm _ _ h2), ?_⟩
    refine for_it (walk_rev (xs := ns.map V.int)) (fun i σ G => ∃ (x : Option V), σ = [some (.ref p), some (.int n), some (.int (if i = 0 then n else n % sz ns (ns.length - i))), some (.ref a), x] ∧ G = upd H a (.lst ((falls ns n i).map V.int))) ⟨none, rfl, rfl⟩ (fun i σ G _ ⟨_, _, eG⟩ => by subst eG; exact SqL.of (same_upd ha _ _ h2)) ?_ ?_
    · rintro i x σ G G2 hi ⟨x0, rfl, rfl⟩ ⟨rfl, hx⟩
      rw [List.length_map] at hi hx
      have km : ns.length - 1 - i < ns.length := by omega
      rw [List.getElem?_map, sz_at km] at hx
      obtain rfl := (Option.some.inj hx).symm
      have ps := ch.pos _ km
      have er : (if i = 0 then n else n % sz ns (ns.length - i)) = M13.rest (sz ns) ns.length n (ns.length - 1 - i) := by
        unfold M13.rest
        by_cases h0 : i = 0
        · rw [if_pos h0, if_neg (by omega)]
        · rw [if_neg h0, if_pos (by omega), show ns.length - 1 - i + 1 = ns.length - i by omega]
      refine ⟨_, rfl, .inl ⟨rfl, _, SqL.of upd_same⟩, _, rfl, _, rfl, _, _, rfl, rfl, div_ok ps (sz_le g km), a, _, _, rfl, rfl, upd_same, small1000 (by rw [List.length_map, falls_len]; omega), ?_⟩
      refine ⟨_, rfl, _, rfl, _, _, rfl, rfl, (by show (0 : Int) < sz ns _; omega), some (.int (sz ns (ns.length - 1 - i))), ?_, ?_⟩
      · rw [er, if_neg (show ¬ i + 1 = 0 by omega), show ns.length - (i + 1) = ns.length - 1 - i by omega, ← M13.rest_next ch n km]
        rfl
      · rw [er, upd_upd, ← falls_more, List.map_append]
        rfl
    · rintro σ G ⟨x0, rfl, rfl⟩
      rw [List.length_map]
      refine ⟨_, rfl, a, _, rfl, SqL.of upd_same, fun b hb => ?_⟩
      rw [← List.map_reverse, falls_all]
      refine q1 n b _ rfl e ?_ ((same_upd ha).trans (same_upd hb)) upd_same
      exact (same_upd ha).free hb
end
end K18

set_option Elab.async false
set_option linter.all false
set_option maxRecDepth 100000
set_option maxHeartbeats 4000000
set_option pp.maxSteps 900
namespace K18
open PySem PySem.Spec PyProof.Rows L2 Gu Ex
/-- the levels of the pieces, falling: those of the highest i levels -/
def lvls (ns : List Int) (n : Int) : Nat → List Int
  | 0 => []
  | i + 1 => lvls ns n i ++ List.replicate (M13.cnt (sz ns) ns.length n (ns.length - 1 - i)).toNat ((ns.length - 1 - i : Nat) : Int)
def pcs (ns : List Int) (n : Int) : List Int := lvls ns n ns.length
theorem falls_sum (ns : List Int) (n : Int) (i : Nat) : (falls ns n (i + 1)).sum = (falls ns n i).sum + M13.cnt (sz ns) ns.length n (ns.length - 1 - i) := by
  rw [← falls_more, List.sum_append]
  show _ + (_ + 0) = _
  omega
theorem falls_nn {ns : List Int} (g : Good ns) {n : Int} (hn : 0 ≤ n) : ∀ i, i ≤ ns.length → 0 ≤ (falls ns n i).sum ∧ ((lvls ns n i).length : Int) = (falls ns n i).sum
  | 0, _ => ⟨Int.le_refl _, rfl⟩
  | i + 1, h => by
    obtain ⟨h1, h2⟩ := falls_nn g hn i (by omega)
    have c0 := M13.cnt_nn (chain g) hn (k := ns.length - 1 - i) (by omega)
    rw [falls_sum]
    refine ⟨by omega, ?_⟩
    show (((lvls ns n i ++ List.replicate _ _).length : Nat) : Int) = _
    rw [List.length_append, List.length_replicate]
    omega
theorem falls_up {ns : List Int} (g : Good ns) {n : Int} (hn : 0 ≤ n) {i : Nat} : ∀ d, i + d ≤ ns.length → (falls ns n i).sum ≤ (falls ns n (i + d)).sum
  | 0, _ => Int.le_refl _
  | d + 1, h => by
    have ih := falls_up g hn (i := i) d (by omega)
    have c0 := M13.cnt_nn (chain g) hn (k := ns.length - 1 - (i + d)) (by omega)
    rw [show i + (d + 1) = (i + d) + 1 by omega, falls_sum]
    omega
theorem sum_rev : ∀ l : List Int, l.reverse.sum = l.sum
  | [] => rfl
  | x :: l => by
    rw [List.reverse_cons, List.sum_append, sum_rev l]
    show _ + (x + 0) = x + l.sum
    omega
theorem falls_le {ns : List Int} (g : Good ns) {n : Int} (hn : 0 ≤ n) {i : Nat} (hi : i ≤ ns.length) : (falls ns n i).sum ≤ (cnts ns n).sum := by
  have h := falls_up g hn (i := i) (ns.length - i) (by omega)
  rw [show i + (ns.length - i) = ns.length by omega] at h
  rw [← falls_all, sum_rev]
  exact h
theorem cnt_le {ns : List Int} (g : Good ns) {n : Int} (hn : 0 ≤ n) {i : Nat} (hi : i < ns.length) (h : (cnts ns n).sum ≤ 64) : 0 ≤ M13.cnt (sz ns) ns.length n (ns.length - 1 - i) ∧ M13.cnt (sz ns) ns.length n (ns.length - 1 - i) ≤ 64 ∧ (lvls ns n i).length + (M13.cnt (sz ns) ns.length n (ns.length - 1 - i)).toNat ≤ 64 := by
  have h1 := falls_le g hn (i := i + 1) (by omega)
  obtain ⟨h2, h3⟩ := falls_nn g hn i (by omega)
  have c0 := M13.cnt_nn (chain g) hn (k := ns.length - 1 - i) (by omega)
  rw [falls_sum] at h1
  omega
theorem flat_one (k : Nat) (v : V) : (List.replicate k [v]).flatten = List.replicate k v := by
  induction k with
  | zero => rfl
  | succ k ih =>
    rw [List.replicate_succ, List.flatten_cons, ih, List.replicate_succ]
    rfl
section
variable {P : Program} {w : World} {K : PySem.W.Frag} {mg : Str → Option Value} {base : Heap} {f : Addr} {fd : FuncData}
def spPieces (K : PySem.W.Frag) : Sp := fun vs H Q E => ∃ (p : Addr) (ns : List Int) (c : V), vs = [.ref p, c] ∧ SzI K H p ns ∧ Good ns ∧ Any H c ∧
  (∀ n a H', c = .int n → cellsB c = true → (cnts ns n).sum ≤ 64 → H a = none → Same H H' → H' a = some (.lst ((pcs ns n).map V.int)) → Q (.ref a) H') ∧ (cellsB c = false → Raised K "InvalidNumber" "value" c H E) ∧
  (∀ n, c = .int n → cellsB c = true → (cnts ns n).sum > 64 → Raised K "TooManyPieces" "limit" (.int 64) H E)
theorem sc_pieces : FnScope ["self", "cells", "counts", "levels", "level"] ["self", "cells"] (defScope (inClass (top 21) 18)) := ⟨rfl, rfl, rfl, by decide +kernel, rfl, by decide +kernel, by decide +kernel⟩
theorem ok_pieces (T : Tx K mg) (M_counts : MfX P w K mg base 5 "Sizes" "counts" ["self", "cells"] (spCounts K)) (P_top : Pf P w K mg base 1 "Sizes" "top" (spTop K)) (M : Ex.Ei P w K mg base "TooManyPieces" "limit") (F : FnP K "pieces" "Sizes.pieces" (inClass (top 21) 18) f fd) :
    FnOk P w K mg base (L2.CX P w) 6 f fd ["self", "cells"] (spPieces K) := by
  obtain ⟨fdI, FI, bI⟩ := M.ex
  refine F.ok sc_pieces (fun vs H Q E h => ?_) (fun cdv A outer s H vs Q E hr h => ⟨_, (pss_cons (ps_set (i := 2) sc_pieces.nd rfl (by first | exact Or.inl rfl | exact Or.inr rfl) (pmethX M_counts hr (passX (takes_of (E := E) rfl rfl rfl rfl)) (pv 0) (pa_cons (pv 1) pa_nil))) (pss_cons (ps_if (pt_cmpR op_gt (pe_callB (cr_sum rfl) (by rfl) T.n_sum (by decide +kernel) (pa_cons (pv 2) pa_nil)) (pe_con (pv 0) rfl) (nomark _)) (pss_one (ps_raise rfl (takes_of (E := E) rfl rfl rfl rfl) (pmk_oexG T.eT.ox T.eT.ii T.eT.ti FI (hr.mono (by decide)) bI .nil pass0 rfl T.g_TooManyPieces (pa_cons (pe_con (pv 0) rfl) pa_nil)))) pss_nil) (pss_cons (ps_set (i := 3) sc_pieces.nd rfl (by first | exact Or.inl rfl | exact Or.inr rfl) (pe_lst pa_nil)) (pss_cons (ps_for (passes_of rfl) rfl (pi_range3 rfl T.n_range (pa_cons (pprop P_top hr (pv 0)) (pa_cons (pe_un un_neg pe_int) (pa_cons (pe_un un_neg pe_int) pa_nil)))) (pg_name (i := 4) sc_pieces.nd rfl (by first | exact Or.inl rfl | exact Or.inr rfl)) (pss_one (ps_aug (i := 3) sc_pieces.nd rfl (by first | exact Or.inl rfl | exact Or.inr rfl) (pe_op op_rep (pe_lst (pa_cons (pv 4) pa_nil)) (pe_ix ix_list (pv 2) (pv 4) (fun _ _ => rfl))) iop_ext))) (pss_one (ps_ret (pv 3))))))), ?_⟩)
  · obtain ⟨p, ns, c, rfl, _⟩ := h
    rfl
  · obtain ⟨p, ns, c, rfl, hz, g, hc, q1, q2, q3⟩ := h
    obtain ⟨dx, l, h1, h2⟩ := id hz
    obtain ⟨u, kP⟩ := T.kP
    refine ⟨_, rfl, p, dx, _, rfl, h1, szF_no l (by decide +kernel), _, rfl, p, ns, c, rfl, hz, g, hc, fun n a H1 ec e ha sm hA => ?_, q2⟩
    subst ec
    obtain ⟨n', e', n1, n2⟩ := cells_int e
    cases e'
    have l8 := g.len
    refine ⟨_, rfl, a, _, rfl, SqL.of hA, _, rfl, p, _, dx, _, _, u, rfl, sm _ _ h1, T.cl, kP, szF_no l (by decide +kernel), _, _, rfl, rfl, _, rfl, ?_⟩
    by_cases hs : (cnts ns n).sum > 64
    · exact ifT (decide_eq_true hs) ⟨_, rfl, p, _, dx, _, _, u, rfl, sm _ _ h1, T.cl, kP, szF_no l (by decide +kernel), (by show 1 ≤ 1000; decide), raise_ok ((q3 n rfl e hs).same sm)⟩
    · refine ifF (decide_eq_false hs) ⟨(by show 0 ≤ sizeLine; decide), fun b hb => ?_⟩
      have sb : Same H1 (upd H1 b (.lst [])) := same_upd hb
      have nab : a ≠ b := ne_of_none hA hb
      refine ⟨_, rfl, p, dx, _, rfl, sb _ _ (sm _ _ h1), p, ns, rfl, (hz.same sm).same sb, _, rfl, _, rfl, _, _, _, _, rfl, RgC.neg (by omega) (by omega) (by decide) (by decide), ?_⟩
      have en : ((ns.length : Int) - 1 - -1).toNat = ns.length := by omega
      rw [show (((ns.length : Int) - 1 - -(1 : Int)).toNat) = ns.length by omega]
      refine for_rangeC (fun i σ G => Same H1 G ∧ ∃ x : Option V, σ = [some (.ref p), some (.int n), some (.ref a), some (.ref b), x] ∧ G b = some (.lst ((lvls ns n i).map V.int))) ⟨sb, none, rfl, upd_same⟩ ?_ ?_
      · rintro i σ G hi ⟨sg, x, rfl, hB⟩
        have ek : (ns.length : Int) - 1 + (i : Nat) * (-1) = ((ns.length - 1 - i : Nat) : Int) := by omega
        rw [ek]
        obtain ⟨c0, c1, c2⟩ := cnt_le g (show 0 ≤ n by omega) hi (by omega)
        refine ⟨_, rfl, _, rfl, (by show 1 ≤ sizeLine; decide), fun t ht => ?_⟩
        have st : Same G (upd G t (.lst [.int ((ns.length - 1 - i : Nat) : Int)])) := same_upd ht
        refine ⟨_, rfl, _, rfl, a, _, _, _, rfl, rfl, SqL.of (st _ _ (sg _ _ hA)), at_map (cnts_at (show ns.length - 1 - i < ns.length by omega)), t, _, _, rfl, rfl, upd_same, by omega, by omega, ?_, fun r hr => ?_⟩
        · have e1 : sizeLine = 16777216 := sizeLine_eq
          show 1 * _ ≤ sizeLine
          omega
        · have hB2 := (same_upd (o := .lst (List.replicate (M13.cnt (sz ns) ns.length n (ns.length - 1 - i)).toNat [V.int ((ns.length - 1 - i : Nat) : Int)]).flatten) hr) _ _ (st _ _ hB)
          refine ⟨b, r, _, _, rfl, rfl, hB2, upd_same, ?_, fun c o e => ?_, _, rfl, ?_⟩
          · have e1 : sizeLine = 16777216 := sizeLine_eq
            rw [flat_one, List.length_map, List.length_replicate]
            omega
          · rw [upd_ne (ne_of_none e hb)]
            exact (same_upd hr) _ _ (st _ _ (sg _ _ e))
          · rw [upd_same, flat_one]
            show _ = some (HO.lst ((lvls ns n i ++ List.replicate _ _).map V.int))
            rw [List.map_append, List.map_replicate]
      · rintro σ G ⟨sg, x, rfl, hB⟩
        exact ⟨_, rfl, q1 n b G rfl e (by omega) (sm.free hb) (sm.trans sg) hB⟩
end
end K18

set_option Elab.async false
set_option linter.all false
set_option maxRecDepth 100000
set_option maxHeartbeats 4000000
set_option pp.maxSteps 900
namespace K18
open PySem PySem.Spec PyProof.Rows L2 Gu Ex
/-- a promise of nothing: of a def that is never reached -/
def spNo : Sp := fun _ _ _ _ => False
theorem fn_no {P : Program} {w : World} {K : PySem.W.Frag} {mg : Str → Option Value} {base : Heap} {k : Nat} {f : Addr} {fd : FuncData} {ps : List Str} : FnOk P w K mg base CX0 k f fd ps spNo :=
  ⟨fun _ _ _ _ h => h.elim, fun _ _ _ _ _ _ _ _ _ _ _ _ _ h => h.elim⟩
def addrB : V → Bool
  | .int i => decide (0 ≤ i)
  | _ => false
/-- an end that suits the low address l -/
def hiB (l : Int) : V → Bool
  | .int h => decide (l ≤ h)
  | _ => false
theorem addr_int {v : V} (h : addrB v = true) : ∃ i, v = .int i ∧ 0 ≤ i := by
  cases v with
  | int i => exact ⟨i, rfl, of_decide_eq_true h⟩
  | _ => cases h
/-- which of the two is refused -/
def RangeBad (K : PySem.W.Frag) (a b : V) (H : Hp) (E : XK) : Prop := (addrB a = false ∧ Raised K "InvalidAddress" "value" a H E) ∨ (∃ l, a = .int l ∧ 0 ≤ l ∧ hiB l b = false ∧ Raised K "InvalidAddress" "value" b H E)
theorem RangeBad.same {K : PySem.W.Frag} {a b : V} {H H' : Hp} {E : XK} (h : RangeBad K a b H E) (s : Same H H') : RangeBad K a b H' E := by
  rcases h with ⟨e, r⟩ | ⟨l, e1, e2, e3, r⟩
  · exact .inl ⟨e, r.same s⟩
  · exact .inr ⟨l, e1, e2, e3, r.same s⟩
section
variable {P : Program} {w : World} {K : PySem.W.Frag} {mg : Str → Option Value} {base : Heap} {f : Addr} {fd : FuncData}
def spAddr : Sp := fun vs H Q _ => ∃ v : V, vs = [v] ∧ Any H v ∧ Q (.bl (addrB v)) H
theorem sc_is_address : FnScope ["value"] ["value"] (defScope (top 23)) := ⟨rfl, rfl, rfl, by decide +kernel, rfl, by decide +kernel, by decide +kernel⟩
theorem ok_is_address (T : Tx K mg) (D_is_integer : Df P w K mg base 1 "is_integer" ["value"] spInt) (F : FnP K "is_address" "is_address" (top 23) f fd) : FnOk P w K mg base CX0 2 f fd ["value"] spAddr := by
  refine F.ok sc_is_address (fun vs H Q E h => ?_) (fun cdv A outer s H vs Q E hr h => ⟨_, PSs.nox (pss_one (ps_ret (pe_and (pcall D_is_integer hr (pa_cons (pv 0) pa_nil)) (pe_one (pe_cmpR op_ge (pv 0) pe_int (nomark _)))))), ?_⟩)
  · obtain ⟨v, rfl, _⟩ := h
    rfl
  · obtain ⟨v, rfl, hv, q⟩ := h
    refine ⟨_, rfl, v, rfl, hv, _, rfl, ?_⟩
    cases v with
    | int i => exact iteT ⟨_, rfl, _, _, rfl, rfl, q⟩
    | _ => exact iteF q
theorem sc_InvalidAddress_init : FnScope ["self", "value"] ["self", "value"] (defScope (inClass (top 5) 0)) := ⟨rfl, rfl, rfl, by decide +kernel, rfl, by decide +kernel, by decide +kernel⟩
theorem ok_errA (T : Tx K mg) (F : FnP K "__init__" "InvalidAddress.__init__" (inClass (top 5) 0) f fd) : FnOk P w K mg base CX0 1 f fd ["self", "value"] (Ex.spErr (cA K) "value") := by
  refine F.ok sc_InvalidAddress_init (fun vs H Q E h => ?_) (fun cdv A outer s H vs Q E hr h => ⟨_, PSs.nox (pss_one (ps_fst (B := "ValueError") (tl := tailE "ValueError") (pv 0) (pv 1))), ?_⟩)
  · obtain ⟨a, v, rfl, _⟩ := h
    rfl
  · obtain ⟨a, v, rfl, ha, q⟩ := h
    exact ⟨_, rfl, _, rfl, a, cA K, rfl, T.eA.ox, T.eA.no, ha, q⟩
def spRange (K : PySem.W.Frag) : Sp := fun vs H Q E => ∃ a b : V, vs = [a, b] ∧ Any H a ∧ Any H b ∧ RangeBad K a b H E
theorem sc_check_range : FnScope ["low", "high"] ["low", "high"] (defScope (top 24)) := ⟨rfl, rfl, rfl, by decide +kernel, rfl, by decide +kernel, by decide +kernel⟩
theorem ok_check_range (T : Tx K mg) (D_is_integer : Df P w K mg base 1 "is_integer" ["value"] spInt) (D_is_address : Df P w K mg base 2 "is_address" ["value"] spAddr) (M : Ex.Ei P w K mg base "InvalidAddress" "value") (F : FnP K "check_range" "check_range" (top 24) f fd) :
    FnOk P w K mg base (L2.CX P w) 4 f fd ["low", "high"] (spRange K) := by
  obtain ⟨fdI, FI, bI⟩ := M.ex
  refine F.ok sc_check_range (fun vs H Q E h => ?_) (fun cdv A outer s H vs Q E hr h => ⟨_, (pss_cons (ps_if (pt_not (pt_val (pcall D_is_address hr (pa_cons (pv 0) pa_nil)))) (pss_one (ps_raise rfl (takes_of (E := E) rfl rfl rfl rfl) (pmk_oexG T.eA.ox T.eA.ii T.eA.ti FI (hr.mono (by decide)) bI .nil pass0 rfl T.g_InvalidAddress (pa_cons (pv 0) pa_nil)))) pss_nil) (pss_one (ps_if (PW.pt (pw_or (pt_not (pt_val (pcall D_is_integer hr (pa_cons (pv 1) pa_nil)))) (pw_or1 (pt_cmpR op_lt (pv 1) (pv 0) (nomark _))))) (pss_one (ps_raise rfl (takes_of (E := E) rfl rfl rfl rfl) (pmk_oexG T.eA.ox T.eA.ii T.eA.ti FI (hr.mono (by decide)) bI .nil pass0 rfl T.g_InvalidAddress (pa_cons (pv 1) pa_nil)))) pss_nil))), ?_⟩)
  · obtain ⟨a, b, rfl, _⟩ := h
    rfl
  · obtain ⟨a, b, rfl, ha, hb, bad⟩ := h
    refine ⟨_, rfl, a, rfl, ha, _, rfl, ?_⟩
    rcases bad with ⟨e, r⟩ | ⟨l, rfl, l0, e, r⟩
    · rw [e]
      exact iteT ⟨_, rfl, (by show 1 ≤ 1000; decide), raise_ok r⟩
    · rw [show addrB (.int l) = true from decide_eq_true l0]
      refine iteF ⟨_, rfl, b, rfl, hb, _, rfl, ?_⟩
      cases b with
      | int h =>
        have e2 : ¬ l ≤ h := fun z => by
          rw [show hiB l (.int h) = true from decide_eq_true z] at e
          cases e
        refine iteF ⟨_, rfl, _, rfl, _, _, rfl, rfl, _, rfl, ?_⟩
        exact ifT (decide_eq_true (show h < l by omega)) ⟨_, rfl, (by show 1 ≤ 1000; decide), raise_ok r⟩
      | _ => exact iteT ⟨_, rfl, (by show 1 ≤ 1000; decide), raise_ok r⟩
def spStart (K : PySem.W.Frag) : Sp := fun vs H Q E => ∃ (p : Addr) (ns : List Int) (v a : V), vs = [.ref p, v, a] ∧ SzI K H p ns ∧ Any H v ∧ Any H a ∧ ((lvB ns.length v = false ∧ Raised K "InvalidLevel" "value" v H E) ∨ (∃ i : Nat, v = .int (i : Int) ∧ i < ns.length ∧ addrB a = false ∧ Raised K "InvalidAddress" "value" a H E))
theorem sc_region_start : FnScope ["sizes", "level", "address", "size"] ["sizes", "level", "address"] (defScope (top 28)) := ⟨rfl, rfl, rfl, by decide +kernel, rfl, by decide +kernel, by decide +kernel⟩
theorem ok_region_start (T : Tx K mg) (M_size : MfX P w K mg base 5 "Sizes" "size" ["self", "level"] (spSize K)) (D_is_address : Df P w K mg base 2 "is_address" ["value"] spAddr) (M : Ex.Ei P w K mg base "InvalidAddress" "value") (F : FnP K "region_start" "region_start" (top 28) f fd) :
    FnOk P w K mg base (L2.CX P w) 6 f fd ["sizes", "level", "address"] (spStart K) := by
  obtain ⟨fdI, FI, bI⟩ := M.ex
  refine F.ok sc_region_start (fun vs H Q E h => ?_) (fun cdv A outer s H vs Q E hr h => ⟨_, (pss_cons (ps_set (i := 3) sc_region_start.nd rfl (by first | exact Or.inl rfl | exact Or.inr rfl) (pmethX M_size hr (passX (takes_of (E := E) rfl rfl rfl rfl)) (pv 0) (pa_cons (pv 1) pa_nil))) (pss_cons (ps_if (pt_not (pt_val (pcall D_is_address hr (pa_cons (pv 2) pa_nil)))) (pss_one (ps_raise rfl (takes_of (E := E) rfl rfl rfl rfl) (pmk_oexG T.eA.ox T.eA.ii T.eA.ti FI (hr.mono (by decide)) bI .nil pass0 rfl T.g_InvalidAddress (pa_cons (pv 2) pa_nil)))) pss_nil) (pss_one (ps_ret (pe_op op_sub (pv 2) (pe_op op_mod (pv 2) (pv 3))))))), ?_⟩)
  · obtain ⟨p, ns, v, a, rfl, _⟩ := h
    rfl
  · obtain ⟨p, ns, v, a, rfl, hz, hv, ha, bad⟩ := h
    obtain ⟨dx, l, h1, h2⟩ := id hz
    rcases bad with ⟨e, r⟩ | ⟨i, rfl, hi, e, r⟩
    · refine ⟨_, rfl, p, dx, _, rfl, h1, szF_no l (by decide +kernel), _, rfl, p, ns, v, rfl, hz, hv, fun i ev hi => ?_, fun _ => r⟩
      rw [ev, lv_of hi] at e
      cases e
    · refine ⟨_, rfl, p, dx, _, rfl, h1, szF_no l (by decide +kernel), _, rfl, p, ns, _, rfl, hz, hv, fun j ev hj => ?_, fun z => (by rw [lv_of hi] at z; cases z)⟩
      refine ⟨_, rfl, a, rfl, ha, _, rfl, ?_⟩
      rw [e]
      exact iteT ⟨_, rfl, (by show 1 ≤ 1000; decide), raise_ok r⟩
def spCount (K : PySem.W.Frag) : Sp := fun vs H Q E => ∃ (p : Addr) (ns : List Int) (v a b : V), vs = [.ref p, v, a, b] ∧ SzI K H p ns ∧ Any H v ∧ Any H a ∧ Any H b ∧ ((lvB ns.length v = false ∧ Raised K "InvalidLevel" "value" v H E) ∨ (∃ i : Nat, v = .int (i : Int) ∧ i < ns.length ∧ RangeBad K a b H E))
theorem sc_count_regions : FnScope ["sizes", "level", "low", "high", "size"] ["sizes", "level", "low", "high"] (defScope (top 29)) := ⟨rfl, rfl, rfl, by decide +kernel, rfl, by decide +kernel, by decide +kernel⟩
theorem ok_count (T : Tx K mg) (M_size : MfX P w K mg base 5 "Sizes" "size" ["self", "level"] (spSize K)) (D_check_range : DfX P w K mg base 4 "check_range" ["low", "high"] (spRange K)) (D_region_start : DfX P w K mg base 6 "region_start" ["sizes", "level", "address"] (spStart K)) (D_next_start : Df P w K mg base 1 "next_start" ["size", "address"] spNo)
    (F : FnP K "count_regions" "count_regions" (top 29) f fd) : FnOk P w K mg base (L2.CX P w) 7 f fd ["sizes", "level", "low", "high"] (spCount K) := by
  refine F.ok sc_count_regions (fun vs H Q E h => ?_) (fun cdv A outer s H vs Q E hr h => ⟨_, (pss_cons (ps_set (i := 4) sc_count_regions.nd rfl (by first | exact Or.inl rfl | exact Or.inr rfl) (pmethX M_size hr (passX (takes_of (E := E) rfl rfl rfl rfl)) (pv 0) (pa_cons (pv 1) pa_nil))) (pss_cons (ps_expr (pcallX D_check_range hr (passX (takes_of (E := E) rfl rfl rfl rfl)) (pa_cons (pv 2) (pa_cons (pv 3) pa_nil)))) (pss_one (ps_ret (pe_callB (call_max2 rfl) (by rfl) T.n_max (by decide +kernel) (pa_cons pe_int (pa_cons (pe_op op_fdivW (pe_op op_sub (pcallX D_region_start hr (passX (takes_of (E := E) rfl rfl rfl rfl)) (pa_cons (pv 0) (pa_cons (pv 1) (pa_cons (pv 3) pa_nil)))) (pcall D_next_start hr (pa_cons (pv 4) (pa_cons (pv 2) pa_nil)))) (pv 4)) pa_nil))))))), ?_⟩)
  · obtain ⟨p, ns, v, a, b, rfl, _⟩ := h
    rfl
  · obtain ⟨p, ns, v, a, b, rfl, hz, hv, ha, hb, bad⟩ := h
    obtain ⟨dx, l, h1, h2⟩ := id hz
    rcases bad with ⟨e, r⟩ | ⟨i, rfl, hi, r⟩
    · refine ⟨_, rfl, p, dx, _, rfl, h1, szF_no l (by decide +kernel), _, rfl, p, ns, v, rfl, hz, hv, fun i ev hi => ?_, fun _ => r⟩
      rw [ev, lv_of hi] at e
      cases e
    · refine ⟨_, rfl, p, dx, _, rfl, h1, szF_no l (by decide +kernel), _, rfl, p, ns, _, rfl, hz, hv, fun j ev hj => ?_, fun z => (by rw [lv_of hi] at z; cases z)⟩
      exact ⟨_, rfl, _, rfl, a, b, rfl, ha, hb, r⟩
def spIsR (K : PySem.W.Frag) : Sp := fun vs H Q E => ∃ (x c v a : V), vs = [x, c, v, a] ∧ Any H c ∧ cellsB c = false ∧ Raised K "InvalidNumber" "value" c H E
theorem sc_is_region : FnScope ["sizes", "length", "level", "address"] ["sizes", "length", "level", "address"] (defScope (top 27)) := ⟨rfl, rfl, rfl, by decide +kernel, rfl, by decide +kernel, by decide +kernel⟩
theorem ok_is_region (T : Tx K mg) (D_check_cells : DfX P w K mg base 4 "check_cells" ["value"] (spCheckC K)) (M_has_level : Mf P w K mg base 3 "Sizes" "has_level" ["self", "level"] (spHas K)) (D_is_address : Df P w K mg base 2 "is_address" ["value"] spAddr) (D_lies_below : Df P w K mg base 1 "lies_below" ["sizes", "level", "address", "end"] spNo)
    (F : FnP K "is_region" "is_region" (top 27) f fd) : FnOk P w K mg base (L2.CX P w) 5 f fd ["sizes", "length", "level", "address"] (spIsR K) := by
  refine F.ok sc_is_region (fun vs H Q E h => ?_) (fun cdv A outer s H vs Q E hr h => ⟨_, (pss_cons (ps_expr (pcallX D_check_cells hr (passX (takes_of (E := E) rfl rfl rfl rfl)) (pa_cons (pv 1) pa_nil))) (pss_one (ps_ret (pe_and (pmeth M_has_level hr (pv 0) (pa_cons (pv 2) pa_nil)) (pe_and (pcall D_is_address hr (pa_cons (pv 3) pa_nil)) (pe_one (pcall D_lies_below hr (pa_cons (pv 0) (pa_cons (pv 2) (pa_cons (pv 3) (pa_cons (pv 1) pa_nil))))))))))), ?_⟩)
  · obtain ⟨x, c, v, a, rfl, _⟩ := h
    rfl
  · obtain ⟨x, c, v, a, rfl, hc, e, r⟩ := h
    exact ⟨_, rfl, c, rfl, hc, fun z => (by rw [e] at z; cases z), fun _ => r⟩
def spRuns (K : PySem.W.Frag) : Sp := fun vs H Q E => ∃ (x a b : V), vs = [x, a, b] ∧ Any H a ∧ Any H b ∧ RangeBad K a b H E
theorem sc_maximal_runs : FnScope ["sizes", "low", "high", "runs", "address", "level", "end"] ["sizes", "low", "high"] (defScope (top 32)) := ⟨rfl, rfl, rfl, by decide +kernel, rfl, by decide +kernel, by decide +kernel⟩
theorem ok_runs (T : Tx K mg) (M_size : MfX P w K mg base 5 "Sizes" "size" ["self", "level"] (spSize K)) (D_check_range : DfX P w K mg base 4 "check_range" ["low", "high"] (spRange K)) (D_first_run : Df P w K mg base 1 "first_run" ["sizes", "low", "high"] spNo)
    (F : FnP K "maximal_runs" "maximal_runs" (top 32) f fd) : FnOk P w K mg base (L2.CX P w) 6 f fd ["sizes", "low", "high"] (spRuns K) := by
  refine F.ok sc_maximal_runs (fun vs H Q E h => ?_) (fun cdv A outer s H vs Q E hr h => ⟨_, (pss_cons (ps_expr (pcallX D_check_range hr (passX (takes_of (E := E) rfl rfl rfl rfl)) (pa_cons (pv 1) (pa_cons (pv 2) pa_nil)))) (pss_cons (ps_set (i := 3) sc_maximal_runs.nd rfl (by first | exact Or.inl rfl | exact Or.inr rfl) (pe_lst pa_nil)) (pss_cons (ps_set (i := 4) sc_maximal_runs.nd rfl (by first | exact Or.inl rfl | exact Or.inr rfl) (pv 1)) (pss_cons (ps_while (passes_of rfl) (pt_cmpR op_lt (pv 4) (pv 2) (nomark _)) (pss_cons (ps_asg (pcall D_first_run hr (pa_cons (pv 0) (pa_cons (pv 4) (pa_cons (pv 2) pa_nil)))) (pg_tup (by rfl) (pgs_cons (pg_name (i := 5) sc_maximal_runs.nd rfl (by first | exact Or.inl rfl | exact Or.inr rfl)) (pgs_cons (pg_name (i := 6) sc_maximal_runs.nd rfl (by first | exact Or.inl rfl | exact Or.inr rfl)) pgs_nil)))) (pss_cons (ps_expr (pe_bm PySem.F.plainAttrs_list PySem.F.slot_list_append PySem.F.type_list_append mt_append (pv 3) (pa_cons (pe_tup (pa_cons (pv 5) (pa_cons (pv 4) (pa_cons (pe_op op_fdivW (pe_op op_sub (pv 6) (pv 4)) (pmethX M_size hr (passX (takes_of (E := E) rfl rfl rfl rfl)) (pv 0) (pa_cons (pv 5) pa_nil))) pa_nil)))) pa_nil))) (pss_one (ps_set (i := 4) sc_maximal_runs.nd rfl (by first | exact Or.inl rfl | exact Or.inr rfl) (pv 6)))))) (pss_one (ps_ret (pv 3))))))), ?_⟩)
  · obtain ⟨x, a, b, rfl, _⟩ := h
    rfl
  · obtain ⟨x, a, b, rfl, ha, hb, r⟩ := h
    exact ⟨_, rfl, _, rfl, a, b, rfl, ha, hb, r⟩
end
end K18

set_option Elab.async false
set_option linter.all false
set_option maxRecDepth 100000
set_option maxHeartbeats 4000000
set_option pp.maxSteps 900
namespace K18
open PySem PySem.Spec PyProof.Rows L2 Gu Ex
/-- what _law_do asks for a word and its values: the promise of what it calls -/
def DoCase (K : PySem.W.Frag) (p : Addr) (w : Str) (xs : List V) (H : Hp) (Q : VK) (E : XK) : Prop :=
  (w = "size" ∧ ∃ v, xs = [v] ∧ spSize K [.ref p, v] H Q E) ∨ (w = "level_of" ∧ ∃ v, xs = [v] ∧ spLv K [.ref p, v] H Q E) ∨ (w = "whole" ∧ ∃ c v, xs = [c, v] ∧ spWhole K [.ref p, c, v] H Q E) ∨
  (w = "counts" ∧ ∃ v, xs = [v] ∧ spCounts K [.ref p, v] H Q E) ∨ (w = "pieces" ∧ ∃ v, xs = [v] ∧ spPieces K [.ref p, v] H Q E) ∨ (w = "doubling" ∧ ∃ v, xs = [v] ∧ spDbl K [.ref (cS K), v] H Q E) ∨
  (w = "from_text" ∧ ∃ v, xs = [v] ∧ spFrom K [.ref (cS K), v] H Q E) ∨ (w = "is_region" ∧ ∃ c v a, xs = [c, v, a] ∧ spIsR K [.ref p, c, v, a] H Q E) ∨ (w = "region_start" ∧ ∃ v a, xs = [v, a] ∧ spStart K [.ref p, v, a] H Q E) ∨
  (w = "count_regions" ∧ ∃ v a b, xs = [v, a, b] ∧ spCount K [.ref p, v, a, b] H Q E) ∨ (w = "maximal_runs" ∧ ∃ a b, xs = [a, b] ∧ spRuns K [.ref p, a, b] H Q E)
section
variable {P : Program} {w : World} {K : PySem.W.Frag} {mg : Str → Option Value} {base : Heap} {f : Addr} {fd : FuncData}
def spDo (K : PySem.W.Frag) : Sp := fun vs H Q E => ∃ (p : Addr) (ns : List Int) (w : Str) (t : Addr) (xs : List V), vs = [.ref p, .str w, .ref t] ∧ SzI K H p ns ∧ H t = some (.tup xs) ∧ DoCase K p w xs H Q E
theorem sc__law_do : FnScope ["_law_made", "_law_word_here", "_law_things"] ["_law_made", "_law_word_here", "_law_things"] (defScope (top 40)) := ⟨rfl, rfl, rfl, by decide +kernel, rfl, by decide +kernel, by decide +kernel⟩
theorem ok_do (T : Tx K mg) (M_size : MfX P w K mg base 5 "Sizes" "size" ["self", "level"] (spSize K)) (M_level_of : MfX P w K mg base 5 "Sizes" "level_of" ["self", "cells"] (spLv K)) (M_whole : MfX P w K mg base 6 "Sizes" "whole" ["self", "cells", "level"] (spWhole K))
    (M_counts : MfX P w K mg base 5 "Sizes" "counts" ["self", "cells"] (spCounts K)) (M_pieces : MfX P w K mg base 6 "Sizes" "pieces" ["self", "cells"] (spPieces K)) (C_dbl : Cm P w K mg base (L2.CX P w) 7 "Sizes" "doubling" ["cls", "count"] (spDbl K)) (C_from : Cm P w K mg base (L2.CX P w) 7 "Sizes" "from_text" ["cls", "text"] (spFrom K))
    (D_is_region : DfX P w K mg base 5 "is_region" ["sizes", "length", "level", "address"] (spIsR K)) (D_region_start : DfX P w K mg base 6 "region_start" ["sizes", "level", "address"] (spStart K)) (D_count_regions : DfX P w K mg base 7 "count_regions" ["sizes", "level", "low", "high"] (spCount K))
    (D_maximal_runs : DfX P w K mg base 6 "maximal_runs" ["sizes", "low", "high"] (spRuns K)) (F : FnP K "_law_do" "_law_do" (top 40) f fd) : FnOk P w K mg base (L2.CX P w) 8 f fd ["_law_made", "_law_word_here", "_law_things"] (spDo K) := by
  refine F.ok sc__law_do (fun vs H Q E h => ?_) (fun cdv A outer s H vs Q E hr h => ⟨_, (pss_cons (ps_if (pt_cmpR op_eq (pv 1) pe_str (nomark _)) (pss_one (ps_ret (pmethX M_size hr (passX (takes_of (E := E) rfl rfl rfl rfl)) (pv 0) (pa_cons (pe_ix (r := rIxT K) ix_tup (pv 2) pe_int (fun _ _ => rfl)) pa_nil)))) pss_nil) (pss_cons (ps_if (pt_cmpR op_eq (pv 1) pe_str (nomark _)) (pss_one (ps_ret (pmethX M_level_of hr (passX (takes_of (E := E) rfl rfl rfl rfl)) (pv 0) (pa_cons (pe_ix (r := rIxT K) ix_tup (pv 2) pe_int (fun _ _ => rfl)) pa_nil)))) pss_nil) (pss_cons (ps_if (pt_cmpR op_eq (pv 1) pe_str (nomark _)) (pss_one (ps_ret (pmethX M_whole hr (passX (takes_of (E := E) rfl rfl rfl rfl)) (pv 0) (pa_cons (pe_ix (r := rIxT K) ix_tup (pv 2) pe_int (fun _ _ => rfl)) (pa_cons (pe_ix (r := rIxT K) ix_tup (pv 2) pe_int (fun _ _ => rfl)) pa_nil))))) pss_nil) (pss_cons (ps_if (pt_cmpR op_eq (pv 1) pe_str (nomark _)) (pss_one (ps_ret (pmethX M_counts hr (passX (takes_of (E := E) rfl rfl rfl rfl)) (pv 0) (pa_cons (pe_ix (r := rIxT K) ix_tup (pv 2) pe_int (fun _ _ => rfl)) pa_nil)))) pss_nil) (pss_cons (ps_if (pt_cmpR op_eq (pv 1) pe_str (nomark _)) (pss_one (ps_ret (pmethX M_pieces hr (passX (takes_of (E := E) rfl rfl rfl rfl)) (pv 0) (pa_cons (pe_ix (r := rIxT K) ix_tup (pv 2) pe_int (fun _ _ => rfl)) pa_nil)))) pss_nil) (pss_cons (ps_if (pt_cmpR op_eq (pv 1) pe_str (nomark _)) (pss_one (ps_ret (pcm C_dbl hr (passX (takes_of (E := E) rfl rfl rfl rfl)) (pe_glob (v := .ref _) rfl T.g_Sizes rfl) (pa_cons (pe_ix (r := rIxT K) ix_tup (pv 2) pe_int (fun _ _ => rfl)) pa_nil)))) pss_nil) (pss_cons (ps_if (pt_cmpR op_eq (pv 1) pe_str (nomark _)) (pss_one (ps_ret (pcm C_from hr (passX (takes_of (E := E) rfl rfl rfl rfl)) (pe_glob (v := .ref _) rfl T.g_Sizes rfl) (pa_cons (pe_ix (r := rIxT K) ix_tup (pv 2) pe_int (fun _ _ => rfl)) pa_nil)))) pss_nil) (pss_cons (ps_if (pt_cmpR op_eq (pv 1) pe_str (nomark _)) (pss_one (ps_ret (pcallX D_is_region hr (passX (takes_of (E := E) rfl rfl rfl rfl)) (pa_cons (pv 0) (pa_cons (pe_ix (r := rIxT K) ix_tup (pv 2) pe_int (fun _ _ => rfl)) (pa_cons (pe_ix (r := rIxT K) ix_tup (pv 2) pe_int (fun _ _ => rfl)) (pa_cons (pe_ix (r := rIxT K) ix_tup (pv 2) pe_int (fun _ _ => rfl)) pa_nil))))))) pss_nil) (pss_cons (ps_if (pt_cmpR op_eq (pv 1) pe_str (nomark _)) (pss_one (ps_ret (pcallX D_region_start hr (passX (takes_of (E := E) rfl rfl rfl rfl)) (pa_cons (pv 0) (pa_cons (pe_ix (r := rIxT K) ix_tup (pv 2) pe_int (fun _ _ => rfl)) (pa_cons (pe_ix (r := rIxT K) ix_tup (pv 2) pe_int (fun _ _ => rfl)) pa_nil)))))) pss_nil) (pss_cons (ps_if (pt_cmpR op_eq (pv 1) pe_str (nomark _)) (pss_one (ps_ret (pcallX D_count_regions hr (passX (takes_of (E := E) rfl rfl rfl rfl)) (pa_cons (pv 0) (pa_cons (pe_ix (r := rIxT K) ix_tup (pv 2) pe_int (fun _ _ => rfl)) (pa_cons (pe_ix (r := rIxT K) ix_tup (pv 2) pe_int (fun _ _ => rfl)) (pa_cons (pe_ix (r := rIxT K) ix_tup (pv 2) pe_int (fun _ _ => rfl)) pa_nil))))))) pss_nil) (pss_one (ps_ret (pcallX D_maximal_runs hr (passX (takes_of (E := E) rfl rfl rfl rfl)) (pa_cons (pv 0) (pa_cons (pe_ix (r := rIxT K) ix_tup (pv 2) pe_int (fun _ _ => rfl)) (pa_cons (pe_ix (r := rIxT K) ix_tup (pv 2) pe_int (fun _ _ => rfl)) pa_nil)))))))))))))))), ?_⟩)
  · obtain ⟨p, ns, w, t, xs, rfl, _⟩ := h
    rfl
  · obtain ⟨p, ns, w, t, xs, rfl, hz, ht, c⟩ := h
    obtain ⟨dx, l, h1, h2⟩ := id hz
    have hT := SqT.of (K := K) ht
    rcases c with ⟨rfl, v, rfl, c⟩ | ⟨rfl, v, rfl, c⟩ | ⟨rfl, u, v, rfl, c⟩ | ⟨rfl, v, rfl, c⟩ | ⟨rfl, v, rfl, c⟩ | ⟨rfl, v, rfl, c⟩ | ⟨rfl, v, rfl, c⟩ | ⟨rfl, u, v, a, rfl, c⟩ | ⟨rfl, v, a, rfl, c⟩ | ⟨rfl, v, a, b, rfl, c⟩ | ⟨rfl, a, b, rfl, c⟩
    · refine ⟨_, rfl, rfl, _, rfl, ifT (by decide +kernel) ?_⟩
      exact ⟨_, rfl, p, dx, _, rfl, h1, szF_no l (by decide +kernel), _, rfl, t, _, _, _, rfl, rfl, hT, rfl, c⟩
    · refine ⟨_, rfl, rfl, _, rfl, ifF (by decide +kernel) ?_⟩
      refine ⟨_, rfl, rfl, _, rfl, ifT (by decide +kernel) ?_⟩
      exact ⟨_, rfl, p, dx, _, rfl, h1, szF_no l (by decide +kernel), _, rfl, t, _, _, _, rfl, rfl, hT, rfl, c⟩
    · refine ⟨_, rfl, rfl, _, rfl, ifF (by decide +kernel) ?_⟩
      refine ⟨_, rfl, rfl, _, rfl, ifF (by decide +kernel) ?_⟩
      refine ⟨_, rfl, rfl, _, rfl, ifT (by decide +kernel) ?_⟩
      exact ⟨_, rfl, p, dx, _, rfl, h1, szF_no l (by decide +kernel), _, rfl, t, _, _, _, rfl, rfl, hT, rfl, _, rfl, t, _, _, _, rfl, rfl, hT, rfl, c⟩
    · refine ⟨_, rfl, rfl, _, rfl, ifF (by decide +kernel) ?_⟩
      refine ⟨_, rfl, rfl, _, rfl, ifF (by decide +kernel) ?_⟩
      refine ⟨_, rfl, rfl, _, rfl, ifF (by decide +kernel) ?_⟩
      refine ⟨_, rfl, rfl, _, rfl, ifT (by decide +kernel) ?_⟩
      exact ⟨_, rfl, p, dx, _, rfl, h1, szF_no l (by decide +kernel), _, rfl, t, _, _, _, rfl, rfl, hT, rfl, c⟩
    · refine ⟨_, rfl, rfl, _, rfl, ifF (by decide +kernel) ?_⟩
      refine ⟨_, rfl, rfl, _, rfl, ifF (by decide +kernel) ?_⟩
      refine ⟨_, rfl, rfl, _, rfl, ifF (by decide +kernel) ?_⟩
      refine ⟨_, rfl, rfl, _, rfl, ifF (by decide +kernel) ?_⟩
      refine ⟨_, rfl, rfl, _, rfl, ifT (by decide +kernel) ?_⟩
      exact ⟨_, rfl, p, dx, _, rfl, h1, szF_no l (by decide +kernel), _, rfl, t, _, _, _, rfl, rfl, hT, rfl, c⟩
    · refine ⟨_, rfl, rfl, _, rfl, ifF (by decide +kernel) ?_⟩
      refine ⟨_, rfl, rfl, _, rfl, ifF (by decide +kernel) ?_⟩
      refine ⟨_, rfl, rfl, _, rfl, ifF (by decide +kernel) ?_⟩
      refine ⟨_, rfl, rfl, _, rfl, ifF (by decide +kernel) ?_⟩
      refine ⟨_, rfl, rfl, _, rfl, ifF (by decide +kernel) ?_⟩
      refine ⟨_, rfl, rfl, _, rfl, ifT (by decide +kernel) ?_⟩
      exact ⟨rfl, _, rfl, t, _, _, _, rfl, rfl, hT, rfl, c⟩
    · refine ⟨_, rfl, rfl, _, rfl, ifF (by decide +kernel) ?_⟩
      refine ⟨_, rfl, rfl, _, rfl, ifF (by decide +kernel) ?_⟩
      refine ⟨_, rfl, rfl, _, rfl, ifF (by decide +kernel) ?_⟩
      refine ⟨_, rfl, rfl, _, rfl, ifF (by decide +kernel) ?_⟩
      refine ⟨_, rfl, rfl, _, rfl, ifF (by decide +kernel) ?_⟩
      refine ⟨_, rfl, rfl, _, rfl, ifF (by decide +kernel) ?_⟩
      refine ⟨_, rfl, rfl, _, rfl, ifT (by decide +kernel) ?_⟩
      exact ⟨rfl, _, rfl, t, _, _, _, rfl, rfl, hT, rfl, c⟩
    · refine ⟨_, rfl, rfl, _, rfl, ifF (by decide +kernel) ?_⟩
      refine ⟨_, rfl, rfl, _, rfl, ifF (by decide +kernel) ?_⟩
      refine ⟨_, rfl, rfl, _, rfl, ifF (by decide +kernel) ?_⟩
      refine ⟨_, rfl, rfl, _, rfl, ifF (by decide +kernel) ?_⟩
      refine ⟨_, rfl, rfl, _, rfl, ifF (by decide +kernel) ?_⟩
      refine ⟨_, rfl, rfl, _, rfl, ifF (by decide +kernel) ?_⟩
      refine ⟨_, rfl, rfl, _, rfl, ifF (by decide +kernel) ?_⟩
      refine ⟨_, rfl, rfl, _, rfl, ifT (by decide +kernel) ?_⟩
      exact ⟨_, rfl, _, rfl, t, _, _, _, rfl, rfl, hT, rfl, _, rfl, t, _, _, _, rfl, rfl, hT, rfl, _, rfl, t, _, _, _, rfl, rfl, hT, rfl, c⟩
    · refine ⟨_, rfl, rfl, _, rfl, ifF (by decide +kernel) ?_⟩
      refine ⟨_, rfl, rfl, _, rfl, ifF (by decide +kernel) ?_⟩
      refine ⟨_, rfl, rfl, _, rfl, ifF (by decide +kernel) ?_⟩
      refine ⟨_, rfl, rfl, _, rfl, ifF (by decide +kernel) ?_⟩
      refine ⟨_, rfl, rfl, _, rfl, ifF (by decide +kernel) ?_⟩
      refine ⟨_, rfl, rfl, _, rfl, ifF (by decide +kernel) ?_⟩
      refine ⟨_, rfl, rfl, _, rfl, ifF (by decide +kernel) ?_⟩
      refine ⟨_, rfl, rfl, _, rfl, ifF (by decide +kernel) ?_⟩
      refine ⟨_, rfl, rfl, _, rfl, ifT (by decide +kernel) ?_⟩
      exact ⟨_, rfl, _, rfl, t, _, _, _, rfl, rfl, hT, rfl, _, rfl, t, _, _, _, rfl, rfl, hT, rfl, c⟩
    · refine ⟨_, rfl, rfl, _, rfl, ifF (by decide +kernel) ?_⟩
      refine ⟨_, rfl, rfl, _, rfl, ifF (by decide +kernel) ?_⟩
      refine ⟨_, rfl, rfl, _, rfl, ifF (by decide +kernel) ?_⟩
      refine ⟨_, rfl, rfl, _, rfl, ifF (by decide +kernel) ?_⟩
      refine ⟨_, rfl, rfl, _, rfl, ifF (by decide +kernel) ?_⟩
      refine ⟨_, rfl, rfl, _, rfl, ifF (by decide +kernel) ?_⟩
      refine ⟨_, rfl, rfl, _, rfl, ifF (by decide +kernel) ?_⟩
      refine ⟨_, rfl, rfl, _, rfl, ifF (by decide +kernel) ?_⟩
      refine ⟨_, rfl, rfl, _, rfl, ifF (by decide +kernel) ?_⟩
      refine ⟨_, rfl, rfl, _, rfl, ifT (by decide +kernel) ?_⟩
      exact ⟨_, rfl, _, rfl, t, _, _, _, rfl, rfl, hT, rfl, _, rfl, t, _, _, _, rfl, rfl, hT, rfl, _, rfl, t, _, _, _, rfl, rfl, hT, rfl, c⟩
    · refine ⟨_, rfl, rfl, _, rfl, ifF (by decide +kernel) ?_⟩
      refine ⟨_, rfl, rfl, _, rfl, ifF (by decide +kernel) ?_⟩
      refine ⟨_, rfl, rfl, _, rfl, ifF (by decide +kernel) ?_⟩
      refine ⟨_, rfl, rfl, _, rfl, ifF (by decide +kernel) ?_⟩
      refine ⟨_, rfl, rfl, _, rfl, ifF (by decide +kernel) ?_⟩
      refine ⟨_, rfl, rfl, _, rfl, ifF (by decide +kernel) ?_⟩
      refine ⟨_, rfl, rfl, _, rfl, ifF (by decide +kernel) ?_⟩
      refine ⟨_, rfl, rfl, _, rfl, ifF (by decide +kernel) ?_⟩
      refine ⟨_, rfl, rfl, _, rfl, ifF (by decide +kernel) ?_⟩
      refine ⟨_, rfl, rfl, _, rfl, ifF (by decide +kernel) ?_⟩
      exact ⟨_, rfl, _, rfl, t, _, _, _, rfl, rfl, hT, rfl, _, rfl, t, _, _, _, rfl, rfl, hT, rfl, c⟩
end
end K18

set_option Elab.async false
set_option linter.all false
set_option maxRecDepth 100000
set_option maxHeartbeats 4000000
set_option pp.maxSteps 900
namespace K18
open PySem PySem.Spec PyProof.Rows L2 Gu Ex
def letters : Str := "abcdefghijklmnopqrstuvwxyz"
def nameB : V → Bool
  | .str x => decide (1 ≤ x.length ∧ x.length ≤ 8) && x.cps.toList.all fun c => decide (c ∈ letters.cps.toList)
  | _ => false
section
variable {P : Program} {w : World} {K : PySem.W.Frag} {mg : Str → Option Value} {base : Heap} {f : Addr} {fd : FuncData}
def spName : Sp := fun vs H Q _ => ∃ v : V, vs = [v] ∧ Any H v ∧ ∀ H', Same H H' → Q (.bl (nameB v)) H'
theorem sc_is_name : FnScope ["value", "letter"] ["value"] (defScope (top 15)) := ⟨rfl, rfl, rfl, by decide +kernel, rfl, by decide +kernel, by decide +kernel⟩
theorem ok_is_name (T : Tx K mg) (F : FnP K "is_name" "is_name" (top 15) f fd) : FnOk P w K mg base CX0 1 f fd ["value"] spName := by
  obtain ⟨tl, hLT⟩ := T.gL
  obtain ⟨tn, hMN⟩ := T.gN
  refine F.ok sc_is_name (fun vs H Q E h => ?_) (fun cdv A outer s H vs Q E hr h => ⟨_, PSs.nox (pss_cons (ps_if (PW.pt (pw_or (pt_not (pt_val (pe_callB call_isi (by rfl) T.n_isinstance (by decide +kernel) (pa_cons (pv 0) (pa_cons (pe_bltn (v := .ty "str") (by rfl) T.n_str (by decide +kernel) rfl) pa_nil))))) (pw_or1 (pt_not (pt_chain op_le op_le pe_int (pe_callB call_len_str (by rfl) T.n_len (by decide +kernel) (pa_cons (pv 0) pa_nil)) (pe_glob (v := .int 8) rfl hMN ⟨_, rfl⟩)))))) (pss_one (ps_ret pe_bl)) pss_nil) (pss_one (ps_ret (pe_callB (cr_all rfl) (by rfl) T.n_all (by decide +kernel) (pa_cons (pe_lc (own := [("letter", 1)]) (g := gName 1) rfl sc_is_name.nd (pi_str (pv 0)) (blkOk_by (own := [("letter", 1)]) (N := ["value", "letter"]) (sc := defScope (top 15)) (by decide +kernel)) (fun _ _ _ _ _ => pg_name (i := 1) sc_is_name.nd rfl (Or.inl rfl)) (fun _ _ _ _ _ => pts_nil) (fun _ _ _ _ _ => (pe_cmpR op_in_sign (pv 1) (pe_glob (v := .str letters) rfl hLT ⟨_, rfl⟩) (by rfl)))) pa_nil))))), ?_⟩)
  · obtain ⟨v, rfl, _⟩ := h
    rfl
  · obtain ⟨v, rfl, hv, q⟩ := h
    obtain ⟨Ty, ty, _, _, k3⟩ := hv.ty (K := K)
    have sr : Same H H := fun _ _ e => e
    refine ⟨_, rfl, _, _, _, _, _, rfl, .ty "str", ty, kit_ty k3, _, rfl, ?_⟩
    cases hv with
    | str x hl =>
      have hz : x.length ≤ sizeLine := Nat.le_trans hl.1 (by decide)
      have hl1 := hl.1
      refine iteF ⟨_, rfl, x, rfl, hz, _, _, rfl, rfl, _, rfl, ?_⟩
      by_cases h1 : (1 : Int) ≤ (x.length : Int)
      · refine ifT (decide_eq_true h1) ⟨_, _, rfl, rfl, _, rfl, ?_⟩
        by_cases h2 : (x.length : Int) ≤ 8
        · refine ifF (by rw [decide_eq_true h2]; rfl) ?_
          refine ⟨_, rfl, x, rfl, fun D hD => ?_⟩
          refine lc_text (fun i H' => H' D = some (.lst (((x.cps.toList.take i).map fun c => decide (c ∈ letters.cps.toList)).map V.bl)) ∧ Same H H') ⟨upd_same, same_upd hD⟩ ?_ ?_
          · rintro i c H' hc ⟨hD', sm⟩
            have hi : i < x.cps.toList.length := (List.getElem?_eq_some_iff.mp hc).1
            refine ⟨rfl, _, rfl, c, letters, rfl, rfl, _, hD', small1000 ?_, ?_, fun b o e => ?_⟩
            · rw [List.length_map, List.length_map, List.length_take]
              have : x.cps.toList.length = x.length := Array.length_toList ..
              omega
            · rw [upd_same, List.take_add_one, hc, List.map_append, List.map_append]
              rfl
            · rw [upd_ne (ne_of_none e hD)]
              exact sm b o e
          · rintro H' ⟨hD', sm⟩
            rw [List.take_length] at hD'
            refine ⟨D, _, rfl, SqL.of hD', ?_⟩
            have e : (List.map (fun c => decide (c ∈ letters.cps.toList)) x.cps.toList).all id = nameB (.str x) := by
              show _ = (decide (1 ≤ x.length ∧ x.length ≤ 8) && x.cps.toList.all fun c => decide (c ∈ letters.cps.toList))
              rw [decide_eq_true ⟨by omega, by omega⟩, Bool.true_and, List.all_map]
              rfl
            rw [e]
            exact q H' sm
        · have e : nameB (.str x) = false := by
            show (decide (1 ≤ x.length ∧ x.length ≤ 8) && _) = false
            rw [decide_eq_false fun z => h2 (by omega), Bool.false_and]
          rw [e] at q
          exact ifT (by rw [decide_eq_false h2]; rfl) (q H sr)
      · have e : nameB (.str x) = false := by
          show (decide (1 ≤ x.length ∧ x.length ≤ 8) && _) = false
          rw [decide_eq_false fun z => h1 (by omega), Bool.false_and]
        rw [e] at q
        exact ifF (decide_eq_false h1) ⟨_, rfl, iteT (q H sr)⟩
    | _ => exact iteT (iteT (q H sr))
def spLpc : Sp := fun vs H Q _ => ∃ (o : Addr) (ns : List Int) (n : Int), vs = [.ref o, .int n] ∧ H o = some (.lst (ns.map V.int)) ∧ Good ns ∧ 0 ≤ n ∧ (∀ k, k < ns.length → M13.cnt (sz ns) ns.length n k ≤ 1000) ∧
  ∀ l xs H', H l = none → Same H H' → H' l = some (.lst xs) → (xs.length : Int) = (cnts ns n).sum → Q (.ref l) H'
theorem rev_rg {m i : Nat} (h : i < m) : (rgV 0 (m : Int)).reverse[i]? = some (.int ((m - 1 - i : Nat) : Int)) := by
  have hl : (rgV 0 (m : Int)).length = m := by rw [rgV_length]; omega
  rw [List.getElem?_reverse (by rw [hl]; exact h), hl]
  unfold rgV
  rw [List.getElem?_map, List.getElem?_range (by omega)]
  show some (V.int (0 + ((m - 1 - i : Nat) : Int))) = _
  rw [Int.zero_add]
theorem sc__law_pieces : FnScope ["_law_sizes_here", "_law_cells", "_law_result", "_law_level", "_law_many"] ["_law_sizes_here", "_law_cells"] (defScope (top 38)) := ⟨rfl, rfl, rfl, by decide +kernel, rfl, by decide +kernel, by decide +kernel⟩
theorem ok_lpc (T : Tx K mg) (F : FnP K "_law_pieces" "_law_pieces" (top 38) f fd) : FnOk P w K mg base CX0 1 f fd ["_law_sizes_here", "_law_cells"] spLpc := by
  refine F.ok sc__law_pieces (fun vs H Q E h => ?_) (fun cdv A outer s H vs Q E hr h => ⟨_, PSs.nox (pss_cons (ps_set (i := 2) sc__law_pieces.nd rfl (by first | exact Or.inl rfl | exact Or.inr rfl) (pe_lst pa_nil)) (pss_cons (ps_for PassesOwn.never rfl (pi_list (pe_revL (pe_listRg rfl (by rfl) T.n_list (prg_1 (by rfl) T.n_range (pe_callB call_len_seq (by rfl) T.n_len (by decide +kernel) (pa_cons (pv 0) pa_nil)))))) (pg_name (i := 3) sc__law_pieces.nd rfl (by first | exact Or.inl rfl | exact Or.inr rfl)) (pss_cons (ps_asg (pe_callB call_divmodW (by rfl) T.n_divmod (by decide +kernel) (pa_cons (pv 1) (pa_cons (pe_ix ix_list (pv 0) (pv 3) (fun _ _ => rfl)) pa_nil))) (pg_tup (by rfl) (pgs_cons (pg_name (i := 4) sc__law_pieces.nd rfl (by first | exact Or.inl rfl | exact Or.inr rfl)) (pgs_cons (pg_name (i := 1) sc__law_pieces.nd rfl (by first | exact Or.inl rfl | exact Or.inr rfl)) pgs_nil)))) (pss_one (ps_set (i := 2) sc__law_pieces.nd rfl (by first | exact Or.inl rfl | exact Or.inr rfl) (pe_op op_cat (pv 2) (pe_op op_rep (pe_lst (pa_cons (pv 3) pa_nil)) (pv 4))))))) (pss_one (ps_ret (pv 2))))), ?_⟩)
  · obtain ⟨o, ns, n, rfl, _⟩ := h
    rfl
  · obtain ⟨o, ns, n, rfl, hO, g, n0, bnd, q⟩ := h
    have sl : sizeLine = 16777216 := sizeLine_eq
    have l8 := g.len
    have ch := chain g
    refine ⟨(by show 0 ≤ sizeLine; decide), fun a ha => ⟨_, rfl, o, _, rfl, .inl (SqL.of (same_upd ha _ _ hO)), _, rfl, ?_⟩⟩
    rw [List.length_map]
    refine ⟨RgOk.of_le (by decide) (by omega) (by decide) (by omega), fun q0 hq0 => ⟨q0, _, rfl, SqL.of upd_same, fun b hb => ?_⟩⟩
    have s1 := ((same_upd (o := .lst []) ha).trans (same_upd (o := .lst (rgV 0 (ns.length : Int))) hq0)).trans (same_upd (o := .lst (rgV 0 (ns.length : Int)).reverse) hb)
    have hB : (upd (upd (upd H a (.lst [])) q0 (.lst (rgV 0 (ns.length : Int)))) b (.lst (rgV 0 (ns.length : Int)).reverse)) b = some (.lst (rgV 0 (ns.length : Int)).reverse) := upd_same
    have hA : (upd (upd (upd H a (.lst [])) q0 (.lst (rgV 0 (ns.length : Int)))) b (.lst (rgV 0 (ns.length : Int)).reverse)) a = some (.lst []) := by
      rw [upd_ne (ne_of_none (same_upd hq0 _ _ upd_same) hb), upd_ne (ne_of_none upd_same hq0)]
      exact upd_same
    generalize (upd (upd (upd H a (.lst [])) q0 (.lst (rgV 0 (ns.length : Int)))) b (.lst (rgV 0 (ns.length : Int)).reverse)) = H1 at *
    refine ⟨b, rfl, ⟨_, SqL.of hB⟩, ?_⟩
    refine for_it (walk_list (xs := (rgV 0 (ns.length : Int)).reverse)) (fun i σ G => (∃ (L : Addr) (xs : List V) (x3 x4 : Option V), σ = [some (.ref o), some (.int (if i = 0 then n else n % sz ns (ns.length - i))), some (.ref L), x3, x4] ∧ G L = some (.lst xs) ∧ H L = none ∧ (xs.length : Int) = (falls ns n i).sum ∧ xs.length ≤ 1000 * i) ∧ Same H1 G)
      ⟨⟨a, [], none, none, rfl, hA, ha, rfl, Nat.le_refl _⟩, Same.refl _⟩ (fun i σ G _ h => SqL.of (h.2 _ _ hB)) ?_ ?_
    · rintro i v σ G0 G hi ⟨⟨L, xs, x3, x4, rfl, hL, hLH, xl, xb⟩, sm⟩ ⟨rfl, hv⟩
      have hi2 : i < ns.length := by rw [List.length_reverse, rgV_length] at hi; omega
      rw [rev_rg hi2] at hv
      obtain rfl := (Option.some.inj hv).symm
      have km : ns.length - 1 - i < ns.length := by omega
      have ps := ch.pos _ km
      have pl := sz_le g km
      have hO1 := sm _ _ (s1 _ _ hO)
      have er : (if i = 0 then n else n % sz ns (ns.length - i)) = M13.rest (sz ns) ns.length n (ns.length - 1 - i) := by
        unfold M13.rest
        by_cases h0 : i = 0
        · rw [if_pos h0, if_neg (by omega)]
        · rw [if_neg h0, if_pos (by omega), show ns.length - 1 - i + 1 = ns.length - i by omega]
      have mb : (sz ns (ns.length - 1 - i)).natAbs < 2 ^ 34 := by
        have e2 : (2 : Nat) ^ 34 = 17179869184 := by decide
        omega
      have c0 := M13.cnt_nn ch n0 km
      have c1 := bnd _ km
      refine ⟨_, rfl, _, rfl, _, rfl, o, _, _, _, rfl, rfl, SqL.of hO1, at_sz km, _, _, rfl, ⟨by omega, PyProof.noPylong_of_log2 (Nat.lt_of_lt_of_le (PySem.Flt.log2_lt_of (by decide) mb) (by decide))⟩, fun p hp => ?_⟩
      rw [er]
      rw [show M13.rest (sz ns) ns.length n (ns.length - 1 - i) / sz ns (ns.length - 1 - i) = M13.cnt (sz ns) ns.length n (ns.length - 1 - i) from rfl, M13.rest_next ch n km]
      have t1 := same_upd (o := .tup [.int (M13.cnt (sz ns) ns.length n (ns.length - 1 - i)), .int (n % sz ns (ns.length - 1 - i))]) hp
      have hL1 := t1 _ _ hL
      have hP : (upd G p (.tup [.int (M13.cnt (sz ns) ns.length n (ns.length - 1 - i)), .int (n % sz ns (ns.length - 1 - i))])) p = some (.tup [.int (M13.cnt (sz ns) ns.length n (ns.length - 1 - i)), .int (n % sz ns (ns.length - 1 - i))]) := upd_same
      generalize upd G p (.tup [.int (M13.cnt (sz ns) ns.length n (ns.length - 1 - i)), .int (n % sz ns (ns.length - 1 - i))]) = G1 at *
      refine ⟨p, _, rfl, .inl (.inl hP), rfl, _, _, rfl, _, _, rfl, rfl, ?_⟩
      refine ⟨_, rfl, _, rfl, (by show 1 ≤ sizeLine; decide), fun e he => ⟨_, rfl, e, _, _, rfl, rfl, upd_same, by omega, by omega, by rw [sl]; show 1 * _ ≤ _; omega, fun c hc => ?_⟩⟩
      rw [flat_one]
      have t2 := (same_upd (o := .lst [.int ((ns.length - 1 - i : Nat) : Int)]) he).trans (same_upd (o := .lst (List.replicate (M13.cnt (sz ns) ns.length n (ns.length - 1 - i)).toNat (V.int ((ns.length - 1 - i : Nat) : Int)))) hc)
      refine ⟨L, c, _, _, rfl, rfl, t2 _ _ hL1, upd_same, by rw [List.length_replicate, sl]; omega, fun d hd => ?_⟩
      have t3 := t2.trans (same_upd (o := .lst (xs ++ List.replicate (M13.cnt (sz ns) ns.length n (ns.length - 1 - i)).toNat (V.int ((ns.length - 1 - i : Nat) : Int)))) hd)
      have sG := s1.trans (sm.trans (t1.trans t2))
      refine ⟨⟨d, _, some (.int ((ns.length - 1 - i : Nat) : Int)), some (.int (M13.cnt (sz ns) ns.length n (ns.length - 1 - i))), ?_, upd_same, sG.free hd, ?_, ?_⟩, sm.trans (t1.trans t3)⟩
      · rw [if_neg (show ¬ i + 1 = 0 by omega), show ns.length - (i + 1) = ns.length - 1 - i by omega]
        rfl
      · rw [List.length_append, List.length_replicate, falls_sum]
        omega
      · rw [List.length_append, List.length_replicate]
        omega
    · rintro σ G ⟨⟨L, xs, x3, x4, rfl, hL, hLH, xl, xb⟩, sm⟩
      have e8 : (rgV 0 (ns.length : Int)).reverse.length = ns.length := by rw [List.length_reverse, rgV_length]; omega
      rw [e8] at xl
      refine ⟨_, rfl, q L xs G hLH (s1.trans sm) hL ?_⟩
      rw [xl, ← sum_rev, falls_all]
end
end K18

set_option Elab.async false
set_option linter.all false
set_option maxRecDepth 100000
set_option maxHeartbeats 4000000
/-! Own layer: a def that is handed the caught error while it is handled: its promise speaks of the error's address, class and dict; isinstance within it. -/
namespace Ex
open PySem PySem.Spec PySem.Calls PyProof.Rows L2 Gu
/-- the promise of a def that is handed the error -/
abbrev SpE : Type := Addr → Addr → Option Addr → Sp
structure FnE (P : Program) (w : World) (K : PySem.W.Frag) (mg : Str → Option Value) (base : Heap) (k : Nat) (f : Addr) (fd : FuncData) (ps : List Str) (sp : SpE) : Prop where
  len : ∀ a D d vs H Q E, sp a D d vs H Q E → vs.length = ps.length
  run : ∀ (A : Around) (outer : List Env) (s : Shared) (H : Hp) (us : List Value) (vs : List V) (Q : VK) (a D : Addr) (d : Option Addr) (oe : Obj),
    L2H.RoomH k A → Zc (.ref D) d oe → (∃ vs, oe.data = .fields vs) → L2H.PinOk outer H s (a, oe) → Env0 P w K mg base A outer s H → BindsTo s fd ⟨us, []⟩ (ps.zip us) → Vals vs us → sp a D d vs H Q E0 →
    codeAny (model P w) A (.call (.ref f) ⟨us, []⟩) (CR CX0 outer P w H s Q E0) s
section
variable {P : Program} {w : World} {K : PySem.W.Frag} {mg : Str → Option Value} {base : Heap} {k : Nat} {f : Addr} {fd : FuncData} {ps : List Str} {sp : SpE}
theorem okE {x qual : Str} {params : Arguments} {body : List Stmt} {scope : Scope} {dvs : List V} {kws : List (Str × V)} {N : List Str}
    (F : FunD K x qual params body scope dvs kws f fd) (S : FnScope N ps scope) (len : ∀ a D d vs H Q E, sp a D d vs H Q E → vs.length = ps.length)
    (hbody : ∀ (cdv : Value) (A : Around) (outer : List Env) (s : Shared) (H : Hp) (vs : List V) (Q : VK) (a D : Addr) (d : Option Addr) (oe : Obj),
      L2H.RoomH k (A.deeper (envOfC qual scope s.heap.objs.size f cdv)) → Zc (.ref D) d oe → (∃ vs, oe.data = .fields vs) → sp a D d vs H Q E0 →
      ∃ t, PSs (L2H.cxH CX0 P w K mg base N qual scope f cdv A outer s H E0 (a, oe)) body t ∧ t { nx := fun _ H' => Q .non H', rt := Q } (start N vs) H) :
    FnE P w K mg base (k + 1) f fd ps sp := by
  obtain ⟨oc, od, dV, kV, doc, pm, an, cdv, ct, osl, rfl, lk, hcd, _, _⟩ := F.ex
  refine ⟨len, fun A outer s H us vs Q a D d oe hr hz hf hpin e0 hb rv hsp => ?_⟩
  have KX : K.In s.heap := e0.mod.kin.keeps fun b o e => (e0.bs b o e).1
  have hkinds : ∀ y ∈ ps.zip us, scope.names.lookup y.1 = some .local ∨
      (scope.names.lookup y.1 = some .cell ∧ ((cellsFrom (s.heap.objs.size + 1) scope.names []).lookup y.1).isSome = true) := by
    rintro ⟨n, v⟩ hy
    rcases S.par n (List.of_mem_zip hy).1 with q | q
    · exact .inl q
    · exact .inr ⟨q, PySem.W.cellsFrom_some _ _ _ (.inl q)⟩
  refine codeAny_call_function hr.depth (KX _ _ lk) rfl S.co S.gen rfl (PySem.W.codeRec_of KX hcd) (hb _ _ _ _ ?_)
  refine wpAny_newFunctionEnv_cells S.kind hkinds fun env he s1 x => ?_
  subst he
  refine ⟨(e0.mod.nolimit.keeps fun b o e => (e0.bs b o e).1).keeps x.toInCall.keep, codeAny_func ?_⟩
  obtain ⟨t, ht, hq⟩ := hbody cdv A outer s H vs Q a D d oe (hr.deeper _) hz hf hsp
  have I := L2H.inv_startH (CX := CX0) (E := E0) (N := N) (qual := qual) (f := f) (cd := cdv) S hpin e0 (len _ _ _ _ _ _ _ hsp) rv x
  refine wpAny_mono (ht.run [] s1 (start N vs) H _ I hq) (fun fl s' hs => ?_) fun e s' hs => hs
  cases fl with
  | ret u =>
    obtain ⟨v, σ', H', J, rv', q⟩ := hs
    exact ⟨v, H', J.os, J.bare, J.base, J.hok, rv', q⟩
  | next =>
    obtain ⟨σ', H', J, q⟩ := hs
    exact ⟨V.non, H', J.os, J.bare, J.base, J.hok, rfl, q⟩
  | brk => exact hs.elim fun _ z => z.elim fun _ z => z.2.elim
  | cont => exact hs.elim fun _ z => z.elim fun _ z => z.2.elim
end
structure DfE (P : Program) (w : World) (K : PySem.W.Frag) (mg : Str → Option Value) (base : Heap) (k : Nat) (x : Str) (ps : List Str) (sp : SpE) : Prop where
  ex : ∃ fd, FnE P w K mg base k (He.ga K x) fd ps sp ∧ Binds K fd ps []
  gl : mg x = some (.ref (He.ga K x))
  kp : PySem.W.keepIn K (.ref (He.ga K x)) = true
def tCallE (sp : SpE) (a : Addr) (cls : Value) (d : Option Addr) (t : TA) : TE := fun σ H Q => t σ H fun vs H1 => ∃ D, cls = .ref D ∧ sp a D d vs H1 Q E0
section
variable {X : Cx} {k j : Nat} {x : Str} {ps : List Str} {sp : SpE} {p pos : Pos} {e : Expr} {es : List Expr} {t : TA} {a D : Addr} {oe : Obj} {cls : Value} {d : Option Addr}
theorem pcallE (Df : DfE X.prog X.w X.K X.mg X.base k x ps sp) (hr : L2H.RoomH j X.A) (hp : (a, oe) ∈ X.pn) (hz : Zc cls d oe) (hf : ∃ vs, oe.data = .fields vs) (ha : PA X (e :: es) t) (hj : k ≤ j := by decide) (hg : Gl X x := by rfl)
    (hdb : (x == ("__debug__" : Str)) = false := by decide) (he : starEach (e :: es) X.env = (false, eval e X.env) :: starEach es X.env := by rfl) (hpl : (backTo pos (starEach es X.env)).any (·.1) = false := by rfl) :
    PE X (.Call (.Name x p) (e :: es) [] pos) (tCallE sp a cls d t) := by
  obtain ⟨fd, F, b⟩ := Df.ex
  refine ⟨fun pins s σ H Q I h => wpAny_Call_Name_kw (ld_glob I hg Df.gl (PySem.W.callWith_K (h₀ := X.base) I.ok.mod.kin Df.kp
    (thn (ha.run pos pins s σ H _ I h) fun us s1 ⟨vs, H1, I1, r, q⟩ => ⟨I1.kIn, ?_⟩) he hpl) hdb)⟩
  obtain ⟨D, rfl, q⟩ := q
  have hl : us.length = ps.length := r.length.symm.trans (F.len _ _ _ _ _ _ _ q)
  have bb := b s1 us I1.kIn (by rw [List.append_nil]; exact hl)
  rw [List.append_nil] at bb
  obtain ⟨g1, g2, g3, g4, g5⟩ := I1.pin (a, oe) (List.mem_append_left _ hp)
  have pin : L2H.PinOk X.stack H1 s1 (a, oe) := ⟨g1, g2, fun hm => by
    rcases List.mem_cons.mp (I1.stkSub a hm) with z | z
    · exact g3 z
    · exact g4 z, g5⟩
  refine wpAny_call (codeAny_mono (F.run X.A X.stack s1 H1 us vs Q a D d oe (hr.mono hj) hz hf pin I1.env0 bb r q) fun r s' hq => ?_)
  match r, hq with
  | .ok (.ret u), hq => exact I1.after hq
/-- isinstance of the error, where it is pinned -/
theorem inst_pin {pins : List (Addr × Obj)} {σ : L2.St} {H : Hp} {s : Shared} {fs : List (Str × V)} {dd : Addr} (hp : (a, oe) ∈ X.pn) (I : Inv X pins σ H s) (hz : Zc (.ref D) (some dd) oe) (hf : ∃ vs, oe.data = .fields vs) (hd : H dd = some (.xd fs)) :
    ∃ od, PySem.W.InstAt s.heap a oe D (some od) := by
  obtain ⟨vs, hv⟩ := hf
  obtain ⟨mA, hns, _⟩ := (show ObjOk X.prog X.w H s.heap dd (.xd fs) from I.hok dd _ hd)
  obtain ⟨od, ho, _⟩ := lookIn_ns hns
  exact ⟨od, (I.pin (a, oe) (List.mem_append_left _ hp)).1, hz.1, by unfold PySem.W.notCls; rw [hv] <;> rfl, by rw [hz.2]; exact ho⟩
theorem call_isP (c : ExcC X.K D) (hp : (a, oe) ∈ X.pn) (hz : Zc (.ref D) d oe) (hf : ∃ vs, oe.data = .fields vs) : CallR X (.builtin "isinstance") (rIsX X.K D a (.ref D) d) := by
  intro pins s σ H xs us Q I r h
  obtain ⟨cv, u, b, dd, fs, rfl, _, rfl, k, hd, e, q⟩ := h
  obtain ⟨u1, u2, rfl, r1, r2⟩ := vals2 r
  obtain rfl : u1 = Value.ref a := r1
  have e2 := k.eq r2
  subst e2
  obtain ⟨od, J⟩ := inst_pin hp I hz hf hd
  exact PySem.W.kia_one (kitx_exc c) I.kIn J e (fun z => nomatch z) fun tk => ⟨.bl b, H, I.tok tk, rfl, q⟩
end
end Ex

set_option Elab.async false
set_option linter.all false
set_option maxRecDepth 100000
set_option maxHeartbeats 4000000
/-! Own layer: several clauses of one try, the first of four classes in a tuple, all with the same name. -/
namespace Ex
open PySem PySem.Spec PySem.Calls PyProof.Rows L2 Gu
theorem flying_grow {B h h' : Heap} {l : List Env} {a : Addr} {Z : Obj → Prop} (k : ∀ b o, h.get? b = some o → h'.get? b = some o) (f : HandSPX.FlyingZ B l a Z h) : HandSPX.FlyingZ B l a Z h' := by
  obtain ⟨f1, f2, f3, oe, vs, T, oT, ts, e1, e2, e3, e4, e5, e6, e7, e8, e9⟩ := f
  refine ⟨fun b o e => k _ _ (f1 b o e), f2, f3.of_keeps fun b o e _ => ⟨o, k _ _ e, rfl⟩, oe, vs, T, oT, ts, k _ _ e1, e2, e3, e4, e5, e6, k _ _ e7, e8, e9⟩
theorem up_grow {h h1 h2 : Heap} (u : h.UpToSlots h1) (k : ∀ b o, h1.get? b = some o → h2.get? b = some o) : h.UpToSlots h2 := fun b o e hd => by
  obtain ⟨sl, z⟩ := u b o e hd
  exact ⟨sl, k _ _ z⟩
/-- a clause's classes -/
inductive Cls4
  | one (c : Value)
  | four (c1 c2 c3 c4 : Value)
def Cls4.ask (K : PySem.W.Frag) (cls : Value) : Cls4 → Option Bool
  | .one c => PySem.W.exmOne K cls c
  | .four c1 c2 c3 c4 => PySem.W.exmAny K cls [c1, c2, c3, c4]
abbrev Suites4 : Type := List (Cls4 × (Addr → Value → Option Addr → TS))
def wAs4 (K : PySem.W.Frag) (i : Nat) (Wout : WX) (D : Ends) : Suites4 → WX
  | [] => Wout
  | (q, ts) :: r => fun cls d σ H => ∃ b, q.ask K cls = some b ∧ (b = true → ∀ a, H a = none → ts a cls d { nx := fun σ' H' => D.nx (σ'.set i none) H', rt := D.rt, bk := fun σ' H' => D.bk (σ'.set i none) H', ct := fun σ' H' => D.ct (σ'.set i none) H' } (σ.set i (some (.ref a))) H) ∧
    (b = false → wAs4 K i Wout D r cls d σ H)
inductive HdAs4 (X : Cx) (n : Str) : List ExceptHandler → Suites4 → Prop
  | nil : HdAs4 X n [] []
  | one {x : Str} {c : Value} {ts : Addr → Value → Option Addr → TS} {b0 : Stmt} {su : List Stmt} {np p2 : Pos} {hs : List ExceptHandler} {l : Suites4} (hc : Names X x c)
      (hsu : ∀ (a : Addr) (oe : Obj) (cls : Value) (d : Option Addr) (pn : List (Addr × Obj)), Zc cls d oe → (∃ vs, oe.data = .fields vs) → PSs (X.suite a ((a, oe) :: pn)) (b0 :: su) (ts a cls d)) (r : HdAs4 X n hs l) :
      HdAs4 X n (.ExceptHandler (some (.Name x np)) (some n) (b0 :: su) p2 :: hs) ((.one c, ts) :: l)
  | four {x1 x2 x3 x4 : Str} {c1 c2 c3 c4 : Value} {ts : Addr → Value → Option Addr → TS} {b0 : Stmt} {su : List Stmt} {p1 p2 p3 p4 tp p5 : Pos} {kk} {hs : List ExceptHandler} {l : Suites4} (h1 : Names X x1 c1) (h2 : Names X x2 c2) (h3 : Names X x3 c3) (h4 : Names X x4 c4)
      (hsu : ∀ (a : Addr) (oe : Obj) (cls : Value) (d : Option Addr) (pn : List (Addr × Obj)), Zc cls d oe → (∃ vs, oe.data = .fields vs) → PSs (X.suite a ((a, oe) :: pn)) (b0 :: su) (ts a cls d)) (r : HdAs4 X n hs l) :
      HdAs4 X n (.ExceptHandler (some (.Tuple [.Name x1 p1, .Name x2 p2, .Name x3 p3, .Name x4 p4] kk tp)) (some n) (b0 :: su) p5 :: hs) ((.four c1 c2 c3 c4, ts) :: l)
section
variable {X : Cx} {n : Str} {i : Nat} {body : List Stmt} {h0 : ExceptHandler} {hds : List ExceptHandler} {l : Suites4} {pos : Pos} {tb : WX → TS} {Wout : WX}
theorem ps_try_as4 (hs : X.stack = X.env :: X.outer) (hf : X.env.frame = some X.env.locals) (hN : X.N.Nodup) (hi : X.N[i]? = some n) (hln : X.env.kindOf n = some .local) (tk : Takes X Wout)
    (hb : ∀ (W : WX) (pn : List (Addr × Obj)) (xe : Value → Shared → Prop), Takes (X.tr pn xe) W → PassesOwn (model X.prog X.w) X.A X.env xe → PSs (X.tr pn xe) body (tb W))
    (hh : HdAs4 X n (h0 :: hds) l) : PS X (.Try body (h0 :: hds) [] [] pos) (fun D σ H => tb (wAs4 X.K i Wout D l) D σ H) := by
  refine ⟨fun pins s σ H D I h => ?_⟩
  have ok := I.ok
  have fr : X.A.frames = some (X.env :: X.outer) := by
    rw [ok.frames, hs]
  refine wpAny_Try_except (wpAny_mono ((hb (wAs4 X.K i Wout D l) (X.pn ++ pins) (fun e s1 => wpAny (model X.prog X.w) X.A (noteFrame e X.env) (fun _ s2 => wpAny (model X.prog X.w) X.A (setFlight e none) (fun _ s3 =>
    wpAny (model X.prog X.w) X.A (handleBy e X.env (h0 :: hds)) (SP X pins D) X.xe s3) X.xe s2) X.xe s1) (fun u s' xx => ?_) PassesOwn.looking).run [] s σ H D (I.toTry _) h) (fun f s1 hsp => ?_) (fun e s1 he => he))
  · obtain ⟨a, B, sI, pins', σ1, H1, cls, d, rfl, J0, nb, up, sky, na, os, ag, w⟩ := xx
    have J : Inv X pins σ1 H1 sI := J0.ofTry ok
    rw [hs] at sky
    show wpAny (model X.prog X.w) X.A (noteFrame (.ref a) X.env) _ _ _
    refine Sky.land Zc.steady fr hf sky fun hL flL upL => ?_
    have nfr : ∀ {h3 : Heap}, HandSPX.FlyingZ B (X.env :: X.outer) a (Zc cls d) h3 → a ∉ frs (X.env :: X.outer) := fun {h3} fl hm => by
      obtain ⟨o3, v3, he3, hz3, hd3⟩ := fl.there
      obtain ⟨_, o', e', hnf⟩ := fl.2.2.1.mem hm
      rw [he3] at e'
      cases e'
      exact hnf _ hd3
    have nfr := nfr flL
    have nL : a ≠ X.env.locals := fun z => nfr (List.mem_filterMap.mpr ⟨X.env, List.mem_cons_self, by rw [hf, z]⟩)
    have nF : a ∉ X.fs := fun hm => by
      obtain ⟨e, he, q⟩ := List.mem_filterMap.mp hm
      exact nfr (List.mem_filterMap.mpr ⟨e, List.mem_cons_of_mem _ he, q⟩)
    have go : ∀ {hs2 : List ExceptHandler} {l2 : Suites4}, HdAs4 X n hs2 l2 → ∀ h3 : Heap, HandSPX.FlyingZ B (X.env :: X.outer) a (Zc cls d) h3 → sI.heap.UpToSlots h3 → wAs4 X.K i Wout D l2 cls d σ1 H1 →
        wpAny (model X.prog X.w) X.A (handleBy (.ref a) X.env hs2) (SP X pins D) X.xe { s' with heap := h3 } := by
      intro hs2 l2 hk
      induction hk with
      | nil =>
        intro h3 fl up3 w
        have J3 : Inv X pins σ1 H1 { s' with heap := h3 } := J.landed nb fl.1 up3 os ag
        refine wpAny_handleBy_nil ?_
        obtain ⟨_, _, _, oe, vs, Tb, oT, tsT, he, hz, hd, h1, hr⟩ := id fl
        unfold PySem.passOn
        refine wpAny_bind (wpAny_field he hd h1 ?_)
        rw [if_neg (show ¬ ((Value.ref Tb == Value.none) = true) from by simp)]
        have fin : wpAny (model X.prog X.w) X.A (setFlight (.ref a) X.env.frame) (fun _ s4 => wpAny (model X.prog X.w) X.A (throw (.ref a) : Sem Flow) (SP X pins D) X.xe s4) X.xe { s' with heap := h3 } := by
          rw [hf]
          exact HandSPX.setFlight_upZ fl fun h4 hh4 up4 => wpAny_throw (tk _ _ ⟨a, B, sI, pins, σ1, H1, cls, d, rfl, J, nb, up3.trans up4, .inr (.inr (by rw [hs]; exact hh4)), na, os, ag, w⟩)
        first
          | exact wpAny_bind (wpAny_pure (wpAny_bind fin))
          | exact wpAny_bind fin
      | @one x c ts b0 su np p5 hs3 l3 hc hsu r ih =>
        intro h3 fl up3 w
        have J3 : Inv X pins σ1 H1 { s' with heap := h3 } := J.landed nb fl.1 up3 os ag
        obtain ⟨o3, v3, he3, hz3, hd3⟩ := fl.there
        have S3 := J3.suite he3 hd3 na nL nF
        obtain ⟨b, hb1, yes, no⟩ := w
        refine wpAny_handleBy_cons (codeAny_handlers_test ?_) (by intro q; cases q)
        have lt : PySem.W.Looks (model X.prog X.w) h3 (typeOf (.ref a)) cls := fun A Q E s k q => wpAny_typeOf_ref (k _ _ he3) (by rw [hz3.1]; exact q)
        have lm := PySem.W.exm_one (M := model X.prog X.w) J3.kIn lt hb1
        have name : ∀ {Q : Value → Shared → Prop} {E : Value → Shared → Prop}, Q c { s' with heap := h3 } → wpAny (model X.prog X.w) (X.A.mark (some (.ref a))) (eval (.Name x np) X.env) Q E { s' with heap := h3 } := fun {Q E} q => by
          obtain ⟨hg, hdbg, hm | ⟨hm, hv, hnn⟩⟩ := hc
          · exact ld_glob (X := X.suite a ((a, o3) :: (X.pn ++ pins))) S3 hg hm q hdbg
          · exact ld_blt (X := X.suite a ((a, o3) :: (X.pn ++ pins))) S3 hg hm hv q hnn hdbg
        refine name (lm.here ?_)
        cases b with
        | false =>
          show wpAny _ X.A (handleBy (.ref a) X.env hs3) _ _ _
          exact ih h3 fl up3 (no rfl)
        | true =>
          refine codeAny_handlers_suite_as (HandSPX.lands_againZ fl fun h9 fl9 up9 => ?_)
          have J4 : Inv X pins σ1 H1 { s' with heap := h9 } := J.landed nb fl9.1 ((up3).trans up9) os ag
          obtain ⟨o4, v4, he4, hz4, hd4⟩ := fl9.there
          have S4 := J4.suite he4 hd4 na nL nF
          refine store_ok (X := X.suite a ((a, o4) :: (X.pn ++ pins))) (v := .ref a) S4 hN hi (.inl hln) rfl (fun s5 S5 => ?_) (.inr hln)
          refine wpAny_mono ((hsu a o4 cls d (X.pn ++ pins) hz4 ⟨_, hd4⟩).run [] s5 _ H1 _ S5 (yes rfl a na)) (fun f s6 hsp => ?_) (fun _ _ z => False.elim z)
          have out : ∀ {σ6 : L2.St} {H6 : Hp} {Q : Shared → Prop}, Inv (X.suite a ((a, o4) :: (X.pn ++ pins))) [] σ6 H6 s6 → (∀ s7, Inv X pins (σ6.set i none) H6 s7 → Q s7) →
              wpAny (model X.prog X.w) X.A (do bindName X.env n .none; unbindBehindTheSuite X.env n p5) (fun _ s7 => Q s7) X.xe s6 := fun {σ6 H6 Q} S6 hq => gone_ok (S6.unsuite ok) hN hi hln hq
          match f, hsp with
          | .next, ⟨σ6, H6, S6, q6⟩ => exact out S6 fun s7 J7 => ⟨_, _, J7, q6⟩
          | .brk, ⟨σ6, H6, S6, q6⟩ => exact out S6 fun s7 J7 => ⟨_, _, J7, q6⟩
          | .cont, ⟨σ6, H6, S6, q6⟩ => exact out S6 fun s7 J7 => ⟨_, _, J7, q6⟩
          | .ret u, ⟨v6, σ6, H6, S6, r6, q6⟩ => exact out S6 fun s7 J7 => ⟨_, _, _, J7, r6, q6⟩
      | @four x1 x2 x3 x4 c1 c2 c3 c4 ts b0 su p1 p2 p3 p4 tp p5 kk hs3 l3 m1 m2 m3 m4 hsu r ih =>
        intro h3 fl up3 w
        have J3 : Inv X pins σ1 H1 { s' with heap := h3 } := J.landed nb fl.1 up3 os ag
        obtain ⟨o3, v3, he3, hz3, hd3⟩ := fl.there
        have S3 := J3.suite he3 hd3 na nL nF
        obtain ⟨b, hb1, yes, no⟩ := w
        refine wpAny_handleBy_cons (codeAny_handlers_test ?_) (by intro q; cases q)
        have name : ∀ {x : Str} {c : Value} {np : Pos}, Names X x c → ∀ {Q : Value → Shared → Prop} {E : Value → Shared → Prop}, Q c { s' with heap := h3 } → wpAny (model X.prog X.w) (X.A.mark (some (.ref a))) (eval (.Name x np) X.env) Q E { s' with heap := h3 } := fun {x c np} hc {Q E} q => by
          obtain ⟨hg, hdbg, hm | ⟨hm, hv, hnn⟩⟩ := hc
          · exact ld_glob (X := X.suite a ((a, o3) :: (X.pn ++ pins))) S3 hg hm q hdbg
          · exact ld_blt (X := X.suite a ((a, o3) :: (X.pn ++ pins))) S3 hg hm hv q hnn hdbg
        refine wpAny_Tuple_spliced (args_cons (name m1 (args_cons (name m2 (args_cons (name m3 (args_cons (name m4 (args_nil ⟨(by show 4 ≤ sizeLine; decide), ?_⟩)))))))))
        have k4 : ∀ b o, h3.get? b = some o → (h3.push { cls := .type "tuple", data := .seq [c1, c2, c3, c4].toArray }).get? b = some o := fun b o e => Heap.get?_push_of_some _ e
        have fl4 := flying_grow k4 fl
        have up4 := up_grow up3 k4
        have J4 : Inv X pins σ1 H1 { s' with heap := h3.push { cls := .type "tuple", data := .seq [c1, c2, c3, c4].toArray } } := J.landed nb fl4.1 up4 os ag
        have lt : PySem.W.Looks (model X.prog X.w) (h3.push { cls := .type "tuple", data := .seq [c1, c2, c3, c4].toArray }) (typeOf (.ref a)) cls := fun A Q E s k q => wpAny_typeOf_ref (k _ _ (k4 _ _ he3)) (by rw [hz3.1]; exact q)
        have lm := PySem.W.exm_tup4 (M := model X.prog X.w) (tp := h3.objs.size) (e := a) J4.kIn lt (Heap.get?_push_size _ rfl) hb1
        refine lm.here ?_
        cases b with
        | false =>
          show wpAny _ X.A (handleBy (.ref a) X.env hs3) _ _ _
          exact ih _ fl4 up4 (no rfl)
        | true =>
          refine codeAny_handlers_suite_as (HandSPX.lands_againZ fl4 fun h9 fl9 up9 => ?_)
          have J4 : Inv X pins σ1 H1 { s' with heap := h9 } := J.landed nb fl9.1 ((up4).trans up9) os ag
          obtain ⟨o4, v4, he4, hz4, hd4⟩ := fl9.there
          have S4 := J4.suite he4 hd4 na nL nF
          refine store_ok (X := X.suite a ((a, o4) :: (X.pn ++ pins))) (v := .ref a) S4 hN hi (.inl hln) rfl (fun s5 S5 => ?_) (.inr hln)
          refine wpAny_mono ((hsu a o4 cls d (X.pn ++ pins) hz4 ⟨_, hd4⟩).run [] s5 _ H1 _ S5 (yes rfl a na)) (fun f s6 hsp => ?_) (fun _ _ z => False.elim z)
          have out : ∀ {σ6 : L2.St} {H6 : Hp} {Q : Shared → Prop}, Inv (X.suite a ((a, o4) :: (X.pn ++ pins))) [] σ6 H6 s6 → (∀ s7, Inv X pins (σ6.set i none) H6 s7 → Q s7) →
              wpAny (model X.prog X.w) X.A (do bindName X.env n .none; unbindBehindTheSuite X.env n p5) (fun _ s7 => Q s7) X.xe s6 := fun {σ6 H6 Q} S6 hq => gone_ok (S6.unsuite ok) hN hi hln hq
          match f, hsp with
          | .next, ⟨σ6, H6, S6, q6⟩ => exact out S6 fun s7 J7 => ⟨_, _, J7, q6⟩
          | .brk, ⟨σ6, H6, S6, q6⟩ => exact out S6 fun s7 J7 => ⟨_, _, J7, q6⟩
          | .cont, ⟨σ6, H6, S6, q6⟩ => exact out S6 fun s7 J7 => ⟨_, _, J7, q6⟩
          | .ret u, ⟨v6, σ6, H6, S6, r6, q6⟩ => exact out S6 fun s7 J7 => ⟨_, _, _, J7, r6, q6⟩
    exact go hh hL flL (up.trans upL) w
  · match f, hsp with
    | .next, ⟨σ1, H1, J1, q⟩ => exact wpAny_execs_nil ⟨σ1, H1, J1.ofTry ok, q⟩
    | .brk, ⟨σ1, H1, J1, q⟩ => exact ⟨σ1, H1, J1.ofTry ok, q⟩
    | .cont, ⟨σ1, H1, J1, q⟩ => exact ⟨σ1, H1, J1.ofTry ok, q⟩
    | .ret u, ⟨v, σ1, H1, J1, r, q⟩ => exact ⟨v, σ1, H1, J1.ofTry ok, r, q⟩
end
end Ex

set_option Elab.async false
set_option linter.all false
set_option maxRecDepth 100000
set_option maxHeartbeats 4000000
/-! Own layer: xs.count(y) of flat values. -/
namespace L2
open PySem PySem.Spec PyProof.Rows
section
variable {X : Cx}
theorem countP_flat {y : V} : ∀ {ys : List V} {us : List Value}, Vals ys us → ys.all flatV = true → us.countP (eqU y) = ys.countP fun z => eqV z y
  | _, _, .nil, _ => rfl
  | z :: ys, u :: us, .cons r rs, f => by
    obtain ⟨f1, f2⟩ := He.ba (show (flatV z && ys.all flatV) = true from f)
    rw [List.countP_cons, List.countP_cons, countP_flat rs f2, eqU_of r f1]
def rCountF (K : PySem.W.Frag) : V → List V → Hp → VK → Prop := fun x xs H Q => ∃ (a : Addr) (ys : List V) (y : V), x = V.ref a ∧ xs = [y] ∧ SqL K H a ys ∧ flatV y = true ∧ ys.all flatV = true ∧ Q (.int ((ys.countP fun z => eqV z y : Nat))) H
theorem mt_countF : MtR X "list.count" (rCountF X.K) := by
  intro pins s σ H x xs v us Q I rx rxs h
  obtain ⟨a, ys, y, rfl, rfl, hs, fy, fys, q⟩ := h
  cases rx
  obtain ⟨uy, rfl, ry⟩ := rxs.one
  obtain ⟨its, rv, ⟨⟨cls, dd, data, sl⟩, n, ho, hc, hdn, hd⟩, hlen⟩ := I.list hs
  simp only at hc hd
  subst hc hd
  refine call_meets PySem.F.slot_list_count ⟨_, ho, rfl⟩ PySem.F.entry_list_count (PySem.F.args_list_count_2 _ _)
    (SeqAt.list_countAt a its.toArray n dd sl uy (eqU y)) ⟨ho, fun u' hu' => mem_eqAt ry fy rv fys u' (by simpa using hu'), ?_⟩
  refine ⟨.int ((ys.countP fun z => eqV z y : Nat)), H, I.tok _, ⟨s.toks, ?_⟩, q⟩
  show Value.int ((its.toArray.toList.countP (eqU y) : Nat) : Int) s.toks = _
  rw [show its.toArray.toList = its from rfl, countP_flat rv fys]
end
end L2

set_option Elab.async false
set_option linter.all false
set_option maxRecDepth 100000
set_option maxHeartbeats 4000000
set_option pp.maxSteps 900
namespace K18
open PySem PySem.Spec PyProof.Rows L2 Gu Ex
/-- the six classes in the law's order -/
def wc (K : PySem.W.Frag) : Nat → Addr
  | 0 => cA K
  | 1 => cC K
  | 2 => cL K
  | 3 => cNu K
  | 4 => cX K
  | _ => cT K
def wordOf : Nat → Str
  | 0 => "address"
  | 1 => "count"
  | 2 => "level"
  | 3 => "number"
  | 4 => "text"
  | _ => "pieces"
/-- D is the j-th of them -/
structure KitW (K : PySem.W.Frag) (D : Addr) (j : Nat) : Prop where
  ec : ExcC K D
  k : ∀ i, i < 6 → PySem.W.kitOne K (.ref D) (.ref (wc K i)) = some (decide (i = j))
  r : PySem.W.kitOne K (.ref D) (.ref (He.ga K "RoomError")) = some (!decide (j = 5))
  a : PySem.W.kitOne K (.ref D) (.type "ArithmeticError") = some (decide (j = 5))
def bits (j : Nat) : List V := (List.range 6).map fun i => V.bl (decide (i = j))
theorem bits_at {j m : Nat} {z : V} (h : (bits j)[m]? = some z) : z = .bl (decide (m = j)) := by
  unfold bits at h
  rw [List.getElem?_map] at h
  obtain ⟨i, hi, e⟩ := Option.map_eq_some_iff.mp h
  have hl := (List.getElem?_eq_some_iff.mp hi).1
  rw [List.length_range] at hl
  rw [List.getElem?_range hl] at hi
  cases hi
  exact e.symm
theorem bits_get {j m : Nat} (h : m < 6) : (bits j)[m]? = some (.bl (decide (m = j))) := by
  unfold bits
  rw [List.getElem?_map, List.getElem?_range h]
  rfl
theorem bits_flat (j : Nat) : (bits j).all flatV = true := rfl
theorem bits_count {j : Nat} (h : j < 6) : (bits j).countP (fun z => eqV z (.bl true)) = 1 := by
  have : j = 0 ∨ j = 1 ∨ j = 2 ∨ j = 3 ∨ j = 4 ∨ j = 5 := by omega
  rcases this with rfl | rfl | rfl | rfl | rfl | rfl <;> decide
theorem five_r (j : Nat) : decide (V.bl (!decide (j = 5)) = V.bl (decide (5 = j))) = false := by
  by_cases e : j = 5
  · subst e
    rfl
  · have h1 : decide (j = 5) = false := decide_eq_false e
    have h2 : decide (5 = j) = false := decide_eq_false fun z => e z.symm
    rw [h1, h2]
    rfl
theorem five_a (j : Nat) : decide (V.bl (decide (j = 5)) = V.bl (decide (5 = j))) = true := by
  by_cases e : j = 5
  · subst e
    rfl
  · have h1 : decide (j = 5) = false := decide_eq_false e
    have h2 : decide (5 = j) = false := decide_eq_false fun z => e z.symm
    rw [h1, h2]
    rfl
def wordsL : List V := [.str "address", .str "count", .str "level", .str "number", .str "text", .str "pieces"]
theorem words_at {j : Nat} (h : j < 6) : atI wordsL (j : Int) = some (.str (wordOf j)) := by
  have : j = 0 ∨ j = 1 ∨ j = 2 ∨ j = 3 ∨ j = 4 ∨ j = 5 := by omega
  rcases this with rfl | rfl | rfl | rfl | rfl | rfl <;> rfl
section
variable {P : Program} {w : World} {K : PySem.W.Frag} {mg : Str → Option Value} {base : Heap} {f : Addr} {fd : FuncData}
def spWord (K : PySem.W.Frag) : SpE := fun a D d vs H Q _ => ∃ (j : Nat) (dd : Addr) (fs : List (Str × V)), j < 6 ∧ vs = [.ref a] ∧ KitW K D j ∧ d = some dd ∧ H dd = some (.xd fs) ∧ ∀ H', Same H H' → Q (.str (wordOf j)) H'
theorem sc__law_word : FnScope ["_law_e", "_law_some"] ["_law_e"] (defScope (top 39)) := ⟨rfl, rfl, rfl, by decide +kernel, rfl, by decide +kernel, by decide +kernel⟩
theorem ok_word (T : Tx K mg) (F : FnP K "_law_word" "_law_word" (top 39) f fd) : FnE P w K mg base 1 f fd ["_law_e"] (spWord K) := by
  refine okE F sc__law_word (fun a D d vs H Q E h => ?_) (fun cdv A outer s H vs Q a D d oe hr hz hf h => ?_)
  · obtain ⟨j, dd, fs, _, rfl, _⟩ := h
    rfl
  · obtain ⟨j, dd, fs, j6, rfl, hC, ed, hd, q⟩ := h
    have hk := hC.k
    refine ⟨_, (pss_cons (ps_set (i := 1) sc__law_word.nd rfl (by first | exact Or.inl rfl | exact Or.inr rfl) (pe_lst (pa_cons (by exact (pe_callB (r := rIsX K D a (.ref D) d) (id := "isinstance") (call_isP hC.ec List.mem_cons_self hz hf) (by rfl) T.n_isinstance (by decide +kernel) (by exact (pa_cons (pv 0) (pa_cons (pe_glob (v := .ref _) rfl T.g_InvalidAddress rfl) pa_nil))))) (pa_cons (by exact (pe_callB (r := rIsX K D a (.ref D) d) (id := "isinstance") (call_isP hC.ec List.mem_cons_self hz hf) (by rfl) T.n_isinstance (by decide +kernel) (by exact (pa_cons (pv 0) (pa_cons (pe_glob (v := .ref _) rfl T.g_InvalidCount rfl) pa_nil))))) (pa_cons (by exact (pe_callB (r := rIsX K D a (.ref D) d) (id := "isinstance") (call_isP hC.ec List.mem_cons_self hz hf) (by rfl) T.n_isinstance (by decide +kernel) (by exact (pa_cons (pv 0) (pa_cons (pe_glob (v := .ref _) rfl T.g_InvalidLevel rfl) pa_nil))))) pa_nil))))) (pss_cons (ps_set (i := 1) sc__law_word.nd rfl (by first | exact Or.inl rfl | exact Or.inr rfl) (pe_op op_cat (pv 1) (pe_lst (pa_cons (by exact (pe_callB (r := rIsX K D a (.ref D) d) (id := "isinstance") (call_isP hC.ec List.mem_cons_self hz hf) (by rfl) T.n_isinstance (by decide +kernel) (by exact (pa_cons (pv 0) (pa_cons (pe_glob (v := .ref _) rfl T.g_InvalidNumber rfl) pa_nil))))) (pa_cons (by exact (pe_callB (r := rIsX K D a (.ref D) d) (id := "isinstance") (call_isP hC.ec List.mem_cons_self hz hf) (by rfl) T.n_isinstance (by decide +kernel) (by exact (pa_cons (pv 0) (pa_cons (pe_glob (v := .ref _) rfl T.g_InvalidText rfl) pa_nil))))) (pa_cons (by exact (pe_callB (r := rIsX K D a (.ref D) d) (id := "isinstance") (call_isP hC.ec List.mem_cons_self hz hf) (by rfl) T.n_isinstance (by decide +kernel) (by exact (pa_cons (pv 0) (pa_cons (pe_glob (v := .ref _) rfl T.g_TooManyPieces rfl) pa_nil))))) pa_nil)))))) (pss_cons (ps_if (PW.pt (pw_or (pt_cmpR op_ne (pe_bm PySem.F.plainAttrs_list PySem.F.slot_list_count PySem.F.type_list_count L2.mt_countF (pv 1) (pa_cons pe_bl pa_nil)) pe_int (nomark _)) (pw_or (pt_cmpR op_eq (by exact (pe_callB (r := rIsX K D a (.ref D) d) (id := "isinstance") (call_isP hC.ec List.mem_cons_self hz hf) (by rfl) T.n_isinstance (by decide +kernel) (by exact (pa_cons (pv 0) (pa_cons (pe_glob (v := .ref _) rfl T.g_RoomError rfl) pa_nil))))) (pe_ix ix_list (pv 1) pe_int (fun _ _ => rfl)) (nomark _)) (pw_or1 (pt_cmpR op_ne (by exact (pe_callB (r := rIsX K D a (.ref D) d) (id := "isinstance") (call_isP hC.ec List.mem_cons_self hz hf) (by rfl) T.n_isinstance (by decide +kernel) (by exact (pa_cons (pv 0) (pa_cons (pe_bltn (v := .ty "ArithmeticError") (by rfl) T.n_ArithmeticError (by decide +kernel) rfl) pa_nil))))) (pe_ix ix_list (pv 1) pe_int (fun _ _ => rfl)) (nomark _)))))) (pss_one (ps_ret pe_str)) pss_nil) (pss_one (ps_ret (pe_ix ix_list (pe_lst (pa_cons pe_str (pa_cons pe_str (pa_cons pe_str (pa_cons pe_str (pa_cons pe_str (pa_cons pe_str pa_nil))))))) (pe_bm PySem.F.plainAttrs_list PySem.F.slot_list_index PySem.F.type_list_index mt_index (pv 1) (pa_cons pe_bl pa_nil)) (fun _ _ => rfl))))))), ?_⟩
    refine ⟨_, rfl, _, _, _, dd, _, rfl, rfl, ed, .own _, hd, hk 0 (by decide), _, rfl, _, _, _, dd, _, rfl, rfl, ed, .own _, hd, hk 1 (by decide), _, rfl, _, _, _, dd, _, rfl, rfl, ed, .own _, hd, hk 2 (by decide), (by show 3 ≤ sizeLine; decide), fun p hp => ?_⟩
    have hd1 := same_upd (o := .lst [.bl (decide (0 = j)), .bl (decide (1 = j)), .bl (decide (2 = j))]) hp _ _ hd
    refine ⟨_, rfl, _, rfl, _, _, _, dd, _, rfl, rfl, ed, .own _, hd1, hk 3 (by decide), _, rfl, _, _, _, dd, _, rfl, rfl, ed, .own _, hd1, hk 4 (by decide), _, rfl, _, _, _, dd, _, rfl, rfl, ed, .own _, hd1, hk 5 (by decide), (by show 3 ≤ sizeLine; decide), fun p2 hp2 => ?_⟩
    have s2 := (same_upd (o := .lst [.bl (decide (0 = j)), .bl (decide (1 = j)), .bl (decide (2 = j))]) hp).trans (same_upd (o := .lst [.bl (decide (3 = j)), .bl (decide (4 = j)), .bl (decide (5 = j))]) hp2)
    refine ⟨p, p2, _, _, rfl, rfl, same_upd hp2 _ _ upd_same, upd_same, by rw [sizeLine_eq]; show 3 + 3 ≤ 16777216; decide, fun L hL => ?_⟩
    have s3 := s2.trans (same_upd (o := .lst (bits j)) hL)
    have hL3 : (upd (upd (upd H p (.lst [.bl (decide (0 = j)), .bl (decide (1 = j)), .bl (decide (2 = j))])) p2 (.lst [.bl (decide (3 = j)), .bl (decide (4 = j)), .bl (decide (5 = j))])) L (.lst (bits j))) L = some (.lst (bits j)) := upd_same
    have hd3 := s3 _ _ hd
    refine ⟨_, rfl, .inl ⟨rfl, _, SqL.of hL3⟩, L, _, .bl true, rfl, rfl, SqL.of hL3, rfl, bits_flat j, rfl, false, by rw [bits_count j6]; rfl, iteF ?_⟩
    refine ⟨_, rfl, _, _, _, dd, _, rfl, rfl, ed, .own _, hd3, hC.r, _, rfl, L, _, _, _, rfl, rfl, SqL.of hL3, atI_nat (bits_get (by decide)), rfl, false, ?_, iteF ?_⟩
    · rw [five_r]
    refine ⟨_, rfl, _, _, _, dd, _, rfl, rfl, ed, .ty _, hd3, hC.a, _, rfl, L, _, _, _, rfl, rfl, SqL.of hL3, atI_nat (bits_get (by decide)), rfl, false, ?_, iteF ?_⟩
    · rw [five_a]
      rfl
    refine ⟨(by show 6 ≤ sizeLine; decide), fun M hM => ⟨_, rfl, .inl ⟨rfl, _, SqL.of (same_upd hM _ _ hL3)⟩, L, _, .bl true, j, .bl (decide (j = j)), rfl, rfl, SqL.of (same_upd hM _ _ hL3), rfl, bits_flat j, bits_get j6, by rw [decide_eq_true rfl]; rfl, fun m z' hm hz' => ?_, M, wordsL, _, _, rfl, rfl, SqL.of upd_same, words_at j6, q _ (s3.trans (same_upd hM))⟩⟩
    rw [bits_at hz', decide_eq_false (show ¬ m = j by omega)]
    rfl
end
end K18

set_option Elab.async false
set_option linter.all false
set_option maxRecDepth 100000
set_option maxHeartbeats 4000000
set_option pp.maxSteps 900
namespace Ex
open PySem PySem.Spec PySem.Calls PyProof.Rows L2 Gu
section
variable {X : Cx} {k j : Nat} {x : Str} {ps : List Str} {sp : Sp} {p pos : Pos} {e : Expr} {es : List Expr} {t : TA} {W : WX}
/-- f(e, ..) in a try's body -/
theorem pcallT (D : DfX X.prog X.w X.K X.mg X.base k x ps sp) (hr : Room j X.A) (tk : Takes X W) (ha : PA X (e :: es) t) (hj : k ≤ j := by decide) (hg : Gl X x := by rfl) (hdb : (x == ("__debug__" : Str)) = false := by decide)
    (he : starEach (e :: es) X.env = (false, eval e X.env) :: starEach es X.env := by rfl) (hpl : (backTo pos (starEach es X.env)).any (·.1) = false := by rfl) :
    PE X (.Call (.Name x p) (e :: es) [] pos) (tCallS sp (WE W) t) := by
  obtain ⟨fd, F, b⟩ := D.ex
  exact pe_callS F (hr.mono hj) hg D.gl D.kp b (fun σ => passAt tk σ) ha hdb he hpl
end
end Ex
namespace K18
open PySem PySem.Spec PyProof.Rows L2 Gu Ex
def fldOf : Nat → Str
  | 4 => "line"
  | 5 => "limit"
  | _ => "value"
theorem fld_low {j : Nat} (h : j < 4) : fldOf j = "value" := by
  have : j = 0 ∨ j = 1 ∨ j = 2 ∨ j = 3 := by omega
  rcases this with rfl | rfl | rfl | rfl <;> rfl
/-- what the classes are to each other -/
structure KitX (K : PySem.W.Frag) : Prop where
  w : ∀ j, j < 6 → KitW K (wc K j) j
  xf : ∀ j, j < 6 → XfC K (wc K j)
  no : ∀ j, j < 6 → PySem.W.findIn K (.ref (wc K j)) (fldOf j) = some none
  e4 : ∀ j, j < 6 → PySem.W.exmAny K (.ref (wc K j)) [.ref (cA K), .ref (cC K), .ref (cL K), .ref (cNu K)] = some (decide (j < 4))
  eX : ∀ j, j < 6 → PySem.W.exmOne K (.ref (wc K j)) (.ref (cX K)) = some (decide (j = 4))
  eT : ∀ j, j < 6 → PySem.W.exmOne K (.ref (wc K j)) (.ref (cT K)) = some (decide (j = 5))
/-- how a call ends: nothing raised, or the j-th class with v -/
def DoOut (K : PySem.W.Frag) (p : Addr) (w : Str) (xs : List V) (H : Hp) : Option (Nat × V) → Prop
  | none => ∀ Q E, (∀ v H', Same H H' → Q v H') → DoCase K p w xs H Q E
  | some (j, v) => ∀ Q E, (∀ d H', H d = none → Same H H' → H' d = some (.xd [(fldOf j, v)]) → E (.ref (wc K j)) (some d) H') → DoCase K p w xs H Q E
/-- e.n of the caught error, whatever its class -/
def tXfA (K : PySem.W.Frag) (a : Addr) (cls : Value) (d : Option Addr) (n : Str) (te : TE) : TE := fun σ H Q => ∃ C, XfC K C ∧ PySem.W.findIn K (.ref C) n = some none ∧ tXf a cls d C n te σ H Q
theorem pe_xfA {X : Cx} {a : Addr} {oe : Obj} {cls : Value} {d : Option Addr} {pn : List (Addr × Obj)} {e : Expr} {te : TE} {pos : Pos} {n : Str}
    (hz : Zc cls d oe) (hf : ∃ vs, oe.data = .fields vs) (he : PE (X.suite a ((a, oe) :: pn)) e te) (hb : attributeBase e n X.env (eval e X.env) = eval e X.env := by rfl) :
    PE (X.suite a ((a, oe) :: pn)) (.Attribute e n pos) (tXfA X.K a cls d n te) :=
  ⟨fun pins s σ H Q I ⟨C, hx, hn, q⟩ => (pe_xf hx hn hz hf he hb).run pins s σ H Q I q⟩
def t_err (K : PySem.W.Frag) (n : Str) (a : Addr) (cls : Value) (d : Option Addr) : TS :=
  tAsg (tTup (tCons (tCallE (spWord K) a cls d (tCons (tVar 4) tNil)) (tCons (tXfA K a cls d n (tVar 4)) tNil))) (gName 3)
section
variable {K : PySem.W.Frag} {H : Hp} {n m : Nat}
theorem tqa_nil : TqAll K H [] [] n m := ⟨.nil, rfl, Nat.zero_le _, Nat.zero_le _⟩
theorem tqa_cons {v : V} {vs : List V} {d : PyData} {ds : List PyData} (t : Tq K H v d n m) (a : TqAll K H vs ds n m) : TqAll K H (v :: vs) (d :: ds) n m := by
  refine ⟨.cons t.dq a.dq, ?_, ?_, ?_⟩
  · show (d.showable && PyData.showableAll ds) = true
    rw [t.sh, a.sh]
    rfl
  · show max d.depth (PyData.depthAll ds) ≤ n
    have := t.dp
    have := a.dp
    omega
  · show (d.shown.length + ((PyData.shownAll ds).map (·.length)).sum) + 2 * ((PyData.shownAll ds).length + 1) ≤ (vs.length + 1) * (m + 2)
    have := t.ln
    have := a.ln
    rw [Nat.add_mul, Nat.one_mul]
    omega
theorem none_tq {t : Addr} (h : H t = some (.tup [.str "none", .non])) : Tq K H (.ref t) (.tuple [.str "none", .none]) 2 900 :=
  ((tqa_cons (tq_text "none" (by decide +kernel)) (tqa_cons tq_non tqa_nil)).tup h).mono (by decide) (by show 2 * (41 + 2) + 3 ≤ 900; decide)
theorem word_tq {j : Nat} (h : j < 6) : Tq K H (.str (wordOf j)) (.str (wordOf j)) 0 41 := by
  have : j = 0 ∨ j = 1 ∨ j = 2 ∨ j = 3 ∨ j = 4 ∨ j = 5 := by omega
  rcases this with rfl | rfl | rfl | rfl | rfl | rfl
  · exact tq_text "address" (by decide +kernel)
  · exact tq_text "count" (by decide +kernel)
  · exact tq_text "level" (by decide +kernel)
  · exact tq_text "number" (by decide +kernel)
  · exact tq_text "text" (by decide +kernel)
  · exact tq_text "pieces" (by decide +kernel)
theorem due_tq {t : Addr} {j : Nat} {v : V} {d : PyData} (j6 : j < 6) (td : Tq K H v d 4 100) (h : H t = some (.tup [.str (wordOf j), v])) : Tq K H (.ref t) (.tuple [.str (wordOf j), d]) 5 900 :=
  ((tqa_cons ((word_tq j6).mono (by decide) (by decide)) (tqa_cons td tqa_nil)).tup h).mono (by decide) (by show 2 * (100 + 2) + 3 ≤ 900; decide)
end
def dueD : Option (Nat × PyData) → PyData
  | none => .tuple [.str "none", .none]
  | some (j, d) => .tuple [.str (wordOf j), d]
/-- the value's data -/
def OutD (K : PySem.W.Frag) (H : Hp) : Option (Nat × V) → Option (Nat × PyData) → Prop
  | none, none => True
  | some (j, v), some (i, d) => j = i ∧ j < 6 ∧ Tq K H v d 4 100
  | _, _ => False
section
variable {P : Program} {w : World} {K : PySem.W.Frag} {mg : Str → Option Value} {base : Heap} {f : Addr} {fd : FuncData}
def spTold (K : PySem.W.Frag) : Sp := fun vs H Q _ => ∃ (p : Addr) (ns : List Int) (w : Str) (t : Addr) (xs : List V) (out : Option (Nat × V)) (du : Option (Nat × PyData)), vs = [.ref p, .str w, .ref t] ∧ SzI K H p ns ∧ H t = some (.tup xs) ∧
  (∀ H1, Same H H1 → DoOut K p w xs H1 out) ∧ OutD K H out du ∧ ∀ H', Same H H' → Q (.str (dueD du).shown) H'
theorem sc__law_told : FnScope ["_law_made", "_law_word_here", "_law_things", "_law_told_here", "_law_e"] ["_law_made", "_law_word_here", "_law_things"] (defScope (top 41)) := ⟨rfl, rfl, rfl, by decide +kernel, rfl, by decide +kernel, by decide +kernel⟩
theorem ok_told (T : Tx K mg) (KX : KitX K) (D__law_do : DfX P w K mg base 8 "_law_do" ["_law_made", "_law_word_here", "_law_things"] (spDo K)) (D__law_word : DfE P w K mg base 1 "_law_word" ["_law_e"] (spWord K))
    (F : FnP K "_law_told" "_law_told" (top 41) f fd) : FnG P w K mg base CX0 10 f fd ["_law_made", "_law_word_here", "_law_things"] (spTold K) := by
  refine okG F sc__law_told (fun vs H Q E h => ?_) (fun cdv A outer s H vs Q E hr h => ⟨_, PSs.nox (pss_cons (ps_set (i := 3) sc__law_told.nd rfl (Or.inl rfl) (pe_tup (pa_cons pe_str (pa_cons pe_non pa_nil))))
    (pss_cons (ps_try_as4 (i := 4) (tb := fun W => tDrop (tCallS (spDo K) (WE W) (tCons (tVar 0) (tCons (tVar 1) (tCons (tVar 2) tNil))))) (Wout := fun _ _ _ _ => False)
        (l := [(.four (.ref (cA K)) (.ref (cC K)) (.ref (cL K)) (.ref (cNu K)), t_err K "value"), (.one (.ref (cX K)), t_err K "line"), (.one (.ref (cT K)), t_err K "limit")])
        rfl rfl sc__law_told.nd rfl rfl takes0
      (fun W pn xe tk _ => pss_one (ps_expr (by exact (pcallT D__law_do hr.r tk (pa_cons (pv 0) (pa_cons (pv 1) (pa_cons (pv 2) pa_nil)))))))
      (HdAs4.four ⟨rfl, by decide, Or.inl T.g_InvalidAddress⟩ ⟨rfl, by decide, Or.inl T.g_InvalidCount⟩ ⟨rfl, by decide, Or.inl T.g_InvalidLevel⟩ ⟨rfl, by decide, Or.inl T.g_InvalidNumber⟩
        (fun a oe cls d pn hz hf => pss_one (ps_set (i := 3) sc__law_told.nd rfl (Or.inl rfl) (by exact (pe_tup (pa_cons (by exact (pcallE D__law_word (L2H.roomH_mark hr.r _) List.mem_cons_self hz hf (pa_cons (pv 4) pa_nil))) (pa_cons (by exact (pe_xfA hz hf (pv 4))) pa_nil))))))
      (HdAs4.one ⟨rfl, by decide, Or.inl T.g_InvalidText⟩
        (fun a oe cls d pn hz hf => pss_one (ps_set (i := 3) sc__law_told.nd rfl (Or.inl rfl) (by exact (pe_tup (pa_cons (by exact (pcallE D__law_word (L2H.roomH_mark hr.r _) List.mem_cons_self hz hf (pa_cons (pv 4) pa_nil))) (pa_cons (by exact (pe_xfA hz hf (pv 4))) pa_nil))))))
      (HdAs4.one ⟨rfl, by decide, Or.inl T.g_TooManyPieces⟩
        (fun a oe cls d pn hz hf => pss_one (ps_set (i := 3) sc__law_told.nd rfl (Or.inl rfl) (by exact (pe_tup (pa_cons (by exact (pcallE D__law_word (L2H.roomH_mark hr.r _) List.mem_cons_self hz hf (pa_cons (pv 4) pa_nil))) (pa_cons (by exact (pe_xfA hz hf (pv 4))) pa_nil))))))
      .nil))))
    (pss_one (ps_ret (pe_callB (call_reprQ hr T.sys) (by rfl) T.n_repr (by decide +kernel) (pa_cons (pv 3) pa_nil)))))), ?_⟩)
  · obtain ⟨p, ns, w, t, xs, out, du, rfl, _⟩ := h
    rfl
  · obtain ⟨p, ns, w, t, xs, out, du, rfl, hz, ht, dout, od, q⟩ := h
    refine ⟨(by show 2 ≤ sizeLine; decide), fun b hb => ?_⟩
    have sb : Same H (upd H b (.tup [.str "none", .non])) := same_upd hb
    have hB : (upd H b (.tup [.str "none", .non])) b = some (.tup [.str "none", .non]) := upd_same
    generalize upd H b (.tup [.str "none", .non]) = H1 at *
    refine ⟨_, rfl, _, rfl, _, rfl, p, ns, w, t, xs, rfl, hz.same sb, sb _ _ ht, ?_⟩
    have D := dout H1 sb
    match out, du, D, od with
    | none, none, D, _ =>
      refine D _ _ fun v H' s' => ?_
      have tq := none_tq (K := K) (s' _ _ hB)
      exact ⟨_, rfl, _, _, rfl, tq.dq, tq.sh, Nat.le_trans tq.dp (by decide), Nat.le_trans tq.ln (by decide), q _ (sb.trans s')⟩
    | some (j, v), some (_, d), D, ⟨rfl, j6, td⟩ =>
      refine D _ _ fun dd H' hd s' hx => ?_
      by_cases h4 : j < 4
      · refine ⟨true, (KX.e4 j j6).trans (by rw [decide_eq_true h4]), fun _ a0 ha0 => ?_, fun z => Bool.noConfusion z⟩
        have hn : fldOf j = "value" := fld_low h4
        refine ⟨_, rfl, wc K j, rfl, ⟨j, dd, _, j6, rfl, KX.w j j6, rfl, hx, fun H2 s2 => ?_⟩⟩
        refine ⟨wc K j, KX.xf j j6, by rw [← hn]; exact KX.no j j6, _, rfl, rfl, rfl, dd, _, v, rfl, s2 _ _ hx, by rw [hn]; simp [List.lookup], (by show 2 ≤ sizeLine; decide), fun tp htp => ?_⟩
        have s3 := (sb.trans (s'.trans s2)).trans (same_upd (o := .tup [.str (wordOf j), v]) htp)
        have tq := due_tq (K := K) j6 (td.same s3) (upd_same (H := H2) (a := tp) (o := .tup [.str (wordOf j), v]))
        exact ⟨_, rfl, _, _, rfl, tq.dq, tq.sh, Nat.le_trans tq.dp (by decide), Nat.le_trans tq.ln (by decide), q _ s3⟩
      · refine ⟨false, (KX.e4 j j6).trans (by rw [decide_eq_false h4]), fun z => Bool.noConfusion z, fun _ => ?_⟩
        by_cases h5 : j = 4
        · refine ⟨true, (KX.eX j j6).trans (by rw [decide_eq_true h5]), fun _ a0 ha0 => ?_, fun z => Bool.noConfusion z⟩
          have hn : fldOf j = "line" := by rw [h5]; rfl
          refine ⟨_, rfl, wc K j, rfl, ⟨j, dd, _, j6, rfl, KX.w j j6, rfl, hx, fun H2 s2 => ?_⟩⟩
          refine ⟨wc K j, KX.xf j j6, by rw [← hn]; exact KX.no j j6, _, rfl, rfl, rfl, dd, _, v, rfl, s2 _ _ hx, by rw [hn]; simp [List.lookup], (by show 2 ≤ sizeLine; decide), fun tp htp => ?_⟩
          have s3 := (sb.trans (s'.trans s2)).trans (same_upd (o := .tup [.str (wordOf j), v]) htp)
          have tq := due_tq (K := K) j6 (td.same s3) (upd_same (H := H2) (a := tp) (o := .tup [.str (wordOf j), v]))
          exact ⟨_, rfl, _, _, rfl, tq.dq, tq.sh, Nat.le_trans tq.dp (by decide), Nat.le_trans tq.ln (by decide), q _ s3⟩
        · refine ⟨false, (KX.eX j j6).trans (by rw [decide_eq_false h5]), fun z => Bool.noConfusion z, fun _ => ?_⟩
          have h6 : j = 5 := by omega
          refine ⟨true, (KX.eT j j6).trans (by rw [decide_eq_true h6]), fun _ a0 ha0 => ?_, fun z => Bool.noConfusion z⟩
          have hn : fldOf j = "limit" := by rw [h6]; rfl
          refine ⟨_, rfl, wc K j, rfl, ⟨j, dd, _, j6, rfl, KX.w j j6, rfl, hx, fun H2 s2 => ?_⟩⟩
          refine ⟨wc K j, KX.xf j j6, by rw [← hn]; exact KX.no j j6, _, rfl, rfl, rfl, dd, _, v, rfl, s2 _ _ hx, by rw [hn]; simp [List.lookup], (by show 2 ≤ sizeLine; decide), fun tp htp => ?_⟩
          have s3 := (sb.trans (s'.trans s2)).trans (same_upd (o := .tup [.str (wordOf j), v]) htp)
          have tq := due_tq (K := K) j6 (td.same s3) (upd_same (H := H2) (a := tp) (o := .tup [.str (wordOf j), v]))
          exact ⟨_, rfl, _, _, rfl, tq.dq, tq.sh, Nat.le_trans tq.dp (by decide), Nat.le_trans tq.ln (by decide), q _ s3⟩
end
end K18

set_option Elab.async false
set_option linter.all false
set_option maxRecDepth 100000
set_option maxHeartbeats 4000000
/-! Mathematics of k11: the text written from sizes is read as them. -/
namespace K18
open PySem PySem.Spec PyProof.Rows L2 Gu Ex
abbrev num (z : Int) : Str := Str.ofString (toString z)
theorem num_cs (n : Nat) : cs (num (n : Int)) = TL.numL n := TL.tl_num n
theorem num_head : ∀ (n : Nat), 1 ≤ n → ∃ c r, TL.numL n = c :: r ∧ c ≠ 48 := by
  intro n
  induction n using Nat.strongRecOn with
  | _ n ih =>
    intro h
    by_cases h10 : n < 10
    · exact ⟨48 + n, [], TL.numL_lt h10, by omega⟩
    · obtain ⟨c, r, e, hc⟩ := ih (n / 10) (by omega) (by omega)
      exact ⟨c, r ++ [48 + n % 10], by rw [TL.numL_step (by omega), e]; rfl, hc⟩
theorem num_isW {n : Nat} (h : 1 ≤ n) : isW (num (n : Int)) = true := by
  unfold isW
  rw [num_cs]
  obtain ⟨c, r, e, hc⟩ := num_head n h
  have ad := TL.numL_digits n
  rw [e] at ad ⊢
  show (decide (c ≠ 48) && allD (c :: r)) = true
  rw [decide_eq_true hc, allD_iff.mpr ad]
  rfl
theorem num_len {n : Nat} (h : n < 10 ^ 10) : (num (n : Int)).length ≤ 10 := by
  rw [len_cs, num_cs]
  exact TL.numL_len (by decide) h
theorem num_rd {n : Nat} (h : n < 10 ^ 10) : rd (num (n : Int)) = (n : Int) := by
  unfold rd
  rw [show intText? (num (n : Int)) = some (n : Int) from TL.int_num (Nat.le_trans (TL.numL_len (k := 10) (by decide) h) (by decide))]
  rfl
/-- the text of these numbers -/
def wrt (ns : List Int) : Str := Txt.join " " (ns.map num)
def Ok10 (ns : List Int) : Prop := ∀ z ∈ ns, 1 ≤ z ∧ z < 10 ^ 10
theorem Ok10.nat {ns : List Int} (h : Ok10 ns) {z : Int} (hz : z ∈ ns) : ∃ n : Nat, z = (n : Int) ∧ 1 ≤ n ∧ n < 10 ^ 10 := by
  have := h z hz
  have e : (10 : Int) ^ 10 = 10000000000 := by decide
  have e2 : (10 : Nat) ^ 10 = 10000000000 := by decide
  exact ⟨z.toNat, by omega, by omega, by omega⟩
theorem wds_wrt {ns : List Int} (h : Ok10 ns) (hn : ns ≠ []) : wds (wrt ns) = ns.map num := by
  have hy : TL.tl (" " : Str) = 32 :: [] := by decide +kernel
  refine TL.split_join hy (by decide +kernel) (fun e => hn (List.map_eq_nil_iff.mp e)) fun p hp => ?_
  obtain ⟨z, hz, rfl⟩ := List.mem_map.mp hp
  obtain ⟨n, rfl, _, _⟩ := h.nat hz
  rw [show TL.tl (num (n : Int)) = TL.numL n from TL.tl_num n]
  exact TL.numL_free (.inl (by decide))
theorem wrt_read {ns : List Int} (h : Ok10 ns) (g : Good ns) : RdS (wrt ns) ns := by
  have l1 := g.len.1
  have hn : ns ≠ [] := fun e => by rw [e] at l1; cases l1
  refine ⟨fun w hw => ?_, ?_, g⟩
  · rw [wds_wrt h hn] at hw
    obtain ⟨z, hz, rfl⟩ := List.mem_map.mp hw
    obtain ⟨n, rfl, n1, _⟩ := h.nat hz
    exact num_isW n1
  · rw [wds_wrt h hn, List.map_map]
    symm
    conv => rhs; rw [← List.map_id ns]
    refine List.map_congr_left fun z hz => ?_
    obtain ⟨n, rfl, _, n2⟩ := h.nat hz
    exact num_rd n2
theorem good_ok10 {ns : List Int} (g : Good ns) : Ok10 ns := fun z hz => by
  obtain ⟨i, hi⟩ := List.getElem?_of_mem hz
  have := g.rng i z hi
  have e : (10 : Int) ^ 10 = 10000000000 := by decide
  omega
theorem joinL_ch : ∀ (ps : List (List Nat)), (∀ p ∈ ps, ∀ c ∈ p, c < 1114112) → ∀ c ∈ TL.joinL [32] ps, c < 1114112
  | [], _, c, hc => absurd hc List.not_mem_nil
  | [p], h, c, hc => h p (List.mem_singleton.mpr rfl) c hc
  | p :: q :: r, h, c, hc => by
    have hc : c ∈ p ++ ([32] ++ TL.joinL [32] (q :: r)) := hc
    rcases List.mem_append.mp hc with z | z
    · exact h p List.mem_cons_self c z
    · rcases List.mem_append.mp z with y | y
      · rw [List.mem_singleton.mp y]
        decide
      · exact joinL_ch (q :: r) (fun p hp => h p (List.mem_cons_of_mem _ hp)) c y
theorem joinL_len : ∀ (ps : List (List Nat)), (∀ p ∈ ps, p.length ≤ 10) → (TL.joinL [32] ps).length ≤ 11 * ps.length
  | [], _ => Nat.le_refl _
  | [p], h => by
    have := h p (List.mem_singleton.mpr rfl)
    show p.length ≤ 11
    omega
  | p :: q :: r, h => by
    have e : TL.joinL [32] (p :: q :: r) = p ++ ([32] ++ TL.joinL [32] (q :: r)) := rfl
    have := h p List.mem_cons_self
    have := joinL_len (q :: r) fun p hp => h p (List.mem_cons_of_mem _ hp)
    rw [e, List.length_append, List.length_append, List.length_cons (as := q :: r)]
    show p.length + (1 + _) ≤ _
    omega
theorem wrt_cs (ns : List Int) : cs (wrt ns) = TL.joinL [32] ((ns.map num).map TL.tl) := by
  have hy : TL.tl (" " : Str) = [32] := by decide +kernel
  unfold wrt
  rw [TL.join_eq]
  show TL.tl _ = _
  rw [TL.tl_join, hy]
theorem wrt_ch {ns : List Int} (h : Ok10 ns) : ∀ c ∈ cs (wrt ns), c < 1114112 := by
  rw [wrt_cs]
  refine joinL_ch _ fun p hp => ?_
  obtain ⟨x, hx, rfl⟩ := List.mem_map.mp hp
  obtain ⟨z, hz, rfl⟩ := List.mem_map.mp hx
  obtain ⟨n, rfl, _, _⟩ := h.nat hz
  rw [show TL.tl (num (n : Int)) = TL.numL n from TL.tl_num n]
  intro c hc
  have := TL.numL_digits n c hc
  omega
theorem wrt_len {ns : List Int} (h : Ok10 ns) : (wrt ns).length ≤ 11 * ns.length := by
  rw [len_cs, wrt_cs]
  refine Nat.le_trans (joinL_len _ fun p hp => ?_) (by rw [List.length_map, List.length_map]; exact Nat.le_refl _)
  obtain ⟨x, hx, rfl⟩ := List.mem_map.mp hp
  obtain ⟨z, hz, rfl⟩ := List.mem_map.mp hx
  obtain ⟨n, rfl, _, n2⟩ := h.nat hz
  rw [show TL.tl (num (n : Int)) = TL.numL n from TL.tl_num n]
  exact TL.numL_len (by decide) n2
/-- what the join asks -/
theorem wrt_fits {ns : List Int} (h : Ok10 ns) (hl : ns.length ≤ 9) : ((ns.map num).map (·.length)).sum + (ns.map num).length * (" " : Str).length ≤ 16777216 := by
  have l1 : (" " : Str).length = 1 := by decide +kernel
  have key : ∀ (zs : List Int), Ok10 zs → ((zs.map num).map (·.length)).sum ≤ 10 * zs.length := by
    intro zs
    induction zs with
    | nil => exact fun _ => Nat.le_refl _
    | cons z zs ih =>
      intro h
      obtain ⟨n, rfl, _, n2⟩ := h.nat List.mem_cons_self
      have a := num_len n2
      have b := ih fun z hz => h z (List.mem_cons_of_mem _ hz)
      simp only [List.map_cons, List.sum_cons, List.length_cons] at b ⊢
      omega
  have := key ns h
  rw [l1, List.length_map]
  omega
end K18

set_option Elab.async false
set_option linter.all false
set_option maxRecDepth 100000
set_option maxHeartbeats 4000000
/-! Mathematics of k18: texts that are no sizes. -/
namespace K18
open PySem PySem.Spec PyProof.Rows L2 Gu Ex
theorem joinL_app : ∀ (p q : List (List Nat)), p ≠ [] → q ≠ [] → TL.joinL [32] (p ++ q) = TL.joinL [32] p ++ ([32] ++ TL.joinL [32] q)
  | [], _, h, _ => absurd rfl h
  | [a], [], _, h => absurd rfl h
  | [a], b :: q, _, _ => rfl
  | a :: b :: p, q, _, hq => by
    have e : TL.joinL [32] (a :: b :: p ++ q) = a ++ ([32] ++ TL.joinL [32] (b :: p ++ q)) := rfl
    rw [e, joinL_app (b :: p) q (by simp) hq, show TL.joinL [32] (a :: b :: p) = a ++ ([32] ++ TL.joinL [32] (b :: p)) from rfl]
    simp only [List.append_assoc]
theorem sp_tl : TL.tl (" " : Str) = [32] := by decide +kernel
theorem join_tl (ps : List Str) : TL.tl (Txt.join " " ps) = TL.joinL [32] (ps.map TL.tl) := by rw [TL.join_eq, TL.tl_join, sp_tl]
theorem join_app {p q : List Str} (hp : p ≠ []) (hq : q ≠ []) : Txt.join " " (p ++ q) = Txt.join " " p ++ " " ++ Txt.join " " q := by
  refine TL.ext_tl ?_
  rw [join_tl, List.map_append, joinL_app _ _ (by simpa using hp) (by simpa using hq), TL.tl_append, TL.tl_append, join_tl, join_tl, sp_tl, List.append_assoc]
theorem join_one (x : Str) : Txt.join " " [x] = x := TL.ext_tl (by rw [join_tl]; rfl)
theorem wds_join {ps : List Str} (hn : ps ≠ []) (h : ∀ p ∈ ps, 32 ∉ TL.tl p) : wds (Txt.join " " ps) = ps := TL.split_join sp_tl (by decide +kernel) hn h
theorem num_free {ns : List Int} (h : Ok10 ns) : ∀ p ∈ ns.map num, 32 ∉ TL.tl p := fun p hp => by
  obtain ⟨z, hz, rfl⟩ := List.mem_map.mp hp
  obtain ⟨n, rfl, _, _⟩ := h.nat hz
  rw [show TL.tl (num (n : Int)) = TL.numL n from TL.tl_num n]
  exact TL.numL_free (.inl (by decide))
/-- a bad word behind a written text -/
theorem bad_after {ns : List Int} (h : Ok10 ns) (hn : ns ≠ []) {y : Str} (hy : 32 ∉ TL.tl y) (b : isW y = false) : ∀ ms, ¬ RdS (wrt ns ++ " " ++ y) ms := fun ms r => by
  have hm : ns.map num ≠ [] := fun e => hn (List.map_eq_nil_iff.mp e)
  have e : wrt ns ++ " " ++ y = Txt.join " " (ns.map num ++ [y]) := by rw [join_app hm (by simp), join_one]; rfl
  have := r.1 y (by rw [e, wds_join (by simp) fun p hp => (List.mem_append.mp hp).elim (num_free h p) fun z => by rw [List.mem_singleton.mp z]; exact hy]; exact List.mem_append_right _ (List.mem_singleton.mpr rfl))
  rw [b] at this
  cases this
/-- a space ahead -/
theorem bad_ahead {ns : List Int} (h : Ok10 ns) (hn : ns ≠ []) : ∀ ms, ¬ RdS (" " ++ wrt ns) ms := fun ms r => by
  have hm : ns.map num ≠ [] := fun e => hn (List.map_eq_nil_iff.mp e)
  have e : " " ++ wrt ns = Txt.join " " ([("" : Str)] ++ ns.map num) := by
    rw [join_app (by simp) hm, join_one]
    refine TL.ext_tl ?_
    rw [TL.tl_append, TL.tl_append, TL.tl_append]
    rfl
  have := r.1 "" (by rw [e, wds_join (by simp) fun p hp => (List.mem_append.mp hp).elim (fun z => by rw [List.mem_singleton.mp z]; decide +kernel) (num_free h p)]; exact List.mem_append_left _ (List.mem_singleton.mpr rfl))
  exact absurd this (by decide +kernel)
/-- more sizes behind that do not fit -/
theorem more_after {ns ks : List Int} (h : Ok10 ns) (hk : Ok10 ks) (hn : ns ≠ []) (hk0 : ks ≠ []) (b : ¬ Good (ns ++ ks)) : ∀ ms, ¬ RdS (wrt ns ++ " " ++ wrt ks) ms := fun ms r => by
  have hm : ns.map num ≠ [] := fun e => hn (List.map_eq_nil_iff.mp e)
  have hm2 : ks.map num ≠ [] := fun e => hk0 (List.map_eq_nil_iff.mp e)
  have ha : Ok10 (ns ++ ks) := fun z hz => (List.mem_append.mp hz).elim (h z) (hk z)
  have e : wrt ns ++ " " ++ wrt ks = wrt (ns ++ ks) := by
    unfold wrt
    rw [List.map_append, join_app hm hm2]
  have w := r.2.1
  rw [e, wds_wrt ha (by simp [hn]), List.map_map] at w
  have : ms = ns ++ ks := by
    rw [w]
    conv => rhs; rw [← List.map_id (ns ++ ks)]
    refine List.map_congr_left fun z hz => ?_
    obtain ⟨n, rfl, _, n2⟩ := ha.nat hz
    exact num_rd n2
  exact b (this ▸ r.2.2)
/-- a sign that is no digit at the end -/
theorem end_bad {ns : List Int} (h : Ok10 ns) (hn : ns ≠ []) {y : Str} (hy : 32 ∉ TL.tl y) {c : Nat} (hc : c ∈ TL.tl y) (hd : c < 48 ∨ 57 < c) : ∀ ms, ¬ RdS (wrt ns ++ y) ms := fun ms r => by
  obtain ⟨is, z, rfl⟩ : ∃ is z, ns = is ++ [z] := ⟨ns.dropLast, ns.getLast hn, (List.dropLast_concat_getLast hn).symm⟩
  obtain ⟨n, rfl, _, _⟩ := h.nat (z := z) (List.mem_append_right _ (List.mem_singleton.mpr rfl))
  have hi : Ok10 is := fun z hz => h z (List.mem_append_left _ hz)
  have hw : 32 ∉ TL.tl (num (n : Int) ++ y) := by
    rw [TL.tl_append, List.mem_append]
    rintro (z | z)
    · rw [show TL.tl (num (n : Int)) = TL.numL n from TL.tl_num n] at z
      exact TL.numL_free (.inl (by decide)) z
    · exact hy z
  have e : wrt (is ++ [(n : Int)]) ++ y = Txt.join " " (is.map num ++ [num (n : Int) ++ y]) := by
    unfold wrt
    by_cases h0 : is = []
    · subst h0
      rw [List.nil_append, List.map_nil, List.nil_append, join_one]
      show Txt.join " " [num (n : Int)] ++ y = _
      rw [join_one]
    · have hm : is.map num ≠ [] := fun e => h0 (List.map_eq_nil_iff.mp e)
      rw [List.map_append, join_app hm (by simp), join_app hm (by simp), join_one]
      show _ ++ " " ++ Txt.join " " [num (n : Int)] ++ y = _
      rw [join_one]
      exact TL.ext_tl (by simp only [TL.tl_append, List.append_assoc])
  have := r.1 (num (n : Int) ++ y) (by rw [e, wds_join (by simp) fun p hp => (List.mem_append.mp hp).elim (num_free hi p) fun z => by rw [List.mem_singleton.mp z]; exact hw]; exact List.mem_append_right _ (List.mem_singleton.mpr rfl))
  have hcc : c ∈ cs (num (n : Int) ++ y) := by
    show c ∈ TL.tl (num (n : Int) ++ y)
    rw [TL.tl_append]
    exact List.mem_append_right _ hc
  unfold isW at this
  cases hx : cs (num (n : Int) ++ y) with
  | nil => rw [hx] at hcc; cases hcc
  | cons a l =>
    rw [hx] at this hcc
    obtain ⟨_, ad⟩ := He.ba (show (decide (a ≠ 48) && allD (a :: l)) = true from this)
    have := allD_iff.mp ad c hcc
    omega
end K18

set_option Elab.async false
set_option linter.all false
set_option maxRecDepth 100000
set_option maxHeartbeats 4000000
set_option pp.maxSteps 900
namespace K18
open PySem PySem.Spec PyProof.Rows L2 Gu Ex
/-- too many words -/
theorem long_after {ns : List Int} {qs : List Str} (h : Ok10 ns) (hn : ns ≠ []) (hq : ∀ p ∈ qs, 32 ∉ TL.tl p) (h8 : 8 ≤ qs.length) : ∀ ms, ¬ RdS (wrt ns ++ " " ++ Txt.join " " qs) ms := fun ms r => by
  have hm : ns.map num ≠ [] := fun e => hn (List.map_eq_nil_iff.mp e)
  have hq0 : qs ≠ [] := fun e => by rw [e] at h8; exact absurd h8 (by decide)
  have e : wrt ns ++ " " ++ Txt.join " " qs = Txt.join " " (ns.map num ++ qs) := by rw [join_app hm hq0]; rfl
  have w := r.2.1
  rw [e, wds_join (by simp [hn]) fun p hp => (List.mem_append.mp hp).elim (num_free h p) (hq p)] at w
  have l := r.2.2.len.2
  rw [w, List.length_map, List.length_append, List.length_map] at l
  have : 1 ≤ ns.length := List.length_pos_iff.mpr hn
  omega
def goodB (ns : List Int) : Bool := decide (ns[0]? = some 1) && (List.range (ns.length - 1)).all fun i => decide (ns.getD i 0 < ns.getD (i + 1) 0 ∧ ns.getD (i + 1) 0 % ns.getD i 0 = 0)
theorem good_B {ns : List Int} (g : Good ns) : goodB ns = true := by
  unfold goodB
  rw [decide_eq_true g.one, Bool.true_and, List.all_eq_true]
  intro i hi
  have hi : i < ns.length - 1 := List.mem_range.mp hi
  have h1 : ns[i]? = some (ns.getD i 0) := by rw [List.getD_eq_getElem?_getD, List.getElem?_eq_getElem (by omega)]; rfl
  have h2 : ns[i + 1]? = some (ns.getD (i + 1) 0) := by rw [List.getD_eq_getElem?_getD, List.getElem?_eq_getElem (by omega)]; rfl
  exact decide_eq_true (g.up i _ _ h1 h2)
theorem fixed_bad {x : Str} (h : ((wds x).all isW && goodB ((wds x).map rd)) = false) : ∀ ms, ¬ RdS x ms := fun ms r => by
  have h1 : (wds x).all isW = true := List.all_eq_true.mpr r.1
  have h2 : goodB ((wds x).map rd) = true := good_B (r.2.1 ▸ r.2.2)
  rw [h1, h2] at h
  cases h
/-- a text that from_text refuses -/
structure OddT (x : Str) : Prop where
  no : ∀ ms, ¬ RdS x ms
  ln : x.length ≤ 500
  ch : ∀ c ∈ x.cps.toList, c < 1114112
def fixedL : List Str := ["", " ", "2", "01", "1 02", "1  2", "1 +2", "1 -2", "1 1", "0 1", "one", "1,2", "1_0", "1 1_0", "1 2 3"]
theorem fixed_ok : (fixedL.all fun x => !((wds x).all isW && goodB ((wds x).map rd)) && (decide (x.length ≤ 500) && x.cps.toList.all fun c => decide (c < 1114112))) = true := by decide +kernel
theorem fixed_odd {x : Str} (h : x ∈ fixedL) : OddT x := by
  obtain ⟨h1, h2⟩ := He.ba (List.all_eq_true.mp fixed_ok x h)
  obtain ⟨h2, h3⟩ := He.ba h2
  exact ⟨fixed_bad (Bool.not_eq_true' _ ▸ h1), of_decide_eq_true h2, fun c hc => of_decide_eq_true (List.all_eq_true.mp h3 c hc)⟩
theorem ch_app {x y : Str} (h : ∀ c ∈ x.cps.toList, c < 1114112) (k : ∀ c ∈ y.cps.toList, c < 1114112) : ∀ c ∈ (x ++ y).cps.toList, c < 1114112 := fun c hc => by
  have e : (x ++ y).cps.toList = x.cps.toList ++ y.cps.toList := TL.tl_append x y
  rw [e] at hc
  exact (List.mem_append.mp hc).elim (h c) (k c)
theorem lt_ch {y : Str} (h : (y.cps.toList.all fun c => decide (c < 1114112)) = true) : ∀ c ∈ y.cps.toList, c < 1114112 := fun c hc => of_decide_eq_true (List.all_eq_true.mp h c hc)
def writL (w : Str) : List Str := [w ++ " ", " " ++ w, w ++ " 0", w ++ " 1", w ++ "\n", w ++ " x", w ++ " " ++ w]
theorem writ_odd {ns : List Int} (g : Good ns) : ∀ x ∈ writL (wrt ns), OddT x := by
  have ok := good_ok10 g
  have l8 := g.len
  have hn : ns ≠ [] := fun e => by rw [e] at l8; exact absurd l8.1 (by decide)
  have wl := wrt_len ok
  have wc := wrt_ch ok
  have two : ∀ y : Str, wrt ns ++ (" " ++ y) = wrt ns ++ " " ++ y := fun y => TL.ext_tl (by simp only [TL.tl_append, List.append_assoc])
  have k1 : (1 : Nat) ≤ ns.length := l8.1
  obtain ⟨x0, h0⟩ : ∃ x, ns[ns.length - 1]? = some x := ⟨_, List.getElem?_eq_getElem (by omega)⟩
  have x1 := (g.rng _ _ h0).1
  have notG : ∀ ks : List Int, ks[0]? = some 1 → ¬ Good (ns ++ ks) := fun ks hk g2 => by
    have a := g2.up (ns.length - 1) x0 1 (by rw [List.getElem?_append_left (by omega)]; exact h0) (by rw [show ns.length - 1 + 1 = ns.length by omega, List.getElem?_append_right (Nat.le_refl _), Nat.sub_self]; exact hk)
    omega
  intro x hx
  simp only [writL, List.mem_cons, List.not_mem_nil, or_false] at hx
  rcases hx with rfl | rfl | rfl | rfl | rfl | rfl | rfl
  · refine ⟨?_, by rw [Str.length_append]; have : (" " : Str).length = 1 := by decide +kernel
                   omega, ch_app wc (lt_ch (by decide +kernel))⟩
    have e : wrt ns ++ " " = wrt ns ++ " " ++ "" := TL.ext_tl (by simp only [TL.tl_append, List.append_assoc]; congr 1)
    rw [e]
    exact bad_after ok hn (by decide +kernel) (by decide +kernel)
  · refine ⟨bad_ahead ok hn, by rw [Str.length_append]; have : (" " : Str).length = 1 := by decide +kernel
                                omega, ch_app (lt_ch (by decide +kernel)) wc⟩
  · refine ⟨?_, by rw [Str.length_append]; have : (" 0" : Str).length = 2 := by decide +kernel
                   omega, ch_app wc (lt_ch (by decide +kernel))⟩
    rw [show (" 0" : Str) = " " ++ "0" by decide +kernel, two]
    exact bad_after ok hn (by decide +kernel) (by decide +kernel)
  · refine ⟨?_, by rw [Str.length_append]; have : (" 1" : Str).length = 2 := by decide +kernel
                   omega, ch_app wc (lt_ch (by decide +kernel))⟩
    rw [show (" 1" : Str) = " " ++ wrt [1] by decide +kernel, two]
    exact more_after ok (fun z hz => by rw [List.mem_singleton.mp hz]; decide) hn (by simp) (notG [1] rfl)
  · refine ⟨end_bad ok hn (c := 10) (by decide +kernel) (by decide +kernel) (by decide), by rw [Str.length_append]; have : ("\n" : Str).length = 1 := by decide +kernel
                                                                                            omega, ch_app wc (lt_ch (by decide +kernel))⟩
  · refine ⟨?_, by rw [Str.length_append]; have : (" x" : Str).length = 2 := by decide +kernel
                   omega, ch_app wc (lt_ch (by decide +kernel))⟩
    rw [show (" x" : Str) = " " ++ "x" by decide +kernel, two]
    exact bad_after ok hn (by decide +kernel) (by decide +kernel)
  · refine ⟨more_after ok ok hn hn (notG ns g.one), by rw [Str.length_append, Str.length_append]; have : (" " : Str).length = 1 := by decide +kernel
                                                       omega, ch_app (ch_app wc (lt_ch (by decide +kernel))) wc⟩
end K18

set_option Elab.async false
set_option linter.all false
set_option maxRecDepth 100000
set_option maxHeartbeats 4000000
set_option pp.maxSteps 900
namespace K18
open PySem PySem.Spec PyProof.Rows L2 Gu Ex
theorem log_ok {z : Int} (h1 : 1 ≤ z) (h2 : z < 10 ^ 12) : z.natAbs.log2 < 1920 := by
  have e : (10 : Int) ^ 12 = 1000000000000 := by decide
  have e2 : (2 : Nat) ^ 40 = 1099511627776 := by decide
  exact Nat.lt_of_lt_of_le (PySem.Flt.log2_lt_of (k := 40) (by decide) (by omega)) (by decide)
theorem str_step {H G : Hp} {D : Addr} {zs : List Int} {i : Nat} {z : Int} (hz : zs[i]? = some z) (hl : i ≤ 1000) (hD : H D = none) (sm : Same H G) (hG : G D = some (.lst (((zs.take i).map num).map V.str))) :
    ∃ acc, G D = some (.lst acc) ∧ acc.length < sizeLine ∧ Same H (upd G D (.lst (acc ++ [.str (num z)]))) ∧ upd G D (.lst (acc ++ [.str (num z)])) D = some (.lst (((zs.take (i + 1)).map num).map V.str)) := by
  have sl : sizeLine = 16777216 := sizeLine_eq
  refine ⟨_, hG, by rw [List.length_map, List.length_map, List.length_take]; omega, fun b o e => ?_, ?_⟩
  · rw [upd_ne (ne_of_none e hD)]
    exact sm b o e
  · rw [upd_same, List.take_add_one, hz, List.map_append, List.map_append]
    rfl
theorem Stp.same {r : Addr} {H H1 H2 : Hp} (a : Stp r H H1) (s : Same H1 H2) : Stp r H H2 := by
  obtain ⟨⟨x, y, e, z⟩, k⟩ := a
  exact ⟨⟨x, y, s _ _ e, z⟩, fun b u n e2 => s _ _ (k b u n e2)⟩
def mul8 : List Int := [2, 4, 8, 16, 32, 64, 128, 256]
def tops (x : Int) : List Int := mul8.map fun m => x * m
theorem joinL_len2 (b : Nat) : ∀ (ps : List (List Nat)), (∀ p ∈ ps, p.length ≤ b) → (TL.joinL [32] ps).length ≤ (b + 1) * ps.length
  | [], _ => Nat.zero_le _
  | [p], h => by
    have := h p (List.mem_singleton.mpr rfl)
    show p.length ≤ (b + 1) * 1
    omega
  | p :: q :: r, h => by
    have e : TL.joinL [32] (p :: q :: r) = p ++ ([32] ++ TL.joinL [32] (q :: r)) := rfl
    have h1 := h p List.mem_cons_self
    have h2 := joinL_len2 b (q :: r) fun p hp => h p (List.mem_cons_of_mem _ hp)
    rw [e, List.length_append, List.length_append, List.length_cons (as := q :: r), Nat.mul_add, Nat.mul_one]
    show p.length + (1 + _) ≤ _
    omega
theorem tops_in {x z : Int} (hz : z ∈ tops x) (x1 : 1 ≤ x) (x2 : x ≤ 1000000000) : ∃ n : Nat, z = (n : Int) ∧ 1 ≤ n ∧ n < 10 ^ 12 := by
  obtain ⟨m, hm, rfl⟩ := List.mem_map.mp hz
  have e : (10 : Nat) ^ 12 = 1000000000000 := by decide
  simp only [mul8, List.mem_cons, List.not_mem_nil, or_false] at hm
  rcases hm with rfl | rfl | rfl | rfl | rfl | rfl | rfl | rfl
  · exact ⟨(x * 2).toNat, by omega, by omega, by omega⟩
  · exact ⟨(x * 4).toNat, by omega, by omega, by omega⟩
  · exact ⟨(x * 8).toNat, by omega, by omega, by omega⟩
  · exact ⟨(x * 16).toNat, by omega, by omega, by omega⟩
  · exact ⟨(x * 32).toNat, by omega, by omega, by omega⟩
  · exact ⟨(x * 64).toNat, by omega, by omega, by omega⟩
  · exact ⟨(x * 128).toNat, by omega, by omega, by omega⟩
  · exact ⟨(x * 256).toNat, by omega, by omega, by omega⟩
theorem tops_len {x : Int} {p : Str} (x1 : 1 ≤ x) (x2 : x ≤ 1000000000) (hp : p ∈ (tops x).map num) : p.length ≤ 12 ∧ 32 ∉ TL.tl p ∧ ∀ c ∈ TL.tl p, c < 1114112 := by
  obtain ⟨z, hz, rfl⟩ := List.mem_map.mp hp
  obtain ⟨n, rfl, _, n2⟩ := tops_in hz x1 x2
  refine ⟨?_, ?_, ?_⟩
  · rw [len_cs, num_cs]
    exact TL.numL_len (by decide) n2
  · rw [show TL.tl (num (n : Int)) = TL.numL n from TL.tl_num n]
    exact TL.numL_free (.inl (by decide))
  · rw [show TL.tl (num (n : Int)) = TL.numL n from TL.tl_num n]
    intro c hc
    have := TL.numL_digits n c hc
    omega
theorem tops_fits {x : Int} (x1 : 1 ≤ x) (x2 : x ≤ 1000000000) : (((tops x).map num).map (·.length)).sum + ((tops x).map num).length * (" " : Str).length ≤ 16777216 := by
  have l1 : (" " : Str).length = 1 := by decide +kernel
  have key : ∀ ps : List Str, (∀ p ∈ ps, p.length ≤ 12) → (ps.map (·.length)).sum ≤ 12 * ps.length := by
    intro ps
    induction ps with
    | nil => exact fun _ => Nat.le_refl _
    | cons p ps ih =>
      intro h
      have a := h p List.mem_cons_self
      have b := ih fun q hq => h q (List.mem_cons_of_mem _ hq)
      simp only [List.map_cons, List.sum_cons, List.length_cons] at b ⊢
      omega
  have k := key _ fun p hp => (tops_len x1 x2 hp).1
  have l8 : ((tops x).map num).length = 8 := rfl
  rw [l8] at k
  rw [l1, l8]
  omega
theorem last_odd {ns : List Int} {x : Int} (g : Good ns) (x1 : 1 ≤ x) (x2 : x ≤ 1000000000) : OddT (wrt ns ++ " " ++ Txt.join " " ((tops x).map num)) := by
  have ok := good_ok10 g
  have l8 := g.len
  have hn : ns ≠ [] := fun e => by rw [e] at l8; exact absurd l8.1 (by decide)
  have wl := wrt_len ok
  have w1 : (" " : Str).length = 1 := by decide +kernel
  refine ⟨long_after ok hn (fun p hp => (tops_len x1 x2 hp).2.1) (by show 8 ≤ 8; decide), ?_, ch_app (ch_app (wrt_ch ok) (lt_ch (by decide +kernel))) fun c hc => ?_⟩
  · have j : (Txt.join " " ((tops x).map num)).length ≤ 104 := by
      rw [len_cs]
      show (TL.tl _).length ≤ _
      rw [join_tl]
      refine Nat.le_trans (joinL_len2 12 _ fun p hp => ?_) (by rw [List.length_map]; show 13 * 8 ≤ 104; decide)
      obtain ⟨q, hq, rfl⟩ := List.mem_map.mp hp
      have := (tops_len x1 x2 hq).1
      rw [len_cs] at this
      exact this
    rw [Str.length_append, Str.length_append, w1]
    omega
  · have hc : c ∈ TL.tl (Txt.join " " ((tops x).map num)) := hc
    rw [join_tl] at hc
    refine joinL_ch _ (fun p hp => ?_) c hc
    obtain ⟨q, hq, rfl⟩ := List.mem_map.mp hp
    exact (tops_len x1 x2 hq).2.2
section
variable {P : Program} {w : World} {K : PySem.W.Frag} {mg : Str → Option Value} {base : Heap} {f : Addr} {fd : FuncData}
def spOdd : Sp := fun vs H Q _ => ∃ (r o : Addr) (ns : List Int), vs = [.ref r, .ref o] ∧ Rng H r ∧ Good ns ∧ H o = some (.lst (ns.map V.int)) ∧ o ≠ r ∧ ∀ x H', OddT x → Stp r H H' → Q (.str x) H'
theorem sc__law_odd_text : FnScope ["_law_rng_here", "_law_sizes_here", "_law_word_here", "_law_some", "_law_size", "_law_many"] ["_law_rng_here", "_law_sizes_here"] (defScope (top 42)) := ⟨rfl, rfl, rfl, by decide +kernel, rfl, by decide +kernel, by decide +kernel⟩
theorem ok_odd (T : Tx K mg) (D__law_draw : Df P w K mg base 1 "_law_draw" ["_law_rng_here", "_law_many"] spDraw) (F : FnP K "_law_odd_text" "_law_odd_text" (top 42) f fd) : FnOk P w K mg base CX0 2 f fd ["_law_rng_here", "_law_sizes_here"] spOdd := by
  refine F.ok sc__law_odd_text (fun vs H Q E h => ?_) (fun cdv A outer s H vs Q E hr h => ⟨_, PSs.nox (pss_cons (ps_set (i := 2) sc__law_odd_text.nd rfl (by first | exact Or.inl rfl | exact Or.inr rfl) (pe_join pe_str (pe_lc (own := [("_law_size", 4)]) (g := gName 4) rfl sc__law_odd_text.nd (pi_list (pv 1)) (blkOk_by (own := [("_law_size", 4)]) (N := ["_law_rng_here", "_law_sizes_here", "_law_word_here", "_law_some", "_law_size", "_law_many"]) (sc := defScope (top 42)) (by decide +kernel)) (fun _ _ _ _ _ => pg_name (i := 4) sc__law_odd_text.nd rfl (Or.inl rfl)) (fun _ _ _ _ _ => pts_nil) (fun _ _ _ _ _ => (pe_callTy call_str_int (by rfl) T.n_str (by decide +kernel) (pa_cons (pv 4) pa_nil)))))) (pss_cons (ps_set (i := 3) sc__law_odd_text.nd rfl (by first | exact Or.inl rfl | exact Or.inr rfl) (pe_lst (pa_cons pe_str (pa_cons pe_str (pa_cons pe_str (pa_cons pe_str (pa_cons pe_str (pa_cons pe_str (pa_cons pe_str (pa_cons pe_str (pa_cons pe_str (pa_cons pe_str (pa_cons pe_str (pa_cons pe_str (pa_cons pe_str (pa_cons pe_str (pa_cons pe_str pa_nil))))))))))))))))) (pss_cons (ps_set (i := 3) sc__law_odd_text.nd rfl (by first | exact Or.inl rfl | exact Or.inr rfl) (pe_op op_cat (pv 3) (pe_lst (pa_cons (pe_op op_add_str (pv 2) pe_str) (pa_cons (pe_op op_add_str pe_str (pv 2)) (pa_cons (pe_op op_add_str (pv 2) pe_str) (pa_cons (pe_op op_add_str (pv 2) pe_str) (pa_cons (pe_op op_add_str (pv 2) pe_str) (pa_cons (pe_op op_add_str (pv 2) pe_str) (pa_cons (pe_op op_add_str (pe_op op_add_str (pv 2) pe_str) (pv 2)) pa_nil)))))))))) (pss_cons (ps_expr (pe_bm PySem.F.plainAttrs_list PySem.F.slot_list_append PySem.F.type_list_append mt_append (pv 3) (pa_cons (pe_op op_add_str (pe_op op_add_str (pv 2) pe_str) (pe_join pe_str (pe_lc (own := [("_law_many", 5)]) (g := gName 5) rfl sc__law_odd_text.nd (pi_tup (pe_tup (pa_cons pe_int (pa_cons pe_int (pa_cons pe_int (pa_cons pe_int (pa_cons pe_int (pa_cons pe_int (pa_cons pe_int (pa_cons pe_int pa_nil)))))))))) (blkOk_by (own := [("_law_many", 5)]) (N := ["_law_rng_here", "_law_sizes_here", "_law_word_here", "_law_some", "_law_size", "_law_many"]) (sc := defScope (top 42)) (by decide +kernel)) (fun _ _ _ _ _ => pg_name (i := 5) sc__law_odd_text.nd rfl (Or.inl rfl)) (fun _ _ _ _ _ => pts_nil) (fun _ _ _ _ _ => (pe_callTy call_str_int (by rfl) T.n_str (by decide +kernel) (pa_cons (pe_op op_mul (pe_ix (r := rIxL K) ix_list (pv 1) (pe_un un_neg pe_int) (fun _ _ => rfl)) (pv 5)) pa_nil)))))) pa_nil))) (pss_one (ps_ret (pe_ix ix_list (pv 3) (pcall D__law_draw hr (pa_cons (pv 0) (pa_cons (pe_callB call_len_seq (by rfl) T.n_len (by decide +kernel) (pa_cons (pv 3) pa_nil)) pa_nil))) (fun _ _ => rfl)))))))), ?_⟩)
  · obtain ⟨r, o, ns, rfl, _⟩ := h
    rfl
  · obtain ⟨r, o, ns, rfl, hR, g, hO, nor, q⟩ := h
    have sl : sizeLine = 16777216 := sizeLine_eq
    have l8 := g.len
    have ok := good_ok10 g
    refine ⟨⟨_, rfl⟩, _, rfl, o, rfl, ⟨_, SqL.of hO⟩, fun D hD => ?_⟩
    refine lc_it (walk_list (xs := ns.map V.int)) (fun i G => Same H G ∧ G D = some (.lst (((ns.take i).map num).map V.str))) ⟨same_upd hD, upd_same⟩ (fun i G _ h => SqL.of (h.1 _ _ hO)) ?_ ?_
    · rintro i v G1 G2 hi ⟨sm, hG⟩ ⟨rfl, hv⟩
      rw [List.getElem?_map] at hv
      obtain ⟨z, hz, rfl⟩ := Option.map_eq_some_iff.mp hv
      have zr := ok z (List.mem_of_getElem? hz)
      have e10 : (10 : Int) ^ 10 = 10000000000 := by decide
      have e12 : (10 : Int) ^ 12 = 1000000000000 := by decide
      rw [List.length_map] at hi
      exact ⟨rfl, _, rfl, z, rfl, log_ok zr.1 (by omega), str_step hz (by omega) hD sm hG⟩
    · rintro G1 ⟨sm1, hD1⟩
      rw [List.length_map, List.take_length] at hD1
      have wl := wrt_len ok
      have wc := wrt_ch ok
      have wf := wrt_fits ok (by omega)
      have wo := writ_odd g
      refine ⟨_, D, ns.map num, rfl, rfl, .inl (SqL.of hD1), wf, ?_⟩
      rw [show Txt.join (Str.ofString " ") (ns.map num) = wrt ns from rfl]
      have w1 : (" " : Str).length = 1 := by decide +kernel
      have w2 : (" 0" : Str).length = 2 := by decide +kernel
      have w3 : (" 1" : Str).length = 2 := by decide +kernel
      have w4 : ("\n" : Str).length = 1 := by decide +kernel
      have w5 : (" x" : Str).length = 2 := by decide +kernel
      refine ⟨(by show 15 ≤ sizeLine; decide), fun a ha => ?_⟩
      have s2 := sm1.trans (same_upd (o := .lst (fixedL.map V.str)) ha)
      have hA : (upd G1 a (.lst (fixedL.map V.str))) a = some (.lst (fixedL.map V.str)) := upd_same
      refine ⟨_, rfl, _, rfl, _, _, rfl, rfl, by rw [w1]; omega, _, rfl, _, _, rfl, rfl, by rw [w1]; omega, _, rfl, _, _, rfl, rfl, by rw [w2]; omega, _, rfl, _, _, rfl, rfl, by rw [w3]; omega, _, rfl, _, _, rfl, rfl, by rw [w4]; omega, _, rfl, _, _, rfl, rfl, by rw [w5]; omega,
        _, rfl, _, _, rfl, rfl, by rw [w1]; omega, _, rfl, _, _, rfl, rfl, by rw [Str.length_append, w1]; omega, (by show 7 ≤ sizeLine; decide), fun b hb => ?_⟩
      have s3 := s2.trans (same_upd (o := .lst ((writL (wrt ns)).map V.str)) hb)
      refine ⟨a, b, _, _, rfl, rfl, same_upd hb _ _ hA, upd_same, by rw [sl]; show 15 + 7 ≤ 16777216; decide, fun L hL => ?_⟩
      have hLG : H L = none := s3.free hL
      have nLr : L ≠ r := (hR.ne hLG).symm
      have s4 := s3.trans (same_upd (o := .lst ((fixedL ++ writL (wrt ns)).map V.str)) hL)
      have hL4 : (upd (upd (upd G1 a (.lst (fixedL.map V.str))) b (.lst ((writL (wrt ns)).map V.str))) L (.lst ((fixedL ++ writL (wrt ns)).map V.str))) L = some (.lst ((fixedL ++ writL (wrt ns)).map V.str)) := upd_same
      obtain ⟨ys, x, rfl⟩ := last_of l8.1
      have xr := g.rng _ _ (last_get ys x)
      have hO4 := s4 _ _ hO
      have lo := last_odd g xr.1 xr.2
      refine ⟨_, rfl, .inl ⟨rfl, _, SqL.of hL4⟩, _, rfl, _, _, rfl, rfl, by rw [w1]; omega, ⟨_, rfl⟩, (by show 8 ≤ sizeLine; decide), fun t ht => ⟨t, rfl, ⟨_, SqT.of upd_same⟩, fun D2 hD2 => ?_⟩⟩
      have s5 := same_upd (o := .tup (mul8.map V.int)) ht
      have hT5 : ∀ {G : Hp}, upd G t (.tup (mul8.map V.int)) t = some (.tup (mul8.map V.int)) := upd_same
      have hL5 := s5 _ _ hL4
      have s6 := s4.trans s5
      refine lc_it (walk_tup (xs := mul8.map V.int)) (fun i G => Same (upd (upd (upd (upd G1 a (.lst (fixedL.map V.str))) b (.lst ((writL (wrt (ys ++ [x]))).map V.str))) L (.lst ((fixedL ++ writL (wrt (ys ++ [x]))).map V.str))) t (.tup (mul8.map V.int))) G ∧ G D2 = some (.lst ((((tops x).take i).map num).map V.str))) ⟨same_upd hD2, upd_same⟩ (fun i G _ h => SqT.of (h.1 _ _ hT5)) ?_ ?_
      · rintro i v Ga Gb hi ⟨sm, hG⟩ ⟨rfl, hv⟩
        rw [List.getElem?_map] at hv
        obtain ⟨m, hm, rfl⟩ := Option.map_eq_some_iff.mp hv
        have hz : (tops x)[i]? = some (x * m) := by unfold tops; rw [List.getElem?_map, hm]; rfl
        obtain ⟨n, en, n1, n2⟩ := tops_in (List.mem_of_getElem? hz) xr.1 xr.2
        have e12 : (10 : Int) ^ 12 = 1000000000000 := by decide
        have e12n : (10 : Nat) ^ 12 = 1000000000000 := by decide
        have hi8 : i < 8 := hi
        exact ⟨rfl, _, rfl, _, rfl, o, _, _, _, rfl, rfl, SqL.of (sm _ _ (s6 _ _ hO)), at_last ys x, _, rfl, _, _, rfl, rfl, .inl ⟨by omega, by omega⟩, _, rfl, log_ok (by omega) (by omega), str_step hz (by omega) hD2 sm hG⟩
      · rintro G5 ⟨sm5, hD5⟩
        rw [show ((tops x).take (mul8.map V.int).length) = tops x from List.take_of_length_le (by show 8 ≤ 8; decide)] at hD5
        have hL6 := sm5 _ _ hL5
        have s7 := s6.trans sm5
        have xl : (wrt (ys ++ [x]) ++ " ").length + (Txt.join " " ((tops x).map num)).length ≤ 500 := by
          have := lo.ln
          rw [Str.length_append] at this
          exact this
        refine ⟨_, D2, (tops x).map num, rfl, rfl, .inl (SqL.of hD5), tops_fits xr.1 xr.2, _, _, rfl, rfl, by rw [show Txt.join (Str.ofString " ") ((tops x).map num) = Txt.join " " ((tops x).map num) from rfl]; omega, ?_⟩
        refine ⟨L, _, _, rfl, rfl, hL6, by rw [List.length_map]; show 15 + 7 < _; rw [sl]; decide, ?_⟩
        have big : (10 : Int) ^ 40 = 10000000000000000000000000000000000000000 := by decide
        have R8 : Stp r H (upd G5 L (.lst ((fixedL ++ writL (wrt (ys ++ [x]))).map V.str ++ [V.str (wrt (ys ++ [x]) ++ " " ++ Txt.join " " ((tops x).map num))]))) := by
          obtain ⟨x1, y1, e1, e2⟩ := (Stp.refl hR).same s7 |>.1
          refine ⟨⟨x1, y1, by rw [upd_ne nLr.symm]; exact e1, e2⟩, fun c u n e => ?_⟩
          rw [upd_ne (ne_of_none e hLG)]
          exact s7 _ _ e
        have hL8 : (upd G5 L (.lst ((fixedL ++ writL (wrt (ys ++ [x]))).map V.str ++ [V.str (wrt (ys ++ [x]) ++ " " ++ Txt.join " " ((tops x).map num))]))) L = some (.lst ((fixedL ++ writL (wrt (ys ++ [x]))).map V.str ++ [V.str (wrt (ys ++ [x]) ++ " " ++ Txt.join " " ((tops x).map num))])) := upd_same
        refine ⟨_, rfl, _, rfl, _, rfl, L, _, rfl, .inl (SqL.of hL8), r, 23, rfl, R8.1, by decide, by omega, fun d G d0 d1 t8 => ?_⟩
        obtain ⟨v, hv, hm⟩ := at_of (xs := (fixedL ++ writL (wrt (ys ++ [x]))).map V.str ++ [V.str (wrt (ys ++ [x]) ++ " " ++ Txt.join " " ((tops x).map num))]) d0 d1
        refine ⟨L, _, _, v, rfl, rfl, SqL.of (t8.2 L _ nLr hL8), hv, ?_⟩
        rcases List.mem_append.mp hm with z | z
        · obtain ⟨y, hy, rfl⟩ := List.mem_map.mp z
          rcases List.mem_append.mp hy with z | z
          · exact q y G (fixed_odd z) (R8.trans t8)
          · exact q y G (wo y z) (R8.trans t8)
        · rw [List.mem_singleton.mp z]
          exact q _ G lo (R8.trans t8)
end
end K18

set_option Elab.async false
set_option linter.all false
set_option maxRecDepth 100000
set_option maxHeartbeats 4000000
set_option pp.maxSteps 900
namespace K18
open PySem PySem.Spec PyProof.Rows L2 Gu Ex
/-- at p an object of Sizes that no draw touches -/
def SzR (K : PySem.W.Frag) (r : Addr) (H : Hp) (p : Addr) (ns : List Int) : Prop := ∃ dx l, H p = some (.ins (cS K) dx (szF l)) ∧ H l = some (.lst (ns.map V.int)) ∧ p ≠ r ∧ l ≠ r
theorem SzR.sz {K : PySem.W.Frag} {r : Addr} {H : Hp} {p : Addr} {ns : List Int} (h : SzR K r H p ns) : SzI K H p ns := by
  obtain ⟨dx, l, h1, h2, _⟩ := h
  exact ⟨dx, l, h1, h2⟩
theorem SzR.stp {K : PySem.W.Frag} {r : Addr} {H H' : Hp} {p : Addr} {ns : List Int} (h : SzR K r H p ns) (s : Stp r H H') : SzR K r H' p ns := by
  obtain ⟨dx, l, h1, h2, h3, h4⟩ := h
  exact ⟨dx, l, s.2 p _ h3 h1, s.2 l _ h4 h2, h3, h4⟩
theorem cnt_bnd {ns : List Int} (g : Good ns) (gp : Gap 30 ns) {n : Int} (n0 : 0 ≤ n) (hn : n ≤ 70 * sz ns (ns.length - 1)) {k : Nat} (hk : k < ns.length) : M13.cnt (sz ns) ns.length n k ≤ 1000 := by
  have ch := chain g
  have pk := ch.pos k hk
  unfold M13.cnt M13.rest
  by_cases h : k + 1 < ns.length
  · rw [if_pos h]
    have pk1 := ch.pos (k + 1) h
    have a := Int.emod_lt_of_pos n (show 0 < sz ns (k + 1) by omega)
    have b := gp k _ _ (sz_at hk) (sz_at h)
    have c : n % sz ns (k + 1) ≤ 1000 * sz ns k := by omega
    exact Int.ediv_le_of_le_mul (by omega) c
  · rw [if_neg h, show k = ns.length - 1 by omega]
    have p2 := ch.pos (ns.length - 1) (by omega)
    exact Int.ediv_le_of_le_mul (by omega) (by omega)
theorem sum_ge : ∀ {l : List Int} {x : Int}, (∀ y ∈ l, 0 ≤ y) → x ∈ l → x ≤ l.sum
  | a :: l, x, h, hx => by
    have a0 := h a List.mem_cons_self
    have nn : 0 ≤ l.sum := by
      clear hx
      induction l with
      | nil => exact Int.le_refl _
      | cons b l ih =>
        have b0 := h b (List.mem_cons_of_mem _ List.mem_cons_self)
        have := ih fun y hy => by
          rcases List.mem_cons.mp hy with rfl | z
          · exact a0
          · exact h y (List.mem_cons_of_mem _ (List.mem_cons_of_mem _ z))
        rw [List.sum_cons]
        omega
    rw [List.sum_cons]
    rcases List.mem_cons.mp hx with rfl | z
    · omega
    · have := sum_ge (fun y hy => h y (List.mem_cons_of_mem _ hy)) z
      omega
theorem huge_sum {ns : List Int} (g : Good ns) : (cnts ns 1000000000000).sum > 64 := by
  have ch := chain g
  have l8 := g.len
  have hk : ns.length - 1 < ns.length := by omega
  have p2 := ch.pos _ hk
  have pl := sz_le g hk
  have c : (64 : Int) < M13.cnt (sz ns) ns.length 1000000000000 (ns.length - 1) := by
    unfold M13.cnt M13.rest
    rw [if_neg (by omega)]
    have : (65 : Int) ≤ 1000000000000 / sz ns (ns.length - 1) := Int.le_ediv_of_mul_le (by omega) (by omega)
    omega
  have := sum_ge (l := cnts ns 1000000000000) (fun y hy => by
    obtain ⟨k, hk, rfl⟩ := List.mem_map.mp hy
    exact M13.cnt_nn ch (by decide) (List.mem_range.mp hk)) (List.mem_of_getElem? (cnts_at hk))
  omega
/-- what pieces(n) does -/
theorem pieces_out {K : PySem.W.Frag} {p : Addr} {ns : List Int} {n : Int} {H : Hp} (hz : SzI K H p ns) (g : Good ns) (n1 : 1 ≤ n) (n2 : n ≤ 1000000000000) :
    ∀ H1, Same H H1 → DoOut K p "pieces" [.int n] H1 (if (cnts ns n).sum > 64 then some (5, .int 64) else none) := fun H1 s => by
  have ec : cellsB (.int n) = true := decide_eq_true ⟨n1, n2⟩
  split
  · rename_i hs
    refine fun Q E q => .inr (.inr (.inr (.inr (.inl ⟨rfl, _, rfl, p, ns, _, rfl, hz.same s, g, .int n, fun n' a H' e _ hs' => ?_, fun z => ?_, fun n' e _ _ => ?_⟩))))
    · cases e
      omega
    · rw [ec] at z
      cases z
    · exact q
  · rename_i hs
    refine fun Q E q => .inr (.inr (.inr (.inr (.inl ⟨rfl, _, rfl, p, ns, _, rfl, hz.same s, g, .int n, fun n' a H' e _ _ _ s' _ => q _ _ s', fun z => ?_, fun n' e _ hs' => ?_⟩))))
    · rw [ec] at z
      cases z
    · cases e
      omega
def ppD : Option (Nat × PyData) := some (5, .int 64)
theorem pp_tq {K : PySem.W.Frag} {H : Hp} {t : Addr} (h : H t = some (.tup [.str "pieces", .int 64])) : Tq K H (.ref t) (dueD ppD) 5 900 := due_tq (j := 5) (by decide) ((tq_int (by decide) (by decide)).mono (by decide) (by decide)) h
section
variable {P : Program} {w : World} {K : PySem.W.Frag} {mg : Str → Option Value} {base : Heap} {f : Addr} {fd : FuncData}
def spPr (K : PySem.W.Frag) : Sp := fun vs H Q _ => ∃ (r o p : Addr) (ns : List Int), vs = [.ref r, .ref o, .ref p] ∧ Rng H r ∧ Good ns ∧ Gap 30 ns ∧ H o = some (.lst (ns.map V.int)) ∧ o ≠ r ∧ SzR K r H p ns ∧ ∀ H', Stp r H H' → Q (.bl true) H'
theorem sc__law_pieces_right : FnScope ["_law_rng_here", "_law_sizes_here", "_law_made", "_law_top", "_law_cells", "_law_many", "_law_due"] ["_law_rng_here", "_law_sizes_here", "_law_made"] (defScope (top 44)) := ⟨rfl, rfl, rfl, by decide +kernel, rfl, by decide +kernel, by decide +kernel⟩
theorem ok_pr (T : Tx K mg) (D__law_draw : Df P w K mg base 1 "_law_draw" ["_law_rng_here", "_law_many"] spDraw) (D__law_pieces : Df P w K mg base 1 "_law_pieces" ["_law_sizes_here", "_law_cells"] spLpc)
    (D__law_told : DfG P w K mg base 10 "_law_told" ["_law_made", "_law_word_here", "_law_things"] (spTold K)) (F : FnP K "_law_pieces_right" "_law_pieces_right" (top 44) f fd) :
    FnG P w K mg base CX0 12 f fd ["_law_rng_here", "_law_sizes_here", "_law_made"] (spPr K) := by
  refine okG F sc__law_pieces_right (fun vs H Q E h => ?_) (fun cdv A outer s H vs Q E hr h => ⟨_, PSs.nox (pss_cons (ps_set (i := 3) sc__law_pieces_right.nd rfl (by first | exact Or.inl rfl | exact Or.inr rfl) (pe_ix ix_list (pv 1) (pe_un un_neg pe_int) (fun _ _ => rfl))) (pss_cons (ps_for PassesOwn.never rfl (pi_list (pe_lst (pa_cons (pe_op op_mul pe_int (pv 3)) (pa_cons (pe_op op_mul pe_int (pv 3)) (pa_cons (pe_op op_add (pe_op op_mul pe_int (pv 3)) pe_int) (pa_cons (pe_op op_add (pe_op op_mul pe_int (pv 3)) pe_int) (pa_cons (pe_op op_add pe_int (pcall D__law_draw hr.r (pa_cons (pv 0) (pa_cons (pe_op op_mul pe_int (pv 3)) pa_nil)))) pa_nil))))))) (pg_name (i := 4) sc__law_pieces_right.nd rfl (by first | exact Or.inl rfl | exact Or.inr rfl)) (pss_cons (ps_set (i := 5) sc__law_pieces_right.nd rfl (by first | exact Or.inl rfl | exact Or.inr rfl) (pe_ifExp (pt_cmpR op_lt (pv 4) (pe_op op_mul pe_int (pv 3)) (nomark _)) (pe_callB call_len_seq (by rfl) T.n_len (by decide +kernel) (pa_cons (pcall D__law_pieces hr.r (pa_cons (pv 1) (pa_cons (pv 4) pa_nil))) pa_nil)) pe_int)) (pss_cons (ps_set (i := 6) sc__law_pieces_right.nd rfl (by first | exact Or.inl rfl | exact Or.inr rfl) (pe_ifExp (pt_cmpR op_gt (pv 5) pe_int (nomark _)) (pe_callB (call_reprQ hr T.sys) (by rfl) T.n_repr (by decide +kernel) (pa_cons (pe_tup (pa_cons pe_str (pa_cons pe_int pa_nil))) pa_nil)) (pe_callB (call_reprQ hr T.sys) (by rfl) T.n_repr (by decide +kernel) (pa_cons (pe_tup (pa_cons pe_str (pa_cons pe_non pa_nil))) pa_nil)))) (pss_one (ps_if (pt_cmpR op_ne (pcallG D__law_told hr (pa_cons (pv 2) (pa_cons pe_str (pa_cons (pe_tup (pa_cons (pv 4) pa_nil)) pa_nil)))) (pv 6) (nomark _)) (pss_one (ps_ret pe_bl)) pss_nil))))) (pss_one (ps_ret (pe_cmpR op_eq (pcallG D__law_told hr (pa_cons (pv 2) (pa_cons pe_str (pa_cons (pe_tup (pa_cons (pe_op op_pow pe_int pe_int) pa_nil)) pa_nil)))) (pe_callB (call_reprQ hr T.sys) (by rfl) T.n_repr (by decide +kernel) (pa_cons (pe_tup (pa_cons pe_str (pa_cons pe_int pa_nil))) pa_nil)) (nomark _)))))), ?_⟩)
  · obtain ⟨r, o, p, ns, rfl, _⟩ := h
    rfl
  · obtain ⟨r, o, p, ns, rfl, hR, g, gp, hO, nor, hz, q⟩ := h
    have l8 := g.len
    have ch := chain g
    have hk : ns.length - 1 < ns.length := by omega
    have p2 := ch.pos _ hk
    have pl := sz_le g hk
    obtain ⟨ys, x, rfl⟩ := last_of l8.1
    have ex : sz (ys ++ [x]) ((ys ++ [x]).length - 1) = x := Option.some.inj ((sz_at hk).symm.trans (last_get ys x))
    rw [ex] at p2 pl
    have big : (10 : Int) ^ 40 = 10000000000000000000000000000000000000000 := by decide
    refine ⟨_, rfl, _, rfl, o, _, _, _, rfl, rfl, SqL.of hO, at_last ys x, ?_⟩
    refine ⟨_, rfl, _, _, rfl, rfl, .inl ⟨by decide, by decide⟩, _, rfl, _, _, rfl, rfl, .inl ⟨by decide, by decide⟩, _, rfl, _, _, rfl, rfl, .inl ⟨by decide, by decide⟩, _, _, rfl, rfl, _, rfl, _, _, rfl, rfl, .inl ⟨by decide, by decide⟩, _, _, rfl, rfl,
      _, rfl, _, rfl, _, _, rfl, rfl, .inl ⟨by decide, by decide⟩, r, 70 * x, rfl, hR, by omega, by omega, fun d G d0 d1 s1 => ?_⟩
    refine ⟨_, _, rfl, rfl, (by show 5 ≤ sizeLine; decide), fun L hL => ?_⟩
    have cs : ∀ c ∈ [64 * x, 65 * x, 63 * x + 1, 64 * x + 1, 1 + d], 1 ≤ c ∧ c ≤ 70 * x := fun c hc => by
      simp only [List.mem_cons, List.not_mem_nil, or_false] at hc
      rcases hc with rfl | rfl | rfl | rfl | rfl <;> omega
    have s2 := s1.new (o := .lst ([64 * x, 65 * x, 63 * x + 1, 64 * x + 1, 1 + d].map V.int)) hL
    have hL1 : (upd G L (.lst ([64 * x, 65 * x, 63 * x + 1, 64 * x + 1, 1 + d].map V.int))) L = some (.lst ([64 * x, 65 * x, 63 * x + 1, 64 * x + 1, 1 + d].map V.int)) := upd_same
    have hzG := hz.stp s2
    have hOG := s2.2 o _ nor hO
    refine ⟨L, rfl, ⟨_, SqL.of hL1⟩, ?_⟩
    refine for_it (walk_list (xs := [64 * x, 65 * x, 63 * x + 1, 64 * x + 1, 1 + d].map V.int)) (fun i σ G' => (∃ x4 x5 x6 : Option V, σ = [some (.ref r), some (.ref o), some (.ref p), some (.int x), x4, x5, x6]) ∧ Same (upd G L (.lst ([64 * x, 65 * x, 63 * x + 1, 64 * x + 1, 1 + d].map V.int))) G') ⟨⟨none, none, none, rfl⟩, Same.refl _⟩ (fun i σ G' _ h => SqL.of (h.2 _ _ hL1)) ?_ ?_
    · rintro i v σ Ga Gb hi ⟨⟨x4, x5, x6, rfl⟩, sm⟩ ⟨rfl, hv⟩
      rw [List.getElem?_map] at hv
      obtain ⟨c, hc, rfl⟩ := Option.map_eq_some_iff.mp hv
      obtain ⟨c1, cb⟩ := cs c (List.mem_of_getElem? hc)
      have c2 : c ≤ 1000000000000 := by omega
      refine ⟨_, rfl, _, rfl, _, _, rfl, rfl, .inl ⟨by decide, by decide⟩, _, _, rfl, rfl, _, rfl, ifT (decide_eq_true (show c < 200 * x by omega)) ?_⟩
      refine ⟨_, rfl, _, rfl, o, ys ++ [x], c, rfl, sm _ _ hOG, g, by omega, fun k hk => cnt_bnd g gp (by omega) (by rw [ex]; exact cb) hk, fun l xs H2 hl s2 hl2 el => ⟨l, xs, rfl, .inl (SqL.of hl2), ?_⟩⟩
      refine ⟨_, rfl, _, _, rfl, rfl, _, rfl, ?_⟩
      by_cases hs : (cnts (ys ++ [x]) c).sum > 64
      · have hs2 : (xs.length : Int) > 64 := by omega
        refine ifT (decide_eq_true hs2) ⟨(by show 2 ≤ sizeLine; decide), fun t ht => ?_⟩
        have u1 := same_upd (o := .tup [.str "pieces", .int 64]) ht
        have tq := pp_tq (K := K) (upd_same (H := H2) (a := t) (o := .tup [.str "pieces", .int 64]))
        refine ⟨_, _, rfl, tq.dq, tq.sh, Nat.le_trans tq.dp (by decide), Nat.le_trans tq.ln (by decide), ?_⟩
        generalize upd H2 t (.tup [.str "pieces", .int 64]) = H3 at *
        refine ⟨_, rfl, _, rfl, (by show 1 ≤ sizeLine; decide), fun t2 ht2 => ?_⟩
        have u2 := same_upd (o := .tup [.int c]) ht2
        have sA := sm.trans (s2.trans (u1.trans u2))
        have po := pieces_out ((hzG.sz).same sA) g c1 c2
        rw [if_pos hs] at po
        refine ⟨p, ys ++ [x], "pieces", t2, [.int c], some (5, .int 64), ppD, rfl, (hzG.sz).same sA, upd_same, po, ⟨rfl, by decide, (tq_int (by decide) (by decide)).mono (by decide) (by decide)⟩, fun H4 s4 => ?_⟩
        exact ⟨_, rfl, rfl, false, by rw [show dueD ppD = dueD ppD from rfl, decide_eq_true rfl]; rfl, iteF ⟨⟨_, _, _, rfl⟩, sA.trans s4⟩⟩
      · have hs2 : ¬ (xs.length : Int) > 64 := by omega
        refine ifF (decide_eq_false hs2) ⟨(by show 2 ≤ sizeLine; decide), fun t ht => ?_⟩
        have u1 := same_upd (o := .tup [.str "none", .non]) ht
        have tq := none_tq (K := K) (upd_same (H := H2) (a := t) (o := .tup [.str "none", .non]))
        refine ⟨_, _, rfl, tq.dq, tq.sh, Nat.le_trans tq.dp (by decide), Nat.le_trans tq.ln (by decide), ?_⟩
        generalize upd H2 t (.tup [.str "none", .non]) = H3 at *
        refine ⟨_, rfl, _, rfl, (by show 1 ≤ sizeLine; decide), fun t2 ht2 => ?_⟩
        have u2 := same_upd (o := .tup [.int c]) ht2
        have sA := sm.trans (s2.trans (u1.trans u2))
        have po := pieces_out ((hzG.sz).same sA) g c1 c2
        rw [if_neg hs] at po
        refine ⟨p, ys ++ [x], "pieces", t2, [.int c], none, none, rfl, (hzG.sz).same sA, upd_same, po, trivial, fun H4 s4 => ?_⟩
        exact ⟨_, rfl, rfl, false, by rw [show dueD none = .tuple [.str "none", .none] from rfl, decide_eq_true rfl]; rfl, iteF ⟨⟨_, _, _, rfl⟩, sA.trans s4⟩⟩
    · rintro σ G' ⟨⟨x4, x5, x6, rfl⟩, sm⟩
      have hs := huge_sum g
      refine ⟨_, rfl, _, _, rfl, rfl, ⟨by decide, by decide, by decide⟩, (by show 1 ≤ sizeLine; decide), fun t ht => ?_⟩
      have u1 := sm.trans (same_upd (o := .tup [.int 1000000000000]) ht)
      have po := pieces_out ((hzG.sz).same u1) g (n := 1000000000000) (by decide) (by decide)
      rw [if_pos hs] at po
      refine ⟨p, ys ++ [x], "pieces", t, [.int 1000000000000], some (5, .int 64), ppD, rfl, (hzG.sz).same u1, upd_same, po, ⟨rfl, by decide, (tq_int (by decide) (by decide)).mono (by decide) (by decide)⟩, fun H4 s4 => ⟨(by show 2 ≤ sizeLine; decide), fun t2 ht2 => ?_⟩⟩
      have u2 := u1.trans (s4.trans (same_upd (o := .tup [.str "pieces", .int 64]) ht2))
      have tq := pp_tq (K := K) (upd_same (H := H4) (a := t2) (o := .tup [.str "pieces", .int 64]))
      refine ⟨_, _, rfl, tq.dq, tq.sh, Nat.le_trans tq.dp (by decide), Nat.le_trans tq.ln (by decide), rfl, ?_⟩
      rw [decide_eq_true rfl]
      exact q _ (Stp.same s2 u2)
end
end K18

set_option Elab.async false
set_option linter.all false
set_option maxRecDepth 100000
set_option maxHeartbeats 4000000
set_option pp.maxSteps 900
namespace K18
open PySem PySem.Spec PyProof.Rows L2 Gu Ex
theorem Rng.ntup {H : Hp} {r p : Addr} {xs : List V} (h : Rng H r) (e : H p = some (.tup xs)) : p ≠ r := fun z => by
  obtain ⟨a, b, e2, _⟩ := h
  rw [z, e2] at e
  cases e
theorem Rng.ndct {H : Hp} {r p : Addr} {xs : List (Key × V)} (h : Rng H r) (e : H p = some (.dK xs)) : p ≠ r := fun z => by
  obtain ⟨a, b, e2, _⟩ := h
  rw [z, e2] at e
  cases e
/-- v keeps its data and its kind through all draws -/
def Nv (K : PySem.W.Frag) (r : Addr) (H : Hp) (v : V) : Prop := ∃ d, ∀ H', Stp r H H' → Any H' v ∧ Tq K H' v d 4 100
/-- .. and if it is a whole number, it is such a one -/
def Ki (K : PySem.W.Frag) (r : Addr) (H : Hp) (p : Int → Prop) (v : V) : Prop := Nv K r H v ∧ ∀ i, v = .int i → p i
def Kis (K : PySem.W.Frag) (r : Addr) (H : Hp) (p : Int → Prop) (vs : List V) : Prop := ∀ v ∈ vs, Ki K r H p v
section
variable {K : PySem.W.Frag} {r a : Addr} {H H1 : Hp} {v : V} {vs ws : List V} {p q : Int → Prop}
theorem Nv.step (h : Nv K r H v) (t : Stp r H H1) : Nv K r H1 v := by
  obtain ⟨d, h⟩ := h
  exact ⟨d, fun H' t' => h H' (t.trans t')⟩
theorem Nv.any (h : Nv K r H v) (t : Stp r H H1) : Any H1 v := by
  obtain ⟨d, h⟩ := h
  exact (h H1 t).1
theorem nv_non : Nv K r H .non := ⟨_, fun _ _ => ⟨.non, tq_non.mono (by decide) (by decide)⟩⟩
theorem nv_bl (b : Bool) : Nv K r H (.bl b) := ⟨_, fun _ _ => ⟨.bl b, (tq_bl b).mono (by decide) (by decide)⟩⟩
theorem nv_int {i : Int} (h1 : -(10 ^ 39) ≤ i) (h2 : i ≤ 10 ^ 39) : Nv K r H (.int i) := ⟨_, fun _ _ => ⟨.int i, (tq_int h1 h2).mono (by decide) (by decide)⟩⟩
theorem nv_str (z : String) (h : (reprText (Str.ofString z)).length ≤ 41) (h2 : (decide ((Str.ofString z).length ≤ 1000) && (Str.ofString z).cps.toList.all fun c => decide (c < 1114112)) = true) : Nv K r H (.str (Str.ofString z)) := by
  obtain ⟨a1, a2⟩ := He.ba h2
  exact ⟨_, fun _ _ => ⟨.str _ ⟨of_decide_eq_true a1, lt_ch a2⟩, (tq_text z h).mono (by decide) (by decide)⟩⟩
theorem nv_lst (ne : a ≠ r) (h : H a = some (.lst [])) : Nv K r H (.ref a) := ⟨_, fun H' t => ⟨.lst (t.2 _ _ ne h), (TqAll.lst (n := 3) (m := 41) tqa_nil (t.2 _ _ ne h)).mono (by decide) (by show 0 * (41 + 2) + 3 ≤ 100; decide)⟩⟩
theorem nv_lst1 {x : V} {d : PyData} (ne : a ≠ r) (h : H a = some (.lst [x])) (tx : ∀ H', Tq K H' x d 0 41) : Nv K r H (.ref a) := ⟨_, fun H' t => ⟨.lst (t.2 _ _ ne h), (TqAll.lst (tqa_cons (tx H') tqa_nil) (t.2 _ _ ne h)).mono (by decide) (by show 1 * (41 + 2) + 3 ≤ 100; decide)⟩⟩
theorem nv_tup (hR : Rng H r) (h : H a = some (.tup [])) : Nv K r H (.ref a) := ⟨_, fun H' t => ⟨.tup (t.2 _ _ (hR.ntup h) h), (TqAll.tup (n := 3) (m := 41) tqa_nil (t.2 _ _ (hR.ntup h) h)).mono (by decide) (by show 0 * (41 + 2) + 3 ≤ 100; decide)⟩⟩
theorem nv_tup1 {x : V} {d : PyData} (hR : Rng H r) (h : H a = some (.tup [x])) (tx : ∀ H', Tq K H' x d 0 41) : Nv K r H (.ref a) := ⟨_, fun H' t => ⟨.tup (t.2 _ _ (hR.ntup h) h), (TqAll.tup (tqa_cons (tx H') tqa_nil) (t.2 _ _ (hR.ntup h) h)).mono (by decide) (by show 1 * (41 + 2) + 3 ≤ 100; decide)⟩⟩
theorem nv_dct (hR : Rng H r) (h : H a = some (.dK [])) : Nv K r H (.ref a) := ⟨_, fun H' t => ⟨.dct (t.2 _ _ (hR.ndct h) h), (tq_dct (t.2 _ _ (hR.ndct h) h)).mono (by decide) (by decide)⟩⟩
theorem Ki.step (h : Ki K r H p v) (t : Stp r H H1) : Ki K r H1 p v := ⟨h.1.step t, h.2⟩
theorem Kis.step (h : Kis K r H p vs) (t : Stp r H H1) : Kis K r H1 p vs := fun v hv => (h v hv).step t
theorem Kis.up (h : Kis K r H p vs) (g : ∀ i, p i → q i) : Kis K r H q vs := fun v hv => ⟨(h v hv).1, fun i e => g i ((h v hv).2 i e)⟩
theorem Kis.app (h : Kis K r H p vs) (g : Kis K r H p ws) : Kis K r H p (vs ++ ws) := fun v hv => (List.mem_append.mp hv).elim (h v) (g v)
theorem kis_nil : Kis K r H p [] := fun _ z => nomatch z
theorem kis_cons (h : Ki K r H p v) (g : Kis K r H p vs) : Kis K r H p (v :: vs) := fun f hf => (List.mem_cons.mp hf).elim (fun z => z ▸ h) (g f)
theorem ki_int {i : Int} (h1 : -(10 ^ 39) ≤ i) (h2 : i ≤ 10 ^ 39) (h : p i) : Ki K r H p (.int i) := ⟨nv_int h1 h2, fun j e => by
  cases e
  exact h⟩
theorem ki_of (h : Nv K r H v) (n : ∀ i, v ≠ .int i) : Ki K r H p v := ⟨h, fun i e => absurd e (n i)⟩
theorem ki_ref {b : Addr} (h : Nv K r H (.ref b)) : Ki K r H p (.ref b) := ki_of h fun _ z => nomatch z
end
/-- a call that is refused so -/
def DoF (K : PySem.W.Frag) (r : Addr) (H : Hp) (ns : List Int) (w : Str) (xs : List V) (j : Nat) (v : V) : Prop :=
  j < 6 ∧ (∃ d, ∀ H', Stp r H H' → Tq K H' v d 4 100) ∧ ∀ H' p, Stp r H H' → SzI K H' p ns → DoOut K p w xs H' (some (j, v))
theorem DoF.step {K : PySem.W.Frag} {r : Addr} {H H1 : Hp} {ns : List Int} {w : Str} {xs : List V} {j : Nat} {v : V} (h : DoF K r H ns w xs j v) (t : Stp r H H1) : DoF K r H1 ns w xs j v := by
  obtain ⟨a, ⟨d, b⟩, c⟩ := h
  exact ⟨a, ⟨d, fun H' t' => b H' (t.trans t')⟩, fun H' p t' => c H' p (t.trans t')⟩
section
variable {K : PySem.W.Frag} {r : Addr} {H : Hp} {ns : List Int} {l n a b v : V} {x : Str} {lo : Int}
theorem nv_tq (h : Nv K r H v) : ∃ d, ∀ H', Stp r H H' → Tq K H' v d 4 100 := by
  obtain ⟨d, h⟩ := h
  exact ⟨d, fun H' t => (h H' t).2⟩
theorem int_tq (i : Int) (h1 : -(10 ^ 39) ≤ i) (h2 : i ≤ 10 ^ 39) : ∃ d, ∀ H', Stp r H H' → Tq K H' (.int i) d 4 100 := ⟨_, fun H' t => (tq_int h1 h2).mono (by decide) (by decide)⟩
theorem no_lv {m : Nat} (e : lvB m v = false) : ∀ i : Nat, v = .int (i : Int) → i < m → False := fun i ev hi => by
  rw [ev, lv_of hi] at e
  cases e
theorem tf {c : Bool} {P : Prop} (e : c = false) : c = true → P := fun z => by
  rw [e] at z
  cases z
theorem do_size (nl : Nv K r H l) (e : lvB ns.length l = false) : DoF K r H ns "size" [l] 2 l :=
  ⟨by decide, nv_tq nl, fun H' p t hz Q E q => .inl ⟨rfl, _, rfl, p, ns, l, rfl, hz, nl.any t, fun i ev hi => (no_lv e i ev hi).elim, fun _ => q⟩⟩
theorem do_lv (g : Good ns) (nn : Nv K r H n) (e : cellsB n = false) : DoF K r H ns "level_of" [n] 3 n :=
  ⟨by decide, nv_tq nn, fun H' p t hz Q E q => .inr (.inl ⟨rfl, _, rfl, p, ns, n, rfl, hz, g, nn.any t, fun m k _ c _ => tf e c, fun _ => q⟩)⟩
theorem do_whole1 (g : Good ns) (nn : Nv K r H n) (nl : Nv K r H l) (e : cellsB n = false) : DoF K r H ns "whole" [n, l] 3 n :=
  ⟨by decide, nv_tq nn, fun H' p t hz Q E q => .inr (.inr (.inl ⟨rfl, _, _, rfl, p, ns, n, l, rfl, hz, g, nn.any t, nl.any t, fun m i _ c _ _ => tf e c, fun _ => q, fun c => tf e c⟩))⟩
theorem do_whole2 (g : Good ns) (nl : Nv K r H l) (e : lvB ns.length l = false) : DoF K r H ns "whole" [.int 5, l] 2 l :=
  ⟨by decide, nv_tq nl, fun H' p t hz Q E q => .inr (.inr (.inl ⟨rfl, _, _, rfl, p, ns, .int 5, l, rfl, hz, g, .int 5, nl.any t, fun m i _ c ev hi => (no_lv e i ev hi).elim, fun c => (Bool.noConfusion c), fun _ _ => q⟩))⟩
theorem do_counts (g : Good ns) (nn : Nv K r H n) (e : cellsB n = false) : DoF K r H ns "counts" [n] 3 n :=
  ⟨by decide, nv_tq nn, fun H' p t hz Q E q => .inr (.inr (.inr (.inl ⟨rfl, _, rfl, p, ns, n, rfl, hz, g, nn.any t, fun m a H'' _ c _ _ _ => tf e c, fun _ => q⟩)))⟩
theorem do_pieces (g : Good ns) (nn : Nv K r H n) (e : cellsB n = false) : DoF K r H ns "pieces" [n] 3 n :=
  ⟨by decide, nv_tq nn, fun H' p t hz Q E q => .inr (.inr (.inr (.inr (.inl ⟨rfl, _, rfl, p, ns, n, rfl, hz, g, nn.any t, fun m a H'' _ c _ _ _ _ => tf e c, fun _ => q, fun m _ c => tf e c⟩))))⟩
theorem do_dbl (nn : Nv K r H n) (e : ∀ m : Nat, n = .int m → 1 ≤ m → m ≤ 8 → False) : DoF K r H ns "doubling" [n] 1 n :=
  ⟨by decide, nv_tq nn, fun H' p t hz Q E q => .inr (.inr (.inr (.inr (.inr (.inl ⟨rfl, _, rfl, n, rfl, nn.any t, fun m ev a b => (e m ev a b).elim, fun _ => q⟩)))))⟩
theorem do_from0 (nv : Nv K r H v) (e : isS v = false) : DoF K r H ns "from_text" [v] 4 (.int 0) :=
  ⟨by decide, int_tq 0 (by decide) (by decide), fun H' p t hz Q E q => .inr (.inr (.inr (.inr (.inr (.inr (.inl ⟨rfl, _, rfl, v, rfl, nv.any t, fun x ev => (by rw [ev] at e; cases e), fun _ => q⟩))))))⟩
theorem do_from1 (o : OddT x) : DoF K r H ns "from_text" [.str x] 4 (.int 1) :=
  ⟨by decide, int_tq 1 (by decide) (by decide), fun H' p t hz Q E q => .inr (.inr (.inr (.inr (.inr (.inr (.inl ⟨rfl, _, rfl, .str x, rfl, .str x ⟨Nat.le_trans o.ln (by decide), o.ch⟩, fun y ey => by
    cases ey
    exact ⟨o.ln, fun ms rd => (o.no ms rd).elim, fun _ => q⟩, fun z => (by cases z)⟩))))))⟩
theorem do_isr (nn : Nv K r H n) (e : cellsB n = false) : DoF K r H ns "is_region" [n, l, a] 3 n :=
  ⟨by decide, nv_tq nn, fun H' p t hz Q E q => .inr (.inr (.inr (.inr (.inr (.inr (.inr (.inl ⟨rfl, _, _, _, rfl, .ref p, n, l, a, rfl, nn.any t, e, q⟩)))))))⟩
theorem do_start1 (nl : Nv K r H l) (na : Nv K r H a) (e : lvB ns.length l = false) : DoF K r H ns "region_start" [l, a] 2 l :=
  ⟨by decide, nv_tq nl, fun H' p t hz Q E q => .inr (.inr (.inr (.inr (.inr (.inr (.inr (.inr (.inl ⟨rfl, _, _, rfl, p, ns, l, a, rfl, hz, nl.any t, na.any t, .inl ⟨e, q⟩⟩))))))))⟩
theorem do_start2 (g : Good ns) (na : Nv K r H a) (e : addrB a = false) : DoF K r H ns "region_start" [.int 0, a] 0 a :=
  ⟨by decide, nv_tq na, fun H' p t hz Q E q => .inr (.inr (.inr (.inr (.inr (.inr (.inr (.inr (.inl ⟨rfl, _, _, rfl, p, ns, .int 0, a, rfl, hz, .int 0, na.any t, .inr ⟨0, rfl, g.len.1, e, q⟩⟩))))))))⟩
theorem do_count1 (nl : Nv K r H l) (na : Nv K r H a) (nb : Nv K r H b) (e : lvB ns.length l = false) : DoF K r H ns "count_regions" [l, a, b] 2 l :=
  ⟨by decide, nv_tq nl, fun H' p t hz Q E q => .inr (.inr (.inr (.inr (.inr (.inr (.inr (.inr (.inr (.inl ⟨rfl, _, _, _, rfl, p, ns, l, a, b, rfl, hz, nl.any t, na.any t, nb.any t, .inl ⟨e, q⟩⟩)))))))))⟩
theorem do_count2 (g : Good ns) (na : Nv K r H a) (nb : Nv K r H b) (e : addrB a = false) : DoF K r H ns "count_regions" [.int 0, a, b] 0 a :=
  ⟨by decide, nv_tq na, fun H' p t hz Q E q => .inr (.inr (.inr (.inr (.inr (.inr (.inr (.inr (.inr (.inl ⟨rfl, _, _, _, rfl, p, ns, .int 0, a, b, rfl, hz, .int 0, na.any t, nb.any t, .inr ⟨0, rfl, g.len.1, .inl ⟨e, q⟩⟩⟩)))))))))⟩
theorem do_count3 (g : Good ns) (nb : Nv K r H b) (l0 : 0 ≤ lo) (e : hiB lo b = false) : DoF K r H ns "count_regions" [.int 0, .int lo, b] 0 b :=
  ⟨by decide, nv_tq nb, fun H' p t hz Q E q => .inr (.inr (.inr (.inr (.inr (.inr (.inr (.inr (.inr (.inl ⟨rfl, _, _, _, rfl, p, ns, .int 0, .int lo, b, rfl, hz, .int 0, .int lo, nb.any t, .inr ⟨0, rfl, g.len.1, .inr ⟨lo, rfl, l0, e, q⟩⟩⟩)))))))))⟩
theorem do_runs1 (na : Nv K r H a) (nb : Nv K r H b) (e : addrB a = false) : DoF K r H ns "maximal_runs" [a, b] 0 a :=
  ⟨by decide, nv_tq na, fun H' p t hz Q E q => .inr (.inr (.inr (.inr (.inr (.inr (.inr (.inr (.inr (.inr ⟨rfl, _, _, rfl, .ref p, a, b, rfl, na.any t, nb.any t, .inl ⟨e, q⟩⟩)))))))))⟩
theorem do_runs2 (nb : Nv K r H b) (l0 : 0 ≤ lo) (e : hiB lo b = false) : DoF K r H ns "maximal_runs" [.int lo, b] 0 b :=
  ⟨by decide, nv_tq nb, fun H' p t hz Q E q => .inr (.inr (.inr (.inr (.inr (.inr (.inr (.inr (.inr (.inr ⟨rfl, _, _, rfl, .ref p, .int lo, b, rfl, .int lo, nb.any t, .inr ⟨lo, rfl, l0, e, q⟩⟩)))))))))⟩
theorem no_level (h : ∀ i, l = .int i → i < 0 ∨ (ns.length : Int) ≤ i) : lvB ns.length l = false := by
  cases l with
  | int i => exact decide_eq_false fun z => by have := h i rfl; omega
  | _ => rfl
theorem no_cells (h : ∀ i, n = .int i → i < 1 ∨ 1000000000000 < i) : cellsB n = false := by
  cases n with
  | int i => exact decide_eq_false fun z => by have := h i rfl; omega
  | _ => rfl
theorem no_addr (h : ∀ i, a = .int i → i < 0) : addrB a = false := by
  cases a with
  | int i => exact decide_eq_false fun z => by have := h i rfl; omega
  | _ => rfl
theorem no_high (h : ∀ i, a = .int i → i < lo) : hiB lo a = false := by
  cases a with
  | int i => exact decide_eq_false fun z => by have := h i rfl; omega
  | _ => rfl
end
/-- the call at e: word, values, and what is due -/
def CallO (K : PySem.W.Frag) (r : Addr) (ns : List Int) (H : Hp) (e : V) : Prop := ∃ (a tx td : Addr) (w : Str) (xs : List V) (j : Nat) (v : V), e = .ref a ∧ H a = some (.tup [.str w, .ref tx, .ref td]) ∧ H tx = some (.tup xs) ∧ H td = some (.tup [.str (wordOf j), v]) ∧ DoF K r H ns w xs j v
def CallsO (K : PySem.W.Frag) (r : Addr) (ns : List Int) (H : Hp) (es : List V) : Prop := ∀ e ∈ es, CallO K r ns H e
section
variable {K : PySem.W.Frag} {r : Addr} {ns : List Int} {H H1 : Hp} {e : V} {es fs : List V}
theorem CallO.step (hR : Rng H r) (h : CallO K r ns H e) (t : Stp r H H1) : CallO K r ns H1 e := by
  obtain ⟨a, tx, td, w, xs, j, v, rfl, h1, h2, h3, d⟩ := h
  exact ⟨a, tx, td, w, xs, j, v, rfl, t.2 _ _ (hR.ntup h1) h1, t.2 _ _ (hR.ntup h2) h2, t.2 _ _ (hR.ntup h3) h3, d.step t⟩
theorem CallsO.step (hR : Rng H r) (h : CallsO K r ns H es) (t : Stp r H H1) : CallsO K r ns H1 es := fun e he => (h e he).step hR t
theorem CallsO.app (h : CallsO K r ns H es) (g : CallsO K r ns H fs) : CallsO K r ns H (es ++ fs) := fun e he => (List.mem_append.mp he).elim (h e) (g e)
theorem co_nil : CallsO K r ns H [] := fun _ z => nomatch z
theorem co_cons (h : CallO K r ns H e) (g : CallsO K r ns H es) : CallsO K r ns H (e :: es) := fun f hf => (List.mem_cons.mp hf).elim (fun z => z ▸ h) (g f)
/-- a call's three tuples are laid -/
theorem call3 {t1 t2 t3 : Addr} {w wd : Str} {xs : List V} {j : Nat} {v : V} (hR : Rng H r) (d : DoF K r H ns w xs j v) (hw : wd = wordOf j) (h1 : H t1 = none) (h2 : (upd H t1 (.tup xs)) t2 = none) (h3 : (upd (upd H t1 (.tup xs)) t2 (.tup [.str wd, v])) t3 = none) :
    Same H (upd (upd (upd H t1 (.tup xs)) t2 (.tup [.str wd, v])) t3 (.tup [.str w, .ref t1, .ref t2])) ∧ Stp r H (upd (upd (upd H t1 (.tup xs)) t2 (.tup [.str wd, v])) t3 (.tup [.str w, .ref t1, .ref t2])) ∧
      CallO K r ns (upd (upd (upd H t1 (.tup xs)) t2 (.tup [.str wd, v])) t3 (.tup [.str w, .ref t1, .ref t2])) (.ref t3) := by
  subst hw
  have s1 := same_upd (o := .tup xs) h1
  have s2 := same_upd (o := .tup [.str (wordOf j), v]) h2
  have s3 := same_upd (o := .tup [.str w, .ref t1, .ref t2]) h3
  have s := s1.trans (s2.trans s3)
  have t := Stp.same (Stp.refl hR) s
  exact ⟨s, t, t3, t1, t2, w, xs, j, v, rfl, upd_same, s3 _ _ (s2 _ _ upd_same), s3 _ _ upd_same, d.step t⟩
end
end K18

set_option Elab.async false
set_option linter.all false
set_option maxRecDepth 100000
set_option maxHeartbeats 4000000
set_option pp.maxSteps 900
namespace K18
open PySem PySem.Spec PyProof.Rows L2 Gu Ex
/-- v keeps its kind through all draws -/
def Avs (r : Addr) (H : Hp) (vs : List V) : Prop := ∀ v ∈ vs, ∀ H', Stp r H H' → Any H' v
section
variable {r a : Addr} {H H1 : Hp} {v : V} {vs ws : List V}
theorem Avs.step (h : Avs r H vs) (t : Stp r H H1) : Avs r H1 vs := fun v hv H' t' => h v hv H' (t.trans t')
theorem Avs.app (h : Avs r H vs) (g : Avs r H ws) : Avs r H (vs ++ ws) := fun v hv => (List.mem_append.mp hv).elim (h v) (g v)
theorem avs_nil : Avs r H [] := fun _ z => nomatch z
theorem avs_cons (h : ∀ H', Stp r H H' → Any H' v) (g : Avs r H vs) : Avs r H (v :: vs) := fun f hf => (List.mem_cons.mp hf).elim (fun z => z ▸ h) (g f)
theorem av_int (i : Int) (g : Avs r H vs) : Avs r H (.int i :: vs) := avs_cons (fun _ _ => .int i) g
theorem av_str {x : Str} (h : x.length ≤ 1000 ∧ ∀ c ∈ x.cps.toList, c < 1114112) (g : Avs r H vs) : Avs r H (.str x :: vs) := avs_cons (fun _ _ => .str x h) g
theorem av_lit {x : Str} (h : (decide (x.length ≤ 1000) && x.cps.toList.all fun c => decide (c < 1114112)) = true) (g : Avs r H vs) : Avs r H (.str x :: vs) := av_str ⟨of_decide_eq_true (He.ba h).1, lt_ch (He.ba h).2⟩ g
theorem av_lst {xs : List V} (ne : a ≠ r) (h : H a = some (.lst xs)) : Avs r H [.ref a] := avs_cons (fun _ t => .lst (t.2 _ _ ne h)) avs_nil
theorem av_tup {xs : List V} (R : Rng H r) (h : H a = some (.tup xs)) : Avs r H [.ref a] := avs_cons (fun _ t => .tup (t.2 _ _ (R.ntup h) h)) avs_nil
theorem av_dct {xs : List (Key × V)} (R : Rng H r) (h : H a = some (.dK xs)) : Avs r H [.ref a] := avs_cons (fun _ t => .dct (t.2 _ _ (R.ndct h) h)) avs_nil
theorem Avs.cons (h : Avs r H [v]) (g : Avs r H vs) : Avs r H (v :: vs) := avs_cons (h v List.mem_cons_self) g
end
theorem join0_ch : ∀ (ps : List (List Nat)), (∀ p ∈ ps, ∀ c ∈ p, c < 1114112) → ∀ c ∈ TL.joinL [] ps, c < 1114112
  | [], _, c, hc => absurd hc List.not_mem_nil
  | [p], h, c, hc => h p (List.mem_singleton.mpr rfl) c hc
  | p :: q :: r, h, c, hc => by
    have hc : c ∈ p ++ ([] ++ TL.joinL [] (q :: r)) := hc
    rcases List.mem_append.mp hc with z | z
    · exact h p List.mem_cons_self c z
    · exact join0_ch (q :: r) (fun p hp => h p (List.mem_cons_of_mem _ hp)) c z
theorem join0_len : ∀ (ps : List (List Nat)), (∀ p ∈ ps, p.length ≤ 1) → (TL.joinL [] ps).length ≤ ps.length
  | [], _ => Nat.le_refl _
  | [p], h => h p (List.mem_singleton.mpr rfl)
  | p :: q :: r, h => by
    have e : TL.joinL [] (p :: q :: r) = p ++ ([] ++ TL.joinL [] (q :: r)) := rfl
    have a := h p List.mem_cons_self
    have b := join0_len (q :: r) fun p hp => h p (List.mem_cons_of_mem _ hp)
    rw [e, List.length_append, List.nil_append, List.length_cons]
    omega
theorem drawn_ok {ws : List Str} (h : ∀ u ∈ ws, u.length = 1 ∧ ∀ c ∈ u.cps.toList, c < 1114112) : (Txt.join (Str.ofString "") ws).length ≤ ws.length ∧ ∀ c ∈ (Txt.join (Str.ofString "") ws).cps.toList, c < 1114112 := by
  have e : TL.tl (Txt.join (Str.ofString "") ws) = TL.joinL [] (ws.map TL.tl) := by
    rw [TL.join_eq, TL.tl_join]
    rfl
  constructor
  · rw [len_cs]
    show (TL.tl _).length ≤ _
    rw [e]
    refine Nat.le_trans (join0_len _ fun p hp => ?_) (by rw [List.length_map]; exact Nat.le_refl _)
    obtain ⟨u, hu, rfl⟩ := List.mem_map.mp hp
    have := (h u hu).1
    rw [len_cs] at this
    exact Nat.le_of_eq this
  · intro c hc
    have hc : c ∈ TL.tl (Txt.join (Str.ofString "") ws) := hc
    rw [e] at hc
    refine join0_ch _ (fun p hp => ?_) c hc
    obtain ⟨u, hu, rfl⟩ := List.mem_map.mp hp
    exact (h u hu).2
theorem cut_ch {x : Str} {lo hi : Option Int} (h : ∀ c ∈ x.cps.toList, c < 1114112) : ∀ c ∈ (cutS x lo hi).cps.toList, c < 1114112 := fun c hc => h c (List.mem_of_mem_drop (List.mem_of_mem_take (show c ∈ ((cs x).drop (HT.sIx x.length 0 lo)).take (HT.sIx x.length x.length hi - HT.sIx x.length 0 lo) from hc)))
theorem letter_ok {c : Nat} (m : c ∈ letters.cps.toList) : (Str.length ⟨#[c]⟩) = 1 ∧ ∀ z ∈ (Str.cps ⟨#[c]⟩).toList, z < 1114112 := by
  refine ⟨rfl, fun z hz => ?_⟩
  have hz : z ∈ [c] := hz
  rw [List.mem_singleton.mp hz]
  have k : (letters.cps.toList.all fun c => decide (c < 1114112)) = true := by decide +kernel
  exact lt_ch k c m
theorem upd2 {H : Hp} {p : Addr} {o1 o2 : HO} : upd (upd H p o1) p o2 = upd H p o2 := by
  funext b
  by_cases e : b = p
  · subst e
    rw [upd_same, upd_same]
  · rw [upd_ne e, upd_ne e, upd_ne e]
theorem nx_of {E0 : Ends} {F : List (Option V) → Hp → Prop} {rt : VK} {σ σ' : List (Option V)} {H : Hp} (e : σ = σ') (h : F σ' H) : ({ E0 with nx := F, rt := rt } : Ends).nx σ H := e ▸ h
theorem go_nm {i : Nat} {x : V} {σ : List (Option V)} {H : Hp} {Q : List (Option V) → Hp → Prop} (h : Q (σ.set i (some x)) H) : gName i x σ H Q := h
theorem go_asg {te : TE} {i : Nat} {u : TS} {D : Ends} {σ : List (Option V)} {H : Hp} (h : te σ H (fun x H1 => u D (σ.set i (some x)) H1)) : tSeq (tAsg te (gName i)) u D σ H := h
/-- the ways of a value that is a truth come together -/
theorem joinV {te : TE} {σ : List (Option V)} {H : Hp} {Q : VK} (Pc : Bool → Hp → Prop) (h1 : ∀ Q' : VK, (∀ c G, Pc c G → Q' (.bl c) G) → te σ H Q') (h2 : ∀ c G, Pc c G → Q (.bl c) G) : te σ H Q := h1 Q h2
theorem joinC {ta : TE} {tr : TA} {σ : List (Option V)} {H : Hp} {Q : List V → Hp → Prop} (Pc : Bool → Hp → Prop) (h1 : ∀ Q' : VK, (∀ c G, Pc c G → Q' (.bl c) G) → ta σ H Q') (h2 : ∀ c G, Pc c G → tr σ G (fun xs H2 => Q (.bl c :: xs) H2)) : tCons ta tr σ H Q := h1 _ h2
section
variable {P : Program} {w : World} {K : PySem.W.Frag} {mg : Str → Option Value} {base : Heap} {f : Addr} {fd : FuncData}
def spKinds : Sp := fun vs H Q _ => ∃ r : Addr, vs = [.ref r] ∧ Rng H r ∧ ∀ H', Stp r H H' → Q (.bl true) H'
theorem sc__law_kinds_right : FnScope ["_law_rng_here", "_law_letters", "_law_word_here", "_law_things", "_law_thing", "_law_is_whole", "_law_is_word", "_law_due", "_law_k", "_law_sign"] ["_law_rng_here"] (defScope (top 45)) := ⟨rfl, rfl, rfl, by decide +kernel, rfl, by decide +kernel, by decide +kernel⟩
theorem ok_kinds (T : Tx K mg) (D__law_draw : Df P w K mg base 1 "_law_draw" ["_law_rng_here", "_law_many"] spDraw) (D_is_integer : Df P w K mg base 1 "is_integer" ["value"] spInt) (D_is_name : Df P w K mg base 1 "is_name" ["value"] spName) (D_is_cells : Df P w K mg base 2 "is_cells" ["value"] spCells)
    (F : FnP K "_law_kinds_right" "_law_kinds_right" (top 45) f fd) : FnG P w K mg base CX0 4 f fd ["_law_rng_here"] spKinds := by
  refine okG F sc__law_kinds_right (fun vs H Q E h => ?_) (fun cdv A outer s H vs Q E hr h => ⟨_, PSs.nox (pss_cons (ps_set (i := 1) sc__law_kinds_right.nd rfl (by first | exact Or.inl rfl | exact Or.inr rfl) pe_str) (pss_cons (ps_set (i := 2) sc__law_kinds_right.nd rfl (by first | exact Or.inl rfl | exact Or.inr rfl) (pe_join pe_str (pe_lc (own := [("_law_k", 8)]) (g := gName 8) rfl sc__law_kinds_right.nd (pi_range1 rfl T.n_range (pa_cons (pcall D__law_draw hr.r (pa_cons (pv 0) (pa_cons pe_int pa_nil))) pa_nil)) (blkOk_by (own := [("_law_k", 8)]) (N := ["_law_rng_here", "_law_letters", "_law_word_here", "_law_things", "_law_thing", "_law_is_whole", "_law_is_word", "_law_due", "_law_k", "_law_sign"]) (sc := defScope (top 45)) (by decide +kernel)) (fun _ _ _ _ _ => pg_name (i := 8) sc__law_kinds_right.nd rfl (Or.inl rfl)) (fun _ _ _ _ _ => pts_nil) (fun _ _ _ _ _ => (pe_ix ix_str (pv 1) (pcall D__law_draw hr.r (pa_cons (pv 0) (pa_cons pe_int pa_nil))) (fun _ _ => rfl)))))) (pss_cons (ps_set (i := 3) sc__law_kinds_right.nd rfl (by first | exact Or.inl rfl | exact Or.inr rfl) (pe_lst (pa_cons (pv 2) (pa_cons (pe_op op_add_str (pe_slice sl_str (pv 2) po_none (po_some pe_int)) pe_str) (pa_cons (pe_op op_add_str (pe_slice sl_str (pv 2) po_none (po_some pe_int)) pe_str) (pa_cons (pe_op op_add_str (pe_slice sl_str (pv 2) po_none (po_some pe_int)) pe_str) (pa_cons (pe_op op_add_str (pe_op op_add_str pe_str (pe_slice sl_str (pv 2) po_none (po_some pe_int))) pe_str) (pa_cons pe_str (pa_cons pe_str (pa_cons pe_str pa_nil)))))))))) (pss_cons (ps_set (i := 3) sc__law_kinds_right.nd rfl (by first | exact Or.inl rfl | exact Or.inr rfl) (pe_op op_cat (pv 3) (pe_lst (pa_cons pe_str (pa_cons pe_str (pa_cons pe_str (pa_cons pe_str (pa_cons pe_str (pa_cons pe_str (pa_cons pe_int (pa_cons pe_int (pa_cons (pe_un un_neg pe_int) (pa_cons (pe_op op_sub (pe_op op_pow pe_int pe_int) pe_int) (pa_cons (pe_op op_pow pe_int pe_int) (pa_cons (pe_op op_add (pe_op op_pow pe_int pe_int) pe_int) pa_nil))))))))))))))) (pss_cons (ps_set (i := 3) sc__law_kinds_right.nd rfl (by first | exact Or.inl rfl | exact Or.inr rfl) (pe_op op_cat (pv 3) (pe_lst (pa_cons (pe_op op_pow pe_int pe_int) (pa_cons (pe_un un_neg (pe_op op_pow pe_int pe_int)) (pa_cons (pcall D__law_draw hr.r (pa_cons (pv 0) (pa_cons (pe_op op_pow pe_int pe_int) pa_nil))) (pa_cons pe_non (pa_cons pe_bl (pa_cons pe_bl pa_nil))))))))) (pss_cons (ps_set (i := 3) sc__law_kinds_right.nd rfl (by first | exact Or.inl rfl | exact Or.inr rfl) (pe_op op_cat (pv 3) (pe_lst (pa_cons (pe_lst pa_nil) (pa_cons (pe_lst (pa_cons pe_str pa_nil)) (pa_cons (pe_tup pa_nil) (pa_cons (pe_tup (pa_cons pe_str pa_nil)) (pa_cons (pe_tup (pa_cons pe_int pa_nil)) (pa_cons pe_dnewK (pa_cons (pe_disp (pps_cons pe_str pe_int pps_nil) (by rfl) (by rfl) (fun z => by cases z) (by decide)) pa_nil)))))))))) (pss_cons (ps_for PassesOwn.never rfl (pi_list (pv 3)) (pg_name (i := 4) sc__law_kinds_right.nd rfl (by first | exact Or.inl rfl | exact Or.inr rfl)) (pss_cons (ps_set (i := 5) sc__law_kinds_right.nd rfl (by first | exact Or.inl rfl | exact Or.inr rfl) (pe_and (pe_callB call_isi (by rfl) T.n_isinstance (by decide +kernel) (pa_cons (pv 4) (pa_cons (pe_bltn (v := .ty "int") (by rfl) T.n_int (by decide +kernel) rfl) pa_nil))) (pe_one (pe_not (pe_callB call_isi (by rfl) T.n_isinstance (by decide +kernel) (pa_cons (pv 4) (pa_cons (pe_bltn (v := .ty "bool") (by rfl) T.n_bool (by decide +kernel) rfl) pa_nil))))))) (pss_cons (ps_set (i := 6) sc__law_kinds_right.nd rfl (by first | exact Or.inl rfl | exact Or.inr rfl) (pe_and (pe_callB call_isi (by rfl) T.n_isinstance (by decide +kernel) (pa_cons (pv 4) (pa_cons (pe_bltn (v := .ty "str") (by rfl) T.n_str (by decide +kernel) rfl) pa_nil))) (pe_and (pe_chain op_lt op_lt pe_int (pe_callB call_len_str (by rfl) T.n_len (by decide +kernel) (pa_cons (pv 4) pa_nil)) pe_int) (pe_one (pe_callB (cr_all rfl) (by rfl) T.n_all (by decide +kernel) (pa_cons (pe_lc (own := [("_law_sign", 9)]) (g := gName 9) rfl sc__law_kinds_right.nd (pi_str (pv 4)) (blkOk_by (own := [("_law_sign", 9)]) (N := ["_law_rng_here", "_law_letters", "_law_word_here", "_law_things", "_law_thing", "_law_is_whole", "_law_is_word", "_law_due", "_law_k", "_law_sign"]) (sc := defScope (top 45)) (by decide +kernel)) (fun _ _ _ _ _ => pg_name (i := 9) sc__law_kinds_right.nd rfl (Or.inl rfl)) (fun _ _ _ _ _ => pts_nil) (fun _ _ _ _ _ => (pe_cmpR op_in_sign (pv 9) (pv 1) (by rfl)))) pa_nil)))))) (pss_cons (ps_set (i := 7) sc__law_kinds_right.nd rfl (by first | exact Or.inl rfl | exact Or.inr rfl) (pe_lst (pa_cons (pv 5) (pa_cons (pv 6) (pa_cons (pe_and (pv 5) (pe_one (pe_chain op_lt op_le pe_int (pv 4) (pe_op op_pow pe_int pe_int)))) pa_nil))))) (pss_one (ps_if (pt_cmpR op_ne (pe_callB (call_reprQ hr T.sys) (by rfl) T.n_repr (by decide +kernel) (pa_cons (pe_lst (pa_cons (pcall D_is_integer hr.r (pa_cons (pv 4) pa_nil)) (pa_cons (pcall D_is_name hr.r (pa_cons (pv 4) pa_nil)) (pa_cons (pcall D_is_cells hr.r (pa_cons (pv 4) pa_nil)) pa_nil)))) pa_nil)) (pe_callB (call_reprQ hr T.sys) (by rfl) T.n_repr (by decide +kernel) (pa_cons (pv 7) pa_nil)) (nomark _)) (pss_one (ps_ret pe_bl)) pss_nil)))))) (pss_one (ps_ret pe_bl))))))))), ?_⟩)
  · obtain ⟨r, rfl, _⟩ := h
    rfl
  · obtain ⟨r, rfl, hR, q⟩ := h
    have big : (10 : Int) ^ 40 = 10000000000000000000000000000000000000000 := by decide
    have e12 : (10 : Int) ^ (12 : Int).toNat = 1000000000000 := by decide
    have pw12 : CPow 10 12 := ⟨by decide, by decide, by decide⟩
    have pw39 : CPow 10 39 := ⟨by decide, by decide, by decide⟩
    have sl : sizeLine = 16777216 := sizeLine_eq
    refine ⟨⟨_, rfl⟩, _, rfl, r, 11, rfl, hR, by decide, by omega, fun d G d0 d1 s1 => ⟨d, rfl, by omega, by omega, fun D hD => ?_⟩⟩
    have hDH : H D = none := s1.free hD
    have nDr : D ≠ r := (hR.ne hDH).symm
    refine lc_range (fun i G' => Stp r H G' ∧ ∃ ws : List Str, G' D = some (.lst (ws.map V.str)) ∧ ws.length = i ∧ ∀ u ∈ ws, u.length = 1 ∧ ∀ c ∈ u.cps.toList, c < 1114112) ⟨s1.new hD, [], upd_same, rfl, fun u hu => absurd hu List.not_mem_nil⟩ ?_ ?_
    · rintro i G' hi ⟨st, ws, hG, wl, wo⟩
      refine ⟨rfl, _, rfl, _, rfl, r, 26, rfl, st.1, by decide, by omega, fun e G2 e0 e1 t => ?_⟩
      obtain ⟨n, rfl⟩ := Int.eq_ofNat_of_zero_le e0
      have ll : letters.cps.toList.length = 26 := by decide +kernel
      have hn : n < letters.cps.toList.length := by omega
      have ha : atI letters.cps.toList (n : Int) = some letters.cps.toList[n] := atI_nat (List.getElem?_eq_getElem hn)
      have hG2 := t.2 D _ nDr hG
      refine ⟨letters, _, _, rfl, rfl, (by rw [len_cs]; show letters.cps.toList.length ≤ _; omega), ha, _, hG2, (by rw [List.length_map]; omega), ?_, ws ++ [⟨#[letters.cps.toList[n]]⟩], ?_, ?_, ?_⟩
      · obtain ⟨⟨x1, x2, f1, f2⟩, kk⟩ := st.trans t
        refine ⟨⟨x1, x2, by rw [upd_ne nDr.symm]; exact f1, f2⟩, fun b o ne f => ?_⟩
        rw [upd_ne (ne_of_none f hDH)]
        exact kk b o ne f
      · rw [upd_same, List.map_append]
        rfl
      · rw [List.length_append, wl]
        rfl
      · intro u hu
        rcases List.mem_append.mp hu with z | z
        · exact wo u z
        · rw [List.mem_singleton.mp z]
          exact letter_ok (List.getElem_mem hn)
    · rintro G' ⟨st, ws, hG, wl, wo⟩
      obtain ⟨j1, j2⟩ := drawn_ok wo
      have w11 : ws.length ≤ 11 := by omega
      have hsum : (List.map (fun x : Str => x.length) ws).sum + ws.length * (Str.ofString "").length ≤ 16777216 := by
        have key : ∀ ps : List Str, (∀ p ∈ ps, p.length = 1 ∧ ∀ c ∈ p.cps.toList, c < 1114112) → (ps.map (fun x : Str => x.length)).sum = ps.length := by
          intro ps
          induction ps with
          | nil => exact fun _ => rfl
          | cons p ps ih =>
            intro h
            rw [List.map_cons, List.sum_cons, (h p List.mem_cons_self).1, ih fun q hq => h q (List.mem_cons_of_mem _ hq), List.length_cons]
            omega
        have l0 : (Str.ofString "").length = 0 := by decide +kernel
        rw [key ws wo, l0]
        omega
      refine ⟨_, D, ws, rfl, rfl, .inl (SqL.of hG), hsum, ?_⟩
      generalize Txt.join (Str.ofString "") ws = wd at j1 j2
      have wb : wd.length ≤ 11 := by omega
      have wz : wd.length ≤ sizeLine := by omega
      have cb := cutS_length wd none (some 4)
      have cc := cut_ch (lo := none) (hi := some 4) j2
      have hx : ∀ y : Str, (decide (y.length ≤ 100) && y.cps.toList.all fun c => decide (c < 1114112)) = true → (cutS wd none (some 4) ++ y).length ≤ 1000 ∧ ∀ c ∈ (cutS wd none (some 4) ++ y).cps.toList, c < 1114112 := fun y hy => by
        have yl := of_decide_eq_true (He.ba hy).1
        exact ⟨by rw [Str.length_append]; omega, ch_app cc (lt_ch (He.ba hy).2)⟩
      have wA : (Str.ofString "A").length = 1 := by decide +kernel
      have wB : (Str.ofString "`").length = 1 := by decide +kernel
      have wC : (Str.ofString "{").length = 1 := by decide +kernel
      have wD : (Str.ofString "a").length = 1 := by decide +kernel
      have wE : (Str.ofString " b").length = 2 := by decide +kernel
      have av1 : ∀ G, Avs r G [.str wd, .str (cutS wd none (some 4) ++ "A"), .str (cutS wd none (some 4) ++ "`"), .str (cutS wd none (some 4) ++ "{"), .str ("a" ++ cutS wd none (some 4) ++ " b"), .str "a1", .str "", .str "abcdefgh"] := fun G => av_str ⟨by omega, j2⟩ (av_str (hx "A" (by decide +kernel)) (av_str (hx "`" (by decide +kernel)) (av_str (hx "{" (by decide +kernel)) (av_str ⟨by rw [Str.length_append, Str.length_append, wD, wE]; omega, ch_app (ch_app (lt_ch (by decide +kernel)) cc) (lt_ch (by decide +kernel))⟩ (av_lit (by decide +kernel) (av_lit (by decide +kernel) (av_lit (by decide +kernel) avs_nil)))))))
      refine ⟨_, rfl, _, rfl, _, rfl, wd, rfl, wz, _, _, rfl, rfl, (by rw [wA]; omega), _, rfl, _, rfl, wd, rfl, wz, _, _, rfl, rfl, (by rw [wB]; omega), _, rfl, _, rfl, wd, rfl, wz, _, _, rfl, rfl, (by rw [wC]; omega), _, rfl, _, rfl, wd, rfl, wz, _, _, rfl, rfl, (by rw [wD]; omega), _, _, rfl, rfl, (by rw [Str.length_append, wD, wE]; omega), (by show 8 ≤ sizeLine; decide), fun u1 hu1 => ?_⟩
      have sx1 := same_upd (o := .lst [.str wd, .str (cutS wd none (some 4) ++ "A"), .str (cutS wd none (some 4) ++ "`"), .str (cutS wd none (some 4) ++ "{"), .str ("a" ++ cutS wd none (some 4) ++ " b"), .str "a1", .str "", .str "abcdefgh"]) hu1
      have sz1 := Stp.same (Stp.refl st.1) sx1
      have uh1 : (upd G' u1 (.lst [.str wd, .str (cutS wd none (some 4) ++ "A"), .str (cutS wd none (some 4) ++ "`"), .str (cutS wd none (some 4) ++ "{"), .str ("a" ++ cutS wd none (some 4) ++ " b"), .str "a1", .str "", .str "abcdefgh"])) u1 = some (.lst [.str wd, .str (cutS wd none (some 4) ++ "A"), .str (cutS wd none (some 4) ++ "`"), .str (cutS wd none (some 4) ++ "{"), .str ("a" ++ cutS wd none (some 4) ++ " b"), .str "a1", .str "", .str "abcdefgh"]) := upd_same
      have un1 : u1 ≠ r := (st.1.ne hu1).symm
      have tt1 := st.trans sz1
      generalize upd G' u1 (.lst [.str wd, .str (cutS wd none (some 4) ++ "A"), .str (cutS wd none (some 4) ++ "`"), .str (cutS wd none (some 4) ++ "{"), .str ("a" ++ cutS wd none (some 4) ++ " b"), .str "a1", .str "", .str "abcdefgh"]) = J1 at uh1 sz1 tt1
      have A1 := av1 J1
      have xl1 : ([.str wd, .str (cutS wd none (some 4) ++ "A"), .str (cutS wd none (some 4) ++ "`"), .str (cutS wd none (some 4) ++ "{"), .str ("a" ++ cutS wd none (some 4) ++ " b"), .str "a1", .str "", .str "abcdefgh"] : List V).length = 8 := rfl
      generalize ([.str wd, .str (cutS wd none (some 4) ++ "A"), .str (cutS wd none (some 4) ++ "`"), .str (cutS wd none (some 4) ++ "{"), .str ("a" ++ cutS wd none (some 4) ++ " b"), .str "a1", .str "", .str "abcdefgh"] : List V) = x1 at uh1 A1 xl1
      refine ⟨_, rfl, _, rfl, _, _, rfl, rfl, pw12, _, _, rfl, rfl, _, _, rfl, rfl, pw12, _, _, rfl, rfl, pw12, _, _, rfl, rfl, (by show 12 ≤ sizeLine; decide), fun u2 hu2 => ?_⟩
      have sx2 := same_upd (o := .lst [.str "abcdefghi", .str "z", .str "A", .str "a\n", .str " ", .str "7", .int 0, .int 1, .int (-1), .int ((10 : Int) ^ (12 : Int).toNat - 1), .int ((10 : Int) ^ (12 : Int).toNat), .int ((10 : Int) ^ (12 : Int).toNat + 1)]) hu2
      have sz2 := Stp.same (Stp.refl tt1.1) sx2
      have uh2 : (upd J1 u2 (.lst [.str "abcdefghi", .str "z", .str "A", .str "a\n", .str " ", .str "7", .int 0, .int 1, .int (-1), .int ((10 : Int) ^ (12 : Int).toNat - 1), .int ((10 : Int) ^ (12 : Int).toNat), .int ((10 : Int) ^ (12 : Int).toNat + 1)])) u2 = some (.lst [.str "abcdefghi", .str "z", .str "A", .str "a\n", .str " ", .str "7", .int 0, .int 1, .int (-1), .int ((10 : Int) ^ (12 : Int).toNat - 1), .int ((10 : Int) ^ (12 : Int).toNat), .int ((10 : Int) ^ (12 : Int).toNat + 1)]) := upd_same
      have un2 : u2 ≠ r := (tt1.1.ne hu2).symm
      have A_2 := A1.step sz2
      have X_2 := sx2 _ _ uh1
      have tt2 := tt1.trans sz2
      generalize upd J1 u2 (.lst [.str "abcdefghi", .str "z", .str "A", .str "a\n", .str " ", .str "7", .int 0, .int 1, .int (-1), .int ((10 : Int) ^ (12 : Int).toNat - 1), .int ((10 : Int) ^ (12 : Int).toNat), .int ((10 : Int) ^ (12 : Int).toNat + 1)]) = J2 at uh2 sz2 tt2 A_2 X_2
      have B2 : Avs r J2 [.str "abcdefghi", .str "z", .str "A", .str "a\n", .str " ", .str "7", .int 0, .int 1, .int (-1), .int ((10 : Int) ^ (12 : Int).toNat - 1), .int ((10 : Int) ^ (12 : Int).toNat), .int ((10 : Int) ^ (12 : Int).toNat + 1)] := (av_lit (by decide +kernel) (av_lit (by decide +kernel) (av_lit (by decide +kernel) (av_lit (by decide +kernel) (av_lit (by decide +kernel) (av_lit (by decide +kernel) (av_int _ (av_int _ (av_int _ (av_int _ (av_int _ (av_int _ avs_nil))))))))))))
      refine ⟨u1, u2, _, _, rfl, rfl, X_2, uh2, (by rw [xl1, sl]; show 8 + 12 ≤ 16777216; decide), fun u3 hu3 => ?_⟩
      have sx3 := same_upd (o := .lst (x1 ++ [.str "abcdefghi", .str "z", .str "A", .str "a\n", .str " ", .str "7", .int 0, .int 1, .int (-1), .int ((10 : Int) ^ (12 : Int).toNat - 1), .int ((10 : Int) ^ (12 : Int).toNat), .int ((10 : Int) ^ (12 : Int).toNat + 1)])) hu3
      have sz3 := Stp.same (Stp.refl tt2.1) sx3
      have uh3 : (upd J2 u3 (.lst (x1 ++ [.str "abcdefghi", .str "z", .str "A", .str "a\n", .str " ", .str "7", .int 0, .int 1, .int (-1), .int ((10 : Int) ^ (12 : Int).toNat - 1), .int ((10 : Int) ^ (12 : Int).toNat), .int ((10 : Int) ^ (12 : Int).toNat + 1)]))) u3 = some (.lst (x1 ++ [.str "abcdefghi", .str "z", .str "A", .str "a\n", .str " ", .str "7", .int 0, .int 1, .int (-1), .int ((10 : Int) ^ (12 : Int).toNat - 1), .int ((10 : Int) ^ (12 : Int).toNat), .int ((10 : Int) ^ (12 : Int).toNat + 1)])) := upd_same
      have un3 : u3 ≠ r := (tt2.1.ne hu3).symm
      have A_3 := A_2.step sz3
      have X_3 := sx3 _ _ X_2
      have B_3 := B2.step sz3
      have Y_3 := sx3 _ _ uh2
      have tt3 := tt2.trans sz3
      generalize upd J2 u3 (.lst (x1 ++ [.str "abcdefghi", .str "z", .str "A", .str "a\n", .str " ", .str "7", .int 0, .int 1, .int (-1), .int ((10 : Int) ^ (12 : Int).toNat - 1), .int ((10 : Int) ^ (12 : Int).toNat), .int ((10 : Int) ^ (12 : Int).toNat + 1)])) = J3 at uh3 sz3 tt3 A_3 X_3 B_3 Y_3
      have A3 := Avs.app A_3 B_3
      have xl3 : (x1 ++ ([.str "abcdefghi", .str "z", .str "A", .str "a\n", .str " ", .str "7", .int 0, .int 1, .int (-1), .int ((10 : Int) ^ (12 : Int).toNat - 1), .int ((10 : Int) ^ (12 : Int).toNat), .int ((10 : Int) ^ (12 : Int).toNat + 1)] : List V)).length = 20 := by rw [List.length_append, xl1]; rfl
      generalize (x1 ++ ([.str "abcdefghi", .str "z", .str "A", .str "a\n", .str " ", .str "7", .int 0, .int 1, .int (-1), .int ((10 : Int) ^ (12 : Int).toNat - 1), .int ((10 : Int) ^ (12 : Int).toNat), .int ((10 : Int) ^ (12 : Int).toNat + 1)] : List V)) = x3 at uh3 A3 xl3
      refine ⟨_, rfl, _, _, rfl, rfl, pw39, _, _, rfl, rfl, pw39, _, rfl, _, rfl, _, _, rfl, rfl, pw12, r, _, rfl, tt3.1, (by rw [e12]; decide), (by rw [e12]; omega), fun dd Gd dd0 dd1 tdd => ?_⟩
      have A_4 := A3.step tdd
      have X_4 := tdd.2 _ _ un3 uh3
      have tt4 := tt3.trans tdd
      refine ⟨(by show 6 ≤ sizeLine; decide), fun u5 hu5 => ?_⟩
      have sx5 := same_upd (o := .lst [.int ((10 : Int) ^ (39 : Int).toNat), .int (-((10 : Int) ^ (39 : Int).toNat)), .int dd, .non, .bl true, .bl false]) hu5
      have sz5 := Stp.same (Stp.refl tt4.1) sx5
      have uh5 : (upd Gd u5 (.lst [.int ((10 : Int) ^ (39 : Int).toNat), .int (-((10 : Int) ^ (39 : Int).toNat)), .int dd, .non, .bl true, .bl false])) u5 = some (.lst [.int ((10 : Int) ^ (39 : Int).toNat), .int (-((10 : Int) ^ (39 : Int).toNat)), .int dd, .non, .bl true, .bl false]) := upd_same
      have un5 : u5 ≠ r := (tt4.1.ne hu5).symm
      have A_5 := A_4.step sz5
      have X_5 := sx5 _ _ X_4
      have tt5 := tt4.trans sz5
      generalize upd Gd u5 (.lst [.int ((10 : Int) ^ (39 : Int).toNat), .int (-((10 : Int) ^ (39 : Int).toNat)), .int dd, .non, .bl true, .bl false]) = J5 at uh5 sz5 tt5 A_5 X_5
      have B5 : Avs r J5 [.int ((10 : Int) ^ (39 : Int).toNat), .int (-((10 : Int) ^ (39 : Int).toNat)), .int dd, .non, .bl true, .bl false] := (av_int _ (av_int _ (av_int _ (avs_cons (fun _ _ => .non) (avs_cons (fun _ _ => .bl true) (avs_cons (fun _ _ => .bl false) avs_nil))))))
      refine ⟨u3, u5, _, _, rfl, rfl, X_5, uh5, (by rw [xl3, sl]; show 20 + 6 ≤ 16777216; decide), fun u6 hu6 => ?_⟩
      have sx6 := same_upd (o := .lst (x3 ++ [.int ((10 : Int) ^ (39 : Int).toNat), .int (-((10 : Int) ^ (39 : Int).toNat)), .int dd, .non, .bl true, .bl false])) hu6
      have sz6 := Stp.same (Stp.refl tt5.1) sx6
      have uh6 : (upd J5 u6 (.lst (x3 ++ [.int ((10 : Int) ^ (39 : Int).toNat), .int (-((10 : Int) ^ (39 : Int).toNat)), .int dd, .non, .bl true, .bl false]))) u6 = some (.lst (x3 ++ [.int ((10 : Int) ^ (39 : Int).toNat), .int (-((10 : Int) ^ (39 : Int).toNat)), .int dd, .non, .bl true, .bl false])) := upd_same
      have un6 : u6 ≠ r := (tt5.1.ne hu6).symm
      have A_6 := A_5.step sz6
      have X_6 := sx6 _ _ X_5
      have B_6 := B5.step sz6
      have Y_6 := sx6 _ _ uh5
      have tt6 := tt5.trans sz6
      generalize upd J5 u6 (.lst (x3 ++ [.int ((10 : Int) ^ (39 : Int).toNat), .int (-((10 : Int) ^ (39 : Int).toNat)), .int dd, .non, .bl true, .bl false])) = J6 at uh6 sz6 tt6 A_6 X_6 B_6 Y_6
      have A6 := Avs.app A_6 B_6
      have xl6 : (x3 ++ ([.int ((10 : Int) ^ (39 : Int).toNat), .int (-((10 : Int) ^ (39 : Int).toNat)), .int dd, .non, .bl true, .bl false] : List V)).length = 26 := by rw [List.length_append, xl3]; rfl
      generalize (x3 ++ ([.int ((10 : Int) ^ (39 : Int).toNat), .int (-((10 : Int) ^ (39 : Int).toNat)), .int dd, .non, .bl true, .bl false] : List V)) = x6 at uh6 A6 xl6
      refine ⟨_, rfl, (by show 0 ≤ sizeLine; decide), fun u7 hu7 => ?_⟩
      have sx7 := same_upd (o := .lst []) hu7
      have sz7 := Stp.same (Stp.refl tt6.1) sx7
      have uh7 : (upd J6 u7 (.lst [])) u7 = some (.lst []) := upd_same
      have un7 : u7 ≠ r := (tt6.1.ne hu7).symm
      have A_7 := A6.step sz7
      have X_7 := sx7 _ _ uh6
      have tt7 := tt6.trans sz7
      generalize upd J6 u7 (.lst []) = J7 at uh7 sz7 tt7 A_7 X_7
      have n1 := av_lst (r := r) un7 uh7
      refine ⟨(by show 1 ≤ sizeLine; decide), fun u8 hu8 => ?_⟩
      have sx8 := same_upd (o := .lst [.str "a"]) hu8
      have sz8 := Stp.same (Stp.refl tt7.1) sx8
      have uh8 : (upd J7 u8 (.lst [.str "a"])) u8 = some (.lst [.str "a"]) := upd_same
      have un8 : u8 ≠ r := (tt7.1.ne hu8).symm
      have A_8 := A_7.step sz8
      have X_8 := sx8 _ _ X_7
      have n1_8 := n1.step sz8
      have tt8 := tt7.trans sz8
      generalize upd J7 u8 (.lst [.str "a"]) = J8 at uh8 sz8 tt8 A_8 X_8 n1_8
      have n2 := av_lst (r := r) un8 uh8
      refine ⟨(by show 0 ≤ sizeLine; decide), fun u9 hu9 => ?_⟩
      have sx9 := same_upd (o := .tup []) hu9
      have sz9 := Stp.same (Stp.refl tt8.1) sx9
      have uh9 : (upd J8 u9 (.tup [])) u9 = some (.tup []) := upd_same
      have un9 : u9 ≠ r := (tt8.1.ne hu9).symm
      have A_9 := A_8.step sz9
      have X_9 := sx9 _ _ X_8
      have n1_9 := n1_8.step sz9
      have n2_9 := n2.step sz9
      have tt9 := tt8.trans sz9
      generalize upd J8 u9 (.tup []) = J9 at uh9 sz9 tt9 A_9 X_9 n1_9 n2_9
      have n3 := av_tup tt9.1 uh9
      refine ⟨(by show 1 ≤ sizeLine; decide), fun u10 hu10 => ?_⟩
      have sx10 := same_upd (o := .tup [.str "a"]) hu10
      have sz10 := Stp.same (Stp.refl tt9.1) sx10
      have uh10 : (upd J9 u10 (.tup [.str "a"])) u10 = some (.tup [.str "a"]) := upd_same
      have un10 : u10 ≠ r := (tt9.1.ne hu10).symm
      have A_10 := A_9.step sz10
      have X_10 := sx10 _ _ X_9
      have n1_10 := n1_9.step sz10
      have n2_10 := n2_9.step sz10
      have n3_10 := n3.step sz10
      have tt10 := tt9.trans sz10
      generalize upd J9 u10 (.tup [.str "a"]) = J10 at uh10 sz10 tt10 A_10 X_10 n1_10 n2_10 n3_10
      have n4 := av_tup tt10.1 uh10
      refine ⟨(by show 1 ≤ sizeLine; decide), fun u11 hu11 => ?_⟩
      have sx11 := same_upd (o := .tup [.int 1]) hu11
      have sz11 := Stp.same (Stp.refl tt10.1) sx11
      have uh11 : (upd J10 u11 (.tup [.int 1])) u11 = some (.tup [.int 1]) := upd_same
      have un11 : u11 ≠ r := (tt10.1.ne hu11).symm
      have A_11 := A_10.step sz11
      have X_11 := sx11 _ _ X_10
      have n1_11 := n1_10.step sz11
      have n2_11 := n2_10.step sz11
      have n3_11 := n3_10.step sz11
      have n4_11 := n4.step sz11
      have tt11 := tt10.trans sz11
      generalize upd J10 u11 (.tup [.int 1]) = J11 at uh11 sz11 tt11 A_11 X_11 n1_11 n2_11 n3_11 n4_11
      have n5 := av_tup tt11.1 uh11
      refine fun u12 hu12 => ?_
      have sx12 := same_upd (o := .dK []) hu12
      have sz12 := Stp.same (Stp.refl tt11.1) sx12
      have uh12 : (upd J11 u12 (.dK [])) u12 = some (.dK []) := upd_same
      have un12 : u12 ≠ r := (tt11.1.ne hu12).symm
      have A_12 := A_11.step sz12
      have X_12 := sx12 _ _ X_11
      have n1_12 := n1_11.step sz12
      have n2_12 := n2_11.step sz12
      have n3_12 := n3_11.step sz12
      have n4_12 := n4_11.step sz12
      have n5_12 := n5.step sz12
      have tt12 := tt11.trans sz12
      generalize upd J11 u12 (.dK []) = J12 at uh12 sz12 tt12 A_12 X_12 n1_12 n2_12 n3_12 n4_12 n5_12
      have n6 := av_dct tt12.1 uh12
      refine fun u13 hu13 => ⟨upd_same, [(.inr "a", .int 1)], rfl, (by show 1 ≤ 15; decide), ?_⟩
      rw [upd2]
      have sx13 := same_upd (o := .dK (mergeK [] [(.inr "a", .int 1)])) hu13
      have sz13 := Stp.same (Stp.refl tt12.1) sx13
      have uh13 : (upd J12 u13 (.dK (mergeK [] [(.inr "a", .int 1)]))) u13 = some (.dK (mergeK [] [(.inr "a", .int 1)])) := upd_same
      have A_13 := A_12.step sz13
      have X_13 := sx13 _ _ X_12
      have n1_13 := n1_12.step sz13
      have n2_13 := n2_12.step sz13
      have n3_13 := n3_12.step sz13
      have n4_13 := n4_12.step sz13
      have n5_13 := n5_12.step sz13
      have n6_13 := n6.step sz13
      have tt13 := tt12.trans sz13
      generalize upd J12 u13 (.dK (mergeK [] [(.inr "a", .int 1)])) = J13 at uh13 sz13 tt13 A_13 X_13 n1_13 n2_13 n3_13 n4_13 n5_13 n6_13
      have n7 := av_dct tt13.1 uh13
      refine ⟨(by show 7 ≤ sizeLine; decide), fun u14 hu14 => ?_⟩
      have sx14 := same_upd (o := .lst [.ref u7, .ref u8, .ref u9, .ref u10, .ref u11, .ref u12, .ref u13]) hu14
      have sz14 := Stp.same (Stp.refl tt13.1) sx14
      have uh14 : (upd J13 u14 (.lst [.ref u7, .ref u8, .ref u9, .ref u10, .ref u11, .ref u12, .ref u13])) u14 = some (.lst [.ref u7, .ref u8, .ref u9, .ref u10, .ref u11, .ref u12, .ref u13]) := upd_same
      have un14 : u14 ≠ r := (tt13.1.ne hu14).symm
      have A_14 := A_13.step sz14
      have X_14 := sx14 _ _ X_13
      have n1_14 := n1_13.step sz14
      have n2_14 := n2_13.step sz14
      have n3_14 := n3_13.step sz14
      have n4_14 := n4_13.step sz14
      have n5_14 := n5_13.step sz14
      have n6_14 := n6_13.step sz14
      have n7_14 := n7.step sz14
      have tt14 := tt13.trans sz14
      generalize upd J13 u14 (.lst [.ref u7, .ref u8, .ref u9, .ref u10, .ref u11, .ref u12, .ref u13]) = J14 at uh14 sz14 tt14 A_14 X_14 n1_14 n2_14 n3_14 n4_14 n5_14 n6_14 n7_14
      have B14 : Avs r J14 [.ref u7, .ref u8, .ref u9, .ref u10, .ref u11, .ref u12, .ref u13] := (Avs.cons n1_14 (Avs.cons n2_14 (Avs.cons n3_14 (Avs.cons n4_14 (Avs.cons n5_14 (Avs.cons n6_14 (Avs.cons n7_14 avs_nil)))))))
      refine ⟨u6, u14, _, _, rfl, rfl, X_14, uh14, (by rw [xl6, sl]; show 26 + 7 ≤ 16777216; decide), fun u15 hu15 => ?_⟩
      have sx15 := same_upd (o := .lst (x6 ++ [.ref u7, .ref u8, .ref u9, .ref u10, .ref u11, .ref u12, .ref u13])) hu15
      have sz15 := Stp.same (Stp.refl tt14.1) sx15
      have uh15 : (upd J14 u15 (.lst (x6 ++ [.ref u7, .ref u8, .ref u9, .ref u10, .ref u11, .ref u12, .ref u13]))) u15 = some (.lst (x6 ++ [.ref u7, .ref u8, .ref u9, .ref u10, .ref u11, .ref u12, .ref u13])) := upd_same
      have un15 : u15 ≠ r := (tt14.1.ne hu15).symm
      have A_15 := A_14.step sz15
      have X_15 := sx15 _ _ X_14
      have B_15 := B14.step sz15
      have Y_15 := sx15 _ _ uh14
      have tt15 := tt14.trans sz15
      generalize upd J14 u15 (.lst (x6 ++ [.ref u7, .ref u8, .ref u9, .ref u10, .ref u11, .ref u12, .ref u13])) = J15 at uh15 sz15 tt15 A_15 X_15 B_15 Y_15
      have AA := Avs.app A_15 B_15
      generalize (x6 ++ ([.ref u7, .ref u8, .ref u9, .ref u10, .ref u11, .ref u12, .ref u13] : List V)) = things at uh15 AA
      have tA := tt15
      have hA := uh15
      generalize J15 = GA at tA hA AA
      refine ⟨_, rfl, _, rfl, ⟨_, SqL.of hA⟩, ?_⟩
      refine for_it (walk_list (xs := things)) (fun i σ G => (∃ x4 x5 x6 x7, σ = [some (.ref r), some (.str letters), some (.str wd), some (.ref u15), x4, x5, x6, x7, none, none]) ∧ Same GA G) ⟨⟨none, none, none, none, rfl⟩, Same.refl _⟩ (fun i σ G _ h => SqL.of (h.2 _ _ hA)) ?_ ?_
      · rintro i v σ Gz G hi ⟨⟨x4, x5, x6, x7, rfl⟩, sm⟩ ⟨rfl, hv⟩
        have av := AA v (List.mem_of_getElem? hv) G (Stp.same (Stp.refl tA.1) sm)
        obtain ⟨Ty, ty, k1, k2, k3⟩ := av.ty (K := K)
        refine join (fun c : Bool => c = isI v) (R := ?R1) (fun tail => ?main1) ?tl1
        case main1 =>
          refine ⟨_, rfl, _, _, _, _, _, rfl, .ty "int", ty, kit_ty k1, _, rfl, ?_⟩
          cases e : (isI v || isB v) with
          | true =>
            have e2 : (!isB v) = isI v := by cases v <;> first | rfl | cases e
            refine iteT ⟨_, rfl, _, _, _, _, _, rfl, .ty "bool", ty, kit_ty k2, _, rfl, ?_⟩
            generalize (!isB v) = c at e2
            exact tail c e2
          | false =>
            have e2 : isI v = false := by cases v <;> first | rfl | cases e
            exact iteF (tail false e2.symm)
        case tl1 =>
          rintro c rfl
          refine go_nm (nx_of rfl (go_asg ?_))
          refine joinV (fun (c : Bool) (G' : Hp) => c = nameB v ∧ Same G G') (fun Q' tail => ?main2) ?tl2
          case main2 =>
            refine ⟨_, rfl, _, _, _, _, _, rfl, .ty "str", ty, kit_ty k3, _, rfl, ?_⟩
            cases av with
            | str x hl =>
              have hz : x.length ≤ sizeLine := Nat.le_trans hl.1 (by decide)
              have hl1 := hl.1
              refine iteT ⟨_, rfl, x, rfl, hz, _, _, rfl, rfl, _, rfl, ?_⟩
              by_cases h1 : (0 : Int) < (x.length : Int)
              · refine ifT (decide_eq_true h1) ⟨_, _, rfl, rfl, _, rfl, ?_⟩
                by_cases h2 : (x.length : Int) < 9
                · refine ifT (decide_eq_true h2) ⟨_, rfl, x, rfl, fun D2 hD2 => ?_⟩
                  refine lc_text (fun i H' => H' D2 = some (.lst (((x.cps.toList.take i).map fun c => decide (c ∈ letters.cps.toList)).map V.bl)) ∧ Same G H') ⟨upd_same, same_upd hD2⟩ ?_ ?_
                  · rintro i2 c H' hc ⟨hD', smx⟩
                    have hi2 : i2 < x.cps.toList.length := (List.getElem?_eq_some_iff.mp hc).1
                    refine ⟨rfl, _, rfl, _, rfl, c, letters, rfl, rfl, _, hD', small1000 ?_, ?_, fun b o e => ?_⟩
                    · rw [List.length_map, List.length_map, List.length_take]
                      have : x.cps.toList.length = x.length := Array.length_toList ..
                      omega
                    · rw [upd_same, List.take_add_one, hc, List.map_append, List.map_append]
                      rfl
                    · rw [upd_ne (ne_of_none e hD2)]
                      exact smx b o e
                  · rintro H' ⟨hD', smx⟩
                    rw [List.take_length] at hD'
                    have e : (List.map (fun c => decide (c ∈ letters.cps.toList)) x.cps.toList).all id = nameB (.str x) := by
                      show _ = (decide (1 ≤ x.length ∧ x.length ≤ 8) && x.cps.toList.all fun c => decide (c ∈ letters.cps.toList))
                      rw [decide_eq_true ⟨by omega, by omega⟩, Bool.true_and, List.all_map]
                      rfl
                    refine ⟨D2, _, rfl, SqL.of hD', ?_⟩
                    generalize (List.map (fun c => decide (c ∈ letters.cps.toList)) x.cps.toList).all id = c at e
                    exact tail c H' ⟨e, smx⟩
                · have e : nameB (.str x) = false := by
                    show (decide (1 ≤ x.length ∧ x.length ≤ 8) && _) = false
                    rw [decide_eq_false fun z => h2 (by omega), Bool.false_and]
                  exact ifF (decide_eq_false h2) (tail false G ⟨e.symm, Same.refl _⟩)
              · have e : nameB (.str x) = false := by
                  show (decide (1 ≤ x.length ∧ x.length ≤ 8) && _) = false
                  rw [decide_eq_false fun z => h1 (by omega), Bool.false_and]
                exact ifF (decide_eq_false h1) ⟨_, rfl, iteF (tail false G ⟨e.symm, Same.refl _⟩)⟩
            | _ => exact iteF (tail false G ⟨rfl, Same.refl _⟩)
          case tl2 =>
            rintro c G' ⟨rfl, sg⟩
            refine ⟨_, rfl, _, rfl, ?_⟩
            refine joinC (fun (c : Bool) (G2 : Hp) => c = cellsB v ∧ G2 = G') (fun Q' tail => ?main3) ?tl3
            case main3 =>
              refine ⟨_, rfl, _, rfl, ?_⟩
              cases v with
              | int z =>
                refine iteT ⟨_, rfl, _, _, rfl, rfl, _, rfl, ?_⟩
                by_cases h1 : (0 : Int) < z
                · refine ifT (decide_eq_true h1) ⟨_, _, rfl, rfl, pw12, _, _, rfl, rfl, ?_⟩
                  have e : decide (z ≤ (10 : Int) ^ (12 : Int).toNat) = cellsB (.int z) := by
                    show _ = decide (1 ≤ z ∧ z ≤ 1000000000000)
                    rw [e12]
                    by_cases h2 : z ≤ 1000000000000
                    · rw [decide_eq_true h2, decide_eq_true ⟨by omega, h2⟩]
                    · rw [decide_eq_false h2, decide_eq_false fun y => h2 y.2]
                  show Q' (.bl (decide (z ≤ (10 : Int) ^ (12 : Int).toNat))) G'
                  generalize decide (z ≤ (10 : Int) ^ (12 : Int).toNat) = c at e ⊢
                  exact tail c _ ⟨e, rfl⟩
                · have e : cellsB (.int z) = false := decide_eq_false fun y => h1 (by omega)
                  exact ifF (decide_eq_false h1) (tail false _ ⟨e.symm, rfl⟩)
              | _ => exact iteF (tail false _ ⟨rfl, rfl⟩)
            case tl3 =>
              rintro c G2x ⟨rfl, e2x⟩
              rw [e2x]
              clear e2x
              refine ⟨(by show 3 ≤ sizeLine; decide), fun L hL => ?_⟩
              have s1 := same_upd (o := .lst [.bl (isI v), .bl (nameB v), .bl (cellsB v)]) hL
              have hL1 : (upd G' L (.lst [.bl (isI v), .bl (nameB v), .bl (cellsB v)])) L = some (.lst [.bl (isI v), .bl (nameB v), .bl (cellsB v)]) := upd_same
              generalize upd G' L (.lst [.bl (isI v), .bl (nameB v), .bl (cellsB v)]) = G1 at s1 hL1
              have av1 := av.same (sg.trans s1)
              refine ⟨_, rfl, v, rfl, av1, _, rfl, v, rfl, av1, fun G2 s2 => ⟨_, rfl, v, rfl, av1.same s2, (by show 3 ≤ sizeLine; decide), fun L2 hL2 => ?_⟩⟩
              have s3 := same_upd (o := .lst [.bl (isI v), .bl (nameB v), .bl (cellsB v)]) hL2
              have hL3 : (upd G2 L2 (.lst [.bl (isI v), .bl (nameB v), .bl (cellsB v)])) L2 = some (.lst [.bl (isI v), .bl (nameB v), .bl (cellsB v)]) := upd_same
              have hL4 := s3 _ _ (s2 _ _ hL1)
              generalize upd G2 L2 (.lst [.bl (isI v), .bl (nameB v), .bl (cellsB v)]) = G3 at s3 hL3 hL4
              have tql : ∀ {l : Addr}, G3 l = some (.lst [.bl (isI v), .bl (nameB v), .bl (cellsB v)]) → Tq K G3 (.ref l) (.list [.bool (isI v), .bool (nameB v), .bool (cellsB v)]) 5 900 := fun h => ((tqa_cons (tq_bl _) (tqa_cons (tq_bl _) (tqa_cons (tq_bl _) tqa_nil))).lst h).mono (by decide) (by show 3 * (41 + 2) + 3 ≤ 900; decide)
              have tq1 := tql hL3
              have tq2 := tql hL4
              refine ⟨_, _, rfl, tq1.dq, tq1.sh, Nat.le_trans tq1.dp (by decide), Nat.le_trans tq1.ln (by decide), _, rfl, _, _, rfl, tq2.dq, tq2.sh, Nat.le_trans tq2.dp (by decide), Nat.le_trans tq2.ln (by decide), ?_⟩
              refine ⟨rfl, _, rfl, ifF (by rw [decide_eq_true rfl]; rfl) ⟨⟨_, _, _, _, rfl⟩, (sm.trans (sg.trans s1)).trans (s2.trans s3)⟩⟩
      · rintro σ G ⟨⟨x4, x5, x6, x7, rfl⟩, sm⟩
        exact q G (Stp.same tA sm)
end
end K18

set_option Elab.async false
set_option linter.all false
set_option maxRecDepth 100000
set_option maxHeartbeats 4000000
set_option pp.maxSteps 900
namespace K18
open PySem PySem.Spec PyProof.Rows L2 Gu Ex
def Nvs (K : PySem.W.Frag) (r : Addr) (H : Hp) (vs : List V) : Prop := ∀ v ∈ vs, Nv K r H v
theorem Nvs.step {K : PySem.W.Frag} {r : Addr} {H H1 : Hp} {vs : List V} (h : Nvs K r H vs) (t : Stp r H H1) : Nvs K r H1 vs := fun v hv => (h v hv).step t
theorem nvs_nil {K : PySem.W.Frag} {r : Addr} {H : Hp} : Nvs K r H [] := fun _ z => nomatch z
theorem nvs_cons {K : PySem.W.Frag} {r : Addr} {H : Hp} {v : V} {vs : List V} (h : Nv K r H v) (g : Nvs K r H vs) : Nvs K r H (v :: vs) := fun f hf => (List.mem_cons.mp hf).elim (fun z => z ▸ h) (g f)
/-- things that are no texts -/
def Ths (K : PySem.W.Frag) (r : Addr) (H : Hp) (vs : List V) : Prop := ∀ v ∈ vs, Nv K r H v ∧ isS v = false
theorem Ths.step {K : PySem.W.Frag} {r : Addr} {H H1 : Hp} {vs : List V} (h : Ths K r H vs) (t : Stp r H H1) : Ths K r H1 vs := fun v hv => ⟨(h v hv).1.step t, (h v hv).2⟩
theorem ths_nil {K : PySem.W.Frag} {r : Addr} {H : Hp} : Ths K r H [] := fun _ z => nomatch z
theorem ths_cons {K : PySem.W.Frag} {r : Addr} {H : Hp} {v : V} {vs : List V} (h : Nv K r H v) (e : isS v = false) (g : Ths K r H vs) : Ths K r H (v :: vs) := fun f hf => (List.mem_cons.mp hf).elim (fun z => z ▸ ⟨h, e⟩) (g f)
theorem go_asg5 {te : TE} {u : TS} {D : Ends} {a0 a1 a2 a3 a4 a5 : Option V} {ar : List (Option V)} {H : Hp} (h : te (a0 :: a1 :: a2 :: a3 :: a4 :: a5 :: ar) H (fun x H1 => u D (a0 :: a1 :: a2 :: a3 :: a4 :: some x :: ar) H1)) : tSeq (tAsg te (gName 5)) u D (a0 :: a1 :: a2 :: a3 :: a4 :: a5 :: ar) H := h
theorem go_ret {te : TE} {D : Ends} {σ : List (Option V)} {H : Hp} (h : te σ H D.rt) : tRet te D σ H := h
abbrev tCl (w : Str) (va : TA) (wd : Str) (du : TE) : TE := tTup (tCons (tC (.str w)) (tCons (tTup va) (tCons (tTup (tCons (tC (.str wd)) (tCons du tNil))) tNil)))
/-- the list of calls so far -/
def CSt (K : PySem.W.Frag) (r : Addr) (ns : List Int) (H : Hp) (l : Addr) (k : Nat) : Prop := ∃ es, Rng H r ∧ H l = some (.lst es) ∧ es.length ≤ k ∧ l ≠ r ∧ CallsO K r ns H es
section
variable {K : PySem.W.Frag} {r l : Addr} {ns : List Int} {σ : List (Option V)} {H : Hp} {Q : VK} {w wd w2 wd2 : Str} {va va2 : TA} {du du2 : TE} {xs xs2 : List V} {j j2 k : Nat} {v v2 : V}
theorem cl_ok (hR : Rng H r) (d : DoF K r H ns w xs j v) (hw : wd = wordOf j) (hl : xs.length ≤ sizeLine) (hv : ∀ H' (Q' : List V → Hp → Prop), Q' xs H' → va σ H' Q') (hd : ∀ H' (Q' : VK), Q' v H' → du σ H' Q')
    (q : ∀ t J, Same H J → Stp r H J → CallO K r ns J (.ref t) → Q (.ref t) J) : tCl w va wd du σ H Q := by
  refine hv _ _ ⟨hl, fun t1 h1 => hd _ _ ⟨(by show 2 ≤ sizeLine; decide), fun t2 h2 => ⟨(by show 3 ≤ sizeLine; decide), fun t3 h3 => ?_⟩⟩⟩
  obtain ⟨a, b, c⟩ := call3 hR d hw h1 h2 h3
  exact q _ _ a b c
theorem two_ok (hR : Rng H r) (d : DoF K r H ns w xs j v) (d2 : DoF K r H ns w2 xs2 j2 v2) (hw : wd = wordOf j) (hw2 : wd2 = wordOf j2) (hl : xs.length ≤ sizeLine) (hl2 : xs2.length ≤ sizeLine) (hv : ∀ H' (Q' : List V → Hp → Prop), Q' xs H' → va σ H' Q') (hd : ∀ H' (Q' : VK), Q' v H' → du σ H' Q')
    (hv2 : ∀ H' (Q' : List V → Hp → Prop), Q' xs2 H' → va2 σ H' Q') (hd2 : ∀ H' (Q' : VK), Q' v2 H' → du2 σ H' Q') (q : ∀ t J, Same H J → Stp r H J → CSt K r ns J t 2 → Q (.ref t) J) : tLst (tCons (tCl w va wd du) (tCons (tCl w2 va2 wd2 du2) tNil)) σ H Q := by
  show tCl w va wd du σ H (fun x H1 => tCl w2 va2 wd2 du2 σ H1 (fun y H2 => [x, y].length ≤ sizeLine ∧ ∀ p, H2 p = none → Q (.ref p) (upd H2 p (.lst [x, y]))))
  refine cl_ok hR d hw hl hv hd fun t1 J1 s1 u1 c1 => cl_ok u1.1 (d2.step u1) hw2 hl2 hv2 hd2 fun t2 J2 s2 u2 c2 => ⟨(by show 2 ≤ sizeLine; decide), fun p hp => ?_⟩
  have s3 := same_upd (o := .lst [.ref t1, .ref t2]) hp
  have u3 := Stp.same (Stp.refl u2.1) s3
  exact q p _ (s1.trans (s2.trans s3)) (u1.trans (u2.trans u3)) ⟨_, u3.1, upd_same, Nat.le_refl 2, (u2.1.ne hp).symm, (co_cons (c1.step u1.1 u2) (co_cons c2 co_nil)).step u2.1 u3⟩
theorem one_ok (hR : Rng H r) (d : DoF K r H ns w xs j v) (hw : wd = wordOf j) (hl : xs.length ≤ sizeLine) (hv : ∀ H' (Q' : List V → Hp → Prop), Q' xs H' → va σ H' Q') (hd : ∀ H' (Q' : VK), Q' v H' → du σ H' Q')
    (q : ∀ t J, Same H J → Stp r H J → CSt K r ns J t 2 → Q (.ref t) J) : tLst (tCons (tCl w va wd du) tNil) σ H Q := by
  show tCl w va wd du σ H (fun x H1 => [x].length ≤ sizeLine ∧ ∀ p, H1 p = none → Q (.ref p) (upd H1 p (.lst [x])))
  refine cl_ok hR d hw hl hv hd fun t1 J1 s1 u1 c1 => ⟨(by show 1 ≤ sizeLine; decide), fun p hp => ?_⟩
  have s3 := same_upd (o := .lst [.ref t1]) hp
  have u3 := Stp.same (Stp.refl u1.1) s3
  exact q p _ (s1.trans s3) (u1.trans u3) ⟨_, u3.1, upd_same, (by show 1 ≤ 2; decide), (u1.1.ne hp).symm, (co_cons c1 co_nil).step u1.1 u3⟩
theorem cst_cat {J : Hp} {t : Addr} (c : CSt K r ns H l k) (s : Same H J) (u : Stp r H J) (d : CSt K r ns J t 2) (hk : k ≤ 100) (q : ∀ p J', Stp r H J' → CSt K r ns J' p (k + 2) → Q (.ref p) J') : rCat (.ref l) (.ref t) J Q := by
  obtain ⟨es, R0, h1, k1, n1, c1⟩ := c
  obtain ⟨fs, R1, h2, k2, n2, c2⟩ := d
  have sl : sizeLine = 16777216 := sizeLine_eq
  refine ⟨l, t, _, _, rfl, rfl, s _ _ h1, h2, (by omega), fun p hp => ?_⟩
  have s3 := same_upd (o := .lst (es ++ fs)) hp
  have u3 := Stp.same (Stp.refl R1) s3
  exact q p _ (u.trans u3) ⟨_, u3.1, upd_same, (by rw [List.length_append]; omega), (R1.ne hp).symm, (CallsO.app (c1.step R0 u) c2).step R1 u3⟩
theorem cat2 (e5 : σ[5]? = some (some (.ref l))) (c : CSt K r ns H l k) (hk : k ≤ 100) (d : DoF K r H ns w xs j v) (d2 : DoF K r H ns w2 xs2 j2 v2) (hw : wd = wordOf j) (hw2 : wd2 = wordOf j2) (hl : xs.length ≤ sizeLine) (hl2 : xs2.length ≤ sizeLine) (hv : ∀ H' (Q' : List V → Hp → Prop), Q' xs H' → va σ H' Q') (hd : ∀ H' (Q' : VK), Q' v H' → du σ H' Q')
    (hv2 : ∀ H' (Q' : List V → Hp → Prop), Q' xs2 H' → va2 σ H' Q') (hd2 : ∀ H' (Q' : VK), Q' v2 H' → du2 σ H' Q') (q : ∀ p J, Stp r H J → CSt K r ns J p (k + 2) → Q (.ref p) J) : tOp rCat (tVar 5) (tLst (tCons (tCl w va wd du) (tCons (tCl w2 va2 wd2 du2) tNil))) σ H Q := by
  have hR : Rng H r := by obtain ⟨_, h, _⟩ := c; exact h
  exact ⟨_, e5, two_ok hR d d2 hw hw2 hl hl2 hv hd hv2 hd2 fun t J s u e => cst_cat c s u e hk q⟩
theorem cat1 (e5 : σ[5]? = some (some (.ref l))) (c : CSt K r ns H l k) (hk : k ≤ 100) (d : DoF K r H ns w xs j v) (hw : wd = wordOf j) (hl : xs.length ≤ sizeLine) (hv : ∀ H' (Q' : List V → Hp → Prop), Q' xs H' → va σ H' Q') (hd : ∀ H' (Q' : VK), Q' v H' → du σ H' Q')
    (q : ∀ p J, Stp r H J → CSt K r ns J p (k + 2) → Q (.ref p) J) : tOp rCat (tVar 5) (tLst (tCons (tCl w va wd du) tNil)) σ H Q := by
  have hR : Rng H r := by obtain ⟨_, h, _⟩ := c; exact h
  exact ⟨_, e5, one_ok hR d hw hl hv hd fun t J s u e => cst_cat c s u e hk q⟩
end
section
variable {P : Program} {w : World} {K : PySem.W.Frag} {mg : Str → Option Value} {base : Heap} {f : Addr} {fd : FuncData}
def spCalls (K : PySem.W.Frag) : Sp := fun vs H Q _ => ∃ (r o : Addr) (ns : List Int), vs = [.ref r, .ref o] ∧ Rng H r ∧ Good ns ∧ H o = some (.lst (ns.map V.int)) ∧ o ≠ r ∧
  ∀ L es H', Stp r H H' → H' L = some (.lst es) → L ≠ r → CallsO K r ns H' es → Q (.ref L) H'
theorem sc__law_calls : FnScope ["_law_rng_here", "_law_sizes_here", "_law_kinds", "_law_level", "_law_number", "_law_calls_here", "_law_address", "_law_low", "_law_high", "_law_count", "_law_thing", "_law_text"] ["_law_rng_here", "_law_sizes_here"] (defScope (top 43)) := ⟨rfl, rfl, rfl, by decide +kernel, rfl, by decide +kernel, by decide +kernel⟩
theorem ok_calls (T : Tx K mg) (D__law_draw : Df P w K mg base 1 "_law_draw" ["_law_rng_here", "_law_many"] spDraw) (D__law_choice : Df P w K mg base 2 "_law_choice" ["_law_rng_here", "_law_options"] spChoice) (D__law_odd_text : Df P w K mg base 2 "_law_odd_text" ["_law_rng_here", "_law_sizes_here"] spOdd)
    (F : FnP K "_law_calls" "_law_calls" (top 43) f fd) : FnOk P w K mg base CX0 3 f fd ["_law_rng_here", "_law_sizes_here"] (spCalls K) := by
  refine F.ok sc__law_calls (fun vs H Q E h => ?_) (fun cdv A outer s H vs Q E hr h => ⟨_, PSs.nox (pss_cons (ps_set (i := 2) sc__law_calls.nd rfl (by first | exact Or.inl rfl | exact Or.inr rfl) (pe_lst (pa_cons pe_non (pa_cons pe_bl (pa_cons pe_bl (pa_cons (pe_un un_neg pe_int) (pa_cons pe_str (pa_cons pe_str (pa_cons (pe_lst pa_nil) (pa_cons (pe_tup (pa_cons pe_int pa_nil)) (pa_cons pe_dnewK (pa_cons (pe_un un_neg (pe_op op_pow pe_int pe_int)) pa_nil)))))))))))) (pss_cons (ps_set (i := 3) sc__law_calls.nd rfl (by first | exact Or.inl rfl | exact Or.inr rfl) (pcall D__law_choice hr (pa_cons (pv 0) (pa_cons (pe_op op_cat (pv 2) (pe_lst (pa_cons (pe_callB call_len_seq (by rfl) T.n_len (by decide +kernel) (pa_cons (pv 1) pa_nil)) (pa_cons (pe_op op_pow pe_int pe_int) pa_nil)))) pa_nil)))) (pss_cons (ps_set (i := 4) sc__law_calls.nd rfl (by first | exact Or.inl rfl | exact Or.inr rfl) (pcall D__law_choice hr (pa_cons (pv 0) (pa_cons (pe_op op_cat (pv 2) (pe_lst (pa_cons pe_int (pa_cons (pe_op op_add (pe_op op_pow pe_int pe_int) pe_int) (pa_cons (pe_op op_pow pe_int pe_int) pa_nil))))) pa_nil)))) (pss_cons (ps_par (by rfl) sc__law_calls.nd (i := 6) (j := 7) rfl rfl (by decide) rfl rfl (pa_cons (pcall D__law_choice hr (pa_cons (pv 0) (pa_cons (pv 2) pa_nil))) (pa_cons (pcall D__law_draw hr (pa_cons (pv 0) (pa_cons pe_int pa_nil))) pa_nil)) (by rfl)) (pss_cons (ps_par (by rfl) sc__law_calls.nd (i := 8) (j := 9) rfl rfl (by decide) rfl rfl (pa_cons (pcall D__law_choice hr (pa_cons (pv 0) (pa_cons (pe_op op_cat (pv 2) (pe_lst (pa_cons (pe_op op_sub (pv 7) pe_int) pa_nil))) pa_nil))) (pa_cons (pcall D__law_choice hr (pa_cons (pv 0) (pa_cons (pe_op op_cat (pv 2) (pe_lst (pa_cons pe_int (pa_cons pe_int (pa_cons (pe_op op_pow pe_int pe_int) pa_nil))))) pa_nil))) pa_nil)) (by rfl)) (pss_cons (ps_par (by rfl) sc__law_calls.nd (i := 10) (j := 11) rfl rfl (by decide) rfl rfl (pa_cons (pcall D__law_choice hr (pa_cons (pv 0) (pa_cons (pe_lst (pa_cons pe_non (pa_cons pe_int (pa_cons pe_int (pa_cons pe_bl (pa_cons (pe_lst pa_nil) (pa_cons (pe_lst (pa_cons pe_str pa_nil)) (pa_cons (pe_tup pa_nil) (pa_cons pe_dnewK pa_nil))))))))) pa_nil))) (pa_cons (pcall D__law_odd_text hr (pa_cons (pv 0) (pa_cons (pv 1) pa_nil))) pa_nil)) (by rfl)) (pss_cons (ps_set (i := 5) sc__law_calls.nd rfl (by first | exact Or.inl rfl | exact Or.inr rfl) (pe_lst (pa_cons (pe_tup (pa_cons pe_str (pa_cons (pe_tup (pa_cons (pv 3) pa_nil)) (pa_cons (pe_tup (pa_cons pe_str (pa_cons (pv 3) pa_nil))) pa_nil)))) (pa_cons (pe_tup (pa_cons pe_str (pa_cons (pe_tup (pa_cons (pv 4) pa_nil)) (pa_cons (pe_tup (pa_cons pe_str (pa_cons (pv 4) pa_nil))) pa_nil)))) pa_nil)))) (pss_cons (ps_set (i := 5) sc__law_calls.nd rfl (by first | exact Or.inl rfl | exact Or.inr rfl) (pe_op op_cat (pv 5) (pe_lst (pa_cons (pe_tup (pa_cons pe_str (pa_cons (pe_tup (pa_cons (pv 4) (pa_cons (pv 3) pa_nil))) (pa_cons (pe_tup (pa_cons pe_str (pa_cons (pv 4) pa_nil))) pa_nil)))) (pa_cons (pe_tup (pa_cons pe_str (pa_cons (pe_tup (pa_cons pe_int (pa_cons (pv 3) pa_nil))) (pa_cons (pe_tup (pa_cons pe_str (pa_cons (pv 3) pa_nil))) pa_nil)))) pa_nil))))) (pss_cons (ps_set (i := 5) sc__law_calls.nd rfl (by first | exact Or.inl rfl | exact Or.inr rfl) (pe_op op_cat (pv 5) (pe_lst (pa_cons (pe_tup (pa_cons pe_str (pa_cons (pe_tup (pa_cons (pv 4) pa_nil)) (pa_cons (pe_tup (pa_cons pe_str (pa_cons (pv 4) pa_nil))) pa_nil)))) (pa_cons (pe_tup (pa_cons pe_str (pa_cons (pe_tup (pa_cons (pv 4) pa_nil)) (pa_cons (pe_tup (pa_cons pe_str (pa_cons (pv 4) pa_nil))) pa_nil)))) pa_nil))))) (pss_cons (ps_set (i := 5) sc__law_calls.nd rfl (by first | exact Or.inl rfl | exact Or.inr rfl) (pe_op op_cat (pv 5) (pe_lst (pa_cons (pe_tup (pa_cons pe_str (pa_cons (pe_tup (pa_cons (pv 9) pa_nil)) (pa_cons (pe_tup (pa_cons pe_str (pa_cons (pv 9) pa_nil))) pa_nil)))) (pa_cons (pe_tup (pa_cons pe_str (pa_cons (pe_tup (pa_cons (pv 10) pa_nil)) (pa_cons (pe_tup (pa_cons pe_str (pa_cons pe_int pa_nil))) pa_nil)))) pa_nil))))) (pss_cons (ps_set (i := 5) sc__law_calls.nd rfl (by first | exact Or.inl rfl | exact Or.inr rfl) (pe_op op_cat (pv 5) (pe_lst (pa_cons (pe_tup (pa_cons pe_str (pa_cons (pe_tup (pa_cons (pv 11) pa_nil)) (pa_cons (pe_tup (pa_cons pe_str (pa_cons pe_int pa_nil))) pa_nil)))) (pa_cons (pe_tup (pa_cons pe_str (pa_cons (pe_tup (pa_cons (pv 4) (pa_cons (pv 3) (pa_cons (pv 6) pa_nil)))) (pa_cons (pe_tup (pa_cons pe_str (pa_cons (pv 4) pa_nil))) pa_nil)))) pa_nil))))) (pss_cons (ps_set (i := 5) sc__law_calls.nd rfl (by first | exact Or.inl rfl | exact Or.inr rfl) (pe_op op_cat (pv 5) (pe_lst (pa_cons (pe_tup (pa_cons pe_str (pa_cons (pe_tup (pa_cons (pv 3) (pa_cons (pv 6) pa_nil))) (pa_cons (pe_tup (pa_cons pe_str (pa_cons (pv 3) pa_nil))) pa_nil)))) pa_nil)))) (pss_cons (ps_set (i := 5) sc__law_calls.nd rfl (by first | exact Or.inl rfl | exact Or.inr rfl) (pe_op op_cat (pv 5) (pe_lst (pa_cons (pe_tup (pa_cons pe_str (pa_cons (pe_tup (pa_cons pe_int (pa_cons (pv 6) pa_nil))) (pa_cons (pe_tup (pa_cons pe_str (pa_cons (pv 6) pa_nil))) pa_nil)))) pa_nil)))) (pss_cons (ps_set (i := 5) sc__law_calls.nd rfl (by first | exact Or.inl rfl | exact Or.inr rfl) (pe_op op_cat (pv 5) (pe_lst (pa_cons (pe_tup (pa_cons pe_str (pa_cons (pe_tup (pa_cons (pv 3) (pa_cons (pv 6) (pa_cons (pv 8) pa_nil)))) (pa_cons (pe_tup (pa_cons pe_str (pa_cons (pv 3) pa_nil))) pa_nil)))) pa_nil)))) (pss_cons (ps_set (i := 5) sc__law_calls.nd rfl (by first | exact Or.inl rfl | exact Or.inr rfl) (pe_op op_cat (pv 5) (pe_lst (pa_cons (pe_tup (pa_cons pe_str (pa_cons (pe_tup (pa_cons pe_int (pa_cons (pv 6) (pa_cons (pv 8) pa_nil)))) (pa_cons (pe_tup (pa_cons pe_str (pa_cons (pv 6) pa_nil))) pa_nil)))) pa_nil)))) (pss_cons (ps_set (i := 5) sc__law_calls.nd rfl (by first | exact Or.inl rfl | exact Or.inr rfl) (pe_op op_cat (pv 5) (pe_lst (pa_cons (pe_tup (pa_cons pe_str (pa_cons (pe_tup (pa_cons pe_int (pa_cons (pv 7) (pa_cons (pv 8) pa_nil)))) (pa_cons (pe_tup (pa_cons pe_str (pa_cons (pv 8) pa_nil))) pa_nil)))) pa_nil)))) (pss_cons (ps_set (i := 5) sc__law_calls.nd rfl (by first | exact Or.inl rfl | exact Or.inr rfl) (pe_op op_cat (pv 5) (pe_lst (pa_cons (pe_tup (pa_cons pe_str (pa_cons (pe_tup (pa_cons (pv 6) (pa_cons (pv 8) pa_nil))) (pa_cons (pe_tup (pa_cons pe_str (pa_cons (pv 6) pa_nil))) pa_nil)))) pa_nil)))) (pss_one (ps_ret (pe_op op_cat (pv 5) (pe_lst (pa_cons (pe_tup (pa_cons pe_str (pa_cons (pe_tup (pa_cons (pv 7) (pa_cons (pv 8) pa_nil))) (pa_cons (pe_tup (pa_cons pe_str (pa_cons (pv 8) pa_nil))) pa_nil)))) pa_nil)))))))))))))))))))))), ?_⟩)
  · obtain ⟨r, o, ns, rfl, _⟩ := h
    rfl
  · obtain ⟨r, o, ns, rfl, hR, g, hO, nor, q⟩ := h
    have sl : sizeLine = 16777216 := sizeLine_eq
    have l8 := g.len
    have b39 : (10 : Int) ^ 39 = 1000000000000000000000000000000000000000 := by decide
    have b40 : (10 : Int) ^ 40 = 10000000000000000000000000000000000000000 := by decide
    have pw30 : CPow 10 30 := ⟨by decide, by decide, by decide⟩
    have pw12 : CPow 10 12 := ⟨by decide, by decide, by decide⟩
    have e30 : (10 : Int) ^ (30 : Int).toNat = 1000000000000000000000000000000 := by decide
    have e12 : (10 : Int) ^ (12 : Int).toNat = 1000000000000 := by decide
    have t0 := Stp.refl hR
    refine ⟨_, rfl, (by show 0 ≤ sizeLine; decide), fun u1 hu1 => ?_⟩
    have sx1 := same_upd (o := .lst []) hu1
    have sz1 := Stp.same (Stp.refl t0.1) sx1
    have uh1 : (upd H u1 (.lst [])) u1 = some (.lst []) := upd_same
    have un1 : u1 ≠ r := (t0.1.ne hu1).symm
    have hO_1 := sx1 _ _ hO
    have tt1 := t0.trans sz1
    generalize upd H u1 (.lst []) = J1 at uh1 sz1 tt1 hO_1
    have kA : Ki K r J1 (fun i => i < 0) (.ref u1) := ki_ref (nv_lst un1 uh1)
    refine ⟨(by show 1 ≤ sizeLine; decide), fun u2 hu2 => ?_⟩
    have sx2 := same_upd (o := .tup [.int 0]) hu2
    have sz2 := Stp.same (Stp.refl tt1.1) sx2
    have uh2 : (upd J1 u2 (.tup [.int 0])) u2 = some (.tup [.int 0]) := upd_same
    have un2 : u2 ≠ r := (tt1.1.ne hu2).symm
    have hO_2 := sx2 _ _ hO_1
    have kA_2 := kA.step sz2
    have tt2 := tt1.trans sz2
    generalize upd J1 u2 (.tup [.int 0]) = J2 at uh2 sz2 tt2 hO_2 kA_2
    have kB : Ki K r J2 (fun i => i < 0) (.ref u2) := ki_ref (nv_tup1 tt2.1 uh2 fun H' => tq_int (by decide) (by decide))
    refine fun u3 hu3 => ?_
    have sx3 := same_upd (o := .dK []) hu3
    have sz3 := Stp.same (Stp.refl tt2.1) sx3
    have uh3 : (upd J2 u3 (.dK [])) u3 = some (.dK []) := upd_same
    have un3 : u3 ≠ r := (tt2.1.ne hu3).symm
    have hO_3 := sx3 _ _ hO_2
    have kA_3 := kA_2.step sz3
    have kB_3 := kB.step sz3
    have tt3 := tt2.trans sz3
    generalize upd J2 u3 (.dK []) = J3 at uh3 sz3 tt3 hO_3 kA_3 kB_3
    have kC : Ki K r J3 (fun i => i < 0) (.ref u3) := ki_ref (nv_dct tt3.1 uh3)
    refine ⟨_, _, rfl, rfl, pw30, _, rfl, (by show 10 ≤ sizeLine; decide), fun u4 hu4 => ?_⟩
    have sx4 := same_upd (o := .lst [.non, .bl true, .bl false, .int (-1), .str "", .str "0", .ref u1, .ref u2, .ref u3, .int (-((10 : Int) ^ (30 : Int).toNat))]) hu4
    have sz4 := Stp.same (Stp.refl tt3.1) sx4
    have uh4 : (upd J3 u4 (.lst [.non, .bl true, .bl false, .int (-1), .str "", .str "0", .ref u1, .ref u2, .ref u3, .int (-((10 : Int) ^ (30 : Int).toNat))])) u4 = some (.lst [.non, .bl true, .bl false, .int (-1), .str "", .str "0", .ref u1, .ref u2, .ref u3, .int (-((10 : Int) ^ (30 : Int).toNat))]) := upd_same
    have un4 : u4 ≠ r := (tt3.1.ne hu4).symm
    have hO_4 := sx4 _ _ hO_3
    have kA_4 := kA_3.step sz4
    have kB_4 := kB_3.step sz4
    have kC_4 := kC.step sz4
    have tt4 := tt3.trans sz4
    generalize upd J3 u4 (.lst [.non, .bl true, .bl false, .int (-1), .str "", .str "0", .ref u1, .ref u2, .ref u3, .int (-((10 : Int) ^ (30 : Int).toNat))]) = J4 at uh4 sz4 tt4 hO_4 kA_4 kB_4 kC_4
    have kK : Kis K r J4 (fun i => i < 0) [.non, .bl true, .bl false, .int (-1), .str "", .str "0", .ref u1, .ref u2, .ref u3, .int (-((10 : Int) ^ (30 : Int).toNat))] := kis_cons (ki_of nv_non (fun _ z => nomatch z)) (kis_cons (ki_of (nv_bl true) (fun _ z => nomatch z)) (kis_cons (ki_of (nv_bl false) (fun _ z => nomatch z)) (kis_cons (ki_int (by decide) (by decide) (by decide)) (kis_cons (ki_of (nv_str "" (by decide +kernel) (by decide +kernel)) (fun _ z => nomatch z)) (kis_cons (ki_of (nv_str "0" (by decide +kernel) (by decide +kernel)) (fun _ z => nomatch z)) (kis_cons kA_4 (kis_cons kB_4 (kis_cons kC_4 (kis_cons (ki_int (by rw [e30]; omega) (by rw [e30]; omega) (by rw [e30]; decide)) kis_nil)))))))))
    have kl : ([.non, .bl true, .bl false, .int (-1), .str "", .str "0", .ref u1, .ref u2, .ref u3, .int (-((10 : Int) ^ (30 : Int).toNat))] : List V).length = 10 := rfl
    generalize hks : ([.non, .bl true, .bl false, .int (-1), .str "", .str "0", .ref u1, .ref u2, .ref u3, .int (-((10 : Int) ^ (30 : Int).toNat))] : List V) = ks at uh4 kK kl
    clear hks
    refine ⟨_, rfl, _, rfl, _, rfl, o, _, rfl, .inl (SqL.of hO_4), _, _, rfl, rfl, pw30, (by show 2 ≤ sizeLine; decide), fun u5 hu5 => ?_⟩
    have sx5 := same_upd (o := .lst [.int (((ns.map V.int).length : Nat) : Int), .int ((10 : Int) ^ (30 : Int).toNat)]) hu5
    have sz5 := Stp.same (Stp.refl tt4.1) sx5
    have uh5 : (upd J4 u5 (.lst [.int (((ns.map V.int).length : Nat) : Int), .int ((10 : Int) ^ (30 : Int).toNat)])) u5 = some (.lst [.int (((ns.map V.int).length : Nat) : Int), .int ((10 : Int) ^ (30 : Int).toNat)]) := upd_same
    have un5 : u5 ≠ r := (tt4.1.ne hu5).symm
    have hO_5 := sx5 _ _ hO_4
    have kK_5 := kK.step sz5
    have hK_5 := sx5 _ _ uh4
    have tt5 := tt4.trans sz5
    generalize upd J4 u5 (.lst [.int (((ns.map V.int).length : Nat) : Int), .int ((10 : Int) ^ (30 : Int).toNat)]) = J5 at uh5 sz5 tt5 hO_5 kK_5 hK_5
    have kx5 : Kis K r J5 (fun i => i < 0 ∨ (ns.length : Int) ≤ i) [.int (((ns.map V.int).length : Nat) : Int), .int ((10 : Int) ^ (30 : Int).toNat)] := kis_cons (ki_int (by rw [List.length_map]; omega) (by rw [List.length_map]; omega) (Or.inr (by rw [List.length_map]; exact Int.le_refl _))) (kis_cons (ki_int (by rw [e30]; omega) (by rw [e30]; omega) (Or.inr (by rw [e30]; omega))) kis_nil)
    refine ⟨u4, u5, _, _, rfl, rfl, hK_5, uh5, (by rw [kl, sl]; show 10 + 2 ≤ 16777216; decide), fun u6 hu6 => ?_⟩
    have sx6 := same_upd (o := .lst (ks ++ [.int (((ns.map V.int).length : Nat) : Int), .int ((10 : Int) ^ (30 : Int).toNat)])) hu6
    have sz6 := Stp.same (Stp.refl tt5.1) sx6
    have uh6 : (upd J5 u6 (.lst (ks ++ [.int (((ns.map V.int).length : Nat) : Int), .int ((10 : Int) ^ (30 : Int).toNat)]))) u6 = some (.lst (ks ++ [.int (((ns.map V.int).length : Nat) : Int), .int ((10 : Int) ^ (30 : Int).toNat)])) := upd_same
    have un6 : u6 ≠ r := (tt5.1.ne hu6).symm
    have hO_6 := sx6 _ _ hO_5
    have kK_6 := kK_5.step sz6
    have hK_6 := sx6 _ _ hK_5
    have kx5_6 := kx5.step sz6
    have hB_6 := sx6 _ _ uh5
    have tt6 := tt5.trans sz6
    generalize upd J5 u6 (.lst (ks ++ [.int (((ns.map V.int).length : Nat) : Int), .int ((10 : Int) ^ (30 : Int).toNat)])) = J6 at uh6 sz6 tt6 hO_6 kK_6 hK_6 kx5_6 hB_6
    have kd6 : Kis K r J6 (fun i => i < 0 ∨ (ns.length : Int) ≤ i) (ks ++ [.int (((ns.map V.int).length : Nat) : Int), .int ((10 : Int) ^ (30 : Int).toNat)]) := (kK_6.up (fun i h => by omega)).app kx5_6
    refine ⟨r, u6, _, rfl, tt6.1, uh6, un6, (by rw [List.length_append, kl]; omega), (by rw [List.length_append, kl]; show 10 + 2 ≤ 1000; decide), fun lv G6 hlv tlv => ?_⟩
    have hO_7 := tlv.2 _ _ nor hO_6
    have kK_7 := kK_6.step tlv
    have hK_7 := tlv.2 _ _ un4 hK_6
    have tt7 := tt6.trans tlv
    have kv6 := (kd6 lv hlv).step tlv
    have bl := no_level kv6.2
    have A1 : Nvs K r G6 [lv] := nvs_cons kv6.1 nvs_nil
    refine ⟨_, rfl, _, rfl, _, _, rfl, rfl, pw12, _, _, rfl, rfl, _, _, rfl, rfl, pw30, (by show 3 ≤ sizeLine; decide), fun u8 hu8 => ?_⟩
    have sx8 := same_upd (o := .lst [.int 0, .int ((10 : Int) ^ (12 : Int).toNat + 1), .int ((10 : Int) ^ (30 : Int).toNat)]) hu8
    have sz8 := Stp.same (Stp.refl tt7.1) sx8
    have uh8 : (upd G6 u8 (.lst [.int 0, .int ((10 : Int) ^ (12 : Int).toNat + 1), .int ((10 : Int) ^ (30 : Int).toNat)])) u8 = some (.lst [.int 0, .int ((10 : Int) ^ (12 : Int).toNat + 1), .int ((10 : Int) ^ (30 : Int).toNat)]) := upd_same
    have un8 : u8 ≠ r := (tt7.1.ne hu8).symm
    have hO_8 := sx8 _ _ hO_7
    have kK_8 := kK_7.step sz8
    have hK_8 := sx8 _ _ hK_7
    have A_8 := A1.step sz8
    have tt8 := tt7.trans sz8
    generalize upd G6 u8 (.lst [.int 0, .int ((10 : Int) ^ (12 : Int).toNat + 1), .int ((10 : Int) ^ (30 : Int).toNat)]) = J8 at uh8 sz8 tt8 hO_8 kK_8 hK_8 A_8
    have kx8 : Kis K r J8 (fun i => i < 1 ∨ 1000000000000 < i) [.int 0, .int ((10 : Int) ^ (12 : Int).toNat + 1), .int ((10 : Int) ^ (30 : Int).toNat)] := kis_cons (ki_int (by decide) (by decide) (Or.inl (by decide))) (kis_cons (ki_int (by rw [e12]; omega) (by rw [e12]; omega) (Or.inr (by rw [e12]; decide))) (kis_cons (ki_int (by rw [e30]; omega) (by rw [e30]; omega) (Or.inr (by rw [e30]; decide))) kis_nil))
    refine ⟨u4, u8, _, _, rfl, rfl, hK_8, uh8, (by rw [kl, sl]; show 10 + 3 ≤ 16777216; decide), fun u9 hu9 => ?_⟩
    have sx9 := same_upd (o := .lst (ks ++ [.int 0, .int ((10 : Int) ^ (12 : Int).toNat + 1), .int ((10 : Int) ^ (30 : Int).toNat)])) hu9
    have sz9 := Stp.same (Stp.refl tt8.1) sx9
    have uh9 : (upd J8 u9 (.lst (ks ++ [.int 0, .int ((10 : Int) ^ (12 : Int).toNat + 1), .int ((10 : Int) ^ (30 : Int).toNat)]))) u9 = some (.lst (ks ++ [.int 0, .int ((10 : Int) ^ (12 : Int).toNat + 1), .int ((10 : Int) ^ (30 : Int).toNat)])) := upd_same
    have un9 : u9 ≠ r := (tt8.1.ne hu9).symm
    have hO_9 := sx9 _ _ hO_8
    have kK_9 := kK_8.step sz9
    have hK_9 := sx9 _ _ hK_8
    have A_9 := A_8.step sz9
    have kx8_9 := kx8.step sz9
    have hB_9 := sx9 _ _ uh8
    have tt9 := tt8.trans sz9
    generalize upd J8 u9 (.lst (ks ++ [.int 0, .int ((10 : Int) ^ (12 : Int).toNat + 1), .int ((10 : Int) ^ (30 : Int).toNat)])) = J9 at uh9 sz9 tt9 hO_9 kK_9 hK_9 A_9 kx8_9 hB_9
    have kd9 : Kis K r J9 (fun i => i < 1 ∨ 1000000000000 < i) (ks ++ [.int 0, .int ((10 : Int) ^ (12 : Int).toNat + 1), .int ((10 : Int) ^ (30 : Int).toNat)]) := (kK_9.up (fun i h => by omega)).app kx8_9
    refine ⟨r, u9, _, rfl, tt9.1, uh9, un9, (by rw [List.length_append, kl]; omega), (by rw [List.length_append, kl]; show 10 + 3 ≤ 1000; decide), fun nu G9 hnu tnu => ?_⟩
    have hO_10 := tnu.2 _ _ nor hO_9
    have kK_10 := kK_9.step tnu
    have hK_10 := tnu.2 _ _ un4 hK_9
    have A_10 := A_9.step tnu
    have tt10 := tt9.trans tnu
    have kv9 := (kd9 nu hnu).step tnu
    have bn := no_cells kv9.2
    have A2 := nvs_cons kv9.1 A_10
    refine ⟨_, rfl, _, rfl, r, u4, _, rfl, tt10.1, hK_10, un4, (by rw [kl]; decide), (by rw [kl]; decide), fun ad Ga had tad => ?_⟩
    have hO_11 := tad.2 _ _ nor hO_10
    have kK_11 := kK_10.step tad
    have hK_11 := tad.2 _ _ un4 hK_10
    have A_11 := A2.step tad
    have tt11 := tt10.trans tad
    have kad := kK_11 ad had
    have ba := no_addr kad.2
    have A3 := nvs_cons kad.1 A_11
    refine ⟨_, rfl, r, 50, rfl, tt11.1, by decide, by omega, fun lo Gl lo0 lo1 tlo => ?_⟩
    have hO_12 := tlo.2 _ _ nor hO_11
    have kK_12 := kK_11.step tlo
    have hK_12 := tlo.2 _ _ un4 hK_11
    have A_12 := A3.step tlo
    have tt12 := tt11.trans tlo
    refine ⟨_, _, rfl, _, rfl, _, rfl, _, rfl, _, _, rfl, rfl, (by show 1 ≤ sizeLine; decide), fun u13 hu13 => ?_⟩
    have sx13 := same_upd (o := .lst [.int (lo - 1)]) hu13
    have sz13 := Stp.same (Stp.refl tt12.1) sx13
    have uh13 : (upd Gl u13 (.lst [.int (lo - 1)])) u13 = some (.lst [.int (lo - 1)]) := upd_same
    have un13 : u13 ≠ r := (tt12.1.ne hu13).symm
    have hO_13 := sx13 _ _ hO_12
    have kK_13 := kK_12.step sz13
    have hK_13 := sx13 _ _ hK_12
    have A_13 := A_12.step sz13
    have tt13 := tt12.trans sz13
    generalize upd Gl u13 (.lst [.int (lo - 1)]) = J13 at uh13 sz13 tt13 hO_13 kK_13 hK_13 A_13
    have kx13 : Kis K r J13 (fun i => i < lo) [.int (lo - 1)] := kis_cons (ki_int (by omega) (by omega) (by omega)) kis_nil
    refine ⟨u4, u13, _, _, rfl, rfl, hK_13, uh13, (by rw [kl, sl]; show 10 + 1 ≤ 16777216; decide), fun u14 hu14 => ?_⟩
    have sx14 := same_upd (o := .lst (ks ++ [.int (lo - 1)])) hu14
    have sz14 := Stp.same (Stp.refl tt13.1) sx14
    have uh14 : (upd J13 u14 (.lst (ks ++ [.int (lo - 1)]))) u14 = some (.lst (ks ++ [.int (lo - 1)])) := upd_same
    have un14 : u14 ≠ r := (tt13.1.ne hu14).symm
    have hO_14 := sx14 _ _ hO_13
    have kK_14 := kK_13.step sz14
    have hK_14 := sx14 _ _ hK_13
    have A_14 := A_13.step sz14
    have kx13_14 := kx13.step sz14
    have hB_14 := sx14 _ _ uh13
    have tt14 := tt13.trans sz14
    generalize upd J13 u14 (.lst (ks ++ [.int (lo - 1)])) = J14 at uh14 sz14 tt14 hO_14 kK_14 hK_14 A_14 kx13_14 hB_14
    have kd14 : Kis K r J14 (fun i => i < lo) (ks ++ [.int (lo - 1)]) := (kK_14.up (fun i h => by omega)).app kx13_14
    refine ⟨r, u14, _, rfl, tt14.1, uh14, un14, (by rw [List.length_append, kl]; omega), (by rw [List.length_append, kl]; show 10 + 1 ≤ 1000; decide), fun hi G14 hhi thi => ?_⟩
    have hO_15 := thi.2 _ _ nor hO_14
    have kK_15 := kK_14.step thi
    have hK_15 := thi.2 _ _ un4 hK_14
    have A_15 := A_14.step thi
    have tt15 := tt14.trans thi
    have kv14 := (kd14 hi hhi).step thi
    have bh := no_high kv14.2
    have A4 := nvs_cons kv14.1 A_15
    refine ⟨_, rfl, _, rfl, _, _, rfl, rfl, pw30, (by show 3 ≤ sizeLine; decide), fun u16 hu16 => ?_⟩
    have sx16 := same_upd (o := .lst [.int 0, .int 9, .int ((10 : Int) ^ (30 : Int).toNat)]) hu16
    have sz16 := Stp.same (Stp.refl tt15.1) sx16
    have uh16 : (upd G14 u16 (.lst [.int 0, .int 9, .int ((10 : Int) ^ (30 : Int).toNat)])) u16 = some (.lst [.int 0, .int 9, .int ((10 : Int) ^ (30 : Int).toNat)]) := upd_same
    have un16 : u16 ≠ r := (tt15.1.ne hu16).symm
    have hO_16 := sx16 _ _ hO_15
    have kK_16 := kK_15.step sz16
    have hK_16 := sx16 _ _ hK_15
    have A_16 := A4.step sz16
    have tt16 := tt15.trans sz16
    generalize upd G14 u16 (.lst [.int 0, .int 9, .int ((10 : Int) ^ (30 : Int).toNat)]) = J16 at uh16 sz16 tt16 hO_16 kK_16 hK_16 A_16
    have kx16 : Kis K r J16 (fun i => i < 1 ∨ 8 < i) [.int 0, .int 9, .int ((10 : Int) ^ (30 : Int).toNat)] := kis_cons (ki_int (by decide) (by decide) (Or.inl (by decide))) (kis_cons (ki_int (by decide) (by decide) (Or.inr (by decide))) (kis_cons (ki_int (by rw [e30]; omega) (by rw [e30]; omega) (Or.inr (by rw [e30]; decide))) kis_nil))
    refine ⟨u4, u16, _, _, rfl, rfl, hK_16, uh16, (by rw [kl, sl]; show 10 + 3 ≤ 16777216; decide), fun u17 hu17 => ?_⟩
    have sx17 := same_upd (o := .lst (ks ++ [.int 0, .int 9, .int ((10 : Int) ^ (30 : Int).toNat)])) hu17
    have sz17 := Stp.same (Stp.refl tt16.1) sx17
    have uh17 : (upd J16 u17 (.lst (ks ++ [.int 0, .int 9, .int ((10 : Int) ^ (30 : Int).toNat)]))) u17 = some (.lst (ks ++ [.int 0, .int 9, .int ((10 : Int) ^ (30 : Int).toNat)])) := upd_same
    have un17 : u17 ≠ r := (tt16.1.ne hu17).symm
    have hO_17 := sx17 _ _ hO_16
    have kK_17 := kK_16.step sz17
    have hK_17 := sx17 _ _ hK_16
    have A_17 := A_16.step sz17
    have kx16_17 := kx16.step sz17
    have hB_17 := sx17 _ _ uh16
    have tt17 := tt16.trans sz17
    generalize upd J16 u17 (.lst (ks ++ [.int 0, .int 9, .int ((10 : Int) ^ (30 : Int).toNat)])) = J17 at uh17 sz17 tt17 hO_17 kK_17 hK_17 A_17 kx16_17 hB_17
    have kd17 : Kis K r J17 (fun i => i < 1 ∨ 8 < i) (ks ++ [.int 0, .int 9, .int ((10 : Int) ^ (30 : Int).toNat)]) := (kK_17.up (fun i h => by omega)).app kx16_17
    refine ⟨r, u17, _, rfl, tt17.1, uh17, un17, (by rw [List.length_append, kl]; omega), (by rw [List.length_append, kl]; show 10 + 3 ≤ 1000; decide), fun co G17 hco tco => ?_⟩
    have hO_18 := tco.2 _ _ nor hO_17
    have kK_18 := kK_17.step tco
    have hK_18 := tco.2 _ _ un4 hK_17
    have A_18 := A_17.step tco
    have tt18 := tt17.trans tco
    have kv17 := (kd17 co hco).step tco
    have bc : ∀ m : Nat, co = .int m → 1 ≤ m → m ≤ 8 → False := fun m e h1 h2 => by have := kv17.2 m e; omega
    have A5 := nvs_cons kv17.1 A_18
    refine ⟨_, _, rfl, _, rfl, (by show 0 ≤ sizeLine; decide), fun u19 hu19 => ?_⟩
    have sx19 := same_upd (o := .lst []) hu19
    have sz19 := Stp.same (Stp.refl tt18.1) sx19
    have uh19 : (upd G17 u19 (.lst [])) u19 = some (.lst []) := upd_same
    have un19 : u19 ≠ r := (tt18.1.ne hu19).symm
    have hO_19 := sx19 _ _ hO_18
    have A_19 := A5.step sz19
    have tt19 := tt18.trans sz19
    generalize upd G17 u19 (.lst []) = J19 at uh19 sz19 tt19 hO_19 A_19
    have nA := nv_lst (K := K) un19 uh19
    refine ⟨(by show 1 ≤ sizeLine; decide), fun u20 hu20 => ?_⟩
    have sx20 := same_upd (o := .lst [.str "1"]) hu20
    have sz20 := Stp.same (Stp.refl tt19.1) sx20
    have uh20 : (upd J19 u20 (.lst [.str "1"])) u20 = some (.lst [.str "1"]) := upd_same
    have un20 : u20 ≠ r := (tt19.1.ne hu20).symm
    have hO_20 := sx20 _ _ hO_19
    have A_20 := A_19.step sz20
    have nA_20 := nA.step sz20
    have tt20 := tt19.trans sz20
    generalize upd J19 u20 (.lst [.str "1"]) = J20 at uh20 sz20 tt20 hO_20 A_20 nA_20
    have nB : Nv K r J20 (.ref u20) := nv_lst1 un20 uh20 fun H' => tq_text "1" (by decide +kernel)
    refine ⟨(by show 0 ≤ sizeLine; decide), fun u21 hu21 => ?_⟩
    have sx21 := same_upd (o := .tup []) hu21
    have sz21 := Stp.same (Stp.refl tt20.1) sx21
    have uh21 : (upd J20 u21 (.tup [])) u21 = some (.tup []) := upd_same
    have un21 : u21 ≠ r := (tt20.1.ne hu21).symm
    have hO_21 := sx21 _ _ hO_20
    have A_21 := A_20.step sz21
    have nA_21 := nA_20.step sz21
    have nB_21 := nB.step sz21
    have tt21 := tt20.trans sz21
    generalize upd J20 u21 (.tup []) = J21 at uh21 sz21 tt21 hO_21 A_21 nA_21 nB_21
    have nC := nv_tup (K := K) tt21.1 uh21
    refine fun u22 hu22 => ?_
    have sx22 := same_upd (o := .dK []) hu22
    have sz22 := Stp.same (Stp.refl tt21.1) sx22
    have uh22 : (upd J21 u22 (.dK [])) u22 = some (.dK []) := upd_same
    have un22 : u22 ≠ r := (tt21.1.ne hu22).symm
    have hO_22 := sx22 _ _ hO_21
    have A_22 := A_21.step sz22
    have nA_22 := nA_21.step sz22
    have nB_22 := nB_21.step sz22
    have nC_22 := nC.step sz22
    have tt22 := tt21.trans sz22
    generalize upd J21 u22 (.dK []) = J22 at uh22 sz22 tt22 hO_22 A_22 nA_22 nB_22 nC_22
    have nD := nv_dct (K := K) tt22.1 uh22
    refine ⟨(by show 8 ≤ sizeLine; decide), fun u23 hu23 => ?_⟩
    have sx23 := same_upd (o := .lst [.non, .int 0, .int 1, .bl true, .ref u19, .ref u20, .ref u21, .ref u22]) hu23
    have sz23 := Stp.same (Stp.refl tt22.1) sx23
    have uh23 : (upd J22 u23 (.lst [.non, .int 0, .int 1, .bl true, .ref u19, .ref u20, .ref u21, .ref u22])) u23 = some (.lst [.non, .int 0, .int 1, .bl true, .ref u19, .ref u20, .ref u21, .ref u22]) := upd_same
    have un23 : u23 ≠ r := (tt22.1.ne hu23).symm
    have hO_23 := sx23 _ _ hO_22
    have A_23 := A_22.step sz23
    have nA_23 := nA_22.step sz23
    have nB_23 := nB_22.step sz23
    have nC_23 := nC_22.step sz23
    have nD_23 := nD.step sz23
    have tt23 := tt22.trans sz23
    generalize upd J22 u23 (.lst [.non, .int 0, .int 1, .bl true, .ref u19, .ref u20, .ref u21, .ref u22]) = J23 at uh23 sz23 tt23 hO_23 A_23 nA_23 nB_23 nC_23 nD_23
    have th23 : Ths K r J23 [.non, .int 0, .int 1, .bl true, .ref u19, .ref u20, .ref u21, .ref u22] := ths_cons nv_non rfl (ths_cons (nv_int (by decide) (by decide)) rfl (ths_cons (nv_int (by decide) (by decide)) rfl (ths_cons (nv_bl true) rfl (ths_cons nA_23 rfl (ths_cons nB_23 rfl (ths_cons nC_23 rfl (ths_cons nD_23 rfl ths_nil)))))))
    refine ⟨r, u23, _, rfl, tt23.1, uh23, un23, (by show 1 ≤ 8; decide), (by show 8 ≤ 1000; decide), fun th Gt hth tth => ?_⟩
    have hO_24 := tth.2 _ _ nor hO_23
    have A_24 := A_23.step tth
    have tt24 := tt23.trans tth
    have nth := (th23 th hth).1.step tth
    have bt := (th23 th hth).2
    have A6 := nvs_cons nth A_24
    refine ⟨_, rfl, _, rfl, r, o, ns, rfl, tt24.1, g, hO_24, nor, fun tx Gx otx ttx => ?_⟩
    have hO_25 := ttx.2 _ _ nor hO_24
    have A_25 := A6.step ttx
    have tt25 := tt24.trans ttx
    have d0 : DoF K r Gx ns "size" [lv] 2 (lv) := do_size (A_25 lv (by simp only [List.mem_cons, true_or, or_true])) bl
    have d1 : DoF K r Gx ns "level_of" [nu] 3 (nu) := do_lv g (A_25 nu (by simp only [List.mem_cons, true_or, or_true])) bn
    have d2 : DoF K r Gx ns "whole" [nu, lv] 3 (nu) := do_whole1 g (A_25 nu (by simp only [List.mem_cons, true_or, or_true])) (A_25 lv (by simp only [List.mem_cons, true_or, or_true])) bn
    have d3 : DoF K r Gx ns "whole" [.int 5, lv] 2 (lv) := do_whole2 g (A_25 lv (by simp only [List.mem_cons, true_or, or_true])) bl
    have d4 : DoF K r Gx ns "counts" [nu] 3 (nu) := do_counts g (A_25 nu (by simp only [List.mem_cons, true_or, or_true])) bn
    have d5 : DoF K r Gx ns "pieces" [nu] 3 (nu) := do_pieces g (A_25 nu (by simp only [List.mem_cons, true_or, or_true])) bn
    have d6 : DoF K r Gx ns "doubling" [co] 1 (co) := do_dbl (A_25 co (by simp only [List.mem_cons, true_or, or_true])) bc
    have d7 : DoF K r Gx ns "from_text" [th] 4 (.int 0) := do_from0 (A_25 th (by simp only [List.mem_cons, true_or, or_true])) bt
    have d8 : DoF K r Gx ns "from_text" [.str tx] 4 (.int 1) := do_from1 otx
    have d9 : DoF K r Gx ns "is_region" [nu, lv, ad] 3 (nu) := do_isr (A_25 nu (by simp only [List.mem_cons, true_or, or_true])) bn
    have d10 : DoF K r Gx ns "region_start" [lv, ad] 2 (lv) := do_start1 (A_25 lv (by simp only [List.mem_cons, true_or, or_true])) (A_25 ad (by simp only [List.mem_cons, true_or, or_true])) bl
    have d11 : DoF K r Gx ns "region_start" [.int 0, ad] 0 (ad) := do_start2 g (A_25 ad (by simp only [List.mem_cons, true_or, or_true])) ba
    have d12 : DoF K r Gx ns "count_regions" [lv, ad, hi] 2 (lv) := do_count1 (A_25 lv (by simp only [List.mem_cons, true_or, or_true])) (A_25 ad (by simp only [List.mem_cons, true_or, or_true])) (A_25 hi (by simp only [List.mem_cons, true_or, or_true])) bl
    have d13 : DoF K r Gx ns "count_regions" [.int 0, ad, hi] 0 (ad) := do_count2 g (A_25 ad (by simp only [List.mem_cons, true_or, or_true])) (A_25 hi (by simp only [List.mem_cons, true_or, or_true])) ba
    have d14 : DoF K r Gx ns "count_regions" [.int 0, .int lo, hi] 0 (hi) := do_count3 g (A_25 hi (by simp only [List.mem_cons, true_or, or_true])) lo0 bh
    have d15 : DoF K r Gx ns "maximal_runs" [ad, hi] 0 (ad) := do_runs1 (A_25 ad (by simp only [List.mem_cons, true_or, or_true])) (A_25 hi (by simp only [List.mem_cons, true_or, or_true])) ba
    have d16 : DoF K r Gx ns "maximal_runs" [.int lo, hi] 0 (hi) := do_runs2 (A_25 hi (by simp only [List.mem_cons, true_or, or_true])) lo0 bh
    refine ⟨_, _, rfl, nx_of (σ' := [some (.ref r), some (.ref o), some (.ref u4), some lv, some nu, none, some ad, some (.int lo), some hi, some co, some th, some (.str tx)]) rfl ?_⟩
    refine go_asg5 ?_
    refine two_ok tt25.1 (d0.step (Stp.refl tt25.1)) (d1.step (Stp.refl tt25.1)) rfl rfl (by show 1 ≤ sizeLine; decide) (by show 1 ≤ sizeLine; decide) ?_ ?_ ?_ ?_ ?_
    · exact (fun _ _ z => ⟨_, rfl, z⟩)
    · exact (fun _ _ z => ⟨_, rfl, z⟩)
    · exact (fun _ _ z => ⟨_, rfl, z⟩)
    · exact (fun _ _ z => ⟨_, rfl, z⟩)
    refine fun L0 J0 s0_ u0_ cs0 => ?_
    have y0 := u0_
    refine go_asg5 ?_
    refine cat2 rfl cs0 (by decide) (d2.step y0) (d3.step y0) rfl rfl (by show 2 ≤ sizeLine; decide) (by show 2 ≤ sizeLine; decide) ?_ ?_ ?_ ?_ ?_
    · exact (fun _ _ z => ⟨_, rfl, _, rfl, z⟩)
    · exact (fun _ _ z => ⟨_, rfl, z⟩)
    · exact (fun _ _ z => ⟨_, rfl, z⟩)
    · exact (fun _ _ z => ⟨_, rfl, z⟩)
    refine fun L1 J1 u1_ cs1 => ?_
    have y1 := y0.trans u1_
    refine go_asg5 ?_
    refine cat2 rfl cs1 (by decide) (d4.step y1) (d5.step y1) rfl rfl (by show 1 ≤ sizeLine; decide) (by show 1 ≤ sizeLine; decide) ?_ ?_ ?_ ?_ ?_
    · exact (fun _ _ z => ⟨_, rfl, z⟩)
    · exact (fun _ _ z => ⟨_, rfl, z⟩)
    · exact (fun _ _ z => ⟨_, rfl, z⟩)
    · exact (fun _ _ z => ⟨_, rfl, z⟩)
    refine fun L2 J2 u2_ cs2 => ?_
    have y2 := y1.trans u2_
    refine go_asg5 ?_
    refine cat2 rfl cs2 (by decide) (d6.step y2) (d7.step y2) rfl rfl (by show 1 ≤ sizeLine; decide) (by show 1 ≤ sizeLine; decide) ?_ ?_ ?_ ?_ ?_
    · exact (fun _ _ z => ⟨_, rfl, z⟩)
    · exact (fun _ _ z => ⟨_, rfl, z⟩)
    · exact (fun _ _ z => ⟨_, rfl, z⟩)
    · exact (fun _ _ z => z)
    refine fun L3 J3 u3_ cs3 => ?_
    have y3 := y2.trans u3_
    refine go_asg5 ?_
    refine cat2 rfl cs3 (by decide) (d8.step y3) (d9.step y3) rfl rfl (by show 1 ≤ sizeLine; decide) (by show 3 ≤ sizeLine; decide) ?_ ?_ ?_ ?_ ?_
    · exact (fun _ _ z => ⟨_, rfl, z⟩)
    · exact (fun _ _ z => z)
    · exact (fun _ _ z => ⟨_, rfl, _, rfl, _, rfl, z⟩)
    · exact (fun _ _ z => ⟨_, rfl, z⟩)
    refine fun L4 J4 u4_ cs4 => ?_
    have y4 := y3.trans u4_
    refine go_asg5 ?_
    refine cat1 rfl cs4 (by decide) (d10.step y4) rfl (by show 2 ≤ sizeLine; decide) ?_ ?_ ?_
    · exact (fun _ _ z => ⟨_, rfl, _, rfl, z⟩)
    · exact (fun _ _ z => ⟨_, rfl, z⟩)
    refine fun L5 J5 u5_ cs5 => ?_
    have y5 := y4.trans u5_
    refine go_asg5 ?_
    refine cat1 rfl cs5 (by decide) (d11.step y5) rfl (by show 2 ≤ sizeLine; decide) ?_ ?_ ?_
    · exact (fun _ _ z => ⟨_, rfl, z⟩)
    · exact (fun _ _ z => ⟨_, rfl, z⟩)
    refine fun L6 J6 u6_ cs6 => ?_
    have y6 := y5.trans u6_
    refine go_asg5 ?_
    refine cat1 rfl cs6 (by decide) (d12.step y6) rfl (by show 3 ≤ sizeLine; decide) ?_ ?_ ?_
    · exact (fun _ _ z => ⟨_, rfl, _, rfl, _, rfl, z⟩)
    · exact (fun _ _ z => ⟨_, rfl, z⟩)
    refine fun L7 J7 u7_ cs7 => ?_
    have y7 := y6.trans u7_
    refine go_asg5 ?_
    refine cat1 rfl cs7 (by decide) (d13.step y7) rfl (by show 3 ≤ sizeLine; decide) ?_ ?_ ?_
    · exact (fun _ _ z => ⟨_, rfl, _, rfl, z⟩)
    · exact (fun _ _ z => ⟨_, rfl, z⟩)
    refine fun L8 J8 u8_ cs8 => ?_
    have y8 := y7.trans u8_
    refine go_asg5 ?_
    refine cat1 rfl cs8 (by decide) (d14.step y8) rfl (by show 3 ≤ sizeLine; decide) ?_ ?_ ?_
    · exact (fun _ _ z => ⟨_, rfl, _, rfl, z⟩)
    · exact (fun _ _ z => ⟨_, rfl, z⟩)
    refine fun L9 J9 u9_ cs9 => ?_
    have y9 := y8.trans u9_
    refine go_asg5 ?_
    refine cat1 rfl cs9 (by decide) (d15.step y9) rfl (by show 2 ≤ sizeLine; decide) ?_ ?_ ?_
    · exact (fun _ _ z => ⟨_, rfl, _, rfl, z⟩)
    · exact (fun _ _ z => ⟨_, rfl, z⟩)
    refine fun L10 J10 u10_ cs10 => ?_
    have y10 := y9.trans u10_
    refine go_ret ?_
    refine cat1 rfl cs10 (by decide) (d16.step y10) rfl (by show 2 ≤ sizeLine; decide) ?_ ?_ ?_
    · exact (fun _ _ z => ⟨_, rfl, _, rfl, z⟩)
    · exact (fun _ _ z => ⟨_, rfl, z⟩)
    refine fun L11 J11 u11_ cs11 => ?_
    have y11 := y10.trans u11_
    obtain ⟨es, _, h1, _, h3, h4⟩ := cs11
    exact q _ _ _ (tt25.trans y11) h1 h3 h4
end
end K18

set_option Elab.async false
set_option linter.all false
set_option maxRecDepth 100000
set_option maxHeartbeats 4000000
set_option pp.maxSteps 900
namespace K18
open PySem PySem.Spec PyProof.Rows L2 Gu Ex
def trues (i : Nat) : List V := (List.replicate i true).map V.bl
theorem trues_more (i : Nat) : trues i ++ [V.bl true] = trues (i + 1) := by
  unfold trues
  rw [show [V.bl true] = [true].map V.bl from rfl, ← List.map_append, ← List.replicate_succ']
theorem trues_len (i : Nat) : (trues i).length = i := by
  unfold trues
  rw [List.length_map, List.length_replicate]
theorem all_trues (i : Nat) : (List.replicate i true).all id = true := by
  rw [List.all_eq_true]
  intro b hb
  rw [(List.mem_replicate.mp hb).2]
  rfl
section
variable {P : Program} {w : World} {K : PySem.W.Frag} {mg : Str → Option Value} {base : Heap} {f : Addr} {fd : FuncData}
def spLright : Sp := fun vs H Q _ => ∃ r : Addr, vs = [.ref r] ∧ Rng H r ∧ ∀ H', Stp r H H' → Q (.bl true) H'
def spLaw (K : PySem.W.Frag) : Sp := fun vs H Q _ => ∃ (a : Addr) (ns : List Int), vs = [.ref a] ∧ SqL K H a (ns.map V.int) ∧ ns.length ≤ 63 ∧ ∀ H', Q (.bl true) H'
theorem sc_law : FnScope ["_law_script", "_law_k"] ["_law_script"] (defScope (top 47)) := ⟨rfl, rfl, rfl, by decide +kernel, rfl, by decide +kernel, by decide +kernel⟩
theorem ok_law (T : Tx K mg) (D__law_rng : Df P w K mg base 1 "_law_rng" ["_law_script", "_law_k"] (spRng K)) (D__law_right : DfG P w K mg base 14 "_law_right" ["_law_rng_here"] spLright)
    (F : FnP K "law" "law" (top 47) f fd) : FnG P w K mg base CX0 15 f fd ["_law_script"] (spLaw K) := by
  refine okG F sc_law (fun vs H Q E h => ?_) (fun cdv A outer s H vs Q E hr h => ⟨_, PSs.nox (pss_one (ps_ret (pe_callB (cr_all rfl) (by rfl) T.n_all (by decide +kernel) (pa_cons (pe_lc (own := [("_law_k", 1)]) (g := gName 1) rfl sc_law.nd (pi_range1 rfl T.n_range (pa_cons (pe_callB (call_max2 rfl) (by rfl) T.n_max (by decide +kernel) (pa_cons pe_int (pa_cons (pe_callB (call_min2 rfl) (by rfl) T.n_min (by decide +kernel) (pa_cons (pe_callB call_len_seq (by rfl) T.n_len (by decide +kernel) (pa_cons (pv 0) pa_nil)) (pa_cons pe_int pa_nil))) pa_nil))) pa_nil)) (blkOk_by (own := [("_law_k", 1)]) (N := ["_law_script", "_law_k"]) (sc := defScope (top 47)) (by decide +kernel)) (fun _ _ _ _ _ => pg_name (i := 1) sc_law.nd rfl (Or.inl rfl)) (fun _ _ _ _ _ => pts_nil) (fun _ _ _ _ _ => (pcallG D__law_right hr (pa_cons (pcall D__law_rng hr.r (pa_cons (pv 0) (pa_cons (pv 1) pa_nil))) pa_nil)))) pa_nil)))), ?_⟩)
  · obtain ⟨a, ns, rfl, _⟩ := h
    rfl
  · obtain ⟨a, ns, rfl, hS, hlen, q⟩ := h
    refine ⟨_, rfl, a, _, rfl, .inl hS, _, _, rfl, _, _, rfl, ?_⟩
    obtain ⟨j, ej, j1, j2⟩ : ∃ j : Int, (if (if (6 : Int) < ((ns.map V.int).length : Int) then 6 else ((ns.map V.int).length : Int)) > 1 then (if (6 : Int) < ((ns.map V.int).length : Int) then 6 else ((ns.map V.int).length : Int)) else 1) = j ∧ 1 ≤ j ∧ j ≤ 6 := by
      refine ⟨_, rfl, ?_, ?_⟩
      · split <;> omega
      · split <;> split <;> omega
    refine ⟨j, (by rw [ej]), by omega, by omega, fun D hD => ?_⟩
    refine lc_range (fun i H' => H' D = some (.lst (trues i)) ∧ Same H H') ⟨upd_same, same_upd hD⟩ ?_ ?_
    · rintro i H' hi ⟨hD', sm⟩
      have hi2 : i < 6 := by omega
      refine ⟨rfl, _, rfl, _, rfl, a, ns, i, (by rw [Int.zero_add]; rfl), sm.seq hS, by omega, fun p H1 hp sm1 rg => ?_⟩
      refine ⟨p, rfl, rg, fun H2 st => ?_⟩
      have hD1 : H1 D = some (.lst (trues i)) := sm1 _ _ hD'
      have nDp : D ≠ p := ne_of_none hD' hp
      refine ⟨_, st.2 D _ nDp hD1, small1000 (by rw [trues_len]; omega), by rw [upd_same, trues_more], fun b o e => ?_⟩
      have e' := sm b o e
      rw [upd_ne (ne_of_none e hD)]
      exact st.2 b o (ne_of_none e' hp) (sm1 b o e')
    · rintro H' ⟨hD', sm⟩
      refine ⟨D, List.replicate j.toNat true, rfl, SqL.of hD', ?_⟩
      rw [all_trues]
      exact q _
end
end K18

set_option Elab.async false
set_option linter.all false
set_option maxRecDepth 100000
set_option maxHeartbeats 4000000
set_option pp.maxSteps 900
namespace K18
open PySem PySem.Spec PyProof.Rows L2 Gu Ex
theorem made_okN {K : PySem.W.Frag} {H : Hp} {l x dx : Addr} {ns : List Int} {R : VK} {E : XK} (g : Good ns) (hl : H l = some (.lst (ns.map V.int))) (hx : H x = none) (hdx : H dx = none) (ne : dx ≠ x) (q : ∀ H' d2 l2, Same H H' → H l2 = none → H' x = some (.ins (cS K) d2 (szF l2)) → H' l2 = some (.lst (ns.map V.int)) → R .non H') :
    spMade K [.ref x, .ref l] (upd (upd H dx (.own x)) x (.ins (cS K) dx [])) R E := by
  have l8 := g.len
  have smA : Same H (upd (upd H dx (.own x)) x (.ins (cS K) dx [])) := (same_upd hdx).trans (same_upd (by rw [upd_ne (Ne.symm ne)]; exact hx))
  refine ⟨x, dx, .ref l, some (ns.map V.int), rfl, upd_same, .list (smA _ _ hl) (by rw [List.length_map]; omega) (fun v hv => by obtain ⟨i, _, rfl⟩ := List.mem_map.mp hv; exact .int i), fun xs ho hw l2 hl2 => ?_, fun s p hj => ?_⟩
  · cases ho
    have lx : l2 ≠ x := fun z => by
      rw [z, upd_same] at hl2
      cases hl2
    refine q _ dx l2 (fun b o e => ?_) (smA.free hl2) upd_same (by rw [upd_ne lx]; exact upd_same)
    have e' := smA b o e
    rw [upd_ne (ne_of_none e hx), upd_ne (ne_of_none e' hl2)]
    exact e'
  · rw [show judge (some (ns.map V.int)) = wrong (ns.map V.int) from rfl, good_wrong g] at hj
    cases hj
section
variable {P : Program} {w : World} {K : PySem.W.Frag} {mg : Str → Option Value} {base : Heap} {f : Addr} {fd : FuncData}
theorem sc__law_right : FnScope ["_law_rng_here", "_law_sizes_here", "_law_made", "_law_turn", "_law_word_here", "_law_things", "_law_due", "_law_size"] ["_law_rng_here"] (defScope (top 46)) := ⟨rfl, rfl, rfl, by decide +kernel, rfl, by decide +kernel, by decide +kernel⟩
theorem ok_right (T : Tx K mg) (D__law_sizes : Df P w K mg base 2 "_law_sizes" ["_law_rng_here", "_law_levels", "_law_greatest"] spSizes) (K_Sizes : KfX P w K mg base (L2N.CX P w) 5 "Sizes" ["self", "values"] (spMade K)) (D__law_calls : Df P w K mg base 3 "_law_calls" ["_law_rng_here", "_law_sizes_here"] (spCalls K))
    (D__law_told : DfG P w K mg base 10 "_law_told" ["_law_made", "_law_word_here", "_law_things"] (spTold K)) (C_from : Cm P w K mg base (L2.CX P w) 7 "Sizes" "from_text" ["cls", "text"] (spFrom K)) (E_Sizes : EqOf P w K mg base 1 "Sizes" (spSEq K)) (M_all_sizes : Mf P w K mg base 1 "Sizes" "all_sizes" ["self"] (spAll K))
    (D__law_kinds_right : DfG P w K mg base 4 "_law_kinds_right" ["_law_rng_here"] spKinds) (D__law_pieces_right : DfG P w K mg base 12 "_law_pieces_right" ["_law_rng_here", "_law_sizes_here", "_law_made"] (spPr K)) (F : FnP K "_law_right" "_law_right" (top 46) f fd) :
    FnG P w K mg base CX0 14 f fd ["_law_rng_here"] spLright := by
  refine okG F sc__law_right (fun vs H Q E h => ?_) (fun cdv A outer s H vs Q E hr h => ⟨_, PSs.nox (pss_cons (ps_set (i := 1) sc__law_right.nd rfl (by first | exact Or.inl rfl | exact Or.inr rfl) (pcall D__law_sizes hr.r (pa_cons (pv 0) (pa_cons pe_int (pa_cons pe_int pa_nil))))) (pss_cons (ps_set (i := 2) sc__law_right.nd rfl (by first | exact Or.inl rfl | exact Or.inr rfl) (pmakeT (E := fun _ => E0) K_Sizes hr.r pass0N (pa_cons (pe_callTy call_list_of (by rfl) T.n_list (by decide +kernel) (pa_cons (pv 1) pa_nil)) pa_nil))) (pss_cons (ps_for PassesOwn.never rfl (pi_range1 rfl T.n_range (pa_cons pe_int pa_nil)) (pg_name (i := 3) sc__law_right.nd rfl (by first | exact Or.inl rfl | exact Or.inr rfl)) (pss_one (ps_for PassesOwn.never rfl (pi_list (pcall D__law_calls hr.r (pa_cons (pv 0) (pa_cons (pv 1) pa_nil)))) (pg_tup (by rfl) (pgs_cons (pg_name (i := 4) sc__law_right.nd rfl (by first | exact Or.inl rfl | exact Or.inr rfl)) (pgs_cons (pg_name (i := 5) sc__law_right.nd rfl (by first | exact Or.inl rfl | exact Or.inr rfl)) (pgs_cons (pg_name (i := 6) sc__law_right.nd rfl (by first | exact Or.inl rfl | exact Or.inr rfl)) pgs_nil)))) (pss_one (ps_if (pt_cmpR op_ne (pcallG D__law_told hr (pa_cons (pv 2) (pa_cons (pv 4) (pa_cons (pv 5) pa_nil)))) (pe_callB (call_reprQ hr T.sys) (by rfl) T.n_repr (by decide +kernel) (pa_cons (pv 6) pa_nil)) (nomark _)) (pss_one (ps_ret pe_bl)) pss_nil))))) (pss_cons (ps_set (i := 4) sc__law_right.nd rfl (by first | exact Or.inl rfl | exact Or.inr rfl) (pe_join pe_str (pe_lc (own := [("_law_size", 7)]) (g := gName 7) rfl sc__law_right.nd (pi_list (pv 1)) (blkOk_by (own := [("_law_size", 7)]) (N := ["_law_rng_here", "_law_sizes_here", "_law_made", "_law_turn", "_law_word_here", "_law_things", "_law_due", "_law_size"]) (sc := defScope (top 46)) (by decide +kernel)) (fun _ _ _ _ _ => pg_name (i := 7) sc__law_right.nd rfl (Or.inl rfl)) (fun _ _ _ _ _ => pts_nil) (fun _ _ _ _ _ => (pe_callTy call_str_int (by rfl) T.n_str (by decide +kernel) (pa_cons (pv 7) pa_nil)))))) (pss_cons (ps_if (PW.pt (pw_or (pt_not (pt_cmpR (op_own E_Sizes hr.r) (pcm C_from hr.r passN (pe_glob (v := .ref _) rfl T.g_Sizes rfl) (pa_cons (pv 4) pa_nil)) (pv 2) (nomark _))) (pw_or (pt_cmpR (op_neD hr.r.units) (pmeth0 M_all_sizes hr.r (pv 2)) (pv 1) (nomark _)) (pw_or1 (pt_not (pt_val (pcallG D__law_kinds_right hr (pa_cons (pv 0) pa_nil)))))))) (pss_one (ps_ret pe_bl)) pss_nil) (pss_one (ps_ret (pcallG D__law_pieces_right hr (pa_cons (pv 0) (pa_cons (pv 1) (pa_cons (pv 2) pa_nil))))))))))), ?_⟩)
  · obtain ⟨r, rfl, _⟩ := h
    rfl
  · obtain ⟨r, rfl, hR, q⟩ := h
    refine ⟨_, rfl, r, 8, 30, rfl, hR, by decide, by decide, by decide, by decide, fun l ns H1 g gp l0 hl t1 => ?_⟩
    have nl : l ≠ r := (hR.ne l0).symm
    refine ⟨_, rfl, l, _, rfl, .inl (SqL.of hl), fun c hc => fun x dx hx hdx ne => made_okN (K := K) g upd_same hx hdx ne fun H2 d2 l2 s2 hl2 hx2 hl3 => ⟨rfl, ?_⟩⟩
    have s1 := same_upd (o := .lst (ns.map V.int)) hc
    have t1' := Stp.same t1 s1
    have t2 := Stp.same t1' s2
    have hz : SzR K r H2 x ns := ⟨d2, l2, hx2, hl3, (t1'.1.ne hx).symm, (t1'.1.ne hl2).symm⟩
    have hl4 := s2 _ _ (s1 _ _ hl)
    clear hx2 hl3
    refine ⟨3, rfl, by decide, by decide, ?_⟩
    refine for_range (fun i σ G => ∃ x3 x4 x5 x6, σ = [some (.ref r), some (.ref l), some (.ref x), x3, x4, x5, x6, none] ∧ Stp r H2 G) ⟨none, none, none, none, rfl, Stp.refl t2.1⟩ ?_ ?_
    · rintro i σ G hi ⟨x3, x4, x5, x6, rfl, tG⟩
      refine ⟨_, rfl, _, rfl, r, l, ns, rfl, tG.1, g, tG.2 _ _ nl hl4, nl, fun L es G1 t3 hL nL cs => ?_⟩
      refine ⟨L, rfl, ⟨_, SqL.of hL⟩, ?_⟩
      have t4 := tG.trans t3
      refine for_it (walk_list (xs := es)) (fun i σ G' => (∃ x3 x4 x5 x6, σ = [some (.ref r), some (.ref l), some (.ref x), x3, x4, x5, x6, none]) ∧ Same G1 G') ⟨⟨_, _, _, _, rfl⟩, Same.refl _⟩ (fun i σ G' _ h => SqL.of (h.2 _ _ hL)) ?_ ?_
      · rintro j v σ Gz Gb hj ⟨⟨x3, x4, x5, x6, rfl⟩, sm⟩ ⟨rfl, hv⟩
        obtain ⟨a, tx, td, w, xs, jj, v, rfl, h1, h2, h3, d6, ⟨d, dq⟩, dd⟩ := cs _ (List.mem_of_getElem? hv)
        have sB := Stp.same (Stp.refl t4.1) sm
        have zB := (hz.stp t4).stp sB
        refine ⟨a, _, rfl, .inl (.inl (sm _ _ h1)), rfl, _, _, rfl, _, _, rfl, _, _, rfl, rfl, ?_⟩
        refine ⟨_, rfl, _, rfl, _, rfl, x, ns, w, tx, xs, some (jj, v), some (jj, d), rfl, zB.sz, sm _ _ h2, fun H5 s5 => dd H5 x (Stp.same sB s5) (zB.sz.same s5), ⟨rfl, d6, dq _ sB⟩, fun H5 s5 => ?_⟩
        have s6 := sm.trans s5
        have tq := due_tq (K := K) d6 (dq _ (Stp.same (Stp.refl t4.1) s6)) (s6 _ _ h3)
        refine ⟨_, rfl, _, _, rfl, tq.dq, tq.sh, Nat.le_trans tq.dp (by decide), Nat.le_trans tq.ln (by decide), ?_⟩
        exact ⟨rfl, false, by rw [show dueD (some (jj, d)) = .tuple [.str (wordOf jj), d] from rfl, decide_eq_true rfl]; rfl, iteF ⟨⟨_, _, _, _, rfl⟩, s6⟩⟩
      · rintro σ G2 ⟨⟨x3, x4, x5, x6, rfl⟩, sm⟩
        exact ⟨_, _, _, _, rfl, Stp.same t4 sm⟩
    · rintro σ G ⟨x3, x4, x5, x6, rfl, tG⟩
      have hlG := tG.2 _ _ nl hl4
      have ok := good_ok10 g
      have l8 := g.len
      refine ⟨⟨_, rfl⟩, _, rfl, l, rfl, ⟨_, SqL.of hlG⟩, fun D hD => ?_⟩
      refine lc_it (walk_list (xs := ns.map V.int)) (fun i G' => Same G G' ∧ G' D = some (.lst (((ns.take i).map num).map V.str))) ⟨same_upd hD, upd_same⟩ (fun i G' _ h => SqL.of (h.1 _ _ hlG)) ?_ ?_
      · rintro i v G1 G2 hi ⟨sm, hG⟩ ⟨rfl, hv⟩
        rw [List.getElem?_map] at hv
        obtain ⟨z, hz, rfl⟩ := Option.map_eq_some_iff.mp hv
        have zr := ok z (List.mem_of_getElem? hz)
        have e10 : (10 : Int) ^ 10 = 10000000000 := by decide
        have e12 : (10 : Int) ^ 12 = 1000000000000 := by decide
        rw [List.length_map] at hi
        exact ⟨rfl, _, rfl, z, rfl, log_ok zr.1 (by omega), str_step hz (by omega) hD sm hG⟩
      · rintro G1 ⟨sm1, hD1⟩
        rw [List.length_map, List.take_length] at hD1
        have wl := wrt_len ok
        have wc := wrt_ch ok
        have wf := wrt_fits ok (by omega)
        refine ⟨_, D, ns.map num, rfl, rfl, .inl (SqL.of hD1), wf, ?_⟩
        rw [show Txt.join (Str.ofString " ") (ns.map num) = wrt ns from rfl]
        have rdw := wrt_read ok g
        have tG1 := Stp.same tG sm1
        have zG := hz.stp tG1
        refine ⟨rfl, _, rfl, .str (wrt ns), rfl, .str _ ⟨by omega, wc⟩, fun x' e => ?_, fun hS => by cases hS⟩
        obtain rfl := V.str.inj e
        refine ⟨by omega, fun ns2 r2 p G2 s5 hp => ?_, fun no => absurd rdw (no _)⟩
        have e2 : ns2 = ns := r2.2.1.trans rdw.2.1.symm
        subst e2
        have tG2 := Stp.same tG1 s5
        have zG2 := hz.stp tG2
        obtain ⟨d1, l1, k1, k2⟩ := id hp
        obtain ⟨d3, l3, m1, m2, _, _⟩ := id zG2
        refine ⟨_, rfl, p, x, d1, d3, _, _, rfl, rfl, k1, m1, p, _, ns2, rfl, hp, .inl ⟨x, ns2, rfl, zG2.sz, ⟨_, rfl⟩, _, rfl, ?_⟩⟩
        refine ifF (by rw [decide_eq_true rfl]; rfl) ?_
        refine ⟨_, rfl, x, d3, _, rfl, m1, szF_no l3 (by decide +kernel), x, _, rfl, zG2.sz, fun a ha => ?_⟩
        have sa := same_upd (o := .lst (ns2.map V.int)) ha
        have hA : (upd G2 a (.lst (ns2.map V.int))) a = some (.lst (ns2.map V.int)) := upd_same
        generalize upd G2 a (.lst (ns2.map V.int)) = G3 at sa hA
        have tG3 := Stp.same tG2 sa
        refine ⟨_, rfl, _, _, .lst (SqL.of hA) (dp_ints _), .lst (SqL.of (tG3.2 _ _ nl hl4)) (dp_ints _), shaped_ints _, shaped_ints _, _, rfl, ?_⟩
        have ev : PyData.eqv (.list (ns2.map PyData.int)) (.list (ns2.map PyData.int)) = true := by
          show PyData.eqvAll _ _ = true
          rw [eqv_ints]
          exact decide_eq_true rfl
        refine ifF (by rw [ev]; rfl) ?_
        refine ⟨_, rfl, r, rfl, tG3.1, fun G4 t5 => ⟨_, rfl, iteF ?_⟩⟩
        have tG4 := tG3.trans t5
        exact ⟨_, rfl, _, rfl, _, rfl, r, l, x, ns2, rfl, tG4.1, g, gp, tG4.2 _ _ nl hl4, nl, hz.stp tG4, fun G5 t6 => q _ (t2.trans (tG4.trans t6))⟩
end
end K18

set_option Elab.async false
set_option linter.all false
set_option maxRecDepth 100000
set_option maxHeartbeats 0
namespace Ex
open PySem PySem.Spec PyProof.Rows L2 Gu
/-! ### facts of a class beyond those by names: constants, a property -/
def cvB (K : PySem.W.Frag) (C : Addr) (f : Str) (i : Int) : Bool := match PySem.W.findCls K (.ref C) (.type "type") f with
  | some (.val (.int j _)) => decide (j = i)
  | _ => false
theorem cvB_ok {K : PySem.W.Frag} {C : Addr} {f : Str} {i : Int} (h : cvB K C f i = true) : ∃ u, ClX.CVal K C (.type "type") f (.int i) u := by
  unfold cvB at h
  split at h
  · rename_i j t e
    have ej : j = i := of_decide_eq_true h
    exact ⟨_, e, t, by rw [ej]⟩
  · cases h
def rdB (K : PySem.W.Frag) (C : Addr) : Bool := PySem.W.readsIn K C (.type "type") && He.eqO (PySem.W.specialIn K (.ref C) "__getattribute__") (some (some (.builtin "type.__getattribute__")))
theorem rdB_ok {K : PySem.W.Frag} {C : Addr} (h : rdB K C = true) : ClX.CRead K C (.type "type") := by
  obtain ⟨h1, h2⟩ := He.ba h
  exact ⟨h1, He.eqO_ok h2⟩
def prA (K : PySem.W.Frag) (C : Addr) (f : Str) : Addr := match PySem.W.findIn K (.ref C) f with
  | some (some (.ref p)) => p
  | _ => 0
def pgA (K : PySem.W.Frag) (C : Addr) (f : Str) : Addr := match PySem.W.recIn K (prA K C f) "property" with
  | some (.ref g :: _) => g
  | _ => 0
def prB (K : PySem.W.Frag) (C : Addr) (f : Str) : Bool := He.eqO (PySem.W.findIn K (.ref C) f) (some (some (.ref (prA K C f)))) &&
  (He.eqO (PySem.W.specialIn K (.ref (prA K C f)) "__get__") (some (some (.builtin "property.__get__"))) && (decide (PySem.W.takesIn K (.ref (prA K C f)) = some true) &&
    (match PySem.W.recIn K (prA K C f) "property" with
    | some (.ref _ :: _) => true
    | _ => false)))
theorem prB_ok {K : PySem.W.Frag} {C : Addr} {f : Str} (h : prB K C f = true) : PropOf K C f (prA K C f) (pgA K C f) := by
  obtain ⟨h1, h⟩ := He.ba h
  obtain ⟨h2, h⟩ := He.ba h
  obtain ⟨h3, h4⟩ := He.ba h
  refine ⟨He.eqO_ok h1, He.eqO_ok h2, of_decide_eq_true h3, ?_⟩
  unfold pgA
  split at h4
  · rename_i g r e
    rw [e]
    exact ⟨r, rfl⟩
  · cases h4
/-- the def at an address -/
def fnAt (K : PySem.W.Frag) (a : Addr) : He.FnW := match K.lookup a with
  | some ⟨_, _, .func fd, _⟩ => some (fd.name, fd.qualname, fd.params, fd.body, fd.scope, fd.globals, fd.closure, fd.builtins)
  | _ => none
def okAt (K : PySem.W.Frag) (a : Addr) (qual : Str) : Bool := PySem.W.keepIn K (.ref a) && (match K.lookup a with
  | some ⟨_, _, .func fd, _⟩ => PySem.W.codeIn K fd.code qual && (He.dflB K fd.defaults [] && He.kwdB K fd.kwdefaults [])
  | _ => false)
theorem fun_at {K : PySem.W.Frag} {a : Addr} {name qual : Str} {params : Arguments} {body : List Stmt} {scope : Scope} (e : fnAt K a = some (name, qual, params, .stmts body, scope, mainGlobals, [], builtinsNs)) (c : okAt K a qual = true) :
    ∃ fd, FunD K name qual params body scope [] [] a fd := by
  obtain ⟨kp, c2⟩ := He.ba c
  unfold fnAt at e
  split at e
  · rename_i oc od fd sl q
    rw [q] at c2
    obtain ⟨k1, k2⟩ := He.ba c2
    obtain ⟨k3, k4⟩ := He.ba k2
    obtain ⟨n1, n2, n3, n4, n5, n6, n7, n8, n9, n10, n11, n12, n13, n14, n15⟩ := fd
    simp only [Option.some.injEq, Prod.mk.injEq] at e
    obtain ⟨rfl, rfl, rfl, rfl, rfl, rfl, rfl, rfl⟩ := e
    exact ⟨_, ⟨oc, od, n8, n9, n10, n11, n12, n13, n14, sl, rfl, q, k1, He.dflB_ok k3, He.kwdB_ok k4⟩, kp⟩
  · cases e
def sysB (K : PySem.W.Frag) : Bool := match K.lookup sysModules with
  | some o => decide (o.cls ≠ .type "list")
  | none => false
end Ex

set_option Elab.async false
set_option linter.all false
set_option maxRecDepth 100000
set_option maxHeartbeats 4000000
/-! Own layer: an operator's readings side by side; a promise without exceptions as one with them; classmethods and makers by keywords alone. -/
namespace Ex
open PySem PySem.Spec PySem.Calls PyProof.Rows L2 Gu
theorem op_orR {X : Cx} {op : Value → Value → Sem Value} {r1 r2 : R2} (h1 : OpR X op r1) (h2 : OpR X op r2) : OpR X op (fun x y H Q => r1 x y H Q ∨ r2 x y H Q) := by
  intro pins s σ H x y u v Q I rx ry h
  rcases h with h | h
  · exact h1 pins s σ H x y u v Q I rx ry h
  · exact h2 pins s σ H x y u v Q I rx ry h
theorem FnOk.up {P : Program} {w : World} {K : PySem.W.Frag} {mg : Str → Option Value} {base : Heap} {CX : CXT} {k : Nat} {f : Addr} {fd : FuncData} {ps : List Str} {sp : Sp} (F : FnOk P w K mg base CX0 k f fd ps sp) : FnOk P w K mg base CX k f fd ps sp :=
  ⟨F.len, fun A outer s H args us vs Q E hr he hb hv hs => codeAny_mono (F.run A outer s H args us vs Q E hr he hb hv hs) fun r s' h => by
    cases r with
    | error e => exact h.elim
    | ok fl => cases fl <;> exact h⟩
theorem passNN {X : Cx} : Passes (L2N.CX X.prog X.w) X E0 := fun _ _ _ _ _ _ _ ⟨_, _, _, _, _, _, _, _, _, _, _, _, z⟩ => z.elim
/-- the classmethod m of the class c, called by the keywords ks alone -/
structure CmK (P : Program) (w : World) (K : PySem.W.Frag) (mg : Str → Option Value) (base : Heap) (CX : CXT) (k : Nat) (c m : Str) (ps ks : List Str) (j : List Nat) (sp : Sp) : Prop where
  rd : ClX.CRead K (He.ga K c) (.type "type")
  ex : ∃ (p g : Addr) (fd : FuncData), ClX.CMet K (He.ga K c) (.type "type") m p g ∧ FnOk P w K mg base CX k g fd ps sp ∧ ∀ (s : Shared) (u : Value) (ws : List Value), ws.length = ks.length → BindsTo s fd ⟨[u], ks.zip ws⟩ (ps.zip (u :: j.filterMap fun i => ws[i]?))
def tCMethKw (C : Addr) (sp : Sp) (n : Nat) (j : List Nat) (E : XK) (ta : TE) (tk : TA) : TE := fun σ H Q => ta σ H fun x H1 => x = .ref C ∧ tk σ H1 fun zs H2 => zs.length = n ∧ sp (.ref C :: j.filterMap fun i => zs[i]?) H2 Q E
section
variable {X : Cx} {k j i : Nat} {c m x : Str} {ps ks : List Str} {ji : List Nat} {sp : Sp} {p pos apos : Pos} {o e : Expr} {es : List Expr} {kws : List Keyword} {t tk : TA} {ta : TE} {W : WX} {E : XK} {pl : Sem Bool}
open ClX in
theorem pcmK (D : CmK X.prog X.w X.K X.mg X.base (L2.CX X.prog X.w) k c m ps ks ji sp) (hr : Room j X.A) (hx : Passes (L2.CX X.prog X.w) X E) (he : PE X o ta) (hkw : PK X kws tk) (hj : k ≤ j := by decide)
    (hall : (backToKw pos (keywordEach kws X.env)).all (·.1.isSome) = true := by rfl) (hks : (backToKw pos (keywordEach kws X.env)).filterMap (·.1) = ks := by rfl)
    (hpl : ((backTo pos (starEach [] X.env)).any (·.1) || (backToKw pos (keywordEach kws X.env)).any (·.1.isNone)) = false := by rfl)
    (ht : eval (.Call (.Attribute o m apos) [] kws pos) X.env = (do
      let ov ← eval o X.env
      standAt apos.atName
      let (f, first) ← holding [ov] (getMethod ov m pl)
      callWith pos f first (backTo pos (starEach [] X.env)) (backToKw pos (keywordEach kws X.env))) := by rfl) :
    PE X (.Call (.Attribute o m apos) [] kws pos) (tCMethKw (He.ga X.K c) sp ks.length ji E ta tk) := by
  obtain ⟨pa, g, fd, cm, F, b⟩ := D.ex
  refine ⟨fun pins s σ H Q I h => ?_⟩
  refine PySem.W.methodCall_KW (pl := pl) (thn (he.run pins s σ H _ I h) fun u s1 ⟨x, H1, I1, rx, ex, q⟩ => ?_) ht
  subst ex
  obtain rfl : u = Value.ref (He.ga X.K c) := rx
  refine getmethcm_ok I1 D.rd cm fun s2 I2 => ?_
  have kp := PySem.W.keeps_M (M := model X.prog X.w) (q := s1.heap.objs.size) (self := .ref (He.ga X.K c)) cm.fi
  refine PySem.W.callWith_of (P := PySem.W.MethP X.K s1.heap.objs.size g (.ref (He.ga X.K c))) hpl kp (evalArgs_kw2_nil hall (thn (hkw.run pos _ s2 σ H1 _ I2 q) fun ws s3 ⟨zs, H2, I3, rz, l2, q2⟩ => ⟨⟨pin_at I3, I3.kIn⟩, ?_⟩))
  rw [hks]
  have z : wpAny (model X.prog X.w) X.A (call (.ref s1.heap.objs.size) [] (ks.zip ws)) (EP X ((s1.heap.objs.size, PySem.W.methodObj (.ref g) (.ref (He.ga X.K c))) :: pins) σ Q) X.xe s3 := by
    refine wpAny_call (PySem.W.method_call (pin_at I3) (codeAny_mono (F.run X.A X.stack s3 H2 ⟨[.ref (He.ga X.K c)], ks.zip ws⟩ _ (.ref (He.ga X.K c) :: ji.filterMap fun i => zs[i]?) Q E (hr.mono hj) I3.env0 (b s3 (.ref (He.ga X.K c)) ws (rz.length.symm.trans l2)) (.cons rfl (vals_pick rz ji)) q2) fun r s' hq => ?_))
    match r, hq with
    | .error e, hq => exact hx _ σ _ _ e s' I3 hq
    | .ok (.ret v), hq => exact I3.after hq
  exact thn z fun _ _ y => unpinE y
/-- C(k = v, ..) by keywords alone -/
structure KfXK (P : Program) (w : World) (K : PySem.W.Frag) (mg : Str → Option Value) (base : Heap) (CX : CXT) (k : Nat) (c : Str) (ps ks : List Str) (j : List Nat) (sp : Sp) : Prop where
  ex : ∃ fd, FnOk P w K mg base CX k (He.ma K (He.ga K c) "__init__") fd ps sp ∧ ∀ (s : Shared) (u : Value) (ws : List Value), ws.length = ks.length → BindsTo s fd ⟨[u], ks.zip ws⟩ (ps.zip (u :: j.filterMap fun i => ws[i]?))
  gl : mg c = some (.ref (He.ga K c))
  mkr : Mk K (He.ga K c) (He.ma K (He.ga K c) "__init__")
def tMakeKw (C : Addr) (sp : Sp) (n : Nat) (j : List Nat) (E : XK) (tk : TA) : TE := fun σ H Q => tk σ H fun zs H1 => zs.length = n ∧ ∀ x dx, H1 x = none → H1 dx = none → dx ≠ x →
  sp (.ref x :: j.filterMap fun i => zs[i]?) (upd (upd H1 dx (.own x)) x (.ins C dx [])) (fun v H2 => v = .non ∧ Q (.ref x) H2) E
theorem pmakeXK {CX : CXT} (D : KfXK X.prog X.w X.K X.mg X.base CX k c ps ks ji sp) (hr : Room j X.A) (hx : Passes CX X E) (hkw : PK X kws tk) (hj : k + 1 ≤ j := by decide) (hg : Gl X c := by rfl) (hdb : (c == ("__debug__" : Str)) = false := by decide)
    (hall : (backToKw pos (keywordEach kws X.env)).all (·.1.isSome) = true := by rfl) (hks : (backToKw pos (keywordEach kws X.env)).filterMap (·.1) = ks := by rfl)
    (hpl : ((backTo pos (starEach [] X.env)).any (·.1) || (backToKw pos (keywordEach kws X.env)).any (·.1.isNone)) = false := by rfl) :
    PE X (.Call (.Name c p) [] kws pos) (tMakeKw (He.ga X.K c) sp ks.length ji E tk) := by
  obtain ⟨fd, F, hb⟩ := D.ex
  refine ⟨fun pins s σ H Q I h => wpAny_Call_Name_kw (ld_glob I hg D.gl (PySem.W.callWith_KW0 (h₀ := X.base) I.ok.mod.kin D.mkr.kp hall (thn (hkw.run pos pins s σ H _ I h) fun ws s1 ⟨zs, H1, I1, rz, l2, q⟩ => ⟨I1.kIn, ?_⟩) hpl) hdb)⟩
  rw [hks]
  have hq := q (s1.heap.objs.size + 1) s1.heap.objs.size (I1.hok.fresh (Nat.le_succ _)) (I1.hok.fresh (Nat.le_refl _)) (Nat.ne_of_lt (Nat.lt_succ_self _))
  have J := Inv.made (C := He.ga X.K c) I1
  have r2 : Vals (V.ref (s1.heap.objs.size + 1) :: ji.filterMap fun i => zs[i]?) (Value.ref (s1.heap.objs.size + 1) :: ji.filterMap fun i => ws[i]?) := .cons rfl (vals_pick rz ji)
  refine wpAny_call (make_map (f := He.ma X.K (He.ga X.K c) "__init__") I1.kIn D.mkr.makes D.mkr.init (beq_iff_eq.mp D.mkr.fn)
    (codeAny_mono (F.run _ X.stack _ _ ⟨[Value.ref (s1.heap.objs.size + 1)], ks.zip ws⟩ _ _ _ _ ((hr.mono hj).make (He.ga X.K c) [] (ks.zip ws)) (J.env0.make (He.ga X.K c) [] (ks.zip ws)) (hb _ _ ws (rz.length.symm.trans l2)) r2 hq) fun o s' z => ?_))
  match o, z with
  | .error er, z => exact hx pins _ _ _ er s' J z
  | .ok (.ret u), z =>
    obtain ⟨v, H', I3, rv, ev, q3⟩ := J.after z
    subst ev
    exact ⟨rv, ⟨V.ref (s1.heap.objs.size + 1), H', I3, rfl, q3⟩⟩
theorem pcallG0 (D : DfG X.prog X.w X.K X.mg X.base k x ps sp) (hr : RoomG j X.A) (hj : k ≤ j := by decide) (hg : Gl X x := by rfl) (hdb : (x == ("__debug__" : Str)) = false := by decide) : PE X (.Call (.Name x p) [] [] pos) (tCall sp [] E0 tNil) := by
  obtain ⟨fd, F, b⟩ := D.ex
  exact ⟨fun pins s σ H Q I h => wpAny_Call_Name_kw (ld_glob I hg D.gl (PySem.W.callWith_K0 I.kIn D.kp (runG (us := []) F (hr.mono hj) b .nil pass0 I .nil h)) hdb)⟩
theorem pmakeTB {CX : CXT} {E : L2.St → XK} (K : PySem.W.Frag) (D : KfX X.prog X.w X.K X.mg X.base CX k c ps sp) (hr : Room j X.A) (hx : ∀ σ, PassesAt CX X σ (E σ)) (ha : PA X (e :: es) t) (hj : k + 1 ≤ j := by decide) (hK : X.K = K := by rfl) (hg : Gl X c := by rfl) (hdb : (c == ("__debug__" : Str)) = false := by decide)
    (he : starEach (e :: es) X.env = (false, eval e X.env) :: starEach es X.env := by rfl) (hpl : (backTo pos (starEach es X.env)).any (·.1) = false := by rfl) :
    PE X (.Call (.Name c p) (e :: es) [] pos) (tMakeT (He.ga K c) sp E t) := by
  subst hK
  exact pmakeT D hr hx ha hj hg hdb he hpl
end
end Ex

set_option Elab.async false
set_option linter.all false
set_option maxRecDepth 100000
set_option maxHeartbeats 0
namespace Ex
open PySem PySem.Spec PyProof.Rows L2 Gu
/-! ### facts for the end: constants read through an object, classmethods, methods and makers by keywords alone, an error's class over ValueError -/
def conB (K : PySem.W.Frag) (C : Addr) (f : Str) (i : Int) : Bool := match PySem.W.findIn K (.ref C) f with
  | some (some (.int j t)) => decide (j = i) && (He.eqO (PySem.W.specialIn K (.int j t) "__get__") (some none) && !PySem.W.copiedNames.contains f)
  | _ => false
theorem conB_ok {K : PySem.W.Frag} {C : Addr} {f : Str} {i : Int} (h : conB K C f i = true) : ∃ u, Con K C f (.int i) u := by
  unfold conB at h
  split at h
  · rename_i j t e
    obtain ⟨h1, h2⟩ := He.ba h
    obtain ⟨h3, h4⟩ := He.ba h2
    have ej : j = i := of_decide_eq_true h1
    exact ⟨_, e, ⟨t, by rw [ej]⟩, He.eqO_ok h3, by simpa using h4⟩
  · cases h
def cmP (K : PySem.W.Frag) (C : Addr) (m : Str) : Addr := match PySem.W.findCls K (.ref C) (.type "type") m with
  | some (.get _ (.ref p) _ _) => p
  | _ => 0
def cmA (K : PySem.W.Frag) (C : Addr) (m : Str) : Addr := match PySem.W.recIn K (cmP K C m) "classmethod" with
  | some (.ref g :: _) => g
  | _ => 0
def cmB (K : PySem.W.Frag) (C : Addr) (m : Str) : Bool := (match PySem.W.findCls K (.ref C) (.type "type") m with
  | some (.get (.builtin n) (.ref _) .none (.ref c)) => decide (n = "classmethod.__get__") && decide (c = C)
  | _ => false) && ((match PySem.W.recIn K (cmP K C m) "classmethod" with
  | some (.ref _ :: _) => true
  | _ => false) && PySem.W.fnIn K (cmA K C m))
theorem cmB_ok {K : PySem.W.Frag} {C : Addr} {m : Str} (h : cmB K C m = true) : ClX.CMet K C (.type "type") m (cmP K C m) (cmA K C m) := by
  obtain ⟨h1, h⟩ := He.ba h
  obtain ⟨h2, h3⟩ := He.ba h
  refine ⟨?_, ?_, h3⟩
  · unfold cmP
    split at h1
    · rename_i n p c e
      obtain ⟨e1, e2⟩ := He.ba h1
      have e1 : n = "classmethod.__get__" := of_decide_eq_true e1
      have e2 : c = C := of_decide_eq_true e2
      rw [e, e1, e2]
    · cases h1
  · unfold cmA
    split at h2
    · rename_i g r e
      rw [e]
      exact ⟨r, rfl⟩
    · cases h2
/-- keywords alone, behind self or cls -/
theorem bindsKw {K : PySem.W.Frag} {name qual : Str} {params : Arguments} {body : List Stmt} {scope : Scope} {f : Addr} {ps ks : List Str} {j : List Nat} {fd : FuncData} (F : FunD K name qual params body scope [] [] f fd)
    (hb : ∀ (kV doc pm : Value) (an : Option Addr) (cdv ct u : Value) (ws : List Value), ws.length = ks.length → bindArgs (PySem.W.fnOf name qual params body scope .none kV doc pm an cdv ct) ⟨[u], ks.zip ws⟩ = pure (ps.zip (u :: j.filterMap fun i => ws[i]?))) :
    ∀ (s : Shared) (u : Value) (ws : List Value), ws.length = ks.length → BindsTo s fd ⟨[u], ks.zip ws⟩ (ps.zip (u :: j.filterMap fun i => ws[i]?)) := by
  intro s u ws hl
  obtain ⟨oc, od, dV, kV, doc, pm, an, cdv, ct, osl, rfl, lk, hcd, hD, hK⟩ := F.ex
  rcases hD with ⟨_, rfl⟩ | ⟨e, _⟩
  · exact .of_eq (hb kV doc pm an cdv ct u ws hl)
  · exact absurd rfl e
theorem refs_VE (l : List Value) (h : refsB (tailE "ValueError") l = true) : PySem.HandSPX.refsVE l = true := by
  induction l with
  | nil => exact absurd h (by decide +kernel)
  | cons v r ih =>
    rcases refsB_two _ _ h with ⟨c, r', e, h'⟩ | e
    · injection e with e1 e2
      subst e1 e2
      exact ih h'
    · rw [e]
      decide +kernel
theorem ErrG.oxC {K : PySem.W.Frag} {C : Addr} {n : Str} (e : ErrG "ValueError" K C n) : OexC K C := by
  obtain ⟨b, ⟨nm, q, N, bs, bm, sn, sub, ab, col, dd, k0, k1, k2, k3, k5, hC, mr⟩, sa, ex, ty, kC⟩ := e.ox
  exact ⟨⟨nm, q, N, bs, bm, sn, sub, ab, col, dd, k0, k1, k2, k3, k5, hC, refs_VE bm mr⟩, sa, ex, ty, kC⟩
end Ex

set_option Elab.async false
set_option linter.all false
set_option maxRecDepth 100000
set_option maxHeartbeats 0
namespace K18
open PySem PySem.Spec PyProof.Rows L2 Gu Ex
/-! ### facts for the end: what the six classes are to each other -/
def ecB (K : PySem.W.Frag) (C : Addr) : Bool := xfB K C && (He.eqO (PySem.W.findIn K (.ref C) "__class__") (some (some (.builtin "object.__class__"))) &&
  (He.eqO (PySem.W.specialIn K (.builtin "object.__class__") "__get__") (some (some (.builtin "getset_descriptor.__get__"))) && (bOf (PySem.W.takesIn K (.builtin "object.__class__")) true && bOf (PySem.W.mroIn K C (.type "object")) true)))
theorem ecB_ok {K : PySem.W.Frag} {C : Addr} (h : ecB K C = true) : ExcC K C ∧ XfC K C := by
  obtain ⟨a1, h⟩ := He.ba h
  obtain ⟨a2, h⟩ := He.ba h
  obtain ⟨a3, h⟩ := He.ba h
  obtain ⟨a4, a5⟩ := He.ba h
  have x := xfB_ok a1
  exact ⟨⟨x.ga, x.gg, x.exC, x.hdC, He.eqO_ok a2, He.eqO_ok a3, bOf_ok a4, bOf_ok a5⟩, x⟩
def kxB (K : PySem.W.Frag) (j : Nat) : Bool := ecB K (wc K j) && ((List.range 6).all (fun i => bOf (PySem.W.kitOne K (.ref (wc K j)) (.ref (wc K i))) (decide (i = j))) && (bOf (PySem.W.kitOne K (.ref (wc K j)) (.ref (He.ga K "RoomError"))) (!decide (j = 5)) &&
  (bOf (PySem.W.kitOne K (.ref (wc K j)) (.type "ArithmeticError")) (decide (j = 5)) && (He.eqO (PySem.W.findIn K (.ref (wc K j)) (fldOf j)) (some none) && (bOf (PySem.W.exmAny K (.ref (wc K j)) [.ref (cA K), .ref (cC K), .ref (cL K), .ref (cNu K)]) (decide (j < 4)) &&
  (bOf (PySem.W.exmOne K (.ref (wc K j)) (.ref (cX K))) (decide (j = 4)) && bOf (PySem.W.exmOne K (.ref (wc K j)) (.ref (cT K))) (decide (j = 5))))))))
theorem kit_ok {K : PySem.W.Frag} (h : ∀ j, j < 6 → kxB K j = true) : KitX K := by
  have p : ∀ j, j < 6 → (KitW K (wc K j) j ∧ XfC K (wc K j)) ∧ PySem.W.findIn K (.ref (wc K j)) (fldOf j) = some none ∧ PySem.W.exmAny K (.ref (wc K j)) [.ref (cA K), .ref (cC K), .ref (cL K), .ref (cNu K)] = some (decide (j < 4)) ∧
      PySem.W.exmOne K (.ref (wc K j)) (.ref (cX K)) = some (decide (j = 4)) ∧ PySem.W.exmOne K (.ref (wc K j)) (.ref (cT K)) = some (decide (j = 5)) := fun j hj => by
    have h := h j hj
    obtain ⟨a1, h⟩ := He.ba h
    obtain ⟨a2, h⟩ := He.ba h
    obtain ⟨a3, h⟩ := He.ba h
    obtain ⟨a4, h⟩ := He.ba h
    obtain ⟨a5, h⟩ := He.ba h
    obtain ⟨a6, h⟩ := He.ba h
    obtain ⟨a7, a8⟩ := He.ba h
    exact ⟨⟨⟨(ecB_ok a1).1, fun i hi => bOf_ok (List.all_eq_true.mp a2 i (List.mem_range.mpr hi)), bOf_ok a3, bOf_ok a4⟩, (ecB_ok a1).2⟩, He.eqO_ok a5, bOf_ok a6, bOf_ok a7, bOf_ok a8⟩
  exact ⟨fun j hj => (p j hj).1.1, fun j hj => (p j hj).1.2, fun j hj => (p j hj).2.1, fun j hj => (p j hj).2.2.1, fun j hj => (p j hj).2.2.2.1, fun j hj => (p j hj).2.2.2.2⟩
theorem kit_six {K : PySem.W.Frag} (h0 : kxB K 0 = true) (h1 : kxB K 1 = true) (h2 : kxB K 2 = true) (h3 : kxB K 3 = true) (h4 : kxB K 4 = true) (h5 : kxB K 5 = true) : KitX K := kit_ok fun j hj => by
  have : j = 0 ∨ j = 1 ∨ j = 2 ∨ j = 3 ∨ j = 4 ∨ j = 5 := by omega
  rcases this with rfl | rfl | rfl | rfl | rfl | rfl <;> assumption
end K18

set_option Elab.async false
set_option linter.all false
set_option maxRecDepth 100000
set_option maxHeartbeats 0
namespace K18
open PySem PySem.Spec PyProof.Rows L2 Gu Ex
abbrev R : PySem.W.OpenRow := PySem.W.OpenLaw.row PySem.Challenge.rw_exactroom_k18_values_refused
def dOf (a : Str × Option Str) (x q : Str) (st : Stmt) : He.DefD := ⟨a, x, q, defArgs st, defBody st, defScope st, [], []⟩
def dOfK (a : Str × Option Str) (x q : Str) (st : Stmt) (kw : List (Str × He.Dv)) : He.DefD := ⟨a, x, q, defArgs st, defBody st, defScope st, [], kw⟩
def fn : List He.DefD := [dOf ("is_integer", none) "is_integer" "is_integer" (top 14),
  dOf ("is_name", none) "is_name" "is_name" (top 15),
  dOf ("is_cells", none) "is_cells" "is_cells" (top 16),
  dOf ("read_integer", none) "read_integer" "read_integer" (top 18),
  dOf ("size_problem", none) "size_problem" "size_problem" (top 19),
  dOf ("check_sizes", none) "check_sizes" "check_sizes" (top 20),
  dOf ("check_cells", none) "check_cells" "check_cells" (top 17),
  dOf ("Sizes", some "__init__") "__init__" "Sizes.__init__" (inClass (top 21) 4),
  dOf ("Sizes", some "all_sizes") "all_sizes" "Sizes.all_sizes" (inClass (top 21) 11),
  dOf ("Sizes", some "has_level") "has_level" "Sizes.has_level" (inClass (top 21) 12),
  dOf ("Sizes", some "check_level") "check_level" "Sizes.check_level" (inClass (top 21) 13),
  dOf ("Sizes", some "size") "size" "Sizes.size" (inClass (top 21) 14),
  dOf ("Sizes", some "whole") "whole" "Sizes.whole" (inClass (top 21) 16),
  dOf ("Sizes", some "level_of") "level_of" "Sizes.level_of" (inClass (top 21) 15),
  dOf ("Sizes", some "counts") "counts" "Sizes.counts" (inClass (top 21) 17),
  dOf ("Sizes", some "pieces") "pieces" "Sizes.pieces" (inClass (top 21) 18),
  dOf ("Sizes", some "__eq__") "__eq__" "Sizes.__eq__" (inClass (top 21) 5),
  dOf ("InvalidSizes", some "__init__") "__init__" "InvalidSizes.__init__" (inClass (top 2) 0),
  dOf ("InvalidCount", some "__init__") "__init__" "InvalidCount.__init__" (inClass (top 6) 0),
  dOf ("InvalidText", some "__init__") "__init__" "InvalidText.__init__" (inClass (top 7) 0),
  dOf ("InvalidNumber", some "__init__") "__init__" "InvalidNumber.__init__" (inClass (top 4) 0),
  dOf ("InvalidLevel", some "__init__") "__init__" "InvalidLevel.__init__" (inClass (top 3) 0),
  dOf ("TooManyPieces", some "__init__") "__init__" "TooManyPieces.__init__" (inClass (top 8) 0),
  dOf ("InvalidAddress", some "__init__") "__init__" "InvalidAddress.__init__" (inClass (top 5) 0),
  dOf ("is_address", none) "is_address" "is_address" (top 23),
  dOf ("check_range", none) "check_range" "check_range" (top 24),
  dOf ("region_start", none) "region_start" "region_start" (top 28),
  dOf ("next_start", none) "next_start" "next_start" (top 25),
  dOf ("lies_below", none) "lies_below" "lies_below" (top 26),
  dOf ("first_run", none) "first_run" "first_run" (top 31),
  dOf ("count_regions", none) "count_regions" "count_regions" (top 29),
  dOf ("is_region", none) "is_region" "is_region" (top 27),
  dOf ("maximal_runs", none) "maximal_runs" "maximal_runs" (top 32),
  dOf ("_law_rng", none) "_law_rng" "_law_rng" (top 34),
  dOf ("_law_draw", none) "_law_draw" "_law_draw" (top 35),
  dOf ("_law_choice", none) "_law_choice" "_law_choice" (top 36),
  dOf ("_law_sizes", none) "_law_sizes" "_law_sizes" (top 37),
  dOf ("_law_pieces", none) "_law_pieces" "_law_pieces" (top 38),
  dOf ("_law_word", none) "_law_word" "_law_word" (top 39),
  dOf ("_law_do", none) "_law_do" "_law_do" (top 40),
  dOf ("_law_told", none) "_law_told" "_law_told" (top 41),
  dOf ("_law_odd_text", none) "_law_odd_text" "_law_odd_text" (top 42),
  dOf ("_law_calls", none) "_law_calls" "_law_calls" (top 43),
  dOf ("_law_pieces_right", none) "_law_pieces_right" "_law_pieces_right" (top 44),
  dOf ("_law_kinds_right", none) "_law_kinds_right" "_law_kinds_right" (top 45),
  dOf ("_law_right", none) "_law_right" "_law_right" (top 46),
  dOf ("law", none) "law" "law" (top 47)]
def fa : List He.Fa := [.glo "is_integer", .glo "is_name", .glo "is_cells", .glo "read_integer", .glo "size_problem", .glo "check_sizes", .glo "check_cells", .glo "is_address", .glo "check_range", .glo "region_start", .glo "next_start", .glo "lies_below", .glo "first_run", .glo "count_regions", .glo "is_region", .glo "maximal_runs", .glo "_law_rng", .glo "_law_draw", .glo "_law_choice", .glo "_law_sizes", .glo "_law_pieces", .glo "_law_word", .glo "_law_do", .glo "_law_told", .glo "_law_odd_text", .glo "_law_calls", .glo "_law_pieces_right", .glo "_law_kinds_right", .glo "_law_right", .glo "law", .glo "Sizes", .glo "RoomError", .glo "InvalidSizes", .glo "InvalidCount", .glo "InvalidText", .glo "InvalidNumber", .glo "InvalidLevel", .glo "TooManyPieces", .glo "InvalidAddress", .free "len", .free "isinstance", .free "int", .free "bool", .free "str", .free "list", .free "tuple", .free "range", .free "divmod", .free "abs", .free "max", .free "min", .free "all", .free "repr", .free "sum", .free "reversed", .free "ArithmeticError", .cls "Sizes", .noat "Sizes" "size_list", .mkr "Sizes", .str "DIGITS" "0123456789", .int "MAX_DIGITS" 4000, .str "LETTERS" "abcdefghijklmnopqrstuvwxyz", .int "MAX_NAME" 8, .meth "Sizes" "all_sizes", .meth "Sizes" "has_level", .meth "Sizes" "check_level", .meth "Sizes" "size", .meth "Sizes" "whole", .meth "Sizes" "level_of", .meth "Sizes" "counts", .meth "Sizes" "pieces"]
def exB (K : PySem.W.Frag) : Bool := (rdB K (He.ga K "Sizes") && (cvB K (He.ga K "Sizes") "MAX_SIZE" 1000000000 && (cvB K (He.ga K "Sizes") "MAX_SIZES" 8 && (cvB K (He.ga K "Sizes") "MAX_CELLS" 1000000000000 && (cvB K (He.ga K "Sizes") "MAX_PIECES" 64 && (conB K (He.ga K "Sizes") "MAX_PIECES" 64 && (sysB K && (errG "ValueError" K (cE K) "problem" && (He.eqO (PySem.W.findIn K (.ref (cE K)) "position") (some none) && (errG "ValueError" K (cC K) "value" && (errG "ValueError" K (cX K) "line" && (errG "ValueError" K (cNu K) "value" && (errG "ValueError" K (cL K) "value" && (errG "ValueError" K (cA K) "value" && (errG "ArithmeticError" K (cT K) "limit" && (buB K (He.ga K "Sizes") && (eqB K (He.ga K "Sizes") && (neB K (He.ga K "Sizes") && (insB K (He.ga K "Sizes") && (kxB K 0 && (kxB K 1 && (kxB K 2 && (kxB K 3 && (kxB K 4 && (kxB K 5 && (prB K (He.ga K "Sizes") "top" && (okAt K (pgA K (He.ga K "Sizes") "top") "Sizes.top" && (cmB K (He.ga K "Sizes") "doubling" && (okAt K (cmA K (He.ga K "Sizes") "doubling") "Sizes.doubling" && (cmB K (He.ga K "Sizes") "from_text" && (okAt K (cmA K (He.ga K "Sizes") "from_text") "Sizes.from_text" && true)))))))))))))))))))))))))))))))
def v_top : He.FnW := some ("top", "Sizes.top", defArgs (inClass (top 21) 10), .stmts (defBody (inClass (top 21) 10)), defScope (inClass (top 21) 10), mainGlobals, [], builtinsNs)
def v_doubling : He.FnW := some ("doubling", "Sizes.doubling", defArgs (inClass (top 21) 8), .stmts (defBody (inClass (top 21) 8)), defScope (inClass (top 21) 8), mainGlobals, [], builtinsNs)
def v_from_text : He.FnW := some ("from_text", "Sizes.from_text", defArgs (inClass (top 21) 9), .stmts (defBody (inClass (top 21) 9)), defScope (inClass (top 21) 9), mainGlobals, [], builtinsNs)
abbrev AlE : Type := He.AlD × Bool × He.FnW × He.FnW × He.FnW
def ob0 (K : PySem.W.Frag) : AlE := (He.obsD fa fn K, exB K, fnAt K (pgA K (He.ga K "Sizes") "top"), fnAt K (cmA K (He.ga K "Sizes") "doubling"), fnAt K (cmA K (He.ga K "Sizes") "from_text"))
def vl0 : AlE := (He.valD fn, true, v_top, v_doubling, v_from_text)
def ob1 (g : Addr → Option Obj) : AlE := ob0 (He.frG g (cStatics :: sysModules :: He.asD g 5))
def hk : PySem.W.Hook where
  α := AlE
  obs := fun s => ob1 s.heap.get?
  val := fun _ => vl0
  says := fun _ h => ∃ K : PySem.W.Frag, K.In h ∧ ob0 K = vl0
  of := fun _ _ e => ⟨_, He.frG_in, e⟩
  keeps := fun _ _ _ ⟨K, hK, c⟩ k => ⟨K, PySem.W.Frag.In.keeps hK k, c⟩
def ob (s : PySem.W.SharedT) : AlE := ob1 (HandSHeadRun.getT s)
theorem ob_eq (s : PySem.W.SharedT) : ob s = hk.obs s.abs := by
  have e : HandSHeadRun.getT s = s.abs.heap.get? := funext (HandSHeadRun.getT_eq s)
  show ob1 (HandSHeadRun.getT s) = ob1 s.abs.heap.get?
  rw [e]
def loose : List Str := ("RoomError" : Str) :: ("InvalidSizes" : Str) :: ("InvalidLevel" : Str) :: ("InvalidNumber" : Str) :: ("InvalidAddress" : Str) :: ("InvalidCount" : Str) :: ("InvalidText" : Str) :: ("TooManyPieces" : Str) :: ("DIGITS" : Str) :: ("LETTERS" : Str) :: ("MAX_NAME" : Str) :: ("MAX_DIGITS" : Str) :: ("is_integer" : Str) :: ("is_name" : Str) :: ("is_cells" : Str) :: ("check_cells" : Str) :: ("read_integer" : Str) :: ("size_problem" : Str) :: ("check_sizes" : Str) :: ("Sizes" : Str) :: ("is_address" : Str) :: ("check_range" : Str) :: ("next_start" : Str) :: ("lies_below" : Str) :: ("is_region" : Str) :: ("region_start" : Str) :: ("count_regions" : Str) :: ("highest_level_at" : Str) :: ("first_run" : Str) :: ("maximal_runs" : Str) :: ("_law_rng" : Str) :: ("_law_draw" : Str) :: ("_law_choice" : Str) :: ("_law_sizes" : Str) :: ("_law_pieces" : Str) :: ("_law_word" : Str) :: ("_law_do" : Str) :: ("_law_told" : Str) :: ("_law_odd_text" : Str) :: ("_law_calls" : Str) :: ("_law_pieces_right" : Str) :: ("_law_kinds_right" : Str) :: ("_law_right" : Str) :: []
def kk (s : PySem.W.SharedT) : PySem.W.Frag := He.frG (HandSHeadRun.getT s) (cStatics :: sysModules :: He.asD (HandSHeadRun.getT s) 5)
noncomputable def ends (w : World) (os : OsState) : Option PySem.W.SharedT := HandSHeadRun.endF (HandSHeadRun.stepQ (HandSHeadRun.denQ HandSHeadRun.tabQ) R.prog w) 16000 R.prog w os
theorem in_parts {σ A B E F : Type} {o : Option σ} {a : σ → A} {b : σ → B} {c d : σ → Bool} {e : σ → E} {f : σ → Bool} {g : σ → F} {x1 : A} {x2 : B} {x5 : E} {x7 : F} (h1 : o.map a = some x1) (h2 : o.map b = some x2) (h3 : o.map c = some true) (h4 : o.map d = some true)
    (h5 : o.map e = some x5) (h6 : o.map f = some true) (h7 : o.map g = some x7) : o.map (fun s => (a s, b s, (((c s && d s), e s), f s, g s))) = some (x1, x2, ((true, x5), true, x7)) := by
  cases o with
  | none => cases h1
  | some s =>
    have g1 : a s = x1 := Option.some.inj h1
    have g2 : b s = x2 := Option.some.inj h2
    have g3 : c s = true := Option.some.inj h3
    have g4 : d s = true := Option.some.inj h4
    have g5 : e s = x5 := Option.some.inj h5
    have g6 : f s = true := Option.some.inj h6
    have g7 : g s = x7 := Option.some.inj h7
    show some (a s, b s, (((c s && d s), e s), f s, g s)) = _
    rw [g1, g2, g3, g4, g5, g6, g7]
    rfl
end K18

set_option Elab.async false
set_option linter.all false
set_option maxRecDepth 100000
set_option maxHeartbeats 0
namespace K18
open PySem PySem.Spec PyProof.Rows L2 Gu Ex PySem.W PySem.Calls
theorem r_looks (w : World) (os : OsState) : (ends w os).map (fun s => HandSHeadRun.looksF R.prog (boot_heap w.params) s.abs) = some true := by kernel_rfl
theorem r_seen (w : World) (os : OsState) : (ends w os).map (fun s => HandSHeadRun.seenQ (PySem.W.view R.prog [47]) loose (PySem.importedModules R.prog.main.body) (fun s => PySem.W.xlAt (PySem.W.view R.prog [47]) [] s && PySem.W.recOk R.toRowW.records s) s.abs) = some (PySem.W.openGood (PySem.W.view R.prog [47]) loose) := by kernel_rfl
end K18

set_option Elab.async false
set_option linter.all false
set_option maxRecDepth 100000
set_option maxHeartbeats 0
namespace K18
open PySem PySem.Spec PyProof.Rows L2 Gu Ex
theorem r_fa (w : World) (os : OsState) : (ends w os).map (fun s => fa.all fun f => f.ok (kk s)) = some true := by kernel_rfl
end K18

set_option Elab.async false
set_option linter.all false
set_option maxRecDepth 100000
set_option maxHeartbeats 0
namespace K18
open PySem PySem.Spec PyProof.Rows L2 Gu Ex
theorem r_fn (w : World) (os : OsState) : (ends w os).map (fun s => fn.all fun d => d.ok (kk s)) = some true := by kernel_rfl
end K18

set_option Elab.async false
set_option linter.all false
set_option maxRecDepth 100000
set_option maxHeartbeats 0
namespace K18
open PySem PySem.Spec PyProof.Rows L2 Gu Ex
theorem r_fw (w : World) (os : OsState) : (ends w os).map (fun s => fn.map fun d => He.fnW (kk s) d.at_) = some (fn.map He.DefD.val) := by kernel_rfl
end K18

set_option Elab.async false
set_option linter.all false
set_option maxRecDepth 100000
set_option maxHeartbeats 0
namespace K18
open PySem PySem.Spec PyProof.Rows L2 Gu Ex
theorem r_ex (w : World) (os : OsState) : (ends w os).map (fun s => exB (kk s)) = some true := by kernel_rfl
theorem r_pr (w : World) (os : OsState) : (ends w os).map (fun s => (fnAt (kk s) (pgA (kk s) (He.ga (kk s) "Sizes") "top"), fnAt (kk s) (cmA (kk s) (He.ga (kk s) "Sizes") "doubling"), fnAt (kk s) (cmA (kk s) (He.ga (kk s) "Sizes") "from_text"))) = some (v_top, v_doubling, v_from_text) := by kernel_rfl
end K18

set_option Elab.async false
set_option linter.all false
set_option maxRecDepth 100000
set_option maxHeartbeats 0
namespace K18
open PySem PySem.Spec PyProof.Rows L2 Gu Ex
theorem run (w : World) : HandSHeadRun.RunEq R (PySem.W.view R.prog [47]) hk ob 16000 loose w :=
  fun os => in_parts (r_looks w os) (r_seen w os) (r_fa w os) (r_fn w os) (r_fw w os) (r_ex w os) (r_pr w os)
section
variable {P : Program} {w : World} {K : PySem.W.Frag} {h : Heap} {mg : Str → Option Value} {base : Heap}
theorem tx (X : K.In h) (G : h.Ns mainGlobals mg) (c : He.SaysD fa fn K) (x : exB K = true) : Tx K mg := by
  obtain ⟨x1, x⟩ := He.ba x
  obtain ⟨x2, x⟩ := He.ba x
  obtain ⟨x3, x⟩ := He.ba x
  obtain ⟨x4, x⟩ := He.ba x
  obtain ⟨x5, x⟩ := He.ba x
  obtain ⟨x9, x⟩ := He.ba x
  obtain ⟨x10, x⟩ := He.ba x
  obtain ⟨x11, x⟩ := He.ba x
  obtain ⟨x12, x⟩ := He.ba x
  obtain ⟨x13, x⟩ := He.ba x
  obtain ⟨x14, x⟩ := He.ba x
  obtain ⟨x15, x⟩ := He.ba x
  obtain ⟨x16, x⟩ := He.ba x
  obtain ⟨x17, x⟩ := He.ba x
  obtain ⟨x18, x⟩ := He.ba x
  obtain ⟨x19, x⟩ := He.ba x
  obtain ⟨x20, x⟩ := He.ba x
  obtain ⟨x21, x⟩ := He.ba x
  obtain ⟨x22, x⟩ := He.ba x
  obtain ⟨xk0, x⟩ := He.ba x
  obtain ⟨xk1, x⟩ := He.ba x
  obtain ⟨xk2, x⟩ := He.ba x
  obtain ⟨xk3, x⟩ := He.ba x
  obtain ⟨xk4, x⟩ := He.ba x
  obtain ⟨xk5, x⟩ := He.ba x
  obtain ⟨xp_top, x⟩ := He.ba x
  obtain ⟨xo_top, x⟩ := He.ba x
  obtain ⟨xp_doubling, x⟩ := He.ba x
  obtain ⟨xo_doubling, x⟩ := He.ba x
  obtain ⟨xp_from_text, x⟩ := He.ba x
  obtain ⟨xo_from_text, x⟩ := He.ba x
  have hsys : SysOk K := by
    unfold sysB at x10
    split at x10
    · rename_i o e
      exact ⟨o, e, of_decide_eq_true x10⟩
    · cases x10
  have eo := errG_ok base_VE x11
  have eC := errG_ok base_VE x13
  have eX := errG_ok base_VE x14
  exact ⟨He.free_ok X G (c.fact 39 (f := .free "len") rfl),
    He.free_ok X G (c.fact 40 (f := .free "isinstance") rfl),
    He.free_ok X G (c.fact 41 (f := .free "int") rfl),
    He.free_ok X G (c.fact 42 (f := .free "bool") rfl),
    He.free_ok X G (c.fact 43 (f := .free "str") rfl),
    He.free_ok X G (c.fact 44 (f := .free "list") rfl),
    He.free_ok X G (c.fact 45 (f := .free "tuple") rfl),
    He.free_ok X G (c.fact 46 (f := .free "range") rfl),
    He.free_ok X G (c.fact 47 (f := .free "divmod") rfl),
    He.free_ok X G (c.fact 48 (f := .free "abs") rfl),
    He.free_ok X G (c.fact 49 (f := .free "max") rfl),
    He.free_ok X G (c.fact 50 (f := .free "min") rfl),
    He.free_ok X G (c.fact 51 (f := .free "all") rfl),
    He.free_ok X G (c.fact 52 (f := .free "repr") rfl),
    He.glo_ok X G (c.fact 30 (f := .glo "Sizes") rfl),
    He.cls_ok (c.fact 56 (f := .cls "Sizes") rfl),
    He.noat_ok (c.fact 57 (f := .noat "Sizes" "size_list") rfl),
    rdB_ok x1,
    cvB_ok x2,
    cvB_ok x3,
    cvB_ok x4,
    cvB_ok x5,
    hsys,
    He.glo_ok X G (c.fact 32 (f := .glo "InvalidSizes") rfl),
    eo.oxC,
    eo.ox,
    eo.no,
    He.eqO_ok x12,
    eo.ii,
    eo.ti,
    eo.em,
    He.glo_ok X G (c.fact 31 (f := .glo "RoomError") rfl),
    He.glo_ok X G (c.fact 33 (f := .glo "InvalidCount") rfl),
    He.glo_ok X G (c.fact 34 (f := .glo "InvalidText") rfl),
    eC,
    eX,
    eX.oxC,
    He.str_ok X G (c.fact 59 (f := .str "DIGITS" "0123456789") rfl),
    He.int_ok X G (c.fact 60 (f := .int "MAX_DIGITS" 4000) rfl),
    He.free_ok X G (c.fact 53 (f := .free "sum") rfl),
    He.free_ok X G (c.fact 54 (f := .free "reversed") rfl),
    He.free_ok X G (c.fact 55 (f := .free "ArithmeticError") rfl),
    He.glo_ok X G (c.fact 35 (f := .glo "InvalidNumber") rfl),
    He.glo_ok X G (c.fact 36 (f := .glo "InvalidLevel") rfl),
    He.glo_ok X G (c.fact 38 (f := .glo "InvalidAddress") rfl),
    He.glo_ok X G (c.fact 37 (f := .glo "TooManyPieces") rfl),
    errG_ok base_VE x15,
    errG_ok base_VE x16,
    errG_ok base_VE x17,
    errG_ok base_AE x18,
    conB_ok x9,
    He.str_ok X G (c.fact 61 (f := .str "LETTERS" "abcdefghijklmnopqrstuvwxyz") rfl),
    He.int_ok X G (c.fact 62 (f := .int "MAX_NAME" 8) rfl),
    buB_ok x19,
    neB_ok x21,
    insB_ok (He.cls_ok (c.fact 56 (f := .cls "Sizes") rfl)) x22⟩
theorem df {x : Str} {ps : List Str} {sp : Sp} {k : Nat} {st : Stmt} {fd : FuncData} (X : K.In h) (G : h.Ns mainGlobals mg) (g : (He.Fa.glo x).ok K = true) (F : FnP K x x st (He.ga K x) fd)
    (hb : ∀ (kV doc pm : Value) (an : Option Addr) (cdv ct : Value) (us : List Value), us.length = ps.length → bindArgs (PySem.W.fnOf x x (defArgs st) (defBody st) (defScope st) .none kV doc pm an cdv ct) ⟨us, []⟩ = pure (ps.zip us))
    (ok : FnOk P w K mg base CX0 k (He.ga K x) fd ps sp) : Df P w K mg base k x ps sp := ⟨⟨fd, ok, F.bindsN hb⟩, He.glo_ok X G g, F.kp⟩
theorem dfG {x : Str} {ps : List Str} {sp : Sp} {k : Nat} {st : Stmt} {fd : FuncData} (X : K.In h) (G : h.Ns mainGlobals mg) (g : (He.Fa.glo x).ok K = true) (F : FnP K x x st (He.ga K x) fd)
    (hb : ∀ (kV doc pm : Value) (an : Option Addr) (cdv ct : Value) (us : List Value), us.length = ps.length → bindArgs (PySem.W.fnOf x x (defArgs st) (defBody st) (defScope st) .none kV doc pm an cdv ct) ⟨us, []⟩ = pure (ps.zip us))
    (ok : FnG P w K mg base CX0 k (He.ga K x) fd ps sp) : DfG P w K mg base k x ps sp := ⟨⟨fd, ok, F.bindsN hb⟩, He.glo_ok X G g, F.kp⟩
theorem dfX {x : Str} {ps : List Str} {sp : Sp} {k : Nat} {st : Stmt} {fd : FuncData} (X : K.In h) (G : h.Ns mainGlobals mg) (g : (He.Fa.glo x).ok K = true) (F : FnP K x x st (He.ga K x) fd)
    (hb : ∀ (kV doc pm : Value) (an : Option Addr) (cdv ct : Value) (us : List Value), us.length = ps.length → bindArgs (PySem.W.fnOf x x (defArgs st) (defBody st) (defScope st) .none kV doc pm an cdv ct) ⟨us, []⟩ = pure (ps.zip us))
    (ok : FnOk P w K mg base (L2.CX P w) k (He.ga K x) fd ps sp) : DfX P w K mg base k x ps sp := ⟨⟨fd, ok, F.bindsN hb⟩, He.glo_ok X G g, F.kp⟩
theorem dfN {x : Str} {ps : List Str} {sp : Sp} {k : Nat} {st : Stmt} {fd : FuncData} (X : K.In h) (G : h.Ns mainGlobals mg) (g : (He.Fa.glo x).ok K = true) (F : FnP K x x st (He.ga K x) fd)
    (hb : ∀ (kV doc pm : Value) (an : Option Addr) (cdv ct : Value) (us : List Value), us.length = ps.length → bindArgs (PySem.W.fnOf x x (defArgs st) (defBody st) (defScope st) .none kV doc pm an cdv ct) ⟨us, []⟩ = pure (ps.zip us))
    (ok : FnOk P w K mg base (L2N.CX P w) k (He.ga K x) fd ps sp) : DfN P w K mg base k x ps sp := ⟨⟨fd, ok, F.bindsN hb⟩, He.glo_ok X G g, F.kp⟩
theorem dfK {x : Str} {ps ks : List Str} {j : List Nat} {sp : Sp} {k : Nat} {st : Stmt} {fd : FuncData} (X : K.In h) (G : h.Ns mainGlobals mg) (g : (He.Fa.glo x).ok K = true) (F : FnP K x x st (He.ga K x) fd)
    (hb : ∀ (kV doc pm : Value) (an : Option Addr) (cdv ct : Value) (ws : List Value), ws.length = ks.length → bindArgs (PySem.W.fnOf x x (defArgs st) (defBody st) (defScope st) .none kV doc pm an cdv ct) ⟨[], ks.zip ws⟩ = pure (ps.zip (j.filterMap fun i => ws[i]?)))
    (ok : FnOk P w K mg base CX0 k (He.ga K x) fd ps sp) : DfK P w K mg base k x ps ks j sp := by
  refine ⟨⟨fd, ok, fun s ws hl => ?_⟩, He.glo_ok X G g, F.kp⟩
  obtain ⟨oc, od, dV, kV, doc, pm, an, cdv, ct, osl, rfl, lk, hcd, hD, hK⟩ := F.ex
  rcases hD with ⟨_, rfl⟩ | ⟨e, _⟩
  · exact .of_eq (hb kV doc pm an cdv ct ws hl)
  · exact absurd rfl e
theorem facts {f : Addr} (X : K.In h) (G : h.Ns mainGlobals mg) (hfa : mg ("law" : Str) = some (.ref f)) (c0 : ob0 K = vl0) :
    ∃ fd : FuncData, (∀ (s : Shared) (v : Value), BindsTo s fd ⟨[v], []⟩ [("_law_script", v)]) ∧ ∀ base : Heap, K.In base → base.Ns mainGlobals mg → FnG P w K mg base CX0 15 f fd ["_law_script"] (spLaw K) := by
  have c : He.SaysD fa fn K := congrArg (fun z : AlE => z.1) c0
  have x : exB K = true := congrArg (fun z : AlE => z.2.1) c0
  have vt_top : fnAt K (pgA K (He.ga K "Sizes") "top") = v_top := congrArg (fun z : AlE => z.2.2.1) c0
  have vt_doubling : fnAt K (cmA K (He.ga K "Sizes") "doubling") = v_doubling := congrArg (fun z : AlE => z.2.2.2.1) c0
  have vt_from_text : fnAt K (cmA K (He.ga K "Sizes") "from_text") = v_from_text := congrArg (fun z : AlE => z.2.2.2.2) c0
  have T := tx X G c x
  obtain ⟨x1, x⟩ := He.ba x
  obtain ⟨x2, x⟩ := He.ba x
  obtain ⟨x3, x⟩ := He.ba x
  obtain ⟨x4, x⟩ := He.ba x
  obtain ⟨x5, x⟩ := He.ba x
  obtain ⟨x9, x⟩ := He.ba x
  obtain ⟨x10, x⟩ := He.ba x
  obtain ⟨x11, x⟩ := He.ba x
  obtain ⟨x12, x⟩ := He.ba x
  obtain ⟨x13, x⟩ := He.ba x
  obtain ⟨x14, x⟩ := He.ba x
  obtain ⟨x15, x⟩ := He.ba x
  obtain ⟨x16, x⟩ := He.ba x
  obtain ⟨x17, x⟩ := He.ba x
  obtain ⟨x18, x⟩ := He.ba x
  obtain ⟨x19, x⟩ := He.ba x
  obtain ⟨x20, x⟩ := He.ba x
  obtain ⟨x21, x⟩ := He.ba x
  obtain ⟨x22, x⟩ := He.ba x
  obtain ⟨xk0, x⟩ := He.ba x
  obtain ⟨xk1, x⟩ := He.ba x
  obtain ⟨xk2, x⟩ := He.ba x
  obtain ⟨xk3, x⟩ := He.ba x
  obtain ⟨xk4, x⟩ := He.ba x
  obtain ⟨xk5, x⟩ := He.ba x
  obtain ⟨xp_top, x⟩ := He.ba x
  obtain ⟨xo_top, x⟩ := He.ba x
  obtain ⟨xp_doubling, x⟩ := He.ba x
  obtain ⟨xo_doubling, x⟩ := He.ba x
  obtain ⟨xp_from_text, x⟩ := He.ba x
  obtain ⟨xo_from_text, x⟩ := He.ba x
  obtain ⟨fdP_top, FP_top⟩ := fun_at vt_top xo_top
  obtain ⟨fdP_doubling, FP_doubling⟩ := fun_at vt_doubling xo_doubling
  obtain ⟨fdP_from_text, FP_from_text⟩ := fun_at vt_from_text xo_from_text
  obtain ⟨fd0, F0⟩ : ∃ fd, FnP K "is_integer" "is_integer" (top 14) (He.ga K "is_integer") fd := c.def_ 0 (d := dOf ("is_integer", none) "is_integer" "is_integer" (top 14)) rfl
  obtain ⟨fd1, F1⟩ : ∃ fd, FnP K "is_name" "is_name" (top 15) (He.ga K "is_name") fd := c.def_ 1 (d := dOf ("is_name", none) "is_name" "is_name" (top 15)) rfl
  obtain ⟨fd2, F2⟩ : ∃ fd, FnP K "is_cells" "is_cells" (top 16) (He.ga K "is_cells") fd := c.def_ 2 (d := dOf ("is_cells", none) "is_cells" "is_cells" (top 16)) rfl
  obtain ⟨fd3, F3⟩ : ∃ fd, FnP K "read_integer" "read_integer" (top 18) (He.ga K "read_integer") fd := c.def_ 3 (d := dOf ("read_integer", none) "read_integer" "read_integer" (top 18)) rfl
  obtain ⟨fd4, F4⟩ : ∃ fd, FnP K "size_problem" "size_problem" (top 19) (He.ga K "size_problem") fd := c.def_ 4 (d := dOf ("size_problem", none) "size_problem" "size_problem" (top 19)) rfl
  obtain ⟨fd5, F5⟩ : ∃ fd, FnP K "check_sizes" "check_sizes" (top 20) (He.ga K "check_sizes") fd := c.def_ 5 (d := dOf ("check_sizes", none) "check_sizes" "check_sizes" (top 20)) rfl
  obtain ⟨fd6, F6⟩ : ∃ fd, FnP K "check_cells" "check_cells" (top 17) (He.ga K "check_cells") fd := c.def_ 6 (d := dOf ("check_cells", none) "check_cells" "check_cells" (top 17)) rfl
  obtain ⟨fd7, F7⟩ : ∃ fd, FnP K "__init__" "Sizes.__init__" (inClass (top 21) 4) (He.ma K (He.ga K "Sizes") "__init__") fd := c.def_ 7 (d := dOf ("Sizes", some "__init__") "__init__" "Sizes.__init__" (inClass (top 21) 4)) rfl
  obtain ⟨fd8, F8⟩ : ∃ fd, FnP K "all_sizes" "Sizes.all_sizes" (inClass (top 21) 11) (He.ma K (He.ga K "Sizes") "all_sizes") fd := c.def_ 8 (d := dOf ("Sizes", some "all_sizes") "all_sizes" "Sizes.all_sizes" (inClass (top 21) 11)) rfl
  obtain ⟨fd9, F9⟩ : ∃ fd, FnP K "has_level" "Sizes.has_level" (inClass (top 21) 12) (He.ma K (He.ga K "Sizes") "has_level") fd := c.def_ 9 (d := dOf ("Sizes", some "has_level") "has_level" "Sizes.has_level" (inClass (top 21) 12)) rfl
  obtain ⟨fd10, F10⟩ : ∃ fd, FnP K "check_level" "Sizes.check_level" (inClass (top 21) 13) (He.ma K (He.ga K "Sizes") "check_level") fd := c.def_ 10 (d := dOf ("Sizes", some "check_level") "check_level" "Sizes.check_level" (inClass (top 21) 13)) rfl
  obtain ⟨fd11, F11⟩ : ∃ fd, FnP K "size" "Sizes.size" (inClass (top 21) 14) (He.ma K (He.ga K "Sizes") "size") fd := c.def_ 11 (d := dOf ("Sizes", some "size") "size" "Sizes.size" (inClass (top 21) 14)) rfl
  obtain ⟨fd12, F12⟩ : ∃ fd, FnP K "whole" "Sizes.whole" (inClass (top 21) 16) (He.ma K (He.ga K "Sizes") "whole") fd := c.def_ 12 (d := dOf ("Sizes", some "whole") "whole" "Sizes.whole" (inClass (top 21) 16)) rfl
  obtain ⟨fd13, F13⟩ : ∃ fd, FnP K "level_of" "Sizes.level_of" (inClass (top 21) 15) (He.ma K (He.ga K "Sizes") "level_of") fd := c.def_ 13 (d := dOf ("Sizes", some "level_of") "level_of" "Sizes.level_of" (inClass (top 21) 15)) rfl
  obtain ⟨fd14, F14⟩ : ∃ fd, FnP K "counts" "Sizes.counts" (inClass (top 21) 17) (He.ma K (He.ga K "Sizes") "counts") fd := c.def_ 14 (d := dOf ("Sizes", some "counts") "counts" "Sizes.counts" (inClass (top 21) 17)) rfl
  obtain ⟨fd15, F15⟩ : ∃ fd, FnP K "pieces" "Sizes.pieces" (inClass (top 21) 18) (He.ma K (He.ga K "Sizes") "pieces") fd := c.def_ 15 (d := dOf ("Sizes", some "pieces") "pieces" "Sizes.pieces" (inClass (top 21) 18)) rfl
  obtain ⟨fd16, F16⟩ : ∃ fd, FnP K "__eq__" "Sizes.__eq__" (inClass (top 21) 5) (He.ma K (He.ga K "Sizes") "__eq__") fd := c.def_ 16 (d := dOf ("Sizes", some "__eq__") "__eq__" "Sizes.__eq__" (inClass (top 21) 5)) rfl
  obtain ⟨fd17, F17⟩ : ∃ fd, FnP K "__init__" "InvalidSizes.__init__" (inClass (top 2) 0) (He.ma K (He.ga K "InvalidSizes") "__init__") fd := c.def_ 17 (d := dOf ("InvalidSizes", some "__init__") "__init__" "InvalidSizes.__init__" (inClass (top 2) 0)) rfl
  obtain ⟨fd18, F18⟩ : ∃ fd, FnP K "__init__" "InvalidCount.__init__" (inClass (top 6) 0) (He.ma K (He.ga K "InvalidCount") "__init__") fd := c.def_ 18 (d := dOf ("InvalidCount", some "__init__") "__init__" "InvalidCount.__init__" (inClass (top 6) 0)) rfl
  obtain ⟨fd19, F19⟩ : ∃ fd, FnP K "__init__" "InvalidText.__init__" (inClass (top 7) 0) (He.ma K (He.ga K "InvalidText") "__init__") fd := c.def_ 19 (d := dOf ("InvalidText", some "__init__") "__init__" "InvalidText.__init__" (inClass (top 7) 0)) rfl
  obtain ⟨fd20, F20⟩ : ∃ fd, FnP K "__init__" "InvalidNumber.__init__" (inClass (top 4) 0) (He.ma K (He.ga K "InvalidNumber") "__init__") fd := c.def_ 20 (d := dOf ("InvalidNumber", some "__init__") "__init__" "InvalidNumber.__init__" (inClass (top 4) 0)) rfl
  obtain ⟨fd21, F21⟩ : ∃ fd, FnP K "__init__" "InvalidLevel.__init__" (inClass (top 3) 0) (He.ma K (He.ga K "InvalidLevel") "__init__") fd := c.def_ 21 (d := dOf ("InvalidLevel", some "__init__") "__init__" "InvalidLevel.__init__" (inClass (top 3) 0)) rfl
  obtain ⟨fd22, F22⟩ : ∃ fd, FnP K "__init__" "TooManyPieces.__init__" (inClass (top 8) 0) (He.ma K (He.ga K "TooManyPieces") "__init__") fd := c.def_ 22 (d := dOf ("TooManyPieces", some "__init__") "__init__" "TooManyPieces.__init__" (inClass (top 8) 0)) rfl
  obtain ⟨fd23, F23⟩ : ∃ fd, FnP K "__init__" "InvalidAddress.__init__" (inClass (top 5) 0) (He.ma K (He.ga K "InvalidAddress") "__init__") fd := c.def_ 23 (d := dOf ("InvalidAddress", some "__init__") "__init__" "InvalidAddress.__init__" (inClass (top 5) 0)) rfl
  obtain ⟨fd24, F24⟩ : ∃ fd, FnP K "is_address" "is_address" (top 23) (He.ga K "is_address") fd := c.def_ 24 (d := dOf ("is_address", none) "is_address" "is_address" (top 23)) rfl
  obtain ⟨fd25, F25⟩ : ∃ fd, FnP K "check_range" "check_range" (top 24) (He.ga K "check_range") fd := c.def_ 25 (d := dOf ("check_range", none) "check_range" "check_range" (top 24)) rfl
  obtain ⟨fd26, F26⟩ : ∃ fd, FnP K "region_start" "region_start" (top 28) (He.ga K "region_start") fd := c.def_ 26 (d := dOf ("region_start", none) "region_start" "region_start" (top 28)) rfl
  obtain ⟨fd27, F27⟩ : ∃ fd, FnP K "next_start" "next_start" (top 25) (He.ga K "next_start") fd := c.def_ 27 (d := dOf ("next_start", none) "next_start" "next_start" (top 25)) rfl
  obtain ⟨fd28, F28⟩ : ∃ fd, FnP K "lies_below" "lies_below" (top 26) (He.ga K "lies_below") fd := c.def_ 28 (d := dOf ("lies_below", none) "lies_below" "lies_below" (top 26)) rfl
  obtain ⟨fd29, F29⟩ : ∃ fd, FnP K "first_run" "first_run" (top 31) (He.ga K "first_run") fd := c.def_ 29 (d := dOf ("first_run", none) "first_run" "first_run" (top 31)) rfl
  obtain ⟨fd30, F30⟩ : ∃ fd, FnP K "count_regions" "count_regions" (top 29) (He.ga K "count_regions") fd := c.def_ 30 (d := dOf ("count_regions", none) "count_regions" "count_regions" (top 29)) rfl
  obtain ⟨fd31, F31⟩ : ∃ fd, FnP K "is_region" "is_region" (top 27) (He.ga K "is_region") fd := c.def_ 31 (d := dOf ("is_region", none) "is_region" "is_region" (top 27)) rfl
  obtain ⟨fd32, F32⟩ : ∃ fd, FnP K "maximal_runs" "maximal_runs" (top 32) (He.ga K "maximal_runs") fd := c.def_ 32 (d := dOf ("maximal_runs", none) "maximal_runs" "maximal_runs" (top 32)) rfl
  obtain ⟨fd33, F33⟩ : ∃ fd, FnP K "_law_rng" "_law_rng" (top 34) (He.ga K "_law_rng") fd := c.def_ 33 (d := dOf ("_law_rng", none) "_law_rng" "_law_rng" (top 34)) rfl
  obtain ⟨fd34, F34⟩ : ∃ fd, FnP K "_law_draw" "_law_draw" (top 35) (He.ga K "_law_draw") fd := c.def_ 34 (d := dOf ("_law_draw", none) "_law_draw" "_law_draw" (top 35)) rfl
  obtain ⟨fd35, F35⟩ : ∃ fd, FnP K "_law_choice" "_law_choice" (top 36) (He.ga K "_law_choice") fd := c.def_ 35 (d := dOf ("_law_choice", none) "_law_choice" "_law_choice" (top 36)) rfl
  obtain ⟨fd36, F36⟩ : ∃ fd, FnP K "_law_sizes" "_law_sizes" (top 37) (He.ga K "_law_sizes") fd := c.def_ 36 (d := dOf ("_law_sizes", none) "_law_sizes" "_law_sizes" (top 37)) rfl
  obtain ⟨fd37, F37⟩ : ∃ fd, FnP K "_law_pieces" "_law_pieces" (top 38) (He.ga K "_law_pieces") fd := c.def_ 37 (d := dOf ("_law_pieces", none) "_law_pieces" "_law_pieces" (top 38)) rfl
  obtain ⟨fd38, F38⟩ : ∃ fd, FnP K "_law_word" "_law_word" (top 39) (He.ga K "_law_word") fd := c.def_ 38 (d := dOf ("_law_word", none) "_law_word" "_law_word" (top 39)) rfl
  obtain ⟨fd39, F39⟩ : ∃ fd, FnP K "_law_do" "_law_do" (top 40) (He.ga K "_law_do") fd := c.def_ 39 (d := dOf ("_law_do", none) "_law_do" "_law_do" (top 40)) rfl
  obtain ⟨fd40, F40⟩ : ∃ fd, FnP K "_law_told" "_law_told" (top 41) (He.ga K "_law_told") fd := c.def_ 40 (d := dOf ("_law_told", none) "_law_told" "_law_told" (top 41)) rfl
  obtain ⟨fd41, F41⟩ : ∃ fd, FnP K "_law_odd_text" "_law_odd_text" (top 42) (He.ga K "_law_odd_text") fd := c.def_ 41 (d := dOf ("_law_odd_text", none) "_law_odd_text" "_law_odd_text" (top 42)) rfl
  obtain ⟨fd42, F42⟩ : ∃ fd, FnP K "_law_calls" "_law_calls" (top 43) (He.ga K "_law_calls") fd := c.def_ 42 (d := dOf ("_law_calls", none) "_law_calls" "_law_calls" (top 43)) rfl
  obtain ⟨fd43, F43⟩ : ∃ fd, FnP K "_law_pieces_right" "_law_pieces_right" (top 44) (He.ga K "_law_pieces_right") fd := c.def_ 43 (d := dOf ("_law_pieces_right", none) "_law_pieces_right" "_law_pieces_right" (top 44)) rfl
  obtain ⟨fd44, F44⟩ : ∃ fd, FnP K "_law_kinds_right" "_law_kinds_right" (top 45) (He.ga K "_law_kinds_right") fd := c.def_ 44 (d := dOf ("_law_kinds_right", none) "_law_kinds_right" "_law_kinds_right" (top 45)) rfl
  obtain ⟨fd45, F45⟩ : ∃ fd, FnP K "_law_right" "_law_right" (top 46) (He.ga K "_law_right") fd := c.def_ 45 (d := dOf ("_law_right", none) "_law_right" "_law_right" (top 46)) rfl
  obtain ⟨fd46, F46⟩ : ∃ fd, FnP K "law" "law" (top 47) (He.ga K "law") fd := c.def_ 46 (d := dOf ("law", none) "law" "law" (top 47)) rfl
  have e := hfa.symm.trans (He.glo_ok X G (c.fact 29 (f := .glo "law") rfl))
  cases e
  have b := FunD.bindsA (ps := ["_law_script"]) F46 (fun _ _ _ _ _ _ us hl => match us, hl with | [_], _ => rfl)
  refine ⟨_, fun s v => b s [v] rfl, fun base _ _ => ?_⟩
  have D_is_integer := df (P := P) (w := w) (base := base) X G (c.fact 0 (f := .glo "is_integer") rfl) F0 (ps := ["value"]) (fun _ _ _ _ _ _ us hl => match us, hl with | [_], _ => rfl) (ok_is_integer T F0)
  have D_is_name := df (P := P) (w := w) (base := base) X G (c.fact 1 (f := .glo "is_name") rfl) F1 (ps := ["value"]) (fun _ _ _ _ _ _ us hl => match us, hl with | [_], _ => rfl) (ok_is_name T F1)
  have D_is_cells := df (P := P) (w := w) (base := base) X G (c.fact 2 (f := .glo "is_cells") rfl) F2 (ps := ["value"]) (fun _ _ _ _ _ _ us hl => match us, hl with | [_], _ => rfl) (ok_is_cells T D_is_integer F2)
  have D_read_integer := df (P := P) (w := w) (base := base) X G (c.fact 3 (f := .glo "read_integer") rfl) F3 (ps := ["word"]) (fun _ _ _ _ _ _ us hl => match us, hl with | [_], _ => rfl) (ok_read T F3)
  have Mi : K18.Ei P w K mg base := ⟨⟨fd17, ok_err T F17, F17.bindsN (fun _ _ _ _ _ _ us hl => match us, hl with | [_, _, _], _ => rfl)⟩⟩
  have MC : Ex.Ei P w K mg base "InvalidCount" "value" := ⟨⟨fd18, ok_errC T F18, F18.bindsN (fun _ _ _ _ _ _ us hl => match us, hl with | [_, _], _ => rfl)⟩⟩
  have MX : Ex.Ei P w K mg base "InvalidText" "line" := ⟨⟨fd19, ok_errX T F19, F19.bindsN (fun _ _ _ _ _ _ us hl => match us, hl with | [_, _], _ => rfl)⟩⟩
  have MH : EiH P w K mg base := ⟨⟨fd19, ok_errXH T F19, F19.bindsN (fun _ _ _ _ _ _ us hl => match us, hl with | [_, _], _ => rfl)⟩⟩
  have MN : Ex.Ei P w K mg base "InvalidNumber" "value" := ⟨⟨fd20, ok_errN T F20, F20.bindsN (fun _ _ _ _ _ _ us hl => match us, hl with | [_, _], _ => rfl)⟩⟩
  have ML : Ex.Ei P w K mg base "InvalidLevel" "value" := ⟨⟨fd21, ok_errL T F21, F21.bindsN (fun _ _ _ _ _ _ us hl => match us, hl with | [_, _], _ => rfl)⟩⟩
  have MT : Ex.Ei P w K mg base "TooManyPieces" "limit" := ⟨⟨fd22, ok_errT T F22, F22.bindsN (fun _ _ _ _ _ _ us hl => match us, hl with | [_, _], _ => rfl)⟩⟩
  have MA : Ex.Ei P w K mg base "InvalidAddress" "value" := ⟨⟨fd23, ok_errA T F23, F23.bindsN (fun _ _ _ _ _ _ us hl => match us, hl with | [_, _], _ => rfl)⟩⟩
  have D_check_cells := dfX (P := P) (w := w) (base := base) X G (c.fact 6 (f := .glo "check_cells") rfl) F6 (ps := ["value"]) (fun _ _ _ _ _ _ us hl => match us, hl with | [_], _ => rfl) (ok_check_cells T D_is_cells MN F6)
  have D_size_problem := df (P := P) (w := w) (base := base) X G (c.fact 4 (f := .glo "size_problem") rfl) F4 (ps := ["values", "position"]) (fun _ _ _ _ _ _ us hl => match us, hl with | [_, _], _ => rfl) (ok_size_problem T D_is_integer F4)
  have D_check_sizes := dfN (P := P) (w := w) (base := base) X G (c.fact 5 (f := .glo "check_sizes") rfl) F5 (ps := ["values"]) (fun _ _ _ _ _ _ us hl => match us, hl with | [_], _ => rfl) (ok_check_sizes T D_size_problem Mi F5)
  have K_Sizes : KfX P w K mg base (L2N.CX P w) 5 "Sizes" ["self", "values"] (spMade K) := ⟨⟨fd7, ok_init T D_check_sizes F7, F7.bindsN (fun _ _ _ _ _ _ us hl => match us, hl with | [_, _], _ => rfl)⟩, He.glo_ok X G (c.fact 30 (f := .glo "Sizes") rfl), He.mkr_ok (c.fact 58 (f := .mkr "Sizes") rfl)⟩
  have M_all_sizes : Mf P w K mg base _ "Sizes" "all_sizes" ["self"] _ := ⟨⟨fd8, ok_all T F8, F8.bindsN (fun _ _ _ _ _ _ us hl => match us, hl with | [_], _ => rfl)⟩, He.cls_ok (c.fact 56 (f := .cls "Sizes") rfl), He.meth_ok (c.fact 63 (f := .meth "Sizes" "all_sizes") rfl)⟩
  have P_top : Pf P w K mg base 1 "Sizes" "top" (spTop K) := ⟨He.cls_ok (c.fact 56 (f := .cls "Sizes") rfl), _, _, fdP_top, prB_ok xp_top, ok_top T FP_top, FunD.bindsN FP_top (fun _ _ _ _ _ _ us hl => match us, hl with | [_], _ => rfl)⟩
  have M_has_level : Mf P w K mg base _ "Sizes" "has_level" ["self", "level"] _ := ⟨⟨fd9, ok_has T D_is_integer P_top F9, F9.bindsN (fun _ _ _ _ _ _ us hl => match us, hl with | [_, _], _ => rfl)⟩, He.cls_ok (c.fact 56 (f := .cls "Sizes") rfl), He.meth_ok (c.fact 64 (f := .meth "Sizes" "has_level") rfl)⟩
  have M_check_level : MfX P w K mg base _ "Sizes" "check_level" ["self", "level"] _ := ⟨⟨fd10, ok_check_level T M_has_level ML F10, F10.bindsN (fun _ _ _ _ _ _ us hl => match us, hl with | [_, _], _ => rfl)⟩, He.cls_ok (c.fact 56 (f := .cls "Sizes") rfl), He.meth_ok (c.fact 65 (f := .meth "Sizes" "check_level") rfl)⟩
  have M_size : MfX P w K mg base _ "Sizes" "size" ["self", "level"] _ := ⟨⟨fd11, ok_size T M_check_level F11, F11.bindsN (fun _ _ _ _ _ _ us hl => match us, hl with | [_, _], _ => rfl)⟩, He.cls_ok (c.fact 56 (f := .cls "Sizes") rfl), He.meth_ok (c.fact 66 (f := .meth "Sizes" "size") rfl)⟩
  have M_whole : MfX P w K mg base _ "Sizes" "whole" ["self", "cells", "level"] _ := ⟨⟨fd12, ok_whole T D_check_cells M_size F12, F12.bindsN (fun _ _ _ _ _ _ us hl => match us, hl with | [_, _, _], _ => rfl)⟩, He.cls_ok (c.fact 56 (f := .cls "Sizes") rfl), He.meth_ok (c.fact 67 (f := .meth "Sizes" "whole") rfl)⟩
  have M_level_of : MfX P w K mg base _ "Sizes" "level_of" ["self", "cells"] _ := ⟨⟨fd13, ok_level_of T D_check_cells P_top F13, F13.bindsN (fun _ _ _ _ _ _ us hl => match us, hl with | [_, _], _ => rfl)⟩, He.cls_ok (c.fact 56 (f := .cls "Sizes") rfl), He.meth_ok (c.fact 68 (f := .meth "Sizes" "level_of") rfl)⟩
  have M_counts : MfX P w K mg base _ "Sizes" "counts" ["self", "cells"] _ := ⟨⟨fd14, ok_counts T D_check_cells F14, F14.bindsN (fun _ _ _ _ _ _ us hl => match us, hl with | [_, _], _ => rfl)⟩, He.cls_ok (c.fact 56 (f := .cls "Sizes") rfl), He.meth_ok (c.fact 69 (f := .meth "Sizes" "counts") rfl)⟩
  have M_pieces : MfX P w K mg base _ "Sizes" "pieces" ["self", "cells"] _ := ⟨⟨fd15, ok_pieces T M_counts P_top MT F15, F15.bindsN (fun _ _ _ _ _ _ us hl => match us, hl with | [_, _], _ => rfl)⟩, He.cls_ok (c.fact 56 (f := .cls "Sizes") rfl), He.meth_ok (c.fact 70 (f := .meth "Sizes" "pieces") rfl)⟩
  have E_Sizes : EqOf P w K mg base 1 "Sizes" (spSEq K) := ⟨⟨fd16, ok_seq T F16, F16.bindsN (fun _ _ _ _ _ _ us hl => match us, hl with | [_, _], _ => rfl)⟩, (eqB_ok x20).1, (eqB_ok x20).2⟩
  have C_dbl : Cm P w K mg base (L2.CX P w) 7 "Sizes" "doubling" ["cls", "count"] (spDbl K) := ⟨rdB_ok x1, _, _, fdP_doubling, cmB_ok xp_doubling, ok_dbl T D_is_integer K_Sizes MC FP_doubling, FunD.bindsN FP_doubling (fun _ _ _ _ _ _ us hl => match us, hl with | [_, _], _ => rfl)⟩
  have C_from : Cm P w K mg base (L2.CX P w) 7 "Sizes" "from_text" ["cls", "text"] (spFrom K) := ⟨rdB_ok x1, _, _, fdP_from_text, cmB_ok xp_from_text, ok_from T D_read_integer K_Sizes MX MH FP_from_text, FunD.bindsN FP_from_text (fun _ _ _ _ _ _ us hl => match us, hl with | [_, _], _ => rfl)⟩
  have D_is_address := df (P := P) (w := w) (base := base) X G (c.fact 7 (f := .glo "is_address") rfl) F24 (ps := ["value"]) (fun _ _ _ _ _ _ us hl => match us, hl with | [_], _ => rfl) (ok_is_address T D_is_integer F24)
  have D_check_range := dfX (P := P) (w := w) (base := base) X G (c.fact 8 (f := .glo "check_range") rfl) F25 (ps := ["low", "high"]) (fun _ _ _ _ _ _ us hl => match us, hl with | [_, _], _ => rfl) (ok_check_range T D_is_integer D_is_address MA F25)
  have D_region_start := dfX (P := P) (w := w) (base := base) X G (c.fact 9 (f := .glo "region_start") rfl) F26 (ps := ["sizes", "level", "address"]) (fun _ _ _ _ _ _ us hl => match us, hl with | [_, _, _], _ => rfl) (ok_region_start T M_size D_is_address MA F26)
  have D_next_start : Df P w K mg base 1 "next_start" ["size", "address"] spNo := df (P := P) (w := w) (base := base) X G (c.fact 10 (f := .glo "next_start") rfl) F27 (ps := ["size", "address"]) (fun _ _ _ _ _ _ us hl => match us, hl with | [_, _], _ => rfl) fn_no
  have D_lies_below : Df P w K mg base 1 "lies_below" ["sizes", "level", "address", "end"] spNo := df (P := P) (w := w) (base := base) X G (c.fact 11 (f := .glo "lies_below") rfl) F28 (ps := ["sizes", "level", "address", "end"]) (fun _ _ _ _ _ _ us hl => match us, hl with | [_, _, _, _], _ => rfl) fn_no
  have D_first_run : Df P w K mg base 1 "first_run" ["sizes", "low", "high"] spNo := df (P := P) (w := w) (base := base) X G (c.fact 12 (f := .glo "first_run") rfl) F29 (ps := ["sizes", "low", "high"]) (fun _ _ _ _ _ _ us hl => match us, hl with | [_, _, _], _ => rfl) fn_no
  have D_count_regions := dfX (P := P) (w := w) (base := base) X G (c.fact 13 (f := .glo "count_regions") rfl) F30 (ps := ["sizes", "level", "low", "high"]) (fun _ _ _ _ _ _ us hl => match us, hl with | [_, _, _, _], _ => rfl) (ok_count T M_size D_check_range D_region_start D_next_start F30)
  have D_is_region := dfX (P := P) (w := w) (base := base) X G (c.fact 14 (f := .glo "is_region") rfl) F31 (ps := ["sizes", "length", "level", "address"]) (fun _ _ _ _ _ _ us hl => match us, hl with | [_, _, _, _], _ => rfl) (ok_is_region T D_check_cells M_has_level D_is_address D_lies_below F31)
  have D_maximal_runs := dfX (P := P) (w := w) (base := base) X G (c.fact 15 (f := .glo "maximal_runs") rfl) F32 (ps := ["sizes", "low", "high"]) (fun _ _ _ _ _ _ us hl => match us, hl with | [_, _, _], _ => rfl) (ok_runs T M_size D_check_range D_first_run F32)
  have D__law_rng := df (P := P) (w := w) (base := base) X G (c.fact 16 (f := .glo "_law_rng") rfl) F33 (ps := ["_law_script", "_law_k"]) (fun _ _ _ _ _ _ us hl => match us, hl with | [_, _], _ => rfl) (ok_rng T F33)
  have D__law_draw := df (P := P) (w := w) (base := base) X G (c.fact 17 (f := .glo "_law_draw") rfl) F34 (ps := ["_law_rng_here", "_law_many"]) (fun _ _ _ _ _ _ us hl => match us, hl with | [_, _], _ => rfl) (ok_draw T F34)
  have D__law_choice := df (P := P) (w := w) (base := base) X G (c.fact 18 (f := .glo "_law_choice") rfl) F35 (ps := ["_law_rng_here", "_law_options"]) (fun _ _ _ _ _ _ us hl => match us, hl with | [_, _], _ => rfl) (ok_choice T D__law_draw F35)
  have D__law_sizes := df (P := P) (w := w) (base := base) X G (c.fact 19 (f := .glo "_law_sizes") rfl) F36 (ps := ["_law_rng_here", "_law_levels", "_law_greatest"]) (fun _ _ _ _ _ _ us hl => match us, hl with | [_, _, _], _ => rfl) (ok_sizes T D__law_draw F36)
  have D__law_pieces := df (P := P) (w := w) (base := base) X G (c.fact 20 (f := .glo "_law_pieces") rfl) F37 (ps := ["_law_sizes_here", "_law_cells"]) (fun _ _ _ _ _ _ us hl => match us, hl with | [_, _], _ => rfl) (ok_lpc T F37)
  have D__law_word : DfE P w K mg base 1 "_law_word" ["_law_e"] (spWord K) := ⟨⟨fd38, ok_word T F38, F38.bindsN (fun _ _ _ _ _ _ us hl => match us, hl with | [_], _ => rfl)⟩, He.glo_ok X G (c.fact 21 (f := .glo "_law_word") rfl), F38.kp⟩
  have D__law_do := dfX (P := P) (w := w) (base := base) X G (c.fact 22 (f := .glo "_law_do") rfl) F39 (ps := ["_law_made", "_law_word_here", "_law_things"]) (fun _ _ _ _ _ _ us hl => match us, hl with | [_, _, _], _ => rfl) (ok_do T M_size M_level_of M_whole M_counts M_pieces C_dbl C_from D_is_region D_region_start D_count_regions D_maximal_runs F39)
  have KX := kit_six xk0 xk1 xk2 xk3 xk4 xk5
  have D__law_told := dfG (P := P) (w := w) (base := base) X G (c.fact 23 (f := .glo "_law_told") rfl) F40 (ps := ["_law_made", "_law_word_here", "_law_things"]) (fun _ _ _ _ _ _ us hl => match us, hl with | [_, _, _], _ => rfl) (ok_told T KX D__law_do D__law_word F40)
  have D__law_odd_text := df (P := P) (w := w) (base := base) X G (c.fact 24 (f := .glo "_law_odd_text") rfl) F41 (ps := ["_law_rng_here", "_law_sizes_here"]) (fun _ _ _ _ _ _ us hl => match us, hl with | [_, _], _ => rfl) (ok_odd T D__law_draw F41)
  have D__law_calls := df (P := P) (w := w) (base := base) X G (c.fact 25 (f := .glo "_law_calls") rfl) F42 (ps := ["_law_rng_here", "_law_sizes_here"]) (fun _ _ _ _ _ _ us hl => match us, hl with | [_, _], _ => rfl) (ok_calls T D__law_draw D__law_choice D__law_odd_text F42)
  have D__law_pieces_right := dfG (P := P) (w := w) (base := base) X G (c.fact 26 (f := .glo "_law_pieces_right") rfl) F43 (ps := ["_law_rng_here", "_law_sizes_here", "_law_made"]) (fun _ _ _ _ _ _ us hl => match us, hl with | [_, _, _], _ => rfl) (ok_pr T D__law_draw D__law_pieces D__law_told F43)
  have D__law_kinds_right := dfG (P := P) (w := w) (base := base) X G (c.fact 27 (f := .glo "_law_kinds_right") rfl) F44 (ps := ["_law_rng_here"]) (fun _ _ _ _ _ _ us hl => match us, hl with | [_], _ => rfl) (ok_kinds T D__law_draw D_is_integer D_is_name D_is_cells F44)
  have D__law_right := dfG (P := P) (w := w) (base := base) X G (c.fact 28 (f := .glo "_law_right") rfl) F45 (ps := ["_law_rng_here"]) (fun _ _ _ _ _ _ us hl => match us, hl with | [_], _ => rfl) (ok_right T D__law_sizes K_Sizes D__law_calls D__law_told C_from E_Sizes M_all_sizes D__law_kinds_right D__law_pieces_right F45)
  exact ok_law T D__law_rng D__law_right F46
end
end K18
open PySem PySem.W PySem.Calls PyProof.Rows
theorem PySem.Challenge.cw_exactroom_k18_values_refused_holds : PySem.Challenge.rw_exactroom_k18_values_refused.Holds := by
  w_on; o_law
  refine HandSHeadRun.head_any (r := OpenLaw.row PySem.Challenge.rw_exactroom_k18_values_refused) (q := view (OpenLaw.row PySem.Challenge.rw_exactroom_k18_values_refused).prog [47]) (H := K18.hk) (ob := K18.ob) (M := 16000)
    (loose := K18.loose) (d := HandSHeadRun.topDef (OpenLaw.row PySem.Challenge.rw_exactroom_k18_values_refused).prog 47) (kwd := []) K18.ob_eq
    (by kernel_rfl) (fun s => by kernel_rfl) K18.run (by kernel_rfl) (by kernel_rfl) (by kernel_rfl) (by rfl) (by first | assumption | decide +kernel) (by decide +kernel) ⟨rfl, rfl, rfl, rfl, rfl, by decide +kernel⟩ ?hw ?hc
  case hw => w_witness2
  case hc =>
    refine Gu.walkG (l := PySem.Challenge.rw_exactroom_k18_values_refused) (n := 63) (k := 15) (x := "_law_script") (CX := L2.CX0) rfl (by decide) (by kernel_rfl) ⟨⟨rfl, by decide, by decide⟩, rfl⟩ ?F (fun _ _ _ _ z => z)
    intro w mg fa h Y G hmg0
    obtain ⟨K, KX, c⟩ := Y
    have hmg : mg ("law" : PySem.Str) = some (.ref fa) := by
      have e : (HandSHeadRun.topDef (OpenLaw.row PySem.Challenge.rw_exactroom_k18_values_refused).prog 47).name = ("law" : PySem.Str) := by kernel_rfl
      rw [← e]
      exact hmg0
    obtain ⟨fd, hb, hF⟩ := K18.facts (P := (PySem.Challenge.rw_exactroom_k18_values_refused).prog) (w := w) KX G hmg c
    exact ⟨K, fd, K18.spLaw K, KX, hb, fun H a ns hl _ hS => ⟨a, ns, rfl, hS, hl, fun _ => rfl⟩, hF⟩

