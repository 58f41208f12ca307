import PyProof.Rows.All
import Wide.All
import OpenK.AllK
import Wide.FinOn
import PyProof.ReprRoads
import HandS.ForMost
import HandS.ForExc
import HandS.Property
import HandS.ClsMeth
import HandS.Defaults
import HandS.IsInst
import HandS.Wide
import HandS.WideBits
import HandS.Ends
import HandS.HeadEnd
import HandS.Head0
import HandS.Head1
import HandS.Head2
import HandS.HeadHook1
import HandS.HeadHook2
import HandS.Flow
import HandS.Style
import HandS.ExcInit
import HandS.ExcField
import HandS.ExcIs
import HandS.TryOnly
import HandS.OwnEq
import PyProof.Rows.SetFrom
import HandS.TupSets
import PyProof.InstNe
import HandS.More
import PyProof.EqKinds
import HandS.FStr
import KE.KExcInit
import PyProof.ExcBaseAll.ArithmeticError
import PyProof.ExcBaseAll.LookupError
import PyProof.ExcBaseAll.RuntimeError
import HandS.TryMany
import HandS.EndTab
import HandS.CallLocal
import HandS.ExcInitHot
import HandS.SuiteRaise
import HandS.RaiseFrom
import HandS.Comp
import HandS.Dict
import HandS.Text
import KE.IntTextLaws
import HandS.Iter
import HandS.Walk
import HandS.List
import PyProof.NeKinds
import HandS.DictComp
import PyProof.LongRange
import HandS.Codes
import KE.KStateDown
import Lean
import KE.KNestM
import PySem.Challenge.RW_exactroom_k11_sizes_read_and_equal
set_option Elab.async false
set_option linter.all false
set_option maxRecDepth 100000
set_option maxHeartbeats 4000000
/-! Own layer: defs that are called where no repr is under way (the guards are known to be none), so that repr of data can be walked. -/
namespace Gu
open PySem PySem.Spec PyProof.Rows L2
structure RoomG (k : Nat) (A : Around) : Prop where
  r : Room k A
  g : A.guards = some []
theorem RoomG.mono {j k : Nat} {A : Around} (x : RoomG k A) (h : j ≤ k) : RoomG j A := ⟨x.r.mono h, x.g⟩
theorem RoomG.down {k : Nat} {A : Around} (x : RoomG (k + 1) A) (env : Env) : RoomG k (A.deeper env) := ⟨x.r.deeper env, x.g⟩
structure FnG (P : Program) (w : World) (K : PySem.W.Frag) (mg : Str → Option Value) (base : Heap) (CX : CXT) (k : Nat) (f : Addr) (fd : FuncData) (ps : List Str) (sp : Sp) : Prop where
  len : ∀ vs H Q E, sp vs H Q E → vs.length = ps.length
  run : ∀ (A : Around) (outer : List Env) (s : Shared) (H : Hp) (args : Args) (us : List Value) (vs : List V) (Q : VK) (E : XK),
    RoomG k A → Env0 P w K mg base A outer s H → BindsTo s fd args (ps.zip us) → Vals vs us → sp vs H Q E →
    codeAny (model P w) A (.call (.ref f) args) (CR CX outer P w H s Q E) s
section
variable {P : Program} {w : World} {K : PySem.W.Frag} {mg : Str → Option Value} {base : Heap} {CX : CXT} {k : Nat} {f : Addr} {fd : FuncData} {ps : List Str} {sp : Sp}
theorem FnG.of (F : FnOk P w K mg base CX k f fd ps sp) : FnG P w K mg base CX k f fd ps sp :=
  ⟨F.len, fun A outer s H args us vs Q E hr => F.run A outer s H args us vs Q E hr.r⟩
/-- a def by its body -/
theorem okG {x qual : Str} {params : Arguments} {body : List Stmt} {scope : Scope} {dvs : List V} {kws : List (Str × V)} {N : List Str}
    (F : FunD K x qual params body scope dvs kws f fd) (S : FnScope N ps scope) (len : ∀ vs H Q E, sp vs H Q E → vs.length = ps.length)
    (hbody : ∀ (cdv : Value) (A : Around) (outer : List Env) (s : Shared) (H : Hp) (vs : List V) (Q : VK) (E : XK),
      RoomG k (A.deeper (envOfC qual scope s.heap.objs.size f cdv)) → sp vs H Q E →
      ∃ t, PSs (cxOf CX P w K mg base N qual scope f cdv A outer s H E) body t ∧ t { nx := fun _ H' => Q .non H', rt := Q } (start N vs) H) :
    FnG P w K mg base CX (k + 1) f fd ps sp := by
  obtain ⟨oc, od, dV, kV, doc, pm, an, cdv, ct, osl, rfl, lk, hcd, _, _⟩ := F.ex
  refine ⟨len, fun A outer s H args us vs Q E hr e0 hb rv hsp => ?_⟩
  have KX : K.In s.heap := e0.mod.kin.keeps fun b o e => (e0.bs b o e).1
  have hkinds : ∀ y ∈ ps.zip us, scope.names.lookup y.1 = some .local ∨
      (scope.names.lookup y.1 = some .cell ∧ ((cellsFrom (s.heap.objs.size + 1) scope.names []).lookup y.1).isSome = true) := by
    rintro ⟨n, v⟩ hy
    rcases S.par n (List.of_mem_zip hy).1 with q | q
    · exact .inl q
    · exact .inr ⟨q, PySem.W.cellsFrom_some _ _ _ (.inl q)⟩
  refine codeAny_call_function hr.r.depth (KX _ _ lk) rfl S.co S.gen rfl (PySem.W.codeRec_of KX hcd) (hb _ _ _ _ ?_)
  refine wpAny_newFunctionEnv_cells S.kind hkinds fun env he s1 x => ?_
  subst he
  refine ⟨(e0.mod.nolimit.keeps fun b o e => (e0.bs b o e).1).keeps x.toInCall.keep, codeAny_func ?_⟩
  obtain ⟨t, ht, hq⟩ := hbody cdv A outer s H vs Q E (hr.down _) hsp
  have I := inv_start (CX := CX) (E := E) (N := N) (qual := qual) (f := f) (cd := cdv) S hr.r.hd e0 (len _ _ _ _ hsp) rv x
  refine wpAny_mono (ht.run [] s1 (start N vs) H _ I hq) (fun fl s' hs => ?_) fun e s' hs => hs
  cases fl with
  | ret u =>
    obtain ⟨v, σ', H', J, rv', q⟩ := hs
    exact ⟨v, H', J.os, J.bare, J.base, J.hok, rv', q⟩
  | next =>
    obtain ⟨σ', H', J, q⟩ := hs
    exact ⟨V.non, H', J.os, J.bare, J.base, J.hok, rfl, q⟩
  | brk => exact hs.elim fun _ z => z.elim fun _ z => z.2.elim
  | cont => exact hs.elim fun _ z => z.elim fun _ z => z.2.elim
end
section
variable {X : Cx} {CX : CXT} {k : Nat} {f : Addr} {fd : FuncData} {ps : List Str} {sp : Sp} {dvs : List V} {ds : List Value} {E : XK} {x : Str} {p pos : Pos} {e : Expr} {es : List Expr} {t : TA}
theorem runG {pins : List (Addr × Obj)} {σ : L2.St} {H : Hp} {s : Shared} {Q : VK} {us : List Value} {vs : List V} (F : FnG X.prog X.w X.K X.mg X.base CX k f fd ps sp)
    (hr : RoomG k X.A) (hb : Binds X.K fd ps ds) (hd : Vals dvs ds) (hx : Passes CX X E) (I : Inv X pins σ H s) (r : Vals vs us) (h : sp (vs ++ dvs) H Q E) :
    wpAny (model X.prog X.w) X.A (call (.ref f) us) (EP X pins σ Q) X.xe s := by
  have r2 := r.append hd
  have hl : (us ++ ds).length = ps.length := r2.length.symm.trans (F.len _ _ _ _ h)
  refine wpAny_call (codeAny_mono (F.run X.A X.stack s H ⟨us, []⟩ _ _ Q E hr I.env0 (hb s us I.kIn hl) r2 h) fun r s' hq => ?_)
  match r, hq with
  | .error e, hq => exact hx pins σ H s e s' I hq
  | .ok (.ret u), hq => exact I.after hq
/-- f(e, ..) -/
theorem pe_callG (F : FnG X.prog X.w X.K X.mg X.base CX k f fd ps sp) (hr : RoomG k X.A) (hg : Gl X x) (hm : X.mg x = some (.ref f)) (hk : PySem.W.keepIn X.K (.ref f) = true)
    (hb : Binds X.K fd ps ds) (hd : Vals dvs ds) (hx : Passes CX X E) (ha : PA X (e :: es) t) (hdb : (x == ("__debug__" : Str)) = false := by decide)
    (he : starEach (e :: es) X.env = (false, eval e X.env) :: starEach es X.env := by rfl) (hpl : (backTo pos (starEach es X.env)).any (·.1) = false := by rfl) :
    PE X (.Call (.Name x p) (e :: es) [] pos) (tCall sp dvs E t) :=
  ⟨fun pins s σ H Q I h => wpAny_Call_Name_kw (ld_glob I hg hm (PySem.W.callWith_K (h₀ := X.base) I.ok.mod.kin hk
    (thn (ha.run pos pins s σ H _ I h) fun us s1 ⟨vs, H1, I1, r, q⟩ => ⟨I1.kIn, runG F hr hb hd hx I1 r q⟩) he hpl) hdb)⟩
/-- repr of a list or a tuple of data -/
def rReprD (K : PySem.W.Frag) : List V → Hp → VK → Prop := fun xs H Q => ∃ (a : Addr) (d : PyData), xs = [.ref a] ∧ Dp K H (.ref a) d ∧ d.showable = true ∧ d.hasDict = false ∧ d.depth ≤ 60 ∧ d.shown.length ≤ sizeLine ∧ Q (.str d.shown) H
theorem call_reprD (hr : RoomG k X.A) : CallR X (.builtin "repr") (rReprD X.K) := by
  intro pins s σ H xs us Q I r h
  obtain ⟨a, d, rfl, hd, hs, hn, hdep, hz, q⟩ := h
  obtain ⟨u, rfl, ru⟩ := vals1 r
  obtain rfl : u = Value.ref a := ru
  obtain ⟨as, rd⟩ := Dp.reads I d (.ref a) (.ref a) hd rfl
  have hu := hr.r.units
  exact repr_of_reads' rd hs (PyData.noDict_hsm hn) hr.g (by omega) (fun _ _ e => e) (fun h' u tk hk => ⟨.str d.shown, H, I.kept hk, ⟨u, rfl⟩, q⟩) hz
end
/-- the law's call, from its promise where no repr is under way -/
theorem law_go {P : Program} {w : World} {K : PySem.W.Frag} {mg mb : Str → Option Value} {CX : CXT} {k : Nat} {fa a : Addr} {fd : FuncData} {x : Str} {sp : Sp} {s₁ : Shared} {vs : List Value} {H : Hp}
    (KX : K.In s₁.heap) (hns : s₁.heap.Ns mainGlobals mg) (hb : s₁.heap.Ns builtinsNs mb) (hbb : ∀ x : Str, x ≠ "__name__" → mb x = bootBuiltins x) (hlim : s₁.heap.NoLimit) (hg : s₁.gens = #[])
    (ha : s₁.heap.get? a = some { cls := .type "list", data := .seq vs.toArray }) (hr : RoomG k callerA)
    (F : ∀ base : Heap, K.In base → base.Ns mainGlobals mg → FnG P w K mg base CX k fa fd [x] sp) (hbind : ∀ (s : Shared) (u : Value), BindsTo s fd ⟨[u], []⟩ [(x, u)])
    (hsp : sp [.ref a] H (fun v _ => v = .bl true) fun _ _ _ => False) (hCX : ∀ e s', CX [] H s₁ (fun _ _ _ => False) e s' → False)
    (hO : Only H) (hok : HOk P w H s₁.heap) (hA : ∀ b, H b ≠ none → b = a) (hK : H a ≠ none → K.lookup a = none) :
    codeAny (model P w) callerA (.call (.ref fa) ⟨[.ref a], []⟩) (fun r s' => r = .ok (.ret (.bool true)) ∧ OldK s₁.heap s'.heap ∧ s'.os = s₁.os ∧ AllBare s'.gens) s₁ := by
  have free : ∀ {b : Addr} {o : Obj}, s₁.heap.get? b = some o → (b = a → False) → (hidT s₁.heap H).get? b = some o := fun {b o} e n => hidT_get e (by
    cases q : H b with
    | none => rfl
    | some u => exact (n (hA b (by rw [q]; exact fun z => nomatch z))).elim)
  have nsK : ∀ {b : Addr} {m : Str → Option Value}, s₁.heap.Ns b m → (hidT s₁.heap H).Ns b m := fun {b m} ⟨o, es, ep, e, d, r⟩ => ⟨o, es, ep, free e (fun z => by
    rw [z, ha] at e
    have e' := Option.some.inj e
    rw [← e'] at d
    exact nomatch d), d, r⟩
  have hKb : K.In (hidT s₁.heap H) := fun b o e => hidT_get (KX b o e) (by
    cases q : H b with
    | none => rfl
    | some u =>
      have z : b = a := hA b (by rw [q]; exact fun z => nomatch z)
      rw [z] at e q
      rw [hK (by rw [q]; exact fun z => nomatch z)] at e
      exact nomatch e)
  obtain ⟨mc, l1, l2⟩ := hlim
  have e0 : Env0 P w K mg (hidT s₁.heap H) callerA [] s₁ H :=
    ⟨rfl, ⟨hKb, nsK hns, ⟨mb, nsK hb, hbb⟩, ⟨mc, nsK l1, l2⟩⟩, fun b o e => of_hidT e, Nat.le_of_eq (hidT_size _ _), trivial, fun b hb => absurd (show b ∈ ([] : List Addr) from hb) List.not_mem_nil, hok, .of_eq hg⟩
  refine codeAny_mono ((F _ hKb (nsK hns)).run callerA [] s₁ H ⟨[.ref a], []⟩ [.ref a] [.ref a] _ _ hr e0 (hbind s₁ (.ref a)) (.cons rfl .nil) hsp) fun r s' h => ?_
  match r, h with
  | .error e, h => exact (hCX e s' h).elim
  | .ok (.ret u), h =>
    obtain ⟨v, H', os, bare, un, hok', r', q⟩ := h
    obtain rfl : v = .bl true := q
    obtain rfl : u = Value.bool true := r'
    refine ⟨rfl, OldK.of_keep fun b o e => ?_, os, bare⟩
    cases q : H b with
    | none => exact un.keep b o e q (fun z => absurd (show b ∈ ([] : List Addr) from z) List.not_mem_nil) (fun z => absurd (show b ∈ ([] : List Addr) from z) List.not_mem_nil)
    | some u =>
      rcases hO b with z | ⟨ob, xs, z⟩
      · rw [q] at z
        exact nomatch z
      · obtain ⟨e1, _⟩ := hok b _ z
        obtain ⟨e2, _⟩ := hok' b _ (un.frzs b ob _ z)
        rw [e] at e1
        rw [Option.some.inj e1]
        exact e2
theorem law_callG {P : Program} {w : World} {K : PySem.W.Frag} {mg mb : Str → Option Value} {CX : CXT} {k : Nat} {fa a : Addr} {fd : FuncData} {x : Str} {sp : Sp} {s₁ : Shared} {vs : List Value} {ns : List Int}
    (KX : K.In s₁.heap) (hns : s₁.heap.Ns mainGlobals mg) (hb : s₁.heap.Ns builtinsNs mb) (hbb : ∀ x : Str, x ≠ "__name__" → mb x = bootBuiltins x) (hlim : s₁.heap.NoLimit) (hg : s₁.gens = #[])
    (ha : s₁.heap.get? a = some { cls := .type "list", data := .seq vs.toArray }) (hi : IntsAre vs ns) (hl : ns.length ≤ sizeLine) (hr : RoomG k callerA)
    (F : ∀ base : Heap, K.In base → base.Ns mainGlobals mg → FnG P w K mg base CX k fa fd [x] sp) (hbind : ∀ (s : Shared) (u : Value), BindsTo s fd ⟨[u], []⟩ [(x, u)])
    (hsp : ∀ H : Hp, Only H → SqL K H a (ns.map V.int) → sp [.ref a] H (fun v _ => v = .bl true) fun _ _ _ => False) (hCX : ∀ H e s', CX [] H s₁ (fun _ _ _ => False) e s' → False) :
    codeAny (model P w) callerA (.call (.ref fa) ⟨[.ref a], []⟩) (fun r s' => r = .ok (.ret (.bool true)) ∧ OldK s₁.heap s'.heap ∧ s'.os = s₁.os ∧ AllBare s'.gens) s₁ := by
  have rv := vals_ints hi
  have lenV := hi.length
  cases hk : K.lookup a with
  | some o =>
    have e := (KX a o hk).symm.trans ha
    obtain rfl := Option.some.inj e
    have hO : Only (fun _ => none) := fun _ => .inl rfl
    exact law_go (H := fun _ => none) KX hns hb hbb hlim hg ha hr F hbind
      (hsp _ hO (.inr ⟨_, vs.toArray, _, hk, rfl, rfl, rfl, by rw [List.size_toArray, lenV]; exact hl, by simpa using rv⟩)) (hCX _) hO
      (fun b u z => nomatch (show (none : Option HO) = some u from z)) (fun b z => (z rfl).elim) (fun z => (z rfl).elim)
  | none =>
    let H0 : Hp := fun b => if b = a then some (.frz { cls := .type "list", data := .seq vs.toArray } (.lst (ns.map V.int))) else none
    have at_ : H0 a = some (.frz { cls := .type "list", data := .seq vs.toArray } (.lst (ns.map V.int))) := if_pos rfl
    have off : ∀ b, b ≠ a → H0 b = none := fun b h => if_neg h
    have hO : Only H0 := fun b => by
      by_cases h : b = a
      · rw [h]
        exact .inr ⟨_, _, at_⟩
      · exact .inl (off b h)
    refine law_go (H := H0) KX hns hb hbb hlim hg ha hr F hbind (hsp _ hO (.inl (.inr ⟨_, at_⟩))) (hCX _) hO (fun b u z => ?_) (fun b z => ?_) (fun _ => hk)
    · by_cases h : b = a
      · rw [h, at_] at z
        obtain rfl := Option.some.inj z
        rw [h]
        exact ⟨ha, by rw [List.length_map]; exact hl, vs, _, rv, ha⟩
      · rw [off b h] at z
        exact nomatch z
    · by_cases h : b = a
      · exact h
      · exact (z (off b h)).elim
/-- the end of a law, over a head by facts -/
theorem walkG {l : PySem.W.OpenLaw} {n k : Nat} {q : Program} {loose : List Str} {XP : (Str → Option Value) → Heap → Prop} {YP : World → Heap → Prop} {d : DefRec} {CX : CXT} {x : Str}
    (hn : l.most = some n) (hn2 : n ≤ sizeLine) (hdf : d.params.defaults = []) (hr : RoomG k callerA)
    (F : ∀ (w : World) (mg : Str → Option Value) (fa : Addr) (h : Heap), YP w h → h.Ns mainGlobals mg → mg d.name = some (.ref fa) →
      ∃ (K : PySem.W.Frag) (fd : FuncData) (sp : Sp), K.In h ∧ (∀ (s : Shared) (u : Value), BindsTo s fd ⟨[u], []⟩ [(x, u)]) ∧
        (∀ (H : Hp) (a : Addr) (ns : List Int), ns.length ≤ n → Only H → SqL K H a (ns.map V.int) → sp [.ref a] H (fun v _ => v = .bl true) fun _ _ _ => False) ∧
        ∀ base : Heap, K.In base → base.Ns mainGlobals mg → FnG l.prog w K mg base CX k fa fd [x] sp)
    (hCX : ∀ (H : Hp) (s : Shared) (e : Value) (s' : Shared), CX [] H s (fun _ _ _ => False) e s' → False) :
    PySem.W.WalkO q loose XP YP l.row.toRowW d [] (fun f vs => PySem.call f vs) := by
  refine Att.attach_call hn hdf fun w s₀ s₁ mg mb fa o pm cd doc a vs ns G Y ho hd hcd hmg hobj hints hlen hg => ?_
  obtain ⟨K, fd, sp, KX, hb, hsp, hF⟩ := F w mg fa _ Y G.T.g hmg
  exact law_callG KX G.T.g G.T.b G.T.builtins G.T.nolimit hg hobj hints (Nat.le_trans hlen hn2) hr hF hb (fun H hO hS => hsp H a ns hlen hO hS) fun H e s' => hCX H s₁ e s'
end Gu

set_option Elab.async false
set_option linter.all false
set_option maxRecDepth 100000
set_option maxHeartbeats 4000000
/-! Own layer: defs, methods, makers and properties by their names. -/
namespace Ex
open PySem PySem.Spec PyProof.Rows L2 Gu
section
variable (P : Program) (w : World) (K : PySem.W.Frag) (mg : Str → Option Value) (base : Heap)
/-- the module's def x keeps sp -/
structure Df (k : Nat) (x : Str) (ps : List Str) (sp : Sp) : Prop where
  ex : ∃ fd, FnOk P w K mg base CX0 k (He.ga K x) fd ps sp ∧ Binds K fd ps []
  gl : mg x = some (.ref (He.ga K x))
  kp : PySem.W.keepIn K (.ref (He.ga K x)) = true
structure DfG (k : Nat) (x : Str) (ps : List Str) (sp : Sp) : Prop where
  ex : ∃ fd, FnG P w K mg base CX0 k (He.ga K x) fd ps sp ∧ Binds K fd ps []
  gl : mg x = some (.ref (He.ga K x))
  kp : PySem.W.keepIn K (.ref (He.ga K x)) = true
/-- .. called by keywords ks alone; j: the places of the parameters among the keywords -/
structure DfK (k : Nat) (x : Str) (ps ks : List Str) (j : List Nat) (sp : Sp) : Prop where
  ex : ∃ fd, FnOk P w K mg base CX0 k (He.ga K x) fd ps sp ∧ ∀ (s : Shared) (ws : List Value), ws.length = ks.length → BindsTo s fd ⟨[], ks.zip ws⟩ (ps.zip (j.filterMap fun i => ws[i]?))
  gl : mg x = some (.ref (He.ga K x))
  kp : PySem.W.keepIn K (.ref (He.ga K x)) = true
structure Mf (k : Nat) (c m : Str) (ps : List Str) (sp : Sp) : Prop where
  ex : ∃ fd, FnOk P w K mg base CX0 k (He.ma K (He.ga K c) m) fd ps sp ∧ Binds K fd ps []
  cl : Cls K (He.ga K c)
  me : Meth K (He.ga K c) m (He.ma K (He.ga K c) m)
structure Pf (k : Nat) (c m : Str) (sp : Sp) : Prop where
  cl : Cls K (He.ga K c)
  ex : ∃ (p g : Addr) (fd : FuncData), PropOf K (He.ga K c) m p g ∧ FnOk P w K mg base CX0 k g fd ["self"] sp ∧ Binds K fd ["self"] []
structure Kf (k : Nat) (c : Str) (ps : List Str) (sp : Sp) : Prop where
  ex : ∃ fd, FnOk P w K mg base CX0 k (He.ma K (He.ga K c) "__init__") fd ps sp ∧ Binds K fd ps []
  gl : mg c = some (.ref (He.ga K c))
  mkr : Mk K (He.ga K c) (He.ma K (He.ga K c) "__init__")
end
section
variable {X : Cx} {k j : Nat} {x c m : Str} {ps ks : List Str} {ji : List Nat} {sp : Sp} {p pos apos : Pos} {e o : Expr} {es : List Expr} {kws : List Keyword} {t tk : TA} {ta : TE}
theorem pcall (D : Df X.prog X.w X.K X.mg X.base k x ps sp) (hr : Room j X.A) (ha : PA X (e :: es) t) (hj : k ≤ j := by decide) (hg : Gl X x := by rfl) (hdb : (x == ("__debug__" : Str)) = false := by decide)
    (he : starEach (e :: es) X.env = (false, eval e X.env) :: starEach es X.env := by rfl) (hpl : (backTo pos (starEach es X.env)).any (·.1) = false := by rfl) :
    PE X (.Call (.Name x p) (e :: es) [] pos) (tCall sp [] E0 t) := by
  obtain ⟨fd, F, b⟩ := D.ex
  exact pe_call F (hr.mono hj) hg D.gl D.kp b .nil pass0 ha hdb he hpl
theorem pcallG (D : DfG X.prog X.w X.K X.mg X.base k x ps sp) (hr : RoomG j X.A) (ha : PA X (e :: es) t) (hj : k ≤ j := by decide) (hg : Gl X x := by rfl) (hdb : (x == ("__debug__" : Str)) = false := by decide)
    (he : starEach (e :: es) X.env = (false, eval e X.env) :: starEach es X.env := by rfl) (hpl : (backTo pos (starEach es X.env)).any (·.1) = false := by rfl) :
    PE X (.Call (.Name x p) (e :: es) [] pos) (tCall sp [] E0 t) := by
  obtain ⟨fd, F, b⟩ := D.ex
  exact pe_callG F (hr.mono hj) hg D.gl D.kp b .nil pass0 ha hdb he hpl
def tKw (sp : Sp) (n : Nat) (j : List Nat) (tk : TA) : TE := fun σ H Q => tk σ H fun zs H2 => zs.length = n ∧ sp (j.filterMap fun i => zs[i]?) H2 Q E0
theorem vals_pick {zs : List V} {ws : List Value} (r : Vals zs ws) : ∀ j : List Nat, Vals (j.filterMap fun i => zs[i]?) (j.filterMap fun i => ws[i]?)
  | [] => .nil
  | i :: j => by
    rw [List.filterMap_cons, List.filterMap_cons]
    cases e : zs[i]? with
    | none =>
      rw [r.none_of e]
      exact vals_pick r j
    | some z =>
      obtain ⟨u, hu, ru⟩ := r.get e
      rw [hu]
      exact .cons ru (vals_pick r j)
theorem pcallK (D : DfK X.prog X.w X.K X.mg X.base k x ps ks ji sp) (hr : Room j X.A) (hkw : PK X kws tk) (hj : k ≤ j := by decide) (hg : Gl X x := by rfl)
    (hall : (backToKw pos (keywordEach kws X.env)).all (·.1.isSome) = true := by rfl) (hks : (backToKw pos (keywordEach kws X.env)).filterMap (·.1) = ks := by rfl)
    (hdb : (x == ("__debug__" : Str)) = false := by decide)
    (hpl : ((backTo pos (starEach [] X.env)).any (·.1) || (backToKw pos (keywordEach kws X.env)).any (·.1.isNone)) = false := by rfl) :
    PE X (.Call (.Name x p) [] kws pos) (tKw sp ks.length ji tk) := by
  obtain ⟨fd, F, b⟩ := D.ex
  refine ⟨fun pins s σ H Q I h => wpAny_Call_Name_kw (ld_glob I hg D.gl ?_ hdb)⟩
  refine PySem.W.callWith_KW0 (h₀ := X.base) I.ok.mod.kin D.kp hall (thn (hkw.run pos pins s σ H _ I h) fun ws s2 ⟨zs, H2, I2, rz, l2, q2⟩ => ⟨I2.kIn, ?_⟩) hpl
  rw [hks]
  refine wpAny_call (codeAny_mono (F.run X.A X.stack s2 H2 ⟨[], ks.zip ws⟩ _ _ Q E0 (hr.mono hj) I2.env0 (b s2 ws (rz.length.symm.trans l2)) (vals_pick rz ji) q2) fun r s' hq => ?_)
  match r, hq with
  | .ok (.ret u), hq => exact I2.after hq
theorem pmeth {pl : Sem Bool} (D : Mf X.prog X.w X.K X.mg X.base k c m ps sp) (hr : Room j X.A) (he : PE X o ta) (ha : PA X (e :: es) t) (hj : k ≤ j := by decide)
    (hst : starEach (e :: es) X.env = (false, eval e X.env) :: starEach es X.env := by rfl) (hpl : (backTo pos (starEach es X.env)).any (·.1) = false := by rfl)
    (ht : eval (.Call (.Attribute o m apos) (e :: es) [] pos) X.env = (do
      let ov ← eval o X.env
      standAt apos.atName
      let (f, first) ← holding [ov] (getMethod ov m pl)
      callWith pos f first (backTo pos (starEach (e :: es) X.env)) (backToKw pos (keywordEach [] X.env))) := by rfl) :
    PE X (.Call (.Attribute o m apos) (e :: es) [] pos) (tMeth (He.ga X.K c) m sp [] E0 ta t) := by
  obtain ⟨fd, F, b⟩ := D.ex
  exact pe_meth he D.cl D.me F (hr.mono hj) b .nil pass0 ha hst hpl ht
theorem pmeth0 {pl : Sem Bool} (D : Mf X.prog X.w X.K X.mg X.base k c m ps sp) (hr : Room j X.A) (he : PE X o ta) (hj : k ≤ j := by decide)
    (ht : eval (.Call (.Attribute o m apos) [] [] pos) X.env = (do
      let ov ← eval o X.env
      standAt apos.atName
      let (f, first) ← holding [ov] (getMethod ov m pl)
      callWith pos f first (backTo pos (starEach [] X.env)) (backToKw pos (keywordEach [] X.env))) := by rfl) :
    PE X (.Call (.Attribute o m apos) [] [] pos) (tMeth (He.ga X.K c) m sp [] E0 ta tNil) := by
  obtain ⟨fd, F, b⟩ := D.ex
  exact pe_meth0 he D.cl D.me F (hr.mono hj) b .nil pass0 ht
theorem pprop (D : Pf X.prog X.w X.K X.mg X.base k c m sp) (hr : Room j X.A) (he : PE X o ta) (hj : k + 1 ≤ j := by decide) (hab : attributeBase o m X.env (eval o X.env) = eval o X.env := by rfl) :
    PE X (.Attribute o m pos) (tProp (He.ga X.K c) sp [] E0 ta) := by
  obtain ⟨p, g, fd, hp, F, b⟩ := D.ex
  exact pe_prop he D.cl hp F (hr.mono hj) b .nil pass0 hab
theorem pmake (D : Kf X.prog X.w X.K X.mg X.base k c ps sp) (hr : Room j X.A) (ha : PA X (e :: es) t) (hj : k + 1 ≤ j := by decide) (hg : Gl X c := by rfl) (hdb : (c == ("__debug__" : Str)) = false := by decide)
    (he : starEach (e :: es) X.env = (false, eval e X.env) :: starEach es X.env := by rfl) (hpl : (backTo pos (starEach es X.env)).any (·.1) = false := by rfl) :
    PE X (.Call (.Name c p) (e :: es) [] pos) (tMake (He.ga X.K c) sp [] E0 t) := by
  obtain ⟨fd, F, b⟩ := D.ex
  exact pe_make D.mkr F (hr.mono hj) hg D.gl b .nil pass0 ha hdb he hpl
end
end Ex

set_option Elab.async false
set_option linter.all false
set_option maxRecDepth 100000
set_option maxHeartbeats 4000000
/-! Own layer: data of any depth, dicts among it, as repr shows it. -/
namespace Ex
open PySem PySem.Spec PyProof.Rows L2 Gu
mutual
inductive Dq (K : PySem.W.Frag) (H : Hp) : V → PyData → Prop
  | non : Dq K H .non .none
  | bl (b : Bool) : Dq K H (.bl b) (.bool b)
  | int (i : Int) : Dq K H (.int i) (.int i)
  | str (x : Str) : Dq K H (.str x) (.str x)
  | lst {a : Addr} {xs : List V} {ds : List PyData} : SqL K H a xs → DqAll K H xs ds → Dq K H (.ref a) (.list ds)
  | tup {a : Addr} {xs : List V} {ds : List PyData} : SqT K H a xs → DqAll K H xs ds → Dq K H (.ref a) (.tuple ds)
  | dct {a : Addr} {kvs : List (Key × V)} {ds : List (PyData × PyData)} : H a = some (.dK kvs) → DqAll K H (kvs.map fun p => kV p.1) (ds.map (·.1)) → DqAll K H (kvs.map (·.2)) (ds.map (·.2)) → Dq K H (.ref a) (.dict ds)
inductive DqAll (K : PySem.W.Frag) (H : Hp) : List V → List PyData → Prop
  | nil : DqAll K H [] []
  | cons {v : V} {vs : List V} {d : PyData} {ds : List PyData} : Dq K H v d → DqAll K H vs ds → DqAll K H (v :: vs) (d :: ds)
end
/-- the table of modules stands in the written part: no list lies there -/
def SysOk (K : PySem.W.Frag) : Prop := ∃ o, K.lookup sysModules = some o ∧ o.cls ≠ .type "list"
section
variable {X : Cx} {pins : List (Addr × Obj)} {σ : L2.St} {H : Hp} {s : Shared}
theorem key_rel {k : Key} {v : Value} (h : keyIs k v = true) : RelV (kV k) v := by
  rcases keyIs_shape h with ⟨i, t, rfl, rfl⟩ | ⟨x, t, rfl, rfl⟩
  · exact ⟨t, rfl⟩
  · exact ⟨t, rfl⟩
theorem not_sys {a : Addr} {o : Obj} (hs : SysOk X.K) (I : Inv X pins σ H s) (ho : s.heap.get? a = some o) (hc : o.cls = .type "list") : a ≠ sysModules := fun z => by
  obtain ⟨u, e, n⟩ := hs
  have h2 := I.kIn _ _ e
  rw [z, h2] at ho
  rw [Option.some.inj ho] at n
  exact n hc
theorem pairs_rel {es : List DictEntry} {vs : List (Key × Value)} (h : Pairs (mixKind X.prog X.w) es vs) : ∀ {kvs : List (Key × V)}, KV kvs vs → Vals (kvs.map fun p => kV p.1) (es.map (·.key)) ∧ Vals (kvs.map (·.2)) (es.map (·.val)) := by
  induction h with
  | nil =>
    intro kvs r
    cases r
    exact ⟨.nil, .nil⟩
  | @cons e kv es vs h1 h2 h3 ih =>
    intro kvs r
    cases r with
    | @cons p _ l _ r1 r2 =>
      obtain ⟨i1, i2⟩ := ih r2
      have k1 : RelV (kV p.1) e.key := by
        rw [r1.1]
        exact key_rel h1
      have k2 : RelV p.2 e.val := by
        rw [h2]
        exact r1.2
      exact ⟨.cons k1 i1, .cons k2 i2⟩
mutual
theorem Dq.reads (hs : SysOk X.K) (I : Inv X pins σ H s) : ∀ {v : V} {d : PyData}, Dq X.K H v d → ∀ u, RelV v u → ∃ as, Reads s.heap u d as ∧ sysModules ∉ as
  | _, _, .non, u, r => by
    cases r
    exact ⟨_, Reads.none, List.not_mem_nil⟩
  | _, _, .bl b, u, r => by
    cases r
    exact ⟨_, Reads.bool b, List.not_mem_nil⟩
  | _, _, .int i, u, r => by
    obtain ⟨t, rfl⟩ := r
    exact ⟨_, Reads.int i t, List.not_mem_nil⟩
  | _, _, .str x, u, r => by
    obtain ⟨t, rfl⟩ := r
    exact ⟨_, Reads.str x t, List.not_mem_nil⟩
  | _, _, .lst (a := a) hq ha, u, r => by
    cases r
    obtain ⟨its, rv, ⟨o, n, ho, hc, _, hd⟩, _⟩ := I.list hq
    obtain ⟨as, hr, na⟩ := Dq.readsAll hs I ha its rv
    refine ⟨_, Reads.list ho hc hd hr, fun hm => ?_⟩
    rcases List.mem_cons.mp hm with z | z
    · exact not_sys hs I ho hc z.symm
    · exact na z
  | _, _, .tup (a := a) hq ha, u, r => by
    cases r
    obtain ⟨its, rv, ⟨o, ho, hc, n, hd⟩, _⟩ := I.tuple hq
    obtain ⟨as, hr, na⟩ := Dq.readsAll hs I ha its rv
    exact ⟨_, Reads.tuple ho hc hd hr, na⟩
  | _, _, .dct (a := a) (kvs := kvs) hq h1 h2, u, r => by
    cases r
    obtain ⟨_, ns, vs, rk, o, es, ep, ho, hx, hd, _, hp, _⟩ := (show ObjOk X.prog X.w H s.heap a (.dK kvs) from I.hok a _ hq)
    obtain ⟨r1, r2⟩ := pairs_rel hp rk
    obtain ⟨as, q1, n1⟩ := Dq.readsAll hs I h1 _ r1
    obtain ⟨bs, q2, n2⟩ := Dq.readsAll hs I h2 _ r2
    refine ⟨_, Reads.dict ho hx.1 hd q1 q2, fun hm => ?_⟩
    rcases List.mem_append.mp hm with z | z
    · rcases List.mem_cons.mp z with z | z
      · rw [← z, beq_self_eq_true] at ns
        cases ns
      · exact n1 z
    · exact n2 z
theorem Dq.readsAll (hs : SysOk X.K) (I : Inv X pins σ H s) : ∀ {vs : List V} {ds : List PyData}, DqAll X.K H vs ds → ∀ us : List Value, Vals vs us → ∃ as, ReadsAll s.heap us ds as ∧ sysModules ∉ as
  | _, _, .nil, us, r => by
    cases r
    exact ⟨_, ReadsAll.nil, List.not_mem_nil⟩
  | _, _, .cons h1 h2, us, r => by
    cases r with
    | cons r1 r2 =>
      obtain ⟨as, q1, n1⟩ := Dq.reads hs I h1 _ r1
      obtain ⟨bs, q2, n2⟩ := Dq.readsAll hs I h2 _ r2
      refine ⟨_, ReadsAll.cons q1 q2, fun hm => ?_⟩
      rcases List.mem_append.mp hm with z | z
      · exact n1 z
      · exact n2 z
end
end
section
variable {X : Cx} {k : Nat}
/-- repr of any data -/
def rReprQ (K : PySem.W.Frag) : List V → Hp → VK → Prop := fun xs H Q => ∃ (v : V) (d : PyData), xs = [v] ∧ Dq K H v d ∧ d.showable = true ∧ d.depth ≤ 60 ∧ d.shown.length ≤ sizeLine ∧ Q (.str d.shown) H
theorem call_reprQ (hr : RoomG k X.A) (hs : SysOk X.K) : CallR X (.builtin "repr") (rReprQ X.K) := by
  intro pins s σ H xs us Q I r h
  obtain ⟨v, d, rfl, hd, hsh, hdep, hz, q⟩ := h
  obtain ⟨u, rfl, ru⟩ := vals1 r
  obtain ⟨as, rd, na⟩ := Dq.reads hs I hd u ru
  have hu := hr.r.units
  cases hd with
  | non =>
    cases ru
    exact PySem.P.repr_of_none ⟨.str _, H, I.tok _, ⟨_, rfl⟩, by simpa only [PyData.shown] using q⟩
  | bl b =>
    cases ru
    exact PySem.P.repr_of_bool ⟨.str _, H, I.tok _, ⟨_, rfl⟩, by simpa only [PyData.shown] using q⟩
  | int i =>
    obtain ⟨t, rfl⟩ := ru
    exact PySem.P.repr_of_int (by simpa [PyData.showable] using hsh) ⟨.str _, H, I.tok _, ⟨_, rfl⟩, by simpa only [PyData.shown] using q⟩
  | str x =>
    obtain ⟨t, rfl⟩ := ru
    exact PySem.P.repr_of_str ⟨.str _, H, I.tok _, ⟨_, rfl⟩, by simpa only [PyData.shown] using q⟩ (by simpa only [PyData.shown] using hz)
  | @lst a xs ds hq ha =>
    obtain rfl : u = Value.ref a := ru
    exact repr_of_reads' rd hsh (fun _ => na) hr.g (by omega) (fun _ _ e => e) (fun h' u tk hk => ⟨.str _, H, I.kept hk, ⟨u, rfl⟩, q⟩) hz
  | @tup a xs ds hq ha =>
    obtain rfl : u = Value.ref a := ru
    exact repr_of_reads' rd hsh (fun _ => na) hr.g (by omega) (fun _ _ e => e) (fun h' u tk hk => ⟨.str _, H, I.kept hk, ⟨u, rfl⟩, q⟩) hz
  | @dct a kvs ds hq h1 h2 =>
    obtain rfl : u = Value.ref a := ru
    exact repr_of_reads' rd hsh (fun _ => na) hr.g (by omega) (fun _ _ e => e) (fun h' u tk hk => ⟨.str _, H, I.kept hk, ⟨u, rfl⟩, q⟩) hz
/-- x is not True, x is not False, of any scalar -/
def rNotBA : R2 := fun x y H Q => ∃ b : Bool, y = .bl b ∧ ((∃ a : Bool, x = .bl a ∧ Q (.bl (!decide (a = b))) H) ∨ (∃ i : Int, x = .int i ∧ Q (.bl true) H))
theorem op_notBA : OpR X (compareOp .IsNot) rNotBA := by
  intro pins s σ H x y v u Q I rx ry h
  obtain ⟨b, rfl, h⟩ := h
  rcases h with ⟨a, rfl, q⟩ | ⟨i, rfl, q⟩
  · exact op_notBl pins s σ H _ _ v u Q I rx ry ⟨a, b, rfl, rfl, q⟩
  · cases (show u = Value.bool b from ry)
    obtain ⟨t, rfl⟩ := (show ∃ t, v = Value.int i t from rx)
    exact wpAny_isNot_other rfl (fun z => nomatch z) ⟨.bl true, H, I, rfl, q⟩
end
end Ex

set_option Elab.async false
set_option linter.all false
set_option maxRecDepth 100000
set_option maxHeartbeats 4000000
/-! Own layer: isinstance of a caught error that has a dict of its own; errors with fields, raised. -/
namespace Ex
open PySem PySem.Spec PySem.Calls PyProof.Rows L2 Gu
section
variable {prog : Program} {w : World} {A : Around} {E : Value → Shared → Prop} {s : Shared} {K : PySem.W.Frag} {x D : Addr} {ox od : Obj}
theorem class_of_exc {Q : Option Value → Shared → Prop} (c : ExcC K D) (X : K.In s.heap) (I : PySem.W.InstAt s.heap x ox D (some od)) (h : Q (some (.ref D)) { s with toks := s.toks + 1 }) :
    wpAny (model prog w) A (getAttr? (.ref x) "__class__") Q E s := by
  have found : PySem.W.findObj K D (some od) "__class__" = some (.bind (.builtin "getset_descriptor.__get__") (.builtin "object.__class__")) :=
    PySem.W.findObj_data (by obtain ⟨cd, e, _⟩ := PySem.W.any_some c.hd; rw [e]; rfl) c.ha c.hn c.ht
  obtain ⟨hp, g, d, t, os⟩ := s
  have lt := I.type (M := model prog w)
  have lg := PySem.W.looks_findIn (M := model prog w) X c.hg
  have lk := PySem.W.looks_findIn (M := model prog w) X c.hk
  have lf := PySem.W.looks_find (M := model prog w) X I found
  have other : (onTheHeap (Value.ref D) && Value.builtin "BaseException.__getattribute__" == Value.builtin "object.__getattribute__") = false := by
    rw [show (Value.builtin "BaseException.__getattribute__" == Value.builtin "object.__getattribute__") = false by decide +kernel]
    rfl
  unfold getAttr? getAttrBy? getAttrBy
  refine wpAny_bind (wpAny_mkText (wpAny_bind (wpAny_attempt (wpAny_holding (wpAny_bind (lt.at (wpAny_bind (lg.at ?own))))))))
  case own =>
    show wpAny _ _ (if (onTheHeap (Value.ref D) && Value.builtin "BaseException.__getattribute__" == Value.builtin "object.__getattribute__") = true then _ else _) _ _ _
    rw [other, if_neg Bool.false_ne_true]
    unfold getAttrByItsOwn hookBefore
    refine wpAny_bind ?_
    rw [if_pos (show onTheHeap (Value.ref D) = true from rfl)]
    refine lk.at (wpAny_bind (wpAny_attempt (wpAny_holding ?_)))
    unfold callGetattribute
    rw [show (false && onTheHeap (Value.builtin "BaseException.__getattribute__")) = false from rfl, if_neg Bool.false_ne_true]
    unfold boundAndCalled
    rw [PySem.F.excAttr_ValueError.ga.bind (.ref x)]
    refine wpAny_bind (wpAny_pure ?_)
    show wpAny _ _ (call (.builtin "BaseException.__getattribute__") [.ref x, .str "__class__" t]) _ _ _
    refine wpAny_call (codeAny_call_builtin PySem.F.excAttr_ValueError.ga.plain PySem.F.entry_bexc_ga
      (@PySem.W.check_slot (model prog w) _ _ ⟨hp, g, d, t + 1, os⟩ "BaseException.__getattribute__" "BaseException" "__getattribute__" (.ref x) [.str "__class__" t] [] _
        (by decide +kernel) (by decide +kernel) (lt.andThen (PySem.W.looks_subIn X c.hs)) (PySem.F.args_bexc_ga (.ref x) (.str "__class__" t)) ?_))
    unfold Builtin.«object.__getattribute__»
    refine wpAny_bind (wpAny_of_eq (a := ((Value.ref x : Value), [Value.str "__class__" t])) (by first | rfl | (simp only [slotArgs]; rfl)) (wpAny_bind (wpAny_pure (wpAny_bind (lt.at (wpAny_bind (lf.at ?_)))))))
    show wpAny _ _ (holding [Value.builtin "object.__class__"] (call (.builtin "getset_descriptor.__get__") [.builtin "object.__class__", .ref x, .ref D]) >>= ret) _ _ _
    refine wpAny_bind (wpAny_holding (wpAny_call (PySem.W.class_get (s := ⟨hp, g, d, t + 1, os⟩) (ox := ox) (od := some od) X I c.hm (wpAny_pure ?_))))
    show wpAny _ _ (handedOut (.ref D)) _ _ _
    rw [PySem.W.handedOut_of (v := .ref D) rfl]
    first
      | exact wpAny_pure (wpAny_pure h)
      | exact wpAny_pure h
      | exact wpAny_pure (wpAny_bind (wpAny_pure (wpAny_pure h)))
theorem kitx_exc (c : ExcC K D) : PySem.W.KitX K (.ref x) (.ref D) (fun h => PySem.W.InstAt h x ox D (some od)) where
  ty := fun _ _ _ I => I.type
  it := fun _ _ X _ => by
    obtain ⟨cd, e, _⟩ := PySem.W.any_some c.hd
    unfold PySem.W.clsIn at e
    split at e
    · rename_i ho
      exact fun A' Q' E' s' k q => by
        unfold isType loadHead
        exact wpAny_bind (wpAny_loadPart (k _ _ (X _ _ ho)) (wpAny_pure q))
    · cases e
  ne := fun h tp dd its n sl X htp => by
    obtain ⟨cd, e, _⟩ := PySem.W.any_some c.hd
    cases q : (Value.ref D == Value.ref tp) with
    | false => rfl
    | true =>
      have z : D = tp := Value.ref.inj (beq_iff_eq.mp q)
      rw [← z] at htp
      unfold PySem.W.clsIn at e
      split at e
      · rename_i ho
        have y := (X _ _ ho).symm.trans htp
        cases y
      · cases e
  ca := fun X I k => class_of_exc c X I k
end
section
variable {X : Cx} {a D : Addr} {oe : Obj} {d : Addr} {pn : List (Addr × Obj)}
/-- the caught error as the machine sees it -/
theorem inst_exc {pins : List (Addr × Obj)} {σ : L2.St} {H : Hp} {s : Shared} {fs : List (Str × V)} (I : Inv (X.suite a ((a, oe) :: pn)) pins σ H s) (hz : Zc (.ref D) (some d) oe) (hf : ∃ vs, oe.data = .fields vs) (hd : H d = some (.xd fs)) :
    ∃ od, PySem.W.InstAt s.heap a oe D (some od) := by
  obtain ⟨hget, _⟩ := I.pin (a, oe) (List.mem_append_left _ List.mem_cons_self)
  obtain ⟨vs, hv⟩ := hf
  obtain ⟨mA, hns, _⟩ := (show ObjOk X.prog X.w H s.heap d (.xd fs) from I.hok d _ hd)
  obtain ⟨od, ho, _⟩ := lookIn_ns hns
  exact ⟨od, hget, hz.1, by unfold PySem.W.notCls; rw [hv] <;> rfl, by rw [hz.2]; exact ho⟩
/-- isinstance(e, c) -/
def rIsX (K : PySem.W.Frag) (D a : Addr) (cls : Value) (d : Option Addr) : List V → Hp → VK → Prop := fun xs H Q => ∃ (c : V) (u : Value) (b : Bool) (dd : Addr) (fs : List (Str × V)), xs = [.ref a, c] ∧ cls = .ref D ∧ d = some dd ∧ ClsV c u ∧ H dd = some (.xd fs) ∧ PySem.W.kitOne K (.ref D) u = some b ∧ Q (.bl b) H
theorem call_isX {cls : Value} {d : Option Addr} (c : ExcC X.K D) (hz : Zc cls d oe) (hf : ∃ vs, oe.data = .fields vs) : CallR (X.suite a ((a, oe) :: pn)) (.builtin "isinstance") (rIsX X.K D a cls d) := by
  intro pins s σ H xs us Q I r h
  obtain ⟨cv, u, b, dd, fs, rfl, rfl, rfl, k, hd, e, q⟩ := h
  obtain ⟨u1, u2, rfl, r1, r2⟩ := vals2 r
  obtain rfl : u1 = Value.ref a := r1
  have e2 := k.eq r2
  subst e2
  obtain ⟨od, J⟩ := inst_exc I hz hf hd
  exact PySem.W.kia_one (kitx_exc c) I.kIn J e (fun z => nomatch z) fun tk => ⟨.bl b, H, I.tok tk, rfl, q⟩
/-- isinstance(e, (c1, c2, ..)) -/
def rIsXT (K : PySem.W.Frag) (D a : Addr) (cls : Value) (d : Option Addr) : List V → Hp → VK → Prop := fun xs H Q => ∃ (tp : Addr) (cs : List V) (us : List Value) (b : Bool) (dd : Addr) (fs : List (Str × V)), xs = [.ref a, .ref tp] ∧ cls = .ref D ∧ d = some dd ∧
  H tp = some (.tup cs) ∧ Paired ClsV cs us ∧ H dd = some (.xd fs) ∧ PySem.W.kitAny K (.ref D) us = some b ∧ Q (.bl b) H
theorem call_isXT {cls : Value} {d : Option Addr} (c : ExcC X.K D) (hz : Zc cls d oe) (hf : ∃ vs, oe.data = .fields vs) : CallR (X.suite a ((a, oe) :: pn)) (.builtin "isinstance") (rIsXT X.K D a cls d) := by
  intro pins s σ H xs us Q I r h
  obtain ⟨tp, cs, ws, b, dd, fs, rfl, rfl, rfl, hT, k, hd, e, q⟩ := h
  obtain ⟨u1, u2, rfl, r1, r2⟩ := vals2 r
  obtain rfl : u1 = Value.ref a := r1
  obtain rfl : u2 = Value.ref tp := r2
  obtain ⟨od, J⟩ := inst_exc I hz hf hd
  obtain ⟨_, its, rv, o, h1, h2, n, h3⟩ := (show ObjOk X.prog X.w H s.heap tp (.tup cs) from I.hok tp _ hT)
  have e3 := ClsV.all k rv
  subst e3
  obtain ⟨oc, odd, dt, sl⟩ := o
  simp only at h2 h3
  subst h2 h3
  exact PySem.W.kia_tup (kitx_exc c) I.kIn J h1 e (fun z => nomatch z) fun tk => ⟨.bl b, H, I.tok tk, rfl, q⟩
end
section
variable {X : Cx}
/-- repr of any data, also while an error is handled -/
theorem call_reprH (hg : X.A.guards = some []) (hu : X.A.units + 64 < cLine) (hs : SysOk X.K) : CallR X (.builtin "repr") (rReprQ X.K) := by
  intro pins s σ H xs us Q I r h
  obtain ⟨v, d, rfl, hd, hsh, hdep, hz, q⟩ := h
  obtain ⟨u, rfl, ru⟩ := vals1 r
  obtain ⟨as, rd, na⟩ := Dq.reads hs I hd u ru
  have viaRef : ∀ {a : Addr}, u = Value.ref a → wpAny (model X.prog X.w) X.A (call (.builtin "repr") [u]) (EP X pins σ Q) X.xe s := fun {a} e => by
    subst e
    exact repr_of_reads' rd hsh (fun _ => na) hg (by omega) (fun _ _ e => e) (fun h' u tk hk => ⟨.str _, H, I.kept hk, ⟨u, rfl⟩, q⟩) hz
  cases hd with
  | non =>
    cases ru
    exact PySem.P.repr_of_none ⟨.str _, H, I.tok _, ⟨_, rfl⟩, by simpa only [PyData.shown] using q⟩
  | bl b =>
    cases ru
    exact PySem.P.repr_of_bool ⟨.str _, H, I.tok _, ⟨_, rfl⟩, by simpa only [PyData.shown] using q⟩
  | int i =>
    obtain ⟨t, rfl⟩ := ru
    exact PySem.P.repr_of_int (by simpa [PyData.showable] using hsh) ⟨.str _, H, I.tok _, ⟨_, rfl⟩, by simpa only [PyData.shown] using q⟩
  | str x =>
    obtain ⟨t, rfl⟩ := ru
    exact PySem.P.repr_of_str ⟨.str _, H, I.tok _, ⟨_, rfl⟩, by simpa only [PyData.shown] using q⟩ (by simpa only [PyData.shown] using hz)
  | lst hq ha => exact viaRef ru
  | tup hq ha => exact viaRef ru
  | dct hq h1 h2 => exact viaRef ru
end
end Ex

set_option Elab.async false
set_option linter.all false
set_option maxRecDepth 100000
set_option maxHeartbeats 4000000
/-! Own layer: len(o) by an own __len__; what repr shows, within bounds; both law-free. -/
namespace Ex
open PySem PySem.Spec PySem.Calls PyProof.Rows L2 Gu
section
variable {X : Cx} {k j : Nat} {c : Str} {ps : List Str} {sp : Sp}
/-- len(o) by the class's own __len__ -/
def rLenO (C : Addr) (sp : Sp) : List V → Hp → VK → Prop := fun xs H Q => ∃ (a dx : Addr) (fs : List (Str × V)), xs = [.ref a] ∧ H a = some (.ins C dx fs) ∧ sp [.ref a] H (fun v H' => ∃ n : Nat, v = .int n ∧ n ≤ sizeLine ∧ Q (.int n) H') E0
theorem call_lenO (D : Mf X.prog X.w X.K X.mg X.base k c "__len__" ps sp) (hr : Room j X.A) (hj : k + 1 ≤ j := by decide) : CallR X (.builtin "len") (rLenO (He.ga X.K c) sp) := by
  intro pins s σ H xs us Q I r h
  obtain ⟨a, dx, fs, rfl, ha, hq⟩ := h
  obtain ⟨u, rfl, ru⟩ := vals1 r
  obtain rfl : u = Value.ref a := ru
  obtain ⟨fd, F, b⟩ := D.ex
  obtain ⟨mA, J, _⟩ := ins_get I.hok ha
  obtain ⟨od, J, _⟩ := J.look
  have rm : Room k X.A.in1 := (hr.mono hj).in1
  refine Calls.call_function_entry kind_len plain_len entry_len (args_len1 _) ?_
  unfold Builtin.«len»
  refine wpAny_bind (m := oneArg "len" _) (wpAny_pure ?_)
  refine wpAny_bind (m := callSpecial? (.ref a) (Str.ofString "__len__")) (PySem.W.special_fn (name := Str.ofString "__len__") (args := []) I.kIn J D.me.at_ (beq_iff_eq.mp D.me.fn) ?_)
  have e0 : Env0 X.prog X.w X.K X.mg X.base X.A.in1 X.stack s H := by
    have e := I.env0
    exact ⟨e.frames, e.mod, e.bs, e.bsz, e.funs, e.frf, e.hok, e.bare⟩
  have hl := F.len _ _ _ _ hq
  refine wpAny_call (codeAny_mono (F.run X.A.in1 X.stack s H ⟨[.ref a], []⟩ [.ref a] [.ref a] _ E0 rm e0 (by
    have := b s [.ref a] I.kIn (by simpa using hl)
    simpa using this) (.cons rfl .nil) hq) fun r s' hq' => ?_)
  match r, hq' with
  | .ok (.ret u), hq' =>
    obtain ⟨v, H', I', rv, n, rfl, hn, q⟩ := I.after hq'
    obtain ⟨t, rfl⟩ := rv
    have hs : sizeLine = 16777216 := sizeLine_eq
    refine wpAny_bind (wpAny_holding (wpAny_pure ?_))
    refine wpAny_bind (wpAny_letGo ?_)
    show wpAny _ _ (if ((n : Nat) : Int) < 0 then _ else _) _ _ _
    rw [if_neg (by omega)]
    show wpAny _ _ (if ((n : Nat) : Int) ≥ 2 ^ 63 then _ else _) _ _ _
    rw [if_neg (by omega)]
    exact wpAny_bind (wpAny_mkInt (wpAny_pure ⟨_, rfl, ⟨.int n, H', I'.tok _, ⟨_, rfl⟩, q⟩⟩))
end
theorem seqT {K : PySem.W.Frag} {H H' : Hp} {a : Addr} {xs : List V} (e : Same H H') (h : SqT K H a xs) : SqT K H' a xs := by
  rcases h with (h | ⟨o, h⟩) | h
  · exact .inl (.inl (e _ _ h))
  · exact .inl (.inr ⟨o, e _ _ h⟩)
  · exact .inr h
mutual
theorem dq_same {K : PySem.W.Frag} {H H' : Hp} (e : Same H H') : ∀ {v : V} {d : PyData}, Dq K H v d → Dq K H' v d
  | _, _, .non => .non
  | _, _, .bl b => .bl b
  | _, _, .int i => .int i
  | _, _, .str x => .str x
  | _, _, .lst hq ha => .lst (e.seq hq) (dqAll_same e ha)
  | _, _, .tup hq ha => .tup (seqT e hq) (dqAll_same e ha)
  | _, _, .dct hq h1 h2 => .dct (e _ _ hq) (dqAll_same e h1) (dqAll_same e h2)
theorem dqAll_same {K : PySem.W.Frag} {H H' : Hp} (e : Same H H') : ∀ {vs : List V} {ds : List PyData}, DqAll K H vs ds → DqAll K H' vs ds
  | _, _, .nil => .nil
  | _, _, .cons h1 h2 => .cons (dq_same e h1) (dqAll_same e h2)
end
/-- a value as repr shows it: nested at most n deep, at most m signs -/
structure Tq (K : PySem.W.Frag) (H : Hp) (v : V) (d : PyData) (n m : Nat) : Prop where
  dq : Dq K H v d
  sh : d.showable = true
  dp : d.depth ≤ n
  ln : d.shown.length ≤ m
structure TqAll (K : PySem.W.Frag) (H : Hp) (xs : List V) (ds : List PyData) (n m : Nat) : Prop where
  dq : DqAll K H xs ds
  sh : PyData.showableAll ds = true
  dp : PyData.depthAll ds ≤ n
  ln : ((PyData.shownAll ds).map (·.length)).sum + 2 * (PyData.shownAll ds).length ≤ xs.length * (m + 2)
section
variable {K : PySem.W.Frag} {H H' : Hp} {n m : Nat}
theorem Tq.same {v : V} {d : PyData} (t : Tq K H v d n m) (e : Same H H') : Tq K H' v d n m := ⟨dq_same e t.dq, t.sh, t.dp, t.ln⟩
theorem Tq.mono {v : V} {d : PyData} {n' m' : Nat} (t : Tq K H v d n m) (h1 : n ≤ n') (h2 : m ≤ m') : Tq K H v d n' m' := ⟨t.dq, t.sh, Nat.le_trans t.dp h1, Nat.le_trans t.ln h2⟩
theorem TqAll.same {xs : List V} {ds : List PyData} (t : TqAll K H xs ds n m) (e : Same H H') : TqAll K H' xs ds n m := ⟨dqAll_same e t.dq, t.sh, t.dp, t.ln⟩
theorem tq_all : ∀ {xs : List V}, (∀ v ∈ xs, ∃ d, Tq K H v d n m) → ∃ ds, TqAll K H xs ds n m
  | [], _ => ⟨[], .nil, rfl, Nat.zero_le _, Nat.zero_le _⟩
  | v :: xs, h => by
    obtain ⟨d, t⟩ := h v List.mem_cons_self
    obtain ⟨ds, a, b, c, e⟩ := tq_all (xs := xs) fun u hu => h u (List.mem_cons_of_mem _ hu)
    refine ⟨d :: ds, .cons t.dq a, ?_, ?_, ?_⟩
    · show (d.showable && PyData.showableAll ds) = true
      rw [t.sh, b]
      rfl
    · show max d.depth (PyData.depthAll ds) ≤ n
      have := t.dp
      omega
    · show (d.shown.length + ((PyData.shownAll ds).map (·.length)).sum) + 2 * ((PyData.shownAll ds).length + 1) ≤ (xs.length + 1) * (m + 2)
      have := t.ln
      rw [Nat.add_mul, Nat.one_mul]
      omega
theorem TqAll.lst {a : Addr} {xs : List V} {ds : List PyData} (t : TqAll K H xs ds n m) (h : H a = some (.lst xs)) : Tq K H (.ref a) (.list ds) (n + 1) (xs.length * (m + 2) + 3) := by
  refine ⟨.lst (SqL.of h) t.dq, t.sh, ?_, ?_⟩
  · show PyData.depthAll ds + 1 ≤ n + 1
    have := t.dp
    omega
  · have e := listText_len_le (PyData.shownAll ds)
    show (listText (PyData.shownAll ds)).length ≤ _
    have := t.ln
    omega
theorem TqAll.tup {a : Addr} {xs : List V} {ds : List PyData} (t : TqAll K H xs ds n m) (h : H a = some (.tup xs)) : Tq K H (.ref a) (.tuple ds) (n + 1) (xs.length * (m + 2) + 3) := by
  refine ⟨.tup (SqT.of h) t.dq, t.sh, ?_, ?_⟩
  · show PyData.depthAll ds + 1 ≤ n + 1
    have := t.dp
    omega
  · have e := tupleText_len_le (PyData.shownAll ds)
    show (tupleText (PyData.shownAll ds)).length ≤ _
    have := t.ln
    omega
theorem tq_non : Tq K H .non .none 0 41 := ⟨.non, rfl, Nat.le_refl _, by decide +kernel⟩
theorem tq_bl (b : Bool) : Tq K H (.bl b) (.bool b) 0 41 := ⟨.bl b, rfl, Nat.le_refl _, by cases b <;> decide +kernel⟩
theorem tq_int {i : Int} (h1 : -(10 ^ 39) ≤ i) (h2 : i ≤ 10 ^ 39) : Tq K H (.int i) (.int i) 0 41 := by
  have b39 : (10 : Int) ^ 39 = 1000000000000000000000000000000000000000 := by decide
  have e : i.natAbs < 10 ^ 40 := by
    have z : (10 : Nat) ^ 40 = 10000000000000000000000000000000000000000 := by decide
    omega
  have a : i.natAbs.log2 < 1920 := Nat.lt_of_lt_of_le (PySem.Flt.log2_lt_of (k := 200) (by decide) (Nat.lt_trans e (by decide))) (by decide)
  refine ⟨.int i, decide_eq_true a, Nat.le_refl _, ?_⟩
  have z := int_text_length_le10 (k := 40) (by decide) e
  show (Str.ofString (toString i)).length ≤ 41
  rw [PySem.ofString_length]
  exact z
theorem tq_text (z : String) (h : (reprText (Str.ofString z)).length ≤ 41) : Tq K H (.str (Str.ofString z)) (.str (Str.ofString z)) 0 41 := ⟨.str _, rfl, Nat.le_refl _, h⟩
theorem tq_dct {a : Addr} (h : H a = some (.dK [])) : Tq K H (.ref a) (.dict []) 1 41 := ⟨.dct h .nil .nil, rfl, by decide, by decide +kernel⟩
end
theorem code_lt {z : String} {c : Nat} (hc : c ∈ (Str.ofString z).cps.toList) : c < 1114112 := by
  have hc2 : c ∈ z.toList.map Char.toNat := by
    rw [← cpsOfBytes_string]
    simpa [Str.ofString] using hc
  obtain ⟨ch, _, rfl⟩ := List.mem_map.mp hc2
  have v : ch.val.toNat < 55296 ∨ (57343 < ch.val.toNat ∧ ch.val.toNat < 1114112) := ch.valid
  show ch.val.toNat < 1114112
  omega
/-- repr of such a value -/
theorem repr_tq {K : PySem.W.Frag} {H : Hp} {v : V} {d : PyData} {n m : Nat} {Q : VK} (t : Tq K H v d n m) (q : Q (.str d.shown) H) (hn : n ≤ 60 := by decide) (hm : m ≤ sizeLine := by decide) : rReprQ K [v] H Q :=
  ⟨v, d, rfl, t.dq, t.sh, Nat.le_trans t.dp hn, Nat.le_trans t.ln hm, q⟩
end Ex

set_option Elab.async false
set_option linter.all false
set_option maxRecDepth 100000
set_option maxHeartbeats 4000000
/-! Own layer: a == b by an own __eq__ that answers True or False; len(set(xs)) of ints that may be equal. -/
namespace Ex
open PySem PySem.Spec PySem.Calls PyProof.Rows L2 Gu
/-- a class's own == -/
structure EqOf (P : Program) (w : World) (K : PySem.W.Frag) (mg : Str → Option Value) (base : Heap) (k : Nat) (c : Str) (sp : Sp) : Prop where
  ex : ∃ fd, FnOk P w K mg base CX0 k (He.ma K (He.ga K c) "__eq__") fd ["self", "other"] sp ∧ Binds K fd ["self", "other"] []
  at_ : PySem.W.findIn K (.ref (He.ga K c)) "__eq__" = some (some (.ref (He.ma K (He.ga K c) "__eq__")))
  fn : PySem.W.isFn K (.ref (He.ma K (He.ga K c) "__eq__")) = true
/-- what isinstance asks of an own class, and that it knows itself -/
structure InsOk (K : PySem.W.Frag) (C : Addr) : Prop where
  cl : Cls K C
  ha : PySem.W.findIn K (.ref C) "__class__" = some (some (.builtin "object.__class__"))
  hn : PySem.W.specialIn K (.builtin "object.__class__") "__get__" = some (some (.builtin "getset_descriptor.__get__"))
  ht : PySem.W.takesIn K (.builtin "object.__class__") = some true
  hm : PySem.W.mroIn K C (.type "object") = some true
  ki : PySem.W.kitOne K (.ref C) (.ref C) = some true
def insB (K : PySem.W.Frag) (C : Addr) : Bool := He.eqO (PySem.W.findIn K (.ref C) "__class__") (some (some (.builtin "object.__class__"))) && (He.eqO (PySem.W.specialIn K (.builtin "object.__class__") "__get__") (some (some (.builtin "getset_descriptor.__get__"))) &&
  (decide (PySem.W.takesIn K (.builtin "object.__class__") = some true) && (decide (PySem.W.mroIn K C (.type "object") = some true) && decide (PySem.W.kitOne K (.ref C) (.ref C) = some true))))
theorem insB_ok {K : PySem.W.Frag} {C : Addr} (cl : Cls K C) (h : insB K C = true) : InsOk K C := by
  obtain ⟨h1, h⟩ := He.ba h
  obtain ⟨h2, h⟩ := He.ba h
  obtain ⟨h3, h⟩ := He.ba h
  obtain ⟨h4, h5⟩ := He.ba h
  exact ⟨cl, He.eqO_ok h1, He.eqO_ok h2, of_decide_eq_true h3, of_decide_eq_true h4, of_decide_eq_true h5⟩
theorem InsOk.ty {K : PySem.W.Frag} {C a dx : Addr} {fs : List (Str × V)} {H : Hp} (i : InsOk K C) (e : H a = some (.ins C dx fs)) : TyX K H (.ref a) (.ref C) := .base (.ins e i.cl i.ha i.hn i.ht i.hm)
/-- the facts of an own == by one Bool -/
def eqB (K : PySem.W.Frag) (C : Addr) : Bool := He.eqO (PySem.W.findIn K (.ref C) "__eq__") (some (some (.ref (He.ma K C "__eq__")))) && PySem.W.isFn K (.ref (He.ma K C "__eq__"))
theorem eqB_ok {K : PySem.W.Frag} {C : Addr} (h : eqB K C = true) : PySem.W.findIn K (.ref C) "__eq__" = some (some (.ref (He.ma K C "__eq__"))) ∧ PySem.W.isFn K (.ref (He.ma K C "__eq__")) = true := by
  obtain ⟨h1, h2⟩ := He.ba h
  exact ⟨He.eqO_ok h1, h2⟩
def rOwnEq (C : Addr) (sp : Sp) : R2 := fun x y H Q => ∃ a b dx dy fs gs, x = .ref a ∧ y = .ref b ∧ H a = some (.ins C dx fs) ∧ H b = some (.ins C dy gs) ∧ sp [.ref a, .ref b] H (fun v H' => (∃ t, v = .bl t) ∧ Q v H') E0
section
variable {X : Cx} {k j : Nat} {c : Str} {sp : Sp}
theorem op_own (D : EqOf X.prog X.w X.K X.mg X.base k c sp) (hr : Room j X.A) (hj : k ≤ j := by decide) : OpR X (compareOp .Eq) (rOwnEq (He.ga X.K c) sp) := by
  intro pins s σ H x y u v Q I rx ry ⟨a, b, dx, dy, fs, gs, ex, ey, ha, hb, hsp⟩
  subst ex ey
  obtain rfl : u = Value.ref a := rx
  obtain rfl : v = Value.ref b := ry
  obtain ⟨fd, F, bi⟩ := D.ex
  have hr' := hr.mono hj
  obtain ⟨mA, J, _⟩ := ins_get I.hok ha
  obtain ⟨mB, J', _⟩ := ins_get I.hok hb
  obtain ⟨od, J, _⟩ := J.look
  obtain ⟨od', J', _⟩ := J'.look
  obtain ⟨m, hF⟩ := I.fr
  show wpAny (model X.prog X.w) X.A (richCompare .Eq (.ref a) (.ref b)) (EP X pins σ Q) X.xe s
  refine PySem.W.cmp_K (op := .Eq) (tb := .ref (He.ga X.K c)) hr'.units0 hF I.ok.mod.kin J J'.type (by simp [PySem.W.notFirst]) D.at_ D.fn ?_
  have r2 : Vals [V.ref a, V.ref b] [Value.ref a, Value.ref b] := .cons rfl (.cons rfl .nil)
  have bb := bi s [.ref a, .ref b] I.kIn rfl
  refine wpAny_call (codeAny_mono (F.run X.A X.stack s H ⟨[.ref a, .ref b], []⟩ [.ref a, .ref b] [.ref a, .ref b] _ E0 hr' I.env0 (by simpa using bb) r2 hsp) fun r s' hq => ?_)
  match r, hq with
  | .ok (.ret w), hq =>
    obtain ⟨z, H', I', rz, ⟨t, ez⟩, q⟩ := I.after hq
    subst ez
    cases rz
    exact ⟨.bl t, H', I', rfl, q⟩
/-- how many different ones -/
def diff (ns : List Int) : Nat := (ns.foldl step_dedup []).length
theorem range_get (ns : List Int) : (List.range ns.length).map (fun i => ns.getD i 0) = ns := by
  apply List.ext_getElem?
  intro i
  by_cases h : i < ns.length
  · rw [List.getElem?_map, List.getElem?_range h, List.getElem?_eq_getElem h]
    simp [h]
  · rw [List.getElem?_eq_none (by rw [List.length_map, List.length_range]; omega), List.getElem?_eq_none (by omega)]
def tLenSetD (K : PySem.W.Frag) (ta : TE) : TE := fun σ H Q => ta σ H fun x H1 => ∃ (l : Addr) (ns : List Int), x = V.ref l ∧ SqL K H1 l (ns.map V.int) ∧ ns.length < 64 ∧ Q (.int (diff ns : Nat)) H1
theorem pe_lenSetD {a : Expr} {ta : TE} {p p2 q pos : Pos} (hc : X.calm = true) (hg : Gl X "len") (hm : X.mg "len" = none) (hg2 : Gl X "set") (hm2 : X.mg "set" = none) (ha : PE X a ta)
    (na : starEach [a] X.env = (false, eval a X.env) :: starEach [] X.env := by rfl) : PE X (.Call (.Name "len" p) [.Call (.Name "set" p2) [a] [] q] [] pos) (tLenSetD X.K ta) := by
  refine ⟨fun pins s σ H Q I h => Call_ (ld_blt I hg hm PySem.boot_len (PyProof.Rows.callWith_builtin1 (PyProof.Rows.args_cons (Call_ (ld_blt I hg2 hm2 PyProof.Rows.boot_set ?_)) rfl) rfl rfl))⟩
  refine PyProof.Rows.callWith_type1 (PyProof.Rows.args_cons (thn (ha.run pins s σ H _ I h) fun v s1 ⟨x, H1, I1, r1, l, ns, ex, hq, h1, q1⟩ => PyProof.Rows.args_nil ?_) na) na rfl
  subst ex
  obtain rfl : v = Value.ref l := r1
  obtain ⟨its, r, pl, hz⟩ := I1.list hq
  have hl : its.toArray.size = ns.length := by rw [List.size_toArray, ← r.length, List.length_map]
  refine call_set_list (I1.ok.hd hc) pl.isList (ns := ns) (by simpa using r.ints) (by unfold scanBound; omega) fun h' tk hS hk => PyProof.Rows.args_nil ?_
  have ed : (PyProof.Rows.firstMet (fun i => ns.getD i 0) its.toArray.size).length = diff ns := by
    unfold PyProof.Rows.firstMet diff
    rw [hl, range_get]
  have le : diff ns ≤ ns.length := by
    rw [← ed, ← hl]
    exact PyProof.Rows.firstMet_length_le _ _
  obtain ⟨o, es, ep, t, ho, hex, hd, _, _, _, hf, hn⟩ := hS
  rw [ed] at hn
  exact call_len_set ho hex hd hf (by rw [hn] <;> omega) ⟨.int (diff ns : Nat), H1, (I1.kept fun b o e => hk b o (Heap.lt_size e) e).tok _, ⟨_, by rw [hn]⟩, q1⟩
end
end Ex

set_option Elab.async false
set_option linter.all false
set_option maxRecDepth 100000
set_option maxHeartbeats 4000000
/-! Own layer: a != b by an own __eq__ and object's __ne__. -/
namespace HN
open PySem PySem.Spec PyProof.Rows PySem.SeqAt
section
variable {prog : Program} {w : World} {A : Around} {E : Value → Shared → Prop} {s : Shared} {K : PySem.W.Frag} {x C f : Addr} {b tb : Value} {ox : Obj} {od : Option Obj}
theorem objNe_entry {Q : Fin → Shared → Prop} (X : K.In s.heap) (I : PySem.W.InstAt s.heap x ox C od) (hs : PySem.W.findIn K (.ref C) "__eq__" = some (some (.ref f))) (hf : PySem.W.isFn K (.ref f) = true) (hu : A.units < cLine)
    (hcall : wpAny (model prog w) A (call (.ref f) [.ref x, b]) (fun v s' => ∃ t, v = .bool t ∧ Q (.done (.ret (.bool (!t)))) s') E s) :
    wpAny (model prog w) A (Builtin.«object.__ne__» ⟨[.ref x, b], []⟩) Q E s := by
  unfold Builtin.«object.__ne__»
  repeat (first
    | with_reducible refine wpAny_cRoomFor hu ?_
    | (refine wpAny_bind (m := callSpecialIfBound? (.ref x) (Str.ofString "__eq__") [b])
        (PySem.W.ifBound_K X I hs hf (wpAny_mono hcall (fun r s' hr => by
          obtain ⟨t, rfl, hq⟩ := hr
          repeat (first | exact hq | exact wpAny_pure hq | exact wpAny_truthy_bool hq | (refine wpAny_bind (m := truthy (.bool _)) (wpAny_truthy_bool ?_)) | wp_step)) fun _ _ e => e)))
    | wp_step)
theorem call_objNe {Q : Value → Shared → Prop} (X : K.In s.heap) (I : PySem.W.InstAt s.heap x ox C od) (hm : PySem.W.mroIn K C (.type "object") = some true) (hs : PySem.W.findIn K (.ref C) "__eq__" = some (some (.ref f))) (hf : PySem.W.isFn K (.ref f) = true) (hu : A.in1.units < cLine)
    (hcall : wpAny (model prog w) A.in1 (call (.ref f) [.ref x, b]) (fun v s' => ∃ t, v = .bool t ∧ Q (.bool (!t)) s') E s) :
    wpAny (model prog w) A (call (.builtin "object.__ne__") [.ref x, b]) Q E s :=
  wpAny_call (codeAny_call_builtin F.cmp_object.ne.plain F.cmpEntry_ne (PySem.W.check_slot F.cmpKind_ne F.cmpSplit_ne (I.type.andThen (PySem.W.looks_mroIn X hm)) (F.cmpArgs_ne _ _) (objNe_entry X I hs hf hu hcall)))
theorem ifBound_objNe {args : List Value} {Q : Option Value → Shared → Prop} {M : Model} (X : K.In s.heap) (I : PySem.W.InstAt s.heap x ox C od) (hs : PySem.W.findIn K (.ref C) "__ne__" = some (some (.builtin "object.__ne__")))
    (h : wpAny M A (call (.builtin "object.__ne__") (.ref x :: args)) (fun v => Q (some v)) E s) : wpAny M A (callSpecialIfBound? (.ref x) "__ne__" args) Q E s := by
  simp only [callSpecialIfBound?, bindSpecialIfBound?]
  refine wpAny_holding (wpAny_bind (wpAny_bind (wpAny_bind (I.type.here ((PySem.W.looks_findIn X hs).here ?_)))))
  refine wpAny_bind (wpAny_askSetting (wpAny_ite ?_))
  have fin : wpAny M A (call (.builtin "object.__ne__") ([.ref x] ++ args) >>= fun v => pure (some v)) Q E s := wpAny_bind (wpAny_mono h (fun v s' h' => wpAny_pure h') fun _ _ h' => h')
  split
  · exact wpAny_bind (wpAny_of_eq (F.cmp_object.ne.bind _) (wpAny_pure (by exact fin)))
  · exact wpAny_tryCatch (wpAny_bind (wpAny_of_eq (F.cmp_object.ne.bind _) (wpAny_pure (by exact fin))))
theorem ne_K {Q : Value → Shared → Prop} (hu : A.units < cLine) (hu1 : A.in1.units < cLine) (X : K.In s.heap) (I : PySem.W.InstAt s.heap x ox C od) (hb : PySem.W.Looks (model prog w) s.heap (typeOf b) (.ref C)) (hm : PySem.W.mroIn K C (.type "object") = some true)
    (hn : PySem.W.findIn K (.ref C) "__ne__" = some (some (.builtin "object.__ne__"))) (hs : PySem.W.findIn K (.ref C) "__eq__" = some (some (.ref f))) (hf : PySem.W.isFn K (.ref f) = true)
    (hcall : wpAny (model prog w) A.in1 (call (.ref f) [.ref x, b]) (fun v s' => ∃ t, v = .bool t ∧ Q (.bool (!t)) s') E s) : wpAny (model prog w) A (richCompare .NotEq (.ref x) b) Q E s := by
  have one : wpAny (model prog w) A (tryCompare (.ref x) "__ne__" b) (fun r s' => ∃ v, r = some v ∧ Q v s') E s := by
    unfold tryCompare
    refine wpAny_bind (ifBound_objNe X I hn (call_objNe X I hm hs hf hu1 (wpAny_mono hcall (fun v s' hv => ?_) fun _ _ e => e)))
    obtain ⟨t, rfl, q⟩ := hv
    exact ⟨t, rfl, wpAny_pure ⟨_, rfl, q⟩⟩
  simp only [richCompare, cmpInfo_NotEq, oneThing_ref]
  refine wpAny_holding (wpAny_bind (wpAny_cRoomFor hu ?_))
  refine wpAny_bind (I.type.here (wpAny_bind (hb.here ?_)))
  rw [show (Value.ref C != Value.ref C) = false from by simp]
  simp only [Bool.false_eq_true, if_false]
  refine wpAny_bind (wpAny_pure ?_)
  simp only [Bool.false_eq_true, if_false]
  refine wpAny_bind (wpAny_mono one (fun r s' z => ?_) fun _ _ e => e)
  obtain ⟨v, rfl, hq⟩ := z
  exact wpAny_pure hq
end
end HN
namespace Ex
open PySem PySem.Spec PySem.Calls PyProof.Rows L2 Gu
structure NeOk (K : PySem.W.Frag) (C : Addr) : Prop where
  ne : PySem.W.findIn K (.ref C) "__ne__" = some (some (.builtin "object.__ne__"))
  hm : PySem.W.mroIn K C (.type "object") = some true
def neB (K : PySem.W.Frag) (C : Addr) : Bool := He.eqO (PySem.W.findIn K (.ref C) "__ne__") (some (some (.builtin "object.__ne__"))) && decide (PySem.W.mroIn K C (.type "object") = some true)
theorem neB_ok {K : PySem.W.Frag} {C : Addr} (h : neB K C = true) : NeOk K C := by
  obtain ⟨h1, h2⟩ := He.ba h
  exact ⟨He.eqO_ok h1, of_decide_eq_true h2⟩
def rOwnNe (C : Addr) (sp : Sp) : R2 := fun x y H Q => ∃ a b dx dy fs gs, x = .ref a ∧ y = .ref b ∧ H a = some (.ins C dx fs) ∧ H b = some (.ins C dy gs) ∧ sp [.ref a, .ref b] H (fun v H' => ∃ t, v = .bl t ∧ Q (.bl (!t)) H') E0
section
variable {X : Cx} {k j : Nat} {c : Str} {sp : Sp}
theorem op_ownN (D : EqOf X.prog X.w X.K X.mg X.base k c sp) (N : NeOk X.K (He.ga X.K c)) (hr : Room j X.A) (hj : k + 1 ≤ j := by decide) : OpR X (compareOp .NotEq) (rOwnNe (He.ga X.K c) sp) := by
  intro pins s σ H x y u v Q I rx ry ⟨a, b, dx, dy, fs, gs, ex, ey, ha, hb, hsp⟩
  subst ex ey
  obtain rfl : u = Value.ref a := rx
  obtain rfl : v = Value.ref b := ry
  obtain ⟨fd, F, bi⟩ := D.ex
  have hr' := hr.mono hj
  obtain ⟨mA, J, _⟩ := ins_get I.hok ha
  obtain ⟨mB, J', _⟩ := ins_get I.hok hb
  obtain ⟨od, J, _⟩ := J.look
  obtain ⟨od', J', _⟩ := J'.look
  show wpAny (model X.prog X.w) X.A (richCompare .NotEq (.ref a) (.ref b)) (EP X pins σ Q) X.xe s
  refine HN.ne_K hr'.units0 hr'.in1.units0 I.kIn J J'.type N.hm N.ne D.at_ D.fn ?_
  have r2 : Vals [V.ref a, V.ref b] [Value.ref a, Value.ref b] := .cons rfl (.cons rfl .nil)
  have bb := bi s [.ref a, .ref b] I.kIn rfl
  refine wpAny_call (codeAny_mono (F.run X.A.in1 X.stack s H ⟨[.ref a, .ref b], []⟩ [.ref a, .ref b] [.ref a, .ref b] _ E0 hr'.in1 I.env0.in1 (by simpa using bb) r2 hsp) fun r s' hq => ?_)
  match r, hq with
  | .ok (.ret w), hq =>
    obtain ⟨z, H', I', rz, ⟨t, ez, q⟩⟩ := I.after hq
    subst ez
    cases rz
    exact ⟨t, rfl, .bl (!t), H', I', rfl, q⟩
end
end Ex

set_option Elab.async false
set_option linter.all false
set_option maxRecDepth 100000
set_option maxHeartbeats 4000000
/-! Own layer: a built-in value == an instance with its own __eq__ (the built-in declines, then the own one is asked); instance == any value; instance != any value. -/
namespace HQ
open PySem PySem.Spec PyProof.Rows PySem.SeqAt PySem.W
section
variable {prog : Program} {w : World} {A : Around} {E : Value → Shared → Prop} {s : Shared} {K : PySem.W.Frag} {x C f : Addr} {a tb : Value} {ox : Obj} {od : Option Obj} {T id : String}
theorem try_own {nm : Str} {Q : Value → Shared → Prop} (X : K.In s.heap) (I : InstAt s.heap x ox C od) (hs : findIn K (.ref C) nm = some (some (.ref f))) (hf : isFn K (.ref f) = true)
    (h : wpAny (model prog w) A (call (.ref f) [.ref x, a]) (PySem.W.CmpBack Q) E s) : wpAny (model prog w) A (tryCompare (.ref x) nm a) (fun r s' => ∃ v, r = some v ∧ Q v s') E s := by
  unfold tryCompare
  refine wpAny_bind (ifBound_K X I hs hf (wpAny_mono h (fun v s' hv => ?_) fun _ _ e => e))
  cases v <;> first | exact hv.elim | exact wpAny_pure ⟨_, rfl, hv⟩
theorem refl_K {Q : Value → Shared → Prop} (hu : A.units < cLine) (X : K.In s.heap) (I : InstAt s.heap x ox C od) (hs : findIn K (.ref C) "__eq__" = some (some (.ref f))) (hf : isFn K (.ref f) = true)
    (ha : s.TypeIs a T) (slot : Slot T "__eq__" id) (hsub : subIn K (.ref C) (.type T) = some false)
    (hd : ∀ Q' : Value → Shared → Prop, Q' .notImplemented s → wpAny (model prog w) A (call (.builtin id) [a, .ref x]) Q' E s)
    (h : wpAny (model prog w) A (call (.ref f) [.ref x, a]) (PySem.W.CmpBack Q) E s) : wpAny (model prog w) A (richCompare .Eq a (.ref x)) Q E s := by
  have one := try_own X I hs hf h
  simp only [richCompare, cmpInfo_Eq, ha.oneThing_none]
  try with_reducible refine wpAny_holding ?_
  refine wpAny_bind (wpAny_cRoomFor hu ?_)
  refine wpAny_bind (wpAny_typeOf ha (wpAny_bind (I.type.here ?_)))
  rw [show (Value.type T != Value.ref C) = true from by simp, if_pos rfl]
  refine wpAny_bind ((looks_subIn X hsub).here ?_)
  simp only [Bool.false_eq_true, if_false, Bool.not_false, if_true]
  refine wpAny_bind (m := tryCompare a _ (.ref x)) (wpAny_tryCompare_declines ha slot (hd _ ⟨rfl, ?_⟩))
  refine wpAny_bind (m := tryCompare (.ref x) _ a) (wpAny_mono one (fun r s' z => ?_) fun _ _ e => e)
  obtain ⟨v, rfl, hq⟩ := z
  exact wpAny_pure hq
/-! the built-ins decline -/
theorem dec_none (l : Addr) : Gives (Builtin.«NoneType.__eq__» ⟨[.none, .ref l], []⟩) (.val (Value.notImplemented)) :=
  .of_wp fun M A E s Q h => by obtain ⟨hp, g, d, tk, os⟩ := s; wp_walk; exact ⟨_, rfl, h⟩
theorem dec_bool {dx : Addr} {Q : Fin → Shared → Prop}  (X : K.In s.heap) (I : InstAt s.heap x (instObj C dx) C od) (b : Bool) (hsub : subIn K (.ref C) (.type "int") = some false) (h : Q (.done (.ret .notImplemented)) s) :
    wpAny (model prog w) A (Builtin.«int.__eq__» ⟨[.bool b, .ref x], []⟩) Q E s := by
  unfold Builtin.«int.__eq__»
  repeat (first
    | exact h
    | (refine I.type.here ?_)
    | (refine (looks_subIn X hsub).here ?_)
    | (with_reducible refine wpAny_load I.at_ ?_)
    | wp_step)
theorem dec_int {dx : Addr} {Q : Fin → Shared → Prop}  (X : K.In s.heap) (I : InstAt s.heap x (instObj C dx) C od) (i : Int) (t : Tok) (hsub : subIn K (.ref C) (.type "int") = some false) (h : Q (.done (.ret .notImplemented)) s) :
    wpAny (model prog w) A (Builtin.«int.__eq__» ⟨[.int i t, .ref x], []⟩) Q E s := by
  unfold Builtin.«int.__eq__»
  repeat (first
    | exact h
    | (refine I.type.here ?_)
    | (refine (looks_subIn X hsub).here ?_)
    | (with_reducible refine wpAny_load I.at_ ?_)
    | wp_step)
theorem dec_str {dx : Addr} {Q : Fin → Shared → Prop}  (X : K.In s.heap) (I : InstAt s.heap x (instObj C dx) C od) (z : Str) (t : Tok) (hsub : subIn K (.ref C) (.type "str") = some false) (h : Q (.done (.ret .notImplemented)) s) :
    wpAny (model prog w) A (Builtin.«str.__eq__» ⟨[.str z t, .ref x], []⟩) Q E s := by
  unfold Builtin.«str.__eq__»
  repeat (first
    | exact h
    | (refine I.type.here ?_)
    | (refine (looks_subIn X hsub).here ?_)
    | (with_reducible refine wpAny_load I.at_ ?_)
    | wp_step)
theorem dec_list {dx : Addr} {Q : Fin → Shared → Prop} {l : Addr} {items : Array Value} {n : Nat} {dd : Option Addr} {sl : Array (Option Value)} (X : K.In s.heap) (I : InstAt s.heap x (instObj C dx) C od) (hl : s.heap.get? l = some { cls := .type "list", dict := dd, data := .seq items n, slots := sl }) (hsub : subIn K (.ref C) (.type "list") = some false) (h : Q (.done (.ret .notImplemented)) s) :
    wpAny (model prog w) A (Builtin.«list.__eq__» ⟨[.ref l, .ref x], []⟩) Q E s := by
  unfold Builtin.«list.__eq__»
  repeat (first
    | exact h
    | (refine I.type.here ?_)
    | (refine (looks_subIn X hsub).here ?_)
    | (with_reducible refine wpAny_load I.at_ ?_)
    | wp_step)
theorem dec_tuple {dx : Addr} {Q : Fin → Shared → Prop} {l : Addr} {items : Array Value} {n : Nat} {dd : Option Addr} {sl : Array (Option Value)} (X : K.In s.heap) (I : InstAt s.heap x (instObj C dx) C od) (hl : s.heap.get? l = some { cls := .type "tuple", dict := dd, data := .seq items n, slots := sl }) (hsub : subIn K (.ref C) (.type "tuple") = some false) (h : Q (.done (.ret .notImplemented)) s) :
    wpAny (model prog w) A (Builtin.«tuple.__eq__» ⟨[.ref l, .ref x], []⟩) Q E s := by
  unfold Builtin.«tuple.__eq__»
  repeat (first
    | exact h
    | (refine I.type.here ?_)
    | (refine (looks_subIn X hsub).here ?_)
    | (with_reducible refine wpAny_load I.at_ ?_)
    | wp_step)
theorem dec_dict {dx : Addr} {Q : Fin → Shared → Prop} {l : Addr} {es : Array DictEntry} {n : Nat} {dd : Option Addr} {sl : Array (Option Value)} (X : K.In s.heap) (I : InstAt s.heap x (instObj C dx) C od) (hl : s.heap.get? l = some { cls := .type "dict", dict := dd, data := .dict es n, slots := sl }) (hsub : subIn K (.ref C) (.type "dict") = some false) (h : Q (.done (.ret .notImplemented)) s) :
    wpAny (model prog w) A (Builtin.«dict.__eq__» ⟨[.ref l, .ref x], []⟩) Q E s := by
  unfold Builtin.«dict.__eq__»
  repeat (first
    | exact h
    | (refine I.type.here ?_)
    | (refine (looks_subIn X hsub).here ?_)
    | (with_reducible refine wpAny_load I.at_ ?_)
    | wp_step)
end
end HQ

set_option Elab.async false
set_option linter.all false
set_option maxRecDepth 100000
set_option maxHeartbeats 4000000
/-! Own layer: == and != between an instance with its own __eq__ and any built-in value, in both sequences. -/
namespace HQ
open PySem PySem.Spec PyProof.Rows PySem.SeqAt PySem.W
section
variable {prog : Program} {w : World} {A : Around} {E : Value → Shared → Prop} {s : Shared} {K : PySem.W.Frag} {x C f dx l : Addr} {a b tb : Value} {od : Option Obj} {T id : String}
variable {items : Array Value} {n : Nat} {dd : Option Addr} {sl : Array (Option Value)}
/-- an instance of C at x, C's relations in K -/
def At (K : PySem.W.Frag) (x C dx : Addr) (od : Option Obj) (s : Shared) : Prop := K.In s.heap ∧ InstAt s.heap x (instObj C dx) C od
theorem m_none : Meets (Builtin.«NoneType.__eq__» ⟨[.none, .ref x], []⟩) (fun _ R s => R (.ok (.ret .notImplemented)) s) :=
  .of_wp fun prog w A R s h => by obtain ⟨hp, g, d, tk, os⟩ := s; wp_walk; exact ⟨_, rfl, h⟩
theorem m_bool (p : Bool) (hsub : subIn K (.ref C) (.type "int") = some false) : Meets (Builtin.«int.__eq__» ⟨[.bool p, .ref x], []⟩) (fun _ R s => At K x C dx od s ∧ R (.ok (.ret .notImplemented)) s) :=
  .of_wp fun prog w A R s h => dec_bool h.1.1 h.1.2 p hsub ⟨_, rfl, h.2⟩
theorem m_int (i : Int) (t : Tok) (hsub : subIn K (.ref C) (.type "int") = some false) : Meets (Builtin.«int.__eq__» ⟨[.int i t, .ref x], []⟩) (fun _ R s => At K x C dx od s ∧ R (.ok (.ret .notImplemented)) s) :=
  .of_wp fun prog w A R s h => dec_int h.1.1 h.1.2 i t hsub ⟨_, rfl, h.2⟩
theorem m_str (z : Str) (t : Tok) (hsub : subIn K (.ref C) (.type "str") = some false) : Meets (Builtin.«str.__eq__» ⟨[.str z t, .ref x], []⟩) (fun _ R s => At K x C dx od s ∧ R (.ok (.ret .notImplemented)) s) :=
  .of_wp fun prog w A R s h => dec_str h.1.1 h.1.2 z t hsub ⟨_, rfl, h.2⟩
theorem m_list (hsub : subIn K (.ref C) (.type "list") = some false) : Meets (Builtin.«list.__eq__» ⟨[.ref l, .ref x], []⟩) (fun _ R s => At K x C dx od s ∧ s.heap.get? l = some { cls := .type "list", dict := dd, data := .seq items n, slots := sl } ∧ R (.ok (.ret .notImplemented)) s) :=
  .of_wp fun prog w A R s h => dec_list h.1.1 h.1.2 h.2.1 hsub ⟨_, rfl, h.2.2⟩
theorem m_tuple (hsub : subIn K (.ref C) (.type "tuple") = some false) : Meets (Builtin.«tuple.__eq__» ⟨[.ref l, .ref x], []⟩) (fun _ R s => At K x C dx od s ∧ s.heap.get? l = some { cls := .type "tuple", dict := dd, data := .seq items n, slots := sl } ∧ R (.ok (.ret .notImplemented)) s) :=
  .of_wp fun prog w A R s h => dec_tuple h.1.1 h.1.2 h.2.1 hsub ⟨_, rfl, h.2.2⟩
theorem m_dict {es : Array DictEntry} (hsub : subIn K (.ref C) (.type "dict") = some false) : Meets (Builtin.«dict.__eq__» ⟨[.ref l, .ref x], []⟩) (fun _ R s => At K x C dx od s ∧ s.heap.get? l = some { cls := .type "dict", dict := dd, data := .dict es n, slots := sl } ∧ R (.ok (.ret .notImplemented)) s) :=
  .of_wp fun prog w A R s h => dec_dict h.1.1 h.1.2 h.2.1 hsub ⟨_, rfl, h.2.2⟩
theorem ne_KB {Q : Value → Shared → Prop} (hu : A.units < cLine) (hu1 : A.in1.units < cLine) (X : K.In s.heap) (I : InstAt s.heap x (instObj C dx) C od) (hb : Looks (model prog w) s.heap (typeOf b) tb) (hn0 : notFirst K C tb = true) (hm : mroIn K C (.type "object") = some true)
    (hn : findIn K (.ref C) "__ne__" = some (some (.builtin "object.__ne__"))) (hs : findIn K (.ref C) "__eq__" = some (some (.ref f))) (hf : isFn K (.ref f) = true)
    (hcall : wpAny (model prog w) A.in1 (call (.ref f) [.ref x, b]) (fun v s' => ∃ t, v = .bool t ∧ Q (.bool (!t)) s') E s) : wpAny (model prog w) A (richCompare .NotEq (.ref x) b) Q E s := by
  have one : wpAny (model prog w) A (tryCompare (.ref x) "__ne__" b) (fun r s' => ∃ v, r = some v ∧ Q v s') E s := by
    unfold tryCompare
    refine wpAny_bind (HN.ifBound_objNe X I hn (HN.call_objNe X I hm hs hf hu1 (wpAny_mono hcall (fun v s' hv => ?_) fun _ _ e => e)))
    obtain ⟨t, rfl, q⟩ := hv
    exact ⟨t, rfl, wpAny_pure ⟨_, rfl, q⟩⟩
  simp only [richCompare, cmpInfo_NotEq, oneThing_ref]
  refine wpAny_holding (wpAny_bind (wpAny_cRoomFor hu ?_))
  refine wpAny_bind (I.type.here (wpAny_bind (hb.here ?_)))
  split
  · rename_i q
    have e : subIn K tb (.ref C) = some false := by
      rcases Bool.or_eq_true_iff.mp hn0 with e | e
      · rw [beq_iff_eq.mp e] at q; simp at q
      · exact beq_iff_eq.mp e
    refine wpAny_bind ((looks_subIn X e).here ?_)
    simp only [Bool.false_eq_true, if_false]
    refine wpAny_bind (wpAny_mono one (fun r s' z => ?_) fun _ _ e => e)
    obtain ⟨v, rfl, hq⟩ := z
    exact wpAny_pure hq
  · refine wpAny_bind (wpAny_pure ?_)
    simp only [Bool.false_eq_true, if_false]
    refine wpAny_bind (wpAny_mono one (fun r s' z => ?_) fun _ _ e => e)
    obtain ⟨v, rfl, hq⟩ := z
    exact wpAny_pure hq
end
end HQ
namespace Ex
open PySem PySem.Spec PySem.Calls PyProof.Rows L2 Gu
/-- built-in values and their types -/
inductive Bv (H : Hp) : V → String → Prop
  | non : Bv H .non "NoneType"
  | bl (b : Bool) : Bv H (.bl b) "bool"
  | int (i : Int) : Bv H (.int i) "int"
  | str (x : Str) : Bv H (.str x) "str"
  | lst {a : Addr} {xs : List V} : H a = some (.lst xs) → Bv H (.ref a) "list"
  | tup {a : Addr} {xs : List V} : H a = some (.tup xs) → Bv H (.ref a) "tuple"
  | dct {a : Addr} {kvs : List (Key × V)} : H a = some (.dK kvs) → Bv H (.ref a) "dict"
theorem Bv.tyx {K : PySem.W.Frag} {H : Hp} {v : V} {T : String} (h : Bv H v T) : TyX K H v (.type T) := by
  cases h with
  | non => exact .base .non
  | bl b => exact .base (.bl b)
  | int i => exact .base (.int i)
  | str x => exact .base (.str x)
  | lst e => exact .base (.lst e)
  | tup e => exact .base (.tup e)
  | dct e => exact .base (.dK e)
def bus : List String := ["NoneType", "bool", "int", "str", "list", "tuple", "dict"]
theorem Bv.mem {H : Hp} {v : V} {T : String} (h : Bv H v T) : T ∈ bus := by cases h <;> decide
/-- what comparisons with built-in values ask of an own class -/
structure BuOk (K : PySem.W.Frag) (C : Addr) : Prop where
  all : ∀ T ∈ bus, PySem.W.notFirst K C (.type T) = true ∧ PySem.W.subIn K (.ref C) (.type T) = some false ∧ PySem.W.kitOne K (.type T) (.ref C) = some false
def buB (K : PySem.W.Frag) (C : Addr) : Bool := bus.all fun T => PySem.W.notFirst K C (.type T) && (decide (PySem.W.subIn K (.ref C) (.type T) = some false) && decide (PySem.W.kitOne K (.type T) (.ref C) = some false))
theorem buB_ok {K : PySem.W.Frag} {C : Addr} (h : buB K C = true) : BuOk K C := ⟨fun T hT => by
  obtain ⟨h1, h2⟩ := He.ba (List.all_eq_true.mp h T hT)
  obtain ⟨h2, h3⟩ := He.ba h2
  exact ⟨h1, of_decide_eq_true h2, of_decide_eq_true h3⟩⟩
theorem BuOk.kit {K : PySem.W.Frag} {C : Addr} {H : Hp} {v : V} {T : String} (h : BuOk K C) (b : Bv H v T) : PySem.W.kitOne K (.type T) (.ref C) = some false := (h.all T b.mem).2.2
section
variable {X : Cx} {pins : List (Addr × Obj)} {σ : L2.St} {H : Hp} {s : Shared} {k j : Nat} {c : Str} {sp : Sp}
theorem Bv.typeIs (I : Inv X pins σ H s) {v : V} {T : String} {u : Value} (h : Bv H v T) (r : RelV v u) : s.TypeIs u T := by
  cases h with
  | non => cases r; rfl
  | bl b => cases r; rfl
  | int i => obtain ⟨t, rfl⟩ := r; rfl
  | str x => obtain ⟨t, rfl⟩ := r; rfl
  | lst e =>
    cases r
    obtain ⟨its, _, ⟨o, n, ho, hc, _, hd⟩, _⟩ := I.list (SqL.of e)
    exact ⟨o, ho, hc⟩
  | tup e =>
    cases r
    obtain ⟨its, _, ⟨o, ho, hc, n, hd⟩, _⟩ := I.tuple (SqT.of e)
    exact ⟨o, ho, hc⟩
  | dct e =>
    cases r
    obtain ⟨_, _, vs, _, dd⟩ := dk_of I.hok e
    exact dd.typeIs
theorem looks_of {prog : Program} {w : World} {u : Value} {T : String} (h : s.TypeIs u T) : PySem.W.Looks (model prog w) s.heap (typeOf u) (.type T) := by
  cases u with
  | ref a =>
    obtain ⟨o, ho, hc⟩ := h
    exact hc ▸ (PySem.W.Looks.ld ho).andThen .now
  | _ => exact PySem.W.Looks.of_pure h
def rEqB (C : Addr) (sp : Sp) : R2 := fun x y H Q => ∃ a dx fs T, x = .ref a ∧ H a = some (.ins C dx fs) ∧ Bv H y T ∧ sp [.ref a, y] H (fun v H' => (∃ t, v = .bl t) ∧ Q v H') E0
theorem op_eqB (D : EqOf X.prog X.w X.K X.mg X.base k c sp) (B : BuOk X.K (He.ga X.K c)) (hr : Room j X.A) (hj : k ≤ j := by decide) : OpR X (compareOp .Eq) (rEqB (He.ga X.K c) sp) := by
  intro pins s σ H x y u v Q I rx ry ⟨a, dx, fs, T, ex, ha, bv, hsp⟩
  subst ex
  obtain rfl : u = Value.ref a := rx
  obtain ⟨fd, F, bi⟩ := D.ex
  have hr' := hr.mono hj
  obtain ⟨mA, J, _⟩ := ins_get I.hok ha
  obtain ⟨od, J, _⟩ := J.look
  obtain ⟨m, hF⟩ := I.fr
  have ty := bv.typeIs I ry
  show wpAny (model X.prog X.w) X.A (richCompare .Eq (.ref a) v) (EP X pins σ Q) X.xe s
  refine PySem.W.cmp_K (op := .Eq) (tb := .type T) hr'.units0 hF I.ok.mod.kin J (looks_of ty) (B.all T bv.mem).1 D.at_ D.fn ?_
  have r2 : Vals [V.ref a, y] [Value.ref a, v] := .cons rfl (.cons ry .nil)
  have bb := bi s [.ref a, v] I.kIn rfl
  refine wpAny_call (codeAny_mono (F.run X.A X.stack s H ⟨[.ref a, v], []⟩ [.ref a, v] [.ref a, y] _ E0 hr' I.env0 (by simpa using bb) r2 hsp) fun r s' hq => ?_)
  match r, hq with
  | .ok (.ret w), hq =>
    obtain ⟨z, H', I', rz, ⟨t, ez⟩, q⟩ := I.after hq
    subst ez
    cases rz
    exact ⟨.bl t, H', I', rfl, q⟩
def rNeB (C : Addr) (sp : Sp) : R2 := fun x y H Q => ∃ a dx fs T, x = .ref a ∧ H a = some (.ins C dx fs) ∧ Bv H y T ∧ sp [.ref a, y] H (fun v H' => ∃ t, v = .bl t ∧ Q (.bl (!t)) H') E0
theorem op_neB (D : EqOf X.prog X.w X.K X.mg X.base k c sp) (N : NeOk X.K (He.ga X.K c)) (B : BuOk X.K (He.ga X.K c)) (hr : Room j X.A) (hj : k + 1 ≤ j := by decide) : OpR X (compareOp .NotEq) (rNeB (He.ga X.K c) sp) := by
  intro pins s σ H x y u v Q I rx ry ⟨a, dx, fs, T, ex, ha, bv, hsp⟩
  subst ex
  obtain rfl : u = Value.ref a := rx
  obtain ⟨fd, F, bi⟩ := D.ex
  have hr' := hr.mono hj
  obtain ⟨mA, J, _⟩ := ins_get I.hok ha
  obtain ⟨od, J, _⟩ := J.look
  have ty := bv.typeIs I ry
  show wpAny (model X.prog X.w) X.A (richCompare .NotEq (.ref a) v) (EP X pins σ Q) X.xe s
  refine HQ.ne_KB hr'.units0 hr'.in1.units0 I.kIn J (looks_of ty) (B.all T bv.mem).1 N.hm N.ne D.at_ D.fn ?_
  have r2 : Vals [V.ref a, y] [Value.ref a, v] := .cons rfl (.cons ry .nil)
  have bb := bi s [.ref a, v] I.kIn rfl
  refine wpAny_call (codeAny_mono (F.run X.A.in1 X.stack s H ⟨[.ref a, v], []⟩ [.ref a, v] [.ref a, y] _ E0 hr'.in1 I.env0.in1 (by simpa using bb) r2 hsp) fun r s' hq => ?_)
  match r, hq with
  | .ok (.ret w), hq =>
    obtain ⟨z, H', I', rz, ⟨t, ez, q⟩⟩ := I.after hq
    subst ez
    cases rz
    exact ⟨t, rfl, .bl (!t), H', I', rfl, q⟩
def rEqR (C : Addr) (sp : Sp) : R2 := fun x y H Q => ∃ b dx fs T, y = .ref b ∧ H b = some (.ins C dx fs) ∧ Bv H x T ∧ sp [.ref b, x] H (fun v H' => (∃ t, v = .bl t) ∧ Q v H') E0
theorem op_eqR (D : EqOf X.prog X.w X.K X.mg X.base k c sp) (B : BuOk X.K (He.ga X.K c)) (hr : Room j X.A) (hj : k ≤ j := by decide) : OpR X (compareOp .Eq) (rEqR (He.ga X.K c) sp) := by
  intro pins s σ H x y u v Q I rx ry ⟨b, dx, fs, T, ey, hb, bv, hsp⟩
  subst ey
  obtain rfl : v = Value.ref b := ry
  obtain ⟨fd, F, bi⟩ := D.ex
  have hr' := hr.mono hj
  obtain ⟨mA, J, _⟩ := ins_get I.hok hb
  obtain ⟨od, J, _⟩ := J.look
  have ty := bv.typeIs I rx
  have at0 : HQ.At X.K b (He.ga X.K c) dx (some od) s := ⟨I.kIn, J⟩
  have su : ∀ T ∈ bus, PySem.W.subIn X.K (.ref (He.ga X.K c)) (.type T) = some false := fun T hT => (B.all T hT).2.1
  have r2 : Vals [V.ref b, x] [Value.ref b, u] := .cons rfl (.cons rx .nil)
  have bb := bi s [.ref b, u] I.kIn rfl
  have own : wpAny (model X.prog X.w) X.A (call (.ref (He.ma X.K (He.ga X.K c) "__eq__")) [.ref b, u]) (PySem.W.CmpBack (EP X pins σ Q)) X.xe s := by
    refine wpAny_call (codeAny_mono (F.run X.A X.stack s H ⟨[.ref b, u], []⟩ [.ref b, u] [.ref b, x] _ E0 hr' I.env0 (by simpa using bb) r2 hsp) fun r s' hq => ?_)
    match r, hq with
    | .ok (.ret w), hq =>
      obtain ⟨z, H', I', rz, ⟨t, ez⟩, q⟩ := I.after hq
      subst ez
      cases rz
      exact ⟨.bl t, H', I', rfl, q⟩
  have tyT := ty
  show wpAny (model X.prog X.w) X.A (richCompare .Eq u (.ref b)) (EP X pins σ Q) X.xe s
  cases bv with
  | non =>
    cases rx
    exact HQ.refl_K hr'.units0 I.kIn J D.at_ D.fn ty PySem.F.slot_NoneType_eq (su _ (by decide)) (fun Q' q' => call_meets PySem.F.slot_NoneType_eq ty PySem.F.entry_NoneType_eq (PySem.F.args_NoneType_eq_2 _ _) HQ.m_none q') own
  | bl p =>
    cases rx
    exact HQ.refl_K hr'.units0 I.kIn J D.at_ D.fn ty PySem.F.slot_bool_eq (su _ (by decide)) (fun Q' q' => call_meets PySem.F.slot_bool_eq ty PySem.F.entry_int_eq (PySem.F.args_int_eq_2 _ _) (HQ.m_bool p (su "int" (by decide))) ⟨at0, q'⟩) own
  | int i =>
    obtain ⟨t, rfl⟩ := rx
    exact HQ.refl_K hr'.units0 I.kIn J D.at_ D.fn ty PySem.F.slot_int_eq (su _ (by decide)) (fun Q' q' => call_meets PySem.F.slot_int_eq ty PySem.F.entry_int_eq (PySem.F.args_int_eq_2 _ _) (HQ.m_int i t (su "int" (by decide))) ⟨at0, q'⟩) own
  | str z =>
    obtain ⟨t, rfl⟩ := rx
    exact HQ.refl_K hr'.units0 I.kIn J D.at_ D.fn ty PySem.F.slot_str_eq (su _ (by decide)) (fun Q' q' => call_meets PySem.F.slot_str_eq ty PySem.F.entry_str_eq (PySem.F.args_str_eq_2 _ _) (HQ.m_str z t (su "str" (by decide))) ⟨at0, q'⟩) own
  | lst e =>
    cases rx
    obtain ⟨its, _, ⟨⟨oc, od1, odt, osl⟩, n, ho, hc, _, hd⟩, _⟩ := I.list (SqL.of e)
    simp only at hc hd
    subst hc hd
    exact HQ.refl_K hr'.units0 I.kIn J D.at_ D.fn ty PySem.F.slot_list_eq (su _ (by decide)) (fun Q' q' => call_meets PySem.F.slot_list_eq ty PySem.F.entry_list_eq (PySem.F.args_list_eq_2 _ _) (HQ.m_list (su "list" (by decide))) ⟨at0, ho, q'⟩) own
  | tup e =>
    cases rx
    obtain ⟨its, _, ⟨⟨oc, od1, odt, osl⟩, ho, hc, n, hd⟩, _⟩ := I.tuple (SqT.of e)
    simp only at hc hd
    subst hc hd
    exact HQ.refl_K hr'.units0 I.kIn J D.at_ D.fn ty PySem.F.slot_tuple_eq (su _ (by decide)) (fun Q' q' => call_meets PySem.F.slot_tuple_eq ty PySem.F.entry_tuple_eq (PySem.F.args_tuple_eq_2 _ _) (HQ.m_tuple (su "tuple" (by decide))) ⟨at0, ho, q'⟩) own
  | dct e =>
    cases rx
    obtain ⟨_, _, vs, _, ⟨oc, od1, odt, osl⟩, es, ep, ho, hx, hd, _⟩ := dk_of I.hok e
    have hc : oc = .type "dict" := hx.1
    simp only at hd
    subst hc hd
    exact HQ.refl_K hr'.units0 I.kIn J D.at_ D.fn ty PySem.F.slot_dict_eq (su _ (by decide)) (fun Q' q' => call_meets PySem.F.slot_dict_eq ty PySem.F.entry_dict_eq (PySem.F.args_dict_eq_2 _ _) (HQ.m_dict (su "dict" (by decide))) ⟨at0, ho, q'⟩) own
end
end Ex

set_option Elab.async false
set_option linter.all false
set_option maxRecDepth 100000
set_option maxHeartbeats 4000000
/-! Own layer: repr(o) by the class's own __repr__; {x!r} of a list or a tuple of data in an f-string. -/
namespace Ex
open PySem PySem.Spec PySem.Calls PyProof.Rows L2 Gu
/-- methods that are called where no repr is under way -/
structure MfG (P : Program) (w : World) (K : PySem.W.Frag) (mg : Str → Option Value) (base : Heap) (k : Nat) (c m : Str) (ps : List Str) (sp : Sp) : Prop where
  ex : ∃ fd, FnG P w K mg base CX0 k (He.ma K (He.ga K c) m) fd ps sp ∧ Binds K fd ps []
  cl : Cls K (He.ga K c)
  me : Meth K (He.ga K c) m (He.ma K (He.ga K c) m)
section
variable {X : Cx} {k j : Nat} {c : Str} {ps : List Str} {sp : Sp}
def rReprO (C : Addr) (sp : Sp) : List V → Hp → VK → Prop := fun xs H Q => ∃ (a dx : Addr) (fs : List (Str × V)), xs = [.ref a] ∧ H a = some (.ins C dx fs) ∧ sp [.ref a] H (fun v H' => ∃ z : Str, v = .str z ∧ Q (.str z) H') E0
theorem call_reprO (D : MfG X.prog X.w X.K X.mg X.base k c "__repr__" ps sp) (hr : RoomG j X.A) (hj : k + 1 ≤ j := by decide) : CallR X (.builtin "repr") (rReprO (He.ga X.K c) sp) := by
  intro pins s σ H xs us Q I r h
  obtain ⟨a, dx, fs, rfl, ha, hq⟩ := h
  obtain ⟨u, rfl, ru⟩ := vals1 r
  obtain rfl : u = Value.ref a := ru
  obtain ⟨fd, F, b⟩ := D.ex
  obtain ⟨mA, J, _⟩ := ins_get I.hok ha
  obtain ⟨od, J, _⟩ := J.look
  obtain ⟨m, hF⟩ := I.fr
  have rm : RoomG k X.A.in1 := ⟨(hr.r.mono hj).in1, hr.g⟩
  have hl := F.len _ _ _ _ hq
  refine PySem.W.repr_K rm.r.units0 hF I.ok.mod.kin J D.me.at_ D.me.fn ?_
  refine wpAny_call (codeAny_mono (F.run X.A.in1 X.stack s H ⟨[.ref a], []⟩ [.ref a] [.ref a] _ E0 rm I.env0.in1 (by
    have := b s [.ref a] I.kIn (by simpa using hl)
    simpa using this) (.cons rfl .nil) hq) fun r s' hq' => ?_)
  match r, hq' with
  | .ok (.ret u), hq' =>
    obtain ⟨v, H', I', rv, z, rfl, q⟩ := I.after hq'
    obtain ⟨t, rfl⟩ := rv
    exact ⟨.str z, H', I', ⟨t, rfl⟩, q⟩
/-- {x!r}, x a list or a tuple -/
def tFmtRQ (K : PySem.W.Frag) (te : TE) : TE := fun σ H Q => te σ H fun x H1 => ∃ (a : Addr) (d : PyData), x = .ref a ∧ Dq K H1 (.ref a) d ∧ d.showable = true ∧ d.depth ≤ 60 ∧ d.shown.length ≤ sizeLine ∧ Q (.str d.shown) H1
theorem pe_fmtRQ (hr : RoomG k X.A) (hs : SysOk X.K) {e : Expr} {te : TE} {pos : Pos} (he : PE X e te) : PE X (.FormattedValue e 114 none pos) (tFmtRQ X.K te) := by
  refine ⟨fun pins s σ H Q I h => ?_⟩
  refine wpAny_FormattedValue_repr (thn (he.run pins s σ H _ I h) fun v s1 hv => ?_)
  obtain ⟨x, H1, I1, r1, a, d, rfl, hd, hsh, hdep, hz, q⟩ := hv
  obtain ⟨as, rd, na⟩ := Dq.reads hs I1 hd v r1
  obtain rfl : v = Value.ref a := r1
  have hu := hr.r.units
  refine pyReprObj_of_reads rd hsh (fun _ => na) hr.g (by omega) (fun _ _ e => e) (fun h' u tk hk => ?_) hz
  exact wpAny_formatField_str ⟨.str d.shown, H1, I1.kept hk, ⟨_, rfl⟩, q⟩ ⟨.str d.shown, H1, I1.kept hk, ⟨_, rfl⟩, q⟩ hz
end
end Ex

set_option Elab.async false
set_option linter.all false
set_option maxRecDepth 100000
set_option maxHeartbeats 4000000
/-! Own layer: errors with a field over any built-in base (ArithmeticError, LookupError, RuntimeError, ValueError), made and raised. -/
namespace Ex
open PySem PySem.Spec PySem.Calls PyProof.Rows L2 Gu
/-- own classes, then the mro of a built-in base -/
def refsB (tl : List Value) : List Value → Bool
  | .ref _ :: r => refsB tl r
  | l => l == tl
theorem refsB_two (tl : List Value) (l : List Value) (e : refsB tl l = true) : (∃ c r, l = .ref c :: r ∧ refsB tl r = true) ∨ l = tl := by
  cases l with
  | nil => exact .inr (beq_iff_eq.mp e)
  | cons v r => cases v with
    | ref c => exact .inl ⟨c, r, rfl, e⟩
    | _ => exact .inr (beq_iff_eq.mp e)
/-- a built-in base of errors -/
structure BaseE (B : String) (tl : List Value) : Prop where
  ex : ExcBaseFacts B (B ++ ".__new__") (B ++ ".__init__") tl
  pa : ∀ self : Value, refuseLoop self "__setattr__" tl = pure ()
  ob : tl.contains (.type "object") = true
  ne : tl.isEmpty = false
abbrev tailE (B : String) : List Value := [.type B, .type "Exception", .type "BaseException", .type "object"]
theorem base_AE : BaseE "ArithmeticError" (tailE "ArithmeticError") := ⟨F.excBase_ArithmeticError, F.store_ArithmeticError.passes, by decide +kernel, rfl⟩
theorem base_LE : BaseE "LookupError" (tailE "LookupError") := ⟨F.excBase_LookupError, F.store_LookupError.passes, by decide +kernel, rfl⟩
theorem base_RE : BaseE "RuntimeError" (tailE "RuntimeError") := ⟨F.excBase_RuntimeError, F.store_RuntimeError.passes, by decide +kernel, rfl⟩
theorem base_VE : BaseE "ValueError" (tailE "ValueError") := ⟨F.excBase_ValueError, F.store_ValueError.passes, by decide +kernel, rfl⟩
section
variable {B : String} {tl : List Value}
theorem BaseE.pass (b : BaseE B tl) (self : Value) : ∀ l, refsB tl l = true → refuseLoop self "__setattr__" l = pure ()
  | [], e => by
    have z : ([] : List Value) = tl := beq_iff_eq.mp e
    have n := b.ne
    rw [← z] at n
    cases n
  | v :: r, e => by
    rcases refsB_two tl _ e with ⟨c, r', q, h⟩ | q
    · cases q
      rw [refuseLoop_ref]
      exact b.pass self r h
    · rw [q]
      exact b.pa self
theorem BaseE.has (b : BaseE B tl) (Y : String) : ∀ l, refsB tl l = true → l.contains (.type Y) = tl.contains (.type Y)
  | [], e => by
    have z : ([] : List Value) = tl := beq_iff_eq.mp e
    rw [z]
  | v :: r, e => by
    rcases refsB_two tl _ e with ⟨c, r', q, h⟩ | q
    · cases q
      rw [List.contains_cons, b.has Y r h]
      rfl
    · rw [q]
theorem BaseE.some (b : BaseE B tl) {l : List Value} (e : refsB tl l = true) : l.isEmpty = false := by
  cases l with
  | cons _ _ => rfl
  | nil =>
    have z : ([] : List Value) = tl := beq_iff_eq.mp e
    have n := b.ne
    rw [← z] at n
    exact n
end
section
open Builtin Builtin.ObjectAttr
variable {prog : Program} {w : World} {A : Around} {R : Result → Shared → Prop} {hp : Heap} {g : Array GenState} {d : Drawn} {t : Nat} {os : OsState}
/-- the first field of an error is stored by object.__setattr__ -/
theorem first_field {B : String} {tl : List Value} (b : BaseE B tl) {K : W.Frag} {nm : Str} {tk : Tok} {v : Value} {x C : Addr} {fv : Array Value} {cd : ClassData}
    (KX : K.In hp) (hx : hp.get? x = some { cls := .ref C, data := .fields fv }) (hcd : W.clsIn K C = some cd) (mr : refsB tl cd.mro = true) (hdt : cd.hasDict = true) (no : W.findIn K (.ref C) nm = some none)
    (go : ∀ h' tk' dx, (∀ b o, b ≠ x → hp.get? b = some o → h'.get? b = some o) → hp.objs.size ≤ dx → dx ≠ x → h'.get? x = some { cls := .ref C, dict := some dx, data := .fields fv } →
      h'.Ns1 dx (fun y => if y = nm then some v else none) → R (.ok (.ret .none)) ⟨h', g, d, tk', os⟩) :
    codeAny (model prog w) A (.call (.builtin "object.__setattr__") ⟨[.ref x, .str nm tk, v], []⟩) R ⟨hp, g, d, t, os⟩ := by
  have IA : W.InstAt hp x { cls := .ref C, data := .fields fv } C none := ⟨hx, rfl, rfl, trivial⟩
  have so := F.store_object
  have nE := b.some mr
  have isO : cd.mro.contains (.type "object") = true := (b.has "object" _ mr).trans b.ob
  have far : x ≠ hp.objs.size := Nat.ne_of_lt (Heap.lt_size hx)
  have isI : W.Looks (model prog w) hp (isInstance (.ref x) (.type "object")) true := IA.type.andThen (W.looks_mroIn KX (by unfold W.mroIn; rw [hcd, Option.bind_some, if_neg (by rw [nE]; decide), isO]))
  refine codeAny_call_builtin so.slot.plain so.entry (@W.check_slot (model prog w) _ _ ⟨hp, g, d, t, os⟩ "object.__setattr__" "object" "__setattr__" (.ref x) [.str nm tk, v] [] _ so.kind so.split isI (so.args (.ref x) (.str nm tk) v) ?_)
  have lm : W.Looks (model prog w) hp (mroOf (.ref C)) cd.mro := (W.looks_clsIn KX hcd).andThen .now
  have ln : W.Looks (model prog w) hp (storeTaker? none) none := .now
  have lc : W.Looks (model prog w) hp (classData C) cd := W.looks_clsIn KX hcd
  rw [W.osa_eq, refuse_eq]
  refine wpAny_bind (wpAny_bind (IA.type.at (wpAny_bind (lm.at ?_))))
  rw [b.pass _ _ mr]
  refine wpAny_pure (wpAny_bind (IA.type.at (wpAny_bind ((W.looks_findIn KX no).at (wpAny_bind (ln.at ?_))))))
  show wpAny _ _ (storeInOwnDict (.ref x) (.ref C) (.str nm tk) nm v false) _ _ _
  obtain ⟨n1, n2, n3, n4, n5, hd, n7, n8, n9, n10, n11⟩ := cd
  dsimp only at hdt
  subst hdt
  unfold storeInOwnDict ownDictForStores
  repeat (first | with_reducible refine HandSPX.store_in_new ?_ ?_ | with_reducible refine wpAny_loadPart_at hx ?_ | with_reducible refine lc.at ?_ | wp_step)
  · exact ⟨_, #[], _, (Heap.get?_update_ne _ _ _ _ far.symm).trans (Heap.get?_push_at rfl rfl), rfl, fun e he => absurd he (by simp), fun _ => rfl⟩
  · intro h' tk' nn' sb
    have hx1 : (hp.push { cls := .type "dict", data := .dict #[] }).get? x = some { cls := .ref C, data := .fields fv } := Heap.get?_push_of_some _ hx
    exact go h' tk' hp.objs.size (fun c o hc ho => (sb.2 c (Nat.ne_of_lt (Heap.lt_size ho))).trans ((Heap.get?_update_ne _ _ _ _ hc).trans (Heap.get?_push_of_some _ ho))) (Nat.le_refl _) far.symm
      ((sb.2 x far).trans (Heap.get?_update_self _ hx1 rfl)) nn'
end
/-- what the written part says of an error's class over the base B -/
structure OexG (B : String) (tl : List Value) (K : PySem.W.Frag) (C : Addr) : Prop where
  base : BaseE B tl
  cls : ∃ nm q N bs bm sn sub ab col dd k0 k1 k2 k3 k5, K.lookup C = some (excClassObj nm q C N bs bm true sn sub ab col dd k0 k1 k2 k3 k5 (B ++ ".__new__")) ∧ refsB tl bm = true
  sa : PySem.W.findIn K (.ref C) "__setattr__" = some (some (.builtin "object.__setattr__"))
  exC : PySem.W.subIn K (.ref C) (.type "BaseException") = some true
  tyC : PySem.W.typeIn K (.ref C) = some (.type "type")
  kC : PySem.W.keepIn K (.ref C) = true
section
variable {X : Cx} {pins : List (Addr × Obj)} {σ : L2.St} {H : Hp} {s : Shared} {a C dx : Addr} {f : Str} {y : V} {u : Value} {Q : Unit → Shared → Prop} {E : Value → Shared → Prop} {A : Around} {B : String} {tl : List Value}
/-- self.f = y, the first one -/
theorem field_new (T : OexG B tl X.K C) (I : Inv X pins σ H s) (e : H a = some (exo a C none)) (no : PySem.W.findIn X.K (.ref C) f = some none) (ry : RelV y u)
    (go : ∀ dx s', H dx = none → dx ≠ a → Inv X pins σ (upd (upd H dx (exd dx [(f, y)])) a (exo a C (some dx))) s' → Q () s') : wpAny (model X.prog X.w) A (setAttr (.ref a) f u) Q E s := by
  obtain ⟨nm, q, N, bs, bm, sn, sub, ab, col, dd, k0, k1, k2, k3, k5, hC, mr⟩ := T.cls
  have hcl : PySem.W.clsIn X.K C = some { name := nm, bases := bs, mro := .ref C :: bm, ns := N, qualname := q, hasDict := true, slotNames := sn, subclasses := sub, abstract := ab, collection := col, hasDel := false } := by
    unfold PySem.W.clsIn
    rw [hC] <;> rfl
  obtain ⟨t1, at1⟩ := exo_at I.hok e
  obtain ⟨hp, g, dr, tk, os⟩ := s
  refine PySem.W.set_plain I.kIn (ox := { cls := .ref C, dict := none, data := .fields #[.ref t1, .none, .none, .none, .bool false, .none] }) (od := none) ⟨at1, rfl, rfl, trivial⟩ T.sa ?_
  refine first_field T.base I.kIn at1 hcl (show refsB tl (.ref C :: bm) = true from mr) rfl no (fun h' tk' dx k dn dne hx hn => ?_)
  have free : H dx = none := I.hok.fresh dn
  have far : ∀ {b : Addr} {o : Obj}, hp.get? b = some o → b ≠ dx := fun {b o} q => Nat.ne_of_lt (Nat.lt_of_lt_of_le (Heap.lt_size q) dn)
  have na : ∀ {b : Addr}, H b = none → b ≠ a := fun {b} n z => by
    rw [z, e] at n
    cases n
  have at2 : ∀ {b : Addr} {o : HO}, H b = some o → b ≠ a → upd (upd H dx (exd dx [(f, y)])) a (exo a C (some dx)) b = some o := fun {b o} q n => by
    rw [upd_ne n, upd_ne (ne_of_none q free)]
    exact q
  have U : Un X.fs [] H (upd (upd H dx (exd dx [(f, y)])) a (exo a C (some dx))) hp h' := {
    keep := fun b o q n _ _ => k b o (na n) q
    slot := fun b o q n _ _ => ⟨o.slots, k b o (na n) q⟩
    free := fun b o q n _ => (upd_ne (na n)).trans ((upd_ne (far q)).trans n)
    there := fun b o q _ => by
      by_cases hb : b = a
      · rw [hb]
        exact ⟨_, hx⟩
      · exact ⟨o, k b o hb q⟩
    tups := fun b xs q => at2 q (at_ne e q exo_tup)
    frzs := fun b o v q => at2 q (at_ne e q exo_frz)
    tbls := fun b ps q => ⟨#[], by rw [at2 q (at_ne e q exo_tbl)]; simp⟩ }
  refine go dx _ free dne (I.un (t' := tk') U fun b o q => ?_)
  by_cases hb : b = a
  · subst hb
    rw [upd_same] at q
    cases q
    exact exo_ok hx
  · rw [upd_ne hb] at q
    by_cases hd : b = dx
    · subst hd
      rw [upd_same] at q
      cases q
      exact exd_ok hn (relO_put (fs := []) ry fun g => True.intro)
    · rw [upd_ne hd] at q
      refine (I.hok b o q).stay (fun c v hc z => k c v ?_ z) (fun c hc => at2 hc (at_ne e hc exo_own)) (fun c xs hc => at2 hc (at_ne e hc exo_tup))
      rcases hc with hc | hc
      · rw [hc]
        exact hb
      · exact at_ne e hc exo_own
end
/-- self.f = e, the first field of an error -/
def tFst (B : String) (tl : List Value) (K : PySem.W.Frag) (f : Str) (to te : TE) : TS := fun D σ H => te σ H fun y H1 => to σ H1 fun x H2 => ∃ a C : Addr, x = .ref a ∧ OexG B tl K C ∧ PySem.W.findIn K (.ref C) f = some none ∧
  H2 a = some (exo a C none) ∧ ∀ dx, H2 dx = none → dx ≠ a → D.nx σ (upd (upd H2 dx (exd dx [(f, y)])) a (exo a C (some dx)))
section
variable {X : Cx} {o e : Expr} {es : List Expr} {to te : TE} {ta : TA} {f : Str} {p p' pos : Pos} {B : String} {tl : List Value}
theorem ps_fst (ho : PE X o to) (he : PE X e te) (hs : swapsWith e (some (.Attribute o f p')) pos.line X.env = pure false := by rfl) : PS X (.Assign [.Attribute o f p'] e pos) (tFst B tl X.K f to te) := by
  refine ⟨fun pins s σ H D I h => plainObj_wpAny_Assign_Attribute (thn (he.run pins s σ H _ I h) fun v s1 ⟨y, H1, I1, r1, q1⟩ => thn (ho.run pins s1 σ H1 _ I1 q1) fun u s2 ⟨x, H2, I2, r2, a, C, ex, T, no, ea, q⟩ => ?_) hs⟩
  subst ex
  obtain rfl : u = Value.ref a := r2
  exact field_new T I2 ea no r1 fun dx s' n ne J => ⟨σ, _, J, q dx n ne⟩
/-- C(e, ..) for a raise, C's own __init__ keeping sp -/
theorem pmk_oexG {CX : CXT} {x : Str} {C fI : Addr} {k : Nat} {fd : FuncData} {ps : List Str} {sp : Sp} {ds : List Value} {dvs : List V} (T : OexG B tl X.K C) (iC : PySem.W.findIn X.K (.ref C) "__init__" = some (some (.ref fI))) (tI : PySem.W.typeIn X.K (.ref fI) = some (.type "function"))
    (F1 : FnOk X.prog X.w X.K X.mg X.base CX k fI fd ps sp) (hr : Room (k + 1) X.A) (hb : Binds X.K fd ps ds) (hd : Vals dvs ds) (hx : Passes CX X (fun _ _ _ => False)) (hg : Gl X x) (hm : X.mg x = some (.ref C)) (ha : PA X (e :: es) ta)
    (hdb : (x == ("__debug__" : Str)) = false := by decide) (he : starEach (e :: es) X.env = (false, eval e X.env) :: starEach es X.env := by rfl) (hpl : (backTo pos (starEach es X.env)).any (·.1) = false := by rfl) :
    PMk X (.Call (.Name x p) (e :: es) [] pos) (tMkO C sp dvs ta) := by
  intro pins s σ H Q I h
  obtain ⟨nm, q, N, bs, bm, sn, sub, ab, col, dd, k0, k1, k2, k3, k5, hC, mr⟩ := T.cls
  refine wpAny_Call_Name_kw (ld_glob I hg hm (PySem.W.callWith_K (h₀ := X.base) I.ok.mod.kin T.kC (thn (ha.run pos pins s σ H _ I h) fun us s1 ⟨vs, H1, I1, r1, hz, q1⟩ => ⟨I1.kIn, ?_⟩) he hpl) hdb)
  show wpAny _ _ (call (.ref C) us) _ _ _
  obtain ⟨hp, g, dr, tk, os⟩ := s1
  generalize en : hp.objs.size + 1 = n
  have sz : hp.objs.size ≤ n := by omega
  have hq := q1 n (I1.hok.fresh sz)
  generalize ehp : (hp.push (PySem.W.kdv_tup us)).push (PySem.HandSPX.excO C hp.objs.size) = hp2
  have kk : ∀ b o, hp.get? b = some o → hp2.get? b = some o := fun b o e => by
    rw [← ehp]
    exact Heap.get?_push_of_some _ (Heap.get?_push_of_some _ e)
  have hget : hp2.get? n = some (PySem.HandSPX.excO C hp.objs.size) := by
    rw [← ehp, ← en]
    heap_get
  have I2 : Inv X pins σ (upd H1 n (exo n C none)) ⟨hp2, g, dr, tk, os⟩ := I1.laid (t' := tk) kk sz (exo_ok hget)
  have r2 : Vals (V.ref n :: (vs ++ dvs)) (Value.ref n :: (us ++ ds)) := .cons rfl (r1.append hd)
  have hl : (Value.ref n :: us ++ ds).length = ps.length := r2.length.symm.trans (F1.len _ _ _ _ hq)
  have few : us.length ≤ sizeLine := by
    rw [← Paired.length r1, sizeLine_eq]
    omega
  refine wpAny_call (PySem.HandSPX.call_own T.base.ex (fun Y => T.base.has Y bm mr) (I1.kIn _ _ hC) (PySem.W.looks_findIn I1.kIn iC) (fun self => PySem.W.bind_fn I1.kIn self tI) few ?_)
  rw [en, ehp]
  refine codeAny_mono (F1.run _ X.stack _ _ ⟨Value.ref n :: us, []⟩ (Value.ref n :: (us ++ ds)) _ _ (fun _ _ _ => False) (hr.make C us []) (I2.env0.make C us []) (hb _ (Value.ref n :: us) I2.kIn hl) r2 hq) fun r s' hq' => ?_
  match r, hq' with
  | .error er, hq' => exact hx pins σ _ _ er s' I2 hq'
  | .ok (.ret u), hq' =>
    obtain ⟨v, H2, os2, bare2, un2, hok2, rv, ev, d, fs, ea, ed, hd1, q2⟩ := hq'
    subst ev
    obtain ⟨h2, g2, d2, t2, os'⟩ := s'
    exact ⟨rv, mk_end (raises_own T.exC T.tyC) I1 sz kk un2 hok2 os2 bare2 ea ed hd1 q2⟩
end
end Ex

set_option Elab.async false
set_option linter.all false
set_option maxRecDepth 100000
set_option maxHeartbeats 4000000
/-! Own layer: several clauses 'except x as n' of one try, all with the same name n. -/
namespace Ex
open PySem PySem.Spec PySem.Calls PyProof.Rows L2 Gu
abbrev Suites : Type := List (Value × (Addr → Value → Option Addr → TS))
/-- what the clauses wish of an error of the body, one after the other: slot i is n's -/
def wAsAll (K : PySem.W.Frag) (i : Nat) (Wout : WX) (D : Ends) : Suites → WX
  | [] => Wout
  | (c, ts) :: r => wAs K c i ts (wAsAll K i Wout D r) D
inductive HdAs (X : Cx) (n : Str) : List ExceptHandler → Suites → Prop
  | nil : HdAs X n [] []
  | cons {x : Str} {c : Value} {ts : Addr → Value → Option Addr → TS} {b0 : Stmt} {su : List Stmt} {np p2 : Pos} {hs : List ExceptHandler} {l : Suites} (hc : Names X x c)
      (hsu : ∀ (a : Addr) (oe : Obj) (cls : Value) (d : Option Addr) (pn : List (Addr × Obj)), Zc cls d oe → (∃ vs, oe.data = .fields vs) → PSs (X.suite a ((a, oe) :: pn)) (b0 :: su) (ts a cls d)) (r : HdAs X n hs l) :
      HdAs X n (.ExceptHandler (some (.Name x np)) (some n) (b0 :: su) p2 :: hs) ((c, ts) :: l)
section
variable {X : Cx} {n : Str} {i : Nat} {body : List Stmt} {h0 : ExceptHandler} {hds : List ExceptHandler} {l : Suites} {pos : Pos} {tb : WX → TS} {Wout : WX}
theorem ps_try_asAll (hs : X.stack = X.env :: X.outer) (hf : X.env.frame = some X.env.locals) (hN : X.N.Nodup) (hi : X.N[i]? = some n) (hln : X.env.kindOf n = some .local) (tk : Takes X Wout)
    (hb : ∀ (W : WX) (pn : List (Addr × Obj)) (xe : Value → Shared → Prop), Takes (X.tr pn xe) W → PassesOwn (model X.prog X.w) X.A X.env xe → PSs (X.tr pn xe) body (tb W))
    (hh : HdAs X n (h0 :: hds) l) : PS X (.Try body (h0 :: hds) [] [] pos) (fun D σ H => tb (wAsAll X.K i Wout D l) D σ H) := by
  refine ⟨fun pins s σ H D I h => ?_⟩
  have ok := I.ok
  have fr : X.A.frames = some (X.env :: X.outer) := by
    rw [ok.frames, hs]
  refine wpAny_Try_except (wpAny_mono ((hb (wAsAll X.K i Wout D l) (X.pn ++ pins) (fun e s1 => wpAny (model X.prog X.w) X.A (noteFrame e X.env) (fun _ s2 => wpAny (model X.prog X.w) X.A (setFlight e none) (fun _ s3 =>
    wpAny (model X.prog X.w) X.A (handleBy e X.env (h0 :: hds)) (SP X pins D) X.xe s3) X.xe s2) X.xe s1) (fun u s' xx => ?_) PassesOwn.looking).run [] s σ H D (I.toTry _) h) (fun f s1 hsp => ?_) (fun e s1 he => he))
  · obtain ⟨a, B, sI, pins', σ1, H1, cls, d, rfl, J0, nb, up, sky, na, os, ag, w⟩ := xx
    have J : Inv X pins σ1 H1 sI := J0.ofTry ok
    rw [hs] at sky
    show wpAny (model X.prog X.w) X.A (noteFrame (.ref a) X.env) _ _ _
    refine Sky.land Zc.steady fr hf sky fun h3 fl up3 => ?_
    have J3 : Inv X pins σ1 H1 { s' with heap := h3 } := J.landed nb fl.1 (up.trans up3) os ag
    obtain ⟨o3, v3, he3, hz3, hd3⟩ := fl.there
    have nfr : a ∉ frs (X.env :: X.outer) := fun hm => by
      obtain ⟨_, o', e', hnf⟩ := fl.2.2.1.mem hm
      rw [he3] at e'
      cases e'
      exact hnf _ hd3
    have nL : a ≠ X.env.locals := fun z => nfr (List.mem_filterMap.mpr ⟨X.env, List.mem_cons_self, by rw [hf, z]⟩)
    have nF : a ∉ X.fs := fun hm => by
      obtain ⟨e, he, q⟩ := List.mem_filterMap.mp hm
      exact nfr (List.mem_filterMap.mpr ⟨e, List.mem_cons_of_mem _ he, q⟩)
    have S3 := J3.suite he3 hd3 na nL nF
    have go : ∀ {hs2 : List ExceptHandler} {l2 : Suites}, HdAs X n hs2 l2 → wAsAll X.K i Wout D l2 cls d σ1 H1 → wpAny (model X.prog X.w) X.A (handleBy (.ref a) X.env hs2) (SP X pins D) X.xe { s' with heap := h3 } := by
      intro hs2 l2 hk
      induction hk with
      | nil =>
        intro w
        refine wpAny_handleBy_nil ?_
        obtain ⟨_, _, _, oe, vs, Tb, oT, tsT, he, hz, hd, h1, hr⟩ := id fl
        unfold PySem.passOn
        refine wpAny_bind (wpAny_field he hd h1 ?_)
        rw [if_neg (show ¬ ((Value.ref Tb == Value.none) = true) from by simp)]
        have fin : wpAny (model X.prog X.w) X.A (setFlight (.ref a) X.env.frame) (fun _ s4 => wpAny (model X.prog X.w) X.A (throw (.ref a) : Sem Flow) (SP X pins D) X.xe s4) X.xe { s' with heap := h3 } := by
          rw [hf]
          exact HandSPX.setFlight_upZ fl fun h4 hh4 up4 => wpAny_throw (tk _ _ ⟨a, B, sI, pins, σ1, H1, cls, d, rfl, J, nb, (up.trans up3).trans up4, .inr (.inr (by rw [hs]; exact hh4)), na, os, ag, w⟩)
        first
          | exact wpAny_bind (wpAny_pure (wpAny_bind fin))
          | exact wpAny_bind fin
      | @cons x c ts b0 su np p2 hs3 l3 hc hsu r ih =>
        intro w
        obtain ⟨b, hb1, yes, no⟩ := w
        refine wpAny_handleBy_cons (codeAny_handlers_test ?_) (by intro q; cases q)
        have lt : PySem.W.Looks (model X.prog X.w) h3 (typeOf (.ref a)) cls := fun A Q E s k q => wpAny_typeOf_ref (k _ _ he3) (by rw [hz3.1]; exact q)
        have lm := PySem.W.exm_one (M := model X.prog X.w) J3.kIn lt hb1
        have name : ∀ {Q : Value → Shared → Prop} {E : Value → Shared → Prop}, Q c { s' with heap := h3 } → wpAny (model X.prog X.w) (X.A.mark (some (.ref a))) (eval (.Name x np) X.env) Q E { s' with heap := h3 } := fun {Q E} q => by
          obtain ⟨hg, hdbg, hm | ⟨hm, hv, hnn⟩⟩ := hc
          · exact ld_glob (X := X.suite a ((a, o3) :: (X.pn ++ pins))) S3 hg hm q hdbg
          · exact ld_blt (X := X.suite a ((a, o3) :: (X.pn ++ pins))) S3 hg hm hv q hnn hdbg
        refine name (lm.here ?_)
        cases b with
        | false =>
          show wpAny _ X.A (handleBy (.ref a) X.env hs3) _ _ _
          exact ih (no rfl)
        | true =>
          refine codeAny_handlers_suite_as (HandSPX.lands_againZ fl fun h4 fl4 up4 => ?_)
          have J4 : Inv X pins σ1 H1 { s' with heap := h4 } := J.landed nb fl4.1 ((up.trans up3).trans up4) os ag
          obtain ⟨o4, v4, he4, hz4, hd4⟩ := fl4.there
          have S4 := J4.suite he4 hd4 na nL nF
          refine store_ok (X := X.suite a ((a, o4) :: (X.pn ++ pins))) (v := .ref a) S4 hN hi (.inl hln) rfl (fun s5 S5 => ?_) (.inr hln)
          refine wpAny_mono ((hsu a o4 cls d (X.pn ++ pins) hz4 ⟨_, hd4⟩).run [] s5 _ H1 _ S5 (yes rfl a na)) (fun f s6 hsp => ?_) (fun _ _ z => False.elim z)
          have out : ∀ {σ6 : L2.St} {H6 : Hp} {Q : Shared → Prop}, Inv (X.suite a ((a, o4) :: (X.pn ++ pins))) [] σ6 H6 s6 → (∀ s7, Inv X pins (σ6.set i none) H6 s7 → Q s7) →
              wpAny (model X.prog X.w) X.A (do bindName X.env n .none; unbindBehindTheSuite X.env n p2) (fun _ s7 => Q s7) X.xe s6 := fun {σ6 H6 Q} S6 hq => gone_ok (S6.unsuite ok) hN hi hln hq
          match f, hsp with
          | .next, ⟨σ6, H6, S6, q6⟩ => exact out S6 fun s7 J7 => ⟨_, _, J7, q6⟩
          | .brk, ⟨σ6, H6, S6, q6⟩ => exact out S6 fun s7 J7 => ⟨_, _, J7, q6⟩
          | .cont, ⟨σ6, H6, S6, q6⟩ => exact out S6 fun s7 J7 => ⟨_, _, J7, q6⟩
          | .ret u, ⟨v6, σ6, H6, S6, r6, q6⟩ => exact out S6 fun s7 J7 => ⟨_, _, _, J7, r6, q6⟩
    exact go hh w
  · match f, hsp with
    | .next, ⟨σ1, H1, J1, q⟩ => exact wpAny_execs_nil ⟨σ1, H1, J1.ofTry ok, q⟩
    | .brk, ⟨σ1, H1, J1, q⟩ => exact ⟨σ1, H1, J1.ofTry ok, q⟩
    | .cont, ⟨σ1, H1, J1, q⟩ => exact ⟨σ1, H1, J1.ofTry ok, q⟩
    | .ret u, ⟨v, σ1, H1, J1, r, q⟩ => exact ⟨v, σ1, H1, J1.ofTry ok, r, q⟩
end
end Ex

set_option Elab.async false
set_option linter.all false
set_option maxRecDepth 100000
set_option maxHeartbeats 4000000
/-! Own layer: defs that make lambdas; the end of a law whose defs write the tables of their code objects, where no repr is under way. -/
namespace Gu
open PySem PySem.Spec PyProof.Rows L2
section
variable {P : Program} {w : World} {K : PySem.W.Frag} {mg : Str → Option Value} {base : Heap} {CX : CXT} {k : Nat} {f : Addr} {fd : FuncData} {ps : List Str} {sp : Sp}
/-- a def by its body, its code object known -/
theorem okGc {x qual : Str} {params : Arguments} {body : List Stmt} {scope : Scope} {dvs : List V} {kws : List (Str × V)} {N : List Str}
    (F : FunD K x qual params body scope dvs kws f fd) (S : FnScope N ps scope) (len : ∀ vs H Q E, sp vs H Q E → vs.length = ps.length)
    (hbody : ∀ (A : Around) (outer : List Env) (s : Shared) (H : Hp) (vs : List V) (Q : VK) (E : XK),
      RoomG k (A.deeper (envOfC qual scope s.heap.objs.size f fd.code)) → sp vs H Q E →
      ∃ t, PSs (cxOf CX P w K mg base N qual scope f fd.code A outer s H E) body t ∧ t { nx := fun _ H' => Q .non H', rt := Q } (start N vs) H) :
    FnG P w K mg base CX (k + 1) f fd ps sp := by
  obtain ⟨oc, od, dV, kV, doc, pm, an, cdv, ct, osl, rfl, lk, hcd, _, _⟩ := F.ex
  refine ⟨len, fun A outer s H args us vs Q E hr e0 hb rv hsp => ?_⟩
  have KX : K.In s.heap := e0.mod.kin.keeps fun b o e => (e0.bs b o e).1
  have kinds : ∀ y ∈ ps.zip us, scope.names.lookup y.1 = some .local ∨
      (scope.names.lookup y.1 = some .cell ∧ ((cellsFrom (s.heap.objs.size + 1) scope.names []).lookup y.1).isSome = true) := fun ⟨n, v⟩ hy => by
    rcases S.par n (List.of_mem_zip hy).1 with q | q
    · exact .inl q
    · exact .inr ⟨q, PySem.W.cellsFrom_some _ _ _ (.inl q)⟩
  refine codeAny_call_function hr.r.depth (KX _ _ lk) rfl S.co S.gen rfl (PySem.W.codeRec_of KX hcd) (hb _ _ _ _ ?_)
  refine wpAny_newFunctionEnv_cells S.kind kinds fun env he s1 x => ?_
  subst he
  refine ⟨(e0.mod.nolimit.keeps fun b o e => (e0.bs b o e).1).keeps x.toInCall.keep, codeAny_func ?_⟩
  obtain ⟨t, ht, hq⟩ := hbody A outer s H vs Q E (hr.down _) hsp
  have I := inv_start (CX := CX) (E := E) (N := N) (qual := qual) (f := f) (cd := cdv) S hr.r.hd e0 (len _ _ _ _ hsp) rv x
  refine wpAny_mono (ht.run [] s1 (start N vs) H _ I hq) (fun fl s' hs => ?_) fun e s' hs => hs
  match fl, hs with
  | .ret u, ⟨v, σ', H', J, rv', q⟩ => exact ⟨v, H', J.os, J.bare, J.base, J.hok, rv', q⟩
  | .next, ⟨σ', H', J, q⟩ => exact ⟨V.non, H', J.os, J.bare, J.base, J.hok, rfl, q⟩
  | .brk, ⟨_, _, z⟩ => exact z.2.elim
  | .cont, ⟨_, _, z⟩ => exact z.2.elim
end
/-- what stands in the heap before the law's call: the script, and the tables of the code objects cs -/
structure Tab0 (cs : List (Addr × Addr)) (H : Hp) : Prop where
  at_ : ∀ p ∈ cs, H p.2 = some (.tbl #[])
theorem law_goT {P : Program} {w : World} {K : PySem.W.Frag} {mg mb : Str → Option Value} {CX : CXT} {k : Nat} {fa a : Addr} {cs : List (Addr × Addr)} {fd : FuncData} {x : Str} {sp : Sp} {s₁ : Shared} {vs : List Value} {H : Hp}
    (KX : K.In s₁.heap) (hns : s₁.heap.Ns mainGlobals mg) (hb : s₁.heap.Ns builtinsNs mb) (hbb : ∀ x : Str, x ≠ "__name__" → mb x = bootBuiltins x) (hlim : s₁.heap.NoLimit) (hg : s₁.gens = #[])
    (tab : ∀ p ∈ cs, s₁.heap.get? p.2 = some { cls := .none, data := .fields #[] }) (cod : ∀ p ∈ cs, PySem.W.CodeHd s₁.heap p.1 p.2)
    (hbm : ∃ (bm : Addr) (ob : Obj), mg "__builtins__" = some (.ref bm) ∧ bm ≠ builtinsNs ∧ s₁.heap.get? bm = some ob ∧ ob.cls = .type "module" ∧ ob.dict = some builtinsNs ∧ ob.data = .plain)
    (ha : s₁.heap.get? a = some { cls := .type "list", data := .seq vs.toArray }) (hr : RoomG k callerA)
    (F : ∀ base : Heap, K.In base → base.Ns mainGlobals mg → (∀ p ∈ cs, LamX.TabB base mg p.1 p.2) → FnG P w K mg base CX k fa fd [x] sp) (hbind : ∀ (s : Shared) (u : Value), BindsTo s fd ⟨[u], []⟩ [(x, u)])
    (hsp : sp [.ref a] H (fun v _ => v = .bl true) fun _ _ _ => False) (hCX : ∀ e s', CX [] H s₁ (fun _ _ _ => False) e s' → False)
    (hT : Tab0 cs H) (hO : ∀ b, H b = none ∨ b ∈ cs.map (·.2) ∨ ∃ o xs, H b = some (.frz o (.lst xs))) (hok : HOk P w H s₁.heap) (hA : ∀ b, H b ≠ none → b = a ∨ b ∈ cs.map (·.2)) (hK : ∀ b, H b ≠ none → K.lookup b = none) :
    codeAny (model P w) callerA (.call (.ref fa) ⟨[.ref a], []⟩) (fun r s' => r = .ok (.ret (.bool true)) ∧ OldK s₁.heap s'.heap ∧ s'.os = s₁.os ∧ AllBare s'.gens) s₁ := by
  have isT : ∀ b : Addr, b ∈ cs.map (·.2) → s₁.heap.get? b = some { cls := .none, data := .fields #[] } := fun b hb => by
    obtain ⟨p, hp, e⟩ := List.mem_map.mp hb
    rw [← e]
    exact tab p hp
  have un : ∀ {b : Addr} {o : Obj}, s₁.heap.get? b = some o → (∀ zs n, o.data ≠ .seq zs n) → o.data ≠ .fields #[] → H b = none := fun {b o} e h1 h2 => by
    cases q : H b with
    | none => rfl
    | some u =>
      rcases hA b (by rw [q]; exact fun z => nomatch z) with z | z
      · rw [z, ha] at e
        exact (h1 _ _ (congrArg Obj.data (Option.some.inj e)).symm).elim
      · rw [isT b z] at e
        exact (h2 (congrArg Obj.data (Option.some.inj e)).symm).elim
  have nsK : ∀ {b : Addr} {m : Str → Option Value}, s₁.heap.Ns b m → (hidT s₁.heap H).Ns b m := fun {b m} ⟨o, es, ep, e, d, r⟩ =>
    ⟨o, es, ep, hidT_get e (un e (fun zs n z => by rw [d] at z; cases z) (fun z => by rw [d] at z; cases z)), d, r⟩
  have kb : K.In (hidT s₁.heap H) := fun b o e => hidT_get (KX b o e) (by
    cases q : H b with
    | none => rfl
    | some u =>
      rw [hK b (by rw [q]; exact fun z => nomatch z)] at e
      cases e)
  obtain ⟨mc, l1, l2⟩ := hlim
  have tb : ∀ p ∈ cs, LamX.TabB (hidT s₁.heap H) mg p.1 p.2 := fun p hp => by
    refine ⟨?_, ?_, fun z => ?_⟩
    · obtain ⟨o, us, file, tf, flags, tg, inF, text, tt, e1, r1, r2, r3, r4⟩ := cod p hp
      refine ⟨o, us, file, tf, flags, tg, inF, text, tt, hidT_get e1 (un e1 (fun zs n z => by rw [r2] at z; cases z) fun z => ?_), r1, r2, r3, r4⟩
      rw [r2] at z
      cases z
      simp at r3
    · obtain ⟨bm, ob, b1, b2, b3, b4, b5, b6⟩ := hbm
      refine ⟨bm, ob, b1, b2, fun q => ?_, fun q => ?_, hidT_get b3 (un b3 (fun zs n z => by rw [b6] at z; cases z) fun z => by rw [b6] at z; cases z), b4, b5, b6⟩
      · obtain ⟨o, es, ep, e, hd, _⟩ := hns
        rw [q, e] at b3
        cases b3
        rw [hd] at b6
        cases b6
      · rw [q, tab p hp] at b3
        cases b3
        cases b6
    · obtain ⟨o, es, ep, e, hd, _⟩ := hns
      rw [z, tab p hp] at e
      cases e
      cases hd
  have e0 : Env0 P w K mg (hidT s₁.heap H) callerA [] s₁ H :=
    ⟨rfl, ⟨kb, nsK hns, ⟨mb, nsK hb, hbb⟩, ⟨mc, nsK l1, l2⟩⟩, fun b o e => of_hidT e, Nat.le_of_eq (hidT_size _ _), trivial, fun b hb => absurd (show b ∈ ([] : List Addr) from hb) List.not_mem_nil, hok, .of_eq hg⟩
  refine codeAny_mono ((F _ kb (nsK hns) tb).run callerA [] s₁ H ⟨[.ref a], []⟩ [.ref a] [.ref a] _ _ hr e0 (hbind s₁ (.ref a)) (.cons rfl .nil) hsp) fun r s' h => ?_
  match r, h with
  | .error e, h => exact (hCX e s' h).elim
  | .ok (.ret u), h =>
    obtain ⟨v, H', os, bare, un', hok', r', q⟩ := h
    obtain rfl : v = .bl true := q
    obtain rfl : u = Value.bool true := r'
    have key : ∀ b o, b ∉ cs.map (·.2) → s₁.heap.get? b = some o → s'.heap.get? b = some o := fun b o nb e => by
      rcases hO b with z | z | ⟨ob, xs, z⟩
      · exact un'.keep b o e z (fun z => absurd (show b ∈ ([] : List Addr) from z) List.not_mem_nil) (fun z => absurd (show b ∈ ([] : List Addr) from z) List.not_mem_nil)
      · exact absurd z nb
      · obtain ⟨e1, _⟩ := hok b _ z
        obtain ⟨e2, _⟩ := hok' b _ (un'.frzs b ob _ z)
        rw [e] at e1
        rw [Option.some.inj e1]
        exact e2
    have more : ∀ p ∈ cs, ∃ m : Array Value, s'.heap.get? p.2 = some { cls := .none, data := .fields m } := fun p hp => by
      obtain ⟨m, z⟩ := un'.tbls p.2 #[] (hT.at_ p hp)
      exact ⟨_, hok' p.2 _ z⟩
    refine ⟨rfl, ⟨fun b o e => ?_, fun b o e => ?_⟩, os, bare⟩
    · by_cases hb : b ∈ cs.map (·.2)
      · obtain ⟨p, hp, ep⟩ := List.mem_map.mp hb
        obtain ⟨m, hm⟩ := more p hp
        rw [← ep] at e ⊢
        rw [tab p hp] at e
        cases e
        exact .inr (.inl ⟨((cod p hp).tab (tab p hp)).isCodeTable, rfl, #[], m, rfl, by rw [Array.empty_append]; exact hm⟩)
      · exact .inl (key b o hb e)
    · by_cases hb : b ∈ cs.map (·.2)
      · obtain ⟨p, hp, ep⟩ := List.mem_map.mp hb
        obtain ⟨m, hm⟩ := more p hp
        rw [← ep]
        exact ⟨_, hm⟩
      · exact ⟨o, key b o hb e⟩
theorem law_callTG {P : Program} {w : World} {K : PySem.W.Frag} {mg mb : Str → Option Value} {CX : CXT} {k : Nat} {fa a : Addr} {cs : List (Addr × Addr)} {fd : FuncData} {x : Str} {sp : Sp} {s₁ : Shared} {vs : List Value} {ns : List Int}
    (KX : K.In s₁.heap) (hns : s₁.heap.Ns mainGlobals mg) (hb : s₁.heap.Ns builtinsNs mb) (hbb : ∀ x : Str, x ≠ "__name__" → mb x = bootBuiltins x) (hlim : s₁.heap.NoLimit) (hg : s₁.gens = #[])
    (tab : ∀ p ∈ cs, s₁.heap.get? p.2 = some { cls := .none, data := .fields #[] }) (nT : ∀ p ∈ cs, K.lookup p.2 = none) (cod : ∀ p ∈ cs, PySem.W.CodeHd s₁.heap p.1 p.2)
    (hbm : ∃ (bm : Addr) (ob : Obj), mg "__builtins__" = some (.ref bm) ∧ bm ≠ builtinsNs ∧ s₁.heap.get? bm = some ob ∧ ob.cls = .type "module" ∧ ob.dict = some builtinsNs ∧ ob.data = .plain)
    (ha : s₁.heap.get? a = some { cls := .type "list", data := .seq vs.toArray }) (hi : IntsAre vs ns) (hl : ns.length ≤ sizeLine) (hr : RoomG k callerA)
    (F : ∀ base : Heap, K.In base → base.Ns mainGlobals mg → (∀ p ∈ cs, LamX.TabB base mg p.1 p.2) → FnG P w K mg base CX k fa fd [x] sp) (hbind : ∀ (s : Shared) (u : Value), BindsTo s fd ⟨[u], []⟩ [(x, u)])
    (hsp : ∀ H : Hp, Tab0 cs H → SqL K H a (ns.map V.int) → sp [.ref a] H (fun v _ => v = .bl true) fun _ _ _ => False) (hCX : ∀ H e s', CX [] H s₁ (fun _ _ _ => False) e s' → False) :
    codeAny (model P w) callerA (.call (.ref fa) ⟨[.ref a], []⟩) (fun r s' => r = .ok (.ret (.bool true)) ∧ OldK s₁.heap s'.heap ∧ s'.os = s₁.os ∧ AllBare s'.gens) s₁ := by
  have rv := vals_ints hi
  have lenV := hi.length
  have isT : ∀ b : Addr, b ∈ cs.map (·.2) → s₁.heap.get? b = some { cls := .none, data := .fields #[] } ∧ K.lookup b = none := fun b hb => by
    obtain ⟨p, hp, e⟩ := List.mem_map.mp hb
    rw [← e]
    exact ⟨tab p hp, nT p hp⟩
  have aT : a ∉ cs.map (·.2) := fun z => by
    have q := (isT a z).1
    rw [ha] at q
    cases congrArg Obj.data (Option.some.inj q)
  have memT : ∀ p ∈ cs, p.2 ∈ cs.map (·.2) := fun p hp => List.mem_map.mpr ⟨p, hp, rfl⟩
  let H0 : Option HO → Hp := fun z b => if b = a then z else if b ∈ cs.map (·.2) then some (.tbl #[]) else none
  have h_a : ∀ z, H0 z a = z := fun z => if_pos rfl
  have h_t : ∀ z b, b ∈ cs.map (·.2) → H0 z b = some (.tbl #[]) := fun z b hb => (if_neg fun e => aT (by rw [← e]; exact hb)).trans (if_pos hb)
  have h_n : ∀ z b, b ≠ a → b ∉ cs.map (·.2) → H0 z b = none := fun z b n hb => (if_neg n).trans (if_neg hb)
  have t0 : ∀ z, Tab0 cs (H0 z) := fun z => ⟨fun p hp => h_t z _ (memT p hp)⟩
  have two : ∀ z b, H0 z b ≠ none → b = a ∨ b ∈ cs.map (·.2) := fun z b h => by
    by_cases h1 : b = a
    · exact .inl h1
    · by_cases h2 : b ∈ cs.map (·.2)
      · exact .inr h2
      · exact (h (h_n z b h1 h2)).elim
  have tok : ∀ z b u, b ∈ cs.map (·.2) → H0 z b = some u → ObjOk P w (H0 z) s₁.heap b u := fun z b u hb e => by
    rw [h_t z b hb] at e
    cases e
    exact (isT b hb).1
  cases hk : K.lookup a with
  | some o =>
    have e := (KX a o hk).symm.trans ha
    obtain rfl := Option.some.inj e
    refine law_goT (H := H0 none) KX hns hb hbb hlim hg tab cod hbm ha hr F hbind (hsp _ (t0 _) (.inr ⟨_, vs.toArray, _, hk, rfl, rfl, rfl, by rw [List.size_toArray, lenV]; exact hl, by simpa using rv⟩)) (hCX _) (t0 _) (fun b => ?_) (fun b u z => ?_) (two _) (fun b z => ?_)
    · by_cases h2 : b ∈ cs.map (·.2)
      · exact .inr (.inl h2)
      · by_cases h1 : b = a
        · exact .inl (by rw [h1]; exact h_a none)
        · exact .inl (h_n _ b h1 h2)
    · rcases two _ b (by rw [z]; exact fun y => nomatch y) with h1 | h2
      · rw [h1, h_a] at z
        cases z
      · exact tok _ b u h2 z
    · rcases two _ b z with h1 | h2
      · rw [h1, h_a] at z
        exact (z rfl).elim
      · exact (isT b h2).2
  | none =>
    refine law_goT (H := H0 (some (.frz { cls := .type "list", data := .seq vs.toArray } (.lst (ns.map V.int))))) KX hns hb hbb hlim hg tab cod hbm ha hr F hbind (hsp _ (t0 _) (.inl (.inr ⟨_, h_a _⟩))) (hCX _) (t0 _) (fun b => ?_) (fun b u z => ?_) (two _) (fun b z => ?_)
    · by_cases h2 : b ∈ cs.map (·.2)
      · exact .inr (.inl h2)
      · by_cases h1 : b = a
        · exact .inr (.inr ⟨_, _, by rw [h1]; exact h_a _⟩)
        · exact .inl (h_n _ b h1 h2)
    · rcases two _ b (by rw [z]; exact fun y => nomatch y) with h1 | h2
      · rw [h1, h_a] at z
        obtain rfl := Option.some.inj z
        rw [h1]
        exact ⟨ha, by rw [List.length_map]; exact hl, vs, _, rv, ha⟩
      · exact tok _ b u h2 z
    · rcases two _ b z with h1 | h2
      · rw [h1]
        exact hk
      · exact (isT b h2).2
/-- the end of a law with tables, over a head by facts -/
theorem walkGT {l : PySem.W.OpenLaw} {n k : Nat} {q : Program} {loose : List Str} {XP : (Str → Option Value) → Heap → Prop} {YP : World → Heap → Prop} {d : DefRec} {CX : CXT} {x : Str}
    (hn : l.most = some n) (hn2 : n ≤ sizeLine) (hdf : d.params.defaults = []) (hr : RoomG k callerA)
    (F : ∀ (w : World) (mg : Str → Option Value) (fa : Addr) (h : Heap), YP w h → h.Ns mainGlobals mg → mg d.name = some (.ref fa) →
      ∃ (K : PySem.W.Frag) (fd : FuncData) (sp : Sp) (cs : List (Addr × Addr)), K.In h ∧ (∀ p ∈ cs, h.get? p.2 = some { cls := .none, data := .fields #[] }) ∧ (∀ p ∈ cs, K.lookup p.2 = none) ∧ (∀ p ∈ cs, PySem.W.CodeHd h p.1 p.2) ∧ (∀ (s : Shared) (u : Value), BindsTo s fd ⟨[u], []⟩ [(x, u)]) ∧
        (∀ (H : Hp) (a : Addr) (ns : List Int), ns.length ≤ n → Tab0 cs H → SqL K H a (ns.map V.int) → sp [.ref a] H (fun v _ => v = .bl true) fun _ _ _ => False) ∧
        ∀ base : Heap, K.In base → base.Ns mainGlobals mg → (∀ p ∈ cs, LamX.TabB base mg p.1 p.2) → FnG l.prog w K mg base CX k fa fd [x] sp)
    (hCX : ∀ (H : Hp) (s : Shared) (e : Value) (s' : Shared), CX [] H s (fun _ _ _ => False) e s' → False) :
    PySem.W.WalkO q loose XP YP l.row.toRowW d [] (fun f vs => PySem.call f vs) := by
  refine Att.attach_call hn hdf fun w s₀ s₁ mg mb fa o pm cd doc a vs ns G Y ho hd hcd hmg hobj hints hlen hg => ?_
  obtain ⟨K, fd, sp, cs, KX, h1, h2, h3, hb, hsp, hF⟩ := F w mg fa _ Y G.T.g hmg
  exact law_callTG KX G.T.g G.T.b G.T.builtins G.T.nolimit hg h1 h2 h3 G.T.bmain hobj hints (Nat.le_trans hlen hn2) hr hF hb (fun H hT hS => hsp H a ns hlen hT hS) fun H e s' => hCX H s₁ e s'
end Gu

set_option Elab.async false
set_option linter.all false
set_option maxRecDepth 100000
set_option maxHeartbeats 4000000
/-! Own layer: defs and methods that may raise, by their names: called where nothing is let out, in a def that lets errors out, in a try's body; by position and by keywords. -/
namespace Ex
open PySem PySem.Spec PySem.Calls PyProof.Rows L2 Gu
theorem passN {X : Cx} : Passes (L2.CX X.prog X.w) X E0 := fun _ _ _ _ _ _ _ ⟨_, _, _, _, _, _, _, _, _, _, _, _, z⟩ => z.elim
theorem passX {X : Cx} {E : XK} (tk : Takes X (fun cls d _ H => E cls d H)) : Passes (L2.CX X.prog X.w) X E := passes_call tk fun _ _ _ _ h => h
structure DfX (P : Program) (w : World) (K : PySem.W.Frag) (mg : Str → Option Value) (base : Heap) (k : Nat) (x : Str) (ps : List Str) (sp : Sp) : Prop where
  ex : ∃ fd, FnOk P w K mg base (L2.CX P w) k (He.ga K x) fd ps sp ∧ Binds K fd ps []
  gl : mg x = some (.ref (He.ga K x))
  kp : PySem.W.keepIn K (.ref (He.ga K x)) = true
structure MfX (P : Program) (w : World) (K : PySem.W.Frag) (mg : Str → Option Value) (base : Heap) (k : Nat) (c m : Str) (ps : List Str) (sp : Sp) : Prop where
  ex : ∃ fd, FnOk P w K mg base (L2.CX P w) k (He.ma K (He.ga K c) m) fd ps sp ∧ Binds K fd ps []
  cl : Cls K (He.ga K c)
  me : Meth K (He.ga K c) m (He.ma K (He.ga K c) m)
/-- .. called by the keywords ks alone behind self; j: the places of the other parameters among the keywords -/
structure MfXK (P : Program) (w : World) (K : PySem.W.Frag) (mg : Str → Option Value) (base : Heap) (k : Nat) (c m : Str) (ps ks : List Str) (j : List Nat) (sp : Sp) : Prop where
  ex : ∃ fd, FnOk P w K mg base (L2.CX P w) k (He.ma K (He.ga K c) m) fd ps sp ∧ ∀ (s : Shared) (u : Value) (ws : List Value), ws.length = ks.length → BindsTo s fd ⟨[u], ks.zip ws⟩ (ps.zip (u :: j.filterMap fun i => ws[i]?))
  cl : Cls K (He.ga K c)
  me : Meth K (He.ga K c) m (He.ma K (He.ga K c) m)
section
variable {X : Cx} {k j : Nat} {x c m : Str} {ps ks : List Str} {ji : List Nat} {sp : Sp} {p pos apos : Pos} {e o : Expr} {es : List Expr} {kws : List Keyword} {t tk : TA} {ta : TE} {E : XK} {W : WX}
theorem pcallX (D : DfX X.prog X.w X.K X.mg X.base k x ps sp) (hr : Room j X.A) (px : Passes (L2.CX X.prog X.w) X E) (ha : PA X (e :: es) t) (hj : k ≤ j := by decide) (hg : Gl X x := by rfl) (hdb : (x == ("__debug__" : Str)) = false := by decide)
    (he : starEach (e :: es) X.env = (false, eval e X.env) :: starEach es X.env := by rfl) (hpl : (backTo pos (starEach es X.env)).any (·.1) = false := by rfl) :
    PE X (.Call (.Name x p) (e :: es) [] pos) (tCall sp [] E t) := by
  obtain ⟨fd, F, b⟩ := D.ex
  exact pe_call F (hr.mono hj) hg D.gl D.kp b .nil px ha hdb he hpl
theorem pmethX {pl : Sem Bool} (D : MfX X.prog X.w X.K X.mg X.base k c m ps sp) (hr : Room j X.A) (px : Passes (L2.CX X.prog X.w) X E) (he : PE X o ta) (ha : PA X (e :: es) t) (hj : k ≤ j := by decide)
    (hst : starEach (e :: es) X.env = (false, eval e X.env) :: starEach es X.env := by rfl) (hpl : (backTo pos (starEach es X.env)).any (·.1) = false := by rfl)
    (ht : eval (.Call (.Attribute o m apos) (e :: es) [] pos) X.env = (do
      let ov ← eval o X.env
      standAt apos.atName
      let (f, first) ← holding [ov] (getMethod ov m pl)
      callWith pos f first (backTo pos (starEach (e :: es) X.env)) (backToKw pos (keywordEach [] X.env))) := by rfl) :
    PE X (.Call (.Attribute o m apos) (e :: es) [] pos) (tMeth (He.ga X.K c) m sp [] E ta t) := by
  obtain ⟨fd, F, b⟩ := D.ex
  exact pe_meth he D.cl D.me F (hr.mono hj) b .nil px ha hst hpl ht
/-- within a comprehension's block the reading names K by hand -/
theorem pmethXB {pl : Sem Bool} (K : PySem.W.Frag) (D : MfX X.prog X.w X.K X.mg X.base k c m ps sp) (hr : Room j X.A) (px : Passes (L2.CX X.prog X.w) X E) (he : PE X o ta) (ha : PA X (e :: es) t) (hj : k ≤ j := by decide) (hK : X.K = K := by rfl)
    (hst : starEach (e :: es) X.env = (false, eval e X.env) :: starEach es X.env := by rfl) (hpl : (backTo pos (starEach es X.env)).any (·.1) = false := by rfl)
    (ht : eval (.Call (.Attribute o m apos) (e :: es) [] pos) X.env = (do
      let ov ← eval o X.env
      standAt apos.atName
      let (f, first) ← holding [ov] (getMethod ov m pl)
      callWith pos f first (backTo pos (starEach (e :: es) X.env)) (backToKw pos (keywordEach [] X.env))) := by rfl) :
    PE X (.Call (.Attribute o m apos) (e :: es) [] pos) (tMeth (He.ga K c) m sp [] E ta t) := by
  subst hK
  exact pmethX D hr px he ha hj hst hpl ht
def tMethKw (C : Addr) (m : Str) (sp : Sp) (n : Nat) (j : List Nat) (E : XK) (ta : TE) (tk : TA) : TE := fun σ H Q => ta σ H fun x H1 => ∃ a dx fs, x = .ref a ∧ H1 a = some (.ins C dx fs) ∧ fs.lookup m = none ∧
  tk σ H1 fun zs H2 => zs.length = n ∧ sp (x :: j.filterMap fun i => zs[i]?) H2 Q E
theorem pmethXK {pl : Sem Bool} (D : MfXK X.prog X.w X.K X.mg X.base k c m ps ks ji sp) (hr : Room j X.A) (px : Passes (L2.CX X.prog X.w) X E) (he : PE X o ta) (hkw : PK X kws tk) (hj : k ≤ j := by decide)
    (hall : (backToKw pos (keywordEach kws X.env)).all (·.1.isSome) = true := by rfl) (hks : (backToKw pos (keywordEach kws X.env)).filterMap (·.1) = ks := by rfl)
    (hpl : ((backTo pos (starEach [] X.env)).any (·.1) || (backToKw pos (keywordEach kws X.env)).any (·.1.isNone)) = false := by rfl)
    (ht : eval (.Call (.Attribute o m apos) [] kws pos) X.env = (do
      let ov ← eval o X.env
      standAt apos.atName
      let (f, first) ← holding [ov] (getMethod ov m pl)
      callWith pos f first (backTo pos (starEach [] X.env)) (backToKw pos (keywordEach kws X.env))) := by rfl) :
    PE X (.Call (.Attribute o m apos) [] kws pos) (tMethKw (He.ga X.K c) m sp ks.length ji E ta tk) := by
  obtain ⟨fd, F, b⟩ := D.ex
  refine ⟨fun pins s σ H Q I h => PySem.W.methodCall_KW (pl := pl) (thn (he.run pins s σ H _ I h) fun u s1 ⟨x, H1, I1, rx, a, dx, fs, ex, ea, l, q⟩ => ?_) ht⟩
  subst ex
  obtain rfl : u = Value.ref a := rx
  refine getmeth_ok I1 ea D.cl D.me l (PySem.W.callWith_KW0 (first := [.ref a]) (h₀ := X.base) I.ok.mod.kin D.me.kp hall (thn (hkw.run pos pins s1 σ H1 _ I1 q) fun ws s2 ⟨zs, H2, I2, rz, hz, q2⟩ => ⟨I2.kIn, ?_⟩) hpl)
  rw [hks]
  have rv : Vals (V.ref a :: ji.filterMap fun i => zs[i]?) (Value.ref a :: ji.filterMap fun i => ws[i]?) := .cons rfl (vals_pick rz ji)
  refine wpAny_call (codeAny_mono (F.run X.A X.stack s2 H2 ⟨[Value.ref a] ++ [], ks.zip ws⟩ _ _ Q E (hr.mono hj) I2.env0 (b s2 (.ref a) ws (rz.length.symm.trans hz)) rv q2) fun r s' hq => ?_)
  match r, hq with
  | .error e, hq => exact px pins σ H2 s2 e s' I2 hq
  | .ok (.ret u), hq => exact I2.after hq
end
section
variable {X : Cx} {k j : Nat} {c m : Str} {ps : List Str} {sp : Sp} {pos apos : Pos} {e o : Expr} {es : List Expr} {t : TA} {ta : TE} {W : WX}
/-- o.m(e, ..) in a try's body -/
def tMethT (C : Addr) (m : Str) (sp : Sp) (E : L2.St → XK) (ta : TE) (t : TA) : TE := fun σ H Q => ta σ H fun x H1 => ∃ a dx fs, x = .ref a ∧ H1 a = some (.ins C dx fs) ∧ fs.lookup m = none ∧ t σ H1 fun vs H2 => sp (x :: vs) H2 Q (E σ)
theorem pmethT {pl : Sem Bool} (D : MfX X.prog X.w X.K X.mg X.base k c m ps sp) (hr : Room j X.A) (tk : Takes X W) (he : PE X o ta) (ha : PA X (e :: es) t) (hj : k ≤ j := by decide)
    (hst : starEach (e :: es) X.env = (false, eval e X.env) :: starEach es X.env := by rfl) (hpl : (backTo pos (starEach es X.env)).any (·.1) = false := by rfl)
    (ht : eval (.Call (.Attribute o m apos) (e :: es) [] pos) X.env = (do
      let ov ← eval o X.env
      standAt apos.atName
      let (f, first) ← holding [ov] (getMethod ov m pl)
      callWith pos f first (backTo pos (starEach (e :: es) X.env)) (backToKw pos (keywordEach [] X.env))) := by rfl) :
    PE X (.Call (.Attribute o m apos) (e :: es) [] pos) (tMethT (He.ga X.K c) m sp (WE W) ta t) := by
  obtain ⟨fd, F, b⟩ := D.ex
  refine ⟨fun pins s σ H Q I h => PySem.W.methodCall_KW (pl := pl) (thn (he.run pins s σ H _ I h) fun u s1 ⟨x, H1, I1, rx, a, dx, fs, ex, ea, l, q⟩ => ?_) ht⟩
  subst ex
  obtain rfl : u = Value.ref a := rx
  refine getmeth_ok I1 ea D.cl D.me l (PySem.W.callWith_K (first := [.ref a]) (h₀ := X.base) I.ok.mod.kin D.me.kp (thn (ha.run pos pins s1 σ H1 _ I1 q) fun us s2 ⟨vs, H2, I2, r, q2⟩ => ⟨I2.kIn, ?_⟩) hst hpl)
  exact run_fnS (E := WE W) (us := .ref a :: us) (vs := .ref a :: vs) F (hr.mono hj) b (passAt tk σ) I2 (.cons rfl r) q2
end
/-! ### facts of an error's class over any base -/
def oexGB (B : String) (K : PySem.W.Frag) (C : Addr) : Bool := match K.lookup C with
  | some ⟨.type "type", _, .cls cd, sl⟩ => (match cd.mro, sl.toList with
    | .ref c :: bm, [_, _, _, _, some (.builtin n), _] => (c == C && n == B ++ ".__new__") && ((!cd.hasDel && cd.hasDict) && refsB (tailE B) bm)
    | _, _ => false)
  | _ => false
theorem oexGB_ok {B : String} {K : PySem.W.Frag} {C : Addr} (h : oexGB B K C = true) :
    ∃ nm q N bs bm sn sub ab col dd k0 k1 k2 k3 k5, K.lookup C = some (excClassObj nm q C N bs bm true sn sub ab col dd k0 k1 k2 k3 k5 (B ++ ".__new__")) ∧ refsB (tailE B) bm = true := by
  unfold oexGB at h
  split at h
  · rename_i dd cd sl ho
    split at h
    · rename_i c bm k0 k1 k2 k3 n k5 hm hs
      obtain ⟨⟨h1, h2⟩, h3⟩ := (He.ba h).imp_left He.ba
      obtain ⟨h4, h5⟩ := He.ba h3
      obtain ⟨h6, h7⟩ := He.ba h4
      have e1 : c = C := beq_iff_eq.mp h1
      have e2 : n = B ++ ".__new__" := beq_iff_eq.mp h2
      have e3 : cd.hasDel = false := by simpa using h6
      subst e1 e2
      obtain ⟨nm, bs, mro, ns, qn, hd, sn, sub, ab, col, del⟩ := cd
      dsimp only at hm e3 h7
      subst hm e3 h7
      have e4 : sl = #[k0, k1, k2, k3, some (.builtin (B ++ ".__new__")), k5] := by
        obtain ⟨l⟩ := sl
        simp only at hs
        rw [hs]
      subst e4
      exact ⟨nm, qn, ns, bs, bm, sn, sub, ab, col, dd, k0, k1, k2, k3, k5, ho, h5⟩
    · cases h
  · cases h
def bOf (a : Option Bool) (b : Bool) : Bool := decide (a = some b)
theorem bOf_ok {a : Option Bool} {b : Bool} (h : bOf a b = true) : a = some b := of_decide_eq_true h
/-- what the rules ask of an error's class at C, over B, with the field n -/
def errG (B : String) (K : PySem.W.Frag) (C : Addr) (n : Str) : Bool := oexGB B K C && (He.eqO (PySem.W.findIn K (.ref C) "__setattr__") (some (some (.builtin "object.__setattr__"))) && (bOf (PySem.W.subIn K (.ref C) (.type "BaseException")) true &&
  (decide (PySem.W.typeIn K (.ref C) = some (.type "type")) && (PySem.W.keepIn K (.ref C) && (xfB K C && (He.eqO (PySem.W.findIn K (.ref C) "__class__") (some (some (.builtin "object.__class__"))) &&
  (He.eqO (PySem.W.specialIn K (.builtin "object.__class__") "__get__") (some (some (.builtin "getset_descriptor.__get__"))) && (bOf (PySem.W.takesIn K (.builtin "object.__class__")) true && (bOf (PySem.W.mroIn K C (.type "object")) true &&
  (He.eqO (PySem.W.findIn K (.ref C) n) (some none) && (He.eqO (PySem.W.findIn K (.ref C) "__init__") (some (some (.ref (He.ma K C "__init__")))) && (decide (PySem.W.typeIn K (.ref (He.ma K C "__init__")) = some (.type "function")) && bOf (PySem.W.exmOne K (.ref C) (.ref C)) true))))))))))))
structure ErrG (B : String) (K : PySem.W.Frag) (C : Addr) (n : Str) : Prop where
  ox : OexG B (tailE B) K C
  xf : XfC K C
  ec : ExcC K C
  no : PySem.W.findIn K (.ref C) n = some none
  ii : PySem.W.findIn K (.ref C) "__init__" = some (some (.ref (He.ma K C "__init__")))
  ti : PySem.W.typeIn K (.ref (He.ma K C "__init__")) = some (.type "function")
  em : PySem.W.exmOne K (.ref C) (.ref C) = some true
theorem errG_ok {B : String} {K : PySem.W.Frag} {C : Addr} {n : Str} (b : BaseE B (tailE B)) (h : errG B K C n = true) : ErrG B K C n := by
  obtain ⟨a1, h⟩ := He.ba h
  obtain ⟨a2, h⟩ := He.ba h
  obtain ⟨a3, h⟩ := He.ba h
  obtain ⟨a4, h⟩ := He.ba h
  obtain ⟨a5, h⟩ := He.ba h
  obtain ⟨a6, h⟩ := He.ba h
  obtain ⟨a7, h⟩ := He.ba h
  obtain ⟨a8, h⟩ := He.ba h
  obtain ⟨a9, h⟩ := He.ba h
  obtain ⟨a10, h⟩ := He.ba h
  obtain ⟨a11, h⟩ := He.ba h
  obtain ⟨a12, h⟩ := He.ba h
  obtain ⟨a13, a14⟩ := He.ba h
  have x := xfB_ok a6
  exact ⟨⟨b, oexGB_ok a1, He.eqO_ok a2, bOf_ok a3, of_decide_eq_true a4, a5⟩, x, ⟨x.ga, x.gg, x.exC, x.hdC, He.eqO_ok a7, He.eqO_ok a8, bOf_ok a9, bOf_ok a10⟩, He.eqO_ok a11, He.eqO_ok a12, of_decide_eq_true a13, bOf_ok a14⟩
/-- an error's __init__ with one field -/
def spErr (C : Addr) (n : Str) : Sp := fun vs H Q _ => ∃ (a : Addr) (v : V), vs = [.ref a, v] ∧ H a = some (exo a C none) ∧ ∀ dx, H dx = none → dx ≠ a → Q .non (upd (upd H dx (exd dx [(n, v)])) a (exo a C (some dx)))
/-- the error's maker, for a raise -/
structure Ei (P : Program) (w : World) (K : PySem.W.Frag) (mg : Str → Option Value) (base : Heap) (c n : Str) : Prop where
  ex : ∃ fd, FnOk P w K mg base CX0 1 (He.ma K (He.ga K c) "__init__") fd ["self", n] (spErr (He.ga K c) n) ∧ Binds K fd ["self", n] []
theorem heap_err {H : Hp} {a dx : Addr} {fs : List (Str × V)} {o1 o2 o3 : HO} (ha : H a = none) (hd : H dx = none) : Same H (upd (del (upd (upd (upd H a o1) dx o2) a o3) a) dx (.xd fs)) := fun b o e => by
  have nb : b ≠ a := ne_of_none e ha
  have nd : b ≠ dx := ne_of_none e hd
  rw [upd_ne nd, del_ne nb, upd_ne nb, upd_ne nd, upd_ne nb]
  exact e
/-- what is asked at a raise of C(v): that the def's own wish of errors holds of it -/
theorem raise_ok {K : PySem.W.Frag} {c n : Str} {v : V} {H : Hp} {E : XK} (q : ∀ d H', H d = none → Same H H' → H' d = some (.xd [(n, v)]) → E (.ref (He.ga K c)) (some d) H') :
    ∀ a, H a = none → spErr (He.ga K c) n (.ref a :: ([v] ++ [])) (upd H a (exo a (He.ga K c) none))
      (fun u H2 => u = .non ∧ ∃ (d : Addr) (fs : List (Str × V)), H2 a = some (exo a (He.ga K c) (some d)) ∧ H2 d = some (exd d fs) ∧ H d = none ∧ E (.ref (He.ga K c)) (some d) (upd (del H2 a) d (.xd fs))) (fun _ _ _ => False) := fun a ha => by
  refine ⟨a, v, rfl, upd_same, fun dx hdx ne => ⟨rfl, dx, [(n, v)], upd_same, ?_, ?_, ?_⟩⟩
  · rw [upd_ne ne, upd_same]
  · rw [upd_ne ne] at hdx
    exact hdx
  · rw [upd_ne ne] at hdx
    exact q dx _ hdx (heap_err ha hdx) upd_same
end Ex

set_option Elab.async false
set_option linter.all false
set_option maxRecDepth 100000
set_option maxHeartbeats 4000000
/-! Own layer: classmethods by their names (also in a try's body, also by keywords), making an object through a local name or by keywords. -/
namespace Ex
open PySem PySem.Spec PySem.Calls PyProof.Rows L2 Gu
theorem fnR_of {P : Program} {w : World} {K : PySem.W.Frag} {mg : Str → Option Value} {base : Heap} {CX : CXT} {k : Nat} {f : Addr} {fd : FuncData} {ps : List Str} {sp : Sp} (F : FnOk P w K mg base CX k f fd ps sp) (b : Binds K fd ps []) : FnR P w K mg base CX k f sp :=
  fun A outer s H us vs Q E hr e0 rv h => by
    have hl := F.len _ _ _ _ h
    have KX : K.In s.heap := e0.mod.kin.keeps fun b o e => (e0.bs b o e).1
    have z := b s us KX (by rw [List.append_nil, ← rv.length]; exact hl)
    rw [List.append_nil] at z
    exact F.run A outer s H ⟨us, []⟩ us vs Q E hr e0 z rv h
/-- the classmethod m of the class c -/
structure Cm (P : Program) (w : World) (K : PySem.W.Frag) (mg : Str → Option Value) (base : Heap) (CX : CXT) (k : Nat) (c m : Str) (ps : List Str) (sp : Sp) : Prop where
  rd : ClX.CRead K (He.ga K c) (.type "type")
  ex : ∃ (p g : Addr) (fd : FuncData), ClX.CMet K (He.ga K c) (.type "type") m p g ∧ FnOk P w K mg base CX k g fd ps sp ∧ Binds K fd ps []
def tCMethT (C : Addr) (sp : Sp) (E : L2.St → XK) (ta : TE) (t : TA) : TE := fun σ H Q => ta σ H fun x H1 => x = .ref C ∧ t σ H1 fun vs H2 => sp (.ref C :: vs) H2 Q (E σ)
section
variable {X : Cx} {k j i : Nat} {c m x : Str} {ps : List Str} {sp : Sp} {p pos apos : Pos} {o e : Expr} {es : List Expr} {kws : List Keyword} {t : TA} {ta : TE} {W : WX} {E : XK} {pl : Sem Bool}
open ClX in
theorem pcmT (D : Cm X.prog X.w X.K X.mg X.base (L2.CX X.prog X.w) k c m ps sp) (hr : Room j X.A) (tk : Takes X W) (he : PE X o ta) (ha : PA X (e :: es) t) (hj : k ≤ j := by decide)
    (hst : starEach (e :: es) X.env = (false, eval e X.env) :: starEach es X.env := by rfl) (hpl : (backTo pos (starEach es X.env)).any (·.1) = false := by rfl)
    (ht : eval (.Call (.Attribute o m apos) (e :: es) [] pos) X.env = (do
      let ov ← eval o X.env
      standAt apos.atName
      let (f, first) ← holding [ov] (getMethod ov m pl)
      callWith pos f first (backTo pos (starEach (e :: es) X.env)) (backToKw pos (keywordEach [] X.env))) := by rfl) :
    PE X (.Call (.Attribute o m apos) (e :: es) [] pos) (tCMethT (He.ga X.K c) sp (WE W) ta t) := by
  obtain ⟨pa, g, fd, cm, F, b⟩ := D.ex
  have R := fnR_of F b
  refine ⟨fun pins s σ H Q I h => ?_⟩
  refine PySem.W.methodCall_KW (pl := pl) (thn (he.run pins s σ H _ I h) fun u s1 ⟨x, H1, I1, rx, ex, q⟩ => ?_) ht
  subst ex
  obtain rfl : u = Value.ref (He.ga X.K c) := rx
  refine getmethcm_ok I1 D.rd cm fun s2 I2 => ?_
  refine callwith_cm I2 (base_none I1 (Nat.le_refl _)) cm.fi (thn (ha.run pos _ s2 σ H1 _ I2 q) fun us s3 ⟨vs, H2, I3, rv, q2⟩ => ⟨⟨pin_at I3, I3.kIn⟩, ?_⟩) hst hpl
  have z : wpAny (model X.prog X.w) X.A (call (.ref s1.heap.objs.size) us) (EP X ((s1.heap.objs.size, PySem.W.methodObj (.ref g) (.ref (He.ga X.K c))) :: pins) σ Q) X.xe s3 := by
    refine wpAny_call (PySem.W.method_call (pin_at I3) (codeAny_mono (R X.A X.stack s3 H2 (.ref (He.ga X.K c) :: us) (.ref (He.ga X.K c) :: vs) Q (WE W σ) (hr.mono hj) I3.env0 (.cons rfl rv) q2) fun r s' hq => ?_))
    match r, hq with
    | .error e, hq => exact passAt tk σ _ H2 s3 e s' I3 hq
    | .ok (.ret v), hq => exact I3.after hq
  exact thn z fun _ _ y => unpinE y
theorem pcm (D : Cm X.prog X.w X.K X.mg X.base (L2.CX X.prog X.w) k c m ps sp) (hr : Room j X.A) (hx : Passes (L2.CX X.prog X.w) X E) (he : PE X o ta) (ha : PA X (e :: es) t) (hj : k ≤ j := by decide)
    (hst : starEach (e :: es) X.env = (false, eval e X.env) :: starEach es X.env := by rfl) (hpl : (backTo pos (starEach es X.env)).any (·.1) = false := by rfl)
    (ht : eval (.Call (.Attribute o m apos) (e :: es) [] pos) X.env = (do
      let ov ← eval o X.env
      standAt apos.atName
      let (f, first) ← holding [ov] (getMethod ov m pl)
      callWith pos f first (backTo pos (starEach (e :: es) X.env)) (backToKw pos (keywordEach [] X.env))) := by rfl) :
    PE X (.Call (.Attribute o m apos) (e :: es) [] pos) (ClX.tCMeth (He.ga X.K c) sp E ta t) := by
  obtain ⟨pa, g, fd, cm, F, b⟩ := D.ex
  exact ClX.pe_cmeth he D.rd cm (fnR_of F b) (hr.mono hj) hx ha hst hpl ht
/-- C(e, ..), C in a local slot, its __init__ may raise -/
def tMakeL (i : Nat) (C : Addr) (sp : Sp) (E : L2.St → XK) (t : TA) : TE := fun σ H Q => σ[i]? = some (some (.ref C)) ∧ t σ H fun vs H1 => ∀ x dx, H1 x = none → H1 dx = none → dx ≠ x →
  sp (.ref x :: vs) (upd (upd H1 dx (.own x)) x (.ins C dx [])) (fun v H2 => v = .non ∧ Q (.ref x) H2) (E σ)
structure KfX (P : Program) (w : World) (K : PySem.W.Frag) (mg : Str → Option Value) (base : Heap) (CX : CXT) (k : Nat) (c : Str) (ps : List Str) (sp : Sp) : Prop where
  ex : ∃ fd, FnOk P w K mg base CX k (He.ma K (He.ga K c) "__init__") fd ps sp ∧ Binds K fd ps []
  gl : mg c = some (.ref (He.ga K c))
  mkr : Mk K (He.ga K c) (He.ma K (He.ga K c) "__init__")
def tMakeT (C : Addr) (sp : Sp) (E : L2.St → XK) (t : TA) : TE := fun σ H Q => t σ H fun vs H1 => ∀ x dx, H1 x = none → H1 dx = none → dx ≠ x →
  sp (.ref x :: vs) (upd (upd H1 dx (.own x)) x (.ins C dx [])) (fun v H2 => v = .non ∧ Q (.ref x) H2) (E σ)
theorem run_makeT {pins : List (Addr × Obj)} {σ : L2.St} {H1 : Hp} {s1 : Shared} {Q : VK} {us : List Value} {vs : List V} {CX : CXT} {E : L2.St → XK} (D : KfX X.prog X.w X.K X.mg X.base CX k c ps sp) (hr : Room j X.A) (hx : PassesAt CX X σ (E σ)) (hj : k + 1 ≤ j) (I1 : Inv X pins σ H1 s1) (r : Vals vs us)
    (q : ∀ x dx, H1 x = none → H1 dx = none → dx ≠ x → sp (.ref x :: vs) (upd (upd H1 dx (.own x)) x (.ins (He.ga X.K c) dx [])) (fun v H2 => v = .non ∧ Q (.ref x) H2) (E σ)) :
    wpAny (model X.prog X.w) X.A (call (.ref (He.ga X.K c)) us) (EP X pins σ Q) X.xe s1 := by
  obtain ⟨fd, F, hb⟩ := D.ex
  have hq := q (s1.heap.objs.size + 1) s1.heap.objs.size (I1.hok.fresh (Nat.le_succ _)) (I1.hok.fresh (Nat.le_refl _)) (Nat.ne_of_lt (Nat.lt_succ_self _))
  have J := Inv.made (C := He.ga X.K c) I1
  have r2 : Vals (V.ref (s1.heap.objs.size + 1) :: vs) (Value.ref (s1.heap.objs.size + 1) :: us) := .cons rfl r
  have hl : ((Value.ref (s1.heap.objs.size + 1) :: us) ++ []).length = ps.length := by
    rw [List.append_nil, ← r2.length]
    exact F.len _ _ _ _ hq
  have hb2 := hb _ (Value.ref (s1.heap.objs.size + 1) :: us) J.kIn hl
  rw [List.append_nil] at hb2
  refine wpAny_call (make_map (f := He.ma X.K (He.ga X.K c) "__init__") I1.kIn D.mkr.makes D.mkr.init (beq_iff_eq.mp D.mkr.fn)
    (codeAny_mono (F.run _ X.stack _ _ ⟨Value.ref (s1.heap.objs.size + 1) :: us, []⟩ _ _ _ _ ((hr.mono hj).make (He.ga X.K c) us []) (J.env0.make (He.ga X.K c) us []) hb2 r2 hq) fun o s' z => ?_))
  match o, z with
  | .error er, z => exact hx pins _ _ er s' J z
  | .ok (.ret u), z =>
    obtain ⟨v, H', I3, rv, ev, q3⟩ := J.after z
    subst ev
    exact ⟨rv, ⟨V.ref (s1.heap.objs.size + 1), H', I3, rfl, q3⟩⟩
theorem pmakeT {CX : CXT} {E : L2.St → XK} (D : KfX X.prog X.w X.K X.mg X.base CX k c ps sp) (hr : Room j X.A) (hx : ∀ σ, PassesAt CX X σ (E σ)) (ha : PA X (e :: es) t) (hj : k + 1 ≤ j := by decide) (hg : Gl X c := by rfl) (hdb : (c == ("__debug__" : Str)) = false := by decide)
    (he : starEach (e :: es) X.env = (false, eval e X.env) :: starEach es X.env := by rfl) (hpl : (backTo pos (starEach es X.env)).any (·.1) = false := by rfl) :
    PE X (.Call (.Name c p) (e :: es) [] pos) (tMakeT (He.ga X.K c) sp E t) :=
  ⟨fun pins s σ H Q I h => wpAny_Call_Name_kw (ld_glob I hg D.gl (PySem.W.callWith_K (h₀ := X.base) I.ok.mod.kin D.mkr.kp
    (thn (ha.run pos pins s σ H _ I h) fun us s1 ⟨vs, H1, I1, r, q⟩ => ⟨I1.kIn, run_makeT D hr (hx σ) hj I1 r q⟩) he hpl) hdb)⟩
theorem pmakeLT {CX : CXT} {E : L2.St → XK} (D : KfX X.prog X.w X.K X.mg X.base CX k c ps sp) (hr : Room j X.A) (hx : ∀ σ, PassesAt CX X σ (E σ)) (hN : X.N[i]? = some x) (hv : Vis X.env.scope x) (ha : PA X (e :: es) t) (hj : k + 1 ≤ j := by decide)
    (hdb : (x == ("__debug__" : Str)) = false := by decide) (hcd : (x == ("__classdict__" : Str)) = false := by decide)
    (he : starEach (e :: es) X.env = (false, eval e X.env) :: starEach es X.env := by rfl) (hpl : (backTo pos (starEach es X.env)).any (·.1) = false := by rfl) :
    PE X (.Call (.Name x p) (e :: es) [] pos) (tMakeL i (He.ga X.K c) sp E t) := by
  refine ⟨fun pins s σ H Q I h => ?_⟩
  obtain ⟨hs, ht⟩ := h
  refine wpAny_Call_Name_kw (thn ((pe_var (pos := p) hN hv hdb hcd).run pins s σ H (fun v H1 => v = .ref (He.ga X.K c) ∧ H1 = H) I ⟨.ref (He.ga X.K c), hs, rfl, rfl⟩) fun u s1 ⟨v, H1, I1, r1, q1⟩ => ?_)
  obtain ⟨rfl, rfl⟩ := q1
  cases r1
  exact PySem.W.callWith_K (h₀ := X.base) I.ok.mod.kin D.mkr.kp (thn (ha.run pos pins s1 σ _ _ I1 ht) fun us s2 ⟨vs, H2, I2, r, q⟩ => ⟨I2.kIn, run_makeT D hr (hx σ) hj I2 r q⟩) he hpl
end
/-- a def by its body, for calls while an exception is handled -/
theorem okH {P : Program} {w : World} {K : PySem.W.Frag} {mg : Str → Option Value} {base : Heap} {CX : CXT} {x qual : Str} {params : Arguments} {body : List Stmt} {scope : Scope} {dvs : List V} {kws : List (Str × V)} {f : Addr} {fd : FuncData} {N ps : List Str} {k : Nat} {sp : Sp}
    (F : FunD K x qual params body scope dvs kws f fd) (S : FnScope N ps scope) (len : ∀ vs H Q E, sp vs H Q E → vs.length = ps.length)
    (hbody : ∀ (cdv : Value) (A : Around) (outer : List Env) (s : Shared) (H : Hp) (vs : List V) (Q : VK) (E : XK) (p : Addr × Obj), L2H.Hot1 A p → L2H.RoomH k (A.deeper (envOfC qual scope s.heap.objs.size f cdv)) → sp vs H Q E →
      ∃ t, PSs (L2H.cxH CX P w K mg base N qual scope f cdv A outer s H E p) body t ∧ t { nx := fun _ H' => Q .non H', rt := Q } (L2.start N vs) H) : L2H.FnH P w K mg base CX (k + 1) f fd ps sp := by
  obtain ⟨oc, od, dV, kV, doc, pm, an, cdv, ct, osl, rfl, lk, hcd, _, _⟩ := F.ex
  exact L2H.fn_ofH lk hcd S len fun A outer s H vs Q E p hot hr hsp => hbody cdv A outer s H vs Q E p hot hr hsp
end Ex

set_option Elab.async false
set_option linter.all false
set_option maxRecDepth 100000
set_option maxHeartbeats 4000000
/-! Own layer: raises whose exception has no context, as a suite that raises anew wants them. -/
namespace Ex
open PySem PySem.Spec PySem.Calls PyProof.Rows L2 Gu
section
variable {X : Cx} {o e : Expr} {es : List Expr} {to te : TE} {ta : TA} {f : Str} {p p' pos : Pos} {B : String} {tl : List Value}
/-- C(e, ..) for a raise, C's own __init__ keeping sp -/
theorem pmk_oexN {CX : CXT} {x : Str} {C fI : Addr} {k : Nat} {fd : FuncData} {ps : List Str} {sp : Sp} {ds : List Value} {dvs : List V} (T : OexG B tl X.K C) (iC : PySem.W.findIn X.K (.ref C) "__init__" = some (some (.ref fI))) (tI : PySem.W.typeIn X.K (.ref fI) = some (.type "function"))
    (F1 : FnOk X.prog X.w X.K X.mg X.base CX k fI fd ps sp) (hr : Room (k + 1) X.A) (hb : Binds X.K fd ps ds) (hd : Vals dvs ds) (hx : Passes CX X (fun _ _ _ => False)) (hg : Gl X x) (hm : X.mg x = some (.ref C)) (ha : PA X (e :: es) ta)
    (hdb : (x == ("__debug__" : Str)) = false := by decide) (he : starEach (e :: es) X.env = (false, eval e X.env) :: starEach es X.env := by rfl) (hpl : (backTo pos (starEach es X.env)).any (·.1) = false := by rfl) :
    L2N.PMk X (.Call (.Name x p) (e :: es) [] pos) (tMkO C sp dvs ta) := by
  intro pins s σ H Q I h
  obtain ⟨nm, q, N, bs, bm, sn, sub, ab, col, dd, k0, k1, k2, k3, k5, hC, mr⟩ := T.cls
  refine wpAny_Call_Name_kw (ld_glob I hg hm (PySem.W.callWith_K (h₀ := X.base) I.ok.mod.kin T.kC (thn (ha.run pos pins s σ H _ I h) fun us s1 ⟨vs, H1, I1, r1, hz, q1⟩ => ⟨I1.kIn, ?_⟩) he hpl) hdb)
  show wpAny _ _ (call (.ref C) us) _ _ _
  obtain ⟨hp, g, dr, tk, os⟩ := s1
  generalize en : hp.objs.size + 1 = n
  have sz : hp.objs.size ≤ n := by omega
  have hq := q1 n (I1.hok.fresh sz)
  generalize ehp : (hp.push (PySem.W.kdv_tup us)).push (PySem.HandSPX.excO C hp.objs.size) = hp2
  have kk : ∀ b o, hp.get? b = some o → hp2.get? b = some o := fun b o e => by
    rw [← ehp]
    exact Heap.get?_push_of_some _ (Heap.get?_push_of_some _ e)
  have hget : hp2.get? n = some (PySem.HandSPX.excO C hp.objs.size) := by
    rw [← ehp, ← en]
    heap_get
  have I2 : Inv X pins σ (upd H1 n (exo n C none)) ⟨hp2, g, dr, tk, os⟩ := I1.laid (t' := tk) kk sz (exo_ok hget)
  have r2 : Vals (V.ref n :: (vs ++ dvs)) (Value.ref n :: (us ++ ds)) := .cons rfl (r1.append hd)
  have hl : (Value.ref n :: us ++ ds).length = ps.length := r2.length.symm.trans (F1.len _ _ _ _ hq)
  have few : us.length ≤ sizeLine := by
    rw [← Paired.length r1, sizeLine_eq]
    omega
  refine wpAny_call (PySem.HandSPX.call_own T.base.ex (fun Y => T.base.has Y bm mr) (I1.kIn _ _ hC) (PySem.W.looks_findIn I1.kIn iC) (fun self => PySem.W.bind_fn I1.kIn self tI) few ?_)
  rw [en, ehp]
  refine codeAny_mono (F1.run _ X.stack _ _ ⟨Value.ref n :: us, []⟩ (Value.ref n :: (us ++ ds)) _ _ (fun _ _ _ => False) (hr.make C us []) (I2.env0.make C us []) (hb _ (Value.ref n :: us) I2.kIn hl) r2 hq) fun r s' hq' => ?_
  match r, hq' with
  | .error er, hq' => exact hx pins σ _ _ er s' I2 hq'
  | .ok (.ret u), hq' =>
    obtain ⟨v, H2, os2, bare2, un2, hok2, rv, ev, d, fs, ea, ed, hd1, q2⟩ := hq'
    subst ev
    obtain ⟨h2, g2, d2, t2, os'⟩ := s'
    obtain ⟨t0, G, J, kG, ge, hoe, na⟩ := mk_end0 (d2 := d2) (t2 := t2) I1 sz kk un2 hok2 os2 bare2 ea ed hd1
    exact ⟨rv, ⟨n, _, _, ⟨G, g2, d2, t2, os'⟩, _, .ref C, some d, rfl, J, kG, ge, hoe, ⟨rfl, rfl, fun vs hv => (by cases hv; rfl)⟩, rfl, rfl, na, rfl, bare2, raises_own T.exC T.tyC, q2⟩⟩
end
/-- a def that may raise, without a context -/
structure DfN (P : Program) (w : World) (K : PySem.W.Frag) (mg : Str → Option Value) (base : Heap) (k : Nat) (x : Str) (ps : List Str) (sp : Sp) : Prop where
  ex : ∃ fd, FnOk P w K mg base (L2N.CX P w) k (He.ga K x) fd ps sp ∧ Binds K fd ps []
  gl : mg x = some (.ref (He.ga K x))
  kp : PySem.W.keepIn K (.ref (He.ga K x)) = true
section
variable {X : Cx} {k j : Nat} {x : Str} {ps : List Str} {sp : Sp} {p pos : Pos} {e : Expr} {es : List Expr} {t : TA} {E : XK}
theorem pcallN (D : DfN X.prog X.w X.K X.mg X.base k x ps sp) (hr : Room j X.A) (tk : L2N.Takes X (fun cls d _ H => E cls d H)) (ha : PA X (e :: es) t) (hj : k ≤ j := by decide) (hg : Gl X x := by rfl) (hdb : (x == ("__debug__" : Str)) = false := by decide)
    (he : starEach (e :: es) X.env = (false, eval e X.env) :: starEach es X.env := by rfl) (hpl : (backTo pos (starEach es X.env)).any (·.1) = false := by rfl) :
    PE X (.Call (.Name x p) (e :: es) [] pos) (tCall sp [] E t) := by
  obtain ⟨fd, F, b⟩ := D.ex
  exact pe_call F (hr.mono hj) hg D.gl D.kp b .nil (L2N.passes_call tk fun _ _ _ _ h => h) ha hdb he hpl
theorem pass0N : ∀ σ : L2.St, PassesAt (L2N.CX X.prog X.w) X σ E0 := fun _ _ _ _ _ _ _ ⟨_, _, _, _, _, _, _, _, _, _, _, _, z⟩ => z.elim
end
end Ex

set_option Elab.async false
set_option linter.all false
set_option maxRecDepth 100000
set_option maxHeartbeats 4000000
namespace K11
open PySem PySem.Spec PyProof.Rows L2 Gu Ex
def top (i : Nat) : Stmt := PySem.Challenge.pw_exactroom_k11_sizes_read_and_equal.main.body.getD i (.Pass ⟨0, 0, 0, 0⟩)
abbrev FnP (K : PySem.W.Frag) (x qual : Str) (st : Stmt) (f : Addr) (fd : FuncData) : Prop := FunD K x qual (defArgs st) (defBody st) (defScope st) [] [] f fd
abbrev cS (K : PySem.W.Frag) : Addr := He.ga K "Sizes"
abbrev cE (K : PySem.W.Frag) : Addr := He.ga K "InvalidSizes"
abbrev cC (K : PySem.W.Frag) : Addr := He.ga K "InvalidCount"
abbrev cX (K : PySem.W.Frag) : Addr := He.ga K "InvalidText"
def digits : Str := "0123456789"
/-- what the top has left -/
structure Tx (K : PySem.W.Frag) (mg : Str → Option Value) : Prop where
  n_len : mg "len" = none
  n_isinstance : mg "isinstance" = none
  n_int : mg "int" = none
  n_bool : mg "bool" = none
  n_str : mg "str" = none
  n_list : mg "list" = none
  n_tuple : mg "tuple" = none
  n_range : mg "range" = none
  n_divmod : mg "divmod" = none
  n_abs : mg "abs" = none
  n_max : mg "max" = none
  n_min : mg "min" = none
  n_all : mg "all" = none
  n_repr : mg "repr" = none
  n_LookupError : mg "LookupError" = none
  g_Sizes : mg "Sizes" = some (.ref (cS K))
  cl : Cls K (cS K)
  nSL : NoAttr K (cS K) "size_list"
  rd : ClX.CRead K (cS K) (.type "type")
  cS : ∃ u, ClX.CVal K (cS K) (.type "type") "MAX_SIZE" (.int 1000000000) u
  cN : ∃ u, ClX.CVal K (K11.cS K) (.type "type") "MAX_SIZES" (.int 8) u
  cM : ∃ u, ClX.CVal K (K11.cS K) (.type "type") "MAX_CELLS" (.int 1000000000000) u
  cP : ∃ u, ClX.CVal K (K11.cS K) (.type "type") "MAX_PIECES" (.int 64) u
  sys : SysOk K
  g_InvalidSizes : mg "InvalidSizes" = some (.ref (cE K))
  ox : OexC K (cE K)
  oE : OexG "ValueError" (tailE "ValueError") K (cE K)
  noP : PySem.W.findIn K (.ref (cE K)) "problem" = some none
  noQ : PySem.W.findIn K (.ref (cE K)) "position" = some none
  iN : PySem.W.findIn K (.ref (cE K)) "__init__" = some (some (.ref (He.ma K (cE K) "__init__")))
  tI : PySem.W.typeIn K (.ref (He.ma K (cE K) "__init__")) = some (.type "function")
  em : PySem.W.exmOne K (.ref (cE K)) (.ref (cE K)) = some true
  g_RoomError : mg "RoomError" = some (.ref (He.ga K "RoomError"))
  g_InvalidCount : mg "InvalidCount" = some (.ref (cC K))
  g_InvalidText : mg "InvalidText" = some (.ref (cX K))
  eC : ErrG "ValueError" K (cC K) "value"
  eX : ErrG "ValueError" K (cX K) "line"
  oX : OexC K (cX K)
  gD : ∃ t, mg "DIGITS" = some (.str digits t)
  gM : ∃ t, mg "MAX_DIGITS" = some (.int 4000 t)
  kRX : PySem.W.kitOne K (.ref (cX K)) (.ref (He.ga K "RoomError")) = some true
  kOX : PySem.W.kitAny K (.ref (cX K)) [.ref (cE K), .ref (cC K), .type "LookupError"] = some false
  kRC : PySem.W.kitOne K (.ref (cC K)) (.ref (He.ga K "RoomError")) = some true
  kOC : PySem.W.kitAny K (.ref (cC K)) [.ref (cE K), .ref (cX K), .type "LookupError"] = some false
  bu : BuOk K (K11.cS K)
  ne : NeOk K (K11.cS K)
  io : InsOk K (K11.cS K)
theorem bT {c : Prop} [Decidable c] (h : c) : V.bl (decide c) = V.bl true := congrArg V.bl (decide_eq_true h)
theorem bF {c : Prop} [Decidable c] (h : ¬ c) : V.bl (decide c) = V.bl false := congrArg V.bl (decide_eq_false h)
theorem ifT {c : Bool} {A B : Prop} (h : c = true) (x : A) : if c = true then A else B := by rw [h]; exact iteT x
theorem ifF {c : Bool} {A B : Prop} (h : c = false) (x : B) : if c = true then A else B := by rw [h]; exact iteF x
theorem vT {a b : Int} (h : a = b) : decide (V.int a = V.int b) = true := decide_eq_true (by rw [h])
theorem vF {a b : Int} (h : a ≠ b) : decide (V.int a = V.int b) = false := decide_eq_false fun z => h (V.int.inj z)
theorem same_upd {H : Hp} {p : Addr} {o : HO} (h : H p = none) : Same H (upd H p o) := fun b x e => by
  rw [upd_ne (ne_of_none e h)]
  exact e
/-- values of any kind -/
inductive Any (H : Hp) : V → Prop
  | non : Any H .non
  | bl (b : Bool) : Any H (.bl b)
  | int (i : Int) : Any H (.int i)
  | str (x : Str) : (x.length ≤ 1000 ∧ ∀ c ∈ x.cps.toList, c < 1114112) → Any H (.str x)
  | lst {a : Addr} {xs : List V} : H a = some (.lst xs) → Any H (.ref a)
  | tup {a : Addr} {xs : List V} : H a = some (.tup xs) → Any H (.ref a)
  | dct {a : Addr} {kvs : List (Key × V)} : H a = some (.dK kvs) → Any H (.ref a)
def isI : V → Bool
  | .int _ => true
  | _ => false
def isB : V → Bool
  | .bl _ => true
  | _ => false
def isS : V → Bool
  | .str _ => true
  | _ => false
theorem Any.ty {K : PySem.W.Frag} {H : Hp} {v : V} (h : Any H v) : ∃ T, TyX K H v (.type T) ∧ kitB T "int" = some (isI v || isB v) ∧ kitB T "bool" = some (isB v) ∧ kitB T "str" = some (isS v) := by
  cases h with
  | non => exact ⟨"NoneType", .base .non, (show kitB "NoneType" "int" = some false by decide +kernel), (show kitB "NoneType" "bool" = some false by decide +kernel), (show kitB "NoneType" "str" = some false by decide +kernel)⟩
  | bl b => exact ⟨"bool", .base (.bl b), (show kitB "bool" "int" = some true by decide +kernel), (show kitB "bool" "bool" = some true by decide +kernel), (show kitB "bool" "str" = some false by decide +kernel)⟩
  | int i => exact ⟨"int", .base (.int i), (show kitB "int" "int" = some true by decide +kernel), (show kitB "int" "bool" = some false by decide +kernel), (show kitB "int" "str" = some false by decide +kernel)⟩
  | str x _ => exact ⟨"str", .base (.str x), (show kitB "str" "int" = some false by decide +kernel), (show kitB "str" "bool" = some false by decide +kernel), (show kitB "str" "str" = some true by decide +kernel)⟩
  | lst e => exact ⟨"list", .base (.lst e), (show kitB "list" "int" = some false by decide +kernel), (show kitB "list" "bool" = some false by decide +kernel), (show kitB "list" "str" = some false by decide +kernel)⟩
  | tup e => exact ⟨"tuple", .base (.tup e), (show kitB "tuple" "int" = some false by decide +kernel), (show kitB "tuple" "bool" = some false by decide +kernel), (show kitB "tuple" "str" = some false by decide +kernel)⟩
  | dct e => exact ⟨"dict", .base (.dK e), (show kitB "dict" "int" = some false by decide +kernel), (show kitB "dict" "bool" = some false by decide +kernel), (show kitB "dict" "str" = some false by decide +kernel)⟩
theorem Any.same {H H' : Hp} {v : V} (h : Any H v) (s : Same H H') : Any H' v := by
  cases h with
  | non => exact .non
  | bl b => exact .bl b
  | int i => exact .int i
  | str x l => exact .str x l
  | lst e => exact .lst (s _ _ e)
  | tup e => exact .tup (s _ _ e)
  | dct e => exact .dct (s _ _ e)
section
variable {P : Program} {w : World} {K : PySem.W.Frag} {mg : Str → Option Value} {base : Heap} {f : Addr} {fd : FuncData}
def spInt : Sp := fun vs H Q _ => ∃ v : V, vs = [v] ∧ Any H v ∧ Q (.bl (isI v)) H
theorem sc_is_integer : FnScope ["value"] ["value"] (defScope (top 10)) := ⟨rfl, rfl, rfl, by decide +kernel, rfl, by decide +kernel, by decide +kernel⟩
theorem ok_is_integer (T : Tx K mg) (F : FnP K "is_integer" "is_integer" (top 10) f fd) : FnOk P w K mg base CX0 1 f fd ["value"] spInt := by
  refine F.ok sc_is_integer (fun vs H Q E h => ?_) (fun cdv A outer s H vs Q E hr h => ⟨_, PSs.nox (pss_one (ps_ret (pe_and (pe_callB call_isi (by rfl) T.n_isinstance (by decide +kernel) (pa_cons (pv 0) (pa_cons (pe_bltn (v := .ty "int") (by rfl) T.n_int (by decide +kernel) rfl) pa_nil))) (pe_one (pe_not (pe_callB call_isi (by rfl) T.n_isinstance (by decide +kernel) (pa_cons (pv 0) (pa_cons (pe_bltn (v := .ty "bool") (by rfl) T.n_bool (by decide +kernel) rfl) pa_nil)))))))), ?_⟩)
  · obtain ⟨v, rfl, _⟩ := h
    rfl
  · obtain ⟨v, rfl, hv, q⟩ := h
    obtain ⟨Ty, ty, k1, k2, _⟩ := hv.ty (K := K)
    refine ⟨_, rfl, _, _, _, _, _, rfl, .ty "int", ty, kit_ty k1, _, rfl, ?_⟩
    cases e : (isI v || isB v) with
    | true =>
      refine iteT ⟨_, rfl, _, _, _, _, _, rfl, .ty "bool", ty, kit_ty k2, _, rfl, ?_⟩
      have e2 : (!isB v) = isI v := by cases v <;> first | rfl | cases e
      rw [e2]
      exact q
    | false =>
      have e2 : isI v = false := by cases v <;> first | rfl | cases e
      rw [e2] at q
      exact iteF q
/-- the error's __init__, with its two fields -/
def spErr (C : Addr) : Sp := fun vs H Q _ => ∃ (a : Addr) (u v : V), vs = [.ref a, u, v] ∧ H a = some (exo a C none) ∧
  ∀ dx, H dx = none → dx ≠ a → Q .non (upd (upd (upd H dx (exd dx [("problem", u)])) a (exo a C (some dx))) dx (exd dx [("position", v), ("problem", u)]))
theorem sc_InvalidSizes_init : FnScope ["self", "problem", "position"] ["self", "problem", "position"] (defScope (inClass (top 3) 0)) := ⟨rfl, rfl, rfl, by decide +kernel, rfl, by decide +kernel, by decide +kernel⟩
theorem ok_err (T : Tx K mg) (F : FnP K "__init__" "InvalidSizes.__init__" (inClass (top 3) 0) f fd) : FnOk P w K mg base CX0 1 f fd ["self", "problem", "position"] (spErr (cE K)) := by
  refine F.ok sc_InvalidSizes_init (fun vs H Q E h => ?_) (fun cdv A outer s H vs Q E hr h => ⟨_, PSs.nox (pss_cons (ps_ost (pv 0) (pv 1)) (pss_one (ps_ost (pv 0) (pv 2)))), ?_⟩)
  · obtain ⟨a, u, v, rfl, _⟩ := h
    rfl
  · obtain ⟨a, u, v, rfl, ha, q⟩ := h
    refine ⟨_, rfl, _, rfl, a, cE K, rfl, T.ox, T.noP, .inl ⟨ha, fun dx hdx ne => ?_⟩⟩
    exact ⟨_, rfl, _, rfl, a, cE K, rfl, T.ox, T.noQ, .inr ⟨dx, _, upd_same, (by rw [upd_ne ne, upd_same]), (by show 1 ≤ 900; decide), q dx hdx ne⟩⟩
structure Ei (P : Program) (w : World) (K : PySem.W.Frag) (mg : Str → Option Value) (base : Heap) : Prop where
  ex : ∃ fd, FnOk P w K mg base CX0 1 (He.ma K (cE K) "__init__") fd ["self", "problem", "position"] (spErr (cE K)) ∧ Binds K fd ["self", "problem", "position"] []
/-- what is wrong with the size at a place, if those ahead of it are right -/
def probB (z : Int) : Option V → Option Str
  | some (.int b) => if z ≤ b ∨ z % b ≠ 0 then some ("multiple" : Str) else none
  | _ => none
def probV (p : Nat) (prev : Option V) : V → Option Str
  | .int z => if 1 ≤ z ∧ z ≤ 1000000000 then (if p = 0 then (if z = 1 then none else some ("first" : Str)) else probB z prev) else some ("number" : Str)
  | _ => some ("number" : Str)
def prob (xs : List V) (p : Nat) : Option Str := match xs[p]? with
  | some v => probV p xs[p - 1]? v
  | none => none
def ofO : Option Str → V
  | none => .non
  | some x => .str x
def spProblem (K : PySem.W.Frag) : Sp := fun vs H Q _ => ∃ (a : Addr) (xs : List V) (p : Nat), vs = [.ref a, .int p] ∧ SqL K H a xs ∧ p < xs.length ∧ (∀ v ∈ xs, Any H v) ∧ (0 < p → ∃ b : Int, xs[p - 1]? = some (.int b) ∧ 1 ≤ b) ∧ Q (ofO (prob xs p)) H
theorem sc_size_problem : FnScope ["values", "position", "size", "before"] ["values", "position"] (defScope (top 12)) := ⟨rfl, rfl, rfl, by decide +kernel, rfl, by decide +kernel, by decide +kernel⟩
theorem ok_size_problem (T : Tx K mg) (D_is_integer : Df P w K mg base 1 "is_integer" ["value"] spInt) (F : FnP K "size_problem" "size_problem" (top 12) f fd) :
    FnOk P w K mg base CX0 2 f fd ["values", "position"] (spProblem K) := by
  refine F.ok sc_size_problem (fun vs H Q E h => ?_) (fun cdv A outer s H vs Q E hr h => ⟨_, PSs.nox (pss_cons (ps_set (i := 2) sc_size_problem.nd rfl (by first | exact Or.inl rfl | exact Or.inr rfl) (pe_ix ix_list (pv 0) (pv 1) (fun _ _ => rfl))) (pss_cons (ps_if (PW.pt (pw_or (pt_not (pt_val (pcall D_is_integer hr (pa_cons (pv 2) pa_nil)))) (pw_or1 (pt_not (pt_chain op_le op_le pe_int (pv 2) (ClX.pe_cval (pe_glob (v := .ref _) rfl T.g_Sizes rfl))))))) (pss_one (ps_ret pe_str)) pss_nil) (pss_cons (ps_if (pt_cmpR op_eq (pv 1) pe_int (nomark _)) (pss_one (ps_ret (pe_ifExp (pt_cmpR op_eq (pv 2) pe_int (nomark _)) pe_non pe_str))) pss_nil) (pss_cons (ps_set (i := 3) sc_size_problem.nd rfl (by first | exact Or.inl rfl | exact Or.inr rfl) (pe_ix ix_list (pv 0) (pe_op op_sub (pv 1) pe_int) (fun _ _ => rfl))) (pss_cons (ps_if (PW.pt (pw_or (pt_cmpR op_le (pv 2) (pv 3) (nomark _)) (pw_or1 (pt_cmpR op_ne (pe_op op_mod (pv 2) (pv 3)) pe_int (nomark _))))) (pss_one (ps_ret pe_str)) pss_nil) (pss_one (ps_ret pe_non))))))), ?_⟩)
  · obtain ⟨a, xs, p, rfl, _⟩ := h
    rfl
  · obtain ⟨a, xs, p, rfl, hS, hp, ha, hb, q⟩ := h
    have hx : xs[p]? = some xs[p] := List.getElem?_eq_getElem hp
    have hy := ha _ (List.getElem_mem hp)
    obtain ⟨u, cS⟩ := T.cS
    refine ⟨_, rfl, _, rfl, a, _, _, _, rfl, rfl, hS, atI_nat hx, ?_⟩
    refine ⟨_, rfl, _, rfl, hy, _, rfl, ?_⟩
    have pr : prob xs p = probV p xs[p - 1]? xs[p] := by
      unfold prob
      rw [hx]
    rw [pr] at q
    generalize xs[p] = v at hx hy q
    cases v with
    | int z =>
      refine iteF ⟨_, rfl, _, _, rfl, rfl, _, rfl, ?_⟩
      by_cases h1 : (1 : Int) ≤ z
      · refine ifT (decide_eq_true h1) ⟨_, _, _, _, rfl, T.rd, cS, _, _, rfl, rfl, _, rfl, ?_⟩
        by_cases h2 : z ≤ 1000000000
        · refine ifF (by rw [decide_eq_true h2]; rfl) ?_
          have q1 : Q (ofO (if p = 0 then (if z = 1 then none else some ("first" : Str)) else probB z xs[p - 1]?)) H := by
            have e : probV p xs[p - 1]? (.int z) = (if p = 0 then (if z = 1 then none else some ("first" : Str)) else probB z xs[p - 1]?) := if_pos ⟨h1, h2⟩
            rw [e] at q
            exact q
          by_cases h0 : p = 0
          · subst h0
            rw [if_pos rfl] at q1
            refine ⟨_, rfl, rfl, _, rfl, ifT (vT rfl) ⟨_, rfl, rfl, _, rfl, ?_⟩⟩
            by_cases hz : z = 1
            · rw [if_pos hz] at q1
              exact ifT (vT hz) q1
            · rw [if_neg hz] at q1
              exact ifF (vF hz) q1
          · rw [if_neg h0] at q1
            obtain ⟨b, hb1, hb2⟩ := hb (by omega)
            rw [hb1] at q1
            have q2 : Q (ofO (if z ≤ b ∨ z % b ≠ 0 then some ("multiple" : Str) else none)) H := q1
            refine ⟨_, rfl, rfl, _, rfl, ifF (vF (by omega)) ?_⟩
            refine ⟨_, rfl, _, rfl, _, _, rfl, rfl, a, _, _, _, rfl, rfl, hS, (by rw [show ((p : Int) - 1) = ((p - 1 : Nat) : Int) by omega]; exact atI_nat hb1), ?_⟩
            refine ⟨_, rfl, _, rfl, _, _, rfl, rfl, _, rfl, ?_⟩
            by_cases h3 : z ≤ b
            · rw [if_pos (Or.inl h3)] at q2
              exact ifT (decide_eq_true h3) (iteT q2)
            · refine ifF (decide_eq_false h3) ⟨_, rfl, _, rfl, _, _, rfl, rfl, (by show (0 : Int) < b; omega), rfl, _, rfl, ?_⟩
              by_cases h4 : z % b = 0
              · rw [if_neg fun zz => zz.elim h3 fun y => y h4] at q2
                exact ifF (by rw [vT h4]; rfl) q2
              · rw [if_pos (Or.inr h4)] at q2
                exact ifT (by rw [vF h4]; rfl) q2
        · have q1 : Q (.str "number") H := by
            have e : probV p xs[p - 1]? (.int z) = some ("number" : Str) := if_neg fun zz => h2 zz.2
            rw [e] at q
            exact q
          exact ifT (by rw [decide_eq_false h2]; rfl) q1
      · have q1 : Q (.str "number") H := by
          have e : probV p xs[p - 1]? (.int z) = some ("number" : Str) := if_neg fun zz => h1 zz.1
          rw [e] at q
          exact q
        exact ifF (decide_eq_false h1) ⟨_, rfl, iteT q1⟩
    | _ => exact iteT (iteT q)
end
end K11

set_option Elab.async false
set_option linter.all false
set_option maxRecDepth 100000
set_option maxHeartbeats 4000000
namespace K11
open PySem PySem.Spec PyProof.Rows L2 Gu Ex
/-- the first problem of a list of sizes from the place p on, n places left -/
def firstFrom (xs : List V) (p : Nat) : Nat → Option (Str × Nat)
  | 0 => none
  | n + 1 => match prob xs p with
    | some s => some (s, p)
    | none => firstFrom xs (p + 1) n
/-- what is wrong with a list that shall be one of sizes -/
def wrong (xs : List V) : Option (Str × Nat) := match firstFrom xs 0 xs.length with
  | some e => some e
  | none => if 1 ≤ xs.length ∧ xs.length ≤ 8 then none else some ("count", 0)
theorem first_skip {xs : List V} {p n : Nat} (h : prob xs p = none) : firstFrom xs p (n + 1) = firstFrom xs (p + 1) n := by
  show (match prob xs p with | some s => some (s, p) | none => firstFrom xs (p + 1) n) = _
  rw [h]
theorem first_hit {xs : List V} {p n : Nat} {s : Str} (h : prob xs p = some s) : firstFrom xs p (n + 1) = some (s, p) := by
  show (match prob xs p with | some s => some (s, p) | none => firstFrom xs (p + 1) n) = _
  rw [h]
/-- a right place holds a whole number of at least 1 -/
theorem prob_int {xs : List V} {p : Nat} (hp : p < xs.length) (h : prob xs p = none) : ∃ z : Int, xs[p]? = some (.int z) ∧ 1 ≤ z ∧ z ≤ 1000000000 := by
  unfold prob at h
  rw [List.getElem?_eq_getElem hp] at h
  have h2 : probV p xs[p - 1]? xs[p] = none := h
  rw [List.getElem?_eq_getElem hp]
  generalize xs[p] = v at h2
  cases v with
  | int z =>
    by_cases hz : 1 ≤ z ∧ z ≤ 1000000000
    · exact ⟨z, rfl, hz⟩
    · have e : probV p xs[p - 1]? (.int z) = some ("number" : Str) := if_neg hz
      rw [e] at h2
      cases h2
  | _ => cases h2
section
variable {P : Program} {w : World} {K : PySem.W.Frag} {mg : Str → Option Value} {base : Heap} {f : Addr} {fd : FuncData}
/-- an error with these two fields -/
def ErrAt (K : PySem.W.Frag) (H : Hp) (E : XK) (s : Str) (p : Nat) : Prop := ∀ d H', H d = none → Same H H' → H' d = some (.xd [("position", .int p), ("problem", .str s)]) → E (.ref (cE K)) (some d) H'
/-- a value that shall be a list of sizes: no list, or a list with these items -/
inductive Cand (K : PySem.W.Frag) (H : Hp) : V → Option (List V) → Prop
  | other {v : V} : Any H v → (∀ a xs, v = .ref a → H a ≠ some (.lst xs)) → Cand K H v none
  | list {a : Addr} {xs : List V} : H a = some (.lst xs) → xs.length ≤ 1000 → (∀ v ∈ xs, Any H v) → Cand K H (.ref a) (some xs)
def judge : Option (List V) → Option (Str × Nat)
  | none => some ("list", 0)
  | some xs => wrong xs
def spCheck (K : PySem.W.Frag) : Sp := fun vs H Q E => ∃ (v : V) (o : Option (List V)), vs = [v] ∧ Cand K H v o ∧ (judge o = none → Q .non H) ∧ (∀ s p, judge o = some (s, p) → ErrAt K H E s p)
theorem heap_err {H : Hp} {a dx : Addr} {fs : List (Str × V)} {o1 o2 o3 o4 : HO} (ha : H a = none) (hd : H dx = none) : Same H (upd (del (upd (upd (upd (upd H a o1) dx o2) a o3) dx o4) a) dx (.xd fs)) := fun b o e => by
  have nb : b ≠ a := ne_of_none e ha
  have nd : b ≠ dx := ne_of_none e hd
  rw [upd_ne nd, del_ne nb, upd_ne nd, upd_ne nb, upd_ne nd, upd_ne nb]
  exact e
theorem sc_check_sizes : FnScope ["values", "position", "problem"] ["values"] (defScope (top 13)) := ⟨rfl, rfl, rfl, by decide +kernel, rfl, by decide +kernel, by decide +kernel⟩
theorem ok_check_sizes (T : Tx K mg) (D_size_problem : Df P w K mg base 2 "size_problem" ["values", "position"] (spProblem K)) (M : Ei P w K mg base) (F : FnP K "check_sizes" "check_sizes" (top 13) f fd) : FnOk P w K mg base (L2N.CX P w) 4 f fd ["values"] (spCheck K) := by
  obtain ⟨fdI, FI, bI⟩ := M.ex
  refine F.ok sc_check_sizes (fun vs H Q E h => ?_) (fun cdv A outer s H vs Q E hr h => ⟨_, (pss_cons (ps_if (pt_not (pt_val (pe_callB call_isi (by rfl) T.n_isinstance (by decide +kernel) (pa_cons (pv 0) (pa_cons (pe_bltn (v := .ty "list") (by rfl) T.n_list (by decide +kernel) rfl) pa_nil))))) (pss_one (L2N.ps_raise rfl (L2N.takes_of (E := E) rfl rfl rfl rfl) (pmk_oexN T.oE T.iN T.tI FI (hr.mono (by decide)) bI .nil pass0 rfl T.g_InvalidSizes (pa_cons pe_str (pa_cons pe_int pa_nil))))) pss_nil) (pss_cons (ps_for (passes_of rfl) rfl (pi_range1 rfl T.n_range (pa_cons (pe_callB call_len_seq (by rfl) T.n_len (by decide +kernel) (pa_cons (pv 0) pa_nil)) pa_nil)) (pg_name (i := 1) sc_check_sizes.nd rfl (by first | exact Or.inl rfl | exact Or.inr rfl)) (pss_cons (ps_set (i := 2) sc_check_sizes.nd rfl (by first | exact Or.inl rfl | exact Or.inr rfl) (pcall D_size_problem hr (pa_cons (pv 0) (pa_cons (pv 1) pa_nil)))) (pss_one (ps_if (pt_cmpR op_notN (pv 2) pe_non (nomark _)) (pss_one (L2N.ps_raise rfl (L2N.takes_of (E := E) rfl rfl rfl rfl) (pmk_oexN T.oE T.iN T.tI FI (hr.mono (by decide)) bI .nil pass0 rfl T.g_InvalidSizes (pa_cons (pv 2) (pa_cons (pv 1) pa_nil))))) pss_nil)))) (pss_one (ps_if (pt_not (pt_chain op_le op_le pe_int (pe_callB call_len_seq (by rfl) T.n_len (by decide +kernel) (pa_cons (pv 0) pa_nil)) (ClX.pe_cval (pe_glob (v := .ref _) rfl T.g_Sizes rfl)))) (pss_one (L2N.ps_raise rfl (L2N.takes_of (E := E) rfl rfl rfl rfl) (pmk_oexN T.oE T.iN T.tI FI (hr.mono (by decide)) bI .nil pass0 rfl T.g_InvalidSizes (pa_cons pe_str (pa_cons pe_int pa_nil))))) pss_nil)))), ?_⟩)
  · obtain ⟨v, o, rfl, _⟩ := h
    rfl
  · obtain ⟨v, o, rfl, hc, q1, q2⟩ := h
    obtain ⟨u, cN⟩ := T.cN
    -- the error with the fields s, p, at any heap that holds what stood before
    have bad : ∀ {G : Hp} {x y : V} {z : Str} {p : Nat}, Same H G → judge o = some (z, p) → x = .str z → y = .int p → ∀ a, G a = none → ∀ dx, (upd G a (exo a (cE K) none)) dx = none → dx ≠ a →
        E (.ref (cE K)) (some dx) (upd (del (upd (upd (upd (upd G a (exo a (cE K) none)) dx (exd dx [("problem", x)])) a (exo a (cE K) (some dx))) dx (exd dx [("position", y), ("problem", x)])) a) dx (.xd [("position", y), ("problem", x)])) := by
      rintro G x y z p sm e rfl rfl a ha dx hdx ne
      rw [upd_ne ne] at hdx
      exact q2 z p e dx _ (sm.free hdx) (sm.trans (heap_err ha hdx)) upd_same
    cases hc with
    | other an nl =>
      obtain ⟨Ty, ty, k⟩ : ∃ Ty, TyX K H v (.type Ty) ∧ kitB Ty "list" = some false := by
        cases an with
        | non => exact ⟨"NoneType", .base .non, by decide +kernel⟩
        | bl b => exact ⟨"bool", .base (.bl b), by decide +kernel⟩
        | int i => exact ⟨"int", .base (.int i), by decide +kernel⟩
        | str x _ => exact ⟨"str", .base (.str x), by decide +kernel⟩
        | lst e => exact absurd e (nl _ _ rfl)
        | tup e => exact ⟨"tuple", .base (.tup e), by decide +kernel⟩
        | dct e => exact ⟨"dict", .base (.dK e), by decide +kernel⟩
      refine ⟨_, rfl, _, _, _, _, _, rfl, .ty "list", ty, kit_ty k, _, rfl, iteT ?_⟩
      refine ⟨(by show 2 ≤ 1000; decide), fun a ha => ⟨a, _, _, rfl, upd_same, fun dx hdx ne => ⟨rfl, dx, _, (by rw [upd_ne ne.symm, upd_same]), upd_same, ?_, bad (Same.refl H) rfl rfl rfl a ha dx hdx ne⟩⟩⟩
      rw [upd_ne ne] at hdx
      exact hdx
    | @list a xs hl hlen ha =>
      refine ⟨_, rfl, _, _, _, _, _, rfl, .ty "list", .base (.lst hl), kit_ty (show kitB "list" "list" = some true by decide +kernel), _, rfl, iteF ?_⟩
      refine ⟨_, rfl, a, _, rfl, .inl (SqL.of hl), _, rfl, by omega, by omega, ?_⟩
      refine for_range (fun i σ H' => H' = H ∧ (∃ x y, σ = [some (.ref a), x, y]) ∧ firstFrom xs 0 xs.length = firstFrom xs i (xs.length - i) ∧ (0 < i → prob xs (i - 1) = none)) ⟨rfl, ⟨none, none, rfl⟩, rfl, fun z => absurd z (by decide)⟩ ?_ ?_
      · rintro i σ H' hi ⟨rfl, ⟨x, y, rfl⟩, hf, hp⟩
        have hi2 : i < xs.length := by simpa using hi
        refine ⟨_, rfl, _, rfl, a, xs, i, (by rw [Int.zero_add]; rfl), SqL.of hl, hi2, ha, fun i0 => ?_, ?_⟩
        · obtain ⟨z, e1, e2, _⟩ := prob_int (xs := xs) (p := i - 1) (by omega) (hp i0)
          exact ⟨z, e1, e2⟩
        · have ex : xs.length - i = (xs.length - (i + 1)) + 1 := by omega
          cases e : prob xs i with
          | none =>
            refine ⟨_, rfl, rfl, _, rfl, iteF ⟨rfl, ⟨_, _, rfl⟩, ?_, fun _ => by rw [Nat.add_sub_cancel]; exact e⟩⟩
            rw [hf, ex, first_skip e]
          | some z =>
            have jd : judge (some xs) = some (z, i) := by
              show wrong xs = _
              unfold wrong
              rw [hf, ex, first_hit e]
            refine ⟨_, rfl, rfl, _, rfl, iteT ⟨_, rfl, _, rfl, (by show 2 ≤ 1000; decide), fun a' ha' => ⟨a', _, _, rfl, upd_same, fun dx hdx ne => ⟨rfl, dx, _, (by rw [upd_ne ne.symm, upd_same]), upd_same, ?_, bad (Same.refl _) jd rfl (by rw [Int.zero_add]) a' ha' dx hdx ne⟩⟩⟩⟩
            rw [upd_ne ne] at hdx
            exact hdx
      · rintro σ H' ⟨rfl, ⟨x, y, rfl⟩, hf, hp⟩
        have hn : ((xs.length : Int)).toNat = xs.length := by simp
        rw [hn, Nat.sub_self] at hf
        have hw : wrong xs = if 1 ≤ xs.length ∧ xs.length ≤ 8 then none else some (("count" : Str), 0) := by
          unfold wrong
          rw [hf]
          rfl
        refine ⟨_, rfl, a, _, rfl, .inl (SqL.of hl), _, _, rfl, rfl, _, rfl, ?_⟩
        have cnt : ¬ (1 ≤ xs.length ∧ xs.length ≤ 8) → judge (some xs) = some (("count" : Str), 0) := fun n => by
          show wrong xs = _
          rw [hw, if_neg n]
        by_cases h1 : (1 : Int) ≤ (xs.length : Int)
        · refine ifT (decide_eq_true h1) ⟨_, _, _, _, rfl, T.rd, cN, _, _, rfl, rfl, _, rfl, ?_⟩
          by_cases h2 : (xs.length : Int) ≤ 8
          · refine ifF (by rw [decide_eq_true h2]; rfl) (q1 ?_)
            show wrong xs = none
            rw [hw, if_pos ⟨by omega, by omega⟩]
          · refine ifT (by rw [decide_eq_false h2]; rfl) ⟨(by show 2 ≤ 1000; decide), fun a' ha' => ⟨a', _, _, rfl, upd_same, fun dx hdx ne => ⟨rfl, dx, _, (by rw [upd_ne ne.symm, upd_same]), upd_same, ?_, bad (Same.refl _) (cnt (by omega)) rfl rfl a' ha' dx hdx ne⟩⟩⟩
            rw [upd_ne ne] at hdx
            exact hdx
        · refine ifF (decide_eq_false h1) ⟨_, rfl, iteT ⟨(by show 2 ≤ 1000; decide), fun a' ha' => ⟨a', _, _, rfl, upd_same, fun dx hdx ne => ⟨rfl, dx, _, (by rw [upd_ne ne.symm, upd_same]), upd_same, ?_, bad (Same.refl _) (cnt (by omega)) rfl rfl a' ha' dx hdx ne⟩⟩⟩⟩
          rw [upd_ne ne] at hdx
          exact hdx
end
end K11

set_option Elab.async false
set_option linter.all false
set_option maxRecDepth 100000
set_option maxHeartbeats 4000000
namespace K11
open PySem PySem.Spec PyProof.Rows L2 Gu Ex
def szF (l : Addr) : List (Str × V) := [("size_list", V.ref l)]
theorem szF_get (l : Addr) : (szF l).lookup ("size_list" : Str) = some (.ref l) := by simp [szF, List.lookup]
theorem szF_no (l : Addr) {m : Str} (h : (m == ("size_list" : Str)) = false) : (szF l).lookup m = none := by simp [szF, List.lookup, h]
/-- at p an object of Sizes with the list xs -/
def SzAt (C : Addr) (H : Hp) (p : Addr) (xs : List V) : Prop := ∃ dx l, H p = some (.ins C dx (szF l)) ∧ H l = some (.lst xs)
section
variable {P : Program} {w : World} {K : PySem.W.Frag} {mg : Str → Option Value} {base : Heap} {f : Addr} {fd : FuncData}
def spMade (K : PySem.W.Frag) : Sp := fun vs H Q E => ∃ (x dx : Addr) (v : V) (o : Option (List V)), vs = [.ref x, v] ∧ H x = some (.ins (He.ga K "Sizes") dx []) ∧ Cand K H v o ∧
  (∀ xs, o = some xs → wrong xs = none → ∀ l, H l = none → Q .non (upd (upd H l (.lst xs)) x (.ins (He.ga K "Sizes") dx (szF l)))) ∧ (∀ s p, judge o = some (s, p) → ErrAt K H E s p)
theorem sc_Sizes_init : FnScope ["self", "values"] ["self", "values"] (defScope (inClass (top 14) 4)) := ⟨rfl, rfl, rfl, by decide +kernel, rfl, by decide +kernel, by decide +kernel⟩
theorem ok_init (T : Tx K mg) (D_check_sizes : DfN P w K mg base 4 "check_sizes" ["values"] (spCheck K)) (F : FnP K "__init__" "Sizes.__init__" (inClass (top 14) 4) f fd) :
    FnOk P w K mg base (L2N.CX P w) 5 f fd ["self", "values"] (spMade K) := by
  refine F.ok sc_Sizes_init (fun vs H Q E h => ?_) (fun cdv A outer s H vs Q E hr h => ⟨_, (pss_cons (ps_expr (pcallN D_check_sizes hr (L2N.takes_of (E := E) rfl rfl rfl rfl) (pa_cons (pv 1) pa_nil))) (pss_one (ps_fld (pv 0) (pe_callTy call_list_of (by rfl) T.n_list (by decide +kernel) (pa_cons (pv 1) pa_nil)) rfl))), ?_⟩)
  · obtain ⟨x, dx, v, o, rfl, _⟩ := h
    rfl
  · obtain ⟨x, dx, v, o, rfl, hx, hc, q1, q2⟩ := h
    refine ⟨_, rfl, v, o, rfl, hc, fun hj => ?_, q2⟩
    cases hc with
    | other _ _ => cases hj
    | @list a xs hl hlen ha =>
      refine ⟨_, rfl, a, _, rfl, .inl (SqL.of hl), fun l hn => ?_⟩
      refine ⟨_, rfl, x, He.ga K "Sizes", dx, [], rfl, (by rw [upd_ne (ne_of_none hx hn)]; exact hx), T.cl, T.nSL, (by show 0 < 1000; decide), ?_⟩
      exact q1 xs rfl hj l hn
def spAll (K : PySem.W.Frag) : Sp := fun vs H Q _ => ∃ (p : Addr) (xs : List V), vs = [.ref p] ∧ SzAt (He.ga K "Sizes") H p xs ∧ ∀ l, H l = none → Q (.ref l) (upd H l (.lst xs))
theorem sc_all_sizes : FnScope ["self"] ["self"] (defScope (inClass (top 14) 11)) := ⟨rfl, rfl, rfl, by decide +kernel, rfl, by decide +kernel, by decide +kernel⟩
theorem ok_all (T : Tx K mg) (F : FnP K "all_sizes" "Sizes.all_sizes" (inClass (top 14) 11) f fd) : FnOk P w K mg base CX0 1 f fd ["self"] (spAll K) := by
  refine F.ok sc_all_sizes (fun vs H Q E h => ?_) (fun cdv A outer s H vs Q E hr h => ⟨_, PSs.nox (pss_one (ps_ret (pe_callTy call_list_of (by rfl) T.n_list (by decide +kernel) (pa_cons (pe_fld (pv 0) rfl) pa_nil)))), ?_⟩)
  · obtain ⟨p, xs, rfl, _⟩ := h
    rfl
  · obtain ⟨p, xs, rfl, ⟨dx, l, h1, h2⟩, q⟩ := h
    exact ⟨_, rfl, p, _, dx, _, _, rfl, h1, T.cl, T.nSL, szF_get l, l, _, rfl, .inl (SqL.of h2), q⟩
end
end K11

set_option Elab.async false
set_option linter.all false
set_option maxRecDepth 100000
set_option maxHeartbeats 4000000
namespace K11
open PySem PySem.Spec PyProof.Rows L2 Gu Ex
structure Good (ns : List Int) : Prop where
  len : 1 ≤ ns.length ∧ ns.length ≤ 8
  one : ns[0]? = some 1
  rng : ∀ (i : Nat) x, ns[i]? = some x → 1 ≤ x ∧ x ≤ 1000000000
  up : ∀ (i : Nat) x y, ns[i]? = some x → ns[i + 1]? = some y → x < y ∧ y % x = 0
theorem at_map {ns : List Int} {p : Nat} {x : Int} (h : ns[p]? = some x) : atI (ns.map V.int) (p : Int) = some (.int x) := atI_nat (by rw [List.getElem?_map, h]; rfl)
/-- the drawing list at r -/
def Rng (H : Hp) (r : Addr) : Prop := ∃ a b : Int, H r = some (.lst [.int a, .int b]) ∧ 0 ≤ a ∧ 0 ≤ b ∧ b < 2147483587
/-- only the drawing list at r may have changed -/
def Stp (r : Addr) (H H' : Hp) : Prop := Rng H' r ∧ ∀ b o, b ≠ r → H b = some o → H' b = some o
theorem Stp.trans {r : Addr} {H H1 H2 : Hp} (a : Stp r H H1) (b : Stp r H1 H2) : Stp r H H2 := ⟨b.1, fun c o n e => b.2 c o n (a.2 c o n e)⟩
theorem Stp.refl {r : Addr} {H : Hp} (h : Rng H r) : Stp r H H := ⟨h, fun _ _ _ e => e⟩
/-- the ways of a choice come together: what holds of every value -/
theorem join {α : Type} {G : Prop} (Pc : α → Prop) {R : α → Prop} (h1 : (∀ c, Pc c → R c) → G) (h2 : ∀ c, Pc c → R c) : G := h1 h2
theorem Rng.ne {H : Hp} {r p : Addr} (h : Rng H r) (hp : H p = none) : r ≠ p := fun z => by
  obtain ⟨_, _, e, _⟩ := h
  rw [z, hp] at e
  cases e
theorem Stp.new {r p : Addr} {H H1 : Hp} {o : HO} (a : Stp r H H1) (hp : H1 p = none) : Stp r H (upd H1 p o) := by
  obtain ⟨⟨x, y, e, z⟩, k⟩ := a
  refine ⟨⟨x, y, ?_, z⟩, fun b u n e2 => ?_⟩
  · rw [upd_ne (ne_of_none e hp)]
    exact e
  · rw [upd_ne (ne_of_none (k b u n e2) hp)]
    exact k b u n e2
theorem Stp.free {r p : Addr} {H H1 : Hp} (a : Stp r H H1) (h : H1 p = none) : H p = none := by
  cases e : H p with
  | none => rfl
  | some o =>
    have n : p ≠ r := fun z => (a.1.ne h) z.symm
    rw [a.2 p o n e] at h
    cases h
section
variable {P : Program} {w : World} {K : PySem.W.Frag} {mg : Str → Option Value} {base : Heap} {f : Addr} {fd : FuncData}
def spRng (K : PySem.W.Frag) : Sp := fun vs H Q _ => ∃ (a : Addr) (ns : List Int) (k : Nat), vs = [.ref a, .int k] ∧ SqL K H a (ns.map V.int) ∧ k ≤ 63 ∧ ∀ p H', H p = none → Same H H' → Rng H' p → Q (.ref p) H'
theorem sc__law_rng : FnScope ["_law_script", "_law_k", "_law_cell"] ["_law_script", "_law_k"] (defScope (top 16)) := ⟨rfl, rfl, rfl, by decide +kernel, rfl, by decide +kernel, by decide +kernel⟩
theorem ok_rng (T : Tx K mg) (F : FnP K "_law_rng" "_law_rng" (top 16) f fd) : FnOk P w K mg base CX0 1 f fd ["_law_script", "_law_k"] (spRng K) := by
  refine F.ok sc__law_rng (fun vs H Q E h => ?_) (fun cdv A outer s H vs Q E hr h => ⟨_, PSs.nox (pss_cons (ps_set (i := 2) sc__law_rng.nd rfl (by first | exact Or.inl rfl | exact Or.inr rfl) (pe_ifExp (pt_cmpR op_lt (pv 1) (pe_callB call_len_seq (by rfl) T.n_len (by decide +kernel) (pa_cons (pv 0) pa_nil)) (nomark _)) (pe_callB call_abs (by rfl) T.n_abs (by decide +kernel) (pa_cons (pe_ix ix_list (pv 0) (pv 1) (fun _ _ => rfl)) pa_nil)) pe_int)) (pss_one (ps_ret (pe_lst (pa_cons (pe_callB (call_max2 rfl) (by rfl) T.n_max (by decide +kernel) (pa_cons pe_int (pa_cons (pe_op op_sub (pv 2) (pe_op op_pow pe_int pe_int)) pa_nil))) (pa_cons (pe_op op_add (pe_op op_mod (pe_op op_pow (pe_op op_add (pe_op op_add (pe_op op_mod (pv 2) pe_int) (pe_op op_mul pe_int (pv 1))) pe_int) pe_int) pe_int) pe_int) pa_nil)))))), ?_⟩)
  · obtain ⟨a, ns, k, rfl, _⟩ := h
    rfl
  · obtain ⟨a, ns, k, rfl, hS, hk, q⟩ := h
    refine join (fun c : Int => 0 ≤ c) (R := ?R) (fun tail => ?main) ?tl
    case main =>
      refine ⟨_, rfl, _, rfl, a, _, rfl, .inl hS, _, _, rfl, rfl, _, rfl, ?_⟩
      by_cases hl : (k : Int) < (((ns.map V.int).length : Nat) : Int)
      · have hk2 : k < ns.length := by rw [List.length_map] at hl; omega
        refine ifT (decide_eq_true hl) ?_
        refine ⟨_, rfl, _, rfl, a, _, _, _, rfl, rfl, hS, at_map (List.getElem?_eq_getElem hk2), _, rfl, ?_⟩
        obtain ⟨c, hc, ec⟩ : ∃ c : Int, 0 ≤ c ∧ (if ns[k] < 0 then -ns[k] else ns[k]) = c := ⟨if ns[k] < 0 then -ns[k] else ns[k], by split <;> omega, rfl⟩
        rw [ec]
        exact tail c hc
      · refine ifF (decide_eq_false hl) ?_
        exact tail 0 (by decide)
    case tl =>
      intro c hc
      have c0 := Int.emod_nonneg c (show (2147483543 : Int) ≠ 0 by decide)
      have c1 := Int.emod_lt_of_pos c (show (0 : Int) < 2147483543 by decide)
      refine ⟨_, rfl, _, _, rfl, rfl, ⟨by decide, by decide, by decide⟩, _, _, rfl, rfl, _, _, rfl, ?_⟩
      refine ⟨_, rfl, _, _, rfl, rfl, (by show (0 : Int) < 2147483543; decide), _, rfl, _, _, rfl, rfl, .inl ⟨by decide, by decide⟩, _, _, rfl, rfl, _, _, rfl, rfl, _, _, rfl, rfl, ⟨by decide, by decide, by omega⟩, _, _, rfl, rfl, (by show (0 : Int) < 2147483497; decide), _, _, rfl, rfl, ?_⟩
      refine ⟨(by show 2 ≤ sizeLine; decide), fun p hp => q p _ hp (fun b o e => by rw [upd_ne (ne_of_none e hp)]; exact e) ⟨_, _, upd_same, ?_, ?_, ?_⟩⟩
      · split <;> omega
      · have := Int.emod_nonneg ((c % 2147483543 + 101 * (k : Int) + 7) ^ (2 : Int).toNat) (show (2147483497 : Int) ≠ 0 by decide)
        omega
      · have := Int.emod_lt_of_pos ((c % 2147483543 + 101 * (k : Int) + 7) ^ (2 : Int).toNat) (show (0 : Int) < 2147483497 by decide)
        omega
def spDraw : Sp := fun vs H Q _ => ∃ (r : Addr) (m : Int), vs = [.ref r, .int m] ∧ Rng H r ∧ 1 ≤ m ∧ m ≤ 10 ^ 40 ∧ ∀ d H', 0 ≤ d → d < m → Stp r H H' → Q (.int d) H'
theorem sc__law_draw : FnScope ["_law_rng_here", "_law_many", "_law_mixed", "_law_digit"] ["_law_rng_here", "_law_many"] (defScope (top 17)) := ⟨rfl, rfl, rfl, by decide +kernel, rfl, by decide +kernel, by decide +kernel⟩
theorem ok_draw (T : Tx K mg) (F : FnP K "_law_draw" "_law_draw" (top 17) f fd) : FnOk P w K mg base CX0 1 f fd ["_law_rng_here", "_law_many"] spDraw := by
  refine F.ok sc__law_draw (fun vs H Q E h => ?_) (fun cdv A outer s H vs Q E hr h => ⟨_, PSs.nox (pss_cons (ps_if (pt_cmpR op_gt (pe_ix ix_list (pv 0) pe_int (fun _ _ => rfl)) pe_int (nomark _)) (pss_cons (ps_asg (pe_callB call_divmodW (by rfl) T.n_divmod (by decide +kernel) (pa_cons (pe_ix ix_list (pv 0) pe_int (fun _ _ => rfl)) (pa_cons (pv 1) pa_nil))) (pg_tup (by rfl) (pgs_cons (pg_sub (pv 0) pe_int set_list) (pgs_cons (pg_name (i := 3) sc__law_draw.nd rfl (by first | exact Or.inl rfl | exact Or.inr rfl)) pgs_nil)))) (pss_one (ps_ret (pv 3)))) pss_nil) (pss_cons (ps_asg (pe_op op_mod (pe_op op_add (pe_op op_mul (pe_ix ix_list (pv 0) pe_int (fun _ _ => rfl)) pe_int) pe_int) pe_int) (pg_sub (pv 0) pe_int set_list)) (pss_cons (ps_set (i := 2) sc__law_draw.nd rfl (by first | exact Or.inl rfl | exact Or.inr rfl) (pe_op op_fdivW (pe_op op_mod (pe_op op_mul (pe_ix ix_list (pv 0) pe_int (fun _ _ => rfl)) (pe_ix ix_list (pv 0) pe_int (fun _ _ => rfl))) pe_int) pe_int)) (pss_one (ps_ret (pe_ifExp (pt_cmpR op_lt (pv 1) (pe_op op_pow pe_int pe_int) (nomark _)) (pe_op op_mod (pv 2) (pv 1)) (pe_op op_mod (pe_op op_mul (pe_op op_add (pe_op op_mul (pv 2) pe_int) (pe_ix ix_list (pv 0) pe_int (fun _ _ => rfl))) pe_int) (pv 1)))))))), ?_⟩)
  · obtain ⟨r, m, rfl, _⟩ := h
    rfl
  · obtain ⟨r, m, rfl, ⟨a, b, hR, ha, hb, hb2⟩, m1, m2, q⟩ := h
    have mb : m.natAbs < 2 ^ 200 := by
      have : (10 : Int) ^ 40 < 2 ^ 200 := by decide
      have e : ((2 : Nat) ^ 200 : Nat) = ((2 : Int) ^ 200).natAbs := by decide
      omega
    refine ⟨_, rfl, r, _, _, _, rfl, rfl, SqL.of hR, rfl, _, _, rfl, rfl, _, rfl, ?_⟩
    by_cases h0 : 0 < a
    · refine ifT (decide_eq_true h0) ?_
      refine ⟨_, rfl, r, _, _, _, rfl, rfl, SqL.of hR, rfl, _, rfl, _, _, rfl, ⟨by omega, PyProof.noPylong_of_log2 (Nat.lt_of_lt_of_le (PySem.Flt.log2_lt_of (by decide) mb) (by decide))⟩, fun p hp => ?_⟩
      have nrp : r ≠ p := ne_of_none hR hp
      have hR2 : (upd H p (.tup [.int (a / m), .int (a % m)])) r = some (.lst [.int a, .int b]) := by rw [upd_ne nrp]; exact hR
      refine ⟨p, _, rfl, .inl (.inl upd_same), rfl, _, _, rfl, _, rfl, r, _, _, 0, rfl, rfl, hR2, rfl, _, _, rfl, rfl, ?_⟩
      refine ⟨_, rfl, q _ _ (Int.emod_nonneg _ (by omega)) (Int.emod_lt_of_pos _ (by omega)) ⟨⟨a / m, b, upd_same, Int.ediv_nonneg (by omega) (by omega), hb, hb2⟩, fun c o n e => ?_⟩⟩
      rw [upd_ne n, upd_ne (ne_of_none e hp)]
      exact e
    · refine ifF (decide_eq_false h0) ?_
      have b0 := Int.emod_nonneg (b * 48271 + 10007) (show (2147483587 : Int) ≠ 0 by decide)
      have b1 := Int.emod_lt_of_pos (b * 48271 + 10007) (show (0 : Int) < 2147483587 by decide)
      refine ⟨_, rfl, r, _, _, _, rfl, rfl, SqL.of hR, rfl, _, _, rfl, rfl, .inr ⟨by decide, by decide⟩, _, _, rfl, rfl, _, _, rfl, rfl, (by show (0 : Int) < 2147483587; decide), _, rfl, r, _, _, 1, rfl, rfl, hR, rfl, ?_⟩
      dsimp only
      generalize hB : (b * 48271 + 10007) % 2147483587 = B at *
      have hR2 : (upd H r (.lst [.int a, .int B])) r = some (.lst [.int a, .int B]) := upd_same
      have st : Stp r H (upd H r (.lst [.int a, .int B])) := ⟨⟨a, B, upd_same, ha, b0, b1⟩, fun c o n e => by rw [upd_ne n]; exact e⟩
      refine ⟨_, rfl, r, _, _, _, rfl, rfl, SqL.of hR2, rfl, _, rfl, r, _, _, _, rfl, rfl, SqL.of hR2, rfl, _, _, rfl, rfl, .inl ⟨by omega, by omega⟩, _, _, rfl, rfl, (by show (0 : Int) < 2147483549; decide), _, _, rfl, rfl, wide_div (b := 64) (by decide) (by decide) (by decide) (by decide), ?_⟩
      refine ⟨_, rfl, _, _, rfl, rfl, ⟨by decide, by decide, by decide⟩, _, _, rfl, rfl, _, rfl, ite2 (fun _ => ?_) (fun _ => ?_)⟩
      · exact ⟨_, rfl, _, rfl, _, _, rfl, rfl, (by show (0 : Int) < m; omega), q _ _ (Int.emod_nonneg _ (by omega)) (Int.emod_lt_of_pos _ (by omega)) st⟩
      · refine ⟨_, rfl, _, _, rfl, rfl, .inr ⟨by decide, by decide⟩, _, rfl, r, _, _, _, rfl, rfl, SqL.of hR2, rfl, _, _, rfl, rfl, _, _, rfl, rfl, .inr ⟨by decide, by decide⟩, _, rfl, _, _, rfl, rfl, (by show (0 : Int) < m; omega), ?_⟩
        exact q _ _ (Int.emod_nonneg _ (by omega)) (Int.emod_lt_of_pos _ (by omega)) st
theorem at_of {xs : List V} {d : Int} (h0 : 0 ≤ d) (h1 : d < xs.length) : ∃ v, atI xs d = some v ∧ v ∈ xs := by
  obtain ⟨n, rfl⟩ := Int.eq_ofNat_of_zero_le h0
  have hn : n < xs.length := by omega
  exact ⟨xs[n], atI_nat (List.getElem?_eq_getElem hn), List.getElem_mem hn⟩
def spChoice : Sp := fun vs H Q _ => ∃ (r o : Addr) (xs : List V), vs = [.ref r, .ref o] ∧ Rng H r ∧ H o = some (.lst xs) ∧ o ≠ r ∧ 1 ≤ xs.length ∧ xs.length ≤ 1000 ∧ ∀ v H', v ∈ xs → Stp r H H' → Q v H'
theorem sc__law_choice : FnScope ["_law_rng_here", "_law_options"] ["_law_rng_here", "_law_options"] (defScope (top 18)) := ⟨rfl, rfl, rfl, by decide +kernel, rfl, by decide +kernel, by decide +kernel⟩
theorem ok_choice (T : Tx K mg) (D__law_draw : Df P w K mg base 1 "_law_draw" ["_law_rng_here", "_law_many"] spDraw) (F : FnP K "_law_choice" "_law_choice" (top 18) f fd) : FnOk P w K mg base CX0 2 f fd ["_law_rng_here", "_law_options"] spChoice := by
  refine F.ok sc__law_choice (fun vs H Q E h => ?_) (fun cdv A outer s H vs Q E hr h => ⟨_, PSs.nox (pss_one (ps_ret (pe_ix ix_list (pv 1) (pcall D__law_draw hr (pa_cons (pv 0) (pa_cons (pe_callB call_len_seq (by rfl) T.n_len (by decide +kernel) (pa_cons (pv 1) pa_nil)) pa_nil))) (fun _ _ => rfl)))), ?_⟩)
  · obtain ⟨r, o, xs, rfl, _⟩ := h
    rfl
  · obtain ⟨r, o, xs, rfl, hR, hO, ne, l1, l2, q⟩ := h
    refine ⟨_, rfl, _, rfl, _, rfl, o, _, rfl, .inl (SqL.of hO), r, _, rfl, hR, by omega, ?_, fun d H1 d0 d1 st => ?_⟩
    · have : (1000 : Int) ≤ 10 ^ 40 := by decide
      omega
    · obtain ⟨v, hv, hm⟩ := at_of d0 d1
      exact ⟨o, _, _, v, rfl, rfl, SqL.of (st.2 o _ ne hO), hv, q v H1 hm st⟩
theorem good_one : Good [1] := ⟨⟨by decide, by decide⟩, rfl, fun i x h => by
    cases i with
    | zero => cases h; decide
    | succ i => simp at h, fun i x y h1 h2 => by
    cases i with
    | zero => simp at h2
    | succ i => simp at h1⟩
theorem good_more {ns : List Int} {x k : Int} (g : Good ns) (hl : ns.length < 8) (hx : ns[ns.length - 1]? = some x) (hk : 2 ≤ k) (hm : x * k ≤ 1000000000) : Good (ns ++ [x * k]) := by
  have l := g.len
  have xr := g.rng _ _ hx
  have gt : x < x * k := by
    have := Int.mul_le_mul_of_nonneg_left hk (show (0 : Int) ≤ x by omega)
    omega
  refine ⟨⟨by rw [List.length_append, List.length_singleton]; omega, by rw [List.length_append, List.length_singleton]; omega⟩, ?_, fun i y h => ?_, fun i y z h1 h2 => ?_⟩
  · rw [List.getElem?_append_left (by omega)]
    exact g.one
  · by_cases hi : i < ns.length
    · rw [List.getElem?_append_left hi] at h
      exact g.rng i y h
    · rw [List.getElem?_append_right (by omega)] at h
      have hi2 : i - ns.length = 0 := by
        cases e : i - ns.length with
        | zero => rfl
        | succ n => rw [e] at h; simp at h
      rw [hi2] at h
      have e : x * k = y := Option.some.inj h
      omega
  · by_cases hi : i + 1 < ns.length
    · rw [List.getElem?_append_left hi] at h2
      rw [List.getElem?_append_left (by omega)] at h1
      exact g.up i y z h1 h2
    · by_cases hi2 : i + 1 = ns.length
      · rw [List.getElem?_append_left (by omega)] at h1
        rw [List.getElem?_append_right (by omega), hi2, Nat.sub_self] at h2
        have e : x * k = z := Option.some.inj h2
        rw [show i = ns.length - 1 by omega, hx] at h1
        have e2 : x = y := Option.some.inj h1
        rw [← e, ← e2]
        exact ⟨gt, Int.mul_emod_right x k⟩
      · rw [List.getElem?_append_right (by omega)] at h2
        cases e : i + 1 - ns.length with
        | zero => omega
        | succ n => rw [e] at h2; simp at h2
def spSizes : Sp := fun vs H Q _ => ∃ (r : Addr) (lv gr : Int), vs = [.ref r, .int lv, .int gr] ∧ Rng H r ∧ 1 ≤ lv ∧ lv ≤ 8 ∧ 2 ≤ gr ∧ gr ≤ 1000000 ∧
  ∀ l ns H', Good ns → H l = none → H' l = some (.lst (ns.map V.int)) → Stp r H H' → Q (.ref l) H'
theorem at_last (ys : List Int) (x : Int) : atI ((ys ++ [x]).map V.int) (-1) = some (.int x) := by
  rw [List.map_append]
  exact atI_last _ _
theorem last_of : ∀ {ns : List Int}, 1 ≤ ns.length → ∃ ys x, ns = ys ++ [x]
  | [], h => absurd h (by decide)
  | [x], _ => ⟨[], x, rfl⟩
  | a :: b :: r, _ => by
    obtain ⟨ys, x, e⟩ := last_of (ns := b :: r) (by simp)
    exact ⟨a :: ys, x, by rw [e]; rfl⟩
theorem last_get (ys : List Int) (x : Int) : (ys ++ [x])[(ys ++ [x]).length - 1]? = some x := by
  rw [List.length_append, List.length_singleton, Nat.add_sub_cancel, List.getElem?_append_right (Nat.le_refl _), Nat.sub_self]
  rfl
theorem sc__law_sizes : FnScope ["_law_rng_here", "_law_levels", "_law_greatest", "_law_result", "_law_k", "_law_factor"] ["_law_rng_here", "_law_levels", "_law_greatest"] (defScope (top 19)) := ⟨rfl, rfl, rfl, by decide +kernel, rfl, by decide +kernel, by decide +kernel⟩
theorem ok_sizes (T : Tx K mg) (D__law_draw : Df P w K mg base 1 "_law_draw" ["_law_rng_here", "_law_many"] spDraw) (F : FnP K "_law_sizes" "_law_sizes" (top 19) f fd) :
    FnOk P w K mg base CX0 2 f fd ["_law_rng_here", "_law_levels", "_law_greatest"] spSizes := by
  refine F.ok sc__law_sizes (fun vs H Q E h => ?_) (fun cdv A outer s H vs Q E hr h => ⟨_, PSs.nox (pss_cons (ps_set (i := 3) sc__law_sizes.nd rfl (by first | exact Or.inl rfl | exact Or.inr rfl) (pe_lst (pa_cons pe_int pa_nil))) (pss_cons (ps_for PassesOwn.never rfl (pi_range1 rfl T.n_range (pa_cons (pcall D__law_draw hr (pa_cons (pv 0) (pa_cons (pv 1) pa_nil))) pa_nil)) (pg_name (i := 4) sc__law_sizes.nd rfl (by first | exact Or.inl rfl | exact Or.inr rfl)) (pss_cons (ps_set (i := 5) sc__law_sizes.nd rfl (by first | exact Or.inl rfl | exact Or.inr rfl) (pe_ix ix_list (pe_lst (pa_cons pe_int (pa_cons pe_int (pa_cons pe_int (pa_cons pe_int (pa_cons (pe_op op_add pe_int (pcall D__law_draw hr (pa_cons (pv 0) (pa_cons (pe_op op_sub (pv 2) pe_int) pa_nil)))) pa_nil)))))) (pcall D__law_draw hr (pa_cons (pv 0) (pa_cons pe_int pa_nil))) (fun _ _ => rfl))) (pss_one (ps_if (PW.pt (pw_and (pt_cmpR op_le (pe_op op_mul (pe_ix ix_list (pv 3) (pe_un un_neg pe_int) (fun _ _ => rfl)) (pv 5)) (pe_op op_pow pe_int pe_int) (nomark _)) (pw_and1 (pt_cmpR op_le (pv 5) (pv 2) (nomark _))))) (pss_one (ps_expr (pe_bm PySem.F.plainAttrs_list PySem.F.slot_list_append PySem.F.type_list_append mt_append (pv 3) (pa_cons (pe_op op_mul (pe_ix ix_list (pv 3) (pe_un un_neg pe_int) (fun _ _ => rfl)) (pv 5)) pa_nil)))) pss_nil)))) (pss_one (ps_ret (pv 3))))), ?_⟩)
  · obtain ⟨r, lv, gr, rfl, _⟩ := h
    rfl
  · obtain ⟨r, lv, gr, rfl, hR, l1, l2, g1, g2, q⟩ := h
    have big : (10 : Int) ^ 40 = 10000000000000000000000000000000000000000 := by decide
    refine ⟨(by show 1 ≤ sizeLine; decide), fun l hl => ?_⟩
    have nrl : r ≠ l := hR.ne hl
    have s0 : Stp r H (upd H l (.lst [.int 1])) := (Stp.refl hR).new hl
    refine ⟨_, rfl, _, rfl, r, lv, rfl, s0.1, l1, by omega, fun d H1 d0 d1 s1 => ?_⟩
    refine ⟨d, rfl, by omega, by omega, ?_⟩
    have s01 := s0.trans s1
    refine for_range (fun i σ H' => ∃ ns x y, σ = [some (.ref r), some (.int lv), some (.int gr), some (.ref l), x, y] ∧ Good ns ∧ ns.length ≤ i + 1 ∧ H' l = some (.lst (ns.map V.int)) ∧ Stp r H H') ⟨[1], none, none, rfl, good_one, by simp, s1.2 l _ nrl.symm upd_same, s01⟩ ?_ ?_
    · rintro i σ H' hi ⟨ns, x, y, rfl, g, hlen, hL, st⟩
      have hi8 : i < 8 := by omega
      obtain ⟨ys, z, rfl⟩ := last_of g.len.1
      have zr := g.rng _ _ (last_get ys z)
      refine ⟨_, rfl, _, rfl, _, _, rfl, rfl, r, gr - 1, rfl, st.1, by omega, by omega, fun d1 H1 a0 a1 t1 => ?_⟩
      have st1 := st.trans t1
      have hL1 : H1 l = some (.lst ((ys ++ [z]).map V.int)) := t1.2 l _ nrl.symm hL
      refine ⟨_, _, rfl, rfl, (by show 5 ≤ sizeLine; decide), fun t ht => ?_⟩
      have st2 := st1.new (o := .lst [.int 2, .int 2, .int 3, .int 4, .int (2 + d1)]) ht
      have nrt : r ≠ t := st1.1.ne ht
      have hL2 : (upd H1 t (.lst [.int 2, .int 2, .int 3, .int 4, .int (2 + d1)])) l = some (.lst ((ys ++ [z]).map V.int)) := by rw [upd_ne (ne_of_none hL1 ht)]; exact hL1
      refine ⟨_, rfl, r, 5, rfl, st2.1, by decide, by omega, fun d2 H3 b0 b1 t3 => ?_⟩
      have st3 := st2.trans t3
      have hL3 : H3 l = some (.lst ((ys ++ [z]).map V.int)) := t3.2 l _ nrl.symm hL2
      obtain ⟨v, hv, hm⟩ := at_of (xs := [.int 2, .int 2, .int 3, .int 4, .int (2 + d1)]) b0 b1
      obtain ⟨k, rfl, k2⟩ : ∃ k : Int, v = .int k ∧ 2 ≤ k := by
        simp only [List.mem_cons, List.not_mem_nil, or_false] at hm
        rcases hm with rfl | rfl | rfl | rfl | rfl
        · exact ⟨_, rfl, by omega⟩
        · exact ⟨_, rfl, by omega⟩
        · exact ⟨_, rfl, by omega⟩
        · exact ⟨_, rfl, by omega⟩
        · exact ⟨_, rfl, by omega⟩
      refine ⟨t, _, _, _, rfl, rfl, SqL.of (t3.2 t _ nrt.symm upd_same), hv, ?_⟩
      refine ⟨_, rfl, _, rfl, l, _, _, _, rfl, rfl, SqL.of hL3, at_last ys z, _, rfl, _, _, rfl, rfl, .inl ⟨by omega, by omega⟩, _, _, rfl, rfl, ⟨by decide, by decide, by decide⟩, _, _, rfl, rfl, _, rfl, ?_⟩
      by_cases hc : z * k ≤ 10 ^ (9 : Int).toNat
      · refine ifT (decide_eq_true hc) ?_
        refine ⟨_, rfl, _, rfl, _, _, rfl, rfl, _, rfl, ite2 (fun hk => ?_) (fun _ => ?_)⟩
        · refine ⟨_, rfl, .inl ⟨rfl, _, SqL.of hL3⟩, _, rfl, _, rfl, l, _, _, _, rfl, rfl, SqL.of hL3, at_last ys z, _, rfl, _, _, rfl, rfl, .inl ⟨by omega, by omega⟩, l, _, _, rfl, rfl, hL3, ?_, ?_⟩
          · exact small1000 (by rw [List.length_map]; omega)
          · have hc2 : z * k ≤ 1000000000 := hc
            refine ⟨(ys ++ [z]) ++ [z * k], _, _, rfl, good_more g (by omega) (last_get ys z) k2 hc2, by rw [List.length_append (bs := [z * k]), List.length_singleton]; omega, ?_, ?_⟩
            · rw [upd_same, List.map_append (l₂ := [z * k])]
              rfl
            · obtain ⟨⟨x1, x2, e1, e2⟩, kk⟩ := st3
              refine ⟨⟨x1, x2, by rw [upd_ne nrl]; exact e1, e2⟩, fun b o n e => ?_⟩
              rw [upd_ne (ne_of_none e hl)]
              exact kk b o n e
        · exact ⟨_, _, _, rfl, g, by omega, hL3, st3⟩
      · exact ifF (decide_eq_false hc) ⟨_, _, _, rfl, g, by omega, hL3, st3⟩
    · rintro σ H' ⟨ns, x, y, rfl, g, hlen, hL, st⟩
      exact ⟨_, rfl, q l ns H' g hl hL st⟩
end
end K11

set_option Elab.async false
set_option linter.all false
set_option maxRecDepth 100000
set_option maxHeartbeats 4000000
set_option pp.maxSteps 900
namespace K11
open PySem PySem.Spec PyProof.Rows L2 Gu Ex
abbrev SzI (K : PySem.W.Frag) (H : Hp) (p : Addr) (ns : List Int) : Prop := SzAt (cS K) H p (ns.map V.int)
theorem dp_ints {K : PySem.W.Frag} {H : Hp} : ∀ ns : List Int, DpAll K H (ns.map V.int) (ns.map PyData.int)
  | [] => .nil
  | n :: r => .cons (.int n) (dp_ints r)
theorem flat : ∀ ns : List Int, PyData.depthAll (ns.map PyData.int) = 0
  | [] => rfl
  | n :: r => by
    show max 0 (PyData.depthAll (r.map PyData.int)) = 0
    rw [flat r]
    rfl
theorem can_lay : ∀ ns : List Int, PyData.canLayAll0 (ns.map PyData.int) = true
  | [] => rfl
  | n :: r => by simp only [List.map_cons, PyData.canLayAll0, PyData.canLay0, can_lay r, Bool.and_self]
theorem shaped_ints (ns : List Int) : SeqAt.shaped (.list (ns.map PyData.int)) = true := by
  have e : (PyData.list (ns.map PyData.int)).depth = 1 := by
    show PyData.depthAll (ns.map PyData.int) + 1 = 1
    rw [flat]
  have c : (PyData.list (ns.map PyData.int)).canLay0 = true := can_lay ns
  unfold SeqAt.shaped
  rw [c, e]
  rfl
theorem eqv_ints : ∀ ns ms : List Int, PyData.eqvAll (ns.map PyData.int) (ms.map PyData.int) = decide (ns = ms)
  | [], [] => rfl
  | [], _ :: _ => rfl
  | _ :: _, [] => rfl
  | n :: ns, m :: ms => by
    show ((n == m) && PyData.eqvAll (ns.map PyData.int) (ms.map PyData.int)) = _
    rw [eqv_ints ns ms]
    by_cases h : n = m
    · subst h
      simp
    · simp [h]
theorem ints_tq {K : PySem.W.Frag} {H : Hp} : ∀ {ns : List Int}, (∀ x ∈ ns, -(10 ^ 39) ≤ x ∧ x ≤ 10 ^ 39) → TqAll K H (ns.map V.int) (ns.map PyData.int) 0 41
  | [], _ => ⟨.nil, rfl, Nat.zero_le _, Nat.zero_le _⟩
  | q :: r, h => by
    have a := ints_tq (K := K) (H := H) (ns := r) fun x hx => h x (List.mem_cons_of_mem _ hx)
    obtain ⟨l1, l2⟩ := h q List.mem_cons_self
    have t := tq_int (K := K) (H := H) l1 l2
    obtain ⟨a1, a2, a3, a4⟩ := a
    refine ⟨.cons t.dq a1, ?_, ?_, ?_⟩
    · show ((PyData.int q).showable && PyData.showableAll (r.map PyData.int)) = true
      rw [t.sh, a2]
      rfl
    · show max (PyData.int q).depth (PyData.depthAll (r.map PyData.int)) ≤ 0
      have := t.dp
      omega
    · show ((PyData.int q).shown.length + ((PyData.shownAll (r.map PyData.int)).map (·.length)).sum) + 2 * ((PyData.shownAll (r.map PyData.int)).length + 1) ≤ ((r.map V.int).length + 1) * (41 + 2)
      have := t.ln
      rw [Nat.add_mul, Nat.one_mul]
      omega
theorem Good.bnd {ns : List Int} (g : Good ns) : ∀ x ∈ ns, -(10 ^ 39) ≤ x ∧ x ≤ 10 ^ 39 := fun x hx => by
  obtain ⟨i, hi⟩ := List.getElem?_of_mem hx
  have := g.rng i x hi
  have b39 : (10 : Int) ^ 39 = 1000000000000000000000000000000000000000 := by decide
  omega
def shI (ns : List Int) : Str := (PyData.list (ns.map PyData.int)).shown
theorem good_tq {K : PySem.W.Frag} {H : Hp} {l : Addr} {ns : List Int} (g : Good ns) (h : H l = some (.lst (ns.map V.int))) : Tq K H (.ref l) (.list (ns.map PyData.int)) 1 400 := by
  have t := (ints_tq (K := K) (H := H) g.bnd).lst h
  have l8 := g.len
  refine t.mono (by decide) ?_
  rw [List.length_map]
  omega
section
variable {P : Program} {w : World} {K : PySem.W.Frag} {mg : Str → Option Value} {base : Heap} {f : Addr} {fd : FuncData}
def spTop (K : PySem.W.Frag) : Sp := fun vs H Q _ => ∃ (p : Addr) (ns : List Int), vs = [.ref p] ∧ SzI K H p ns ∧ Q (.int ((ns.length : Int) - 1)) H
theorem sc_top : FnScope ["self"] ["self"] (defScope (inClass (top 14) 10)) := ⟨rfl, rfl, rfl, by decide +kernel, rfl, by decide +kernel, by decide +kernel⟩
theorem ok_top (T : Tx K mg) (F : FnP K "top" "Sizes.top" (inClass (top 14) 10) f fd) : FnOk P w K mg base CX0 1 f fd ["self"] (spTop K) := by
  refine F.ok sc_top (fun vs H Q E h => ?_) (fun cdv A outer s H vs Q E hr h => ⟨_, PSs.nox (pss_one (ps_ret (pe_op op_sub (pe_callB call_len_seq (by rfl) T.n_len (by decide +kernel) (pa_cons (pe_fld (pv 0) rfl) pa_nil)) pe_int))), ?_⟩)
  · obtain ⟨p, ns, rfl, _⟩ := h
    rfl
  · obtain ⟨p, ns, rfl, ⟨dx, l, h1, h2⟩, q⟩ := h
    refine ⟨_, rfl, p, _, dx, _, _, rfl, h1, T.cl, T.nSL, szF_get l, l, _, rfl, .inl (SqL.of h2), _, _, rfl, rfl, ?_⟩
    rw [List.length_map]
    exact q
def spHas (K : PySem.W.Frag) : Sp := fun vs H Q _ => ∃ (p : Addr) (ns : List Int) (i : Nat), vs = [.ref p, .int i] ∧ SzI K H p ns ∧ i < ns.length ∧ Q (.bl true) H
theorem sc_has_level : FnScope ["self", "level"] ["self", "level"] (defScope (inClass (top 14) 12)) := ⟨rfl, rfl, rfl, by decide +kernel, rfl, by decide +kernel, by decide +kernel⟩
theorem ok_has (T : Tx K mg) (D_is_integer : Df P w K mg base 1 "is_integer" ["value"] spInt) (P_top : Pf P w K mg base 1 "Sizes" "top" (spTop K)) (F : FnP K "has_level" "Sizes.has_level" (inClass (top 14) 12) f fd) :
    FnOk P w K mg base CX0 3 f fd ["self", "level"] (spHas K) := by
  refine F.ok sc_has_level (fun vs H Q E h => ?_) (fun cdv A outer s H vs Q E hr h => ⟨_, PSs.nox (pss_one (ps_ret (pe_and (pcall D_is_integer hr (pa_cons (pv 1) pa_nil)) (pe_one (pe_chain op_le op_le pe_int (pv 1) (pprop P_top hr (pv 0))))))), ?_⟩)
  · obtain ⟨p, ns, i, rfl, _⟩ := h
    rfl
  · obtain ⟨p, ns, i, rfl, hz, hi, q⟩ := h
    obtain ⟨dx, l, h1, h2⟩ := id hz
    refine ⟨_, rfl, _, rfl, .int _, true, rfl, iteT ?_⟩
    refine ⟨_, rfl, _, _, rfl, rfl, true, bT (by omega), iteT ?_⟩
    refine ⟨_, rfl, p, dx, _, rfl, h1, p, ns, rfl, hz, _, _, rfl, rfl, ?_⟩
    have e : decide ((i : Int) ≤ (ns.length : Int) - 1) = true := decide_eq_true (by omega)
    show Q (.bl (decide ((i : Int) ≤ (ns.length : Int) - 1))) H
    rw [e]
    exact q
def spCheckL (K : PySem.W.Frag) : Sp := fun vs H Q _ => ∃ (p : Addr) (ns : List Int) (i : Nat), vs = [.ref p, .int i] ∧ SzI K H p ns ∧ i < ns.length ∧ Q .non H
theorem sc_check_level : FnScope ["self", "level"] ["self", "level"] (defScope (inClass (top 14) 13)) := ⟨rfl, rfl, rfl, by decide +kernel, rfl, by decide +kernel, by decide +kernel⟩
theorem ok_check_level (T : Tx K mg) (M_has_level : Mf P w K mg base 3 "Sizes" "has_level" ["self", "level"] (spHas K)) (F : FnP K "check_level" "Sizes.check_level" (inClass (top 14) 13) f fd) :
    FnOk P w K mg base CX0 4 f fd ["self", "level"] (spCheckL K) := by
  refine F.ok sc_check_level (fun vs H Q E h => ?_) (fun cdv A outer s H vs Q E hr h => ⟨_, PSs.nox (pss_one (ps_if (pt_not (pt_val (pmeth M_has_level hr (pv 0) (pa_cons (pv 1) pa_nil)))) (pss_one ps_never) pss_nil)), ?_⟩)
  · obtain ⟨p, ns, i, rfl, _⟩ := h
    rfl
  · obtain ⟨p, ns, i, rfl, hz, hi, q⟩ := h
    obtain ⟨dx, l, h1, h2⟩ := id hz
    exact ⟨_, rfl, p, dx, _, rfl, h1, szF_no l (by decide +kernel), _, rfl, p, ns, i, rfl, hz, hi, true, rfl, iteF q⟩
def spSize (K : PySem.W.Frag) : Sp := fun vs H Q _ => ∃ (p : Addr) (ns : List Int) (i : Nat) (x : Int), vs = [.ref p, .int i] ∧ SzI K H p ns ∧ ns[i]? = some x ∧ Q (.int x) H
theorem sc_size : FnScope ["self", "level"] ["self", "level"] (defScope (inClass (top 14) 14)) := ⟨rfl, rfl, rfl, by decide +kernel, rfl, by decide +kernel, by decide +kernel⟩
theorem ok_size (T : Tx K mg) (M_check_level : Mf P w K mg base 4 "Sizes" "check_level" ["self", "level"] (spCheckL K)) (F : FnP K "size" "Sizes.size" (inClass (top 14) 14) f fd) :
    FnOk P w K mg base CX0 5 f fd ["self", "level"] (spSize K) := by
  refine F.ok sc_size (fun vs H Q E h => ?_) (fun cdv A outer s H vs Q E hr h => ⟨_, PSs.nox (pss_cons (ps_expr (pmeth M_check_level hr (pv 0) (pa_cons (pv 1) pa_nil))) (pss_one (ps_ret (pe_ix ix_list (pe_fld (pv 0) rfl) (pv 1) (fun _ _ => rfl))))), ?_⟩)
  · obtain ⟨p, ns, i, x, rfl, _⟩ := h
    rfl
  · obtain ⟨p, ns, i, x, rfl, hz, hx, q⟩ := h
    obtain ⟨dx, l, h1, h2⟩ := id hz
    refine ⟨_, rfl, p, dx, _, rfl, h1, szF_no l (by decide +kernel), _, rfl, p, ns, i, rfl, hz, (List.getElem?_eq_some_iff.mp hx).1, ?_⟩
    exact ⟨_, rfl, p, _, dx, _, _, rfl, h1, T.cl, T.nSL, szF_get l, _, rfl, l, _, _, _, rfl, rfl, SqL.of h2, at_map hx, q⟩
def spSEq (K : PySem.W.Frag) : Sp := fun vs H Q _ => ∃ (p : Addr) (y : V) (ns : List Int), vs = [.ref p, y] ∧ SzI K H p ns ∧ ((∃ (q : Addr) (ms : List Int), y = .ref q ∧ SzI K H q ms ∧ Q (.bl (decide (ns = ms))) H) ∨ (∃ T, Bv H y T ∧ Q (.bl false) H))
theorem sc_Sizes_eq : FnScope ["self", "other"] ["self", "other"] (defScope (inClass (top 14) 5)) := ⟨rfl, rfl, rfl, by decide +kernel, rfl, by decide +kernel, by decide +kernel⟩
theorem ok_seq (T : Tx K mg) (F : FnP K "__eq__" "Sizes.__eq__" (inClass (top 14) 5) f fd) : FnOk P w K mg base CX0 1 f fd ["self", "other"] (spSEq K) := by
  refine F.ok sc_Sizes_eq (fun vs H Q E h => ?_) (fun cdv A outer s H vs Q E hr h => ⟨_, PSs.nox (pss_one (ps_ret (pe_and (pe_callB call_isi (by rfl) T.n_isinstance (by decide +kernel) (pa_cons (pv 1) (pa_cons (pe_glob (v := .ref _) rfl T.g_Sizes rfl) pa_nil))) (pe_one (pe_cmpR (op_eqD hr.units) (pe_fld (pv 0) rfl) (pe_fld (pv 1) rfl) (nomark _)))))), ?_⟩)
  · obtain ⟨p, y, ns, rfl, _⟩ := h
    rfl
  · obtain ⟨p, y, ns, rfl, ⟨dx, l, h1, h2⟩, ⟨r, ms, rfl, ⟨dy, m, k1, k2⟩, q⟩ | ⟨Ty, bv, q⟩⟩ := h
    · refine ⟨_, rfl, _, _, _, _, true, rfl, .own _, T.io.ty k1, T.io.ki, _, rfl, iteT ?_⟩
      refine ⟨_, rfl, p, _, dx, _, _, rfl, h1, T.cl, T.nSL, szF_get l, _, rfl, r, _, dy, _, _, rfl, k1, T.cl, T.nSL, szF_get m, _, _, .lst (SqL.of h2) (dp_ints ns), .lst (SqL.of k2) (dp_ints ms), shaped_ints _, shaped_ints _, ?_⟩
      show Q (.bl (PyData.eqvAll (ns.map PyData.int) (ms.map PyData.int))) H
      rw [eqv_ints]
      exact q
    · exact ⟨_, rfl, _, _, _, _, false, rfl, .own _, bv.tyx, T.bu.kit bv, _, rfl, iteF q⟩
def spLen (K : PySem.W.Frag) : Sp := fun vs H Q _ => ∃ (p : Addr) (ns : List Int), vs = [.ref p] ∧ SzI K H p ns ∧ Q (.int (ns.length : Nat)) H
theorem sc_Sizes_len : FnScope ["self"] ["self"] (defScope (inClass (top 14) 6)) := ⟨rfl, rfl, rfl, by decide +kernel, rfl, by decide +kernel, by decide +kernel⟩
theorem ok_len (T : Tx K mg) (F : FnP K "__len__" "Sizes.__len__" (inClass (top 14) 6) f fd) : FnOk P w K mg base CX0 1 f fd ["self"] (spLen K) := by
  refine F.ok sc_Sizes_len (fun vs H Q E h => ?_) (fun cdv A outer s H vs Q E hr h => ⟨_, PSs.nox (pss_one (ps_ret (pe_callB call_len_seq (by rfl) T.n_len (by decide +kernel) (pa_cons (pe_fld (pv 0) rfl) pa_nil)))), ?_⟩)
  · obtain ⟨p, ns, rfl, _⟩ := h
    rfl
  · obtain ⟨p, ns, rfl, ⟨dx, l, h1, h2⟩, q⟩ := h
    refine ⟨_, rfl, p, _, dx, _, _, rfl, h1, T.cl, T.nSL, szF_get l, l, _, rfl, .inl (SqL.of h2), ?_⟩
    rw [List.length_map]
    exact q
def spRepr (K : PySem.W.Frag) : Sp := fun vs H Q _ => ∃ (p : Addr) (ns : List Int), vs = [.ref p] ∧ SzI K H p ns ∧ Good ns ∧ Q (.str (("Sizes(" : Str) ++ shI ns ++ (")" : Str))) H
theorem sc_Sizes_repr : FnScope ["self"] ["self"] (defScope (inClass (top 14) 7)) := ⟨rfl, rfl, rfl, by decide +kernel, rfl, by decide +kernel, by decide +kernel⟩
theorem ok_repr (T : Tx K mg) (F : FnP K "__repr__" "Sizes.__repr__" (inClass (top 14) 7) f fd) : FnG P w K mg base CX0 2 f fd ["self"] (spRepr K) := by
  refine okG F sc_Sizes_repr (fun vs H Q E h => ?_) (fun cdv A outer s H vs Q E hr h => ⟨_, PSs.nox (pss_one (ps_ret (pe_joined (.cons pe_str (.cons (pe_fmtRQ hr T.sys (pe_fld (pv 0) rfl)) (.cons pe_str .nil)))))), ?_⟩)
  · obtain ⟨p, ns, rfl, _⟩ := h
    rfl
  · obtain ⟨p, ns, rfl, ⟨dx, l, h1, h2⟩, g, q⟩ := h
    have t := good_tq (K := K) g h2
    have sl : sizeLine = 16777216 := sizeLine_eq
    have e0 : (Str.empty ++ ("Sizes(" : Str)) = ("Sizes(" : Str) := by decide +kernel
    have l0 : ("Sizes(" : Str).length = 6 := by decide +kernel
    have l1 : (")" : Str).length = 1 := by decide +kernel
    have ln : (PyData.list (ns.map PyData.int)).shown.length ≤ 400 := t.ln
    refine ⟨_, rfl, by rw [e0, l0]; omega, _, rfl, p, _, dx, _, _, rfl, h1, T.cl, T.nSL, szF_get l, l, _, rfl, t.dq, t.sh, Nat.le_trans t.dp (by decide), by omega, ?_⟩
    refine ⟨_, rfl, by rw [e0, Str.length_append, l0]; omega, _, rfl, by rw [e0, Str.length_append, Str.length_append, l0, l1]; omega, ?_⟩
    rw [e0]
    exact q
end
end K11

set_option Elab.async false
set_option linter.all false
set_option maxRecDepth 100000
set_option maxHeartbeats 4000000
/-! Mathematics of k11: words read as sizes. -/
namespace K11
open PySem PySem.Spec PyProof.Rows L2 Gu Ex
abbrev cs (x : Str) : List Nat := x.cps.toList
theorem len_cs (x : Str) : x.length = (cs x).length := (Array.length_toList ..).symm
theorem cs_inj {x y : Str} (h : cs x = cs y) : x = y := by
  obtain ⟨a⟩ := x
  obtain ⟨b⟩ := y
  have : a = b := Array.toList_inj.mp h
  rw [this]
theorem digit_in {c : Nat} : c ∈ digits.cps.toList ↔ (48 ≤ c ∧ c ≤ 57) := by
  have e : digits.cps.toList = [48, 49, 50, 51, 52, 53, 54, 55, 56, 57] := by decide +kernel
  rw [e]
  simp only [List.mem_cons, List.not_mem_nil, or_false]
  omega
def allD (l : List Nat) : Bool := l.all fun c => decide (c ∈ digits.cps.toList)
theorem allD_iff {l : List Nat} : allD l = true ↔ NumText.AllDigits l := by
  unfold allD NumText.AllDigits
  rw [List.all_eq_true]
  constructor
  · intro h c hc
    exact digit_in.mp (of_decide_eq_true (h c hc))
  · intro h c hc
    exact decide_eq_true (digit_in.mpr (h c hc))
theorem fold_pos : ∀ (l : List Nat) (a : Nat), 1 ≤ a → 1 ≤ l.foldl (fun acc c => acc * 10 + (c - 48)) a
  | [], _, h => h
  | c :: l, a, h => fold_pos l (a * 10 + (c - 48)) (by omega)
/-- the law's view of a word: a number without a leading 0 -/
def isW (x : Str) : Bool := match cs x with
  | [] => false
  | c :: r => decide (c ≠ 48) && allD (c :: r)
theorem sw_dash (x : Str) : Txt.startswith x "-" = true ↔ ∃ r, cs x = 45 :: r := by
  have hy : TL.tl ("-" : Str) = [45] := by decide +kernel
  have a := TL.at_iff (x := x) (y := "-") (by rw [hy]; simp) 0
  have e : Txt.startswith x "-" = true ↔ TL.pre (TL.tl ("-" : Str)) ((TL.tl x).drop 0) = true := by
    rw [← a]
    unfold Txt.startswith
    rw [Bool.and_eq_true, decide_eq_true_eq]
    exact Iff.rfl
  rw [e, hy, List.drop_zero]
  unfold TL.pre
  show (List.take 1 (cs x) == [45]) = true ↔ _
  cases h : cs x with
  | nil => simp
  | cons c r =>
    simp only [List.take_succ_cons, List.take_zero, beq_iff_eq, List.cons.injEq, and_true]
    constructor
    · rintro rfl
      exact ⟨r, rfl, rfl⟩
    · rintro ⟨_, h, _⟩
      exact h
theorem cut_head {x : Str} {c : Nat} {r : List Nat} (h : cs x = c :: r) : cs (cutS x (some 1) none) = r := by
  have hl : x.length = r.length + 1 := by rw [len_cs, h]; rfl
  show ((cs x).drop (HT.sIx x.length 0 (some 1))).take (HT.sIx x.length x.length none - HT.sIx x.length 0 (some 1)) = r
  have e1 : HT.sIx x.length 0 (some 1) = 1 := by
    have := HT.sIx_nat x.length 0 1
    rw [show ((1 : Nat) : Int) = 1 from rfl] at this
    rw [this]
    omega
  rw [e1, HT.sIx_none, h, List.drop_succ_cons, List.drop_zero]
  exact List.take_of_length_le (by omega)
/-- what a word may be read as -/
def RdOk (x : Str) (v : V) : Prop := (isW x = true → ∃ n : Int, intText? x = some n ∧ 1 ≤ n ∧ v = .int n) ∧ (isW x = false → v = .non ∨ ∃ n : Int, v = .int n ∧ n ≤ 0)
theorem isW_num {x : Str} (h : isW x = true) (hl : x.length ≤ 4000) : ∃ n : Int, intText? x = some n ∧ 1 ≤ n ∧ NumText.AllDigits (cs x) ∧ cs x ≠ [] := by
  unfold isW at h
  cases hc : cs x with
  | nil => rw [hc] at h; cases h
  | cons c r =>
    rw [hc] at h
    obtain ⟨h1, h2⟩ := He.ba (show (decide (c ≠ 48) && allD (c :: r)) = true from h)
    have ad := allD_iff.mp h2
    have c0 := of_decide_eq_true h1
    have c1 := ad.head
    have e := intText_digits (x := x) (by rw [show x.cps.toList = c :: r from hc]; exact ad) (by rw [show x.cps.toList = c :: r from hc]; simp) (by omega)
    refine ⟨_, e, ?_, ad, by simp⟩
    have : 1 ≤ NumText.digitsVal (cs x) := by
      rw [hc]
      show 1 ≤ r.foldl (fun acc c => acc * 10 + (c - 48)) (0 * 10 + (c - 48))
      exact fold_pos r _ (by omega)
    show (1 : Int) ≤ ((NumText.digitsVal (cs x) : Nat) : Int)
    omega
end K11

set_option Elab.async false
set_option linter.all false
set_option maxRecDepth 100000
set_option maxHeartbeats 4000000
set_option pp.maxSteps 900
namespace K11
open PySem PySem.Spec PyProof.Rows L2 Gu Ex
/-- a comprehension over a text's signs -/
theorem lc_text {x : Str} {g : TG} {tt : TT} {te : TE} {vs : List Nat} {σ : L2.St} {H1 : Hp} {D : Addr} {Qd : Hp → Prop} (Pv : Nat → Hp → Prop) (h0 : Pv 0 (upd H1 D (.lst [])))
    (hs : ∀ i c H, x.cps.toList[i]? = some c → Pv i H → g (.str ⟨#[c]⟩) (wipe σ vs) H fun σ2 H2 => wipe σ2 vs = wipe σ vs ∧ tt σ2 H2 fun b H3 =>
      if b = true then te σ2 H3 fun y H4 => ∃ acc, H4 D = some (.lst acc) ∧ acc.length < sizeLine ∧ Pv (i + 1) (upd H4 D (.lst (acc ++ [y]))) else Pv (i + 1) H3) (hd : ∀ H, Pv x.cps.toList.length H → Qd H) :
    ∃ W : Nat → Nat → Hp → Prop, (∃ m, W 0 m (upd H1 D (.lst []))) ∧ ∀ i m H, W i m H →
      ((Its x).stop i H ∧ Qd H) ∨ ((Its x).go i H ∧ ∃ Nx : Hp → Prop, (∀ H', Nx H' → ∃ m', m' < m ∧ W (i + 1) m' H') ∧ ∀ v H', (Its x).yld i H v H' → g v (wipe σ vs) H' fun σ2 H2 => wipe σ2 vs = wipe σ vs ∧ tt σ2 H2 fun b H3 =>
        if b = true then te σ2 H3 fun y H4 => ∃ acc, H4 D = some (.lst acc) ∧ acc.length < sizeLine ∧ Nx (upd H4 D (.lst (acc ++ [y]))) else Nx H3) := by
  have hsz : x.cps.size = x.cps.toList.length := (Array.length_toList ..).symm
  refine ⟨fun i m H => m = x.cps.size - i ∧ i ≤ x.cps.size ∧ Pv i H, ⟨x.cps.size, by simp, Nat.zero_le _, h0⟩, ?_⟩
  rintro i m H ⟨rfl, hi, p⟩
  by_cases hlt : i < x.cps.size
  · refine .inr ⟨hlt, Pv (i + 1), fun H' p' => ⟨x.cps.size - (i + 1), by omega, rfl, hlt, p'⟩, fun v H' y => ?_⟩
    obtain ⟨rfl, c, hc, rfl⟩ := y
    exact hs i c _ (by rw [Array.getElem?_toList]; exact hc) p
  · have e : i = x.cps.size := by omega
    subst e
    refine .inl ⟨Nat.le_refl _, hd H (by rw [← hsz]; exact p)⟩
theorem join2 {α β : Type} {G : Prop} (Pc : α → β → Prop) {R : α → β → Prop} (h1 : (∀ a b, Pc a b → R a b) → G) (h2 : ∀ a b, Pc a b → R a b) : G := h1 h2
theorem sv_ne {a b : Str} (h : ¬ a = b) : ¬ V.str a = V.str b := fun z => h (V.str.inj z)
theorem at_head {c : Nat} {r : List Nat} : atI (c :: r) 0 = some c := (show atI (c :: r) ((0 : Nat) : Int) = some c from atI_nat rfl)
theorem one_sign {c d : Nat} (h : c ≠ d) : ¬ (⟨#[c]⟩ : Str) = ⟨#[d]⟩ := fun z => by
  have e := congrArg (fun y : Str => y.cps.toList) z
  exact h (List.cons.inj (show [c] = [d] from e)).1
section
variable {P : Program} {w : World} {K : PySem.W.Frag} {mg : Str → Option Value} {base : Heap} {f : Addr} {fd : FuncData}
def spRead : Sp := fun vs H Q _ => ∃ x : Str, vs = [.str x] ∧ x.length ≤ 600 ∧ ∀ v H', Same H H' → RdOk x v → Q v H'
theorem sc_read_integer : FnScope ["word", "digits", "digit"] ["word"] (defScope (top 11)) := ⟨rfl, rfl, rfl, by decide +kernel, rfl, by decide +kernel, by decide +kernel⟩
theorem ok_read (T : Tx K mg) (F : FnP K "read_integer" "read_integer" (top 11) f fd) : FnOk P w K mg base CX0 1 f fd ["word"] spRead := by
  obtain ⟨td, hD⟩ := T.gD
  obtain ⟨tm, hM⟩ := T.gM
  refine F.ok sc_read_integer (fun vs H Q E h => ?_) (fun cdv A outer s H vs Q E hr h => ⟨_, PSs.nox (pss_cons (ps_set (i := 1) sc_read_integer.nd rfl (by first | exact Or.inl rfl | exact Or.inr rfl) (pe_ifExp (pt_val (pe_m1 PySem.F.slot_str_startswith PySem.F.type_str_startswith mt_startswith (pv 0) pe_str)) (pe_slice sl_str (pv 0) (po_some pe_int) po_none) (pv 0))) (pss_cons (ps_if (PW.pt (pw_or (pt_not (pt_chain op_le op_le pe_int (pe_callB call_len_str (by rfl) T.n_len (by decide +kernel) (pa_cons (pv 1) pa_nil)) (pe_glob (v := .int 4000) rfl hM ⟨_, rfl⟩))) (pw_or1 (pt_not (pt_val (pe_callB (cr_all rfl) (by rfl) T.n_all (by decide +kernel) (pa_cons (pe_lc (own := [("digit", 2)]) (g := gName 2) rfl sc_read_integer.nd (pi_str (pv 1)) (blkOk_by (own := [("digit", 2)]) (N := ["word", "digits", "digit"]) (sc := defScope (top 11)) (by decide +kernel)) (fun _ _ _ _ _ => pg_name (i := 2) sc_read_integer.nd rfl (Or.inl rfl)) (fun _ _ _ _ _ => pts_nil) (fun _ _ _ _ _ => (pe_cmpR op_in_sign (pv 2) (pe_glob (v := .str digits) rfl hD ⟨_, rfl⟩) (by rfl)))) pa_nil))))))) (pss_one (ps_ret pe_non)) pss_nil) (pss_one (ps_ret (pe_ifExp (PW.pt (pw_or (pt_cmpR op_ne (pe_ix ix_str (pv 1) pe_int (fun _ _ => rfl)) pe_str (nomark _)) (pw_or1 (pt_cmpR op_eq (pv 0) pe_str (nomark _))))) (pe_callTy call_int_str (by rfl) T.n_int (by decide +kernel) (pa_cons (pv 0) pa_nil)) pe_non))))), ?_⟩)
  · obtain ⟨x, rfl, _⟩ := h
    rfl
  · obtain ⟨x, rfl, hl, q⟩ := h
    have sl : sizeLine = 16777216 := sizeLine_eq
    have z48 : ("0" : Str) = ⟨#[48]⟩ := by decide +kernel
    have cz : cs ("0" : Str) = [48] := by decide +kernel
    refine join (fun y : Str => y.length ≤ 600 ∧ ((∃ r, cs x = 45 :: r ∧ cs y = r) ∨ ((¬ ∃ r, cs x = 45 :: r) ∧ y = x))) (R := ?R) (fun tail => ?main) ?tl
    case main =>
      refine ⟨_, rfl, ⟨x, rfl⟩, x, "-", rfl, rfl, _, rfl, ?_⟩
      by_cases h1 : Txt.startswith x "-" = true
      · obtain ⟨r, hr⟩ := (sw_dash x).mp h1
        refine ifT h1 ⟨_, rfl, _, rfl, x, rfl, by omega, ?_⟩
        have hc := cut_head hr
        have hcl : (cutS x (some 1) none).length ≤ 600 := by
          rw [len_cs, hc]
          have := len_cs x
          rw [hr] at this
          simp only [List.length_cons] at this
          omega
        generalize cutS x (some 1) none = y at *
        exact tail y ⟨hcl, .inl ⟨r, hr, hc⟩⟩
      · refine ifF (eq_false_of_ne_true h1) ⟨_, rfl, ?_⟩
        exact tail x ⟨hl, .inr ⟨fun z => h1 ((sw_dash x).mpr z), rfl⟩⟩
    case tl =>
      rintro y ⟨yl, hy⟩
      have ylc := len_cs y
      have xlc := len_cs x
      have no : ∀ H', Same H H' → isW x = false → Q .non H' := fun H' s h => q .non H' s ⟨fun z => (by rw [h] at z; cases z), fun _ => .inl rfl⟩
      -- a word that is one of the law's has all signs in digits, and begins not with a dash
      have good : isW x = true → y = x ∧ allD (cs y) = true ∧ cs y ≠ [] ∧ ∀ c r, cs y = c :: r → c ≠ 48 := fun h => by
        obtain ⟨n, _, _, ad, ne⟩ := isW_num h (by omega)
        rcases hy with ⟨r, h1, _⟩ | ⟨_, rfl⟩
        · rw [h1] at ad
          exact absurd ad.head (by omega)
        · refine ⟨rfl, allD_iff.mpr ad, ne, fun c r e => ?_⟩
          unfold isW at h
          rw [e] at h
          exact of_decide_eq_true (He.ba (show (decide (c ≠ 48) && allD (c :: r)) = true from h)).1
      refine ⟨_, rfl, y, rfl, by omega, _, _, rfl, rfl, _, rfl, ?_⟩
      by_cases h1 : (1 : Int) ≤ (y.length : Int)
      case neg =>
        have w0 : isW x = false := by
          cases hw : isW x with
          | false => rfl
          | true =>
            obtain ⟨_, _, ne, _⟩ := good hw
            have : (cs y).length ≠ 0 := fun z => ne (List.eq_nil_of_length_eq_zero z)
            omega
        exact ifF (decide_eq_false h1) ⟨_, rfl, iteT (no H (Same.refl H) w0)⟩
      case pos =>
        refine ifT (decide_eq_true h1) ⟨_, _, rfl, rfl, _, rfl, ?_⟩
        refine ifF (by rw [decide_eq_true (show (y.length : Int) ≤ 4000 by omega)]; rfl) ?_
        refine ⟨_, rfl, y, rfl, fun D hD => ?_⟩
        refine lc_text (fun i H' => H' D = some (.lst (((cs y).take i).map fun c => V.bl (decide (c ∈ digits.cps.toList)))) ∧ Same H H') ⟨upd_same, same_upd hD⟩ ?_ ?_
        · rintro i c H' hc ⟨hD', sm⟩
          have hi : i < (cs y).length := (List.getElem?_eq_some_iff.mp hc).1
          refine ⟨rfl, _, rfl, c, digits, rfl, rfl, _, hD', small1000 ?_, ?_, fun b o e => ?_⟩
          · rw [List.length_map, List.length_take]
            omega
          · rw [upd_same, List.take_add_one, hc, List.map_append]
            rfl
          · rw [upd_ne (ne_of_none e hD)]
            exact sm b o e
        · rintro H' ⟨hD', sm⟩
          rw [List.take_length] at hD'
          have eq : ((cs y).map fun c => V.bl (decide (c ∈ digits.cps.toList))) = ((cs y).map fun c => decide (c ∈ digits.cps.toList)).map V.bl := by rw [List.map_map]; rfl
          rw [eq] at hD'
          refine ⟨D, _, rfl, SqL.of hD', ?_⟩
          have ea : (List.map (fun c => decide (c ∈ digits.cps.toList)) (cs y)).all id = allD (cs y) := by
            rw [List.all_map]
            rfl
          rw [ea]
          refine ⟨_, rfl, ?_⟩
          cases hall : allD (cs y) with
          | false =>
            have w0 : isW x = false := by
              cases hw : isW x with
              | false => rfl
              | true =>
                obtain ⟨_, a, _, _⟩ := good hw
                rw [hall] at a
                cases a
            exact iteT (no H' sm w0)
          | true =>
            have ad := allD_iff.mp hall
            refine iteF ?_
            cases hcy : cs y with
            | nil => rw [hcy] at ylc; simp at ylc; omega
            | cons c r =>
              refine ⟨_, rfl, y, 0, c, rfl, rfl, by omega, by rw [show y.cps.toList = c :: r from hcy]; exact at_head, rfl, _, rfl, ?_⟩
              have dec : ∀ n : Int, intText? x = some n → RdOk x (.int n) → Q (.int n) H' := fun n e k => q (.int n) H' sm k
              by_cases hc : c = 48
              · -- begins with 0
                have w0 : isW x = false := by
                  cases hw : isW x with
                  | false => rfl
                  | true =>
                    obtain ⟨_, _, _, z⟩ := good hw
                    exact absurd hc (z c r hcy)
                refine ifF (by rw [z48, hc, decide_eq_true rfl]; rfl) ⟨_, rfl, rfl, _, rfl, ?_⟩
                by_cases hx0 : x = "0"
                · refine ifT (decide_eq_true (congrArg V.str hx0)) ⟨_, rfl, x, 0, rfl, ?_, by omega, ?_⟩
                  · rw [hx0]
                    decide +kernel
                  · exact q (.int 0) H' sm ⟨fun z => (by rw [w0] at z; cases z), fun _ => .inr ⟨0, rfl, by decide⟩⟩
                · exact ifF (decide_eq_false (sv_ne hx0)) (no H' sm w0)
              · refine ifT (by rw [z48, decide_eq_false (sv_ne (one_sign hc))]; rfl) ?_
                rcases hy with ⟨r', h1', h2'⟩ | ⟨_, rfl⟩
                · -- a negative number
                  have en := intText_neg (x := x) h1' (by rw [← h2']; exact ad) (by rw [← h2', hcy]; simp) (by omega)
                  have w0 : isW x = false := by
                    cases hw : isW x with
                    | false => rfl
                    | true =>
                      obtain ⟨_, _, _, ad2, _⟩ := isW_num hw (by omega)
                      rw [h1'] at ad2
                      exact absurd ad2.head (by omega)
                  refine ⟨_, rfl, x, _, rfl, en, by omega, ?_⟩
                  exact q _ H' sm ⟨fun z => (by rw [w0] at z; cases z), fun _ => .inr ⟨_, rfl, by omega⟩⟩
                · have hw : isW y = true := by
                    unfold isW
                    rw [hcy]
                    show (decide (c ≠ 48) && allD (c :: r)) = true
                    rw [decide_eq_true hc, ← hcy, hall]
                    rfl
                  obtain ⟨n, e1, e2, _, _⟩ := isW_num hw (by omega)
                  refine ⟨_, rfl, y, n, rfl, e1, by omega, ?_⟩
                  exact q _ H' sm ⟨fun _ => ⟨n, e1, e2, rfl⟩, fun z => (by rw [hw] at z; cases z)⟩
end
end K11

set_option Elab.async false
set_option linter.all false
set_option maxRecDepth 100000
set_option maxHeartbeats 4000000
/-! Mathematics of k11: lists that are sizes. -/
namespace K11
open PySem PySem.Spec PyProof.Rows L2 Gu Ex
theorem first_none {xs : List V} : ∀ {n p : Nat}, firstFrom xs p n = none ↔ ∀ i, p ≤ i → i < p + n → prob xs i = none
  | 0, p => ⟨fun _ i h1 h2 => absurd h2 (by omega), fun _ => rfl⟩
  | n + 1, p => by
    cases hp : prob xs p with
    | none =>
      rw [first_skip hp, first_none (n := n) (p := p + 1)]
      constructor
      · intro h i h1 h2
        by_cases hi : i = p
        · rw [hi]; exact hp
        · exact h i (by omega) (by omega)
      · exact fun h i h1 h2 => h i (by omega) (by omega)
    | some s =>
      rw [first_hit hp]
      constructor
      · intro h
        cases h
      · intro h
        rw [h p (Nat.le_refl _) (by omega)] at hp
        cases hp
theorem wrong_none {xs : List V} : wrong xs = none ↔ (∀ i, i < xs.length → prob xs i = none) ∧ 1 ≤ xs.length ∧ xs.length ≤ 8 := by
  unfold wrong
  cases h : firstFrom xs 0 xs.length with
  | none =>
    have h2 := first_none.mp h
    have h3 : ∀ i, i < xs.length → prob xs i = none := fun i hi => h2 i (Nat.zero_le _) (by omega)
    show (if 1 ≤ xs.length ∧ xs.length ≤ 8 then none else some (("count" : Str), 0)) = none ↔ _
    by_cases hl : 1 ≤ xs.length ∧ xs.length ≤ 8
    · rw [if_pos hl]
      exact ⟨fun _ => ⟨h3, hl⟩, fun _ => rfl⟩
    · rw [if_neg hl]
      constructor
      · intro z
        cases z
      · intro z
        exact absurd z.2 hl
  | some e =>
    show some e = none ↔ _
    constructor
    · intro z
      cases z
    · intro z
      have := (first_none (xs := xs) (n := xs.length) (p := 0)).mpr fun i (_ : 0 ≤ i) hi => z.1 i (by omega)
      rw [h] at this
      cases this
theorem prob_at {xs : List V} {i : Nat} {z : Int} (h : xs[i]? = some (.int z)) : prob xs i = if 1 ≤ z ∧ z ≤ 1000000000 then (if i = 0 then (if z = 1 then none else some ("first" : Str)) else probB z xs[i - 1]?) else some ("number" : Str) := by
  unfold prob
  rw [h]
  rfl
theorem good_wrong {ns : List Int} (g : Good ns) : wrong (ns.map V.int) = none := by
  refine wrong_none.mpr ⟨fun i hi => ?_, by rw [List.length_map]; exact g.len.1, by rw [List.length_map]; exact g.len.2⟩
  rw [List.length_map] at hi
  have hz := List.getElem?_eq_getElem hi
  generalize ns[i] = z at hz
  have hz2 : (ns.map V.int)[i]? = some (.int z) := by rw [List.getElem?_map, hz]; rfl
  rw [prob_at hz2, if_pos (g.rng i z hz)]
  by_cases h0 : i = 0
  · rw [if_pos h0]
    rw [h0, g.one] at hz
    cases hz
    rfl
  · rw [if_neg h0]
    have hb : i - 1 < ns.length := by omega
    have hb2 := List.getElem?_eq_getElem hb
    generalize ns[i - 1] = b at hb2
    rw [List.getElem?_map, hb2]
    show (if z ≤ b ∨ z % b ≠ 0 then some ("multiple" : Str) else none) = none
    have u := g.up (i - 1) b z hb2 (by rw [show i - 1 + 1 = i by omega]; exact hz)
    rw [if_neg (by omega)]
def toI : V → Int
  | .int z => z
  | _ => 0
theorem wrong_good {xs : List V} (h : wrong xs = none) : ∃ ns : List Int, xs = ns.map V.int ∧ Good ns := by
  obtain ⟨hp, l1, l2⟩ := wrong_none.mp h
  have hi : ∀ i, i < xs.length → ∃ z : Int, xs[i]? = some (.int z) ∧ 1 ≤ z ∧ z ≤ 1000000000 := fun i hi => prob_int hi (hp i hi)
  have e : xs = (xs.map toI).map V.int := by
    apply List.ext_getElem?
    intro i
    by_cases h2 : i < xs.length
    · obtain ⟨z, hz, _⟩ := hi i h2
      rw [List.getElem?_map, List.getElem?_map, hz]
      rfl
    · rw [List.getElem?_eq_none (by omega), List.getElem?_eq_none (by rw [List.length_map, List.length_map]; omega)]
  refine ⟨xs.map toI, e, ⟨by rw [List.length_map]; exact l1, by rw [List.length_map]; exact l2⟩, ?_, fun i x hx => ?_, fun i x y hx hy => ?_⟩
  · obtain ⟨z, hz, r⟩ := hi 0 (by omega)
    have p0 := hp 0 (by omega)
    rw [prob_at hz, if_pos r, if_pos rfl] at p0
    by_cases h1 : z = 1
    · rw [List.getElem?_map, hz, h1]
      rfl
    · rw [if_neg h1] at p0
      cases p0
  · rw [List.getElem?_map] at hx
    obtain ⟨v, hv, e2⟩ := Option.map_eq_some_iff.mp hx
    have hl := (List.getElem?_eq_some_iff.mp hv).1
    obtain ⟨z, hz, r⟩ := hi i hl
    rw [hv] at hz
    cases hz
    cases e2
    exact r
  · rw [List.getElem?_map] at hx hy
    obtain ⟨v, hv, e2⟩ := Option.map_eq_some_iff.mp hx
    obtain ⟨v', hv', e3⟩ := Option.map_eq_some_iff.mp hy
    have hl := (List.getElem?_eq_some_iff.mp hv').1
    obtain ⟨z, hz, r⟩ := hi i (by omega)
    obtain ⟨z', hz', r'⟩ := hi (i + 1) hl
    rw [hv] at hz
    rw [hv'] at hz'
    cases hz
    cases hz'
    cases e2
    cases e3
    have p0 := hp (i + 1) hl
    rw [prob_at hv', if_pos r', if_neg (by omega), show i + 1 - 1 = i by omega, hv] at p0
    have p1 : (if z' ≤ z ∨ z' % z ≠ 0 then some ("multiple" : Str) else none) = none := p0
    show z < z' ∧ z' % z = 0
    by_cases hc : z' ≤ z ∨ z' % z ≠ 0
    · rw [if_pos hc] at p1
      cases p1
    · omega
end K11

set_option Elab.async false
set_option linter.all false
set_option maxRecDepth 100000
set_option maxHeartbeats 4000000
/-! Mathematics of k11: texts of sizes. -/
namespace K11
open PySem PySem.Spec PyProof.Rows L2 Gu Ex
theorem spl_bnd (S : List Nat) : ∀ (l : List Nat) (k : Nat) (acc : List Nat), (TL.spl S k acc l).length ≤ l.length + 1 ∧ (∀ p ∈ TL.spl S k acc l, p.length ≤ acc.length + l.length) ∧ TL.spl S k acc l ≠ []
  | [], k, acc => by
    rw [TL.spl_nil]
    refine ⟨Nat.le_refl _, fun p hp => ?_, by simp⟩
    rw [List.mem_singleton.mp hp]
    exact Nat.le_refl _
  | c :: r, 0, acc => by
    cases hp : TL.pre S (c :: r) with
    | true =>
      rw [TL.spl_hit hp]
      obtain ⟨h1, h2, h3⟩ := spl_bnd S r (S.length - 1) []
      refine ⟨by simp only [List.length_cons]; omega, fun p hq => ?_, by simp⟩
      rcases List.mem_cons.mp hq with rfl | z
      · omega
      · have := h2 p z
        simp only [List.length_cons, List.length_nil] at this ⊢
        omega
    | false =>
      rw [TL.spl_miss hp]
      obtain ⟨h1, h2, h3⟩ := spl_bnd S r 0 (acc ++ [c])
      refine ⟨by simp only [List.length_cons]; omega, fun p hq => ?_, h3⟩
      have := h2 p hq
      simp only [List.length_append, List.length_cons, List.length_nil] at this ⊢
      omega
  | c :: r, k + 1, acc => by
    have e : TL.spl S (k + 1) acc (c :: r) = TL.spl S k acc r := rfl
    rw [e]
    obtain ⟨h1, h2, h3⟩ := spl_bnd S r k acc
    refine ⟨by simp only [List.length_cons]; omega, fun p hq => ?_, h3⟩
    have := h2 p hq
    simp only [List.length_cons]
    omega
abbrev wds (x : Str) : List Str := Txt.split x " "
theorem wds_bnd (x : Str) : (wds x).length ≤ x.length + 1 ∧ (∀ w ∈ wds x, w.length ≤ x.length) ∧ wds x ≠ [] := by
  have hy : TL.tl (" " : Str) = [32] := by decide +kernel
  have e := TL.split_spl x " " (by rw [hy]; simp) (TL.kind_ok (by decide +kernel))
  obtain ⟨h1, h2, h3⟩ := spl_bnd (TL.tl (" " : Str)) (TL.tl x) 0 []
  rw [← e] at h1 h2 h3
  have lx := len_cs x
  refine ⟨?_, fun w hw => ?_, fun z => h3 (by rw [show Txt.split x " " = [] from z]; rfl)⟩
  · rw [List.length_map] at h1
    have : (TL.tl x).length = (cs x).length := rfl
    show (Txt.split x " ").length ≤ _
    omega
  · have := h2 _ (List.mem_map.mpr ⟨w, hw, rfl⟩)
    have lw := len_cs w
    have e1 : (TL.tl w).length = (cs w).length := rfl
    have e2 : (TL.tl x).length = (cs x).length := rfl
    simp only [List.length_nil] at this
    omega
def rd (w : Str) : Int := (intText? w).getD 0
/-- the text is that of these sizes -/
def RdS (x : Str) (ns : List Int) : Prop := (∀ w ∈ wds x, isW w = true) ∧ ns = (wds x).map rd ∧ Good ns
theorem read_sizes : ∀ {ws : List Str} {xs : List V}, Paired RdOk ws xs → (∀ w ∈ ws, isW w = true) → xs = (ws.map rd).map V.int
  | _, _, .nil, _ => rfl
  | w :: ws, _, .cons h r, a => by
    obtain ⟨n, e, _, rfl⟩ := h.1 (a w List.mem_cons_self)
    have z := read_sizes r fun u hu => a u (List.mem_cons_of_mem _ hu)
    rw [List.map_cons, List.map_cons, ← z]
    show V.int n :: _ = V.int ((intText? w).getD 0) :: _
    rw [e]
    rfl
theorem read_words : ∀ {ws : List Str} {xs : List V}, Paired RdOk ws xs → (∀ v ∈ xs, ∃ z : Int, v = .int z ∧ 1 ≤ z) → ∀ w ∈ ws, isW w = true
  | _, _, .nil, _, w, hw => absurd hw List.not_mem_nil
  | w' :: ws, v :: xs, .cons h r, a, w, hw => by
    rcases List.mem_cons.mp hw with rfl | z
    · cases e : isW w with
      | true => rfl
      | false =>
        obtain ⟨z, rfl, hz⟩ := a v List.mem_cons_self
        rcases h.2 e with q | ⟨n, q, hn⟩
        · cases q
        · cases q
          omega
    · exact read_words r (fun u hu => a u (List.mem_cons_of_mem _ hu)) w z
theorem read_iff {x : Str} {xs : List V} (h : Paired RdOk (wds x) xs) : (wrong xs = none → RdS x ((wds x).map rd) ∧ xs = ((wds x).map rd).map V.int) ∧ (wrong xs ≠ none → ∀ ns, ¬ RdS x ns) := by
  constructor
  · intro hw
    obtain ⟨ns, rfl, g⟩ := wrong_good hw
    have a := read_words h fun v hv => by
      obtain ⟨z, hz, rfl⟩ := List.mem_map.mp hv
      obtain ⟨i, hi⟩ := List.getElem?_of_mem hz
      exact ⟨z, rfl, (g.rng i z hi).1⟩
    have e := read_sizes h a
    have e2 : ns = (wds x).map rd := by
      have inj : ∀ {a b : List Int}, a.map V.int = b.map V.int → a = b := fun {a b} z => by
        have := congrArg (List.map toI) z
        rw [List.map_map, List.map_map] at this
        have id' : toI ∘ V.int = id := rfl
        rw [id', List.map_id, List.map_id] at this
        exact this
      exact inj e
    subst e2
    exact ⟨⟨a, rfl, g⟩, rfl⟩
  · rintro hw ns ⟨a, rfl, g⟩
    rw [read_sizes h a] at hw
    exact hw (good_wrong g)
end K11

set_option Elab.async false
set_option linter.all false
set_option maxRecDepth 100000
set_option maxHeartbeats 4000000
set_option pp.maxSteps 900
namespace K11
open PySem PySem.Spec PyProof.Rows L2 Gu Ex
theorem rd_any {H : Hp} : ∀ {ws : List Str} {xs : List V}, Paired RdOk ws xs → ∀ v ∈ xs, Any H v
  | _, _, .nil, v, hv => absurd hv List.not_mem_nil
  | w :: ws, v' :: xs, .cons h r, v, hv => by
    rcases List.mem_cons.mp hv with rfl | z
    · cases e : isW w with
      | true =>
        obtain ⟨n, _, _, rfl⟩ := h.1 e
        exact .int n
      | false =>
        rcases h.2 e with rfl | ⟨n, rfl, _⟩
        · exact .non
        · exact .int n
    · exact rd_any r v z
/-- the sizes of doubling(k) -/
def pows (k : Nat) : List Int := (List.range k).map fun i => ((2 ^ i : Nat) : Int)
theorem pows_more (k : Nat) : pows k ++ [((2 ^ k : Nat) : Int)] = pows (k + 1) := by
  unfold pows
  rw [List.range_succ, List.map_append]
  rfl
theorem pows_len (k : Nat) : (pows k).length = k := by unfold pows; rw [List.length_map, List.length_range]
theorem pows_get {k i : Nat} {x : Int} (h : (pows k)[i]? = some x) : i < k ∧ x = ((2 ^ i : Nat) : Int) := by
  unfold pows at h
  rw [List.getElem?_map] at h
  obtain ⟨v, hv, e⟩ := Option.map_eq_some_iff.mp h
  have hl := (List.getElem?_eq_some_iff.mp hv).1
  rw [List.length_range] at hl
  rw [List.getElem?_range hl] at hv
  cases hv
  exact ⟨hl, e.symm⟩
theorem pows_good {k : Nat} (h1 : 1 ≤ k) (h8 : k ≤ 8) : Good (pows k) := by
  refine ⟨by rw [pows_len]; exact ⟨h1, h8⟩, ?_, fun i x hx => ?_, fun i x y hx hy => ?_⟩
  · unfold pows
    rw [List.getElem?_map, List.getElem?_range h1]
    rfl
  · obtain ⟨hi, rfl⟩ := pows_get hx
    have h2 : 2 ^ i ≤ 2 ^ 8 := Nat.pow_le_pow_right (by decide) (by omega)
    have h3 : 1 ≤ 2 ^ i := Nat.one_le_two_pow
    have h4 : (2 : Nat) ^ 8 = 256 := by decide
    omega
  · obtain ⟨hi, rfl⟩ := pows_get hx
    obtain ⟨hi2, rfl⟩ := pows_get hy
    have e : 2 ^ (i + 1) = 2 ^ i * 2 := Nat.pow_succ ..
    have h3 : 1 ≤ 2 ^ i := Nat.one_le_two_pow
    rw [e]
    refine ⟨by omega, ?_⟩
    have z := Int.mul_emod_right ((2 ^ i : Nat) : Int) 2
    rw [show (((2 ^ i * 2 : Nat)) : Int) = ((2 ^ i : Nat) : Int) * 2 by omega]
    exact z
section
variable {P : Program} {w : World} {K : PySem.W.Frag} {mg : Str → Option Value} {base : Heap} {f : Addr} {fd : FuncData}
theorem sc_InvalidCount_init : FnScope ["self", "value"] ["self", "value"] (defScope (inClass (top 5) 0)) := ⟨rfl, rfl, rfl, by decide +kernel, rfl, by decide +kernel, by decide +kernel⟩
theorem ok_errC (T : Tx K mg) (F : FnP K "__init__" "InvalidCount.__init__" (inClass (top 5) 0) f fd) : FnOk P w K mg base CX0 1 f fd ["self", "value"] (Ex.spErr (cC K) "value") := by
  refine F.ok sc_InvalidCount_init (fun vs H Q E h => ?_) (fun cdv A outer s H vs Q E hr h => ⟨_, PSs.nox (pss_one (ps_fst (B := "ValueError") (tl := tailE "ValueError") (pv 0) (pv 1))), ?_⟩)
  · obtain ⟨a, v, rfl, _⟩ := h
    rfl
  · obtain ⟨a, v, rfl, ha, q⟩ := h
    exact ⟨_, rfl, _, rfl, a, cC K, rfl, T.eC.ox, T.eC.no, ha, q⟩
theorem sc_InvalidText_init : FnScope ["self", "line"] ["self", "line"] (defScope (inClass (top 6) 0)) := ⟨rfl, rfl, rfl, by decide +kernel, rfl, by decide +kernel, by decide +kernel⟩
theorem ok_errX (T : Tx K mg) (F : FnP K "__init__" "InvalidText.__init__" (inClass (top 6) 0) f fd) : FnOk P w K mg base CX0 1 f fd ["self", "line"] (Ex.spErr (cX K) "line") := by
  refine F.ok sc_InvalidText_init (fun vs H Q E h => ?_) (fun cdv A outer s H vs Q E hr h => ⟨_, PSs.nox (pss_one (ps_fst (B := "ValueError") (tl := tailE "ValueError") (pv 0) (pv 1))), ?_⟩)
  · obtain ⟨a, v, rfl, _⟩ := h
    rfl
  · obtain ⟨a, v, rfl, ha, q⟩ := h
    exact ⟨_, rfl, _, rfl, a, cX K, rfl, T.eX.ox, T.eX.no, ha, q⟩
theorem ok_errXH (T : Tx K mg) (F : FnP K "__init__" "InvalidText.__init__" (inClass (top 6) 0) f fd) : L2H.FnH P w K mg base CX0 1 f fd ["self", "line"] (Ex.spErr (cX K) "line") := by
  refine okH F sc_InvalidText_init (fun vs H Q E h => ?_) (fun cdv A outer s H vs Q E p hot hr h => ⟨_, pss_one (ps_fst (B := "ValueError") (tl := tailE "ValueError") (pv 0) (pv 1)), ?_⟩)
  · obtain ⟨a, v, rfl, _⟩ := h
    rfl
  · obtain ⟨a, v, rfl, ha, q⟩ := h
    exact ⟨_, rfl, _, rfl, a, cX K, rfl, T.eX.ox, T.eX.no, ha, q⟩
/-- the error's maker while another error is handled -/
structure EiH (P : Program) (w : World) (K : PySem.W.Frag) (mg : Str → Option Value) (base : Heap) : Prop where
  ex : ∃ fd, L2H.FnH P w K mg base CX0 1 (He.ma K (cX K) "__init__") fd ["self", "line"] (Ex.spErr (cX K) "line") ∧ Binds K fd ["self", "line"] []
/-- the error with this field -/
def Err1 (H : Hp) (E : XK) (C : Addr) (n : Str) (v : V) : Prop := ∀ d H', H d = none → Same H H' → H' d = some (.xd [(n, v)]) → E (.ref C) (some d) H'
def spDbl (K : PySem.W.Frag) : Sp := fun vs H Q E => ∃ v : V, vs = [.ref (cS K), v] ∧ Any H v ∧ (∀ n : Nat, v = .int n → 1 ≤ n → n ≤ 8 → ∀ p H', Same H H' → SzI K H' p (pows n) → Q (.ref p) H') ∧ ((∀ n : Nat, v = .int n → 1 ≤ n → n ≤ 8 → False) → Err1 H E (cC K) "value" v)
theorem sc_doubling : FnScope ["cls", "count", "sizes"] ["cls", "count"] (defScope (inClass (top 14) 8)) := ⟨rfl, rfl, rfl, by decide +kernel, rfl, by decide +kernel, by decide +kernel⟩
theorem ok_dbl (T : Tx K mg) (D_is_integer : Df P w K mg base 1 "is_integer" ["value"] spInt) (K_Sizes : KfX P w K mg base (L2N.CX P w) 5 "Sizes" ["self", "values"] (spMade K)) (M : Ex.Ei P w K mg base "InvalidCount" "value") (F : FnP K "doubling" "Sizes.doubling" (inClass (top 14) 8) f fd) :
    FnOk P w K mg base (L2.CX P w) 7 f fd ["cls", "count"] (spDbl K) := by
  obtain ⟨fdI, FI, bI⟩ := M.ex
  obtain ⟨u8, cN⟩ := T.cN
  refine F.ok sc_doubling (fun vs H Q E h => ?_) (fun cdv A outer s H vs Q E hr h => ⟨_, (pss_cons (ps_if (PW.pt (pw_or (pt_not (pt_val (pcall D_is_integer hr (pa_cons (pv 1) pa_nil)))) (pw_or1 (pt_not (pt_chain op_le op_le pe_int (pv 1) (ClX.pe_cval (pv 0))))))) (pss_one (ps_raise rfl (takes_of (E := E) rfl rfl rfl rfl) (pmk_oexG T.eC.ox T.eC.ii T.eC.ti FI (hr.mono (by decide)) bI .nil pass0 rfl T.g_InvalidCount (pa_cons (pv 1) pa_nil)))) pss_nil) (pss_cons (ps_set (i := 2) sc_doubling.nd rfl (by first | exact Or.inl rfl | exact Or.inr rfl) (pe_lst (pa_cons pe_int pa_nil))) (pss_cons (ps_while (passes_of rfl) (pt_cmpR op_lt (pe_callB call_len_seq (by rfl) T.n_len (by decide +kernel) (pa_cons (pv 2) pa_nil)) (pv 1) (nomark _)) (pss_one (ps_expr (pe_bm PySem.F.plainAttrs_list PySem.F.slot_list_append PySem.F.type_list_append mt_append (pv 2) (pa_cons (pe_op op_mul pe_int (pe_ix ix_list (pv 2) (pe_un un_neg pe_int) (fun _ _ => rfl))) pa_nil))))) (pss_one (ps_ret (pmakeLT (i := 0) (E := fun _ => E0) K_Sizes hr pass0N rfl (Or.inl rfl) (pa_cons (pv 2) pa_nil))))))), ?_⟩)
  · obtain ⟨v, rfl, _⟩ := h
    rfl
  · obtain ⟨v, rfl, hv, q1, q2⟩ := h
    refine ⟨_, rfl, v, rfl, hv, _, rfl, ?_⟩
    cases v with
    | int z =>
      refine iteF ⟨_, rfl, _, _, rfl, rfl, _, rfl, ?_⟩
      by_cases h1 : (1 : Int) ≤ z
      · refine ifT (decide_eq_true h1) ⟨_, rfl, _, _, _, _, rfl, T.rd, cN, _, _, rfl, rfl, _, rfl, ?_⟩
        by_cases h2 : z ≤ 8
        · refine ifF (by rw [decide_eq_true h2]; rfl) ?_
          obtain ⟨n, rfl⟩ : ∃ n : Nat, z = (n : Int) := ⟨z.toNat, by omega⟩
          have h2' : n ≤ 8 := by omega
          refine ⟨(by show 1 ≤ sizeLine; decide), fun l hl => ?_⟩
          have sm0 := same_upd (o := .lst [.int 1]) hl
          refine ⟨fun m σ G => ∃ k : Nat, m = n - k ∧ 1 ≤ k ∧ k ≤ n ∧ σ = [some (.ref (cS K)), some (.int (n : Int)), some (.ref l)] ∧ G l = some (.lst ((pows k).map V.int)) ∧ Same H G, ⟨n - 1, 1, rfl, Nat.le_refl _, by omega, rfl, upd_same, sm0⟩, ?_⟩
          rintro m σ G ⟨k, rfl, k1, kn, rfl, hG, sm⟩
          refine ⟨_, rfl, l, _, rfl, .inl (SqL.of hG), _, rfl, _, _, rfl, rfl, _, rfl, ?_⟩
          rw [List.length_map, pows_len]
          by_cases hk : k < n
          · rw [decide_eq_true (show (k : Int) < (n : Int) by omega)]
            refine iteT ⟨fun σ' G' => ∃ k' : Nat, k' = k + 1 ∧ σ' = [some (.ref (cS K)), some (.int (n : Int)), some (.ref l)] ∧ G' l = some (.lst ((pows k').map V.int)) ∧ Same H G', ?_, ?_⟩
            · rintro σ' G' ⟨k', rfl, e1, e2, e3⟩
              exact ⟨n - (k + 1), by omega, k + 1, rfl, by omega, by omega, e1, e2, e3⟩
            · obtain ⟨j, rfl⟩ : ∃ j, k = j + 1 := ⟨k - 1, by omega⟩
              have hp2 : 2 ^ j ≤ 2 ^ 8 := Nat.pow_le_pow_right (by decide) (by omega)
              have p8 : (2 : Nat) ^ 8 = 256 := by decide
              have hat : atI ((pows (j + 1)).map V.int) (-1) = some (.int ((2 ^ j : Nat) : Int)) := by rw [← pows_more]; exact at_last _ _
              have lp : ((pows (j + 1)).map V.int).length = j + 1 := by rw [List.length_map, pows_len]
              refine ⟨_, rfl, .inl ⟨rfl, _, SqL.of hG⟩, _, rfl, _, rfl, l, _, _, _, rfl, rfl, SqL.of hG, hat, _, _, rfl, rfl, .inl ⟨by decide, by decide⟩, l, _, _, rfl, rfl, hG, small1000 (by omega), j + 2, rfl, rfl, ?_, fun b o e => ?_⟩
              · rw [upd_same, ← pows_more (j + 1), List.map_append]
                have e : (2 : Int) * ((2 ^ j : Nat) : Int) = ((2 ^ (j + 1) : Nat) : Int) := by
                  rw [Nat.pow_succ]
                  omega
                show some (HO.lst (List.map V.int (pows (j + 1)) ++ [V.int (2 * ((2 ^ j : Nat) : Int))])) = _
                rw [e]
                rfl
              · rw [upd_ne (ne_of_none e hl)]
                exact sm b o e
          · rw [decide_eq_false (show ¬ (k : Int) < (n : Int) by omega)]
            obtain rfl : k = n := by omega
            refine iteF ⟨rfl, _, rfl, fun x dx hx hdx ne => ?_⟩
            have smA : Same H (upd (upd G dx (.own x)) x (.ins (cS K) dx [])) := sm.trans ((same_upd hdx).trans (same_upd (by rw [upd_ne (Ne.symm ne)]; exact hx)))
            have gl : (upd (upd G dx (.own x)) x (.ins (cS K) dx [])) l = some (.lst ((pows k).map V.int)) := by
              rw [upd_ne (ne_of_none hG hx), upd_ne (ne_of_none hG hdx)]
              exact hG
            refine ⟨x, dx, .ref l, some ((pows k).map V.int), rfl, upd_same, .list gl (by rw [List.length_map, pows_len]; omega) (fun v hv => by obtain ⟨i, _, rfl⟩ := List.mem_map.mp hv; exact .int i), fun xs ho hw l2 hl2 => ⟨rfl, ?_⟩, fun s p hj => ?_⟩
            · cases ho
              have nx : H x = none := sm.free hx
              have lx : l2 ≠ x := fun z => by
                rw [z, upd_same] at hl2
                cases hl2
              refine q1 k rfl k1 h2' x _ (fun b o e => ?_) ⟨dx, l2, upd_same, by rw [upd_ne lx]; exact upd_same⟩
              have e' := smA b o e
              rw [upd_ne (ne_of_none e nx), upd_ne (ne_of_none e' hl2)]
              exact e'
            · rw [show judge (some ((pows k).map V.int)) = wrong ((pows k).map V.int) from rfl, good_wrong (pows_good k1 h2')] at hj
              cases hj
        · exact ifT (by rw [decide_eq_false h2]; rfl) ⟨_, rfl, (by show 1 ≤ 1000; decide), raise_ok (q2 fun n e a b => by cases e; omega)⟩
      · exact ifF (decide_eq_false h1) ⟨_, rfl, iteT ⟨_, rfl, (by show 1 ≤ 1000; decide), raise_ok (q2 fun n e a b => by cases e; omega)⟩⟩
    | _ => exact iteT ⟨_, rfl, (by show 1 ≤ 1000; decide), raise_ok (q2 fun n e _ _ => by cases e)⟩
def spFrom (K : PySem.W.Frag) : Sp := fun vs H Q E => ∃ v : V, vs = [.ref (cS K), v] ∧ Any H v ∧ (∀ x, v = .str x → x.length ≤ 500 ∧
  (∀ ns, RdS x ns → ∀ p H', Same H H' → SzI K H' p ns → Q (.ref p) H') ∧ ((∀ ns, ¬ RdS x ns) → Err1 H E (cX K) "line" (.int 1))) ∧ (isS v = false → Err1 H E (cX K) "line" (.int 0))
def t_bad (K : PySem.W.Frag) (E : XK) : Addr → Value → Option Addr → TS := fun _ _ _ _ σ H => tMkO (cX K) (Ex.spErr (cX K) "line") [] (tCons (tC (.int 1)) tNil) σ H fun cls d H' => E cls d H'
theorem Err1.same {H G : Hp} {E : XK} {C : Addr} {n : Str} {v : V} (h : Err1 H E C n v) (s : Same H G) : Err1 G E C n v := fun d H' hd sm e => h d H' (s.free hd) (s.trans sm) e
theorem sc_from_text : FnScope ["cls", "text", "sizes", "word"] ["cls", "text"] (defScope (inClass (top 14) 9)) := ⟨rfl, rfl, rfl, by decide +kernel, rfl, by decide +kernel, by decide +kernel⟩
theorem ok_from (T : Tx K mg) (D_read_integer : Df P w K mg base 1 "read_integer" ["word"] spRead) (K_Sizes : KfX P w K mg base (L2N.CX P w) 5 "Sizes" ["self", "values"] (spMade K)) (M : Ex.Ei P w K mg base "InvalidText" "line") (MH : EiH P w K mg base)
    (F : FnP K "from_text" "Sizes.from_text" (inClass (top 14) 9) f fd) : FnOk P w K mg base (L2.CX P w) 7 f fd ["cls", "text"] (spFrom K) := by
  obtain ⟨fdI, FI, bI⟩ := M.ex
  obtain ⟨fdH, FH, bH⟩ := MH.ex
  refine F.ok sc_from_text (fun vs H Q E h => ?_) (fun cdv A outer s H vs Q E hr h => ⟨_, (pss_cons (ps_if (pt_not (pt_val (pe_callB call_isi (by rfl) T.n_isinstance (by decide +kernel) (pa_cons (pv 1) (pa_cons (pe_bltn (v := .ty "str") (by rfl) T.n_str (by decide +kernel) rfl) pa_nil))))) (pss_one (ps_raise rfl (takes_of (E := E) rfl rfl rfl rfl) (pmk_oexG T.eX.ox T.eX.ii T.eX.ti FI (hr.mono (by decide)) bI .nil pass0 rfl T.g_InvalidText (pa_cons pe_int pa_nil)))) pss_nil)
    (pss_cons (ps_setLc (i := 2) (own := [("word", 3)]) (g := gName 3) rfl sc_from_text.nd rfl rfl (sw_true rfl rfl rfl (by decide +kernel)) (pi_list (pe_split (pv 1) pe_str)) (blkOk_by (own := [("word", 3)]) (N := ["cls", "text", "sizes", "word"]) (sc := defScope (inClass (top 14) 9)) (by decide +kernel)) (fun _ _ _ _ _ => pg_name (i := 3) sc_from_text.nd rfl (Or.inl rfl)) (fun _ _ _ _ _ => pts_nil) (fun _ _ _ _ _ => (pcall D_read_integer hr (pa_cons (pv 3) pa_nil))))
    (pss_one (L2H.ps_try_onlyX (tb := fun W => tRet (tMakeL 0 (cS K) (spMade K) (WE W) (tCons (tVar 2) tNil))) (ts := t_bad K E) (Wout := fun cls d _ H => E cls d H) rfl rfl ⟨rfl, by decide, Or.inl T.g_InvalidSizes⟩ (L2H.passesAt_of rfl) (takes_of (E := E) rfl rfl rfl rfl)
      (fun W pn xe tk _ _ => pss_one (ps_ret (by exact (pmakeLT (i := 0) (E := WE W) K_Sizes hr (fun σ => L2N.passAt tk σ) rfl (Or.inl rfl) (by exact (pa_cons (pv 2) pa_nil))))))
      (fun a oe cls d pn hz hf tk hot => pss_one (L2H.ps_raiseHN hot tk (by exact (L2H.pmk5_oexH T.oX T.eX.ii T.eX.ti FH (L2H.roomH_mark (hr.mono (by decide)) _) hot bH pass0 rfl T.g_InvalidText (by exact (pa_cons pe_int pa_nil)))))))))), ?_⟩)
  · obtain ⟨v, rfl, _⟩ := h
    rfl
  · obtain ⟨v, rfl, hv, q1, q2⟩ := h
    obtain ⟨Ty, ty, _, _, k3⟩ := hv.ty (K := K)
    have sl : sizeLine = 16777216 := sizeLine_eq
    refine ⟨_, rfl, _, _, _, _, _, rfl, .ty "str", ty, kit_ty k3, _, rfl, ?_⟩
    cases v with
    | str x =>
      obtain ⟨xl, q3, q4⟩ := q1 x rfl
      obtain ⟨wl, ww, wn⟩ := wds_bnd x
      refine iteF ⟨_, rfl, ⟨x, rfl⟩, x, " ", rfl, rfl, (by decide +kernel), by omega, fun p hp => ⟨p, rfl, ⟨_, SqL.of upd_same⟩, fun D hD => ?_⟩⟩
      have s1 := same_upd (o := .lst ((wds x).map V.str)) hp
      have hp1 : (upd H p (.lst ((wds x).map V.str))) p = some (.lst ((wds x).map V.str)) := upd_same
      generalize (upd H p (.lst ((wds x).map V.str))) = H1 at *
      refine lc_it (walk_list (xs := (wds x).map V.str)) (fun i G => Same H1 G ∧ ∃ xs, G D = some (.lst xs) ∧ xs.length = i ∧ Paired RdOk ((wds x).take i) xs) ⟨same_upd hD, [], upd_same, rfl, .nil⟩ (fun i G _ h => SqL.of (h.1 _ _ hp1)) ?_ ?_
      · rintro i v G1 G2 hi ⟨sm, xs, hG, xsl, pr⟩ ⟨rfl, hv2⟩
        rw [List.getElem?_map] at hv2
        obtain ⟨u, hu, rfl⟩ := Option.map_eq_some_iff.mp hv2
        have ul := ww u (List.mem_of_getElem? hu)
        have hi2 : i < (wds x).length := (List.getElem?_eq_some_iff.mp hu).1
        refine ⟨rfl, _, rfl, u, rfl, by omega, fun v2 G2 sm2 rok => ?_⟩
        refine ⟨xs, sm2 _ _ hG, small1000 (by omega), fun b o e => ?_, xs ++ [v2], upd_same, by rw [List.length_append, xsl]; rfl, ?_⟩
        · rw [upd_ne (ne_of_none e hD)]
          exact sm2 _ _ (sm _ _ e)
        · rw [List.take_add_one, hu]
          exact Paired.snoc pr rok
      · rintro G ⟨sm, xs, hG, xsl, pr⟩
        rw [List.length_map] at xsl
        rw [List.length_map, List.take_length] at pr
        obtain ⟨r1, r2⟩ := read_iff pr
        have sHG := s1.trans sm
        refine ⟨rfl, _, rfl, fun z dx hz hdx ne => ?_⟩
        have smA : Same H (upd (upd G dx (.own z)) z (.ins (cS K) dx [])) := sHG.trans ((same_upd hdx).trans (same_upd (by rw [upd_ne (Ne.symm ne)]; exact hz)))
        have gl : (upd (upd G dx (.own z)) z (.ins (cS K) dx [])) D = some (.lst xs) := by
          rw [upd_ne (ne_of_none hG hz), upd_ne (ne_of_none hG hdx)]
          exact hG
        refine ⟨z, dx, .ref D, some xs, rfl, upd_same, .list gl (by omega) (fun v hv => ?_), fun xs' ho hw l2 hl2 => ⟨rfl, ?_⟩, fun s p hj => ?_⟩
        · exact rd_any pr v hv
        · cases ho
          obtain ⟨rs, ex⟩ := r1 hw
          have nx : H z = none := sHG.free hz
          have lx : l2 ≠ z := fun y => by
            rw [y, upd_same] at hl2
            cases hl2
          refine q3 _ rs z _ (fun b o e => ?_) ⟨dx, l2, upd_same, by rw [upd_ne lx, upd_same, ← ex]⟩
          have e' := smA b o e
          rw [upd_ne (ne_of_none e nx), upd_ne (ne_of_none e' hl2)]
          exact e'
        · intro dd H2 hdd sm2 hx2
          refine ⟨true, T.em, fun _ a ha => ?_, fun y => Bool.noConfusion y⟩
          refine ⟨(by show 1 ≤ 1000; decide), raise_ok ((q4 (r2 ?_)).same (smA.trans sm2))⟩
          intro y
          have : judge (some xs) = none := y
          rw [this] at hj
          cases hj
    | _ => exact iteT ⟨(by show 1 ≤ 1000; decide), raise_ok (q2 rfl)⟩
end
end K11

set_option Elab.async false
set_option linter.all false
set_option maxRecDepth 100000
set_option maxHeartbeats 4000000
/-! xs != [] -/
namespace L2
open PySem PySem.Spec PyProof.Rows
section
variable {X : Cx}
def rNeNil (K : PySem.W.Frag) : R2 := fun x y H Q => ∃ a b xs, x = .ref a ∧ y = .ref b ∧ SqL K H a xs ∧ SqL K H b [] ∧ Q (.bl (!decide (xs.length = 0))) H
theorem op_neNil (hu : X.A.units + 64 < cLine) : OpR X (compareOp .NotEq) (rNeNil X.K) := by
  intro pins s σ H x y v u Q I rx ry h
  obtain ⟨a, b, xs, rfl, rfl, ha, hb, q⟩ := h
  cases rx
  cases ry
  obtain ⟨us, r1, p1, _⟩ := I.list ha
  obtain ⟨ws, r2, p2, _⟩ := I.list hb
  cases r2
  have hl := r1.length
  by_cases hz : xs.length = 0
  · rw [decide_eq_true hz] at q
    have hs : us.toArray.size = (#[] : Array Value).size := by rw [List.size_toArray, ← hl, hz]; rfl
    refine SeqAt.RcNeAt.lists (e := fun _ => true) p1.isList p2.isList hs (by omega) (fun j h1 h2 => absurd h2 (Nat.not_lt_zero j)) X.prog X.w _ _ ?_
    rw [show ((List.range us.toArray.size).all fun _ => true) = true from List.all_eq_true.mpr fun _ _ => rfl]
    exact ⟨.bl false, H, I, rfl, q⟩
  · rw [decide_eq_false hz] at q
    refine SeqAt.RcNeAt.lists_lengths p1.isList p2.isList ?_ (by omega) X.prog X.w _ _ ⟨.bl true, H, I, rfl, q⟩
    have : us.toArray.size ≠ 0 := by rw [List.size_toArray, ← hl]; exact hz
    simpa using this
end
end L2

set_option Elab.async false
set_option linter.all false
set_option maxRecDepth 100000
set_option maxHeartbeats 4000000
set_option pp.maxSteps 900
namespace K11
open PySem PySem.Spec PyProof.Rows L2 Gu Ex
def sg (c : Nat) : V := .str ⟨#[c]⟩
def odd (l : List Nat) : List Nat := l.filter fun c => !decide (c ∈ digits.cps.toList)
theorem odd_len {l : List Nat} : (odd l).length = 0 ↔ allD l = true := by
  unfold odd allD
  rw [List.length_eq_zero_iff, List.filter_eq_nil_iff, List.all_eq_true]
  constructor
  · intro h c hc
    have := h c hc
    simpa using this
  · intro h c hc
    have := h c hc
    simpa using this
theorem ups {ns : List Int} (h : ∀ i x y, ns[i]? = some x → ns[i + 1]? = some y → x < y) : ∀ (d i : Nat) (x y : Int), ns[i]? = some x → ns[i + d]? = some y → x ≤ y
  | 0, i, x, y, h1, h2 => by
    rw [Nat.add_zero, h1] at h2
    cases h2
    exact Int.le_refl _
  | d + 1, i, x, y, h1, h2 => by
    have hl := (List.getElem?_eq_some_iff.mp h2).1
    have hm := List.getElem?_eq_getElem (show i + d < ns.length by omega)
    have a := ups h d i x _ h1 hm
    have b := h (i + d) _ y hm (by rw [show i + d + 1 = i + (d + 1) by omega]; exact h2)
    omega
section
variable {P : Program} {w : World} {K : PySem.W.Frag} {mg : Str → Option Value} {base : Heap} {f : Addr} {fd : FuncData}
def spLread : Sp := fun vs H Q _ => ∃ x : Str, vs = [.str x] ∧ x.length ≤ 500 ∧ (∀ ns, RdS x ns → ∀ l H', H l = none → Same H H' → H' l = some (.lst (ns.map V.int)) → Q (.ref l) H') ∧ ((∀ ns, ¬ RdS x ns) → ∀ H', Same H H' → Q .non H')
theorem sc__law_read : FnScope ["_law_written", "_law_result", "_law_word", "_law_k", "_law_sign"] ["_law_written"] (defScope (top 20)) := ⟨rfl, rfl, rfl, by decide +kernel, rfl, by decide +kernel, by decide +kernel⟩
theorem ok_lread (T : Tx K mg) (F : FnP K "_law_read" "_law_read" (top 20) f fd) : FnOk P w K mg base CX0 1 f fd ["_law_written"] spLread := by
  refine F.ok sc__law_read (fun vs H Q E h => ?_) (fun cdv A outer s H vs Q E hr h => ⟨_, PSs.nox (pss_cons (ps_set (i := 1) sc__law_read.nd rfl (by first | exact Or.inl rfl | exact Or.inr rfl) (pe_lst pa_nil)) (pss_cons (ps_for PassesOwn.never rfl (pi_list (pe_split (pv 0) pe_str)) (pg_name (i := 2) sc__law_read.nd rfl (by first | exact Or.inl rfl | exact Or.inr rfl)) (pss_cons (ps_if (PW.pt (pw_or (pt_cmpR op_eq (pv 2) pe_str (nomark _)) (pw_or (pt_cmpR op_eq (pe_ix ix_str (pv 2) pe_int (fun _ _ => rfl)) pe_str (nomark _)) (pw_or1 (pt_cmpR (op_neNil hr.units) (pe_lc (own := [("_law_sign", 4)]) (g := gName 4) rfl sc__law_read.nd (pi_str (pv 2)) (blkOk_by (own := [("_law_sign", 4)]) (N := ["_law_written", "_law_result", "_law_word", "_law_k", "_law_sign"]) (sc := defScope (top 20)) (by decide +kernel)) (fun _ _ _ _ _ => pg_name (i := 4) sc__law_read.nd rfl (Or.inl rfl)) (fun _ _ _ _ _ => (pts_one (pt_cmpR op_notIn_sign (pv 4) pe_str (by rfl)))) (fun _ _ _ _ _ => (pv 4))) (pe_lst pa_nil) (nomark _)))))) (pss_one (ps_ret pe_non)) pss_nil) (pss_one (ps_expr (pe_bm PySem.F.plainAttrs_list PySem.F.slot_list_append PySem.F.type_list_append mt_append (pv 1) (pa_cons (pe_callTy call_int_str (by rfl) T.n_int (by decide +kernel) (pa_cons (pv 2) pa_nil)) pa_nil)))))) (pss_cons (ps_if (PW.pt (pw_or (pt_cmpR op_ne (pe_ix ix_list (pv 1) pe_int (fun _ _ => rfl)) pe_int (nomark _)) (pw_or (pt_cmpR op_gt (pe_callB call_len_seq (by rfl) T.n_len (by decide +kernel) (pa_cons (pv 1) pa_nil)) pe_int (nomark _)) (pw_or1 (pt_cmpR op_gt (pe_ix ix_list (pv 1) (pe_un un_neg pe_int) (fun _ _ => rfl)) (pe_op op_pow pe_int pe_int) (nomark _)))))) (pss_one (ps_ret pe_non)) pss_nil) (pss_cons (ps_for PassesOwn.never rfl (pi_range1 rfl T.n_range (pa_cons (pe_op op_sub (pe_callB call_len_seq (by rfl) T.n_len (by decide +kernel) (pa_cons (pv 1) pa_nil)) pe_int) pa_nil)) (pg_name (i := 3) sc__law_read.nd rfl (by first | exact Or.inl rfl | exact Or.inr rfl)) (pss_one (ps_if (PW.pt (pw_or (pt_cmpR op_le (pe_ix ix_list (pv 1) (pe_op op_add (pv 3) pe_int) (fun _ _ => rfl)) (pe_ix ix_list (pv 1) (pv 3) (fun _ _ => rfl)) (nomark _)) (pw_or1 (pt_cmpR op_ne (pe_op op_mod (pe_ix ix_list (pv 1) (pe_op op_add (pv 3) pe_int) (fun _ _ => rfl)) (pe_ix ix_list (pv 1) (pv 3) (fun _ _ => rfl))) pe_int (nomark _))))) (pss_one (ps_ret pe_non)) pss_nil))) (pss_one (ps_ret (pv 1))))))), ?_⟩)
  · obtain ⟨x, rfl, _⟩ := h
    rfl
  · obtain ⟨x, rfl, xl, q1, q2⟩ := h
    have sl : sizeLine = 16777216 := sizeLine_eq
    obtain ⟨wl, ww, wn⟩ := wds_bnd x
    have z48 : ("0" : Str) = ⟨#[48]⟩ := by decide +kernel
    have pw : CPow 10 9 := ⟨by decide, by decide, by decide⟩
    have bad : ∀ u ∈ wds x, isW u = false → ∀ ns, ¬ RdS x ns := fun u hu h ns r => by
      rw [r.1 u hu] at h
      cases h
    refine ⟨(by show 0 ≤ sizeLine; decide), fun L hL => ?_⟩
    refine ⟨_, rfl, ⟨x, rfl⟩, x, " ", rfl, rfl, (by decide +kernel), by omega, fun p hp => ⟨p, rfl, ⟨_, SqL.of upd_same⟩, ?_⟩⟩
    have s1 := (same_upd (o := .lst []) hL).trans (same_upd (o := .lst ((wds x).map V.str)) hp)
    have hp1 : (upd (upd H L (.lst [])) p (.lst ((wds x).map V.str))) p = some (.lst ((wds x).map V.str)) := upd_same
    have nLp : L ≠ p := ne_of_none upd_same hp
    have hL1 : (upd (upd H L (.lst [])) p (.lst ((wds x).map V.str))) L = some (.lst []) := by rw [upd_ne nLp]; exact upd_same
    generalize (upd (upd H L (.lst [])) p (.lst ((wds x).map V.str))) = H1 at *
    refine for_it (walk_list (xs := (wds x).map V.str)) (fun i σ G => ∃ x2 x3 x4 : Option V, σ = [some (.str x), some (.ref L), x2, x3, x4] ∧ Same H G ∧ G p = some (.lst ((wds x).map V.str)) ∧ G L = some (.lst ((((wds x).take i).map rd).map V.int)) ∧ ∀ u ∈ (wds x).take i, isW u = true)
      ⟨none, none, none, rfl, s1, hp1, hL1, fun u hu => absurd hu List.not_mem_nil⟩ (fun i σ G _ ⟨_, _, _, _, _, h, _⟩ => SqL.of h) ?_ ?_
    · rintro i v σ G0 G hi ⟨x2, x3, x4, rfl, sm, gp, gL, ok⟩ ⟨rfl, hv⟩
      rw [List.getElem?_map] at hv
      obtain ⟨u, hu, rfl⟩ := Option.map_eq_some_iff.mp hv
      have um := List.mem_of_getElem? hu
      have ul := ww u um
      have lu := len_cs u
      have hi2 : i < (wds x).length := (List.getElem?_eq_some_iff.mp hu).1
      refine ⟨_, rfl, rfl, _, rfl, ?_⟩
      by_cases h1 : u = ""
      · have w0 : isW u = false := by rw [h1]; decide +kernel
        exact ifT (decide_eq_true (congrArg V.str h1)) (q2 (bad u um w0) _ sm)
      refine ifF (decide_eq_false (sv_ne h1)) ?_
      cases hc : cs u with
      | nil => exact absurd (cs_inj (y := "") (by rw [hc]; decide +kernel)) h1
      | cons c r =>
        refine ⟨_, rfl, u, 0, c, rfl, rfl, by omega, by rw [show u.cps.toList = c :: r from hc]; exact at_head, rfl, _, rfl, ?_⟩
        by_cases h2 : c = 48
        · have w0 : isW u = false := by
            unfold isW
            rw [hc, h2]
            rfl
          exact ifT (by rw [z48, h2]; exact decide_eq_true rfl) (q2 (bad u um w0) _ sm)
        refine ifF (by rw [z48]; exact decide_eq_false (sv_ne (one_sign h2))) ?_
        have hw : isW u = allD (cs u) := by
          unfold isW
          rw [hc]
          show (decide (c ≠ 48) && allD (c :: r)) = _
          rw [decide_eq_true h2]
          rfl
        refine ⟨_, rfl, u, rfl, fun D hD => ?_⟩
        refine lc_text (fun j G' => G' D = some (.lst ((odd ((cs u).take j)).map sg)) ∧ Same G G') ⟨upd_same, same_upd hD⟩ ?_ ?_
        · rintro j d G' hd ⟨e1, e2⟩
          have hj : j < (cs u).length := (List.getElem?_eq_some_iff.mp hd).1
          have lo : (odd ((cs u).take j)).length ≤ j := Nat.le_trans (List.length_filter_le ..) (by rw [List.length_take]; omega)
          refine ⟨rfl, _, rfl, d, digits, rfl, rfl, _, rfl, ?_⟩
          have tk : odd ((cs u).take (j + 1)) = odd ((cs u).take j) ++ (if (!decide (d ∈ digits.cps.toList)) = true then [d] else []) := by
            unfold odd
            rw [List.take_add_one, hd, List.filter_append]
            congr 1
            show List.filter _ [d] = _
            rw [List.filter_cons, List.filter_nil]
          by_cases hm : (!decide (d ∈ digits.cps.toList)) = true
          · rw [if_pos hm] at tk
            refine ifT hm ⟨_, rfl, _, e1, small1000 (by rw [List.length_map]; omega), by rw [upd_same, tk, List.map_append]; rfl, fun b o e => ?_⟩
            rw [upd_ne (ne_of_none e hD)]
            exact e2 b o e
          · rw [if_neg hm, List.append_nil] at tk
            exact ifF (eq_false_of_ne_true hm) ⟨by rw [tk]; exact e1, e2⟩
        · rintro G' ⟨e1, e2⟩
          rw [List.take_length] at e1
          refine ⟨(by show 0 ≤ sizeLine; decide), fun e he => ⟨D, e, _, rfl, rfl, SqL.of (same_upd he _ _ e1), SqL.of upd_same, _, rfl, ?_⟩⟩
          have s3 := e2.trans (same_upd (o := .lst []) he)
          generalize (upd G' e (.lst [])) = G3 at *
          rw [List.length_map]
          cases had : allD (cs u) with
          | false =>
            have ne : ¬ (odd (cs u)).length = 0 := fun z => by
              rw [odd_len, had] at z
              cases z
            exact ifT (by rw [decide_eq_false ne]; rfl) (q2 (bad u um (hw.trans had)) _ (sm.trans s3))
          | true =>
            have wT := hw.trans had
            obtain ⟨n, e5, n1, _, _⟩ := isW_num wT (by omega)
            refine ifF (by rw [decide_eq_true (odd_len.mpr had)]; rfl) ?_
            have gL3 := s3 _ _ gL
            refine ⟨_, rfl, .inl ⟨rfl, _, SqL.of gL3⟩, _, rfl, u, n, rfl, e5, by omega, L, _, _, rfl, rfl, gL3, small1000 (by rw [List.length_map, List.length_map, List.length_take]; omega), _, _, _, rfl, fun b o e => ?_, ?_, ?_, fun u' hu' => ?_⟩
            · rw [upd_ne (ne_of_none e hL)]
              exact s3 _ _ (sm b o e)
            · rw [upd_ne nLp.symm]
              exact s3 _ _ gp
            · rw [upd_same, List.take_add_one, hu, List.map_append, List.map_append]
              show _ = some (HO.lst (_ ++ [V.int ((intText? u).getD 0)]))
              rw [e5]
              rfl
            · rw [List.take_add_one, hu] at hu'
              rcases List.mem_append.mp hu' with z | z
              · exact ok u' z
              · rw [List.mem_singleton.mp z]
                exact wT
    · rintro σ G ⟨x2, x3, x4, rfl, sm, gp, gL, ok⟩
      rw [List.length_map, List.take_length] at gL ok
      have ln : ((wds x).map rd).length = (wds x).length := List.length_map ..
      have l1 : 1 ≤ ((wds x).map rd).length := by
        cases h : wds x with
        | nil => exact absurd h wn
        | cons a b => rw [List.map_cons, List.length_cons]; omega
      have pos : ∀ (i : Nat) (y : Int), ((wds x).map rd)[i]? = some y → 1 ≤ y := fun i y hy => by
        rw [List.getElem?_map] at hy
        obtain ⟨u, hu, rfl⟩ := Option.map_eq_some_iff.mp hy
        have um := List.mem_of_getElem? hu
        have ul := ww u um
        obtain ⟨n, e, n1, _, _⟩ := isW_num (ok u um) (by omega)
        show 1 ≤ (intText? u).getD 0
        rw [e]
        exact n1
      have notG : ¬ Good ((wds x).map rd) → ∀ ns, ¬ RdS x ns := fun h ns r => by
        rw [r.2.1] at r
        exact h r.2.2
      have yes : Good ((wds x).map rd) → ∀ ns, ns = (wds x).map rd → RdS x ns := fun g ns e => ⟨ok, e, by rw [e]; exact g⟩
      generalize (wds x).map rd = ns at *
      obtain ⟨a0, h0⟩ : ∃ a, ns[0]? = some a := ⟨_, List.getElem?_eq_getElem l1⟩
      obtain ⟨ys, z, ez⟩ := last_of l1
      have hz : ns[ns.length - 1]? = some z := by rw [ez]; exact last_get ys z
      have at0 : atI (ns.map V.int) 0 = some (.int a0) := at_map (p := 0) h0
      have atz : atI (ns.map V.int) (-1) = some (.int z) := by rw [ez]; exact at_last ys z
      refine ⟨_, rfl, L, _, _, _, rfl, rfl, SqL.of gL, at0, rfl, _, rfl, ?_⟩
      by_cases c1 : a0 = 1
      case neg =>
        exact ifT (by rw [vF c1]; rfl) (q2 (notG fun g => c1 (by have := g.one; rw [h0] at this; exact Option.some.inj this)) G sm)
      refine ifF (by rw [vT c1]; rfl) ⟨_, rfl, L, _, rfl, .inl (SqL.of gL), _, _, rfl, rfl, _, rfl, ?_⟩
      rw [List.length_map]
      by_cases c2 : ns.length ≤ 8
      case neg =>
        exact ifT (decide_eq_true (by show (8 : Int) < (ns.length : Int); omega)) (q2 (notG fun g => c2 g.len.2) G sm)
      refine ifF (decide_eq_false (by show ¬ (8 : Int) < (ns.length : Int); omega)) ⟨_, rfl, _, rfl, L, _, _, _, rfl, rfl, SqL.of gL, atz, _, _, rfl, rfl, pw, _, _, rfl, rfl, _, rfl, ?_⟩
      have p9 : (10 : Int) ^ (9 : Int).toNat = 1000000000 := by decide
      by_cases c3 : z ≤ 1000000000
      case neg =>
        exact ifT (decide_eq_true (by show (10 : Int) ^ (9 : Int).toNat < z; omega)) (q2 (notG fun g => c3 (g.rng _ z hz).2) G sm)
      refine ifF (decide_eq_false (by show ¬ (10 : Int) ^ (9 : Int).toNat < z; omega)) ?_
      refine ⟨_, rfl, L, _, rfl, .inl (SqL.of gL), _, _, rfl, rfl, ((ns.length : Int) - 1), (by rw [List.length_map]), by omega, by omega, ?_⟩
      refine for_it (walk_range (lo := 0) (n := ((ns.length : Int) - 1).toNat)) (fun i σ G' => G' = G ∧ (∃ x3 : Option V, σ = [some (.str x), some (.ref L), x2, x3, x4]) ∧ ∀ j a b, j < i → ns[j]? = some a → ns[j + 1]? = some b → a < b ∧ b % a = 0)
        ⟨rfl, ⟨x3, rfl⟩, fun j a b hj => absurd hj (Nat.not_lt_zero j)⟩ (fun _ _ _ _ _ => trivial) ?_ ?_
      · rintro i v σ G0 G' hi ⟨rfl, ⟨x3', rfl⟩, up⟩ ⟨rfl, rfl⟩
        have hi1 : i + 1 < ns.length := by omega
        have ga := List.getElem?_eq_getElem (show i < ns.length by omega)
        have gb := List.getElem?_eq_getElem hi1
        generalize ns[i] = a at ga
        generalize ns[i + 1] = b at gb
        have pa := pos i a ga
        have ata : atI (ns.map V.int) (0 + (i : Int)) = some (.int a) := by rw [Int.zero_add]; exact at_map ga
        have atb : atI (ns.map V.int) (0 + (i : Int) + 1) = some (.int b) := by rw [Int.zero_add]; exact at_map (p := i + 1) gb
        refine ⟨_, rfl, _, rfl, _, _, rfl, rfl, L, _, _, _, rfl, rfl, SqL.of gL, atb, _, rfl, _, rfl, L, _, _, _, rfl, rfl, SqL.of gL, ata, _, _, rfl, rfl, _, rfl, ?_⟩
        by_cases c4 : b ≤ a
        · exact ifT (decide_eq_true c4) (q2 (notG fun g => absurd (g.up i a b ga gb).1 (by omega)) _ sm)
        refine ifF (decide_eq_false c4) ⟨_, rfl, _, rfl, _, _, rfl, rfl, L, _, _, _, rfl, rfl, SqL.of gL, atb, _, rfl, _, rfl, L, _, _, _, rfl, rfl, SqL.of gL, ata, _, _, rfl, rfl, (by show (0 : Int) < a; omega), rfl, _, rfl, ?_⟩
        by_cases c5 : b % a = 0
        · refine ifF (by rw [vT c5]; rfl) ⟨rfl, ⟨_, rfl⟩, fun j a' b' hj h1 h2 => ?_⟩
          by_cases e : j = i
          · rw [e, ga] at h1
            rw [e, gb] at h2
            cases h1
            cases h2
            exact ⟨by omega, c5⟩
          · exact up j a' b' (by omega) h1 h2
        · exact ifT (by rw [vF c5]; rfl) (q2 (notG fun g => c5 (g.up i a b ga gb).2) _ sm)
      · rintro σ G' ⟨rfl, ⟨x3', rfl⟩, up⟩
        have up' : ∀ j a b, ns[j]? = some a → ns[j + 1]? = some b → a < b ∧ b % a = 0 := fun j a b h1 h2 => up j a b (by have := (List.getElem?_eq_some_iff.mp h2).1; omega) h1 h2
        have g : Good ns := ⟨⟨l1, c2⟩, by rw [h0, c1], fun i y hy => ⟨pos i y hy, by
          have hl := (List.getElem?_eq_some_iff.mp hy).1
          have := ups (fun j a b h1 h2 => (up' j a b h1 h2).1) (ns.length - 1 - i) i y z hy (by rw [show i + (ns.length - 1 - i) = ns.length - 1 by omega]; exact hz)
          omega⟩, up'⟩
        exact ⟨_, rfl, q1 ns (yes g ns rfl) L G' hL sm gL⟩
end
end K11

set_option Elab.async false
set_option linter.all false
set_option maxRecDepth 100000
set_option maxHeartbeats 4000000
set_option pp.maxSteps 900
namespace K11
open PySem PySem.Spec PyProof.Rows L2 Gu Ex
section
variable {K : PySem.W.Frag} {H : Hp} {n m : Nat}
theorem tqa_nil : TqAll K H [] [] n m := ⟨.nil, rfl, Nat.zero_le _, Nat.zero_le _⟩
theorem tqa_cons {v : V} {vs : List V} {d : PyData} {ds : List PyData} (t : Tq K H v d n m) (a : TqAll K H vs ds n m) : TqAll K H (v :: vs) (d :: ds) n m := by
  refine ⟨.cons t.dq a.dq, ?_, ?_, ?_⟩
  · show (d.showable && PyData.showableAll ds) = true
    rw [t.sh, a.sh]
    rfl
  · show max d.depth (PyData.depthAll ds) ≤ n
    have := t.dp
    have := a.dp
    omega
  · show (d.shown.length + ((PyData.shownAll ds).map (·.length)).sum) + 2 * ((PyData.shownAll ds).length + 1) ≤ (vs.length + 1) * (m + 2)
    have := t.ln
    have := a.ln
    rw [Nat.add_mul, Nat.one_mul]
    omega
end
def okD (w : Str) (ns : List Int) : PyData := .list [.str w, .list (ns.map PyData.int)]
def noD (w : Str) (d : PyData) : PyData := .list [.str w, d, .bool true]
theorem ok_tq {K : PySem.W.Frag} {H : Hp} {t l : Addr} {ns : List Int} (z : String) (hz : (reprText (Str.ofString z)).length ≤ 41) (g : Good ns) (h1 : H l = some (.lst (ns.map V.int))) (h2 : H t = some (.lst [.str (Str.ofString z), .ref l])) : Tq K H (.ref t) (okD (Str.ofString z) ns) 2 900 :=
  ((tqa_cons ((tq_text z hz).mono (by decide) (by decide)) (tqa_cons ((good_tq g h1).mono (n' := 1) (m' := 400) (by decide) (by decide)) tqa_nil)).lst h2).mono (by decide) (by show 2 * (400 + 2) + 3 ≤ 900; decide)
theorem no_tq {K : PySem.W.Frag} {H : Hp} {t : Addr} {v : V} {d : PyData} {m : Nat} (z : String) (hz : (reprText (Str.ofString z)).length ≤ 41) (hm : 41 ≤ m) (h1 : Tq K H v d 4 m) (h2 : H t = some (.lst [.str (Str.ofString z), v, .bl true])) : Tq K H (.ref t) (noD (Str.ofString z) d) 5 (3 * (m + 2) + 3) :=
  (tqa_cons ((tq_text z hz).mono (by decide) hm) (tqa_cons h1 (tqa_cons ((tq_bl true).mono (by decide) hm) tqa_nil))).lst h2
def t__law_told (K : PySem.W.Frag) (a : Addr) (cls : Value) (d : Option Addr) : TS :=
  tSeq (tAsg (tAndV (tCB (rIsX K (cX K) a cls d) (tCons (tVar 2) (tCons (tC (.ref (He.ga K "RoomError"))) tNil)))
    (tNotV (tCB (rIsXT K (cX K) a cls d) (tCons (tVar 2) (tCons (tTup (tCons (tC (.ref (He.ga K "InvalidSizes"))) (tCons (tC (.ref (He.ga K "InvalidCount"))) (tCons (tC (.ty "LookupError")) tNil)))) tNil))))) (gName 3))
    (tAsg (tLst (tCons (tC (.str "text")) (tCons (tXf a cls d (cX K) "line" (tVar 2)) (tCons (tVar 3) tNil)))) (gName 1))
def t__law_counted (K : PySem.W.Frag) (a : Addr) (cls : Value) (d : Option Addr) : TS :=
  tSeq (tAsg (tAndV (tCB (rIsX K (cC K) a cls d) (tCons (tVar 2) (tCons (tC (.ref (He.ga K "RoomError"))) tNil)))
    (tNotV (tCB (rIsXT K (cC K) a cls d) (tCons (tVar 2) (tCons (tTup (tCons (tC (.ref (He.ga K "InvalidSizes"))) (tCons (tC (.ref (He.ga K "InvalidText"))) (tCons (tC (.ty "LookupError")) tNil)))) tNil))))) (gName 3))
    (tAsg (tLst (tCons (tC (.str "count")) (tCons (tXf a cls d (cC K) "value" (tVar 2)) (tCons (tVar 3) tNil)))) (gName 1))
section
variable {P : Program} {w : World} {K : PySem.W.Frag} {mg : Str → Option Value} {base : Heap} {f : Addr} {fd : FuncData}
def Ch (x : Str) : Prop := ∀ c ∈ cs x, c < 1114112
theorem cut_ch {x : Str} {lo hi : Option Int} (h : Ch x) : Ch (cutS x lo hi) := fun c hc => h c (List.mem_of_mem_drop (List.mem_of_mem_take (show c ∈ ((cs x).drop (HT.sIx x.length 0 lo)).take (HT.sIx x.length x.length hi - HT.sIx x.length 0 lo) from hc)))
theorem app_ch {x y : Str} (h : Ch x) (k : Ch y) : Ch (x ++ y) := fun c hc => by
  rw [show cs (x ++ y) = cs x ++ cs y from TL.tl_append x y] at hc
  rcases List.mem_append.mp hc with z | z
  · exact h c z
  · exact k c z
def signs10 : List Str := ["0", "1", "2", " ", "8", "a", "-", "+", ",", "_"]
theorem signs_ok : (signs10.all fun x => decide (x.length = 1) && x.cps.toList.all fun c => decide (c < 1114112)) = true := by decide +kernel
def spLbent : Sp := fun vs H Q _ => ∃ (r : Addr) (x : Str), vs = [.ref r, .str x] ∧ Rng H r ∧ x.length ≤ 300 ∧ Ch x ∧ ∀ y H', y.length ≤ 2 * x.length + 1 → Ch y → Stp r H H' → Q (.str y) H'
theorem sc__law_bent : FnScope ["_law_rng_here", "_law_written", "_law_bent_here", "_law_at", "_law_sign"] ["_law_rng_here", "_law_written"] (defScope (top 21)) := ⟨rfl, rfl, rfl, by decide +kernel, rfl, by decide +kernel, by decide +kernel⟩
theorem ok_lbent (T : Tx K mg) (D__law_draw : Df P w K mg base 1 "_law_draw" ["_law_rng_here", "_law_many"] spDraw) (D__law_choice : Df P w K mg base 2 "_law_choice" ["_law_rng_here", "_law_options"] spChoice)
    (F : FnP K "_law_bent" "_law_bent" (top 21) f fd) : FnOk P w K mg base CX0 3 f fd ["_law_rng_here", "_law_written"] spLbent := by
  refine F.ok sc__law_bent (fun vs H Q E h => ?_) (fun cdv A outer s H vs Q E hr h => ⟨_, PSs.nox (pss_cons (ps_par (by rfl) sc__law_bent.nd (i := 3) (j := 4) rfl rfl (by decide) rfl rfl (pa_cons (pcall D__law_draw hr (pa_cons (pv 0) (pa_cons (pe_op op_add (pe_callB call_len_str (by rfl) T.n_len (by decide +kernel) (pa_cons (pv 1) pa_nil)) pe_int) pa_nil))) (pa_cons (pcall D__law_choice hr (pa_cons (pv 0) (pa_cons (pe_lst (pa_cons pe_str (pa_cons pe_str (pa_cons pe_str (pa_cons pe_str (pa_cons pe_str (pa_cons pe_str (pa_cons pe_str (pa_cons pe_str (pa_cons pe_str (pa_cons pe_str pa_nil))))))))))) pa_nil))) pa_nil)) (by rfl)) (pss_cons (ps_set (i := 2) sc__law_bent.nd rfl (by first | exact Or.inl rfl | exact Or.inr rfl) (pe_lst (pa_cons (pe_op op_add_str (pe_op op_add_str (pe_slice sl_str (pv 1) po_none (po_some (pv 3))) (pv 4)) (pe_slice sl_str (pv 1) (po_some (pv 3)) po_none)) (pa_cons (pe_op op_add_str (pe_slice sl_str (pv 1) po_none (po_some (pv 3))) (pe_slice sl_str (pv 1) (po_some (pe_op op_add (pv 3) pe_int)) po_none)) (pa_cons (pe_op op_add_str (pe_op op_add_str (pe_slice sl_str (pv 1) po_none (po_some (pv 3))) (pv 4)) (pe_slice sl_str (pv 1) (po_some (pe_op op_add (pv 3) pe_int)) po_none)) pa_nil))))) (pss_one (ps_ret (pe_ix ix_list (pv 2) (pcall D__law_draw hr (pa_cons (pv 0) (pa_cons pe_int pa_nil))) (fun _ _ => rfl)))))), ?_⟩)
  · obtain ⟨r, x, rfl, _⟩ := h
    rfl
  · obtain ⟨r, x, rfl, hR, xl, hx, q⟩ := h
    have sl : sizeLine = 16777216 := sizeLine_eq
    have big : (10 : Int) ^ 40 = 10000000000000000000000000000000000000000 := by decide
    refine ⟨_, rfl, _, rfl, x, rfl, by omega, _, _, rfl, rfl, r, _, rfl, hR, by omega, by omega, fun a H1 a0 a1 s1 => ⟨_, rfl, (by show 10 ≤ sizeLine; decide), fun p hp => ?_⟩⟩
    have s2 := s1.new (o := .lst (signs10.map V.str)) hp
    refine ⟨r, p, _, rfl, s2.1, upd_same, (s1.1.ne hp).symm, (by show 1 ≤ 10; decide), (by show 10 ≤ 1000; decide), fun v H3 hv t3 => ⟨_, _, rfl, ?_⟩⟩
    obtain ⟨z, hz, rfl⟩ := List.mem_map.mp (show v ∈ signs10.map V.str from hv)
    obtain ⟨z1, z2⟩ := He.ba (List.all_eq_true.mp signs_ok z hz)
    have zl : z.length = 1 := of_decide_eq_true z1
    have zc : Ch z := fun c hc => of_decide_eq_true (List.all_eq_true.mp z2 c hc)
    have s3 := s2.trans t3
    have c1 := cutS_length x none (some a)
    have c2 := cutS_length x (some a) none
    have c3 := cutS_length x (some (a + 1)) none
    have k1 := cut_ch (lo := none) (hi := some a) hx
    have k2 := cut_ch (lo := some a) (hi := none) hx
    have k3 := cut_ch (lo := some (a + 1)) (hi := none) hx
    refine ⟨_, rfl, _, rfl, _, rfl, x, rfl, by omega, _, rfl, _, _, rfl, rfl, by omega, _, rfl, _, rfl, _, rfl, x, rfl, by omega, _, _, rfl, rfl, by rw [Str.length_append]; omega, ?_⟩
    refine ⟨_, rfl, _, rfl, _, rfl, x, rfl, by omega, _, rfl, _, rfl, _, _, rfl, rfl, _, rfl, x, rfl, by omega, _, _, rfl, rfl, by omega, ?_⟩
    refine ⟨_, rfl, _, rfl, _, rfl, x, rfl, by omega, _, rfl, _, _, rfl, rfl, by omega, _, rfl, _, rfl, _, _, rfl, rfl, _, rfl, x, rfl, by omega, _, _, rfl, rfl, by rw [Str.length_append]; omega, (by show 3 ≤ sizeLine; decide), fun L hL => ?_⟩
    have nLr : L ≠ r := (s3.1.ne hL).symm
    have s4 := s3.new (o := .lst [.str (cutS x none (some a) ++ z ++ cutS x (some a) none), .str (cutS x none (some a) ++ cutS x (some (a + 1)) none), .str (cutS x none (some a) ++ z ++ cutS x (some (a + 1)) none)]) hL
    refine ⟨_, rfl, _, rfl, r, 3, rfl, s4.1, by decide, by omega, fun j H5 j0 j1 t5 => ?_⟩
    have hL5 := t5.2 L _ nLr upd_same
    obtain ⟨v, hv2, hm⟩ := at_of (xs := [V.str (cutS x none (some a) ++ z ++ cutS x (some a) none), .str (cutS x none (some a) ++ cutS x (some (a + 1)) none), .str (cutS x none (some a) ++ z ++ cutS x (some (a + 1)) none)]) j0 j1
    refine ⟨L, _, _, v, rfl, rfl, SqL.of hL5, hv2, ?_⟩
    simp only [List.mem_cons, List.not_mem_nil, or_false] at hm
    rcases hm with rfl | rfl | rfl
    · exact q _ H5 (by rw [Str.length_append, Str.length_append]; omega) (app_ch (app_ch k1 zc) k2) (s4.trans t5)
    · exact q _ H5 (by rw [Str.length_append]; omega) (app_ch k1 k3) (s4.trans t5)
    · exact q _ H5 (by rw [Str.length_append, Str.length_append]; omega) (app_ch (app_ch k1 zc) k3) (s4.trans t5)
def spLtold : Sp := fun vs H Q _ => ∃ v : V, vs = [v] ∧ Any H v ∧ (∀ x, v = .str x → x.length ≤ 500 ∧
  (∀ ns, RdS x ns → ∀ H', Same H H' → Q (.str (okD "read" ns).shown) H') ∧ ((∀ ns, ¬ RdS x ns) → ∀ H', Same H H' → Q (.str (noD "text" (.int 1)).shown) H')) ∧ (isS v = false → ∀ H', Same H H' → Q (.str (noD "text" (.int 0)).shown) H')
theorem sc__law_told : FnScope ["_law_value", "_law_told_here", "e", "_law_is_alone"] ["_law_value"] (defScope (top 22)) := ⟨rfl, rfl, rfl, by decide +kernel, rfl, by decide +kernel, by decide +kernel⟩
theorem ok_ltold (T : Tx K mg) (C_from : Cm P w K mg base (L2.CX P w) 7 "Sizes" "from_text" ["cls", "text"] (spFrom K)) (M_all_sizes : Mf P w K mg base 1 "Sizes" "all_sizes" ["self"] (spAll K))
    (F : FnP K "_law_told" "_law_told" (top 22) f fd) : FnG P w K mg base CX0 9 f fd ["_law_value"] spLtold := by
  refine okG F sc__law_told (fun vs H Q E h => ?_) (fun cdv A outer s H vs Q E hr h => ⟨_, PSs.nox (pss_cons (ps_set (i := 1) sc__law_told.nd rfl (Or.inl rfl) (pe_lst (pa_cons pe_str pa_nil)))
    (pss_cons (ps_try_as (i := 2) (tb := fun W => tAsg (tLst (tCons (tC (.str "read")) (tCons (tMeth (cS K) "all_sizes" (spAll K) [] E0 (tCMethT (cS K) (spFrom K) (WE W) (tC (.ref (cS K))) (tCons (tVar 0) tNil)) tNil) tNil))) (gName 1)) (ts := t__law_told K) (Wout := fun _ _ _ _ => False)
        rfl rfl sc__law_told.nd rfl rfl ⟨rfl, by decide, Or.inl T.g_InvalidText⟩ takes0
      (fun W pn xe tk _ => pss_one (ps_set (i := 1) sc__law_told.nd rfl (Or.inl rfl) (by exact (pe_lst (pa_cons pe_str (pa_cons (by exact (pmeth0 M_all_sizes hr.r (by exact (pcmT C_from hr.r tk (pe_glob (v := .ref _) rfl T.g_Sizes rfl) (pa_cons (pv 0) pa_nil))))) pa_nil))))))
      (fun a oe cls d pn hz hf => pss_cons (ps_set (i := 3) sc__law_told.nd rfl (Or.inl rfl) (by exact (pe_and (by exact (pe_callB (r := rIsX K (cX K) a cls d) (id := "isinstance") (call_isX T.eX.ec hz hf) (by rfl) T.n_isinstance (by decide +kernel) (by exact (pa_cons (pv 2) (pa_cons (pe_glob (v := .ref _) rfl T.g_RoomError rfl) pa_nil))))) (pe_one (pe_not (by exact (pe_callB (r := rIsXT K (cX K) a cls d) (id := "isinstance") (call_isXT T.eX.ec hz hf) (by rfl) T.n_isinstance (by decide +kernel) (by exact (pa_cons (pv 2) (pa_cons (pe_tup (pa_cons (pe_glob (v := .ref _) rfl T.g_InvalidSizes rfl) (pa_cons (pe_glob (v := .ref _) rfl T.g_InvalidCount rfl) (pa_cons (pe_bltn (v := .ty "LookupError") (by rfl) T.n_LookupError (by decide +kernel) rfl) pa_nil)))) pa_nil)))))))))) (pss_one (ps_set (i := 1) sc__law_told.nd rfl (Or.inl rfl) (by exact (pe_lst (pa_cons pe_str (pa_cons (by exact (pe_xf T.eX.xf T.eX.no hz hf (pv 2))) (pa_cons (pv 3) pa_nil)))))))))
    (pss_one (ps_ret (pe_callB (call_reprQ hr T.sys) (by rfl) T.n_repr (by decide +kernel) (pa_cons (pv 1) pa_nil)))))), ?_⟩)
  · obtain ⟨v, rfl, _⟩ := h
    rfl
  · obtain ⟨v, rfl, hv, q1, q2⟩ := h
    refine ⟨(by show 1 ≤ sizeLine; decide), fun b hb => ?_⟩
    have sb : Same H (upd H b (.lst [V.str "other"])) := same_upd hb
    refine ⟨rfl, _, rfl, v, rfl, hv.same sb, fun x e => ?_, fun hS => ?_⟩
    · obtain ⟨xl, q3, q4⟩ := q1 x e
      refine ⟨xl, fun ns r p H1 sm hz => ?_, fun nr => ?_⟩
      · obtain ⟨dx, l, h1, h2⟩ := id hz
        refine ⟨p, dx, _, rfl, h1, szF_no l (by decide +kernel), p, _, rfl, hz, fun l2 hl2 => ⟨(by show 2 ≤ sizeLine; decide), fun t ht => ?_⟩⟩
        have s2 := ((sb.trans sm).trans (same_upd (o := .lst (ns.map V.int)) hl2)).trans (same_upd (o := .lst [.str "read", .ref l2]) ht)
        have hl3 : (upd (upd H1 l2 (.lst (ns.map V.int))) t (.lst [.str "read", .ref l2])) l2 = some (.lst (ns.map V.int)) := by rw [upd_ne (ne_of_none upd_same ht)]; exact upd_same
        have tq := ok_tq (K := K) "read" (by decide +kernel) r.2.2 hl3 upd_same
        exact ⟨_, rfl, _, _, rfl, tq.dq, tq.sh, Nat.le_trans tq.dp (by decide), Nat.le_trans tq.ln (by decide), q3 ns r _ s2⟩
      · intro d H1 hd sm hx
        refine ⟨true, T.eX.em, fun _ a0 ha0 => ?_, fun zz => Bool.noConfusion zz⟩
        refine ⟨_, rfl, _, _, _, d, _, rfl, rfl, rfl, .own _, hx, T.kRX, _, rfl, iteT ?_⟩
        refine ⟨_, rfl, (by show 3 ≤ sizeLine; decide), fun tp htp => ?_⟩
        have sm2 := same_upd (o := .tup [.ref (cE K), .ref (cC K), .ty "LookupError"]) htp
        refine ⟨tp, _, _, _, d, _, rfl, rfl, rfl, upd_same, .cons (.own _) (.cons (.own _) (.cons (.ty _) .nil)), sm2 _ _ hx, T.kOX, _, rfl, ?_⟩
        refine ⟨_, rfl, rfl, rfl, d, _, .int 1, rfl, sm2 _ _ hx, (by simp [List.lookup]), _, rfl, (by show 3 ≤ sizeLine; decide), fun t ht => ?_⟩
        have tq := no_tq (K := K) (d := .int 1) (m := 41) "text" (by decide +kernel) (by decide) ((tq_int (by decide) (by decide)).mono (by decide) (by decide)) (upd_same (H := upd H1 tp (.tup [.ref (cE K), .ref (cC K), .ty "LookupError"])) (a := t) (o := .lst [.str (Str.ofString "text"), .int 1, .bl true]))
        exact ⟨_, rfl, _, _, rfl, tq.dq, tq.sh, Nat.le_trans tq.dp (by decide), Nat.le_trans tq.ln (by decide), q4 nr _ (((sb.trans sm).trans sm2).trans (same_upd ht))⟩
    · intro d H1 hd sm hx
      refine ⟨true, T.eX.em, fun _ a0 ha0 => ?_, fun zz => Bool.noConfusion zz⟩
      refine ⟨_, rfl, _, _, _, d, _, rfl, rfl, rfl, .own _, hx, T.kRX, _, rfl, iteT ?_⟩
      refine ⟨_, rfl, (by show 3 ≤ sizeLine; decide), fun tp htp => ?_⟩
      have sm2 := same_upd (o := .tup [.ref (cE K), .ref (cC K), .ty "LookupError"]) htp
      refine ⟨tp, _, _, _, d, _, rfl, rfl, rfl, upd_same, .cons (.own _) (.cons (.own _) (.cons (.ty _) .nil)), sm2 _ _ hx, T.kOX, _, rfl, ?_⟩
      refine ⟨_, rfl, rfl, rfl, d, _, .int 0, rfl, sm2 _ _ hx, (by simp [List.lookup]), _, rfl, (by show 3 ≤ sizeLine; decide), fun t ht => ?_⟩
      have tq := no_tq (K := K) (d := .int 0) (m := 41) "text" (by decide +kernel) (by decide) ((tq_int (by decide) (by decide)).mono (by decide) (by decide)) (upd_same (H := upd H1 tp (.tup [.ref (cE K), .ref (cC K), .ty "LookupError"])) (a := t) (o := .lst [.str (Str.ofString "text"), .int 0, .bl true]))
      exact ⟨_, rfl, _, _, rfl, tq.dq, tq.sh, Nat.le_trans tq.dp (by decide), Nat.le_trans tq.ln (by decide), q2 hS _ (((sb.trans sm).trans sm2).trans (same_upd ht))⟩
def spLcounted (K : PySem.W.Frag) : Sp := fun vs H Q _ => ∃ (v : V) (d : PyData), vs = [v] ∧ Any H v ∧ Tq K H v d 4 100 ∧ (∀ n : Nat, v = .int n → 1 ≤ n → n ≤ 8 → ∀ H', Same H H' → Q (.str (okD "made" (pows n)).shown) H') ∧
  ((∀ n : Nat, v = .int n → 1 ≤ n → n ≤ 8 → False) → ∀ H', Same H H' → Q (.str (noD "count" d).shown) H')
theorem sc__law_counted : FnScope ["_law_value", "_law_told_here", "e", "_law_is_alone"] ["_law_value"] (defScope (top 23)) := ⟨rfl, rfl, rfl, by decide +kernel, rfl, by decide +kernel, by decide +kernel⟩
theorem ok_lcounted (T : Tx K mg) (C_dbl : Cm P w K mg base (L2.CX P w) 7 "Sizes" "doubling" ["cls", "count"] (spDbl K)) (M_all_sizes : Mf P w K mg base 1 "Sizes" "all_sizes" ["self"] (spAll K))
    (F : FnP K "_law_counted" "_law_counted" (top 23) f fd) : FnG P w K mg base CX0 9 f fd ["_law_value"] (spLcounted K) := by
  refine okG F sc__law_counted (fun vs H Q E h => ?_) (fun cdv A outer s H vs Q E hr h => ⟨_, PSs.nox (pss_cons (ps_set (i := 1) sc__law_counted.nd rfl (Or.inl rfl) (pe_lst (pa_cons pe_str pa_nil)))
    (pss_cons (ps_try_as (i := 2) (tb := fun W => tAsg (tLst (tCons (tC (.str "made")) (tCons (tMeth (cS K) "all_sizes" (spAll K) [] E0 (tCMethT (cS K) (spDbl K) (WE W) (tC (.ref (cS K))) (tCons (tVar 0) tNil)) tNil) tNil))) (gName 1)) (ts := t__law_counted K) (Wout := fun _ _ _ _ => False)
        rfl rfl sc__law_counted.nd rfl rfl ⟨rfl, by decide, Or.inl T.g_InvalidCount⟩ takes0
      (fun W pn xe tk _ => pss_one (ps_set (i := 1) sc__law_counted.nd rfl (Or.inl rfl) (by exact (pe_lst (pa_cons pe_str (pa_cons (by exact (pmeth0 M_all_sizes hr.r (by exact (pcmT C_dbl hr.r tk (pe_glob (v := .ref _) rfl T.g_Sizes rfl) (pa_cons (pv 0) pa_nil))))) pa_nil))))))
      (fun a oe cls d pn hz hf => pss_cons (ps_set (i := 3) sc__law_counted.nd rfl (Or.inl rfl) (by exact (pe_and (by exact (pe_callB (r := rIsX K (cC K) a cls d) (id := "isinstance") (call_isX T.eC.ec hz hf) (by rfl) T.n_isinstance (by decide +kernel) (by exact (pa_cons (pv 2) (pa_cons (pe_glob (v := .ref _) rfl T.g_RoomError rfl) pa_nil))))) (pe_one (pe_not (by exact (pe_callB (r := rIsXT K (cC K) a cls d) (id := "isinstance") (call_isXT T.eC.ec hz hf) (by rfl) T.n_isinstance (by decide +kernel) (by exact (pa_cons (pv 2) (pa_cons (pe_tup (pa_cons (pe_glob (v := .ref _) rfl T.g_InvalidSizes rfl) (pa_cons (pe_glob (v := .ref _) rfl T.g_InvalidText rfl) (pa_cons (pe_bltn (v := .ty "LookupError") (by rfl) T.n_LookupError (by decide +kernel) rfl) pa_nil)))) pa_nil)))))))))) (pss_one (ps_set (i := 1) sc__law_counted.nd rfl (Or.inl rfl) (by exact (pe_lst (pa_cons pe_str (pa_cons (by exact (pe_xf T.eC.xf T.eC.no hz hf (pv 2))) (pa_cons (pv 3) pa_nil)))))))))
    (pss_one (ps_ret (pe_callB (call_reprQ hr T.sys) (by rfl) T.n_repr (by decide +kernel) (pa_cons (pv 1) pa_nil)))))), ?_⟩)
  · obtain ⟨v, _, rfl, _⟩ := h
    rfl
  · obtain ⟨v, d0, rfl, hv, hd0, q1, q2⟩ := h
    refine ⟨(by show 1 ≤ sizeLine; decide), fun b hb => ?_⟩
    have sb : Same H (upd H b (.lst [V.str "other"])) := same_upd hb
    refine ⟨rfl, _, rfl, v, rfl, hv.same sb, fun n e n1 n8 p H1 sm hz => ?_, fun nr => ?_⟩
    · obtain ⟨dx, l, h1, h2⟩ := id hz
      refine ⟨p, dx, _, rfl, h1, szF_no l (by decide +kernel), p, _, rfl, hz, fun l2 hl2 => ⟨(by show 2 ≤ sizeLine; decide), fun t ht => ?_⟩⟩
      have s2 := ((sb.trans sm).trans (same_upd (o := .lst ((pows n).map V.int)) hl2)).trans (same_upd (o := .lst [.str "made", .ref l2]) ht)
      have hl3 : (upd (upd H1 l2 (.lst ((pows n).map V.int))) t (.lst [.str "made", .ref l2])) l2 = some (.lst ((pows n).map V.int)) := by rw [upd_ne (ne_of_none upd_same ht)]; exact upd_same
      have tq := ok_tq (K := K) "made" (by decide +kernel) (pows_good n1 n8) hl3 upd_same
      exact ⟨_, rfl, _, _, rfl, tq.dq, tq.sh, Nat.le_trans tq.dp (by decide), Nat.le_trans tq.ln (by decide), q1 n e n1 n8 _ s2⟩
    · intro d H1 hd sm hx
      refine ⟨true, T.eC.em, fun _ a0 ha0 => ?_, fun zz => Bool.noConfusion zz⟩
      refine ⟨_, rfl, _, _, _, d, _, rfl, rfl, rfl, .own _, hx, T.kRC, _, rfl, iteT ?_⟩
      refine ⟨_, rfl, (by show 3 ≤ sizeLine; decide), fun tp htp => ?_⟩
      have sm2 := same_upd (o := .tup [.ref (cE K), .ref (cX K), .ty "LookupError"]) htp
      refine ⟨tp, _, _, _, d, _, rfl, rfl, rfl, upd_same, .cons (.own _) (.cons (.own _) (.cons (.ty _) .nil)), sm2 _ _ hx, T.kOC, _, rfl, ?_⟩
      refine ⟨_, rfl, rfl, rfl, d, _, v, rfl, sm2 _ _ hx, (by simp [List.lookup]), _, rfl, (by show 3 ≤ sizeLine; decide), fun t ht => ?_⟩
      have s4 := ((sb.trans sm).trans sm2).trans (same_upd (o := .lst [.str "count", v, .bl true]) ht)
      have tq := no_tq (K := K) "count" (by decide +kernel) (by decide) (hd0.same s4) (upd_same (H := upd H1 tp (.tup [.ref (cE K), .ref (cX K), .ty "LookupError"])) (a := t) (o := .lst [.str (Str.ofString "count"), v, .bl true]))
      exact ⟨_, rfl, _, _, rfl, tq.dq, tq.sh, Nat.le_trans tq.dp (by decide), Nat.le_trans tq.ln (by decide), q2 nr _ s4⟩
end
end K11

set_option Elab.async false
set_option linter.all false
set_option maxRecDepth 100000
set_option maxHeartbeats 4000000
/-! Own layer: an operator's readings side by side; a promise without exceptions as one with them; classmethods and makers by keywords alone. -/
namespace Ex
open PySem PySem.Spec PySem.Calls PyProof.Rows L2 Gu
theorem op_orR {X : Cx} {op : Value → Value → Sem Value} {r1 r2 : R2} (h1 : OpR X op r1) (h2 : OpR X op r2) : OpR X op (fun x y H Q => r1 x y H Q ∨ r2 x y H Q) := by
  intro pins s σ H x y u v Q I rx ry h
  rcases h with h | h
  · exact h1 pins s σ H x y u v Q I rx ry h
  · exact h2 pins s σ H x y u v Q I rx ry h
theorem FnOk.up {P : Program} {w : World} {K : PySem.W.Frag} {mg : Str → Option Value} {base : Heap} {CX : CXT} {k : Nat} {f : Addr} {fd : FuncData} {ps : List Str} {sp : Sp} (F : FnOk P w K mg base CX0 k f fd ps sp) : FnOk P w K mg base CX k f fd ps sp :=
  ⟨F.len, fun A outer s H args us vs Q E hr he hb hv hs => codeAny_mono (F.run A outer s H args us vs Q E hr he hb hv hs) fun r s' h => by
    cases r with
    | error e => exact h.elim
    | ok fl => cases fl <;> exact h⟩
theorem passNN {X : Cx} : Passes (L2N.CX X.prog X.w) X E0 := fun _ _ _ _ _ _ _ ⟨_, _, _, _, _, _, _, _, _, _, _, _, z⟩ => z.elim
/-- the classmethod m of the class c, called by the keywords ks alone -/
structure CmK (P : Program) (w : World) (K : PySem.W.Frag) (mg : Str → Option Value) (base : Heap) (CX : CXT) (k : Nat) (c m : Str) (ps ks : List Str) (j : List Nat) (sp : Sp) : Prop where
  rd : ClX.CRead K (He.ga K c) (.type "type")
  ex : ∃ (p g : Addr) (fd : FuncData), ClX.CMet K (He.ga K c) (.type "type") m p g ∧ FnOk P w K mg base CX k g fd ps sp ∧ ∀ (s : Shared) (u : Value) (ws : List Value), ws.length = ks.length → BindsTo s fd ⟨[u], ks.zip ws⟩ (ps.zip (u :: j.filterMap fun i => ws[i]?))
def tCMethKw (C : Addr) (sp : Sp) (n : Nat) (j : List Nat) (E : XK) (ta : TE) (tk : TA) : TE := fun σ H Q => ta σ H fun x H1 => x = .ref C ∧ tk σ H1 fun zs H2 => zs.length = n ∧ sp (.ref C :: j.filterMap fun i => zs[i]?) H2 Q E
section
variable {X : Cx} {k j i : Nat} {c m x : Str} {ps ks : List Str} {ji : List Nat} {sp : Sp} {p pos apos : Pos} {o e : Expr} {es : List Expr} {kws : List Keyword} {t tk : TA} {ta : TE} {W : WX} {E : XK} {pl : Sem Bool}
open ClX in
theorem pcmK (D : CmK X.prog X.w X.K X.mg X.base (L2.CX X.prog X.w) k c m ps ks ji sp) (hr : Room j X.A) (hx : Passes (L2.CX X.prog X.w) X E) (he : PE X o ta) (hkw : PK X kws tk) (hj : k ≤ j := by decide)
    (hall : (backToKw pos (keywordEach kws X.env)).all (·.1.isSome) = true := by rfl) (hks : (backToKw pos (keywordEach kws X.env)).filterMap (·.1) = ks := by rfl)
    (hpl : ((backTo pos (starEach [] X.env)).any (·.1) || (backToKw pos (keywordEach kws X.env)).any (·.1.isNone)) = false := by rfl)
    (ht : eval (.Call (.Attribute o m apos) [] kws pos) X.env = (do
      let ov ← eval o X.env
      standAt apos.atName
      let (f, first) ← holding [ov] (getMethod ov m pl)
      callWith pos f first (backTo pos (starEach [] X.env)) (backToKw pos (keywordEach kws X.env))) := by rfl) :
    PE X (.Call (.Attribute o m apos) [] kws pos) (tCMethKw (He.ga X.K c) sp ks.length ji E ta tk) := by
  obtain ⟨pa, g, fd, cm, F, b⟩ := D.ex
  refine ⟨fun pins s σ H Q I h => ?_⟩
  refine PySem.W.methodCall_KW (pl := pl) (thn (he.run pins s σ H _ I h) fun u s1 ⟨x, H1, I1, rx, ex, q⟩ => ?_) ht
  subst ex
  obtain rfl : u = Value.ref (He.ga X.K c) := rx
  refine getmethcm_ok I1 D.rd cm fun s2 I2 => ?_
  have kp := PySem.W.keeps_M (M := model X.prog X.w) (q := s1.heap.objs.size) (self := .ref (He.ga X.K c)) cm.fi
  refine PySem.W.callWith_of (P := PySem.W.MethP X.K s1.heap.objs.size g (.ref (He.ga X.K c))) hpl kp (evalArgs_kw2_nil hall (thn (hkw.run pos _ s2 σ H1 _ I2 q) fun ws s3 ⟨zs, H2, I3, rz, l2, q2⟩ => ⟨⟨pin_at I3, I3.kIn⟩, ?_⟩))
  rw [hks]
  have z : wpAny (model X.prog X.w) X.A (call (.ref s1.heap.objs.size) [] (ks.zip ws)) (EP X ((s1.heap.objs.size, PySem.W.methodObj (.ref g) (.ref (He.ga X.K c))) :: pins) σ Q) X.xe s3 := by
    refine wpAny_call (PySem.W.method_call (pin_at I3) (codeAny_mono (F.run X.A X.stack s3 H2 ⟨[.ref (He.ga X.K c)], ks.zip ws⟩ _ (.ref (He.ga X.K c) :: ji.filterMap fun i => zs[i]?) Q E (hr.mono hj) I3.env0 (b s3 (.ref (He.ga X.K c)) ws (rz.length.symm.trans l2)) (.cons rfl (vals_pick rz ji)) q2) fun r s' hq => ?_))
    match r, hq with
    | .error e, hq => exact hx _ σ _ _ e s' I3 hq
    | .ok (.ret v), hq => exact I3.after hq
  exact thn z fun _ _ y => unpinE y
/-- C(k = v, ..) by keywords alone -/
structure KfXK (P : Program) (w : World) (K : PySem.W.Frag) (mg : Str → Option Value) (base : Heap) (CX : CXT) (k : Nat) (c : Str) (ps ks : List Str) (j : List Nat) (sp : Sp) : Prop where
  ex : ∃ fd, FnOk P w K mg base CX k (He.ma K (He.ga K c) "__init__") fd ps sp ∧ ∀ (s : Shared) (u : Value) (ws : List Value), ws.length = ks.length → BindsTo s fd ⟨[u], ks.zip ws⟩ (ps.zip (u :: j.filterMap fun i => ws[i]?))
  gl : mg c = some (.ref (He.ga K c))
  mkr : Mk K (He.ga K c) (He.ma K (He.ga K c) "__init__")
def tMakeKw (C : Addr) (sp : Sp) (n : Nat) (j : List Nat) (E : XK) (tk : TA) : TE := fun σ H Q => tk σ H fun zs H1 => zs.length = n ∧ ∀ x dx, H1 x = none → H1 dx = none → dx ≠ x →
  sp (.ref x :: j.filterMap fun i => zs[i]?) (upd (upd H1 dx (.own x)) x (.ins C dx [])) (fun v H2 => v = .non ∧ Q (.ref x) H2) E
theorem pmakeXK {CX : CXT} (D : KfXK X.prog X.w X.K X.mg X.base CX k c ps ks ji sp) (hr : Room j X.A) (hx : Passes CX X E) (hkw : PK X kws tk) (hj : k + 1 ≤ j := by decide) (hg : Gl X c := by rfl) (hdb : (c == ("__debug__" : Str)) = false := by decide)
    (hall : (backToKw pos (keywordEach kws X.env)).all (·.1.isSome) = true := by rfl) (hks : (backToKw pos (keywordEach kws X.env)).filterMap (·.1) = ks := by rfl)
    (hpl : ((backTo pos (starEach [] X.env)).any (·.1) || (backToKw pos (keywordEach kws X.env)).any (·.1.isNone)) = false := by rfl) :
    PE X (.Call (.Name c p) [] kws pos) (tMakeKw (He.ga X.K c) sp ks.length ji E tk) := by
  obtain ⟨fd, F, hb⟩ := D.ex
  refine ⟨fun pins s σ H Q I h => wpAny_Call_Name_kw (ld_glob I hg D.gl (PySem.W.callWith_KW0 (h₀ := X.base) I.ok.mod.kin D.mkr.kp hall (thn (hkw.run pos pins s σ H _ I h) fun ws s1 ⟨zs, H1, I1, rz, l2, q⟩ => ⟨I1.kIn, ?_⟩) hpl) hdb)⟩
  rw [hks]
  have hq := q (s1.heap.objs.size + 1) s1.heap.objs.size (I1.hok.fresh (Nat.le_succ _)) (I1.hok.fresh (Nat.le_refl _)) (Nat.ne_of_lt (Nat.lt_succ_self _))
  have J := Inv.made (C := He.ga X.K c) I1
  have r2 : Vals (V.ref (s1.heap.objs.size + 1) :: ji.filterMap fun i => zs[i]?) (Value.ref (s1.heap.objs.size + 1) :: ji.filterMap fun i => ws[i]?) := .cons rfl (vals_pick rz ji)
  refine wpAny_call (make_map (f := He.ma X.K (He.ga X.K c) "__init__") I1.kIn D.mkr.makes D.mkr.init (beq_iff_eq.mp D.mkr.fn)
    (codeAny_mono (F.run _ X.stack _ _ ⟨[Value.ref (s1.heap.objs.size + 1)], ks.zip ws⟩ _ _ _ _ ((hr.mono hj).make (He.ga X.K c) [] (ks.zip ws)) (J.env0.make (He.ga X.K c) [] (ks.zip ws)) (hb _ _ ws (rz.length.symm.trans l2)) r2 hq) fun o s' z => ?_))
  match o, z with
  | .error er, z => exact hx pins _ _ _ er s' J z
  | .ok (.ret u), z =>
    obtain ⟨v, H', I3, rv, ev, q3⟩ := J.after z
    subst ev
    exact ⟨rv, ⟨V.ref (s1.heap.objs.size + 1), H', I3, rfl, q3⟩⟩
theorem pcallG0 (D : DfG X.prog X.w X.K X.mg X.base k x ps sp) (hr : RoomG j X.A) (hj : k ≤ j := by decide) (hg : Gl X x := by rfl) (hdb : (x == ("__debug__" : Str)) = false := by decide) : PE X (.Call (.Name x p) [] [] pos) (tCall sp [] E0 tNil) := by
  obtain ⟨fd, F, b⟩ := D.ex
  exact ⟨fun pins s σ H Q I h => wpAny_Call_Name_kw (ld_glob I hg D.gl (PySem.W.callWith_K0 I.kIn D.kp (runG (us := []) F (hr.mono hj) b .nil pass0 I .nil h)) hdb)⟩
theorem pmakeTB {CX : CXT} {E : L2.St → XK} (K : PySem.W.Frag) (D : KfX X.prog X.w X.K X.mg X.base CX k c ps sp) (hr : Room j X.A) (hx : ∀ σ, PassesAt CX X σ (E σ)) (ha : PA X (e :: es) t) (hj : k + 1 ≤ j := by decide) (hK : X.K = K := by rfl) (hg : Gl X c := by rfl) (hdb : (c == ("__debug__" : Str)) = false := by decide)
    (he : starEach (e :: es) X.env = (false, eval e X.env) :: starEach es X.env := by rfl) (hpl : (backTo pos (starEach es X.env)).any (·.1) = false := by rfl) :
    PE X (.Call (.Name c p) (e :: es) [] pos) (tMakeT (He.ga K c) sp E t) := by
  subst hK
  exact pmakeT D hr hx ha hj hg hdb he hpl
end
end Ex

set_option Elab.async false
set_option linter.all false
set_option maxRecDepth 100000
set_option maxHeartbeats 4000000
set_option pp.maxSteps 900
namespace K11
open PySem PySem.Spec PyProof.Rows L2 Gu Ex
section
variable {P : Program} {w : World} {K : PySem.W.Frag} {mg : Str → Option Value} {base : Heap} {f : Addr} {fd : FuncData}
theorem bl3_tq {H : Hp} {t : Addr} {a b c : Bool} (h : H t = some (.lst [.bl a, .bl b, .bl c])) : Tq K H (.ref t) (.list [.bool a, .bool b, .bool c]) 2 200 :=
  ((tqa_cons (tq_bl a) (tqa_cons (tq_bl b) (tqa_cons (tq_bl c) tqa_nil))).lst h).mono (by decide) (by show 3 * (41 + 2) + 3 ≤ 200; decide)
def spLequal (K : PySem.W.Frag) : Sp := fun vs H Q _ => ∃ (p : Addr) (y : V) (ns : List Int) (b : Bool), vs = [.ref p, y, .bl b] ∧ SzI K H p ns ∧ ((∃ (q : Addr) (ms : List Int), y = .ref q ∧ SzI K H q ms ∧ decide (ns = ms) = b) ∨ (∃ T, Bv H y T ∧ b = false)) ∧ ∀ H', Same H H' → Q (.bl true) H'
theorem sc__law_equal : FnScope ["_law_one", "_law_other", "_law_is_so"] ["_law_one", "_law_other", "_law_is_so"] (defScope (top 26)) := ⟨rfl, rfl, rfl, by decide +kernel, rfl, by decide +kernel, by decide +kernel⟩
theorem ok_lequal (T : Tx K mg) (DE : EqOf P w K mg base 1 "Sizes" (spSEq K)) (F : FnP K "_law_equal" "_law_equal" (top 26) f fd) : FnG P w K mg base CX0 5 f fd ["_law_one", "_law_other", "_law_is_so"] (spLequal K) := by
  refine okG F sc__law_equal (fun vs H Q E h => ?_) (fun cdv A outer s H vs Q E hr h => ⟨_, PSs.nox (pss_one (ps_ret (pe_cmpR op_eq (pe_callB (call_reprQ hr T.sys) (by rfl) T.n_repr (by decide +kernel) (pa_cons (pe_lst (pa_cons (pe_cmpR (op_orR (op_own DE hr.r) (op_eqB DE T.bu hr.r)) (pv 0) (pv 1) (nomark _)) (pa_cons (pe_cmpR (op_orR (op_own DE hr.r) (op_eqR DE T.bu hr.r)) (pv 1) (pv 0) (nomark _)) (pa_cons (pe_cmpR (op_orR (op_ownN DE T.ne hr.r) (op_neB DE T.ne T.bu hr.r)) (pv 0) (pv 1) (nomark _)) pa_nil)))) pa_nil)) (pe_callB (call_reprQ hr T.sys) (by rfl) T.n_repr (by decide +kernel) (pa_cons (pe_lst (pa_cons (pv 2) (pa_cons (pv 2) (pa_cons (pe_not (pv 2)) pa_nil)))) pa_nil)) (nomark _)))), ?_⟩)
  · obtain ⟨p, y, ns, b, rfl, _⟩ := h
    rfl
  · obtain ⟨p, y, ns, b, rfl, hz, hy, q⟩ := h
    obtain ⟨dx, l, h1, h2⟩ := id hz
    rcases hy with ⟨r, ms, rfl, hzr, eb⟩ | ⟨Ty, bv, rfl⟩
    · obtain ⟨dy, m, k1, k2⟩ := id hzr
      have eb2 : decide (ms = ns) = b := by rw [← eb]; exact decide_eq_decide.mpr eq_comm
      refine ⟨_, rfl, _, rfl, .inl ⟨p, r, dx, dy, _, _, rfl, rfl, h1, k1, p, _, ns, rfl, hz, .inl ⟨r, ms, rfl, hzr, ⟨_, rfl⟩, ?_⟩⟩⟩
      refine ⟨_, rfl, _, rfl, .inl ⟨r, p, dy, dx, _, _, rfl, rfl, k1, h1, r, _, ms, rfl, hzr, .inl ⟨p, ns, rfl, hz, ⟨_, rfl⟩, ?_⟩⟩⟩
      refine ⟨_, rfl, _, rfl, .inl ⟨p, r, dx, dy, _, _, rfl, rfl, h1, k1, p, _, ns, rfl, hz, .inl ⟨r, ms, rfl, hzr, _, rfl, ?_⟩⟩⟩
      rw [eb, eb2]
      refine ⟨(by show 3 ≤ sizeLine; decide), fun t ht => ?_⟩
      have tq := bl3_tq (K := K) (H := upd H t (.lst [.bl b, .bl b, .bl (!b)])) upd_same
      refine ⟨_, _, rfl, tq.dq, tq.sh, Nat.le_trans tq.dp (by decide), Nat.le_trans tq.ln (by decide), _, rfl, _, rfl, _, rfl, _, rfl, (by show 3 ≤ sizeLine; decide), fun u hu => ?_⟩
      have s2 := (same_upd (o := .lst [.bl b, .bl b, .bl (!b)]) ht).trans (same_upd (o := .lst [.bl b, .bl b, .bl (!b)]) hu)
      have tq2 := bl3_tq (K := K) (H := upd (upd H t (.lst [.bl b, .bl b, .bl (!b)])) u (.lst [.bl b, .bl b, .bl (!b)])) upd_same
      refine ⟨_, _, rfl, tq2.dq, tq2.sh, Nat.le_trans tq2.dp (by decide), Nat.le_trans tq2.ln (by decide), ?_⟩
      refine ⟨rfl, ?_⟩
      rw [decide_eq_true rfl]
      exact q _ s2
    · refine ⟨_, rfl, _, rfl, .inr ⟨p, dx, _, Ty, rfl, h1, bv, p, _, ns, rfl, hz, .inr ⟨Ty, bv, ⟨_, rfl⟩, ?_⟩⟩⟩
      refine ⟨_, rfl, _, rfl, .inr ⟨p, dx, _, Ty, rfl, h1, bv, p, _, ns, rfl, hz, .inr ⟨Ty, bv, ⟨_, rfl⟩, ?_⟩⟩⟩
      refine ⟨_, rfl, _, rfl, .inr ⟨p, dx, _, Ty, rfl, h1, bv, p, _, ns, rfl, hz, .inr ⟨Ty, bv, _, rfl, ?_⟩⟩⟩
      refine ⟨(by show 3 ≤ sizeLine; decide), fun t ht => ?_⟩
      have tq := bl3_tq (K := K) (H := upd H t (.lst [.bl false, .bl false, .bl (!false)])) upd_same
      refine ⟨_, _, rfl, tq.dq, tq.sh, Nat.le_trans tq.dp (by decide), Nat.le_trans tq.ln (by decide), _, rfl, _, rfl, _, rfl, _, rfl, (by show 3 ≤ sizeLine; decide), fun u hu => ?_⟩
      have s2 := (same_upd (o := .lst [.bl false, .bl false, .bl (!false)]) ht).trans (same_upd (o := .lst [.bl false, .bl false, .bl (!false)]) hu)
      have tq2 := bl3_tq (K := K) (H := upd (upd H t (.lst [.bl false, .bl false, .bl (!false)])) u (.lst [.bl false, .bl false, .bl (!false)])) upd_same
      refine ⟨_, _, rfl, tq2.dq, tq2.sh, Nat.le_trans tq2.dp (by decide), Nat.le_trans tq2.ln (by decide), ?_⟩
      refine ⟨rfl, ?_⟩
      rw [decide_eq_true rfl]
      exact q _ s2
end
end K11

set_option Elab.async false
set_option linter.all false
set_option maxRecDepth 100000
set_option maxHeartbeats 4000000
/-! Own layer: fields and methods within a comprehension's block; methods called with keywords; a dict's comprehension over a list. -/
namespace Ex
open PySem PySem.Spec PySem.Calls PyProof.Rows L2 Gu
section
variable {X : Cx} {k j : Nat} {c m : Str} {ps ks : List Str} {sp : Sp} {p pos apos : Pos} {e o : Expr} {es : List Expr} {kws : List Keyword} {t tk : TA} {ta : TE} {f : Str}
theorem pfldB (K : PySem.W.Frag) (he : PE X o ta) (hK : X.K = K := by rfl) (hb : attributeBase o f X.env (eval o X.env) = eval o X.env := by rfl) : PE X (.Attribute o f pos) (tFld K ta f) := by
  subst hK
  exact pe_fld he hb
theorem pmethB {pl : Sem Bool} (K : PySem.W.Frag) (D : Mf X.prog X.w X.K X.mg X.base k c m ps sp) (hr : Room j X.A) (he : PE X o ta) (ha : PA X (e :: es) t) (hj : k ≤ j := by decide) (hK : X.K = K := by rfl)
    (hst : starEach (e :: es) X.env = (false, eval e X.env) :: starEach es X.env := by rfl) (hpl : (backTo pos (starEach es X.env)).any (·.1) = false := by rfl)
    (ht : eval (.Call (.Attribute o m apos) (e :: es) [] pos) X.env = (do
      let ov ← eval o X.env
      standAt apos.atName
      let (f, first) ← holding [ov] (getMethod ov m pl)
      callWith pos f first (backTo pos (starEach (e :: es) X.env)) (backToKw pos (keywordEach [] X.env))) := by rfl) :
    PE X (.Call (.Attribute o m apos) (e :: es) [] pos) (tMeth (He.ga K c) m sp [] E0 ta t) := by
  subst hK
  exact pmeth D hr he ha hj hst hpl ht
/-- a method that is called with n values by position (self among them) and the keywords ks behind them -/
structure MfK (P : Program) (w : World) (K : PySem.W.Frag) (mg : Str → Option Value) (base : Heap) (k : Nat) (c m : Str) (ps : List Str) (n : Nat) (ks : List Str) (sp : Sp) : Prop where
  ex : ∃ fd, FnOk P w K mg base CX0 k (He.ma K (He.ga K c) m) fd ps sp ∧ ∀ (s : Shared) (us ws : List Value), us.length = n → ws.length = ks.length → K.In s.heap → BindsTo s fd ⟨us, ks.zip ws⟩ (ps.zip (us ++ ws))
  cl : Cls K (He.ga K c)
  me : Meth K (He.ga K c) m (He.ma K (He.ga K c) m)
def tMethK (C : Addr) (m : Str) (sp : Sp) (n q : Nat) (ta : TE) (t tk : TA) : TE := fun σ H Q => ta σ H fun x H1 => ∃ a dx fs, x = .ref a ∧ H1 a = some (.ins C dx fs) ∧ fs.lookup m = none ∧
  t σ H1 fun vs H2 => tk σ H2 fun zs H3 => vs.length + 1 = n ∧ zs.length = q ∧ sp (x :: vs ++ zs) H3 Q E0
theorem pmethK {pl : Sem Bool} {n : Nat} (D : MfK X.prog X.w X.K X.mg X.base k c m ps n ks sp) (hr : Room j X.A) (he : PE X o ta) (ha : PA X (e :: es) t) (hkw : PK X kws tk) (hj : k ≤ j := by decide)
    (hst : starEach (e :: es) X.env = (false, eval e X.env) :: starEach es X.env := by rfl)
    (hall : (backToKw pos (keywordEach kws X.env)).all (·.1.isSome) = true := by rfl) (hks : (backToKw pos (keywordEach kws X.env)).filterMap (·.1) = ks := by rfl)
    (hpl : ((backTo pos (starEach (e :: es) X.env)).any (·.1) || (backToKw pos (keywordEach kws X.env)).any (·.1.isNone)) = false := by rfl)
    (ht : eval (.Call (.Attribute o m apos) (e :: es) kws pos) X.env = (do
      let ov ← eval o X.env
      standAt apos.atName
      let (f, first) ← holding [ov] (getMethod ov m pl)
      callWith pos f first (backTo pos (starEach (e :: es) X.env)) (backToKw pos (keywordEach kws X.env))) := by rfl) :
    PE X (.Call (.Attribute o m apos) (e :: es) kws pos) (tMethK (He.ga X.K c) m sp n ks.length ta t tk) := by
  obtain ⟨fd, F, b⟩ := D.ex
  refine ⟨fun pins s σ H Q I h => ?_⟩
  refine PySem.W.methodCall_KW (pl := pl) (thn (he.run pins s σ H _ I h) fun u s1 ⟨x, H1, I1, rx, a, dx, fs, ex, ea, l, q⟩ => ?_) ht
  subst ex
  obtain rfl : u = Value.ref a := rx
  refine getmeth_ok I1 ea D.cl D.me l ?_
  refine PySem.W.callWith_KW (first := [.ref a]) (h₀ := X.base) I.ok.mod.kin D.me.kp hall (thn (ha.run pos pins s1 σ H1 _ I1 q) fun us s2 ⟨vs, H2, I2, r, q2⟩ => thn (hkw.run pos pins s2 σ H2 _ I2 q2) fun ws s3 ⟨zs, H3, I3, rz, hn, hz, q3⟩ => ⟨I3.kIn, ?_⟩) hpl hst
  rw [hks]
  have r2 : Vals (V.ref a :: vs) (Value.ref a :: us) := .cons rfl r
  have r3 : Vals (V.ref a :: vs ++ zs) (Value.ref a :: us ++ ws) := r2.append rz
  have l1 : (Value.ref a :: us).length = n := by
    rw [← r2.length]
    exact hn
  have l2 : ws.length = ks.length := by
    rw [← rz.length]
    exact hz
  refine wpAny_call (codeAny_mono (F.run X.A X.stack s3 H3 ⟨Value.ref a :: us, ks.zip ws⟩ _ _ Q E0 (hr.mono hj) I3.env0 (b s3 (Value.ref a :: us) ws l1 l2 I3.kIn) r3 q3) fun r s' hq => ?_)
  match r, hq with
  | .ok (.ret u), hq => exact I3.after hq
end
/-- a dict's comprehension over a list that stays -/
theorem dc_list {K : PySem.W.Frag} {a : Addr} {xs : List V} {g : TG} {tt : TT} {tk tv : TE} {vs : List Nat} {σ : L2.St} {H1 : Hp} {D : Addr} {Qd : Hp → Prop} (Pv : Nat → Hp → Prop) (h0 : Pv 0 (upd H1 D (.dK []))) (hl : ∀ i H, i ≤ xs.length → Pv i H → SqL K H a xs)
    (hs : ∀ i x H, xs[i]? = some x → Pv i H → g x (wipe σ vs) H fun σ2 H2 => wipe σ2 vs = wipe σ vs ∧ tt σ2 H2 fun b H3 =>
      if b = true then tk σ2 H3 fun y H4 => tv σ2 H4 fun z H5 => ∃ kvs k, y = kV k ∧ H5 D = some (.dK kvs) ∧ kvs.length < sizeLine ∧ Pv (i + 1) (upd H5 D (.dK (putK kvs k z))) else Pv (i + 1) H3) (hd : ∀ H, Pv xs.length H → Qd H) :
    ∃ W : Nat → Nat → Hp → Prop, (∃ m, W 0 m (upd H1 D (.dK []))) ∧ ∀ i m H, W i m H →
      ((Itl K a).stop i H ∧ Qd H) ∨ ((Itl K a).go i H ∧ ∃ Nx : Hp → Prop, (∀ H', Nx H' → ∃ m', m' < m ∧ W (i + 1) m' H') ∧ ∀ x H', (Itl K a).yld i H x H' → g x (wipe σ vs) H' fun σ2 H2 => wipe σ2 vs = wipe σ vs ∧ tt σ2 H2 fun b H3 =>
        if b = true then tk σ2 H3 fun y H4 => tv σ2 H4 fun z H5 => ∃ kvs k, y = kV k ∧ H5 D = some (.dK kvs) ∧ kvs.length < sizeLine ∧ Nx (upd H5 D (.dK (putK kvs k z))) else Nx H3) := by
  refine ⟨fun i m H => m = xs.length - i ∧ i ≤ xs.length ∧ Pv i H, ⟨xs.length, by simp, Nat.zero_le _, h0⟩, ?_⟩
  rintro i m H ⟨rfl, hi, p⟩
  have q := hl i H hi p
  by_cases hlt : i < xs.length
  · refine .inr ⟨⟨xs, xs[i], q, by simp [hlt]⟩, Pv (i + 1), fun H' p' => ⟨xs.length - (i + 1), by omega, rfl, hlt, p'⟩, fun x H' y => ?_⟩
    obtain ⟨e, y⟩ := y
    subst e
    exact hs i x _ (y xs q) p
  · have e : i = xs.length := by omega
    subst e
    exact .inl ⟨⟨xs, q, Nat.le_refl _⟩, hd H p⟩
end Ex

set_option Elab.async false
set_option linter.all false
set_option maxRecDepth 100000
set_option maxHeartbeats 4000000
set_option pp.maxSteps 900
namespace K11
open PySem PySem.Spec PyProof.Rows L2 Gu Ex
def stD (ns : List Int) : PyData := .list [.list (ns.map PyData.int), .list (ns.map PyData.int), .int ((ns.length : Int) - 1), .int (ns.length : Nat)]
theorem st_tq {K : PySem.W.Frag} {H : Hp} {t a b : Addr} {ns : List Int} (g : Good ns) (ha : H a = some (.lst (ns.map V.int))) (hb : H b = some (.lst (ns.map V.int))) (ht : H t = some (.lst [.ref a, .ref b, .int ((ns.length : Int) - 1), .int (ns.length : Nat)])) : Tq K H (.ref t) (stD ns) 3 2000 := by
  have l8 := g.len
  have b39 : (10 : Int) ^ 39 = 1000000000000000000000000000000000000000 := by decide
  exact ((tqa_cons ((good_tq g ha).mono (n' := 2) (m' := 400) (by decide) (by decide)) (tqa_cons ((good_tq g hb).mono (by decide) (by decide)) (tqa_cons ((tq_int (by omega) (by omega)).mono (by decide) (by decide)) (tqa_cons ((tq_int (by omega) (by omega)).mono (by decide) (by decide)) tqa_nil)))).lst ht).mono (by decide) (by show 4 * (400 + 2) + 3 ≤ 2000; decide)
def limD : PyData := .list [.int 8, .int 1000000000, .int 1000000000000, .int 64]
theorem lim_tq {K : PySem.W.Frag} {H : Hp} {t : Addr} (ht : H t = some (.lst [.int 8, .int 1000000000, .int 1000000000000, .int 64])) : Tq K H (.ref t) limD 2 300 :=
  ((tqa_cons (tq_int (by decide) (by decide)) (tqa_cons (tq_int (by decide) (by decide)) (tqa_cons (tq_int (by decide) (by decide)) (tqa_cons (tq_int (by decide) (by decide)) tqa_nil)))).lst ht).mono (by decide) (by show 4 * (41 + 2) + 3 ≤ 300; decide)
/-- the class's constants through an object -/
structure CoI (K : PySem.W.Frag) : Prop where
  n : ∃ u, Con K (cS K) "MAX_SIZES" (.int 8) u
  s : ∃ u, Con K (cS K) "MAX_SIZE" (.int 1000000000) u
  c : ∃ u, Con K (cS K) "MAX_CELLS" (.int 1000000000000) u
  p : ∃ u, Con K (cS K) "MAX_PIECES" (.int 64) u
section
variable {P : Program} {w : World} {K : PySem.W.Frag} {mg : Str → Option Value} {base : Heap} {f : Addr} {fd : FuncData}
theorem SzI.same {H H' : Hp} {p : Addr} {ns : List Int} (h : SzI K H p ns) (s : Same H H') : SzI K H' p ns := by
  obtain ⟨dx, l, h1, h2⟩ := h
  exact ⟨dx, l, s _ _ h1, s _ _ h2⟩
def spLstands (K : PySem.W.Frag) : Sp := fun vs H Q _ => ∃ (p o : Addr) (ns : List Int), vs = [.ref p, .ref o] ∧ SzI K H p ns ∧ Good ns ∧ H o = some (.lst (ns.map V.int)) ∧ ∀ H', Same H H' → Q (.bl true) H'
theorem sc__law_stands : FnScope ["_law_made", "_law_own", "_law_told_here", "_law_pile", "_law_k"] ["_law_made", "_law_own"] (defScope (top 27)) := ⟨rfl, rfl, rfl, by decide +kernel, rfl, by decide +kernel, by decide +kernel⟩
theorem ok_lstands (T : Tx K mg) (co : CoI K) (M_all_sizes : Mf P w K mg base 1 "Sizes" "all_sizes" ["self"] (spAll K)) (M_size : Mf P w K mg base 5 "Sizes" "size" ["self", "level"] (spSize K)) (P_top : Pf P w K mg base 1 "Sizes" "top" (spTop K))
    (M_len : Mf P w K mg base 1 "Sizes" "__len__" ["self"] (spLen K)) (M_repr : MfG P w K mg base 2 "Sizes" "__repr__" ["self"] (spRepr K)) (M_size_kw : MfXK P w K mg base 5 "Sizes" "size" ["self", "level"] ["level"] [0] (spSize K))
    (F : FnP K "_law_stands" "_law_stands" (top 27) f fd) : FnG P w K mg base CX0 8 f fd ["_law_made", "_law_own"] (spLstands K) := by
  refine okG F sc__law_stands (fun vs H Q E h => ?_) (fun cdv A outer s H vs Q E hr h => ⟨_, PSs.nox (pss_cons (ps_set (i := 2) sc__law_stands.nd rfl (by first | exact Or.inl rfl | exact Or.inr rfl) (pe_lst (pa_cons (pmeth0 M_all_sizes hr.r (pv 0)) (pa_cons (pe_lc (own := [("_law_k", 4)]) (g := gName 4) rfl sc__law_stands.nd (pi_range1 rfl T.n_range (pa_cons (pe_callB call_len_seq (by rfl) T.n_len (by decide +kernel) (pa_cons (pv 1) pa_nil)) pa_nil)) (blkOk_by (own := [("_law_k", 4)]) (N := ["_law_made", "_law_own", "_law_told_here", "_law_pile", "_law_k"]) (sc := defScope (top 27)) (by decide +kernel)) (fun _ _ _ _ _ => pg_name (i := 4) sc__law_stands.nd rfl (Or.inl rfl)) (fun _ _ _ _ _ => pts_nil) (fun _ _ _ _ _ => (pmethB K M_size hr.r (pv 0) (pa_cons (pv 4) pa_nil)))) (pa_cons (pprop P_top hr.r (pv 0)) (pa_cons (pe_callB (call_lenO M_len hr.r) (by rfl) T.n_len (by decide +kernel) (pa_cons (pv 0) pa_nil)) pa_nil)))))) (pss_cons (ps_if (PW.pt (pw_or (pt_cmpR op_ne (pe_callB (call_reprQ hr T.sys) (by rfl) T.n_repr (by decide +kernel) (pa_cons (pv 2) pa_nil)) (pe_callB (call_reprQ hr T.sys) (by rfl) T.n_repr (by decide +kernel) (pa_cons (pe_lst (pa_cons (pv 1) (pa_cons (pv 1) (pa_cons (pe_op op_sub (pe_callB call_len_seq (by rfl) T.n_len (by decide +kernel) (pa_cons (pv 1) pa_nil)) pe_int) (pa_cons (pe_callB call_len_seq (by rfl) T.n_len (by decide +kernel) (pa_cons (pv 1) pa_nil)) pa_nil))))) pa_nil)) (nomark _)) (pw_or1 (pt_cmpR op_ne (pe_callB (call_reprO M_repr hr) (by rfl) T.n_repr (by decide +kernel) (pa_cons (pv 0) pa_nil)) (pe_op op_add_str (pe_op op_add_str pe_str (pe_callB (call_reprQ hr T.sys) (by rfl) T.n_repr (by decide +kernel) (pa_cons (pv 1) pa_nil))) pe_str) (nomark _))))) (pss_one (ps_ret pe_bl)) pss_nil) (pss_cons (ps_set (i := 3) sc__law_stands.nd rfl (by first | exact Or.inl rfl | exact Or.inr rfl) (pe_lst (pa_cons (pe_con (pv 0) rfl) (pa_cons (pe_con (pv 0) rfl) (pa_cons (pe_con (pv 0) rfl) (pa_cons (pe_con (pv 0) rfl) pa_nil)))))) (pss_one (ps_ret (pe_and (pe_cmpR op_eq (pe_callB (call_reprQ hr T.sys) (by rfl) T.n_repr (by decide +kernel) (pa_cons (pv 3) pa_nil)) (pe_callB (call_reprQ hr T.sys) (by rfl) T.n_repr (by decide +kernel) (pa_cons (pe_lst (pa_cons pe_int (pa_cons (pe_op op_pow pe_int pe_int) (pa_cons (pe_op op_pow pe_int pe_int) (pa_cons pe_int pa_nil))))) pa_nil)) (nomark _)) (pe_one (pe_cmpR op_eq (pmethXK M_size_kw hr.r passN (pv 0) (pk_cons pe_int pk_nil)) pe_int (nomark _))))))))), ?_⟩)
  · obtain ⟨p, o, ns, rfl, _⟩ := h
    rfl
  · obtain ⟨p, o, ns, rfl, hz, g, hO, q⟩ := h
    have l8 := g.len
    have sl : sizeLine = 16777216 := sizeLine_eq
    obtain ⟨dx, l, h1, h2⟩ := id hz
    obtain ⟨u1, c1⟩ := co.n
    obtain ⟨u2, c2⟩ := co.s
    obtain ⟨u3, c3⟩ := co.c
    obtain ⟨u4, c4⟩ := co.p
    refine ⟨_, rfl, p, dx, _, rfl, h1, szF_no l (by decide +kernel), p, _, rfl, hz, fun a ha => ?_⟩
    have s1 := same_upd (o := .lst (ns.map V.int)) ha
    have ha1 : (upd H a (.lst (ns.map V.int))) a = some (.lst (ns.map V.int)) := upd_same
    generalize upd H a (.lst (ns.map V.int)) = H1 at *
    refine ⟨_, rfl, o, _, rfl, .inl (SqL.of (s1 _ _ hO)), _, rfl, (by simp only [List.length_map]; omega), (by simp only [List.length_map]; omega), fun B hB => ?_⟩
    refine lc_range (fun i G' => G' B = some (.lst ((ns.take i).map V.int)) ∧ Same H1 G') ⟨upd_same, same_upd hB⟩ ?_ ?_
    · rintro i G' hi ⟨hG', sm⟩
      rw [List.length_map, Int.toNat_natCast] at hi
      rw [Int.zero_add]
      refine ⟨rfl, _, rfl, p, dx, _, rfl, sm _ _ (s1 _ _ h1), szF_no l (by decide +kernel), _, rfl, p, ns, i, ns[i], rfl, (hz.same s1).same sm, List.getElem?_eq_getElem hi, ?_⟩
      refine ⟨_, hG', (by rw [List.length_map, List.length_take]; omega), ?_, fun b o e => ?_⟩
      · rw [upd_same, List.take_add_one, List.getElem?_eq_getElem hi, List.map_append]
        rfl
      · rw [upd_ne (ne_of_none e hB)]
        exact sm _ _ e
    · rintro G ⟨hB2, s2⟩
      rw [List.length_map, Int.toNat_natCast, List.take_length] at hB2
      have s12 := s1.trans s2
      refine ⟨_, rfl, p, dx, _, rfl, s12 _ _ h1, p, ns, rfl, hz.same s12, ?_⟩
      refine ⟨_, rfl, p, dx, _, rfl, s12 _ _ h1, p, ns, rfl, hz.same s12, ns.length, rfl, (by omega), (by show 4 ≤ sizeLine; decide), fun t ht => ?_⟩
      have s3 := s12.trans (same_upd (o := .lst [.ref a, .ref B, .int ((ns.length : Int) - 1), .int (ns.length : Nat)]) ht)
      have hT : (upd G t (.lst [.ref a, .ref B, .int ((ns.length : Int) - 1), .int (ns.length : Nat)])) t = some (.lst [.ref a, .ref B, .int ((ns.length : Int) - 1), .int (ns.length : Nat)]) := upd_same
      have ha3 := same_upd (o := .lst [.ref a, .ref B, .int ((ns.length : Int) - 1), .int (ns.length : Nat)]) ht _ _ (s2 _ _ ha1)
      have hB3 := same_upd (o := .lst [.ref a, .ref B, .int ((ns.length : Int) - 1), .int (ns.length : Nat)]) ht _ _ hB2
      generalize (upd G t (.lst [.ref a, .ref B, .int ((ns.length : Int) - 1), .int (ns.length : Nat)])) = G3 at *
      have tq := st_tq (K := K) g ha3 hB3 hT
      refine ⟨_, rfl, _, _, rfl, tq.dq, tq.sh, Nat.le_trans tq.dp (by decide), Nat.le_trans tq.ln (by decide), ?_⟩
      have eL : (ns.map V.int).length = ns.length := List.length_map ..
      have hO3 := s3 _ _ hO
      refine ⟨_, rfl, _, rfl, _, rfl, o, _, rfl, .inl (SqL.of hO3), _, _, rfl, rfl, _, rfl, o, _, rfl, .inl (SqL.of hO3), (by show 4 ≤ sizeLine; decide), fun u hu => ?_⟩
      rw [eL]
      have s4 := same_upd (o := .lst [.ref o, .ref o, .int ((ns.length : Int) - 1), .int (ns.length : Nat)]) hu
      have tq2 := st_tq (K := K) g (s4 _ _ hO3) (s4 _ _ hO3) (upd_same (H := G3) (a := u) (o := .lst [.ref o, .ref o, .int ((ns.length : Int) - 1), .int (ns.length : Nat)]))
      have s5 := s3.trans s4
      generalize (upd G3 u (.lst [.ref o, .ref o, .int ((ns.length : Int) - 1), .int (ns.length : Nat)])) = G4 at *
      refine ⟨_, _, rfl, tq2.dq, tq2.sh, Nat.le_trans tq2.dp (by decide), Nat.le_trans tq2.ln (by decide), rfl, false, by rw [decide_eq_true rfl]; rfl, iteF ?_⟩
      have tq3 := good_tq (K := K) g (s5 _ _ hO)
      refine ⟨_, rfl, p, dx, _, rfl, s5 _ _ h1, p, ns, rfl, hz.same s5, g, _, rfl, ?_⟩
      have l0 : ("Sizes(" : Str).length = 6 := by decide +kernel
      have l1 : (")" : Str).length = 1 := by decide +kernel
      have ln : (PyData.list (ns.map PyData.int)).shown.length ≤ 400 := tq3.ln
      refine ⟨_, rfl, _, _, rfl, tq3.dq, tq3.sh, Nat.le_trans tq3.dp (by decide), Nat.le_trans tq3.ln (by decide), _, _, rfl, rfl, by rw [l0]; omega, _, _, rfl, rfl, by rw [Str.length_append, l0, l1]; omega, rfl, false, by rw [show shI ns = (PyData.list (ns.map PyData.int)).shown from rfl, decide_eq_true rfl]; rfl, iteF ?_⟩
      refine ⟨_, rfl, p, _, dx, _, _, u1, rfl, s5 _ _ h1, T.cl, c1, szF_no l (by decide +kernel), ?_⟩
      refine ⟨_, rfl, p, _, dx, _, _, u2, rfl, s5 _ _ h1, T.cl, c2, szF_no l (by decide +kernel), ?_⟩
      refine ⟨_, rfl, p, _, dx, _, _, u3, rfl, s5 _ _ h1, T.cl, c3, szF_no l (by decide +kernel), ?_⟩
      refine ⟨_, rfl, p, _, dx, _, _, u4, rfl, s5 _ _ h1, T.cl, c4, szF_no l (by decide +kernel), (by show 4 ≤ sizeLine; decide), fun t2 ht2 => ?_⟩
      have s6 := s5.trans (same_upd (o := .lst [.int 8, .int 1000000000, .int 1000000000000, .int 64]) ht2)
      have tq4 := lim_tq (K := K) (upd_same (H := G4) (a := t2) (o := .lst [.int 8, .int 1000000000, .int 1000000000000, .int 64]))
      refine ⟨_, rfl, _, _, rfl, tq4.dq, tq4.sh, Nat.le_trans tq4.dp (by decide), Nat.le_trans tq4.ln (by decide), _, _, rfl, rfl, ⟨by decide, by decide, by decide⟩, _, _, rfl, rfl, ⟨by decide, by decide, by decide⟩, (by show 4 ≤ sizeLine; decide), fun t3 ht3 => ?_⟩
      have s7 := s6.trans (same_upd (o := .lst [.int 8, .int 1000000000, .int 1000000000000, .int 64]) ht3)
      have tq5 := lim_tq (K := K) (upd_same (H := upd G4 t2 (.lst [.int 8, .int 1000000000, .int 1000000000000, .int 64])) (a := t3) (o := .lst [.int 8, .int 1000000000, .int 1000000000000, .int 64]))
      refine ⟨_, _, rfl, tq5.dq, tq5.sh, Nat.le_trans tq5.dp (by decide), Nat.le_trans tq5.ln (by decide), rfl, true, by rw [decide_eq_true rfl], iteT ?_⟩
      exact ⟨_, rfl, p, dx, _, rfl, s7 _ _ h1, szF_no l (by decide +kernel), rfl, p, ns, 0, 1, rfl, hz.same s7, g.one, rfl, q _ s7⟩
end
end K11

set_option Elab.async false
set_option linter.all false
set_option maxRecDepth 100000
set_option maxHeartbeats 4000000
/-! Own layer: range(a, b) of any whole numbers (walked by one or the other iterator of the machine). -/
namespace Ex
open PySem PySem.Spec PyProof.Rows L2 Gu
theorem turn_long {P : Program} {w : World} {K : PySem.W.Frag} {tg : Expr} (it : Addr) (lo : Int) (n : Nat) :
    Turn P w K tg (Itr lo n) [it] it (fun i h => IsLongIter h it (lo + (i : Nat) * 1) ((n : Int) - (i : Nat)) 1) where
  mem := List.mem_singleton.mpr rfl
  obj := fun i h st b hb => by
    obtain rfl := List.mem_singleton.mp hb
    exact ⟨_, st, fun v z => nomatch (show Data.fields _ = Data.cell v from z)⟩
  keep := fun i h h' st k => k it (List.mem_singleton.mpr rfl) _ st
  item := by
    rintro X rfl rfl rfl hc i pins s σ H E I hf st hg
    obtain ⟨f0, f1, f2, f3, f4, f5⟩ := hf it (List.mem_singleton.mpr rfl)
    refine (Walks.longrange (prog := X.prog) (w := X.w) (I.ok.hd hc) it lo 1 n).item i s _ _ hg st fun v h' tk hv st' kk => ?_
    obtain ⟨t, rfl⟩ := hv
    have J : Inv X pins σ H { s with heap := h', toks := tk } := I.turned (fun b o hb e => kk b o (fun z => hb (List.mem_singleton.mp z)) e) f0 f1 f3 f4 f5
    refine ⟨_, rfl, go_of (s := { s with heap := h', toks := tk }) (n := "longrange_iterator") st' rfl rfl (by decide) ⟨.int (lo + i), H, J, ⟨t, ?_⟩, ⟨rfl, rfl⟩, st', fun b hb => (hf b hb).1⟩⟩
    rw [Int.mul_one]
  done := by
    rintro X rfl rfl rfl hc i pins s σ H E I hf st hg
    obtain ⟨f0, f1, f2, f3, f4, f5⟩ := hf it (List.mem_singleton.mpr rfl)
    have hn : n ≤ i := hg
    exact wpAny_pyNext_long_end (I.ok.hd hc) st (by omega) fun h' eb => ⟨rfl, I.turned (t' := s.toks) (fun b o hb e => eb b o hb e) f0 f1 f3 f4 f5⟩
  self := fun _ _ _ _ _ st h => wpAny_pyIter_longiter st h
section
variable {X : Cx} {tg : Expr}
theorem range_any {pins : List (Addr × Obj)} {σ : L2.St} {H : Hp} {s : Shared} {R : It → Hp → Prop} {E : Value → Shared → Prop} {lo hi : Int} {t u v : Tok} {tk : Nat} (I : Inv X pins σ H s) (q : R (Itr lo (hi - lo).toNat) H) :
    wpAny (model X.prog X.w) X.A (pyIter (.ref s.heap.objs.size)) (PIE X pins σ tg R) E { s with heap := s.heap.push { cls := .type "range", data := .fields #[.int lo t, .int hi u, .int 1 v] }, toks := tk } := by
  have J : Inv X pins σ H { s with heap := s.heap.push { cls := .type "range", data := .fields #[.int lo t, .int hi u, .int 1 v] }, toks := tk } := I.kept fun b o e => Heap.get?_push_of_some _ e
  have e1 : lo + ((0 : Nat) : Int) * 1 = lo := by simp
  have e2 : (((hi - lo).toNat : Nat) : Int) - ((0 : Nat) : Int) = Builtin.Range.rangeSize lo hi 1 := by rw [rangeSize_one]; split <;> omega
  have fr : ∀ b ∈ [(s.heap.push { cls := .type "range", data := .fields #[.int lo t, .int hi u, .int 1 v] }).objs.size], _ := fun b hb => by
    obtain rfl := List.mem_singleton.mp hb
    exact J.fpOk (Nat.le_refl _) (J.hok.fresh (Nat.le_refl _))
  cases hs : Builtin.Range.small lo hi 1 with
  | true =>
    refine wpAny_pyIter_range (IsRange.new ..) hs ⟨_, [_], _, _, H, rfl, J.kept (t' := tk) fun b o e => Heap.get?_push_of_some _ e, turn_range _ lo (hi - lo).toNat, ?_, fr, q⟩
    show IsRangeIter _ _ (lo + ((0 : Nat) : Int) * 1) ((((hi - lo).toNat : Nat) : Int) - ((0 : Nat) : Int)) 1
    rw [e1, e2]
    exact Heap.get?_push_size _ rfl
  | false =>
    refine wpAny_pyIter_longrange (IsRange.new ..) hs ⟨_, [_], _, _, H, rfl, J.kept (t' := tk) fun b o e => Heap.get?_push_of_some _ e, turn_long _ lo (hi - lo).toNat, ?_, fr, q⟩
    show IsLongIter _ _ (lo + ((0 : Nat) : Int) * 1) ((((hi - lo).toNat : Nat) : Int) - ((0 : Nat) : Int)) 1
    rw [e1, e2]
    exact Heap.get?_push_size _ rfl
def iRngA (ta : TA) : TI := fun σ H R => ta σ H fun vs H1 => ∃ i j : Int, vs = [.int i, .int j] ∧ R (Itr i (j - i).toNat) H1
theorem pi_rangeA {a b : Expr} {ta : TA} {p pos : Pos} (hg : Gl X "range") (hm : X.mg "range" = none) (ha : PA X [a, b] ta) (hs : starEach [a, b] X.env = [(false, eval a X.env), (false, eval b X.env)] := by rfl)
    (hs2 : starEach [b] X.env = [(false, eval b X.env)] := by rfl) : PI X tg (.Call (.Name "range" p) [a, b] [] pos) (iRngA ta) := by
  refine ⟨fun pins s σ H R I h => Call_ (ld_blt I hg hm boot_range (PyProof.Rows.callWith_type1 (thn (ha.run pos pins s σ H _ I h) fun us s1 ⟨vs, H1, I1, r1, q1⟩ => ?_) (by rw [hs, hs2]) (by rw [hs2]; rfl)))⟩
  obtain ⟨i, j, rfl, q⟩ := q1
  obtain ⟨u, z, rfl, ⟨t, rfl⟩, ⟨t', rfl⟩⟩ := vals2 r1
  exact call_range_2 (range_any I1 q)
end
end Ex

set_option Elab.async false
set_option linter.all false
set_option maxRecDepth 100000
set_option maxHeartbeats 4000000
set_option pp.maxSteps 900
namespace K11
open PySem PySem.Spec PyProof.Rows L2 Gu Ex
/-- a value that doubling refuses -/
def Off (K : PySem.W.Frag) (H : Hp) (v : V) : Prop := ∃ d, Any H v ∧ Tq K H v d 4 100 ∧ ∀ n : Nat, v = .int n → 1 ≤ n → n ≤ 8 → False
def opts (a1 a2 a3 a4 a5 : Addr) : List V := [.int 0, .int (-1), .int 9, .int (10 ^ (30 : Int).toNat), .non, .bl true, .bl false, .str "3", .str "", .ref a1, .ref a2, .ref a3, .ref a4, .ref a5]
theorem opts_off {K : PySem.W.Frag} {H : Hp} {a1 a2 a3 a4 a5 : Addr} (h1 : H a1 = some (.lst [])) (h2 : H a2 = some (.tup [])) (h3 : H a3 = some (.dK [])) (h4 : H a4 = some (.lst [.int 3])) (h5 : H a5 = some (.tup [.int 3])) : ∀ v ∈ opts a1 a2 a3 a4 a5, Off K H v := by
  intro v hv
  have t3 : TqAll K H [.int 3] [.int 3] 0 41 := tqa_cons (tq_int (by decide) (by decide)) tqa_nil
  have t0 : TqAll K H [] [] 0 41 := tqa_nil
  simp only [opts, List.mem_cons, List.not_mem_nil, or_false] at hv
  rcases hv with rfl | rfl | rfl | rfl | rfl | rfl | rfl | rfl | rfl | rfl | rfl | rfl | rfl | rfl
  · exact ⟨_, .int _, (tq_int (by decide) (by decide)).mono (by decide) (by decide), fun n e a b => by have := V.int.inj e; omega⟩
  · exact ⟨_, .int _, (tq_int (by decide) (by decide)).mono (by decide) (by decide), fun n e a b => by cases e⟩
  · exact ⟨_, .int _, (tq_int (by decide) (by decide)).mono (by decide) (by decide), fun n e a b => by have := V.int.inj e; omega⟩
  · exact ⟨_, .int _, (tq_int (by decide) (by decide)).mono (by decide) (by decide), fun n e a b => by
      have := V.int.inj e
      have z : (10 : Int) ^ (30 : Int).toNat = 1000000000000000000000000000000 := by decide
      omega⟩
  · exact ⟨_, .non, tq_non.mono (by decide) (by decide), fun n e _ _ => by cases e⟩
  · exact ⟨_, .bl _, (tq_bl _).mono (by decide) (by decide), fun n e _ _ => by cases e⟩
  · exact ⟨_, .bl _, (tq_bl _).mono (by decide) (by decide), fun n e _ _ => by cases e⟩
  · exact ⟨_, .str _ (by decide +kernel), (tq_text "3" (by decide +kernel)).mono (by decide) (by decide), fun n e _ _ => by cases e⟩
  · exact ⟨_, .str _ (by decide +kernel), (tq_text "" (by decide +kernel)).mono (by decide) (by decide), fun n e _ _ => by cases e⟩
  · exact ⟨_, .lst h1, (t0.lst h1).mono (by decide) (by decide), fun n e _ _ => by cases e⟩
  · exact ⟨_, .tup h2, (t0.tup h2).mono (by decide) (by decide), fun n e _ _ => by cases e⟩
  · exact ⟨_, .dct h3, (tq_dct h3).mono (by decide) (by decide), fun n e _ _ => by cases e⟩
  · exact ⟨_, .lst h4, (t3.lst h4).mono (by decide) (by decide), fun n e _ _ => by cases e⟩
  · exact ⟨_, .tup h5, (t3.tup h5).mono (by decide) (by decide), fun n e _ _ => by cases e⟩
theorem cut_to (xs : List V) (i : Nat) : cutV xs none (some (i : Int)) = xs.take i := by
  unfold cutV
  rw [HT.sIx_none, HT.sIx_nat, List.drop_zero, Nat.sub_zero]
  by_cases h : i ≤ xs.length
  · rw [Nat.min_eq_left h]
  · rw [Nat.min_eq_right (by omega), List.take_of_length_le (by omega), List.take_of_length_le (by omega)]
theorem slL_to {K : PySem.W.Frag} {H : Hp} {a : Addr} {xs : List V} {i : Nat} {z : Int} {Q : VK} (e : z = (i : Int)) (h : H a = some (.lst xs)) (q : ∀ p, H p = none → Q (.ref p) (upd H p (.lst (xs.take i)))) : rSlL K (.ref a) none (some z) H Q := by
  subst e
  refine ⟨a, xs, rfl, SqL.of h, fun p hp => ?_⟩
  rw [cut_to]
  exact q p hp
theorem pows_take {k n : Nat} (h : n ≤ k) : (pows k).take n = pows n := by
  unfold pows
  rw [← List.map_take, List.take_range, Nat.min_eq_left h]
theorem Stp.same {r : Addr} {H H1 H2 : Hp} (a : Stp r H H1) (s : Same H1 H2) : Stp r H H2 := by
  obtain ⟨⟨x, y, e, z⟩, k⟩ := a
  exact ⟨⟨x, y, s _ _ e, z⟩, fun b u n e2 => s _ _ (k b u n e2)⟩
def dueL : List V := [.int (2 ^ (0 : Int).toNat), .int (2 ^ (1 : Int).toNat), .int (2 ^ (2 : Int).toNat), .int (2 ^ (3 : Int).toNat), .int (2 ^ (4 : Int).toNat), .int (2 ^ (5 : Int).toNat), .int (2 ^ (6 : Int).toNat), .int (2 ^ (7 : Int).toNat)]
theorem due_eq : dueL = (pows 8).map V.int := by decide +kernel
section
variable {P : Program} {w : World} {K : PySem.W.Frag} {mg : Str → Option Value} {base : Heap} {f : Addr} {fd : FuncData}
def spLcr : Sp := fun vs H Q _ => ∃ r : Addr, vs = [.ref r] ∧ Rng H r ∧ ∀ H', Stp r H H' → Q (.bl true) H'
theorem sc__law_counts_right : FnScope ["_law_rng_here", "_law_value", "_law_due", "_law_many"] ["_law_rng_here"] (defScope (top 25)) := ⟨rfl, rfl, rfl, by decide +kernel, rfl, by decide +kernel, by decide +kernel⟩
theorem ok_lcr (T : Tx K mg) (D__law_choice : Df P w K mg base 2 "_law_choice" ["_law_rng_here", "_law_options"] spChoice) (D__law_counted : DfG P w K mg base 9 "_law_counted" ["_law_value"] (spLcounted K)) (C_dbl_kw : CmK P w K mg base (L2.CX P w) 7 "Sizes" "doubling" ["cls", "count"] ["count"] [0] (spDbl K))
    (M_len : Mf P w K mg base 1 "Sizes" "__len__" ["self"] (spLen K)) (F : FnP K "_law_counts_right" "_law_counts_right" (top 25) f fd) : FnG P w K mg base CX0 11 f fd ["_law_rng_here"] spLcr := by
  refine okG F sc__law_counts_right (fun vs H Q E h => ?_) (fun cdv A outer s H vs Q E hr h => ⟨_, PSs.nox (pss_cons (ps_set (i := 1) sc__law_counts_right.nd rfl (by first | exact Or.inl rfl | exact Or.inr rfl) (pcall D__law_choice hr.r (pa_cons (pv 0) (pa_cons (pe_lst (pa_cons pe_int (pa_cons (pe_un un_neg pe_int) (pa_cons pe_int (pa_cons (pe_op op_pow pe_int pe_int) (pa_cons pe_non (pa_cons pe_bl (pa_cons pe_bl (pa_cons pe_str (pa_cons pe_str (pa_cons (pe_lst pa_nil) (pa_cons (pe_tup pa_nil) (pa_cons pe_dnewK (pa_cons (pe_lst (pa_cons pe_int pa_nil)) (pa_cons (pe_tup (pa_cons pe_int pa_nil)) pa_nil))))))))))))))) pa_nil)))) (pss_cons (ps_set (i := 2) sc__law_counts_right.nd rfl (by first | exact Or.inl rfl | exact Or.inr rfl) (pe_lst (pa_cons (pe_op op_pow pe_int pe_int) (pa_cons (pe_op op_pow pe_int pe_int) (pa_cons (pe_op op_pow pe_int pe_int) (pa_cons (pe_op op_pow pe_int pe_int) (pa_cons (pe_op op_pow pe_int pe_int) (pa_cons (pe_op op_pow pe_int pe_int) (pa_cons (pe_op op_pow pe_int pe_int) (pa_cons (pe_op op_pow pe_int pe_int) pa_nil)))))))))) (pss_cons (ps_for PassesOwn.never rfl (pi_rangeA rfl T.n_range (pa_cons pe_int (pa_cons pe_int pa_nil))) (pg_name (i := 3) sc__law_counts_right.nd rfl (by first | exact Or.inl rfl | exact Or.inr rfl)) (pss_one (ps_if (pt_cmpR op_ne (pcallG D__law_counted hr (pa_cons (pv 3) pa_nil)) (pe_callB (call_reprQ hr T.sys) (by rfl) T.n_repr (by decide +kernel) (pa_cons (pe_lst (pa_cons pe_str (pa_cons (pe_slice sl_list (pv 2) po_none (po_some (pv 3))) pa_nil))) pa_nil)) (nomark _)) (pss_one (ps_ret pe_bl)) pss_nil))) (pss_one (ps_ret (pe_and (pe_cmpR op_eq (pcallG D__law_counted hr (pa_cons (pv 1) pa_nil)) (pe_callB (call_reprQ hr T.sys) (by rfl) T.n_repr (by decide +kernel) (pa_cons (pe_lst (pa_cons pe_str (pa_cons (pv 1) (pa_cons pe_bl pa_nil)))) pa_nil)) (nomark _)) (pe_one (pe_cmpR op_eq (pe_callB (call_lenO M_len hr.r) (by rfl) T.n_len (by decide +kernel) (pa_cons (pcmK C_dbl_kw hr.r passN (pe_glob (v := .ref _) rfl T.g_Sizes rfl) (pk_cons pe_int pk_nil)) pa_nil)) pe_int (nomark _))))))))), ?_⟩)
  · obtain ⟨r, rfl, _⟩ := h
    rfl
  · obtain ⟨r, rfl, hR, q⟩ := h
    have sl : sizeLine = 16777216 := sizeLine_eq
    refine ⟨_, rfl, _, rfl, _, _, rfl, rfl, ⟨by decide, by decide, by decide⟩, (by show 0 ≤ sizeLine; decide), fun a1 ha1 => ⟨(by show 0 ≤ sizeLine; decide), fun a2 ha2 => fun a3 ha3 => ⟨(by show 1 ≤ sizeLine; decide), fun a4 ha4 => ⟨(by show 1 ≤ sizeLine; decide), fun a5 ha5 => ⟨(by show 14 ≤ sizeLine; decide), fun L hL => ?_⟩⟩⟩⟩⟩
    have s1 := (Stp.refl hR).new (o := .lst []) ha1
    have s2 := s1.new (o := .tup []) ha2
    have s3 := s2.new (o := .dK []) ha3
    have s4 := s3.new (o := .lst [.int 3]) ha4
    have s5 := s4.new (o := .tup [.int 3]) ha5
    have s6 := s5.new (o := .lst (opts a1 a2 a3 a4 a5)) hL
    have e5 := same_upd (o := .lst (opts a1 a2 a3 a4 a5)) hL
    have e4 := (same_upd (o := .tup [.int 3]) ha5).trans e5
    have e3 := (same_upd (o := .lst [.int 3]) ha4).trans e4
    have e2 := (same_upd (o := .dK []) ha3).trans e3
    have e1 := (same_upd (o := .tup []) ha2).trans e2
    have f1 := e1 a1 _ upd_same
    have f2 := e2 a2 _ upd_same
    have f3 := e3 a3 _ upd_same
    have f4 := e4 a4 _ upd_same
    have f5 := e5 a5 _ upd_same
    refine ⟨r, L, opts a1 a2 a3 a4 a5, rfl, s6.1, upd_same, (s5.1.ne hL).symm, (by show 1 ≤ 14; decide), (by show 14 ≤ 1000; decide), fun v G hv t => ?_⟩
    have off := opts_off (K := K) (t.2 _ _ (hR.ne ha1).symm f1) (t.2 _ _ (s1.1.ne ha2).symm f2) (t.2 _ _ (s2.1.ne ha3).symm f3) (t.2 _ _ (s3.1.ne ha4).symm f4) (t.2 _ _ (s4.1.ne ha5).symm f5) v hv
    have sG := s6.trans t
    clear e1 e2 e3 e4 e5 f1 f2 f3 f4 f5 s1 s2 s3 s4 s5 s6 t hv
    obtain ⟨d, hv, td, off⟩ := off
    refine ⟨_, _, rfl, rfl, ⟨by decide, by decide, by decide⟩, _, _, rfl, rfl, ⟨by decide, by decide, by decide⟩, _, _, rfl, rfl, ⟨by decide, by decide, by decide⟩, _, _, rfl, rfl, ⟨by decide, by decide, by decide⟩, _, _, rfl, rfl, ⟨by decide, by decide, by decide⟩, _, _, rfl, rfl, ⟨by decide, by decide, by decide⟩, _, _, rfl, rfl, ⟨by decide, by decide, by decide⟩, _, _, rfl, rfl, ⟨by decide, by decide, by decide⟩, (by show 8 ≤ sizeLine; decide), fun D hD => ?_⟩
    have sD := same_upd (o := .lst dueL) hD
    have hD1 : (upd G D (.lst dueL)) D = some (.lst ((pows 8).map V.int)) := by rw [← due_eq]; exact upd_same
    have rD : r ≠ D := sG.1.ne hD
    refine ⟨1, 9, rfl, ?_⟩
    refine for_it (walk_range (lo := 1) (n := 8)) (fun i σ G' => (∃ x : Option V, σ = [some (.ref r), some v, some (.ref D), x]) ∧ Same G G' ∧ G' D = some (.lst ((pows 8).map V.int))) ⟨⟨none, rfl⟩, sD, hD1⟩ (fun _ _ _ _ _ => trivial) ?_ ?_
    · rintro i z σ G0 G' hi ⟨⟨x, rfl⟩, sm, hD2⟩ ⟨rfl, rfl⟩
      refine ⟨_, rfl, .int (1 + (i : Int)), .int (1 + (i : Int)), rfl, .int _, (tq_int (by omega) (by omega)).mono (by decide) (by decide), fun n e n1 n8 H3 s3 => ?_, fun no => (no (1 + i) (congrArg V.int (show (1 + (i : Int)) = ((1 + i : Nat) : Int) by omega)) (by omega) (by omega)).elim⟩
      refine ⟨_, rfl, _, rfl, _, rfl, slL_to (i := n) (V.int.inj e) (s3 _ _ hD2) fun a ha => ?_⟩
      rw [← List.map_take, pows_take n8]
      refine ⟨(by show 2 ≤ sizeLine; decide), fun t ht => ?_⟩
      have s4 := (s3.trans (same_upd (o := .lst ((pows n).map V.int)) ha)).trans (same_upd (o := .lst [.str "made", .ref a]) ht)
      have ha3 : (upd (upd H3 a (.lst ((pows n).map V.int))) t (.lst [.str "made", .ref a])) a = some (.lst ((pows n).map V.int)) := by rw [upd_ne (ne_of_none upd_same ht)]; exact upd_same
      have tq := ok_tq (K := K) "made" (by decide +kernel) (pows_good n1 n8) ha3 upd_same
      exact ⟨_, _, rfl, tq.dq, tq.sh, Nat.le_trans tq.dp (by decide), Nat.le_trans tq.ln (by decide), rfl, false, by rw [show okD (Str.ofString "made") (pows n) = okD "made" (pows n) from rfl, decide_eq_true rfl]; rfl, iteF ⟨⟨_, rfl⟩, sm.trans s4, s4 _ _ hD2⟩⟩
    · rintro σ G' ⟨⟨x, rfl⟩, sm, hD2⟩
      refine ⟨_, rfl, v, d, rfl, hv.same sm, td.same sm, fun n e n1 n8 => (off n e n1 n8).elim, fun no H3 s3 => ?_⟩
      refine ⟨_, rfl, (by show 3 ≤ sizeLine; decide), fun t ht => ?_⟩
      have s4 := s3.trans (same_upd (o := .lst [.str "count", v, .bl true]) ht)
      have tq := no_tq (K := K) "count" (by decide +kernel) (by decide) ((td.same sm).same s4) (upd_same (H := H3) (a := t) (o := .lst [.str (Str.ofString "count"), v, .bl true]))
      refine ⟨_, _, rfl, tq.dq, tq.sh, Nat.le_trans tq.dp (by decide), Nat.le_trans tq.ln (by decide), rfl, true, by rw [show noD (Str.ofString "count") d = noD "count" d from rfl, decide_eq_true rfl], iteT ?_⟩
      have s4' := s4
      refine ⟨rfl, rfl, .int (3 : Nat), rfl, .int _, fun n e n1 n8 p H5 s5 hz => ?_, fun no => (no 3 rfl (by decide) (by decide)).elim⟩
      obtain ⟨dx, l, k1, k2⟩ := id hz
      refine ⟨p, dx, _, rfl, k1, p, _, rfl, hz, (pows n).length, rfl, by rw [pows_len]; omega, rfl, ?_⟩
      have e3 : n = 3 := by have := V.int.inj e; omega
      subst e3
      show Q (.bl (decide (V.int (((pows 3).length : Nat) : Int) = V.int 3))) H5
      rw [pows_len, decide_eq_true (show V.int ((3 : Nat) : Int) = V.int 3 from rfl)]
      exact q H5 (sG.same ((sm.trans s4).trans s5))
end
end K11

set_option Elab.async false
set_option linter.all false
set_option maxRecDepth 100000
set_option maxHeartbeats 4000000
/-! Mathematics of k11: the text written from sizes is read as them. -/
namespace K11
open PySem PySem.Spec PyProof.Rows L2 Gu Ex
abbrev num (z : Int) : Str := Str.ofString (toString z)
theorem num_cs (n : Nat) : cs (num (n : Int)) = TL.numL n := TL.tl_num n
theorem num_head : ∀ (n : Nat), 1 ≤ n → ∃ c r, TL.numL n = c :: r ∧ c ≠ 48 := by
  intro n
  induction n using Nat.strongRecOn with
  | _ n ih =>
    intro h
    by_cases h10 : n < 10
    · exact ⟨48 + n, [], TL.numL_lt h10, by omega⟩
    · obtain ⟨c, r, e, hc⟩ := ih (n / 10) (by omega) (by omega)
      exact ⟨c, r ++ [48 + n % 10], by rw [TL.numL_step (by omega), e]; rfl, hc⟩
theorem num_isW {n : Nat} (h : 1 ≤ n) : isW (num (n : Int)) = true := by
  unfold isW
  rw [num_cs]
  obtain ⟨c, r, e, hc⟩ := num_head n h
  have ad := TL.numL_digits n
  rw [e] at ad ⊢
  show (decide (c ≠ 48) && allD (c :: r)) = true
  rw [decide_eq_true hc, allD_iff.mpr ad]
  rfl
theorem num_len {n : Nat} (h : n < 10 ^ 10) : (num (n : Int)).length ≤ 10 := by
  rw [len_cs, num_cs]
  exact TL.numL_len (by decide) h
theorem num_rd {n : Nat} (h : n < 10 ^ 10) : rd (num (n : Int)) = (n : Int) := by
  unfold rd
  rw [show intText? (num (n : Int)) = some (n : Int) from TL.int_num (Nat.le_trans (TL.numL_len (k := 10) (by decide) h) (by decide))]
  rfl
/-- the text of these numbers -/
def wrt (ns : List Int) : Str := Txt.join " " (ns.map num)
def Ok10 (ns : List Int) : Prop := ∀ z ∈ ns, 1 ≤ z ∧ z < 10 ^ 10
theorem Ok10.nat {ns : List Int} (h : Ok10 ns) {z : Int} (hz : z ∈ ns) : ∃ n : Nat, z = (n : Int) ∧ 1 ≤ n ∧ n < 10 ^ 10 := by
  have := h z hz
  have e : (10 : Int) ^ 10 = 10000000000 := by decide
  have e2 : (10 : Nat) ^ 10 = 10000000000 := by decide
  exact ⟨z.toNat, by omega, by omega, by omega⟩
theorem wds_wrt {ns : List Int} (h : Ok10 ns) (hn : ns ≠ []) : wds (wrt ns) = ns.map num := by
  have hy : TL.tl (" " : Str) = 32 :: [] := by decide +kernel
  refine TL.split_join hy (by decide +kernel) (fun e => hn (List.map_eq_nil_iff.mp e)) fun p hp => ?_
  obtain ⟨z, hz, rfl⟩ := List.mem_map.mp hp
  obtain ⟨n, rfl, _, _⟩ := h.nat hz
  rw [show TL.tl (num (n : Int)) = TL.numL n from TL.tl_num n]
  exact TL.numL_free (.inl (by decide))
theorem wrt_read {ns : List Int} (h : Ok10 ns) (g : Good ns) : RdS (wrt ns) ns := by
  have l1 := g.len.1
  have hn : ns ≠ [] := fun e => by rw [e] at l1; cases l1
  refine ⟨fun w hw => ?_, ?_, g⟩
  · rw [wds_wrt h hn] at hw
    obtain ⟨z, hz, rfl⟩ := List.mem_map.mp hw
    obtain ⟨n, rfl, n1, _⟩ := h.nat hz
    exact num_isW n1
  · rw [wds_wrt h hn, List.map_map]
    symm
    conv => rhs; rw [← List.map_id ns]
    refine List.map_congr_left fun z hz => ?_
    obtain ⟨n, rfl, _, n2⟩ := h.nat hz
    exact num_rd n2
theorem good_ok10 {ns : List Int} (g : Good ns) : Ok10 ns := fun z hz => by
  obtain ⟨i, hi⟩ := List.getElem?_of_mem hz
  have := g.rng i z hi
  have e : (10 : Int) ^ 10 = 10000000000 := by decide
  omega
theorem joinL_ch : ∀ (ps : List (List Nat)), (∀ p ∈ ps, ∀ c ∈ p, c < 1114112) → ∀ c ∈ TL.joinL [32] ps, c < 1114112
  | [], _, c, hc => absurd hc List.not_mem_nil
  | [p], h, c, hc => h p (List.mem_singleton.mpr rfl) c hc
  | p :: q :: r, h, c, hc => by
    have hc : c ∈ p ++ ([32] ++ TL.joinL [32] (q :: r)) := hc
    rcases List.mem_append.mp hc with z | z
    · exact h p List.mem_cons_self c z
    · rcases List.mem_append.mp z with y | y
      · rw [List.mem_singleton.mp y]
        decide
      · exact joinL_ch (q :: r) (fun p hp => h p (List.mem_cons_of_mem _ hp)) c y
theorem joinL_len : ∀ (ps : List (List Nat)), (∀ p ∈ ps, p.length ≤ 10) → (TL.joinL [32] ps).length ≤ 11 * ps.length
  | [], _ => Nat.le_refl _
  | [p], h => by
    have := h p (List.mem_singleton.mpr rfl)
    show p.length ≤ 11
    omega
  | p :: q :: r, h => by
    have e : TL.joinL [32] (p :: q :: r) = p ++ ([32] ++ TL.joinL [32] (q :: r)) := rfl
    have := h p List.mem_cons_self
    have := joinL_len (q :: r) fun p hp => h p (List.mem_cons_of_mem _ hp)
    rw [e, List.length_append, List.length_append, List.length_cons (as := q :: r)]
    show p.length + (1 + _) ≤ _
    omega
theorem wrt_cs (ns : List Int) : cs (wrt ns) = TL.joinL [32] ((ns.map num).map TL.tl) := by
  have hy : TL.tl (" " : Str) = [32] := by decide +kernel
  unfold wrt
  rw [TL.join_eq]
  show TL.tl _ = _
  rw [TL.tl_join, hy]
theorem wrt_ch {ns : List Int} (h : Ok10 ns) : ∀ c ∈ cs (wrt ns), c < 1114112 := by
  rw [wrt_cs]
  refine joinL_ch _ fun p hp => ?_
  obtain ⟨x, hx, rfl⟩ := List.mem_map.mp hp
  obtain ⟨z, hz, rfl⟩ := List.mem_map.mp hx
  obtain ⟨n, rfl, _, _⟩ := h.nat hz
  rw [show TL.tl (num (n : Int)) = TL.numL n from TL.tl_num n]
  intro c hc
  have := TL.numL_digits n c hc
  omega
theorem wrt_len {ns : List Int} (h : Ok10 ns) : (wrt ns).length ≤ 11 * ns.length := by
  rw [len_cs, wrt_cs]
  refine Nat.le_trans (joinL_len _ fun p hp => ?_) (by rw [List.length_map, List.length_map]; exact Nat.le_refl _)
  obtain ⟨x, hx, rfl⟩ := List.mem_map.mp hp
  obtain ⟨z, hz, rfl⟩ := List.mem_map.mp hx
  obtain ⟨n, rfl, _, n2⟩ := h.nat hz
  rw [show TL.tl (num (n : Int)) = TL.numL n from TL.tl_num n]
  exact TL.numL_len (by decide) n2
/-- what the join asks -/
theorem wrt_fits {ns : List Int} (h : Ok10 ns) (hl : ns.length ≤ 9) : ((ns.map num).map (·.length)).sum + (ns.map num).length * (" " : Str).length ≤ 16777216 := by
  have l1 : (" " : Str).length = 1 := by decide +kernel
  have key : ∀ (zs : List Int), Ok10 zs → ((zs.map num).map (·.length)).sum ≤ 10 * zs.length := by
    intro zs
    induction zs with
    | nil => exact fun _ => Nat.le_refl _
    | cons z zs ih =>
      intro h
      obtain ⟨n, rfl, _, n2⟩ := h.nat List.mem_cons_self
      have a := num_len n2
      have b := ih fun z hz => h z (List.mem_cons_of_mem _ hz)
      simp only [List.map_cons, List.sum_cons, List.length_cons] at b ⊢
      omega
  have := key ns h
  rw [l1, List.length_map]
  omega
end K11

set_option Elab.async false
set_option linter.all false
set_option maxRecDepth 100000
set_option maxHeartbeats 4000000
set_option pp.maxSteps 900
namespace K11
open PySem PySem.Spec PyProof.Rows L2 Gu Ex
theorem made_ok {K : PySem.W.Frag} {H : Hp} {l x dx : Addr} {ns : List Int} {R : VK} {E : XK} (g : Good ns) (hl : H l = some (.lst (ns.map V.int))) (hx : H x = none) (hdx : H dx = none) (ne : dx ≠ x) (q : ∀ H', Same H H' → SzI K H' x ns → R .non H') :
    spMade K [.ref x, .ref l] (upd (upd H dx (.own x)) x (.ins (cS K) dx [])) R E := by
  have l8 := g.len
  have smA : Same H (upd (upd H dx (.own x)) x (.ins (cS K) dx [])) := (same_upd hdx).trans (same_upd (by rw [upd_ne (Ne.symm ne)]; exact hx))
  refine ⟨x, dx, .ref l, some (ns.map V.int), rfl, upd_same, .list (smA _ _ hl) (by rw [List.length_map]; omega) (fun v hv => by obtain ⟨i, _, rfl⟩ := List.mem_map.mp hv; exact .int i), fun xs ho hw l2 hl2 => ?_, fun s p hj => ?_⟩
  · cases ho
    have lx : l2 ≠ x := fun z => by
      rw [z, upd_same] at hl2
      cases hl2
    refine q _ (fun b o e => ?_) ⟨dx, l2, upd_same, by rw [upd_ne lx]; exact upd_same⟩
    have e' := smA b o e
    rw [upd_ne (ne_of_none e hx), upd_ne (ne_of_none e' hl2)]
    exact e'
  · rw [show judge (some (ns.map V.int)) = wrong (ns.map V.int) from rfl, good_wrong g] at hj
    cases hj
section
variable {P : Program} {w : World} {K : PySem.W.Frag} {mg : Str → Option Value} {base : Heap} {f : Addr} {fd : FuncData}
theorem log_ok {z : Int} (h1 : 1 ≤ z) (h2 : z < 10 ^ 10) : z.natAbs.log2 < 1920 := by
  have e : (10 : Int) ^ 10 = 10000000000 := by decide
  have e2 : (2 : Nat) ^ 34 = 17179869184 := by decide
  exact Nat.lt_of_lt_of_le (PySem.Flt.log2_lt_of (k := 34) (by decide) (by omega)) (by decide)
theorem str_step {H G : Hp} {D : Addr} {zs : List Int} {i : Nat} {z : Int} (hz : zs[i]? = some z) (hl : i ≤ 1000) (hD : H D = none) (sm : Same H G) (hG : G D = some (.lst (((zs.take i).map num).map V.str))) :
    ∃ acc, G D = some (.lst acc) ∧ acc.length < sizeLine ∧ Same H (upd G D (.lst (acc ++ [.str (num z)]))) ∧ upd G D (.lst (acc ++ [.str (num z)])) D = some (.lst (((zs.take (i + 1)).map num).map V.str)) := by
  have sl : sizeLine = 16777216 := sizeLine_eq
  refine ⟨_, hG, by rw [List.length_map, List.length_map, List.length_take]; omega, fun b o e => ?_, ?_⟩
  · rw [upd_ne (ne_of_none e hD)]
    exact sm b o e
  · rw [upd_same, List.take_add_one, hz, List.map_append, List.map_append]
    rfl
theorem ok10_more {ns : List Int} {x : Int} (g : Good ns) (hx : ns[ns.length - 1]? = some x) : Ok10 (ns ++ [x * 2]) := fun z hz => by
  have := g.rng _ _ hx
  have e : (10 : Int) ^ 10 = 10000000000 := by decide
  rcases List.mem_append.mp hz with y | y
  · exact good_ok10 g z y
  · rw [List.mem_singleton.mp y]
    omega
def oths (a1 a2 a3 a4 o a5 : Addr) : List V := [.non, .int 1, .bl true, .ref a1, .ref a2, .ref a3, .ref a4, .ref o, .ref a5]
theorem oths_ok {H : Hp} {a1 a2 a3 a4 o a5 : Addr} {x2 xo x5 : List V} (h1 : H a1 = some (.lst [])) (h2 : H a2 = some (.lst x2)) (h3 : H a3 = some (.tup [])) (h4 : H a4 = some (.dK [])) (ho : H o = some (.lst xo)) (h5 : H a5 = some (.tup x5)) : ∀ v ∈ oths a1 a2 a3 a4 o a5, Any H v ∧ isS v = false := by
  intro v hv
  simp only [oths, List.mem_cons, List.not_mem_nil, or_false] at hv
  rcases hv with rfl | rfl | rfl | rfl | rfl | rfl | rfl | rfl | rfl
  · exact ⟨.non, rfl⟩
  · exact ⟨.int _, rfl⟩
  · exact ⟨.bl _, rfl⟩
  · exact ⟨.lst h1, rfl⟩
  · exact ⟨.lst h2, rfl⟩
  · exact ⟨.tup h3, rfl⟩
  · exact ⟨.dct h4, rfl⟩
  · exact ⟨.lst ho, rfl⟩
  · exact ⟨.tup h5, rfl⟩
/-- a text the law may try -/
def Tx5 (x : Str) : Prop := x.length ≤ 500 ∧ Ch x
def spLtexts : Sp := fun vs H Q _ => ∃ (r o : Addr) (ns : List Int), vs = [.ref r, .ref o] ∧ Rng H r ∧ Good ns ∧ H o = some (.lst (ns.map V.int)) ∧ o ≠ r ∧ ∀ H', Stp r H H' → Q (.bl true) H'
theorem sc__law_texts_right : FnScope ["_law_rng_here", "_law_own", "_law_written", "_law_pile", "_law_turn", "_law_value", "_law_other", "_law_bent_here", "_law_due", "_law_size"] ["_law_rng_here", "_law_own"] (defScope (top 24)) := ⟨rfl, rfl, rfl, by decide +kernel, rfl, by decide +kernel, by decide +kernel⟩
theorem ok_ltexts (T : Tx K mg) (D__law_draw : Df P w K mg base 1 "_law_draw" ["_law_rng_here", "_law_many"] spDraw) (D__law_choice : Df P w K mg base 2 "_law_choice" ["_law_rng_here", "_law_options"] spChoice) (D__law_bent : Df P w K mg base 3 "_law_bent" ["_law_rng_here", "_law_written"] spLbent)
    (D__law_read : Df P w K mg base 1 "_law_read" ["_law_written"] spLread) (D__law_told : DfG P w K mg base 9 "_law_told" ["_law_value"] spLtold) (C_from_kw : CmK P w K mg base (L2.CX P w) 7 "Sizes" "from_text" ["cls", "text"] ["text"] [0] (spFrom K))
    (K_Sizes : KfX P w K mg base (L2N.CX P w) 5 "Sizes" ["self", "values"] (spMade K)) (DE : EqOf P w K mg base 1 "Sizes" (spSEq K)) (F : FnP K "_law_texts_right" "_law_texts_right" (top 24) f fd) :
    FnG P w K mg base CX0 11 f fd ["_law_rng_here", "_law_own"] spLtexts := by
  refine okG F sc__law_texts_right (fun vs H Q E h => ?_) (fun cdv A outer s H vs Q E hr h => ⟨_, PSs.nox (pss_cons (ps_set (i := 2) sc__law_texts_right.nd rfl (by first | exact Or.inl rfl | exact Or.inr rfl) (pe_join pe_str (pe_lc (own := [("_law_size", 9)]) (g := gName 9) rfl sc__law_texts_right.nd (pi_list (pv 1)) (blkOk_by (own := [("_law_size", 9)]) (N := ["_law_rng_here", "_law_own", "_law_written", "_law_pile", "_law_turn", "_law_value", "_law_other", "_law_bent_here", "_law_due", "_law_size"]) (sc := defScope (top 24)) (by decide +kernel)) (fun _ _ _ _ _ => pg_name (i := 9) sc__law_texts_right.nd rfl (Or.inl rfl)) (fun _ _ _ _ _ => pts_nil) (fun _ _ _ _ _ => (pe_callTy call_str_int (by rfl) T.n_str (by decide +kernel) (pa_cons (pv 9) pa_nil)))))) (pss_cons (ps_set (i := 3) sc__law_texts_right.nd rfl (by first | exact Or.inl rfl | exact Or.inr rfl) (pe_lst (pa_cons (pv 2) (pa_cons (pe_join pe_str (pe_lc (own := [("_law_size", 9)]) (g := gName 9) rfl sc__law_texts_right.nd (pi_list (pe_op op_cat (pv 1) (pe_lst (pa_cons (pe_op op_mul (pe_ix ix_list (pv 1) (pe_un un_neg pe_int) (fun _ _ => rfl)) pe_int) pa_nil)))) (blkOk_by (own := [("_law_size", 9)]) (N := ["_law_rng_here", "_law_own", "_law_written", "_law_pile", "_law_turn", "_law_value", "_law_other", "_law_bent_here", "_law_due", "_law_size"]) (sc := defScope (top 24)) (by decide +kernel)) (fun _ _ _ _ _ => pg_name (i := 9) sc__law_texts_right.nd rfl (Or.inl rfl)) (fun _ _ _ _ _ => pts_nil) (fun _ _ _ _ _ => (pe_callTy call_str_int (by rfl) T.n_str (by decide +kernel) (pa_cons (pv 9) pa_nil))))) pa_nil)))) (pss_cons (ps_for PassesOwn.never rfl (pi_range1 rfl T.n_range (pa_cons pe_int pa_nil)) (pg_name (i := 4) sc__law_texts_right.nd rfl (by first | exact Or.inl rfl | exact Or.inr rfl)) (pss_cons (ps_set (i := 7) sc__law_texts_right.nd rfl (by first | exact Or.inl rfl | exact Or.inr rfl) (pcall D__law_bent hr.r (pa_cons (pv 0) (pa_cons (pv 2) pa_nil)))) (pss_one (ps_expr (pe_bm PySem.F.plainAttrs_list PySem.F.slot_list_append PySem.F.type_list_append mt_append (pv 3) (pa_cons (pe_ifExp (pt_cmpR op_eq (pcall D__law_draw hr.r (pa_cons (pv 0) (pa_cons pe_int pa_nil))) pe_int (nomark _)) (pcall D__law_bent hr.r (pa_cons (pv 0) (pa_cons (pv 7) pa_nil))) (pv 7)) pa_nil)))))) (pss_cons (ps_for PassesOwn.never rfl (pi_list (pv 3)) (pg_name (i := 5) sc__law_texts_right.nd rfl (by first | exact Or.inl rfl | exact Or.inr rfl)) (pss_cons (ps_set (i := 8) sc__law_texts_right.nd rfl (by first | exact Or.inl rfl | exact Or.inr rfl) (pcall D__law_read hr.r (pa_cons (pv 5) pa_nil))) (pss_one (ps_if (pt_cmpR op_ne (pcallG D__law_told hr (pa_cons (pv 5) pa_nil)) (pe_callB (call_reprQ hr T.sys) (by rfl) T.n_repr (by decide +kernel) (pa_cons (pe_ifExp (pt_cmpR op_isN (pv 8) pe_non (nomark _)) (pe_lst (pa_cons pe_str (pa_cons pe_int (pa_cons pe_bl pa_nil)))) (pe_lst (pa_cons pe_str (pa_cons (pv 8) pa_nil)))) pa_nil)) (nomark _)) (pss_one (ps_ret pe_bl)) pss_nil)))) (pss_cons (ps_set (i := 6) sc__law_texts_right.nd rfl (by first | exact Or.inl rfl | exact Or.inr rfl) (pcall D__law_choice hr.r (pa_cons (pv 0) (pa_cons (pe_lst (pa_cons pe_non (pa_cons pe_int (pa_cons pe_bl (pa_cons (pe_lst pa_nil) (pa_cons (pe_lst (pa_cons (pv 2) pa_nil)) (pa_cons (pe_tup pa_nil) (pa_cons pe_dnewK (pa_cons (pv 1) (pa_cons (pe_callTy call_tuple_of (by rfl) T.n_tuple (by decide +kernel) (pa_cons (pv 1) pa_nil)) pa_nil)))))))))) pa_nil)))) (pss_one (ps_ret (pe_and (pe_cmpR op_eq (pcallG D__law_told hr (pa_cons (pv 6) pa_nil)) (pe_callB (call_reprQ hr T.sys) (by rfl) T.n_repr (by decide +kernel) (pa_cons (pe_lst (pa_cons pe_str (pa_cons pe_int (pa_cons pe_bl pa_nil)))) pa_nil)) (nomark _)) (pe_one (pe_cmpR (op_own DE hr.r) (pcmK C_from_kw hr.r passN (pe_glob (v := .ref _) rfl T.g_Sizes rfl) (pk_cons (pv 2) pk_nil)) (pmakeT (E := fun _ => E0) K_Sizes hr.r pass0N (pa_cons (pv 1) pa_nil)) (nomark _))))))))))), ?_⟩)
  · obtain ⟨r, o, ns, rfl, _⟩ := h
    rfl
  · obtain ⟨r, o, ns, rfl, hR, g, hO, nor, q⟩ := h
    have sl : sizeLine = 16777216 := sizeLine_eq
    have l8 := g.len
    have ok := good_ok10 g
    refine ⟨⟨_, rfl⟩, _, rfl, o, rfl, ⟨_, SqL.of hO⟩, fun D hD => ?_⟩
    refine lc_it (walk_list (xs := ns.map V.int)) (fun i G => Same H G ∧ G D = some (.lst (((ns.take i).map num).map V.str))) ⟨same_upd hD, upd_same⟩ (fun i G _ h => SqL.of (h.1 _ _ hO)) ?_ ?_
    · rintro i v G1 G2 hi ⟨sm, hG⟩ ⟨rfl, hv⟩
      rw [List.getElem?_map] at hv
      obtain ⟨z, hz, rfl⟩ := Option.map_eq_some_iff.mp hv
      have zr := ok z (List.mem_of_getElem? hz)
      rw [List.length_map] at hi
      exact ⟨rfl, _, rfl, z, rfl, log_ok zr.1 zr.2, str_step hz (by omega) hD sm hG⟩
    · rintro G1 ⟨sm1, hD1⟩
      rw [List.length_map, List.take_length] at hD1
      have wl := wrt_len ok
      have wc : Ch (wrt ns) := wrt_ch ok
      have wf := wrt_fits ok (by omega)
      refine ⟨_, D, ns.map num, rfl, rfl, .inl (SqL.of hD1), wf, ?_⟩
      obtain ⟨ys, x, rfl⟩ := last_of l8.1
      have hx := last_get ys x
      have xr := g.rng _ _ hx
      have ok2 := ok10_more g hx
      have hO1 := sm1 _ _ hO
      refine ⟨_, rfl, ⟨_, rfl⟩, _, rfl, _, rfl, _, rfl, o, _, _, _, rfl, rfl, SqL.of hO1, at_last ys x, _, _, rfl, rfl, .inl ⟨by omega, by omega⟩, (by show 1 ≤ sizeLine; decide), fun e he => ?_⟩
      have s2 := sm1.trans (same_upd (o := .lst [.int (x * 2)]) he)
      have he2 : (upd G1 e (.lst [.int (x * 2)])) e = some (.lst [.int (x * 2)]) := upd_same
      generalize (upd G1 e (.lst [.int (x * 2)])) = G2 at *
      refine ⟨o, e, _, _, rfl, rfl, s2 _ _ hO, he2, by rw [List.length_map, sl]; show _ + 1 ≤ _; omega, fun c hc => ?_⟩
      have e8 : (ys ++ [x]).map V.int ++ [V.int (x * 2)] = ((ys ++ [x]) ++ [x * 2]).map V.int := by rw [List.map_append (l₁ := ys ++ [x])]; rfl
      rw [e8]
      have s3 := s2.trans (same_upd (o := .lst (((ys ++ [x]) ++ [x * 2]).map V.int)) hc)
      have hc3 : (upd G2 c (.lst (((ys ++ [x]) ++ [x * 2]).map V.int))) c = some (.lst (((ys ++ [x]) ++ [x * 2]).map V.int)) := upd_same
      generalize (upd G2 c (.lst (((ys ++ [x]) ++ [x * 2]).map V.int))) = G3 at *
      have l9 : ((ys ++ [x]) ++ [x * 2]).length ≤ 9 := by rw [List.length_append (bs := [x * 2])]; show _ + 1 ≤ _; omega
      have wl2 := wrt_len ok2
      have wc2 : Ch (wrt ((ys ++ [x]) ++ [x * 2])) := wrt_ch ok2
      have wf2 := wrt_fits ok2 l9
      generalize (ys ++ [x]) ++ [x * 2] = ms at *
      refine ⟨c, rfl, ⟨_, SqL.of hc3⟩, fun D2 hD2 => ?_⟩
      refine lc_it (walk_list (xs := ms.map V.int)) (fun i G => Same G3 G ∧ G D2 = some (.lst (((ms.take i).map num).map V.str))) ⟨same_upd hD2, upd_same⟩ (fun i G _ h => SqL.of (h.1 _ _ hc3)) ?_ ?_
      · rintro i v Ga Gb hi ⟨sm, hG⟩ ⟨rfl, hv⟩
        rw [List.getElem?_map] at hv
        obtain ⟨z, hz, rfl⟩ := Option.map_eq_some_iff.mp hv
        have zr := ok2 z (List.mem_of_getElem? hz)
        rw [List.length_map] at hi
        exact ⟨rfl, _, rfl, z, rfl, log_ok zr.1 zr.2, str_step hz (by omega) hD2 sm hG⟩
      · rintro G4 ⟨sm4, hD4⟩
        rw [List.length_map, List.take_length] at hD4
        refine ⟨_, D2, ms.map num, rfl, rfl, .inl (SqL.of hD4), wf2, (by show 2 ≤ sizeLine; decide), fun L hL => ?_⟩
        have s4 := s3.trans sm4
        have R4 := (Stp.refl hR).same s4
        have hLH : H L = none := s4.free hL
        have nLr : L ≠ r := (hR.ne hLH).symm
        have nLo : L ≠ o := (ne_of_none hO hLH).symm
        have R5 := R4.new (o := .lst [.str (wrt (ys ++ [x])), .str (wrt ms)]) hL
        have hL5 : (upd G4 L (.lst [.str (wrt (ys ++ [x])), .str (wrt ms)])) L = some (.lst ([wrt (ys ++ [x]), wrt ms].map V.str)) := upd_same
        have w88 : (wrt (ys ++ [x])).length ≤ 88 := by omega
        refine ⟨4, rfl, by omega, by omega, ?_⟩
        refine for_range (fun i σ G => (∃ x4 x7 : Option V, σ = [some (.ref r), some (.ref o), some (.str (wrt (ys ++ [x]))), some (.ref L), x4, none, none, x7, none, none]) ∧ Stp r H G ∧ ∃ xs : List Str, G L = some (.lst (xs.map V.str)) ∧ xs.length ≤ i + 2 ∧ ∀ t ∈ xs, Tx5 t)
          ⟨⟨none, none, rfl⟩, R5, _, hL5, Nat.le_refl _, fun t ht => ?_⟩ ?_ ?_
        · rcases List.mem_cons.mp ht with rfl | ht
          · exact ⟨by omega, wc⟩
          · rw [List.mem_singleton.mp ht]
            exact ⟨by omega, wc2⟩
        · rintro i σ G hi ⟨⟨x4, x7, rfl⟩, RG, xs, hG, xl, xt⟩
          refine ⟨_, rfl, _, rfl, r, _, rfl, RG.1, by omega, wc, fun y G2 yl yc t2 => ?_⟩
          have R2 := RG.trans t2
          have hG2 := t2.2 L _ nLr hG
          have fin : ∀ (t : Str) (G' : Hp), Tx5 t → Stp r H G' → G' L = some (.lst (xs.map V.str)) → Stp r H (upd G' L (.lst (xs.map V.str ++ [.str t]))) ∧ ∃ xs' : List Str, (upd G' L (.lst (xs.map V.str ++ [.str t]))) L = some (.lst (xs'.map V.str)) ∧ xs'.length ≤ i + 1 + 2 ∧ ∀ t ∈ xs', Tx5 t := fun t G' h1 h2 h3 => by
            refine ⟨?_, xs ++ [t], by rw [upd_same, List.map_append]; rfl, by rw [List.length_append]; show _ + 1 ≤ _; omega, fun u hu => ?_⟩
            · obtain ⟨⟨a, b, e1, e2⟩, k⟩ := h2
              refine ⟨⟨a, b, by rw [upd_ne nLr.symm]; exact e1, e2⟩, fun c u n e => ?_⟩
              rw [upd_ne (ne_of_none e hLH)]
              exact k c u n e
            · rcases List.mem_append.mp hu with z | z
              · exact xt u z
              · rw [List.mem_singleton.mp z]
                exact h1
          refine ⟨_, rfl, .inl ⟨rfl, _, SqL.of hG2⟩, _, rfl, r, 2, rfl, R2.1, by decide, by decide, fun d G3 d0 d1 t3 => ?_⟩
          have R3 := R2.trans t3
          have hG3 := t3.2 L _ nLr hG2
          refine ⟨rfl, _, rfl, ?_⟩
          by_cases dz : d = 0
          · refine ifT (vT dz) ⟨_, rfl, _, rfl, r, y, rfl, R3.1, by omega, yc, fun y2 G4 yl2 yc2 t4 => ?_⟩
            have fx := fin y2 G4 ⟨by omega, yc2⟩ (R3.trans t4) (t4.2 L _ nLr hG3)
            exact ⟨L, _, _, rfl, rfl, t4.2 L _ nLr hG3, small1000 (by rw [List.length_map]; omega), ⟨_, _, rfl⟩, fx⟩
          · exact ifF (vF dz) ⟨_, rfl, L, _, _, rfl, rfl, hG3, small1000 (by rw [List.length_map]; omega), ⟨_, _, rfl⟩, fin y G3 ⟨by omega, yc⟩ R3 hG3⟩
        · rintro σ G ⟨⟨x4, x7, rfl⟩, RG, xs, hG, xl, xt⟩
          refine ⟨_, rfl, L, rfl, ⟨_, SqL.of hG⟩, ?_⟩
          refine for_it (walk_list (xs := xs.map V.str)) (fun i σ G' => (∃ x5 x8 : Option V, σ = [some (.ref r), some (.ref o), some (.str (wrt (ys ++ [x]))), some (.ref L), x4, x5, none, x7, x8, none]) ∧ Same G G') ⟨⟨none, none, rfl⟩, Same.refl _⟩ (fun i σ G' _ h => SqL.of (h.2 _ _ hG)) ?_ ?_
          · rintro i v σ Ga Gb hi ⟨⟨x5, x8, rfl⟩, sm⟩ ⟨rfl, hv⟩
            rw [List.getElem?_map] at hv
            obtain ⟨t, ht, rfl⟩ := Option.map_eq_some_iff.mp hv
            obtain ⟨tl, tc⟩ := xt t (List.mem_of_getElem? ht)
            refine ⟨_, rfl, t, rfl, tl, fun ns rr l G1 hl s1 hl1 => ?_, fun no G1 s1 => ?_⟩
            · refine ⟨_, rfl, .str t, rfl, .str t ⟨by omega, tc⟩, fun x' e => ?_, fun hS => by cases hS⟩
              obtain rfl := V.str.inj e
              refine ⟨tl, fun ns2 r2 H' s' => ?_, fun no => absurd rr (no ns)⟩
              have e2 : ns2 = ns := r2.2.1.trans rr.2.1.symm
              subst e2
              refine ⟨_, rfl, rfl, _, rfl, ifF (decide_eq_false (by simp)) ⟨_, rfl, (by show 2 ≤ sizeLine; decide), fun u hu => ?_⟩⟩
              have s4 := s'.trans (same_upd (o := .lst [.str "read", .ref l]) hu)
              have tq := ok_tq (K := K) "read" (by decide +kernel) rr.2.2 (s4 _ _ hl1) (upd_same (H := H') (a := u) (o := .lst [.str (Str.ofString "read"), .ref l]))
              exact ⟨_, _, rfl, tq.dq, tq.sh, Nat.le_trans tq.dp (by decide), Nat.le_trans tq.ln (by decide), rfl, false, by rw [show okD (Str.ofString "read") ns2 = okD "read" ns2 from rfl, decide_eq_true rfl]; rfl, iteF ⟨⟨_, _, rfl⟩, sm.trans (s1.trans s4)⟩⟩
            · refine ⟨_, rfl, .str t, rfl, .str t ⟨by omega, tc⟩, fun x' e => ?_, fun hS => by cases hS⟩
              obtain rfl := V.str.inj e
              refine ⟨tl, fun ns2 r2 => absurd r2 (no ns2), fun _ H' s' => ?_⟩
              refine ⟨_, rfl, rfl, _, rfl, ifT (decide_eq_true rfl) ⟨(by show 3 ≤ sizeLine; decide), fun u hu => ?_⟩⟩
              have s4 := s'.trans (same_upd (o := .lst [.str "text", .int 1, .bl true]) hu)
              have tq := no_tq (K := K) (d := .int 1) (m := 41) "text" (by decide +kernel) (by decide) ((tq_int (by decide) (by decide)).mono (by decide) (by decide)) (upd_same (H := H') (a := u) (o := .lst [.str (Str.ofString "text"), .int 1, .bl true]))
              exact ⟨_, _, rfl, tq.dq, tq.sh, Nat.le_trans tq.dp (by decide), Nat.le_trans tq.ln (by decide), rfl, false, by rw [show noD (Str.ofString "text") (.int 1) = noD "text" (.int 1) from rfl, decide_eq_true rfl]; rfl, iteF ⟨⟨_, _, rfl⟩, sm.trans (s1.trans s4)⟩⟩
          · rintro σ G' ⟨⟨x5, x8, rfl⟩, sm⟩
            have R0 := RG.same sm
            refine ⟨_, rfl, (by show 0 ≤ sizeLine; decide), fun a1 ha1 => ⟨_, rfl, (by show 1 ≤ sizeLine; decide), fun a2 ha2 => ⟨(by show 0 ≤ sizeLine; decide), fun a3 ha3 => fun a4 ha4 => ?_⟩⟩⟩
            have s1 := R0.new (o := .lst []) ha1
            have s2 := s1.new (o := .lst [.str (wrt (ys ++ [x]))]) ha2
            have s3 := s2.new (o := .tup []) ha3
            have s4 := s3.new (o := .dK []) ha4
            refine ⟨_, rfl, _, rfl, o, _, rfl, .inl ⟨SqL.of (s4.2 o _ nor hO), fun a5 ha5 => ⟨(by show 9 ≤ sizeLine; decide), fun W hW => ?_⟩⟩⟩
            have s5 := s4.new (o := .tup ((ys ++ [x]).map V.int)) ha5
            have s6 := s5.new (o := .lst (oths a1 a2 a3 a4 o a5)) hW
            have e5 := same_upd (o := .lst (oths a1 a2 a3 a4 o a5)) hW
            have e4 := (same_upd (o := .tup ((ys ++ [x]).map V.int)) ha5).trans e5
            have e3 := (same_upd (o := .dK []) ha4).trans e4
            have e2 := (same_upd (o := .tup []) ha3).trans e3
            have e1 := (same_upd (o := .lst [.str (wrt (ys ++ [x]))]) ha2).trans e2
            refine ⟨r, W, oths a1 a2 a3 a4 o a5, rfl, s6.1, upd_same, (s5.1.ne hW).symm, (by show 1 ≤ 9; decide), (by show 9 ≤ 1000; decide), fun v G7 hv t => ?_⟩
            have s7 := s6.trans t
            obtain ⟨va, vs⟩ := oths_ok (t.2 _ _ (R0.1.ne ha1).symm (e1 a1 _ upd_same)) (t.2 _ _ (s1.1.ne ha2).symm (e2 a2 _ upd_same)) (t.2 _ _ (s2.1.ne ha3).symm (e3 a3 _ upd_same)) (t.2 _ _ (s3.1.ne ha4).symm (e4 a4 _ upd_same)) (s7.2 o _ nor hO) (t.2 _ _ (s4.1.ne ha5).symm (e5 a5 _ upd_same)) v hv
            clear e1 e2 e3 e4 e5 s1 s2 s3 s4 s5 s6 t hv
            refine ⟨_, rfl, v, rfl, va, fun x' e => (by rw [e] at vs; cases vs), fun hS H8 s8 => ?_⟩
            refine ⟨(by show 3 ≤ sizeLine; decide), fun u hu => ?_⟩
            have s9 := s8.trans (same_upd (o := .lst [.str "text", .int 0, .bl true]) hu)
            have tq := no_tq (K := K) (d := .int 0) (m := 41) "text" (by decide +kernel) (by decide) ((tq_int (by decide) (by decide)).mono (by decide) (by decide)) (upd_same (H := H8) (a := u) (o := .lst [.str (Str.ofString "text"), .int 0, .bl true]))
            refine ⟨_, _, rfl, tq.dq, tq.sh, Nat.le_trans tq.dp (by decide), Nat.le_trans tq.ln (by decide), rfl, true, by rw [show noD (Str.ofString "text") (.int 0) = noD "text" (.int 0) from rfl, decide_eq_true rfl], iteT ?_⟩
            have RA := s7.same s9
            generalize (upd H8 u (.lst [.str "text", .int 0, .bl true])) = H9 at *
            refine ⟨rfl, _, rfl, rfl, .str (wrt (ys ++ [x])), rfl, .str _ ⟨by omega, wc⟩, fun x' e => ?_, fun hS => by cases hS⟩
            obtain rfl := V.str.inj e
            have rdw := wrt_read ok g
            refine ⟨by omega, fun ns2 r2 p H5 s5 hz => ?_, fun no => absurd rdw (no _)⟩
            have e2 : ns2 = ys ++ [x] := r2.2.1.trans rdw.2.1.symm
            subst e2
            refine ⟨_, rfl, fun x2 dx2 hx2 hd2 ne2 => made_ok (K := K) g ((RA.same s5).2 o _ nor hO) hx2 hd2 ne2 fun H6 s6 hz2 => ⟨rfl, ?_⟩⟩
            have hz6 := hz.same s6
            obtain ⟨d1, l1, k1, k2⟩ := id hz6
            obtain ⟨d2, l2, m1, m2⟩ := id hz2
            refine ⟨p, x2, d1, d2, _, _, rfl, rfl, k1, m1, p, _, ys ++ [x], rfl, hz6, .inl ⟨x2, ys ++ [x], rfl, hz2, ⟨_, rfl⟩, ?_⟩⟩
            rw [decide_eq_true rfl]
            exact q H6 ((RA.same s5).same s6)
end
end K11

set_option Elab.async false
set_option linter.all false
set_option maxRecDepth 100000
set_option maxHeartbeats 4000000
/-! Mathematics of k11: lists of sizes beside a list of sizes. -/
namespace K11
open PySem PySem.Spec PyProof.Rows L2 Gu Ex
theorem good_init {ys : List Int} {x : Int} (g : Good (ys ++ [x])) (h : 1 ≤ ys.length) : Good ys := by
  have l8 := g.len
  rw [List.length_append] at l8
  have lft : ∀ i a, ys[i]? = some a → (ys ++ [x])[i]? = some a := fun i a e => by
    rw [List.getElem?_append_left (List.getElem?_eq_some_iff.mp e).1]
    exact e
  refine ⟨⟨h, by omega⟩, ?_, fun i y hy => g.rng i y (lft _ _ hy), fun i a b ha hb => g.up i a b (lft _ _ ha) (lft _ _ hb)⟩
  have := g.one
  rw [List.getElem?_append_left h] at this
  exact this
theorem good_swap {ys : List Int} {x : Int} (g : Good (ys ++ [x])) (h : 1 ≤ ys.length) (hx : x * 3 ≤ 1000000000) : Good (ys ++ [x * 3]) := by
  have l8 := g.len
  have gi := good_init g h
  have lx : (ys ++ [x])[ys.length]? = some x := by rw [List.getElem?_append_right (Nat.le_refl _), Nat.sub_self]; rfl
  have xr := g.rng _ _ lx
  rw [List.length_append] at l8
  have cut : ∀ i a, (ys ++ [x * 3])[i]? = some a → (ys[i]? = some a ∧ i < ys.length) ∨ (i = ys.length ∧ a = x * 3) := fun i a e => by
    by_cases hi : i < ys.length
    · rw [List.getElem?_append_left hi] at e
      exact .inl ⟨e, hi⟩
    · have hl := (List.getElem?_eq_some_iff.mp e).1
      rw [List.length_append] at hl
      have hl : i < ys.length + 1 := hl
      have ei : i = ys.length := by omega
      subst ei
      rw [List.getElem?_append_right (Nat.le_refl _), Nat.sub_self] at e
      exact .inr ⟨rfl, (Option.some.inj e).symm⟩
  refine ⟨⟨by rw [List.length_append]; omega, by rw [List.length_append]; exact l8.2⟩, ?_, fun i y hy => ?_, fun i a b ha hb => ?_⟩
  · rw [List.getElem?_append_left h]
    exact gi.one
  · rcases cut i y hy with ⟨e, _⟩ | ⟨_, rfl⟩
    · exact gi.rng i y e
    · omega
  · rcases cut i a ha with ⟨e, hi⟩ | ⟨rfl, rfl⟩
    · rcases cut _ b hb with ⟨e2, _⟩ | ⟨e1, rfl⟩
      · exact gi.up i a b e e2
      · have u := g.up i a x (by rw [List.getElem?_append_left hi]; exact e) (by rw [e1]; exact lx)
        exact ⟨by omega, Int.emod_eq_zero_of_dvd (Int.dvd_trans (Int.dvd_of_emod_eq_zero u.2) (Int.dvd_mul_right x 3))⟩
    · rcases cut _ b hb with ⟨_, hi⟩ | ⟨e1, _⟩
      · omega
      · omega
theorem ne_init (ys : List Int) (x : Int) : ys ≠ ys ++ [x] := fun e => by
  have := congrArg List.length e
  rw [List.length_append] at this
  have : ys.length = ys.length + 1 := this
  omega
theorem ne_more (ns : List Int) (x : Int) : ns ++ [x] ≠ ns := fun e => ne_init ns x e.symm
theorem ne_swap {ys : List Int} {x : Int} (h : 1 ≤ x) : ys ++ [x * 3] ≠ ys ++ [x] := fun e => by
  have := List.append_cancel_left e
  have := (List.cons.inj this).1
  omega
end K11

set_option Elab.async false
set_option linter.all false
set_option maxRecDepth 100000
set_option maxHeartbeats 4000000
set_option pp.maxSteps 900
namespace K11
open PySem PySem.Spec PyProof.Rows L2 Gu Ex
theorem cut_init (ys : List V) (x : V) : cutV (ys ++ [x]) none (some (-1)) = ys := by
  unfold cutV
  have e : HT.sIx (ys ++ [x]).length (ys ++ [x]).length (some (-1)) = ys.length := by
    show (if (-1 : Int) < 0 then ((-1 : Int) + ((ys ++ [x]).length : Int)).toNat else min (-1 : Int).toNat (ys ++ [x]).length) = _
    rw [if_pos (by decide), List.length_append]
    show ((-1 : Int) + ((ys.length + 1 : Nat) : Int)).toNat = _
    omega
  rw [HT.sIx_none, e, List.drop_zero, Nat.sub_zero]
  exact List.take_left' rfl
theorem made_okN {K : PySem.W.Frag} {H : Hp} {l x dx : Addr} {ns : List Int} {R : VK} {E : XK} (g : Good ns) (hl : H l = some (.lst (ns.map V.int))) (hx : H x = none) (hdx : H dx = none) (ne : dx ≠ x) (q : ∀ H' d2 l2, Same H H' → H l2 = none → H' x = some (.ins (cS K) d2 (szF l2)) → H' l2 = some (.lst (ns.map V.int)) → R .non H') :
    spMade K [.ref x, .ref l] (upd (upd H dx (.own x)) x (.ins (cS K) dx [])) R E := by
  have l8 := g.len
  have smA : Same H (upd (upd H dx (.own x)) x (.ins (cS K) dx [])) := (same_upd hdx).trans (same_upd (by rw [upd_ne (Ne.symm ne)]; exact hx))
  refine ⟨x, dx, .ref l, some (ns.map V.int), rfl, upd_same, .list (smA _ _ hl) (by rw [List.length_map]; omega) (fun v hv => by obtain ⟨i, _, rfl⟩ := List.mem_map.mp hv; exact .int i), fun xs ho hw l2 hl2 => ?_, fun s p hj => ?_⟩
  · cases ho
    have lx : l2 ≠ x := fun z => by
      rw [z, upd_same] at hl2
      cases hl2
    refine q _ dx l2 (fun b o e => ?_) (smA.free hl2) upd_same (by rw [upd_ne lx]; exact upd_same)
    have e' := smA b o e
    rw [upd_ne (ne_of_none e hx), upd_ne (ne_of_none e' hl2)]
    exact e'
  · rw [show judge (some (ns.map V.int)) = wrong (ns.map V.int) from rfl, good_wrong g] at hj
    cases hj
section
variable {P : Program} {w : World} {K : PySem.W.Frag} {mg : Str → Option Value} {base : Heap} {f : Addr} {fd : FuncData}
def Alt (ns : List Int) (H : Hp) (v : V) : Prop := ∃ (a : Addr) (ms : List Int), v = .ref a ∧ H a = some (.lst (ms.map V.int)) ∧ Good ms ∧ ms ≠ ns
theorem Alt.same {ns : List Int} {H H' : Hp} {v : V} (h : Alt ns H v) (s : Same H H') : Alt ns H' v := by
  obtain ⟨a, ms, e, h1, h2⟩ := h
  exact ⟨a, ms, e, s _ _ h1, h2⟩
theorem rep_mem {k : Int} {a : V} {C : Prop} (h : k = 0 ∨ (k = 1 ∧ C)) : ∀ v ∈ (List.replicate k.toNat [a]).flatten, C ∧ v = a := fun v hv => by
  rcases h with rfl | ⟨rfl, c⟩
  · cases hv
  · exact ⟨c, List.mem_singleton.mp hv⟩
theorem rep_len {k : Int} {a : V} {C : Prop} (h : k = 0 ∨ (k = 1 ∧ C)) : (List.replicate k.toNat [a]).flatten.length ≤ 1 := by
  rcases h with rfl | ⟨rfl, c⟩
  · exact Nat.zero_le _
  · exact Nat.le_refl _
theorem rep_ok {k : Int} {C : Prop} (h : k = 0 ∨ (k = 1 ∧ C)) : -(2 ^ 63) ≤ k ∧ k < 2 ^ 63 ∧ 1 * k.toNat ≤ sizeLine := by
  have sl : sizeLine = 16777216 := sizeLine_eq
  rcases h with rfl | ⟨rfl, _⟩
  · exact ⟨by decide, by decide, by omega⟩
  · exact ⟨by decide, by decide, by rw [sl]; decide⟩
theorem slL_init {K : PySem.W.Frag} {H : Hp} {a : Addr} {ys : List Int} {x z : Int} {Q : VK} (e : z = -1) (h : H a = some (.lst ((ys ++ [x]).map V.int))) (q : ∀ p, H p = none → Q (.ref p) (upd H p (.lst (ys.map V.int)))) : rSlL K (.ref a) none (some z) H Q := by
  subst e
  refine ⟨a, _, rfl, SqL.of h, fun p hp => ?_⟩
  rw [List.map_append, show List.map V.int [x] = [V.int x] from rfl, cut_init]
  exact q p hp
theorem bit {b : Bool} {C : Prop} (h : b = true → C) : ∃ k : Int, (if b = true then (1 : Int) else 0) = k ∧ (k = 0 ∨ (k = 1 ∧ C)) := by
  cases b with
  | true => exact ⟨1, rfl, .inr ⟨rfl, h rfl⟩⟩
  | false => exact ⟨0, rfl, .inl rfl⟩
theorem bl_step {H G : Hp} {D : Addr} {bs : List Bool} (hD : H D = none) (sm : Same H G) (hG : G D = some (.lst (bs.map V.bl))) (hl : bs.length ≤ 1000) (hb : bs.all id = true) :
    ∃ acc, G D = some (.lst acc) ∧ acc.length < sizeLine ∧ (Same H (upd G D (.lst (acc ++ [.bl true]))) ∧ ∃ bs' : List Bool, upd G D (.lst (acc ++ [.bl true])) D = some (.lst (bs'.map V.bl)) ∧ bs'.length = bs.length + 1 ∧ bs'.all id = true) := by
  have sl : sizeLine = 16777216 := sizeLine_eq
  refine ⟨_, hG, by rw [List.length_map]; omega, fun b o e => ?_, bs ++ [true], ?_, by rw [List.length_append]; rfl, ?_⟩
  · rw [upd_ne (ne_of_none e hD)]
    exact sm b o e
  · rw [upd_same, List.map_append]
    rfl
  · rw [List.all_append, hb]
    rfl
theorem Bv.same {H H' : Hp} {v : V} {T : String} (h : Bv H v T) (s : Same H H') : Bv H' v T := by
  cases h with
  | non => exact .non
  | bl b => exact .bl b
  | int i => exact .int i
  | str x => exact .str x
  | lst e => exact .lst (s _ _ e)
  | tup e => exact .tup (s _ _ e)
  | dct e => exact .dct (s _ _ e)
def things (n : Nat) (o c1 : Addr) (x : Str) (c2 c3 : Addr) : List V := [.non, .int 0, .int (n : Nat), .ref o, .ref c1, .str x, .ref c2, .ref c3, .bl true]
theorem things_ok {H : Hp} {n : Nat} {o c1 c2 c3 : Addr} {x : Str} {xo x1 x2 : List V} (ho : H o = some (.lst xo)) (h1 : H c1 = some (.tup x1)) (h2 : H c2 = some (.lst x2)) (h3 : H c3 = some (.dK [])) : ∀ v ∈ things n o c1 x c2 c3, ∃ T, Bv H v T := by
  intro v hv
  simp only [things, List.mem_cons, List.not_mem_nil, or_false] at hv
  rcases hv with rfl | rfl | rfl | rfl | rfl | rfl | rfl | rfl | rfl
  · exact ⟨_, .non⟩
  · exact ⟨_, .int _⟩
  · exact ⟨_, .int _⟩
  · exact ⟨_, .lst ho⟩
  · exact ⟨_, .tup h1⟩
  · exact ⟨_, .str _⟩
  · exact ⟨_, .lst h2⟩
  · exact ⟨_, .dct h3⟩
  · exact ⟨_, .bl _⟩
def spLright : Sp := fun vs H Q _ => ∃ r : Addr, vs = [.ref r] ∧ Rng H r ∧ ∀ H', Stp r H H' → Q (.bl true) H'
theorem sc__law_right : FnScope ["_law_rng_here", "_law_own", "_law_handed", "_law_others", "_law_things", "_law_made", "_law_again", "_law_other", "_law_thing"] ["_law_rng_here"] (defScope (top 28)) := ⟨rfl, rfl, rfl, by decide +kernel, rfl, by decide +kernel, by decide +kernel⟩
theorem ok_lright (T : Tx K mg) (D__law_sizes : Df P w K mg base 2 "_law_sizes" ["_law_rng_here", "_law_levels", "_law_greatest"] spSizes) (K_Sizes : KfX P w K mg base (L2N.CX P w) 5 "Sizes" ["self", "values"] (spMade K)) (K_Sizes_kw : KfXK P w K mg base (L2N.CX P w) 5 "Sizes" ["self", "values"] ["values"] [0] (spMade K))
    (D__law_stands : DfG P w K mg base 8 "_law_stands" ["_law_made", "_law_own"] (spLstands K)) (D__law_equal : DfG P w K mg base 5 "_law_equal" ["_law_one", "_law_other", "_law_is_so"] (spLequal K)) (M_all_sizes : Mf P w K mg base 1 "Sizes" "all_sizes" ["self"] (spAll K))
    (M_repr : MfG P w K mg base 2 "Sizes" "__repr__" ["self"] (spRepr K)) (D__law_texts_right : DfG P w K mg base 11 "_law_texts_right" ["_law_rng_here", "_law_own"] spLtexts) (D__law_counts_right : DfG P w K mg base 11 "_law_counts_right" ["_law_rng_here"] spLcr)
    (F : FnP K "_law_right" "_law_right" (top 28) f fd) : FnG P w K mg base CX0 13 f fd ["_law_rng_here"] spLright := by
  refine okG F sc__law_right (fun vs H Q E h => ?_) (fun cdv A outer s H vs Q E hr h => ⟨_, PSs.nox (pss_cons (ps_set (i := 1) sc__law_right.nd rfl (by first | exact Or.inl rfl | exact Or.inr rfl) (pcall D__law_sizes hr.r (pa_cons (pv 0) (pa_cons pe_int (pa_cons pe_int pa_nil))))) (pss_cons (ps_set (i := 2) sc__law_right.nd rfl (by first | exact Or.inl rfl | exact Or.inr rfl) (pe_callTy call_list_of (by rfl) T.n_list (by decide +kernel) (pa_cons (pv 1) pa_nil))) (pss_cons (ps_asg (pe_tup (pa_cons (pmakeT (E := fun _ => E0) K_Sizes hr.r pass0N (pa_cons (pv 2) pa_nil)) (pa_cons (pmakeXK K_Sizes_kw hr.r passNN (pk_cons (pe_callTy call_list_of (by rfl) T.n_list (by decide +kernel) (pa_cons (pv 1) pa_nil)) pk_nil)) pa_nil))) (pg_tup (by rfl) (pgs_cons (pg_name (i := 5) sc__law_right.nd rfl (by first | exact Or.inl rfl | exact Or.inr rfl)) (pgs_cons (pg_name (i := 6) sc__law_right.nd rfl (by first | exact Or.inl rfl | exact Or.inr rfl)) pgs_nil)))) (pss_cons (ps_expr (pe_bm PySem.F.plainAttrs_list PySem.F.slot_list_append PySem.F.type_list_append mt_append (pv 2) (pa_cons pe_int pa_nil))) (pss_cons (ps_expr (pe_bm0 PySem.F.plainAttrs_list PySem.F.slot_list_reverse PySem.F.type_list_reverse mt_reverse (pv 2))) (pss_cons (ps_if (PW.pt (pw_or (pt_not (pt_val (pcallG D__law_stands hr (pa_cons (pv 5) (pa_cons (pv 1) pa_nil))))) (pw_or1 (pt_not (pt_val (pcallG D__law_equal hr (pa_cons (pv 5) (pa_cons (pv 6) (pa_cons pe_bl pa_nil))))))))) (pss_one (ps_ret pe_bl)) pss_nil) (pss_cons (ps_expr (pe_bm0 PySem.F.plainAttrs_list PySem.F.slot_list_reverse PySem.F.type_list_reverse mt_reverse (pmeth0 M_all_sizes hr.r (pv 5)))) (pss_cons (ps_set (i := 3) sc__law_right.nd rfl (by first | exact Or.inl rfl | exact Or.inr rfl) (pe_op op_cat (pe_op op_rep (pe_lst (pa_cons (pe_slice sl_list (pv 1) po_none (po_some (pe_un un_neg pe_int))) pa_nil)) (pe_callTy call_int1 (by rfl) T.n_int (by decide +kernel) (pa_cons (pe_cmpR op_gt (pe_callB call_len_seq (by rfl) T.n_len (by decide +kernel) (pa_cons (pv 1) pa_nil)) pe_int (nomark _)) pa_nil))) (pe_op op_rep (pe_lst (pa_cons (pe_op op_cat (pv 1) (pe_lst (pa_cons (pe_op op_mul (pe_ix ix_list (pv 1) (pe_un un_neg pe_int) (fun _ _ => rfl)) pe_int) pa_nil))) pa_nil)) (pe_callTy call_int1 (by rfl) T.n_int (by decide +kernel) (pa_cons (pe_and (pe_cmpR op_lt (pe_callB call_len_seq (by rfl) T.n_len (by decide +kernel) (pa_cons (pv 1) pa_nil)) pe_int (nomark _)) (pe_one (pe_cmpR op_le (pe_op op_mul (pe_ix ix_list (pv 1) (pe_un un_neg pe_int) (fun _ _ => rfl)) pe_int) (pe_op op_pow pe_int pe_int) (nomark _)))) pa_nil))))) (pss_cons (ps_set (i := 3) sc__law_right.nd rfl (by first | exact Or.inl rfl | exact Or.inr rfl) (pe_op op_cat (pv 3) (pe_op op_rep (pe_lst (pa_cons (pe_op op_cat (pe_slice sl_list (pv 1) po_none (po_some (pe_un un_neg pe_int))) (pe_lst (pa_cons (pe_op op_mul (pe_ix ix_list (pv 1) (pe_un un_neg pe_int) (fun _ _ => rfl)) pe_int) pa_nil))) pa_nil)) (pe_callTy call_int1 (by rfl) T.n_int (by decide +kernel) (pa_cons (pe_and (pe_cmpR op_gt (pe_callB call_len_seq (by rfl) T.n_len (by decide +kernel) (pa_cons (pv 1) pa_nil)) pe_int (nomark _)) (pe_one (pe_cmpR op_le (pe_op op_mul (pe_ix ix_list (pv 1) (pe_un un_neg pe_int) (fun _ _ => rfl)) pe_int) (pe_op op_pow pe_int pe_int) (nomark _)))) pa_nil))))) (pss_cons (ps_if (pt_not (pt_val (pe_callB (cr_all rfl) (by rfl) T.n_all (by decide +kernel) (pa_cons (pe_lc (own := [("_law_other", 7)]) (g := gName 7) rfl sc__law_right.nd (pi_list (pv 3)) (blkOk_by (own := [("_law_other", 7)]) (N := ["_law_rng_here", "_law_own", "_law_handed", "_law_others", "_law_things", "_law_made", "_law_again", "_law_other", "_law_thing"]) (sc := defScope (top 28)) (by decide +kernel)) (fun _ _ _ _ _ => pg_name (i := 7) sc__law_right.nd rfl (Or.inl rfl)) (fun _ _ _ _ _ => pts_nil) (fun _ _ _ _ _ => (by exact (pcallG D__law_equal hr (pa_cons (pv 5) (pa_cons (pmakeTB (E := fun _ => E0) K K_Sizes hr.r pass0N (pa_cons (pv 7) pa_nil)) (pa_cons pe_bl pa_nil))))))) pa_nil)))) (pss_one (ps_ret pe_bl)) pss_nil) (pss_cons (ps_set (i := 4) sc__law_right.nd rfl (by first | exact Or.inl rfl | exact Or.inr rfl) (pe_lst (pa_cons pe_non (pa_cons pe_int (pa_cons (pe_callB call_len_seq (by rfl) T.n_len (by decide +kernel) (pa_cons (pv 1) pa_nil)) (pa_cons (pv 1) (pa_cons (pe_callTy call_tuple_of (by rfl) T.n_tuple (by decide +kernel) (pa_cons (pv 1) pa_nil)) (pa_cons (pe_callB (call_reprO M_repr hr) (by rfl) T.n_repr (by decide +kernel) (pa_cons (pv 5) pa_nil)) (pa_cons (pe_lst (pa_cons (pv 5) pa_nil)) (pa_cons pe_dnewK (pa_cons pe_bl pa_nil))))))))))) (pss_cons (ps_if (pt_not (pt_val (pe_callB (cr_all rfl) (by rfl) T.n_all (by decide +kernel) (pa_cons (pe_lc (own := [("_law_thing", 8)]) (g := gName 8) rfl sc__law_right.nd (pi_list (pv 4)) (blkOk_by (own := [("_law_thing", 8)]) (N := ["_law_rng_here", "_law_own", "_law_handed", "_law_others", "_law_things", "_law_made", "_law_again", "_law_other", "_law_thing"]) (sc := defScope (top 28)) (by decide +kernel)) (fun _ _ _ _ _ => pg_name (i := 8) sc__law_right.nd rfl (Or.inl rfl)) (fun _ _ _ _ _ => pts_nil) (fun _ _ _ _ _ => (by exact (pcallG D__law_equal hr (pa_cons (pv 5) (pa_cons (pv 8) (pa_cons pe_bl pa_nil))))))) pa_nil)))) (pss_one (ps_ret pe_bl)) pss_nil) (pss_one (ps_ret (pe_and (pcallG D__law_stands hr (pa_cons (pv 5) (pa_cons (pv 1) pa_nil))) (pe_and (pcallG D__law_texts_right hr (pa_cons (pv 0) (pa_cons (pv 1) pa_nil))) (pe_one (pcallG D__law_counts_right hr (pa_cons (pv 0) pa_nil))))))))))))))))))), ?_⟩)
  · obtain ⟨r, rfl, _⟩ := h
    rfl
  · obtain ⟨r, rfl, hR, q⟩ := h
    have sl : sizeLine = 16777216 := sizeLine_eq
    refine ⟨_, rfl, r, 8, 1000, rfl, hR, by decide, by decide, by decide, by decide, fun o ns H1 g ho hO R1 => ?_⟩
    have nor : o ≠ r := (hR.ne ho).symm
    have l8 := g.len
    refine ⟨_, rfl, o, _, rfl, .inl (SqL.of hO), fun b hb => ?_⟩
    have s2 := same_upd (o := .lst (ns.map V.int)) hb
    have hB2 : (upd H1 b (.lst (ns.map V.int))) b = some (.lst (ns.map V.int)) := upd_same
    have nbo : o ≠ b := ne_of_none hO hb
    have hbH : H b = none := R1.free hb
    have nbr : r ≠ b := hR.ne hbH
    have R2 := R1.same s2
    generalize upd H1 b (.lst (ns.map V.int)) = H2 at *
    refine ⟨_, rfl, fun m dm hm hdm nem => made_okN (K := K) g hB2 hm hdm nem fun H3 d1 l1 s3 hl1 hm1 hm2 => ⟨rfl, ?_⟩⟩
    have nmb : m ≠ b := (ne_of_none hB2 hm).symm
    have nl1 : l1 ≠ b := (ne_of_none hB2 hl1).symm
    refine ⟨_, rfl, o, _, rfl, .inl (SqL.of (s3 _ _ (s2 _ _ hO))), fun c hc => ⟨rfl, fun m2 dm2 hm2' hdm2 nem2 => made_okN (K := K) g upd_same hm2' hdm2 nem2 fun H4 d2 l2 s4 hl2 hn1 hn2 => ⟨rfl, (by show 2 ≤ sizeLine; decide), fun t ht => ?_⟩⟩⟩
    have sc := same_upd (o := .lst (ns.map V.int)) hc
    have s34 := sc.trans s4
    have nm2b : m2 ≠ b := (ne_of_none (sc _ _ (s3 _ _ hB2)) hm2').symm
    have nl2b : l2 ≠ b := (ne_of_none (sc _ _ (s3 _ _ hB2)) hl2).symm
    have st := same_upd (o := .tup [.ref m, .ref m2]) ht
    have hT : (upd H4 t (.tup [.ref m, .ref m2])) t = some (.tup [.ref m, .ref m2]) := upd_same
    refine ⟨t, _, rfl, .inl (.inl hT), rfl, _, _, rfl, _, _, rfl, rfl, ?_⟩
    have R5 := ((R2.same s3).same s34).same st
    have hB5 := st _ _ (s34 _ _ (s3 _ _ hB2))
    have ho5 := st _ _ (s34 _ _ (s3 _ _ (s2 _ _ hO)))
    have k1 := st _ _ (s34 _ _ hm1)
    have k2 := st _ _ (s34 _ _ hm2)
    have n1 := st _ _ hn1
    have n2 := st _ _ hn2
    generalize upd H4 t (.tup [.ref m, .ref m2]) = H5 at *
    refine ⟨_, rfl, .inl ⟨rfl, _, SqL.of hB5⟩, b, _, _, rfl, rfl, hB5, small1000 (by rw [List.length_map]; omega), ?_⟩
    refine ⟨_, rfl, .inl ⟨rfl, _, SqL.of upd_same⟩, b, _, rfl, rfl, upd_same, ?_⟩
    have up : ∀ a u, a ≠ b → H5 a = some u → (upd (upd H5 b (.lst (ns.map V.int ++ [V.int 0]))) b (.lst (ns.map V.int ++ [V.int 0]).reverse)) a = some u := fun a u e h => by
      rw [upd_ne e, upd_ne e]
      exact h
    have ho6 := up o _ nbo ho5
    have z1 : SzI K _ m ns := ⟨d1, l1, up m _ nmb k1, up l1 _ nl1 k2⟩
    have z2 : SzI K _ m2 ns := ⟨d2, l2, up m2 _ nm2b n1, up l2 _ nl2b n2⟩
    have R6 : Stp r H (upd (upd H5 b (.lst (ns.map V.int ++ [V.int 0]))) b (.lst (ns.map V.int ++ [V.int 0]).reverse)) := by
      obtain ⟨⟨x, y, e1, e2⟩, k⟩ := R5
      exact ⟨⟨x, y, up r _ nbr e1, e2⟩, fun a u n e => up a u (ne_of_none e hbH) (k a u n e)⟩
    clear up hB5 ho5 k1 k2 n1 n2 R5
    generalize upd (upd H5 b (.lst (ns.map V.int ++ [V.int 0]))) b (.lst (ns.map V.int ++ [V.int 0]).reverse) = H6 at *
    refine ⟨_, rfl, _, rfl, m, o, ns, rfl, z1, g, ho6, fun H7 s7 => ⟨_, rfl, iteF ?_⟩⟩
    refine ⟨_, rfl, _, rfl, m, .ref m2, ns, true, rfl, z1.same s7, .inl ⟨m2, ns, rfl, z2.same s7, decide_eq_true rfl⟩, fun H8 s8 => ⟨_, rfl, iteF ?_⟩⟩
    have s68 := s7.trans s8
    obtain ⟨d1', l1', p1, p2⟩ := z1.same s68
    refine ⟨_, rfl, m, d1', _, rfl, p1, szF_no l1' (by decide +kernel), m, _, rfl, z1.same s68, fun a ha => ⟨.inl ⟨rfl, _, SqL.of upd_same⟩, a, _, rfl, rfl, upd_same, ?_⟩⟩
    have s69 : Same H6 (upd (upd H8 a (.lst (ns.map V.int))) a (.lst (ns.map V.int).reverse)) := fun c u e => by
      have e8 := s68 c u e
      rw [upd_ne (ne_of_none e8 ha), upd_ne (ne_of_none e8 ha)]
      exact e8
    generalize upd (upd H8 a (.lst (ns.map V.int))) a (.lst (ns.map V.int).reverse) = H9 at *
    clear s7 s8 s68 p1 p2
    obtain ⟨ys, x, rfl⟩ := last_of l8.1
    have hx := last_get ys x
    have xr := g.rng _ _ hx
    have ho9 := s69 _ _ ho6
    refine ⟨_, rfl, 1, rfl, _, rfl, slL_init rfl ho9 fun a1 ha1 => ⟨(by show 1 ≤ sizeLine; decide), fun b1 hb1 => ?_⟩⟩
    have t1 := same_upd (o := .lst (ys.map V.int)) ha1
    have t2 := t1.trans (same_upd (o := .lst [.ref a1]) hb1)
    have hA1 := same_upd (o := .lst [.ref a1]) hb1 a1 _ (upd_same (H := H9) (a := a1) (o := .lst (ys.map V.int)))
    have hB1 : (upd (upd H9 a1 (.lst (ys.map V.int))) b1 (.lst [.ref a1])) b1 = some (.lst [.ref a1]) := upd_same
    generalize upd (upd H9 a1 (.lst (ys.map V.int))) b1 (.lst [.ref a1]) = G1 at *
    refine ⟨_, rfl, o, _, rfl, .inl (SqL.of (t2 _ _ ho9)), _, _, rfl, rfl, .inr ⟨_, rfl, ?_⟩⟩
    have eL : ((ys ++ [x]).map V.int).length = ys.length + 1 := by rw [List.length_map, List.length_append]; rfl
    have ly : ys.length + 1 ≤ 8 := by have := l8.2; rw [List.length_append] at this; exact this
    obtain ⟨k1, ek1, hk1⟩ := bit (b := decide ((1 : Int) < (((ys ++ [x]).map V.int).length : Nat))) (C := 1 ≤ ys.length) fun h => by
      have := of_decide_eq_true h
      rw [eL] at this
      omega
    rw [ek1]
    obtain ⟨r1, r2, r3⟩ := rep_ok hk1
    refine ⟨b1, k1, _, rfl, rfl, hB1, r1, r2, r3, fun c1 hc1 => ?_⟩
    have t3 := t2.trans (same_upd (o := .lst (List.replicate k1.toNat [V.ref a1]).flatten) hc1)
    have hC1 : (upd G1 c1 (.lst (List.replicate k1.toNat [V.ref a1]).flatten)) c1 = some (.lst (List.replicate k1.toNat [V.ref a1]).flatten) := upd_same
    have hA2 := same_upd (o := .lst (List.replicate k1.toNat [V.ref a1]).flatten) hc1 _ _ hA1
    generalize upd G1 c1 (.lst (List.replicate k1.toNat [V.ref a1]).flatten) = G2 at *
    refine ⟨_, rfl, _, rfl, _, rfl, o, _, _, _, rfl, rfl, SqL.of (t3 _ _ ho9), at_last ys x, _, _, rfl, rfl, .inl ⟨by omega, by omega⟩, (by show 1 ≤ sizeLine; decide), fun e he => ⟨o, e, _, _, rfl, rfl, same_upd he _ _ (t3 _ _ ho9), upd_same, by rw [eL, sl]; show _ + 1 ≤ _; omega, fun a2 ha2 => ⟨(by show 1 ≤ sizeLine; decide), fun b2 hb2 => ?_⟩⟩⟩
    have e8 : (ys ++ [x]).map V.int ++ [V.int (x * 2)] = ((ys ++ [x]) ++ [x * 2]).map V.int := by rw [List.map_append (l₁ := ys ++ [x])]; rfl
    rw [e8] at hb2 ⊢
    have u1 := (same_upd (o := .lst [.int (x * 2)]) he).trans (same_upd (o := .lst (((ys ++ [x]) ++ [x * 2]).map V.int)) ha2)
    have u2 := same_upd (o := .lst [.ref a2]) hb2
    have hA3 := u2 a2 _ (upd_same (H := upd G2 e (.lst [.int (x * 2)])) (a := a2) (o := .lst (((ys ++ [x]) ++ [x * 2]).map V.int)))
    have t4 := t3.trans (u1.trans u2)
    have hC3 := u2 _ _ (u1 _ _ hC1)
    have hA2' := u2 _ _ (u1 _ _ hA2)
    have hB3 : (upd (upd (upd G2 e (.lst [.int (x * 2)])) a2 (.lst (((ys ++ [x]) ++ [x * 2]).map V.int))) b2 (.lst [.ref a2])) b2 = some (.lst [.ref a2]) := upd_same
    generalize upd (upd (upd G2 e (.lst [.int (x * 2)])) a2 (.lst (((ys ++ [x]) ++ [x * 2]).map V.int))) b2 (.lst [.ref a2]) = G3 at *
    refine ⟨_, rfl, o, _, rfl, .inl (SqL.of (t4 _ _ ho9)), _, _, rfl, rfl, _, rfl, ?_⟩
    refine join (fun b : Bool => b = true → Good ((ys ++ [x]) ++ [x * 2])) (R := ?R1) (fun tail => ?main1) ?tl1
    case main1 =>
      by_cases hc : ((((ys ++ [x]).map V.int).length : Nat) : Int) < 8
      · refine ifT (decide_eq_true hc) ⟨_, rfl, _, rfl, o, _, _, _, rfl, rfl, SqL.of (t4 _ _ ho9), at_last ys x, _, _, rfl, rfl, .inl ⟨by omega, by omega⟩, _, _, rfl, rfl, ⟨by decide, by decide, by decide⟩, _, _, rfl, rfl, ?_⟩
        obtain ⟨c, ec, pc⟩ : ∃ c, decide (x * 2 ≤ (10 : Int) ^ (9 : Int).toNat) = c ∧ (c = true → Good ((ys ++ [x]) ++ [x * 2])) := ⟨_, rfl, fun h => by
          have h := of_decide_eq_true h
          have p9 : (10 : Int) ^ (9 : Int).toNat = 1000000000 := by decide
          rw [eL] at hc
          exact good_more g (by rw [List.length_append]; show ys.length + 1 < 8; omega) hx (by decide) (by omega)⟩
        dsimp only
        rw [ec]
        exact tail c pc
      · exact ifF (decide_eq_false hc) (tail false fun z => by cases z)
    case tl1 =>
      intro cb hcb
      refine Or.inr ⟨cb, rfl, ?_⟩
      obtain ⟨k2, ek2, hk2⟩ := bit hcb
      rw [ek2]
      obtain ⟨q1, q2, q3⟩ := rep_ok hk2
      have len1 := rep_len (a := V.ref a1) hk1
      have len2 := rep_len (a := V.ref a2) hk2
      have mem1 := rep_mem (a := V.ref a1) hk1
      have mem2 := rep_mem (a := V.ref a2) hk2
      generalize (List.replicate k1.toNat [V.ref a1]).flatten = X1 at *
      refine ⟨b2, k2, _, rfl, rfl, hB3, q1, q2, q3, fun c2 hc2 => ?_⟩
      generalize (List.replicate k2.toNat [V.ref a2]).flatten = X2 at *
      refine ⟨c1, c2, _, _, rfl, rfl, same_upd hc2 _ _ hC3, upd_same, by omega, fun L1 hL1 => ?_⟩
      have v1 := (same_upd (o := .lst X2) hc2).trans (same_upd (o := .lst (X1 ++ X2)) hL1)
      have t5 := t4.trans v1
      have alt : ∀ v ∈ X1 ++ X2, Alt (ys ++ [x]) (upd (upd G3 c2 (.lst X2)) L1 (.lst (X1 ++ X2))) v := fun v hv => by
        rcases List.mem_append.mp hv with z | z
        · obtain ⟨c, rfl⟩ := mem1 v z
          exact ⟨a1, ys, rfl, v1 _ _ hA2', good_init g c, ne_init ys x⟩
        · obtain ⟨c, rfl⟩ := mem2 v z
          exact ⟨a2, _, rfl, v1 _ _ hA3, c, ne_more _ _⟩
      have len3 : (X1 ++ X2).length ≤ 2 := by rw [List.length_append]; omega
      have hL2 : (upd (upd G3 c2 (.lst X2)) L1 (.lst (X1 ++ X2))) L1 = some (.lst (X1 ++ X2)) := upd_same
      generalize upd (upd G3 c2 (.lst X2)) L1 (.lst (X1 ++ X2)) = G4 at *
      generalize X1 ++ X2 = X3 at *
      clear mem1 mem2 hA1 hA2 hA2' hA3 hB1 hB3 hC1 hC3 hcb hk1 hk2 v1 u1 u2 t1 t2 t3 t4
      have ho5 := t5 _ _ ho9
      refine ⟨_, rfl, _, rfl, 1, rfl, _, rfl, slL_init rfl ho5 fun a3 ha3 => ?_⟩
      have w1 := same_upd (o := .lst (ys.map V.int)) ha3
      have hA3 : (upd G4 a3 (.lst (ys.map V.int))) a3 = some (.lst (ys.map V.int)) := upd_same
      generalize upd G4 a3 (.lst (ys.map V.int)) = G5 at *
      refine ⟨_, rfl, _, rfl, o, _, _, _, rfl, rfl, SqL.of (w1 _ _ ho5), at_last ys x, _, _, rfl, rfl, .inl ⟨by omega, by omega⟩, (by show 1 ≤ sizeLine; decide), fun e3 he3 => ⟨a3, e3, _, _, rfl, rfl, same_upd he3 _ _ hA3, upd_same, by rw [List.length_map, sl]; show _ + 1 ≤ _; omega, fun d3 hd3 => ?_⟩⟩
      rw [show ys.map V.int ++ [V.int (x * 3)] = (ys ++ [x * 3]).map V.int by rw [List.map_append]; rfl]
      refine ⟨(by show 1 ≤ sizeLine; decide), fun b3 hb3 => ?_⟩
      have w2 := ((same_upd (o := .lst [.int (x * 3)]) he3).trans (same_upd (o := .lst ((ys ++ [x * 3]).map V.int)) hd3)).trans (same_upd (o := .lst [.ref d3]) hb3)
      have hD3 := same_upd (o := .lst [.ref d3]) hb3 d3 _ (upd_same (H := upd G5 e3 (.lst [.int (x * 3)])) (a := d3) (o := .lst ((ys ++ [x * 3]).map V.int)))
      have hB3 : (upd (upd (upd G5 e3 (.lst [.int (x * 3)])) d3 (.lst ((ys ++ [x * 3]).map V.int))) b3 (.lst [.ref d3])) b3 = some (.lst [.ref d3]) := upd_same
      have t6 := t5.trans (w1.trans w2)
      have alt6 : ∀ v ∈ X3, Alt (ys ++ [x]) (upd (upd (upd G5 e3 (.lst [.int (x * 3)])) d3 (.lst ((ys ++ [x * 3]).map V.int))) b3 (.lst [.ref d3])) v := fun v hv => (alt v hv).same (w1.trans w2)
      have hL3 := w2 _ _ (w1 _ _ hL2)
      generalize upd (upd (upd G5 e3 (.lst [.int (x * 3)])) d3 (.lst ((ys ++ [x * 3]).map V.int))) b3 (.lst [.ref d3]) = G6 at *
      refine ⟨_, rfl, o, _, rfl, .inl (SqL.of (t6 _ _ ho9)), _, _, rfl, rfl, _, rfl, ?_⟩
      refine join (fun b : Bool => b = true → Good (ys ++ [x * 3])) (R := ?R2) (fun tail => ?main2) ?tl2
      case main2 =>
        by_cases hc : (1 : Int) < ((((ys ++ [x]).map V.int).length : Nat) : Int)
        · refine ifT (decide_eq_true hc) ⟨_, rfl, _, rfl, o, _, _, _, rfl, rfl, SqL.of (t6 _ _ ho9), at_last ys x, _, _, rfl, rfl, .inl ⟨by omega, by omega⟩, _, _, rfl, rfl, ⟨by decide, by decide, by decide⟩, _, _, rfl, rfl, ?_⟩
          obtain ⟨c, ec, pc⟩ : ∃ c, decide (x * 3 ≤ (10 : Int) ^ (9 : Int).toNat) = c ∧ (c = true → Good (ys ++ [x * 3])) := ⟨_, rfl, fun h => by
            have h := of_decide_eq_true h
            have p9 : (10 : Int) ^ (9 : Int).toNat = 1000000000 := by decide
            rw [eL] at hc
            exact good_swap g (by omega) (by omega)⟩
          dsimp only
          rw [ec]
          exact tail c pc
        · exact ifF (decide_eq_false hc) (tail false fun z => by cases z)
      case tl2 =>
        intro cb2 hcb2
        refine Or.inr ⟨cb2, rfl, ?_⟩
        obtain ⟨k3, ek3, hk3⟩ := bit hcb2
        rw [ek3]
        obtain ⟨q4, q5, q6⟩ := rep_ok hk3
        have len4 := rep_len (a := V.ref d3) hk3
        have mem3 := rep_mem (a := V.ref d3) hk3
        refine ⟨b3, k3, _, rfl, rfl, hB3, q4, q5, q6, fun c3 hc3 => ?_⟩
        generalize (List.replicate k3.toNat [V.ref d3]).flatten = X4 at *
        refine ⟨L1, c3, _, _, rfl, rfl, same_upd hc3 _ _ hL3, upd_same, by omega, fun L hL => ?_⟩
        have v2 := (same_upd (o := .lst X4) hc3).trans (same_upd (o := .lst (X3 ++ X4)) hL)
        have t7 := t6.trans v2
        have alt7 : ∀ v ∈ X3 ++ X4, Alt (ys ++ [x]) (upd (upd G6 c3 (.lst X4)) L (.lst (X3 ++ X4))) v := fun v hv => by
          rcases List.mem_append.mp hv with z | z
          · exact (alt6 v z).same v2
          · obtain ⟨c, rfl⟩ := mem3 v z
            exact ⟨d3, _, rfl, v2 _ _ hD3, c, ne_swap (by omega)⟩
        have len5 : (X3 ++ X4).length ≤ 3 := by rw [List.length_append]; omega
        have hL7 : (upd (upd G6 c3 (.lst X4)) L (.lst (X3 ++ X4))) L = some (.lst (X3 ++ X4)) := upd_same
        generalize upd (upd G6 c3 (.lst X4)) L (.lst (X3 ++ X4)) = G7 at *
        generalize X3 ++ X4 = X5 at *
        clear alt alt6 hD3 hB3 hL3 hA3 hL2 mem3 hk3 hcb2 v2 w1 w2 t5 t6
        have s67 := s69.trans t7
        clear t7
        refine ⟨_, rfl, L, rfl, ⟨_, SqL.of hL7⟩, fun A1 hA1 => ?_⟩
        refine lc_it (walk_list (xs := X5)) (fun i G => Same G7 G ∧ ∃ bs : List Bool, G A1 = some (.lst (bs.map V.bl)) ∧ bs.length = i ∧ bs.all id = true) ⟨same_upd hA1, [], upd_same, rfl, rfl⟩ (fun i G _ h => SqL.of (h.1 _ _ hL7)) ?_ ?_
        · rintro i v Ga Gb hi ⟨sm, bs, hG, bl, ba⟩ ⟨rfl, hv⟩
          obtain ⟨a, ms, rfl, h1, gm, nm⟩ := (alt7 v (List.mem_of_getElem? hv)).same sm
          refine ⟨rfl, _, rfl, _, rfl, fun xx dxx hxx hdxx nexx => made_ok (K := K) gm h1 hxx hdxx nexx fun Hc sc hz => ⟨rfl, m, .ref xx, ys ++ [x], false, rfl, z1.same (s67.trans (sm.trans sc)), .inl ⟨xx, ms, rfl, hz, decide_eq_false nm.symm⟩, fun Hd sd => ?_⟩⟩
          have key := bl_step hA1 (sm.trans (sc.trans sd)) (sd _ _ (sc _ _ hG)) (by omega) ba
          rw [bl] at key
          exact key
        · rintro G8 ⟨s8, bs, hG, bl, ba⟩
          refine ⟨A1, bs, rfl, SqL.of hG, _, rfl, ?_⟩
          rw [ba]
          refine iteF ?_
          have s78 := s67.trans s8
          clear s67 s8
          have ho8 := s78 _ _ ho6
          have z8 := z1.same s78
          obtain ⟨dz, lz, y1, y2⟩ := id z8
          refine ⟨_, rfl, o, _, rfl, .inl (SqL.of ho8), _, rfl, _, rfl, o, _, rfl, .inl ⟨SqL.of ho8, fun c1 hc1 => ?_⟩⟩
          have x1 := same_upd (o := .tup ((ys ++ [x]).map V.int)) hc1
          refine ⟨_, rfl, m, dz, _, rfl, x1 _ _ y1, m, _, rfl, z8.same x1, g, _, rfl, _, rfl, (by show 1 ≤ sizeLine; decide), fun c2 hc2 => fun c3 hc3 => ⟨(by show 9 ≤ sizeLine; decide), fun W hW => ?_⟩⟩
          have e3 := same_upd (o := .lst (things ((ys ++ [x]).map V.int).length o c1 (("Sizes(" : Str) ++ shI (ys ++ [x]) ++ (")" : Str)) c2 c3)) hW
          have e2 := (same_upd (o := .dK []) hc3).trans e3
          have e1 := (same_upd (o := .lst [.ref m]) hc2).trans e2
          have x9 := x1.trans e1
          have ok := things_ok (n := ((ys ++ [x]).map V.int).length) (x := ("Sizes(" : Str) ++ shI (ys ++ [x]) ++ (")" : Str)) (x9 _ _ ho8) (e1 c1 _ upd_same) (e2 c2 _ upd_same) (e3 c3 _ upd_same)
          have hW9 : (upd (upd (upd (upd G8 c1 (.tup ((ys ++ [x]).map V.int))) c2 (.lst [.ref m])) c3 (.dK [])) W (.lst (things ((ys ++ [x]).map V.int).length o c1 (("Sizes(" : Str) ++ shI (ys ++ [x]) ++ (")" : Str)) c2 c3))) W = some (.lst (things ((ys ++ [x]).map V.int).length o c1 (("Sizes(" : Str) ++ shI (ys ++ [x]) ++ (")" : Str)) c2 c3)) := upd_same
          clear e1 e2 e3 x1
          refine ⟨_, rfl, W, rfl, ⟨_, SqL.of hW9⟩, fun A2 hA2 => ?_⟩
          refine lc_it (walk_list (xs := things ((ys ++ [x]).map V.int).length o c1 (("Sizes(" : Str) ++ shI (ys ++ [x]) ++ (")" : Str)) c2 c3)) (fun i G => Same _ G ∧ ∃ bs : List Bool, G A2 = some (.lst (bs.map V.bl)) ∧ bs.length = i ∧ bs.all id = true) ⟨same_upd hA2, [], upd_same, rfl, rfl⟩ (fun i G _ h => SqL.of (h.1 _ _ hW9)) ?_ ?_
          · rintro i v Ga Gb hi ⟨sm, bs, hG, bl, ba⟩ ⟨rfl, hv⟩
            have hi : i < 9 := hi
            obtain ⟨Ty, bv⟩ := ok v (List.mem_of_getElem? hv)
            refine ⟨rfl, _, rfl, _, rfl, m, v, ys ++ [x], false, rfl, z8.same (x9.trans sm), .inr ⟨Ty, Bv.same bv sm, rfl⟩, fun Hd sd => ?_⟩
            have key := bl_step hA2 (sm.trans sd) (sd _ _ hG) (by omega) ba
            rw [bl] at key
            exact key
          · rintro G9 ⟨s9, bs2, hG2, bl2, ba2⟩
            refine ⟨A2, bs2, rfl, SqL.of hG2, _, rfl, ?_⟩
            rw [ba2]
            refine iteF ?_
            have s79 := s78.trans (x9.trans s9)
            refine ⟨_, rfl, _, rfl, m, o, _, rfl, z1.same s79, g, s79 _ _ ho6, fun Ha sa => ⟨_, rfl, iteT ?_⟩⟩
            have Ra := R6.same (s79.trans sa)
            refine ⟨_, rfl, _, rfl, r, o, _, rfl, Ra.1, g, (s79.trans sa) _ _ ho6, nor, fun Hb rb => ⟨_, rfl, iteT ?_⟩⟩
            exact ⟨_, rfl, r, rfl, (Ra.trans rb).1, fun Hc rc => q Hc ((Ra.trans rb).trans rc)⟩
end
end K11

set_option Elab.async false
set_option linter.all false
set_option maxRecDepth 100000
set_option maxHeartbeats 4000000
set_option pp.maxSteps 900
namespace K11
open PySem PySem.Spec PyProof.Rows L2 Gu Ex
theorem not_read {x : Str} {z : Int} (e : (wds x).map rd = [1, z]) (h : 1000000000 < z) : ∀ ns, ¬ RdS x ns := fun ns r => by
  have g := r.2.2
  have e2 := r.2.1
  rw [e] at e2
  subst e2
  have := (g.rng 1 z rfl).2
  omega
theorem good_g : Good [1, 1000000000] := ⟨⟨by decide, by decide⟩, rfl, fun i x h => by
    match i, h with
    | 0, h => cases h; decide
    | 1, h => cases h; decide, fun i x y h1 h2 => by
    match i, h1, h2 with
    | 0, h1, h2 => cases h1; cases h2; decide⟩
theorem read_g : RdS "1 1000000000" [1, 1000000000] := ⟨by decide +kernel, by decide +kernel, good_g⟩
theorem nr1 : ∀ ns, ¬ RdS "1 1000000001" ns := not_read (z := 1000000001) (by decide +kernel) (by decide)
theorem nr2 : ∀ ns, ¬ RdS "1 2000000000" ns := not_read (z := 2000000000) (by decide +kernel) (by decide)
theorem nr3 : ∀ ns, ¬ RdS "1 10000000000" ns := not_read (z := 10000000000) (by decide +kernel) (by decide)
theorem dp_strs {K : PySem.W.Frag} {H : Hp} : ∀ xs : List Str, DpAll K H (xs.map V.str) (xs.map PyData.str)
  | [] => .nil
  | x :: xs => .cons (.str x) (dp_strs xs)
theorem lay_strs : ∀ xs : List Str, (xs.all fun x => (PyData.str x).canLay0) = true → PyData.canLayAll0 (xs.map PyData.str) = true ∧ PyData.depthAll (xs.map PyData.str) ≤ 0
  | [], _ => ⟨rfl, Nat.le_refl _⟩
  | x :: xs, h => by
    obtain ⟨h0, h⟩ := He.ba (show ((PyData.str x).canLay0 && xs.all fun x => (PyData.str x).canLay0) = true from h)
    obtain ⟨h1, h2⟩ := lay_strs xs h
    refine ⟨?_, ?_⟩
    · show (PyData.canLay0 (.str x) && PyData.canLayAll0 (xs.map PyData.str)) = true
      rw [h1, h0]
      rfl
    · show max 0 (PyData.depthAll (xs.map PyData.str)) ≤ 0
      omega
theorem eq_strs {K : PySem.W.Frag} {H : Hp} {a b : Addr} {xs : List Str} {Q : VK} (hk : (xs.all fun x => (PyData.str x).canLay0) = true) (ha : H a = some (.lst (xs.map V.str))) (hb : H b = some (.lst (xs.map V.str))) (q : Q (.bl true) H) : rEqD K (.ref a) (.ref b) H Q := by
  have h1 : (PyData.list (xs.map PyData.str)).canLay0 = true := (lay_strs xs hk).1
  have h2 : (PyData.list (xs.map PyData.str)).depth ≤ 64 := by
    show PyData.depthAll (xs.map PyData.str) + 1 ≤ 64
    have := (lay_strs xs hk).2
    omega
  have sh : SeqAt.shaped (.list (xs.map PyData.str)) = true := by
    unfold SeqAt.shaped
    rw [h1, decide_eq_true h2]
    rfl
  refine ⟨_, _, .lst (SqL.of ha) (dp_strs xs), .lst (SqL.of hb) (dp_strs xs), sh, sh, ?_⟩
  rw [SeqAt.eqv_refl _ h1]
  exact q
section
variable {P : Program} {w : World} {K : PySem.W.Frag} {mg : Str → Option Value} {base : Heap} {f : Addr} {fd : FuncData}
def spGr : Sp := fun vs H Q _ => vs = [] ∧ ∀ H', Same H H' → Q (.bl true) H'
theorem sc__law_greatest_right : FnScope ["_law_told_here"] [] (defScope (top 29)) := ⟨rfl, rfl, rfl, by decide +kernel, rfl, by decide +kernel, by decide +kernel⟩
theorem ok_gr (T : Tx K mg) (D__law_told : DfG P w K mg base 9 "_law_told" ["_law_value"] spLtold) (F : FnP K "_law_greatest_right" "_law_greatest_right" (top 29) f fd) : FnG P w K mg base CX0 10 f fd [] spGr := by
  refine okG F sc__law_greatest_right (fun vs H Q E h => ?_) (fun cdv A outer s H vs Q E hr h => ⟨_, PSs.nox (pss_cons (ps_set (i := 0) sc__law_greatest_right.nd rfl (by first | exact Or.inl rfl | exact Or.inr rfl) (pe_lst (pa_cons (pcallG D__law_told hr (pa_cons pe_str pa_nil)) (pa_cons (pcallG D__law_told hr (pa_cons pe_str pa_nil)) (pa_cons (pcallG D__law_told hr (pa_cons pe_str pa_nil)) (pa_cons (pcallG D__law_told hr (pa_cons pe_str pa_nil)) pa_nil)))))) (pss_one (ps_ret (pe_cmpR (op_eqD hr.r.units) (pv 0) (pe_op op_cat (pe_lst (pa_cons (pe_callB (call_reprQ hr T.sys) (by rfl) T.n_repr (by decide +kernel) (pa_cons (pe_lst (pa_cons pe_str (pa_cons (pe_lst (pa_cons pe_int (pa_cons (pe_op op_pow pe_int pe_int) pa_nil))) pa_nil))) pa_nil)) pa_nil)) (pe_op op_rep (pe_lst (pa_cons (pe_callB (call_reprQ hr T.sys) (by rfl) T.n_repr (by decide +kernel) (pa_cons (pe_lst (pa_cons pe_str (pa_cons pe_int (pa_cons pe_bl pa_nil)))) pa_nil)) pa_nil)) pe_int)) (nomark _))))), ?_⟩)
  · obtain ⟨rfl, _⟩ := h
    rfl
  · obtain ⟨rfl, q⟩ := h
    refine ⟨_, rfl, .str _ (by decide +kernel), fun x e => ?_, fun z => by cases z⟩
    cases e
    refine ⟨by decide +kernel, fun ns rr H1 s1 => ?_, fun no => absurd read_g (no _)⟩
    have e1 : ns = [1, 1000000000] := rr.2.1.trans read_g.2.1.symm
    subst e1
    refine ⟨_, rfl, .str _ (by decide +kernel), fun x e => ?_, fun z => by cases z⟩
    cases e
    refine ⟨by decide +kernel, fun ns rr => absurd rr (nr1 ns), fun _ H2 s2 => ?_⟩
    refine ⟨_, rfl, .str _ (by decide +kernel), fun x e => ?_, fun z => by cases z⟩
    cases e
    refine ⟨by decide +kernel, fun ns rr => absurd rr (nr2 ns), fun _ H3 s3 => ?_⟩
    refine ⟨_, rfl, .str _ (by decide +kernel), fun x e => ?_, fun z => by cases z⟩
    cases e
    refine ⟨by decide +kernel, fun ns rr => absurd rr (nr3 ns), fun _ H4 s4 => ?_⟩
    have s14 := s1.trans (s2.trans (s3.trans s4))
    refine ⟨(by show 4 ≤ sizeLine; decide), fun L hL => ?_⟩
    have hL1 : (upd H4 L (.lst [.str (okD "read" [1, 1000000000]).shown, .str (noD "text" (.int 1)).shown, .str (noD "text" (.int 1)).shown, .str (noD "text" (.int 1)).shown])) L = some (.lst ([(okD "read" [1, 1000000000]).shown, (noD "text" (.int 1)).shown, (noD "text" (.int 1)).shown, (noD "text" (.int 1)).shown].map V.str)) := upd_same
    have s5 := s14.trans (same_upd (o := .lst [.str (okD "read" [1, 1000000000]).shown, .str (noD "text" (.int 1)).shown, .str (noD "text" (.int 1)).shown, .str (noD "text" (.int 1)).shown]) hL)
    generalize (upd H4 L (.lst [.str (okD "read" [1, 1000000000]).shown, .str (noD "text" (.int 1)).shown, .str (noD "text" (.int 1)).shown, .str (noD "text" (.int 1)).shown])) = G at *
    refine ⟨_, rfl, _, _, rfl, rfl, ⟨by decide, by decide, by decide⟩, (by show 2 ≤ sizeLine; decide), fun a ha => ⟨(by show 2 ≤ sizeLine; decide), fun t ht => ?_⟩⟩
    have u1 := (same_upd (o := .lst [.int 1, .int (10 ^ (9 : Int).toNat)]) ha).trans (same_upd (o := .lst [.str "read", .ref a]) ht)
    have ha2 : (upd (upd G a (.lst [.int 1, .int (10 ^ (9 : Int).toNat)])) t (.lst [.str "read", .ref a])) a = some (.lst ([1, 1000000000].map V.int)) := by rw [upd_ne (ne_of_none upd_same ht)]; exact upd_same
    have tq := ok_tq (K := K) "read" (by decide +kernel) good_g ha2 upd_same
    refine ⟨_, _, rfl, tq.dq, tq.sh, Nat.le_trans tq.dp (by decide), Nat.le_trans tq.ln (by decide), (by show 1 ≤ sizeLine; decide), fun b hb => ⟨(by show 3 ≤ sizeLine; decide), fun c hc => ?_⟩⟩
    have u2 := (u1.trans (same_upd (o := .lst [.str (okD "read" [1, 1000000000]).shown]) hb)).trans (same_upd (o := .lst [.str "text", .int 1, .bl true]) hc)
    have tq2 := no_tq (K := K) (d := .int 1) (m := 41) "text" (by decide +kernel) (by decide) ((tq_int (by decide) (by decide)).mono (by decide) (by decide)) (upd_same (H := upd (upd (upd G a (.lst [.int 1, .int (10 ^ (9 : Int).toNat)])) t (.lst [.str "read", .ref a])) b (.lst [.str (okD "read" [1, 1000000000]).shown])) (a := c) (o := .lst [.str (Str.ofString "text"), .int 1, .bl true]))
    have hb2 := same_upd (o := .lst [.str "text", .int 1, .bl true]) hc b _ (upd_same (H := upd (upd G a (.lst [.int 1, .int (10 ^ (9 : Int).toNat)])) t (.lst [.str "read", .ref a])) (a := b) (o := .lst [.str (okD "read" [1, 1000000000]).shown]))
    generalize (upd (upd (upd (upd G a (.lst [.int 1, .int (10 ^ (9 : Int).toNat)])) t (.lst [.str "read", .ref a])) b (.lst [.str (okD "read" [1, 1000000000]).shown])) c (.lst [.str "text", .int 1, .bl true])) = G2 at *
    refine ⟨_, _, rfl, tq2.dq, tq2.sh, Nat.le_trans tq2.dp (by decide), Nat.le_trans tq2.ln (by decide), (by show 1 ≤ sizeLine; decide), fun d hd => ?_⟩
    have u3 := same_upd (o := .lst [.str (noD "text" (.int 1)).shown]) hd
    refine ⟨d, 3, _, rfl, rfl, upd_same, by decide, by decide, by rw [sizeLine_eq]; decide, fun e he => ?_⟩
    have u4 := u3.trans (same_upd (o := .lst [.str (noD "text" (.int 1)).shown, .str (noD "text" (.int 1)).shown, .str (noD "text" (.int 1)).shown]) he)
    refine ⟨b, e, _, _, rfl, rfl, u4 _ _ hb2, upd_same, by rw [sizeLine_eq]; decide, fun f2 hf => ?_⟩
    have u5 := u2.trans (u4.trans (same_upd (o := .lst [.str (okD "read" [1, 1000000000]).shown, .str (noD "text" (.int 1)).shown, .str (noD "text" (.int 1)).shown, .str (noD "text" (.int 1)).shown]) hf))
    exact eq_strs (by decide +kernel) (u5 _ _ hL1) upd_same (q _ (s5.trans u5))
end
end K11

set_option Elab.async false
set_option linter.all false
set_option maxRecDepth 100000
set_option maxHeartbeats 4000000
set_option pp.maxSteps 900
namespace K11
open PySem PySem.Spec PyProof.Rows L2 Gu Ex
def trues (i : Nat) : List V := (List.replicate i true).map V.bl
theorem trues_more (i : Nat) : trues i ++ [V.bl true] = trues (i + 1) := by
  unfold trues
  rw [show [V.bl true] = [true].map V.bl from rfl, ← List.map_append, ← List.replicate_succ']
theorem trues_len (i : Nat) : (trues i).length = i := by
  unfold trues
  rw [List.length_map, List.length_replicate]
theorem all_trues (i : Nat) : (List.replicate i true).all id = true := by
  rw [List.all_eq_true]
  intro b hb
  rw [(List.mem_replicate.mp hb).2]
  rfl
section
variable {P : Program} {w : World} {K : PySem.W.Frag} {mg : Str → Option Value} {base : Heap} {f : Addr} {fd : FuncData}
def spLaw (K : PySem.W.Frag) : Sp := fun vs H Q _ => ∃ (a : Addr) (ns : List Int), vs = [.ref a] ∧ SqL K H a (ns.map V.int) ∧ ns.length ≤ 63 ∧ ∀ H', Q (.bl true) H'
theorem sc_law : FnScope ["_law_script", "_law_k"] ["_law_script"] (defScope (top 30)) := ⟨rfl, rfl, rfl, by decide +kernel, rfl, by decide +kernel, by decide +kernel⟩
theorem ok_law (T : Tx K mg) (D__law_greatest_right : DfG P w K mg base 10 "_law_greatest_right" [] spGr) (D__law_rng : Df P w K mg base 1 "_law_rng" ["_law_script", "_law_k"] (spRng K)) (D__law_right : DfG P w K mg base 13 "_law_right" ["_law_rng_here"] spLright)
    (F : FnP K "law" "law" (top 30) f fd) : FnG P w K mg base CX0 14 f fd ["_law_script"] (spLaw K) := by
  obtain ⟨u2, c2⟩ := T.cS
  obtain ⟨u1, c1⟩ := T.cN
  obtain ⟨u3, c3⟩ := T.cM
  obtain ⟨u4, c4⟩ := T.cP
  refine okG F sc_law (fun vs H Q E h => ?_) (fun cdv A outer s H vs Q E hr h => ⟨_, PSs.nox (pss_cons (ps_if (pt_not (pt_val (pcallG0 D__law_greatest_right hr))) (pss_one (ps_ret pe_bl)) pss_nil) (pss_cons (ps_if (pt_cmpR op_ne (pe_callB (call_reprQ hr T.sys) (by rfl) T.n_repr (by decide +kernel) (pa_cons (pe_lst (pa_cons (ClX.pe_cval (pe_glob (v := .ref _) rfl T.g_Sizes rfl)) (pa_cons (ClX.pe_cval (pe_glob (v := .ref _) rfl T.g_Sizes rfl)) (pa_cons (ClX.pe_cval (pe_glob (v := .ref _) rfl T.g_Sizes rfl)) (pa_cons (ClX.pe_cval (pe_glob (v := .ref _) rfl T.g_Sizes rfl)) pa_nil))))) pa_nil)) (pe_callB (call_reprQ hr T.sys) (by rfl) T.n_repr (by decide +kernel) (pa_cons (pe_lst (pa_cons pe_int (pa_cons (pe_op op_pow pe_int pe_int) (pa_cons (pe_op op_pow pe_int pe_int) (pa_cons pe_int pa_nil))))) pa_nil)) (nomark _)) (pss_one (ps_ret pe_bl)) pss_nil) (pss_one (ps_ret (pe_callB (cr_all rfl) (by rfl) T.n_all (by decide +kernel) (pa_cons (pe_lc (own := [("_law_k", 1)]) (g := gName 1) rfl sc_law.nd (pi_range1 rfl T.n_range (pa_cons (pe_callB (call_max2 rfl) (by rfl) T.n_max (by decide +kernel) (pa_cons pe_int (pa_cons (pe_callB (call_min2 rfl) (by rfl) T.n_min (by decide +kernel) (pa_cons (pe_callB call_len_seq (by rfl) T.n_len (by decide +kernel) (pa_cons (pv 0) pa_nil)) (pa_cons pe_int pa_nil))) pa_nil))) pa_nil)) (blkOk_by (own := [("_law_k", 1)]) (N := ["_law_script", "_law_k"]) (sc := defScope (top 30)) (by decide +kernel)) (fun _ _ _ _ _ => pg_name (i := 1) sc_law.nd rfl (Or.inl rfl)) (fun _ _ _ _ _ => pts_nil) (fun _ _ _ _ _ => (pcallG D__law_right hr (pa_cons (pcall D__law_rng hr.r (pa_cons (pv 0) (pa_cons (pv 1) pa_nil))) pa_nil)))) pa_nil)))))), ?_⟩)
  · obtain ⟨a, ns, rfl, _⟩ := h
    rfl
  · obtain ⟨a, ns, rfl, hS, hlen, q⟩ := h
    refine ⟨rfl, fun H1 s1 => ⟨_, rfl, iteF ?_⟩⟩
    refine ⟨_, _, _, _, rfl, T.rd, c1, _, _, _, _, rfl, T.rd, c2, _, _, _, _, rfl, T.rd, c3, _, _, _, _, rfl, T.rd, c4, (by show 4 ≤ sizeLine; decide), fun t ht => ?_⟩
    have s2 := s1.trans (same_upd (o := .lst [.int 8, .int 1000000000, .int 1000000000000, .int 64]) ht)
    have tq := lim_tq (K := K) (upd_same (H := H1) (a := t) (o := .lst [.int 8, .int 1000000000, .int 1000000000000, .int 64]))
    refine ⟨_, _, rfl, tq.dq, tq.sh, Nat.le_trans tq.dp (by decide), Nat.le_trans tq.ln (by decide), _, _, rfl, rfl, ⟨by decide, by decide, by decide⟩, _, _, rfl, rfl, ⟨by decide, by decide, by decide⟩, (by show 4 ≤ sizeLine; decide), fun t2 ht2 => ?_⟩
    have s3 := s2.trans (same_upd (o := .lst [.int 8, .int 1000000000, .int 1000000000000, .int 64]) ht2)
    have tq2 := lim_tq (K := K) (upd_same (H := upd H1 t (.lst [.int 8, .int 1000000000, .int 1000000000000, .int 64])) (a := t2) (o := .lst [.int 8, .int 1000000000, .int 1000000000000, .int 64]))
    refine ⟨_, _, rfl, tq2.dq, tq2.sh, Nat.le_trans tq2.dp (by decide), Nat.le_trans tq2.ln (by decide), rfl, false, by rw [decide_eq_true rfl]; rfl, iteF ?_⟩
    have hS3 := s3.seq hS
    obtain ⟨H3, e3⟩ : ∃ H3, upd (upd H1 t (.lst [.int 8, .int 1000000000, .int 1000000000000, .int 64])) t2 (.lst [.int 8, .int 1000000000, .int 1000000000000, .int 64]) = H3 := ⟨_, rfl⟩
    rw [show (upd (upd H1 t (.lst [.int 8, .int 1000000000, .int 1000000000000, .int 64])) t2 (.lst [.int 8, (fun (i j : Int) => V.int (i ^ j.toNat)) 10 9, (fun (i j : Int) => V.int (i ^ j.toNat)) 10 12, .int 64])) = H3 from e3]
    rw [e3] at hS3
    refine ⟨_, rfl, a, _, rfl, .inl hS3, _, _, rfl, _, _, rfl, ?_⟩
    obtain ⟨j, ej, j1, j2⟩ : ∃ j : Int, (if (if (4 : Int) < ((ns.map V.int).length : Int) then 4 else ((ns.map V.int).length : Int)) > 1 then (if (4 : Int) < ((ns.map V.int).length : Int) then 4 else ((ns.map V.int).length : Int)) else 1) = j ∧ 1 ≤ j ∧ j ≤ 4 := by
      refine ⟨_, rfl, ?_, ?_⟩
      · split <;> omega
      · split <;> split <;> omega
    refine ⟨j, (by rw [ej]), by omega, by omega, fun D hD => ?_⟩
    refine lc_range (fun i H' => H' D = some (.lst (trues i)) ∧ Same H3 H') ⟨upd_same, same_upd hD⟩ ?_ ?_
    · rintro i H' hi ⟨hD', sm⟩
      have hi2 : i < 4 := by omega
      refine ⟨rfl, _, rfl, _, rfl, a, ns, i, (by rw [Int.zero_add]; rfl), sm.seq hS3, by omega, fun p H1 hp sm1 rg => ?_⟩
      refine ⟨p, rfl, rg, fun H2 st => ?_⟩
      have hD1 : H1 D = some (.lst (trues i)) := sm1 _ _ hD'
      have nDp : D ≠ p := ne_of_none hD' hp
      refine ⟨_, st.2 D _ nDp hD1, small1000 (by rw [trues_len]; omega), by rw [upd_same, trues_more], fun b o e => ?_⟩
      have e' := sm b o e
      rw [upd_ne (ne_of_none e hD)]
      exact st.2 b o (ne_of_none e' hp) (sm1 b o e')
    · rintro H' ⟨hD', sm⟩
      refine ⟨D, List.replicate j.toNat true, rfl, SqL.of hD', ?_⟩
      rw [all_trues]
      exact q _
end
end K11

set_option Elab.async false
set_option linter.all false
set_option maxRecDepth 100000
set_option maxHeartbeats 0
namespace Ex
open PySem PySem.Spec PyProof.Rows L2 Gu
/-! ### facts of a class beyond those by names: constants, a property -/
def cvB (K : PySem.W.Frag) (C : Addr) (f : Str) (i : Int) : Bool := match PySem.W.findCls K (.ref C) (.type "type") f with
  | some (.val (.int j _)) => decide (j = i)
  | _ => false
theorem cvB_ok {K : PySem.W.Frag} {C : Addr} {f : Str} {i : Int} (h : cvB K C f i = true) : ∃ u, ClX.CVal K C (.type "type") f (.int i) u := by
  unfold cvB at h
  split at h
  · rename_i j t e
    have ej : j = i := of_decide_eq_true h
    exact ⟨_, e, t, by rw [ej]⟩
  · cases h
def rdB (K : PySem.W.Frag) (C : Addr) : Bool := PySem.W.readsIn K C (.type "type") && He.eqO (PySem.W.specialIn K (.ref C) "__getattribute__") (some (some (.builtin "type.__getattribute__")))
theorem rdB_ok {K : PySem.W.Frag} {C : Addr} (h : rdB K C = true) : ClX.CRead K C (.type "type") := by
  obtain ⟨h1, h2⟩ := He.ba h
  exact ⟨h1, He.eqO_ok h2⟩
def prA (K : PySem.W.Frag) (C : Addr) (f : Str) : Addr := match PySem.W.findIn K (.ref C) f with
  | some (some (.ref p)) => p
  | _ => 0
def pgA (K : PySem.W.Frag) (C : Addr) (f : Str) : Addr := match PySem.W.recIn K (prA K C f) "property" with
  | some (.ref g :: _) => g
  | _ => 0
def prB (K : PySem.W.Frag) (C : Addr) (f : Str) : Bool := He.eqO (PySem.W.findIn K (.ref C) f) (some (some (.ref (prA K C f)))) &&
  (He.eqO (PySem.W.specialIn K (.ref (prA K C f)) "__get__") (some (some (.builtin "property.__get__"))) && (decide (PySem.W.takesIn K (.ref (prA K C f)) = some true) &&
    (match PySem.W.recIn K (prA K C f) "property" with
    | some (.ref _ :: _) => true
    | _ => false)))
theorem prB_ok {K : PySem.W.Frag} {C : Addr} {f : Str} (h : prB K C f = true) : PropOf K C f (prA K C f) (pgA K C f) := by
  obtain ⟨h1, h⟩ := He.ba h
  obtain ⟨h2, h⟩ := He.ba h
  obtain ⟨h3, h4⟩ := He.ba h
  refine ⟨He.eqO_ok h1, He.eqO_ok h2, of_decide_eq_true h3, ?_⟩
  unfold pgA
  split at h4
  · rename_i g r e
    rw [e]
    exact ⟨r, rfl⟩
  · cases h4
/-- the def at an address -/
def fnAt (K : PySem.W.Frag) (a : Addr) : He.FnW := match K.lookup a with
  | some ⟨_, _, .func fd, _⟩ => some (fd.name, fd.qualname, fd.params, fd.body, fd.scope, fd.globals, fd.closure, fd.builtins)
  | _ => none
def okAt (K : PySem.W.Frag) (a : Addr) (qual : Str) : Bool := PySem.W.keepIn K (.ref a) && (match K.lookup a with
  | some ⟨_, _, .func fd, _⟩ => PySem.W.codeIn K fd.code qual && (He.dflB K fd.defaults [] && He.kwdB K fd.kwdefaults [])
  | _ => false)
theorem fun_at {K : PySem.W.Frag} {a : Addr} {name qual : Str} {params : Arguments} {body : List Stmt} {scope : Scope} (e : fnAt K a = some (name, qual, params, .stmts body, scope, mainGlobals, [], builtinsNs)) (c : okAt K a qual = true) :
    ∃ fd, FunD K name qual params body scope [] [] a fd := by
  obtain ⟨kp, c2⟩ := He.ba c
  unfold fnAt at e
  split at e
  · rename_i oc od fd sl q
    rw [q] at c2
    obtain ⟨k1, k2⟩ := He.ba c2
    obtain ⟨k3, k4⟩ := He.ba k2
    obtain ⟨n1, n2, n3, n4, n5, n6, n7, n8, n9, n10, n11, n12, n13, n14, n15⟩ := fd
    simp only [Option.some.injEq, Prod.mk.injEq] at e
    obtain ⟨rfl, rfl, rfl, rfl, rfl, rfl, rfl, rfl⟩ := e
    exact ⟨_, ⟨oc, od, n8, n9, n10, n11, n12, n13, n14, sl, rfl, q, k1, He.dflB_ok k3, He.kwdB_ok k4⟩, kp⟩
  · cases e
def sysB (K : PySem.W.Frag) : Bool := match K.lookup sysModules with
  | some o => decide (o.cls ≠ .type "list")
  | none => false
end Ex

set_option Elab.async false
set_option linter.all false
set_option maxRecDepth 100000
set_option maxHeartbeats 0
namespace Ex
open PySem PySem.Spec PyProof.Rows L2 Gu
/-! ### facts for the end: constants read through an object, classmethods, methods and makers by keywords alone, an error's class over ValueError -/
def conB (K : PySem.W.Frag) (C : Addr) (f : Str) (i : Int) : Bool := match PySem.W.findIn K (.ref C) f with
  | some (some (.int j t)) => decide (j = i) && (He.eqO (PySem.W.specialIn K (.int j t) "__get__") (some none) && !PySem.W.copiedNames.contains f)
  | _ => false
theorem conB_ok {K : PySem.W.Frag} {C : Addr} {f : Str} {i : Int} (h : conB K C f i = true) : ∃ u, Con K C f (.int i) u := by
  unfold conB at h
  split at h
  · rename_i j t e
    obtain ⟨h1, h2⟩ := He.ba h
    obtain ⟨h3, h4⟩ := He.ba h2
    have ej : j = i := of_decide_eq_true h1
    exact ⟨_, e, ⟨t, by rw [ej]⟩, He.eqO_ok h3, by simpa using h4⟩
  · cases h
def cmP (K : PySem.W.Frag) (C : Addr) (m : Str) : Addr := match PySem.W.findCls K (.ref C) (.type "type") m with
  | some (.get _ (.ref p) _ _) => p
  | _ => 0
def cmA (K : PySem.W.Frag) (C : Addr) (m : Str) : Addr := match PySem.W.recIn K (cmP K C m) "classmethod" with
  | some (.ref g :: _) => g
  | _ => 0
def cmB (K : PySem.W.Frag) (C : Addr) (m : Str) : Bool := (match PySem.W.findCls K (.ref C) (.type "type") m with
  | some (.get (.builtin n) (.ref _) .none (.ref c)) => decide (n = "classmethod.__get__") && decide (c = C)
  | _ => false) && ((match PySem.W.recIn K (cmP K C m) "classmethod" with
  | some (.ref _ :: _) => true
  | _ => false) && PySem.W.fnIn K (cmA K C m))
theorem cmB_ok {K : PySem.W.Frag} {C : Addr} {m : Str} (h : cmB K C m = true) : ClX.CMet K C (.type "type") m (cmP K C m) (cmA K C m) := by
  obtain ⟨h1, h⟩ := He.ba h
  obtain ⟨h2, h3⟩ := He.ba h
  refine ⟨?_, ?_, h3⟩
  · unfold cmP
    split at h1
    · rename_i n p c e
      obtain ⟨e1, e2⟩ := He.ba h1
      have e1 : n = "classmethod.__get__" := of_decide_eq_true e1
      have e2 : c = C := of_decide_eq_true e2
      rw [e, e1, e2]
    · cases h1
  · unfold cmA
    split at h2
    · rename_i g r e
      rw [e]
      exact ⟨r, rfl⟩
    · cases h2
/-- keywords alone, behind self or cls -/
theorem bindsKw {K : PySem.W.Frag} {name qual : Str} {params : Arguments} {body : List Stmt} {scope : Scope} {f : Addr} {ps ks : List Str} {j : List Nat} {fd : FuncData} (F : FunD K name qual params body scope [] [] f fd)
    (hb : ∀ (kV doc pm : Value) (an : Option Addr) (cdv ct u : Value) (ws : List Value), ws.length = ks.length → bindArgs (PySem.W.fnOf name qual params body scope .none kV doc pm an cdv ct) ⟨[u], ks.zip ws⟩ = pure (ps.zip (u :: j.filterMap fun i => ws[i]?))) :
    ∀ (s : Shared) (u : Value) (ws : List Value), ws.length = ks.length → BindsTo s fd ⟨[u], ks.zip ws⟩ (ps.zip (u :: j.filterMap fun i => ws[i]?)) := by
  intro s u ws hl
  obtain ⟨oc, od, dV, kV, doc, pm, an, cdv, ct, osl, rfl, lk, hcd, hD, hK⟩ := F.ex
  rcases hD with ⟨_, rfl⟩ | ⟨e, _⟩
  · exact .of_eq (hb kV doc pm an cdv ct u ws hl)
  · exact absurd rfl e
theorem refs_VE (l : List Value) (h : refsB (tailE "ValueError") l = true) : PySem.HandSPX.refsVE l = true := by
  induction l with
  | nil => exact absurd h (by decide +kernel)
  | cons v r ih =>
    rcases refsB_two _ _ h with ⟨c, r', e, h'⟩ | e
    · injection e with e1 e2
      subst e1 e2
      exact ih h'
    · rw [e]
      decide +kernel
theorem ErrG.oxC {K : PySem.W.Frag} {C : Addr} {n : Str} (e : ErrG "ValueError" K C n) : OexC K C := by
  obtain ⟨b, ⟨nm, q, N, bs, bm, sn, sub, ab, col, dd, k0, k1, k2, k3, k5, hC, mr⟩, sa, ex, ty, kC⟩ := e.ox
  exact ⟨⟨nm, q, N, bs, bm, sn, sub, ab, col, dd, k0, k1, k2, k3, k5, hC, refs_VE bm mr⟩, sa, ex, ty, kC⟩
end Ex

set_option Elab.async false
set_option linter.all false
set_option maxRecDepth 100000
set_option maxHeartbeats 0
namespace K11
open PySem PySem.Spec PyProof.Rows L2 Gu Ex
abbrev R : PySem.W.OpenRow := PySem.W.OpenLaw.row PySem.Challenge.rw_exactroom_k11_sizes_read_and_equal
def dOf (a : Str × Option Str) (x q : Str) (st : Stmt) : He.DefD := ⟨a, x, q, defArgs st, defBody st, defScope st, [], []⟩
def dOfK (a : Str × Option Str) (x q : Str) (st : Stmt) (kw : List (Str × He.Dv)) : He.DefD := ⟨a, x, q, defArgs st, defBody st, defScope st, [], kw⟩
def fn : List He.DefD := [dOf ("is_integer", none) "is_integer" "is_integer" (top 10),
  dOf ("read_integer", none) "read_integer" "read_integer" (top 11),
  dOf ("size_problem", none) "size_problem" "size_problem" (top 12),
  dOf ("check_sizes", none) "check_sizes" "check_sizes" (top 13),
  dOf ("Sizes", some "__init__") "__init__" "Sizes.__init__" (inClass (top 14) 4),
  dOf ("Sizes", some "all_sizes") "all_sizes" "Sizes.all_sizes" (inClass (top 14) 11),
  dOf ("Sizes", some "has_level") "has_level" "Sizes.has_level" (inClass (top 14) 12),
  dOf ("Sizes", some "check_level") "check_level" "Sizes.check_level" (inClass (top 14) 13),
  dOf ("Sizes", some "size") "size" "Sizes.size" (inClass (top 14) 14),
  dOf ("Sizes", some "__eq__") "__eq__" "Sizes.__eq__" (inClass (top 14) 5),
  dOf ("Sizes", some "__len__") "__len__" "Sizes.__len__" (inClass (top 14) 6),
  dOf ("Sizes", some "__repr__") "__repr__" "Sizes.__repr__" (inClass (top 14) 7),
  dOf ("InvalidSizes", some "__init__") "__init__" "InvalidSizes.__init__" (inClass (top 3) 0),
  dOf ("InvalidCount", some "__init__") "__init__" "InvalidCount.__init__" (inClass (top 5) 0),
  dOf ("InvalidText", some "__init__") "__init__" "InvalidText.__init__" (inClass (top 6) 0),
  dOf ("_law_rng", none) "_law_rng" "_law_rng" (top 16),
  dOf ("_law_draw", none) "_law_draw" "_law_draw" (top 17),
  dOf ("_law_choice", none) "_law_choice" "_law_choice" (top 18),
  dOf ("_law_sizes", none) "_law_sizes" "_law_sizes" (top 19),
  dOf ("_law_read", none) "_law_read" "_law_read" (top 20),
  dOf ("_law_bent", none) "_law_bent" "_law_bent" (top 21),
  dOf ("_law_told", none) "_law_told" "_law_told" (top 22),
  dOf ("_law_counted", none) "_law_counted" "_law_counted" (top 23),
  dOf ("_law_texts_right", none) "_law_texts_right" "_law_texts_right" (top 24),
  dOf ("_law_counts_right", none) "_law_counts_right" "_law_counts_right" (top 25),
  dOf ("_law_equal", none) "_law_equal" "_law_equal" (top 26),
  dOf ("_law_stands", none) "_law_stands" "_law_stands" (top 27),
  dOf ("_law_right", none) "_law_right" "_law_right" (top 28),
  dOf ("_law_greatest_right", none) "_law_greatest_right" "_law_greatest_right" (top 29),
  dOf ("law", none) "law" "law" (top 30)]
def fa : List He.Fa := [.glo "is_integer", .glo "read_integer", .glo "size_problem", .glo "check_sizes", .glo "_law_rng", .glo "_law_draw", .glo "_law_choice", .glo "_law_sizes", .glo "_law_read", .glo "_law_bent", .glo "_law_told", .glo "_law_counted", .glo "_law_texts_right", .glo "_law_counts_right", .glo "_law_equal", .glo "_law_stands", .glo "_law_right", .glo "_law_greatest_right", .glo "law", .glo "Sizes", .glo "InvalidSizes", .glo "RoomError", .glo "InvalidCount", .glo "InvalidText", .free "len", .free "isinstance", .free "int", .free "bool", .free "str", .free "list", .free "tuple", .free "range", .free "divmod", .free "abs", .free "max", .free "min", .free "all", .free "repr", .free "LookupError", .cls "Sizes", .noat "Sizes" "size_list", .mkr "Sizes", .str "DIGITS" "0123456789", .int "MAX_DIGITS" 4000, .meth "Sizes" "all_sizes", .meth "Sizes" "has_level", .meth "Sizes" "check_level", .meth "Sizes" "size", .meth "Sizes" "__len__", .meth "Sizes" "__repr__"]
def exB (K : PySem.W.Frag) : Bool := (rdB K (He.ga K "Sizes") && (cvB K (He.ga K "Sizes") "MAX_SIZE" 1000000000 && (cvB K (He.ga K "Sizes") "MAX_SIZES" 8 && (cvB K (He.ga K "Sizes") "MAX_CELLS" 1000000000000 && (cvB K (He.ga K "Sizes") "MAX_PIECES" 64 && (conB K (He.ga K "Sizes") "MAX_SIZES" 8 && (conB K (He.ga K "Sizes") "MAX_SIZE" 1000000000 && (conB K (He.ga K "Sizes") "MAX_CELLS" 1000000000000 && (conB K (He.ga K "Sizes") "MAX_PIECES" 64 && (sysB K && (errG "ValueError" K (cE K) "problem" && (He.eqO (PySem.W.findIn K (.ref (cE K)) "position") (some none) && (errG "ValueError" K (cC K) "value" && (errG "ValueError" K (cX K) "line" && (bOf (PySem.W.kitOne K (.ref (cX K)) (.ref (He.ga K "RoomError"))) true && (bOf (PySem.W.kitAny K (.ref (cX K)) [.ref (cE K), .ref (cC K), .type "LookupError"]) false && (bOf (PySem.W.kitOne K (.ref (cC K)) (.ref (He.ga K "RoomError"))) true && (bOf (PySem.W.kitAny K (.ref (cC K)) [.ref (cE K), .ref (cX K), .type "LookupError"]) false && (buB K (He.ga K "Sizes") && (eqB K (He.ga K "Sizes") && (neB K (He.ga K "Sizes") && (insB K (He.ga K "Sizes") && (prB K (He.ga K "Sizes") "top" && (okAt K (pgA K (He.ga K "Sizes") "top") "Sizes.top" && (cmB K (He.ga K "Sizes") "doubling" && (okAt K (cmA K (He.ga K "Sizes") "doubling") "Sizes.doubling" && (cmB K (He.ga K "Sizes") "from_text" && (okAt K (cmA K (He.ga K "Sizes") "from_text") "Sizes.from_text" && true))))))))))))))))))))))))))))
def v_top : He.FnW := some ("top", "Sizes.top", defArgs (inClass (top 14) 10), .stmts (defBody (inClass (top 14) 10)), defScope (inClass (top 14) 10), mainGlobals, [], builtinsNs)
def v_doubling : He.FnW := some ("doubling", "Sizes.doubling", defArgs (inClass (top 14) 8), .stmts (defBody (inClass (top 14) 8)), defScope (inClass (top 14) 8), mainGlobals, [], builtinsNs)
def v_from_text : He.FnW := some ("from_text", "Sizes.from_text", defArgs (inClass (top 14) 9), .stmts (defBody (inClass (top 14) 9)), defScope (inClass (top 14) 9), mainGlobals, [], builtinsNs)
abbrev AlE : Type := He.AlD × Bool × He.FnW × He.FnW × He.FnW
def ob0 (K : PySem.W.Frag) : AlE := (He.obsD fa fn K, exB K, fnAt K (pgA K (He.ga K "Sizes") "top"), fnAt K (cmA K (He.ga K "Sizes") "doubling"), fnAt K (cmA K (He.ga K "Sizes") "from_text"))
def vl0 : AlE := (He.valD fn, true, v_top, v_doubling, v_from_text)
def ob1 (g : Addr → Option Obj) : AlE := ob0 (He.frG g (cStatics :: sysModules :: He.asD g 6))
def hk : PySem.W.Hook where
  α := AlE
  obs := fun s => ob1 s.heap.get?
  val := fun _ => vl0
  says := fun _ h => ∃ K : PySem.W.Frag, K.In h ∧ ob0 K = vl0
  of := fun _ _ e => ⟨_, He.frG_in, e⟩
  keeps := fun _ _ _ ⟨K, hK, c⟩ k => ⟨K, PySem.W.Frag.In.keeps hK k, c⟩
def ob (s : PySem.W.SharedT) : AlE := ob1 (HandSHeadRun.getT s)
theorem ob_eq (s : PySem.W.SharedT) : ob s = hk.obs s.abs := by
  have e : HandSHeadRun.getT s = s.abs.heap.get? := funext (HandSHeadRun.getT_eq s)
  show ob1 (HandSHeadRun.getT s) = ob1 s.abs.heap.get?
  rw [e]
def loose : List Str := ("_wall" : Str) :: ("RoomError" : Str) :: ("InvalidSizes" : Str) :: ("InvalidLevel" : Str) :: ("InvalidCount" : Str) :: ("InvalidText" : Str) :: ("DIGITS" : Str) :: ("MAX_DIGITS" : Str) :: ("is_integer" : Str) :: ("read_integer" : Str) :: ("size_problem" : Str) :: ("check_sizes" : Str) :: ("Sizes" : Str) :: ("_law_rng" : Str) :: ("_law_draw" : Str) :: ("_law_choice" : Str) :: ("_law_sizes" : Str) :: ("_law_read" : Str) :: ("_law_bent" : Str) :: ("_law_told" : Str) :: ("_law_counted" : Str) :: ("_law_texts_right" : Str) :: ("_law_counts_right" : Str) :: ("_law_equal" : Str) :: ("_law_stands" : Str) :: ("_law_right" : Str) :: ("_law_greatest_right" : Str) :: []
theorem run (w : World) : HandSHeadRun.RunEq R (PySem.W.view R.prog [30]) hk ob 4000 loose w := by
  intro os
  kernel_rfl
section
variable {P : Program} {w : World} {K : PySem.W.Frag} {h : Heap} {mg : Str → Option Value} {base : Heap}
theorem tx (X : K.In h) (G : h.Ns mainGlobals mg) (c : He.SaysD fa fn K) (x : exB K = true) : Tx K mg := by
  obtain ⟨x1, x⟩ := He.ba x
  obtain ⟨x2, x⟩ := He.ba x
  obtain ⟨x3, x⟩ := He.ba x
  obtain ⟨x4, x⟩ := He.ba x
  obtain ⟨x5, x⟩ := He.ba x
  obtain ⟨x6, x⟩ := He.ba x
  obtain ⟨x7, x⟩ := He.ba x
  obtain ⟨x8, x⟩ := He.ba x
  obtain ⟨x9, x⟩ := He.ba x
  obtain ⟨x10, x⟩ := He.ba x
  obtain ⟨x11, x⟩ := He.ba x
  obtain ⟨x12, x⟩ := He.ba x
  obtain ⟨x13, x⟩ := He.ba x
  obtain ⟨x14, x⟩ := He.ba x
  obtain ⟨x15, x⟩ := He.ba x
  obtain ⟨x16, x⟩ := He.ba x
  obtain ⟨x17, x⟩ := He.ba x
  obtain ⟨x18, x⟩ := He.ba x
  obtain ⟨x19, x⟩ := He.ba x
  obtain ⟨x20, x⟩ := He.ba x
  obtain ⟨x21, x⟩ := He.ba x
  obtain ⟨x22, x⟩ := He.ba x
  obtain ⟨xp_top, x⟩ := He.ba x
  obtain ⟨xo_top, x⟩ := He.ba x
  obtain ⟨xp_doubling, x⟩ := He.ba x
  obtain ⟨xo_doubling, x⟩ := He.ba x
  obtain ⟨xp_from_text, x⟩ := He.ba x
  obtain ⟨xo_from_text, x⟩ := He.ba x
  have hsys : SysOk K := by
    unfold sysB at x10
    split at x10
    · rename_i o e
      exact ⟨o, e, of_decide_eq_true x10⟩
    · cases x10
  have eo := errG_ok base_VE x11
  have eC := errG_ok base_VE x13
  have eX := errG_ok base_VE x14
  exact ⟨He.free_ok X G (c.fact 24 (f := .free "len") rfl),
    He.free_ok X G (c.fact 25 (f := .free "isinstance") rfl),
    He.free_ok X G (c.fact 26 (f := .free "int") rfl),
    He.free_ok X G (c.fact 27 (f := .free "bool") rfl),
    He.free_ok X G (c.fact 28 (f := .free "str") rfl),
    He.free_ok X G (c.fact 29 (f := .free "list") rfl),
    He.free_ok X G (c.fact 30 (f := .free "tuple") rfl),
    He.free_ok X G (c.fact 31 (f := .free "range") rfl),
    He.free_ok X G (c.fact 32 (f := .free "divmod") rfl),
    He.free_ok X G (c.fact 33 (f := .free "abs") rfl),
    He.free_ok X G (c.fact 34 (f := .free "max") rfl),
    He.free_ok X G (c.fact 35 (f := .free "min") rfl),
    He.free_ok X G (c.fact 36 (f := .free "all") rfl),
    He.free_ok X G (c.fact 37 (f := .free "repr") rfl),
    He.free_ok X G (c.fact 38 (f := .free "LookupError") rfl),
    He.glo_ok X G (c.fact 19 (f := .glo "Sizes") rfl),
    He.cls_ok (c.fact 39 (f := .cls "Sizes") rfl),
    He.noat_ok (c.fact 40 (f := .noat "Sizes" "size_list") rfl),
    rdB_ok x1,
    cvB_ok x2,
    cvB_ok x3,
    cvB_ok x4,
    cvB_ok x5,
    hsys,
    He.glo_ok X G (c.fact 20 (f := .glo "InvalidSizes") rfl),
    eo.oxC,
    eo.ox,
    eo.no,
    He.eqO_ok x12,
    eo.ii,
    eo.ti,
    eo.em,
    He.glo_ok X G (c.fact 21 (f := .glo "RoomError") rfl),
    He.glo_ok X G (c.fact 22 (f := .glo "InvalidCount") rfl),
    He.glo_ok X G (c.fact 23 (f := .glo "InvalidText") rfl),
    eC,
    eX,
    eX.oxC,
    He.str_ok X G (c.fact 42 (f := .str "DIGITS" "0123456789") rfl),
    He.int_ok X G (c.fact 43 (f := .int "MAX_DIGITS" 4000) rfl),
    bOf_ok x15,
    bOf_ok x16,
    bOf_ok x17,
    bOf_ok x18,
    buB_ok x19,
    neB_ok x21,
    insB_ok (He.cls_ok (c.fact 39 (f := .cls "Sizes") rfl)) x22⟩
theorem df {x : Str} {ps : List Str} {sp : Sp} {k : Nat} {st : Stmt} {fd : FuncData} (X : K.In h) (G : h.Ns mainGlobals mg) (g : (He.Fa.glo x).ok K = true) (F : FnP K x x st (He.ga K x) fd)
    (hb : ∀ (kV doc pm : Value) (an : Option Addr) (cdv ct : Value) (us : List Value), us.length = ps.length → bindArgs (PySem.W.fnOf x x (defArgs st) (defBody st) (defScope st) .none kV doc pm an cdv ct) ⟨us, []⟩ = pure (ps.zip us))
    (ok : FnOk P w K mg base CX0 k (He.ga K x) fd ps sp) : Df P w K mg base k x ps sp := ⟨⟨fd, ok, F.bindsN hb⟩, He.glo_ok X G g, F.kp⟩
theorem dfG {x : Str} {ps : List Str} {sp : Sp} {k : Nat} {st : Stmt} {fd : FuncData} (X : K.In h) (G : h.Ns mainGlobals mg) (g : (He.Fa.glo x).ok K = true) (F : FnP K x x st (He.ga K x) fd)
    (hb : ∀ (kV doc pm : Value) (an : Option Addr) (cdv ct : Value) (us : List Value), us.length = ps.length → bindArgs (PySem.W.fnOf x x (defArgs st) (defBody st) (defScope st) .none kV doc pm an cdv ct) ⟨us, []⟩ = pure (ps.zip us))
    (ok : FnG P w K mg base CX0 k (He.ga K x) fd ps sp) : DfG P w K mg base k x ps sp := ⟨⟨fd, ok, F.bindsN hb⟩, He.glo_ok X G g, F.kp⟩
theorem dfN {x : Str} {ps : List Str} {sp : Sp} {k : Nat} {st : Stmt} {fd : FuncData} (X : K.In h) (G : h.Ns mainGlobals mg) (g : (He.Fa.glo x).ok K = true) (F : FnP K x x st (He.ga K x) fd)
    (hb : ∀ (kV doc pm : Value) (an : Option Addr) (cdv ct : Value) (us : List Value), us.length = ps.length → bindArgs (PySem.W.fnOf x x (defArgs st) (defBody st) (defScope st) .none kV doc pm an cdv ct) ⟨us, []⟩ = pure (ps.zip us))
    (ok : FnOk P w K mg base (L2N.CX P w) k (He.ga K x) fd ps sp) : DfN P w K mg base k x ps sp := ⟨⟨fd, ok, F.bindsN hb⟩, He.glo_ok X G g, F.kp⟩
theorem dfK {x : Str} {ps ks : List Str} {j : List Nat} {sp : Sp} {k : Nat} {st : Stmt} {fd : FuncData} (X : K.In h) (G : h.Ns mainGlobals mg) (g : (He.Fa.glo x).ok K = true) (F : FnP K x x st (He.ga K x) fd)
    (hb : ∀ (kV doc pm : Value) (an : Option Addr) (cdv ct : Value) (ws : List Value), ws.length = ks.length → bindArgs (PySem.W.fnOf x x (defArgs st) (defBody st) (defScope st) .none kV doc pm an cdv ct) ⟨[], ks.zip ws⟩ = pure (ps.zip (j.filterMap fun i => ws[i]?)))
    (ok : FnOk P w K mg base CX0 k (He.ga K x) fd ps sp) : DfK P w K mg base k x ps ks j sp := by
  refine ⟨⟨fd, ok, fun s ws hl => ?_⟩, He.glo_ok X G g, F.kp⟩
  obtain ⟨oc, od, dV, kV, doc, pm, an, cdv, ct, osl, rfl, lk, hcd, hD, hK⟩ := F.ex
  rcases hD with ⟨_, rfl⟩ | ⟨e, _⟩
  · exact .of_eq (hb kV doc pm an cdv ct ws hl)
  · exact absurd rfl e
theorem facts {f : Addr} (X : K.In h) (G : h.Ns mainGlobals mg) (hfa : mg ("law" : Str) = some (.ref f)) (c0 : ob0 K = vl0) :
    ∃ fd : FuncData, (∀ (s : Shared) (v : Value), BindsTo s fd ⟨[v], []⟩ [("_law_script", v)]) ∧ ∀ base : Heap, K.In base → base.Ns mainGlobals mg → FnG P w K mg base CX0 14 f fd ["_law_script"] (spLaw K) := by
  have c : He.SaysD fa fn K := congrArg (fun z : AlE => z.1) c0
  have x : exB K = true := congrArg (fun z : AlE => z.2.1) c0
  have vt_top : fnAt K (pgA K (He.ga K "Sizes") "top") = v_top := congrArg (fun z : AlE => z.2.2.1) c0
  have vt_doubling : fnAt K (cmA K (He.ga K "Sizes") "doubling") = v_doubling := congrArg (fun z : AlE => z.2.2.2.1) c0
  have vt_from_text : fnAt K (cmA K (He.ga K "Sizes") "from_text") = v_from_text := congrArg (fun z : AlE => z.2.2.2.2) c0
  have T := tx X G c x
  obtain ⟨x1, x⟩ := He.ba x
  obtain ⟨x2, x⟩ := He.ba x
  obtain ⟨x3, x⟩ := He.ba x
  obtain ⟨x4, x⟩ := He.ba x
  obtain ⟨x5, x⟩ := He.ba x
  obtain ⟨x6, x⟩ := He.ba x
  obtain ⟨x7, x⟩ := He.ba x
  obtain ⟨x8, x⟩ := He.ba x
  obtain ⟨x9, x⟩ := He.ba x
  obtain ⟨x10, x⟩ := He.ba x
  obtain ⟨x11, x⟩ := He.ba x
  obtain ⟨x12, x⟩ := He.ba x
  obtain ⟨x13, x⟩ := He.ba x
  obtain ⟨x14, x⟩ := He.ba x
  obtain ⟨x15, x⟩ := He.ba x
  obtain ⟨x16, x⟩ := He.ba x
  obtain ⟨x17, x⟩ := He.ba x
  obtain ⟨x18, x⟩ := He.ba x
  obtain ⟨x19, x⟩ := He.ba x
  obtain ⟨x20, x⟩ := He.ba x
  obtain ⟨x21, x⟩ := He.ba x
  obtain ⟨x22, x⟩ := He.ba x
  obtain ⟨xp_top, x⟩ := He.ba x
  obtain ⟨xo_top, x⟩ := He.ba x
  obtain ⟨xp_doubling, x⟩ := He.ba x
  obtain ⟨xo_doubling, x⟩ := He.ba x
  obtain ⟨xp_from_text, x⟩ := He.ba x
  obtain ⟨xo_from_text, x⟩ := He.ba x
  obtain ⟨fdP_top, FP_top⟩ := fun_at vt_top xo_top
  obtain ⟨fdP_doubling, FP_doubling⟩ := fun_at vt_doubling xo_doubling
  obtain ⟨fdP_from_text, FP_from_text⟩ := fun_at vt_from_text xo_from_text
  obtain ⟨fd0, F0⟩ : ∃ fd, FnP K "is_integer" "is_integer" (top 10) (He.ga K "is_integer") fd := c.def_ 0 (d := dOf ("is_integer", none) "is_integer" "is_integer" (top 10)) rfl
  obtain ⟨fd1, F1⟩ : ∃ fd, FnP K "read_integer" "read_integer" (top 11) (He.ga K "read_integer") fd := c.def_ 1 (d := dOf ("read_integer", none) "read_integer" "read_integer" (top 11)) rfl
  obtain ⟨fd2, F2⟩ : ∃ fd, FnP K "size_problem" "size_problem" (top 12) (He.ga K "size_problem") fd := c.def_ 2 (d := dOf ("size_problem", none) "size_problem" "size_problem" (top 12)) rfl
  obtain ⟨fd3, F3⟩ : ∃ fd, FnP K "check_sizes" "check_sizes" (top 13) (He.ga K "check_sizes") fd := c.def_ 3 (d := dOf ("check_sizes", none) "check_sizes" "check_sizes" (top 13)) rfl
  obtain ⟨fd4, F4⟩ : ∃ fd, FnP K "__init__" "Sizes.__init__" (inClass (top 14) 4) (He.ma K (He.ga K "Sizes") "__init__") fd := c.def_ 4 (d := dOf ("Sizes", some "__init__") "__init__" "Sizes.__init__" (inClass (top 14) 4)) rfl
  obtain ⟨fd5, F5⟩ : ∃ fd, FnP K "all_sizes" "Sizes.all_sizes" (inClass (top 14) 11) (He.ma K (He.ga K "Sizes") "all_sizes") fd := c.def_ 5 (d := dOf ("Sizes", some "all_sizes") "all_sizes" "Sizes.all_sizes" (inClass (top 14) 11)) rfl
  obtain ⟨fd6, F6⟩ : ∃ fd, FnP K "has_level" "Sizes.has_level" (inClass (top 14) 12) (He.ma K (He.ga K "Sizes") "has_level") fd := c.def_ 6 (d := dOf ("Sizes", some "has_level") "has_level" "Sizes.has_level" (inClass (top 14) 12)) rfl
  obtain ⟨fd7, F7⟩ : ∃ fd, FnP K "check_level" "Sizes.check_level" (inClass (top 14) 13) (He.ma K (He.ga K "Sizes") "check_level") fd := c.def_ 7 (d := dOf ("Sizes", some "check_level") "check_level" "Sizes.check_level" (inClass (top 14) 13)) rfl
  obtain ⟨fd8, F8⟩ : ∃ fd, FnP K "size" "Sizes.size" (inClass (top 14) 14) (He.ma K (He.ga K "Sizes") "size") fd := c.def_ 8 (d := dOf ("Sizes", some "size") "size" "Sizes.size" (inClass (top 14) 14)) rfl
  obtain ⟨fd9, F9⟩ : ∃ fd, FnP K "__eq__" "Sizes.__eq__" (inClass (top 14) 5) (He.ma K (He.ga K "Sizes") "__eq__") fd := c.def_ 9 (d := dOf ("Sizes", some "__eq__") "__eq__" "Sizes.__eq__" (inClass (top 14) 5)) rfl
  obtain ⟨fd10, F10⟩ : ∃ fd, FnP K "__len__" "Sizes.__len__" (inClass (top 14) 6) (He.ma K (He.ga K "Sizes") "__len__") fd := c.def_ 10 (d := dOf ("Sizes", some "__len__") "__len__" "Sizes.__len__" (inClass (top 14) 6)) rfl
  obtain ⟨fd11, F11⟩ : ∃ fd, FnP K "__repr__" "Sizes.__repr__" (inClass (top 14) 7) (He.ma K (He.ga K "Sizes") "__repr__") fd := c.def_ 11 (d := dOf ("Sizes", some "__repr__") "__repr__" "Sizes.__repr__" (inClass (top 14) 7)) rfl
  obtain ⟨fd12, F12⟩ : ∃ fd, FnP K "__init__" "InvalidSizes.__init__" (inClass (top 3) 0) (He.ma K (He.ga K "InvalidSizes") "__init__") fd := c.def_ 12 (d := dOf ("InvalidSizes", some "__init__") "__init__" "InvalidSizes.__init__" (inClass (top 3) 0)) rfl
  obtain ⟨fd13, F13⟩ : ∃ fd, FnP K "__init__" "InvalidCount.__init__" (inClass (top 5) 0) (He.ma K (He.ga K "InvalidCount") "__init__") fd := c.def_ 13 (d := dOf ("InvalidCount", some "__init__") "__init__" "InvalidCount.__init__" (inClass (top 5) 0)) rfl
  obtain ⟨fd14, F14⟩ : ∃ fd, FnP K "__init__" "InvalidText.__init__" (inClass (top 6) 0) (He.ma K (He.ga K "InvalidText") "__init__") fd := c.def_ 14 (d := dOf ("InvalidText", some "__init__") "__init__" "InvalidText.__init__" (inClass (top 6) 0)) rfl
  obtain ⟨fd15, F15⟩ : ∃ fd, FnP K "_law_rng" "_law_rng" (top 16) (He.ga K "_law_rng") fd := c.def_ 15 (d := dOf ("_law_rng", none) "_law_rng" "_law_rng" (top 16)) rfl
  obtain ⟨fd16, F16⟩ : ∃ fd, FnP K "_law_draw" "_law_draw" (top 17) (He.ga K "_law_draw") fd := c.def_ 16 (d := dOf ("_law_draw", none) "_law_draw" "_law_draw" (top 17)) rfl
  obtain ⟨fd17, F17⟩ : ∃ fd, FnP K "_law_choice" "_law_choice" (top 18) (He.ga K "_law_choice") fd := c.def_ 17 (d := dOf ("_law_choice", none) "_law_choice" "_law_choice" (top 18)) rfl
  obtain ⟨fd18, F18⟩ : ∃ fd, FnP K "_law_sizes" "_law_sizes" (top 19) (He.ga K "_law_sizes") fd := c.def_ 18 (d := dOf ("_law_sizes", none) "_law_sizes" "_law_sizes" (top 19)) rfl
  obtain ⟨fd19, F19⟩ : ∃ fd, FnP K "_law_read" "_law_read" (top 20) (He.ga K "_law_read") fd := c.def_ 19 (d := dOf ("_law_read", none) "_law_read" "_law_read" (top 20)) rfl
  obtain ⟨fd20, F20⟩ : ∃ fd, FnP K "_law_bent" "_law_bent" (top 21) (He.ga K "_law_bent") fd := c.def_ 20 (d := dOf ("_law_bent", none) "_law_bent" "_law_bent" (top 21)) rfl
  obtain ⟨fd21, F21⟩ : ∃ fd, FnP K "_law_told" "_law_told" (top 22) (He.ga K "_law_told") fd := c.def_ 21 (d := dOf ("_law_told", none) "_law_told" "_law_told" (top 22)) rfl
  obtain ⟨fd22, F22⟩ : ∃ fd, FnP K "_law_counted" "_law_counted" (top 23) (He.ga K "_law_counted") fd := c.def_ 22 (d := dOf ("_law_counted", none) "_law_counted" "_law_counted" (top 23)) rfl
  obtain ⟨fd23, F23⟩ : ∃ fd, FnP K "_law_texts_right" "_law_texts_right" (top 24) (He.ga K "_law_texts_right") fd := c.def_ 23 (d := dOf ("_law_texts_right", none) "_law_texts_right" "_law_texts_right" (top 24)) rfl
  obtain ⟨fd24, F24⟩ : ∃ fd, FnP K "_law_counts_right" "_law_counts_right" (top 25) (He.ga K "_law_counts_right") fd := c.def_ 24 (d := dOf ("_law_counts_right", none) "_law_counts_right" "_law_counts_right" (top 25)) rfl
  obtain ⟨fd25, F25⟩ : ∃ fd, FnP K "_law_equal" "_law_equal" (top 26) (He.ga K "_law_equal") fd := c.def_ 25 (d := dOf ("_law_equal", none) "_law_equal" "_law_equal" (top 26)) rfl
  obtain ⟨fd26, F26⟩ : ∃ fd, FnP K "_law_stands" "_law_stands" (top 27) (He.ga K "_law_stands") fd := c.def_ 26 (d := dOf ("_law_stands", none) "_law_stands" "_law_stands" (top 27)) rfl
  obtain ⟨fd27, F27⟩ : ∃ fd, FnP K "_law_right" "_law_right" (top 28) (He.ga K "_law_right") fd := c.def_ 27 (d := dOf ("_law_right", none) "_law_right" "_law_right" (top 28)) rfl
  obtain ⟨fd28, F28⟩ : ∃ fd, FnP K "_law_greatest_right" "_law_greatest_right" (top 29) (He.ga K "_law_greatest_right") fd := c.def_ 28 (d := dOf ("_law_greatest_right", none) "_law_greatest_right" "_law_greatest_right" (top 29)) rfl
  obtain ⟨fd29, F29⟩ : ∃ fd, FnP K "law" "law" (top 30) (He.ga K "law") fd := c.def_ 29 (d := dOf ("law", none) "law" "law" (top 30)) rfl
  have e := hfa.symm.trans (He.glo_ok X G (c.fact 18 (f := .glo "law") rfl))
  cases e
  have b := FunD.bindsA (ps := ["_law_script"]) F29 (fun _ _ _ _ _ _ us hl => match us, hl with | [_], _ => rfl)
  refine ⟨_, fun s v => b s [v] rfl, fun base _ _ => ?_⟩
  have D_is_integer := df (P := P) (w := w) (base := base) X G (c.fact 0 (f := .glo "is_integer") rfl) F0 (ps := ["value"]) (fun _ _ _ _ _ _ us hl => match us, hl with | [_], _ => rfl) (ok_is_integer T F0)
  have D_read_integer := df (P := P) (w := w) (base := base) X G (c.fact 1 (f := .glo "read_integer") rfl) F1 (ps := ["word"]) (fun _ _ _ _ _ _ us hl => match us, hl with | [_], _ => rfl) (ok_read T F1)
  have Mi : K11.Ei P w K mg base := ⟨⟨fd12, ok_err T F12, F12.bindsN (fun _ _ _ _ _ _ us hl => match us, hl with | [_, _, _], _ => rfl)⟩⟩
  have MC : Ex.Ei P w K mg base "InvalidCount" "value" := ⟨⟨fd13, ok_errC T F13, F13.bindsN (fun _ _ _ _ _ _ us hl => match us, hl with | [_, _], _ => rfl)⟩⟩
  have MX : Ex.Ei P w K mg base "InvalidText" "line" := ⟨⟨fd14, ok_errX T F14, F14.bindsN (fun _ _ _ _ _ _ us hl => match us, hl with | [_, _], _ => rfl)⟩⟩
  have MH : EiH P w K mg base := ⟨⟨fd14, ok_errXH T F14, F14.bindsN (fun _ _ _ _ _ _ us hl => match us, hl with | [_, _], _ => rfl)⟩⟩
  have D_size_problem := df (P := P) (w := w) (base := base) X G (c.fact 2 (f := .glo "size_problem") rfl) F2 (ps := ["values", "position"]) (fun _ _ _ _ _ _ us hl => match us, hl with | [_, _], _ => rfl) (ok_size_problem T D_is_integer F2)
  have D_check_sizes := dfN (P := P) (w := w) (base := base) X G (c.fact 3 (f := .glo "check_sizes") rfl) F3 (ps := ["values"]) (fun _ _ _ _ _ _ us hl => match us, hl with | [_], _ => rfl) (ok_check_sizes T D_size_problem Mi F3)
  have K_Sizes : KfX P w K mg base (L2N.CX P w) 5 "Sizes" ["self", "values"] (spMade K) := ⟨⟨fd4, ok_init T D_check_sizes F4, F4.bindsN (fun _ _ _ _ _ _ us hl => match us, hl with | [_, _], _ => rfl)⟩, He.glo_ok X G (c.fact 19 (f := .glo "Sizes") rfl), He.mkr_ok (c.fact 41 (f := .mkr "Sizes") rfl)⟩
  have K_Sizes_kw : KfXK P w K mg base (L2N.CX P w) 5 "Sizes" ["self", "values"] ["values"] [0] (spMade K) := ⟨⟨fd4, ok_init T D_check_sizes F4, bindsKw F4 (fun _ _ _ _ _ _ _ ws hl => match ws, hl with | [_], _ => rfl)⟩, He.glo_ok X G (c.fact 19 (f := .glo "Sizes") rfl), He.mkr_ok (c.fact 41 (f := .mkr "Sizes") rfl)⟩
  have M_all_sizes : Mf P w K mg base _ "Sizes" "all_sizes" ["self"] _ := ⟨⟨fd5, ok_all T F5, F5.bindsN (fun _ _ _ _ _ _ us hl => match us, hl with | [_], _ => rfl)⟩, He.cls_ok (c.fact 39 (f := .cls "Sizes") rfl), He.meth_ok (c.fact 44 (f := .meth "Sizes" "all_sizes") rfl)⟩
  have P_top : Pf P w K mg base 1 "Sizes" "top" (spTop K) := ⟨He.cls_ok (c.fact 39 (f := .cls "Sizes") rfl), _, _, fdP_top, prB_ok xp_top, ok_top T FP_top, FunD.bindsN FP_top (fun _ _ _ _ _ _ us hl => match us, hl with | [_], _ => rfl)⟩
  have M_has_level : Mf P w K mg base _ "Sizes" "has_level" ["self", "level"] _ := ⟨⟨fd6, ok_has T D_is_integer P_top F6, F6.bindsN (fun _ _ _ _ _ _ us hl => match us, hl with | [_, _], _ => rfl)⟩, He.cls_ok (c.fact 39 (f := .cls "Sizes") rfl), He.meth_ok (c.fact 45 (f := .meth "Sizes" "has_level") rfl)⟩
  have M_check_level : Mf P w K mg base _ "Sizes" "check_level" ["self", "level"] _ := ⟨⟨fd7, ok_check_level T M_has_level F7, F7.bindsN (fun _ _ _ _ _ _ us hl => match us, hl with | [_, _], _ => rfl)⟩, He.cls_ok (c.fact 39 (f := .cls "Sizes") rfl), He.meth_ok (c.fact 46 (f := .meth "Sizes" "check_level") rfl)⟩
  have M_size : Mf P w K mg base _ "Sizes" "size" ["self", "level"] _ := ⟨⟨fd8, ok_size T M_check_level F8, F8.bindsN (fun _ _ _ _ _ _ us hl => match us, hl with | [_, _], _ => rfl)⟩, He.cls_ok (c.fact 39 (f := .cls "Sizes") rfl), He.meth_ok (c.fact 47 (f := .meth "Sizes" "size") rfl)⟩
  have M_size_kw : MfXK P w K mg base 5 "Sizes" "size" ["self", "level"] ["level"] [0] (spSize K) := ⟨⟨fd8, FnOk.up (ok_size T M_check_level F8), bindsKw F8 (fun _ _ _ _ _ _ _ ws hl => match ws, hl with | [_], _ => rfl)⟩, He.cls_ok (c.fact 39 (f := .cls "Sizes") rfl), He.meth_ok (c.fact 47 (f := .meth "Sizes" "size") rfl)⟩
  have M_len : Mf P w K mg base _ "Sizes" "__len__" ["self"] _ := ⟨⟨fd10, ok_len T F10, F10.bindsN (fun _ _ _ _ _ _ us hl => match us, hl with | [_], _ => rfl)⟩, He.cls_ok (c.fact 39 (f := .cls "Sizes") rfl), He.meth_ok (c.fact 48 (f := .meth "Sizes" "__len__") rfl)⟩
  have M_repr : MfG P w K mg base _ "Sizes" "__repr__" ["self"] _ := ⟨⟨fd11, ok_repr T F11, F11.bindsN (fun _ _ _ _ _ _ us hl => match us, hl with | [_], _ => rfl)⟩, He.cls_ok (c.fact 39 (f := .cls "Sizes") rfl), He.meth_ok (c.fact 49 (f := .meth "Sizes" "__repr__") rfl)⟩
  have E_Sizes : EqOf P w K mg base 1 "Sizes" (spSEq K) := ⟨⟨fd9, ok_seq T F9, F9.bindsN (fun _ _ _ _ _ _ us hl => match us, hl with | [_, _], _ => rfl)⟩, (eqB_ok x20).1, (eqB_ok x20).2⟩
  have C_dbl : Cm P w K mg base (L2.CX P w) 7 "Sizes" "doubling" ["cls", "count"] (spDbl K) := ⟨rdB_ok x1, _, _, fdP_doubling, cmB_ok xp_doubling, ok_dbl T D_is_integer K_Sizes MC FP_doubling, FunD.bindsN FP_doubling (fun _ _ _ _ _ _ us hl => match us, hl with | [_, _], _ => rfl)⟩
  have C_dbl_kw : CmK P w K mg base (L2.CX P w) 7 "Sizes" "doubling" ["cls", "count"] ["count"] [0] (spDbl K) := ⟨rdB_ok x1, _, _, fdP_doubling, cmB_ok xp_doubling, ok_dbl T D_is_integer K_Sizes MC FP_doubling, bindsKw FP_doubling (fun _ _ _ _ _ _ _ ws hl => match ws, hl with | [_], _ => rfl)⟩
  have C_from : Cm P w K mg base (L2.CX P w) 7 "Sizes" "from_text" ["cls", "text"] (spFrom K) := ⟨rdB_ok x1, _, _, fdP_from_text, cmB_ok xp_from_text, ok_from T D_read_integer K_Sizes MX MH FP_from_text, FunD.bindsN FP_from_text (fun _ _ _ _ _ _ us hl => match us, hl with | [_, _], _ => rfl)⟩
  have C_from_kw : CmK P w K mg base (L2.CX P w) 7 "Sizes" "from_text" ["cls", "text"] ["text"] [0] (spFrom K) := ⟨rdB_ok x1, _, _, fdP_from_text, cmB_ok xp_from_text, ok_from T D_read_integer K_Sizes MX MH FP_from_text, bindsKw FP_from_text (fun _ _ _ _ _ _ _ ws hl => match ws, hl with | [_], _ => rfl)⟩
  have co : CoI K := ⟨conB_ok x6, conB_ok x7, conB_ok x8, conB_ok x9⟩
  have D__law_rng := df (P := P) (w := w) (base := base) X G (c.fact 4 (f := .glo "_law_rng") rfl) F15 (ps := ["_law_script", "_law_k"]) (fun _ _ _ _ _ _ us hl => match us, hl with | [_, _], _ => rfl) (ok_rng T F15)
  have D__law_draw := df (P := P) (w := w) (base := base) X G (c.fact 5 (f := .glo "_law_draw") rfl) F16 (ps := ["_law_rng_here", "_law_many"]) (fun _ _ _ _ _ _ us hl => match us, hl with | [_, _], _ => rfl) (ok_draw T F16)
  have D__law_choice := df (P := P) (w := w) (base := base) X G (c.fact 6 (f := .glo "_law_choice") rfl) F17 (ps := ["_law_rng_here", "_law_options"]) (fun _ _ _ _ _ _ us hl => match us, hl with | [_, _], _ => rfl) (ok_choice T D__law_draw F17)
  have D__law_sizes := df (P := P) (w := w) (base := base) X G (c.fact 7 (f := .glo "_law_sizes") rfl) F18 (ps := ["_law_rng_here", "_law_levels", "_law_greatest"]) (fun _ _ _ _ _ _ us hl => match us, hl with | [_, _, _], _ => rfl) (ok_sizes T D__law_draw F18)
  have D__law_read := df (P := P) (w := w) (base := base) X G (c.fact 8 (f := .glo "_law_read") rfl) F19 (ps := ["_law_written"]) (fun _ _ _ _ _ _ us hl => match us, hl with | [_], _ => rfl) (ok_lread T F19)
  have D__law_bent := df (P := P) (w := w) (base := base) X G (c.fact 9 (f := .glo "_law_bent") rfl) F20 (ps := ["_law_rng_here", "_law_written"]) (fun _ _ _ _ _ _ us hl => match us, hl with | [_, _], _ => rfl) (ok_lbent T D__law_draw D__law_choice F20)
  have D__law_told := dfG (P := P) (w := w) (base := base) X G (c.fact 10 (f := .glo "_law_told") rfl) F21 (ps := ["_law_value"]) (fun _ _ _ _ _ _ us hl => match us, hl with | [_], _ => rfl) (ok_ltold T C_from M_all_sizes F21)
  have D__law_counted := dfG (P := P) (w := w) (base := base) X G (c.fact 11 (f := .glo "_law_counted") rfl) F22 (ps := ["_law_value"]) (fun _ _ _ _ _ _ us hl => match us, hl with | [_], _ => rfl) (ok_lcounted T C_dbl M_all_sizes F22)
  have D__law_texts_right := dfG (P := P) (w := w) (base := base) X G (c.fact 12 (f := .glo "_law_texts_right") rfl) F23 (ps := ["_law_rng_here", "_law_own"]) (fun _ _ _ _ _ _ us hl => match us, hl with | [_, _], _ => rfl) (ok_ltexts T D__law_draw D__law_choice D__law_bent D__law_read D__law_told C_from_kw K_Sizes E_Sizes F23)
  have D__law_counts_right := dfG (P := P) (w := w) (base := base) X G (c.fact 13 (f := .glo "_law_counts_right") rfl) F24 (ps := ["_law_rng_here"]) (fun _ _ _ _ _ _ us hl => match us, hl with | [_], _ => rfl) (ok_lcr T D__law_choice D__law_counted C_dbl_kw M_len F24)
  have D__law_equal := dfG (P := P) (w := w) (base := base) X G (c.fact 14 (f := .glo "_law_equal") rfl) F25 (ps := ["_law_one", "_law_other", "_law_is_so"]) (fun _ _ _ _ _ _ us hl => match us, hl with | [_, _, _], _ => rfl) (ok_lequal T E_Sizes F25)
  have D__law_stands := dfG (P := P) (w := w) (base := base) X G (c.fact 15 (f := .glo "_law_stands") rfl) F26 (ps := ["_law_made", "_law_own"]) (fun _ _ _ _ _ _ us hl => match us, hl with | [_, _], _ => rfl) (ok_lstands T co M_all_sizes M_size P_top M_len M_repr M_size_kw F26)
  have D__law_right := dfG (P := P) (w := w) (base := base) X G (c.fact 16 (f := .glo "_law_right") rfl) F27 (ps := ["_law_rng_here"]) (fun _ _ _ _ _ _ us hl => match us, hl with | [_], _ => rfl) (ok_lright T D__law_sizes K_Sizes K_Sizes_kw D__law_stands D__law_equal M_all_sizes M_repr D__law_texts_right D__law_counts_right F27)
  have D__law_greatest_right := dfG (P := P) (w := w) (base := base) X G (c.fact 17 (f := .glo "_law_greatest_right") rfl) F28 (ps := []) (fun _ _ _ _ _ _ us hl => match us, hl with | [], _ => rfl) (ok_gr T D__law_told F28)
  exact ok_law T D__law_greatest_right D__law_rng D__law_right F29
end
end K11
open PySem PySem.W PySem.Calls PyProof.Rows
theorem PySem.Challenge.cw_exactroom_k11_sizes_read_and_equal_holds : PySem.Challenge.rw_exactroom_k11_sizes_read_and_equal.Holds := by
  w_on; o_law
  refine HandSHeadRun.head_any (r := OpenLaw.row PySem.Challenge.rw_exactroom_k11_sizes_read_and_equal) (q := view (OpenLaw.row PySem.Challenge.rw_exactroom_k11_sizes_read_and_equal).prog [30]) (H := K11.hk) (ob := K11.ob) (M := 4000)
    (loose := K11.loose) (d := HandSHeadRun.topDef (OpenLaw.row PySem.Challenge.rw_exactroom_k11_sizes_read_and_equal).prog 30) (kwd := []) K11.ob_eq
    (by kernel_rfl) (fun s => by kernel_rfl) K11.run (by kernel_rfl) (by kernel_rfl) (by kernel_rfl) (by rfl) (by first | assumption | decide +kernel) (by decide +kernel) ⟨rfl, rfl, rfl, rfl, rfl, by decide +kernel⟩ ?hw ?hc
  case hw => w_witness2
  case hc =>
    refine Gu.walkG (l := PySem.Challenge.rw_exactroom_k11_sizes_read_and_equal) (n := 63) (k := 14) (x := "_law_script") (CX := L2.CX0) rfl (by decide) (by kernel_rfl) ⟨⟨rfl, by decide, by decide⟩, rfl⟩ ?F (fun _ _ _ _ z => z)
    intro w mg fa h Y G hmg0
    obtain ⟨K, KX, c⟩ := Y
    have hmg : mg ("law" : PySem.Str) = some (.ref fa) := by
      have e : (HandSHeadRun.topDef (OpenLaw.row PySem.Challenge.rw_exactroom_k11_sizes_read_and_equal).prog 30).name = ("law" : PySem.Str) := by kernel_rfl
      rw [← e]
      exact hmg0
    obtain ⟨fd, hb, hF⟩ := K11.facts (P := (PySem.Challenge.rw_exactroom_k11_sizes_read_and_equal).prog) (w := w) KX G hmg c
    exact ⟨K, fd, K11.spLaw K, KX, hb, fun H a ns hl _ hS => ⟨a, ns, rfl, hS, hl, fun _ => rfl⟩, hF⟩

