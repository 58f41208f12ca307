import PyProof.Rows.All
import Wide.All
import OpenK.AllK
import Wide.FinOn
import PyProof.ReprRoads
import HandS.ForMost
import HandS.ForExc
import HandS.Property
import HandS.ClsMeth
import HandS.Defaults
import HandS.IsInst
import HandS.Wide
import HandS.WideBits
import HandS.Ends
import HandS.HeadEnd
import HandS.Head0
import HandS.Head1
import HandS.Head2
import HandS.HeadHook1
import HandS.HeadHook2
import HandS.Flow
import HandS.Style
import PyProof.LongRange
import HandS.ExcInit
import HandS.ExcField
import HandS.ExcIs
import HandS.TryOnly
import HandS.OwnEq
import PyProof.Rows.SetFrom
import HandS.TupSets
import PyProof.InstNe
import HandS.More
import KE.KExcInit
import PyProof.ExcBaseAll.ArithmeticError
import PyProof.ExcBaseAll.LookupError
import PyProof.ExcBaseAll.RuntimeError
import HandS.TryMany
import HandS.EndTab
import HandS.Walk
import HandS.Comp
import HandS.Iter
import HandS.SortRule
import KE.DataMinMax
import HandS.List
import PyProof.NeKinds
import HandS.Dict
import PyProof.EqKinds
import HandS.FStr
import HandS.DictComp
import HandS.CallSlots
import PyProof.EqAt
import HandS.CallLocal
import HandS.ExcInitHot
import HandS.SuiteRaise
import HandS.RaiseFrom
import KE.KStateDown
import Lean
import KE.KNestM
import PySem.Challenge.RW_exactroom_k21_whole_blocks_by_a_model
set_option Elab.async false
set_option linter.all false
set_option maxRecDepth 100000
set_option maxHeartbeats 4000000
/-! Own layer: defs that are called where no repr is under way (the guards are known to be none), so that repr of data can be walked. -/
namespace Gu
open PySem PySem.Spec PyProof.Rows L2
structure RoomG (k : Nat) (A : Around) : Prop where
  r : Room k A
  g : A.guards = some []
theorem RoomG.mono {j k : Nat} {A : Around} (x : RoomG k A) (h : j ≤ k) : RoomG j A := ⟨x.r.mono h, x.g⟩
theorem RoomG.down {k : Nat} {A : Around} (x : RoomG (k + 1) A) (env : Env) : RoomG k (A.deeper env) := ⟨x.r.deeper env, x.g⟩
structure FnG (P : Program) (w : World) (K : PySem.W.Frag) (mg : Str → Option Value) (base : Heap) (CX : CXT) (k : Nat) (f : Addr) (fd : FuncData) (ps : List Str) (sp : Sp) : Prop where
  len : ∀ vs H Q E, sp vs H Q E → vs.length = ps.length
  run : ∀ (A : Around) (outer : List Env) (s : Shared) (H : Hp) (args : Args) (us : List Value) (vs : List V) (Q : VK) (E : XK),
    RoomG k A → Env0 P w K mg base A outer s H → BindsTo s fd args (ps.zip us) → Vals vs us → sp vs H Q E →
    codeAny (model P w) A (.call (.ref f) args) (CR CX outer P w H s Q E) s
section
variable {P : Program} {w : World} {K : PySem.W.Frag} {mg : Str → Option Value} {base : Heap} {CX : CXT} {k : Nat} {f : Addr} {fd : FuncData} {ps : List Str} {sp : Sp}
theorem FnG.of (F : FnOk P w K mg base CX k f fd ps sp) : FnG P w K mg base CX k f fd ps sp :=
  ⟨F.len, fun A outer s H args us vs Q E hr => F.run A outer s H args us vs Q E hr.r⟩
/-- a def by its body -/
theorem okG {x qual : Str} {params : Arguments} {body : List Stmt} {scope : Scope} {dvs : List V} {kws : List (Str × V)} {N : List Str}
    (F : FunD K x qual params body scope dvs kws f fd) (S : FnScope N ps scope) (len : ∀ vs H Q E, sp vs H Q E → vs.length = ps.length)
    (hbody : ∀ (cdv : Value) (A : Around) (outer : List Env) (s : Shared) (H : Hp) (vs : List V) (Q : VK) (E : XK),
      RoomG k (A.deeper (envOfC qual scope s.heap.objs.size f cdv)) → sp vs H Q E →
      ∃ t, PSs (cxOf CX P w K mg base N qual scope f cdv A outer s H E) body t ∧ t { nx := fun _ H' => Q .non H', rt := Q } (start N vs) H) :
    FnG P w K mg base CX (k + 1) f fd ps sp := by
  obtain ⟨oc, od, dV, kV, doc, pm, an, cdv, ct, osl, rfl, lk, hcd, _, _⟩ := F.ex
  refine ⟨len, fun A outer s H args us vs Q E hr e0 hb rv hsp => ?_⟩
  have KX : K.In s.heap := e0.mod.kin.keeps fun b o e => (e0.bs b o e).1
  have hkinds : ∀ y ∈ ps.zip us, scope.names.lookup y.1 = some .local ∨
      (scope.names.lookup y.1 = some .cell ∧ ((cellsFrom (s.heap.objs.size + 1) scope.names []).lookup y.1).isSome = true) := by
    rintro ⟨n, v⟩ hy
    rcases S.par n (List.of_mem_zip hy).1 with q | q
    · exact .inl q
    · exact .inr ⟨q, PySem.W.cellsFrom_some _ _ _ (.inl q)⟩
  refine codeAny_call_function hr.r.depth (KX _ _ lk) rfl S.co S.gen rfl (PySem.W.codeRec_of KX hcd) (hb _ _ _ _ ?_)
  refine wpAny_newFunctionEnv_cells S.kind hkinds fun env he s1 x => ?_
  subst he
  refine ⟨(e0.mod.nolimit.keeps fun b o e => (e0.bs b o e).1).keeps x.toInCall.keep, codeAny_func ?_⟩
  obtain ⟨t, ht, hq⟩ := hbody cdv A outer s H vs Q E (hr.down _) hsp
  have I := inv_start (CX := CX) (E := E) (N := N) (qual := qual) (f := f) (cd := cdv) S hr.r.hd e0 (len _ _ _ _ hsp) rv x
  refine wpAny_mono (ht.run [] s1 (start N vs) H _ I hq) (fun fl s' hs => ?_) fun e s' hs => hs
  cases fl with
  | ret u =>
    obtain ⟨v, σ', H', J, rv', q⟩ := hs
    exact ⟨v, H', J.os, J.bare, J.base, J.hok, rv', q⟩
  | next =>
    obtain ⟨σ', H', J, q⟩ := hs
    exact ⟨V.non, H', J.os, J.bare, J.base, J.hok, rfl, q⟩
  | brk => exact hs.elim fun _ z => z.elim fun _ z => z.2.elim
  | cont => exact hs.elim fun _ z => z.elim fun _ z => z.2.elim
end
section
variable {X : Cx} {CX : CXT} {k : Nat} {f : Addr} {fd : FuncData} {ps : List Str} {sp : Sp} {dvs : List V} {ds : List Value} {E : XK} {x : Str} {p pos : Pos} {e : Expr} {es : List Expr} {t : TA}
theorem runG {pins : List (Addr × Obj)} {σ : L2.St} {H : Hp} {s : Shared} {Q : VK} {us : List Value} {vs : List V} (F : FnG X.prog X.w X.K X.mg X.base CX k f fd ps sp)
    (hr : RoomG k X.A) (hb : Binds X.K fd ps ds) (hd : Vals dvs ds) (hx : Passes CX X E) (I : Inv X pins σ H s) (r : Vals vs us) (h : sp (vs ++ dvs) H Q E) :
    wpAny (model X.prog X.w) X.A (call (.ref f) us) (EP X pins σ Q) X.xe s := by
  have r2 := r.append hd
  have hl : (us ++ ds).length = ps.length := r2.length.symm.trans (F.len _ _ _ _ h)
  refine wpAny_call (codeAny_mono (F.run X.A X.stack s H ⟨us, []⟩ _ _ Q E hr I.env0 (hb s us I.kIn hl) r2 h) fun r s' hq => ?_)
  match r, hq with
  | .error e, hq => exact hx pins σ H s e s' I hq
  | .ok (.ret u), hq => exact I.after hq
/-- f(e, ..) -/
theorem pe_callG (F : FnG X.prog X.w X.K X.mg X.base CX k f fd ps sp) (hr : RoomG k X.A) (hg : Gl X x) (hm : X.mg x = some (.ref f)) (hk : PySem.W.keepIn X.K (.ref f) = true)
    (hb : Binds X.K fd ps ds) (hd : Vals dvs ds) (hx : Passes CX X E) (ha : PA X (e :: es) t) (hdb : (x == ("__debug__" : Str)) = false := by decide)
    (he : starEach (e :: es) X.env = (false, eval e X.env) :: starEach es X.env := by rfl) (hpl : (backTo pos (starEach es X.env)).any (·.1) = false := by rfl) :
    PE X (.Call (.Name x p) (e :: es) [] pos) (tCall sp dvs E t) :=
  ⟨fun pins s σ H Q I h => wpAny_Call_Name_kw (ld_glob I hg hm (PySem.W.callWith_K (h₀ := X.base) I.ok.mod.kin hk
    (thn (ha.run pos pins s σ H _ I h) fun us s1 ⟨vs, H1, I1, r, q⟩ => ⟨I1.kIn, runG F hr hb hd hx I1 r q⟩) he hpl) hdb)⟩
/-- repr of a list or a tuple of data -/
def rReprD (K : PySem.W.Frag) : List V → Hp → VK → Prop := fun xs H Q => ∃ (a : Addr) (d : PyData), xs = [.ref a] ∧ Dp K H (.ref a) d ∧ d.showable = true ∧ d.hasDict = false ∧ d.depth ≤ 60 ∧ d.shown.length ≤ sizeLine ∧ Q (.str d.shown) H
theorem call_reprD (hr : RoomG k X.A) : CallR X (.builtin "repr") (rReprD X.K) := by
  intro pins s σ H xs us Q I r h
  obtain ⟨a, d, rfl, hd, hs, hn, hdep, hz, q⟩ := h
  obtain ⟨u, rfl, ru⟩ := vals1 r
  obtain rfl : u = Value.ref a := ru
  obtain ⟨as, rd⟩ := Dp.reads I d (.ref a) (.ref a) hd rfl
  have hu := hr.r.units
  exact repr_of_reads' rd hs (PyData.noDict_hsm hn) hr.g (by omega) (fun _ _ e => e) (fun h' u tk hk => ⟨.str d.shown, H, I.kept hk, ⟨u, rfl⟩, q⟩) hz
end
/-- the law's call, from its promise where no repr is under way -/
theorem law_go {P : Program} {w : World} {K : PySem.W.Frag} {mg mb : Str → Option Value} {CX : CXT} {k : Nat} {fa a : Addr} {fd : FuncData} {x : Str} {sp : Sp} {s₁ : Shared} {vs : List Value} {H : Hp}
    (KX : K.In s₁.heap) (hns : s₁.heap.Ns mainGlobals mg) (hb : s₁.heap.Ns builtinsNs mb) (hbb : ∀ x : Str, x ≠ "__name__" → mb x = bootBuiltins x) (hlim : s₁.heap.NoLimit) (hg : s₁.gens = #[])
    (ha : s₁.heap.get? a = some { cls := .type "list", data := .seq vs.toArray }) (hr : RoomG k callerA)
    (F : ∀ base : Heap, K.In base → base.Ns mainGlobals mg → FnG P w K mg base CX k fa fd [x] sp) (hbind : ∀ (s : Shared) (u : Value), BindsTo s fd ⟨[u], []⟩ [(x, u)])
    (hsp : sp [.ref a] H (fun v _ => v = .bl true) fun _ _ _ => False) (hCX : ∀ e s', CX [] H s₁ (fun _ _ _ => False) e s' → False)
    (hO : Only H) (hok : HOk P w H s₁.heap) (hA : ∀ b, H b ≠ none → b = a) (hK : H a ≠ none → K.lookup a = none) :
    codeAny (model P w) callerA (.call (.ref fa) ⟨[.ref a], []⟩) (fun r s' => r = .ok (.ret (.bool true)) ∧ OldK s₁.heap s'.heap ∧ s'.os = s₁.os ∧ AllBare s'.gens) s₁ := by
  have free : ∀ {b : Addr} {o : Obj}, s₁.heap.get? b = some o → (b = a → False) → (hidT s₁.heap H).get? b = some o := fun {b o} e n => hidT_get e (by
    cases q : H b with
    | none => rfl
    | some u => exact (n (hA b (by rw [q]; exact fun z => nomatch z))).elim)
  have nsK : ∀ {b : Addr} {m : Str → Option Value}, s₁.heap.Ns b m → (hidT s₁.heap H).Ns b m := fun {b m} ⟨o, es, ep, e, d, r⟩ => ⟨o, es, ep, free e (fun z => by
    rw [z, ha] at e
    have e' := Option.some.inj e
    rw [← e'] at d
    exact nomatch d), d, r⟩
  have hKb : K.In (hidT s₁.heap H) := fun b o e => hidT_get (KX b o e) (by
    cases q : H b with
    | none => rfl
    | some u =>
      have z : b = a := hA b (by rw [q]; exact fun z => nomatch z)
      rw [z] at e q
      rw [hK (by rw [q]; exact fun z => nomatch z)] at e
      exact nomatch e)
  obtain ⟨mc, l1, l2⟩ := hlim
  have e0 : Env0 P w K mg (hidT s₁.heap H) callerA [] s₁ H :=
    ⟨rfl, ⟨hKb, nsK hns, ⟨mb, nsK hb, hbb⟩, ⟨mc, nsK l1, l2⟩⟩, fun b o e => of_hidT e, Nat.le_of_eq (hidT_size _ _), trivial, fun b hb => absurd (show b ∈ ([] : List Addr) from hb) List.not_mem_nil, hok, .of_eq hg⟩
  refine codeAny_mono ((F _ hKb (nsK hns)).run callerA [] s₁ H ⟨[.ref a], []⟩ [.ref a] [.ref a] _ _ hr e0 (hbind s₁ (.ref a)) (.cons rfl .nil) hsp) fun r s' h => ?_
  match r, h with
  | .error e, h => exact (hCX e s' h).elim
  | .ok (.ret u), h =>
    obtain ⟨v, H', os, bare, un, hok', r', q⟩ := h
    obtain rfl : v = .bl true := q
    obtain rfl : u = Value.bool true := r'
    refine ⟨rfl, OldK.of_keep fun b o e => ?_, os, bare⟩
    cases q : H b with
    | none => exact un.keep b o e q (fun z => absurd (show b ∈ ([] : List Addr) from z) List.not_mem_nil) (fun z => absurd (show b ∈ ([] : List Addr) from z) List.not_mem_nil)
    | some u =>
      rcases hO b with z | ⟨ob, xs, z⟩
      · rw [q] at z
        exact nomatch z
      · obtain ⟨e1, _⟩ := hok b _ z
        obtain ⟨e2, _⟩ := hok' b _ (un.frzs b ob _ z)
        rw [e] at e1
        rw [Option.some.inj e1]
        exact e2
theorem law_callG {P : Program} {w : World} {K : PySem.W.Frag} {mg mb : Str → Option Value} {CX : CXT} {k : Nat} {fa a : Addr} {fd : FuncData} {x : Str} {sp : Sp} {s₁ : Shared} {vs : List Value} {ns : List Int}
    (KX : K.In s₁.heap) (hns : s₁.heap.Ns mainGlobals mg) (hb : s₁.heap.Ns builtinsNs mb) (hbb : ∀ x : Str, x ≠ "__name__" → mb x = bootBuiltins x) (hlim : s₁.heap.NoLimit) (hg : s₁.gens = #[])
    (ha : s₁.heap.get? a = some { cls := .type "list", data := .seq vs.toArray }) (hi : IntsAre vs ns) (hl : ns.length ≤ sizeLine) (hr : RoomG k callerA)
    (F : ∀ base : Heap, K.In base → base.Ns mainGlobals mg → FnG P w K mg base CX k fa fd [x] sp) (hbind : ∀ (s : Shared) (u : Value), BindsTo s fd ⟨[u], []⟩ [(x, u)])
    (hsp : ∀ H : Hp, Only H → SqL K H a (ns.map V.int) → sp [.ref a] H (fun v _ => v = .bl true) fun _ _ _ => False) (hCX : ∀ H e s', CX [] H s₁ (fun _ _ _ => False) e s' → False) :
    codeAny (model P w) callerA (.call (.ref fa) ⟨[.ref a], []⟩) (fun r s' => r = .ok (.ret (.bool true)) ∧ OldK s₁.heap s'.heap ∧ s'.os = s₁.os ∧ AllBare s'.gens) s₁ := by
  have rv := vals_ints hi
  have lenV := hi.length
  cases hk : K.lookup a with
  | some o =>
    have e := (KX a o hk).symm.trans ha
    obtain rfl := Option.some.inj e
    have hO : Only (fun _ => none) := fun _ => .inl rfl
    exact law_go (H := fun _ => none) KX hns hb hbb hlim hg ha hr F hbind
      (hsp _ hO (.inr ⟨_, vs.toArray, _, hk, rfl, rfl, rfl, by rw [List.size_toArray, lenV]; exact hl, by simpa using rv⟩)) (hCX _) hO
      (fun b u z => nomatch (show (none : Option HO) = some u from z)) (fun b z => (z rfl).elim) (fun z => (z rfl).elim)
  | none =>
    let H0 : Hp := fun b => if b = a then some (.frz { cls := .type "list", data := .seq vs.toArray } (.lst (ns.map V.int))) else none
    have at_ : H0 a = some (.frz { cls := .type "list", data := .seq vs.toArray } (.lst (ns.map V.int))) := if_pos rfl
    have off : ∀ b, b ≠ a → H0 b = none := fun b h => if_neg h
    have hO : Only H0 := fun b => by
      by_cases h : b = a
      · rw [h]
        exact .inr ⟨_, _, at_⟩
      · exact .inl (off b h)
    refine law_go (H := H0) KX hns hb hbb hlim hg ha hr F hbind (hsp _ hO (.inl (.inr ⟨_, at_⟩))) (hCX _) hO (fun b u z => ?_) (fun b z => ?_) (fun _ => hk)
    · by_cases h : b = a
      · rw [h, at_] at z
        obtain rfl := Option.some.inj z
        rw [h]
        exact ⟨ha, by rw [List.length_map]; exact hl, vs, _, rv, ha⟩
      · rw [off b h] at z
        exact nomatch z
    · by_cases h : b = a
      · exact h
      · exact (z (off b h)).elim
/-- the end of a law, over a head by facts -/
theorem walkG {l : PySem.W.OpenLaw} {n k : Nat} {q : Program} {loose : List Str} {XP : (Str → Option Value) → Heap → Prop} {YP : World → Heap → Prop} {d : DefRec} {CX : CXT} {x : Str}
    (hn : l.most = some n) (hn2 : n ≤ sizeLine) (hdf : d.params.defaults = []) (hr : RoomG k callerA)
    (F : ∀ (w : World) (mg : Str → Option Value) (fa : Addr) (h : Heap), YP w h → h.Ns mainGlobals mg → mg d.name = some (.ref fa) →
      ∃ (K : PySem.W.Frag) (fd : FuncData) (sp : Sp), K.In h ∧ (∀ (s : Shared) (u : Value), BindsTo s fd ⟨[u], []⟩ [(x, u)]) ∧
        (∀ (H : Hp) (a : Addr) (ns : List Int), ns.length ≤ n → Only H → SqL K H a (ns.map V.int) → sp [.ref a] H (fun v _ => v = .bl true) fun _ _ _ => False) ∧
        ∀ base : Heap, K.In base → base.Ns mainGlobals mg → FnG l.prog w K mg base CX k fa fd [x] sp)
    (hCX : ∀ (H : Hp) (s : Shared) (e : Value) (s' : Shared), CX [] H s (fun _ _ _ => False) e s' → False) :
    PySem.W.WalkO q loose XP YP l.row.toRowW d [] (fun f vs => PySem.call f vs) := by
  refine Att.attach_call hn hdf fun w s₀ s₁ mg mb fa o pm cd doc a vs ns G Y ho hd hcd hmg hobj hints hlen hg => ?_
  obtain ⟨K, fd, sp, KX, hb, hsp, hF⟩ := F w mg fa _ Y G.T.g hmg
  exact law_callG KX G.T.g G.T.b G.T.builtins G.T.nolimit hg hobj hints (Nat.le_trans hlen hn2) hr hF hb (fun H hO hS => hsp H a ns hlen hO hS) fun H e s' => hCX H s₁ e s'
end Gu

set_option Elab.async false
set_option linter.all false
set_option maxRecDepth 100000
set_option maxHeartbeats 4000000
/-! Own layer: defs, methods, makers and properties by their names. -/
namespace Ex
open PySem PySem.Spec PyProof.Rows L2 Gu
section
variable (P : Program) (w : World) (K : PySem.W.Frag) (mg : Str → Option Value) (base : Heap)
/-- the module's def x keeps sp -/
structure Df (k : Nat) (x : Str) (ps : List Str) (sp : Sp) : Prop where
  ex : ∃ fd, FnOk P w K mg base CX0 k (He.ga K x) fd ps sp ∧ Binds K fd ps []
  gl : mg x = some (.ref (He.ga K x))
  kp : PySem.W.keepIn K (.ref (He.ga K x)) = true
structure DfG (k : Nat) (x : Str) (ps : List Str) (sp : Sp) : Prop where
  ex : ∃ fd, FnG P w K mg base CX0 k (He.ga K x) fd ps sp ∧ Binds K fd ps []
  gl : mg x = some (.ref (He.ga K x))
  kp : PySem.W.keepIn K (.ref (He.ga K x)) = true
/-- .. called by keywords ks alone; j: the places of the parameters among the keywords -/
structure DfK (k : Nat) (x : Str) (ps ks : List Str) (j : List Nat) (sp : Sp) : Prop where
  ex : ∃ fd, FnOk P w K mg base CX0 k (He.ga K x) fd ps sp ∧ ∀ (s : Shared) (ws : List Value), ws.length = ks.length → BindsTo s fd ⟨[], ks.zip ws⟩ (ps.zip (j.filterMap fun i => ws[i]?))
  gl : mg x = some (.ref (He.ga K x))
  kp : PySem.W.keepIn K (.ref (He.ga K x)) = true
structure Mf (k : Nat) (c m : Str) (ps : List Str) (sp : Sp) : Prop where
  ex : ∃ fd, FnOk P w K mg base CX0 k (He.ma K (He.ga K c) m) fd ps sp ∧ Binds K fd ps []
  cl : Cls K (He.ga K c)
  me : Meth K (He.ga K c) m (He.ma K (He.ga K c) m)
structure Pf (k : Nat) (c m : Str) (sp : Sp) : Prop where
  cl : Cls K (He.ga K c)
  ex : ∃ (p g : Addr) (fd : FuncData), PropOf K (He.ga K c) m p g ∧ FnOk P w K mg base CX0 k g fd ["self"] sp ∧ Binds K fd ["self"] []
structure Kf (k : Nat) (c : Str) (ps : List Str) (sp : Sp) : Prop where
  ex : ∃ fd, FnOk P w K mg base CX0 k (He.ma K (He.ga K c) "__init__") fd ps sp ∧ Binds K fd ps []
  gl : mg c = some (.ref (He.ga K c))
  mkr : Mk K (He.ga K c) (He.ma K (He.ga K c) "__init__")
end
section
variable {X : Cx} {k j : Nat} {x c m : Str} {ps ks : List Str} {ji : List Nat} {sp : Sp} {p pos apos : Pos} {e o : Expr} {es : List Expr} {kws : List Keyword} {t tk : TA} {ta : TE}
theorem pcall (D : Df X.prog X.w X.K X.mg X.base k x ps sp) (hr : Room j X.A) (ha : PA X (e :: es) t) (hj : k ≤ j := by decide) (hg : Gl X x := by rfl) (hdb : (x == ("__debug__" : Str)) = false := by decide)
    (he : starEach (e :: es) X.env = (false, eval e X.env) :: starEach es X.env := by rfl) (hpl : (backTo pos (starEach es X.env)).any (·.1) = false := by rfl) :
    PE X (.Call (.Name x p) (e :: es) [] pos) (tCall sp [] E0 t) := by
  obtain ⟨fd, F, b⟩ := D.ex
  exact pe_call F (hr.mono hj) hg D.gl D.kp b .nil pass0 ha hdb he hpl
theorem pcallG (D : DfG X.prog X.w X.K X.mg X.base k x ps sp) (hr : RoomG j X.A) (ha : PA X (e :: es) t) (hj : k ≤ j := by decide) (hg : Gl X x := by rfl) (hdb : (x == ("__debug__" : Str)) = false := by decide)
    (he : starEach (e :: es) X.env = (false, eval e X.env) :: starEach es X.env := by rfl) (hpl : (backTo pos (starEach es X.env)).any (·.1) = false := by rfl) :
    PE X (.Call (.Name x p) (e :: es) [] pos) (tCall sp [] E0 t) := by
  obtain ⟨fd, F, b⟩ := D.ex
  exact pe_callG F (hr.mono hj) hg D.gl D.kp b .nil pass0 ha hdb he hpl
def tKw (sp : Sp) (n : Nat) (j : List Nat) (tk : TA) : TE := fun σ H Q => tk σ H fun zs H2 => zs.length = n ∧ sp (j.filterMap fun i => zs[i]?) H2 Q E0
theorem vals_pick {zs : List V} {ws : List Value} (r : Vals zs ws) : ∀ j : List Nat, Vals (j.filterMap fun i => zs[i]?) (j.filterMap fun i => ws[i]?)
  | [] => .nil
  | i :: j => by
    rw [List.filterMap_cons, List.filterMap_cons]
    cases e : zs[i]? with
    | none =>
      rw [r.none_of e]
      exact vals_pick r j
    | some z =>
      obtain ⟨u, hu, ru⟩ := r.get e
      rw [hu]
      exact .cons ru (vals_pick r j)
theorem pcallK (D : DfK X.prog X.w X.K X.mg X.base k x ps ks ji sp) (hr : Room j X.A) (hkw : PK X kws tk) (hj : k ≤ j := by decide) (hg : Gl X x := by rfl)
    (hall : (backToKw pos (keywordEach kws X.env)).all (·.1.isSome) = true := by rfl) (hks : (backToKw pos (keywordEach kws X.env)).filterMap (·.1) = ks := by rfl)
    (hdb : (x == ("__debug__" : Str)) = false := by decide)
    (hpl : ((backTo pos (starEach [] X.env)).any (·.1) || (backToKw pos (keywordEach kws X.env)).any (·.1.isNone)) = false := by rfl) :
    PE X (.Call (.Name x p) [] kws pos) (tKw sp ks.length ji tk) := by
  obtain ⟨fd, F, b⟩ := D.ex
  refine ⟨fun pins s σ H Q I h => wpAny_Call_Name_kw (ld_glob I hg D.gl ?_ hdb)⟩
  refine PySem.W.callWith_KW0 (h₀ := X.base) I.ok.mod.kin D.kp hall (thn (hkw.run pos pins s σ H _ I h) fun ws s2 ⟨zs, H2, I2, rz, l2, q2⟩ => ⟨I2.kIn, ?_⟩) hpl
  rw [hks]
  refine wpAny_call (codeAny_mono (F.run X.A X.stack s2 H2 ⟨[], ks.zip ws⟩ _ _ Q E0 (hr.mono hj) I2.env0 (b s2 ws (rz.length.symm.trans l2)) (vals_pick rz ji) q2) fun r s' hq => ?_)
  match r, hq with
  | .ok (.ret u), hq => exact I2.after hq
theorem pmeth {pl : Sem Bool} (D : Mf X.prog X.w X.K X.mg X.base k c m ps sp) (hr : Room j X.A) (he : PE X o ta) (ha : PA X (e :: es) t) (hj : k ≤ j := by decide)
    (hst : starEach (e :: es) X.env = (false, eval e X.env) :: starEach es X.env := by rfl) (hpl : (backTo pos (starEach es X.env)).any (·.1) = false := by rfl)
    (ht : eval (.Call (.Attribute o m apos) (e :: es) [] pos) X.env = (do
      let ov ← eval o X.env
      standAt apos.atName
      let (f, first) ← holding [ov] (getMethod ov m pl)
      callWith pos f first (backTo pos (starEach (e :: es) X.env)) (backToKw pos (keywordEach [] X.env))) := by rfl) :
    PE X (.Call (.Attribute o m apos) (e :: es) [] pos) (tMeth (He.ga X.K c) m sp [] E0 ta t) := by
  obtain ⟨fd, F, b⟩ := D.ex
  exact pe_meth he D.cl D.me F (hr.mono hj) b .nil pass0 ha hst hpl ht
theorem pmeth0 {pl : Sem Bool} (D : Mf X.prog X.w X.K X.mg X.base k c m ps sp) (hr : Room j X.A) (he : PE X o ta) (hj : k ≤ j := by decide)
    (ht : eval (.Call (.Attribute o m apos) [] [] pos) X.env = (do
      let ov ← eval o X.env
      standAt apos.atName
      let (f, first) ← holding [ov] (getMethod ov m pl)
      callWith pos f first (backTo pos (starEach [] X.env)) (backToKw pos (keywordEach [] X.env))) := by rfl) :
    PE X (.Call (.Attribute o m apos) [] [] pos) (tMeth (He.ga X.K c) m sp [] E0 ta tNil) := by
  obtain ⟨fd, F, b⟩ := D.ex
  exact pe_meth0 he D.cl D.me F (hr.mono hj) b .nil pass0 ht
theorem pprop (D : Pf X.prog X.w X.K X.mg X.base k c m sp) (hr : Room j X.A) (he : PE X o ta) (hj : k + 1 ≤ j := by decide) (hab : attributeBase o m X.env (eval o X.env) = eval o X.env := by rfl) :
    PE X (.Attribute o m pos) (tProp (He.ga X.K c) sp [] E0 ta) := by
  obtain ⟨p, g, fd, hp, F, b⟩ := D.ex
  exact pe_prop he D.cl hp F (hr.mono hj) b .nil pass0 hab
theorem pmake (D : Kf X.prog X.w X.K X.mg X.base k c ps sp) (hr : Room j X.A) (ha : PA X (e :: es) t) (hj : k + 1 ≤ j := by decide) (hg : Gl X c := by rfl) (hdb : (c == ("__debug__" : Str)) = false := by decide)
    (he : starEach (e :: es) X.env = (false, eval e X.env) :: starEach es X.env := by rfl) (hpl : (backTo pos (starEach es X.env)).any (·.1) = false := by rfl) :
    PE X (.Call (.Name c p) (e :: es) [] pos) (tMake (He.ga X.K c) sp [] E0 t) := by
  obtain ⟨fd, F, b⟩ := D.ex
  exact pe_make D.mkr F (hr.mono hj) hg D.gl b .nil pass0 ha hdb he hpl
end
end Ex

set_option Elab.async false
set_option linter.all false
set_option maxRecDepth 100000
set_option maxHeartbeats 4000000
/-! Own layer: range(a, b) of any whole numbers (walked by one or the other iterator of the machine). -/
namespace Ex
open PySem PySem.Spec PyProof.Rows L2 Gu
theorem turn_long {P : Program} {w : World} {K : PySem.W.Frag} {tg : Expr} (it : Addr) (lo : Int) (n : Nat) :
    Turn P w K tg (Itr lo n) [it] it (fun i h => IsLongIter h it (lo + (i : Nat) * 1) ((n : Int) - (i : Nat)) 1) where
  mem := List.mem_singleton.mpr rfl
  obj := fun i h st b hb => by
    obtain rfl := List.mem_singleton.mp hb
    exact ⟨_, st, fun v z => nomatch (show Data.fields _ = Data.cell v from z)⟩
  keep := fun i h h' st k => k it (List.mem_singleton.mpr rfl) _ st
  item := by
    rintro X rfl rfl rfl hc i pins s σ H E I hf st hg
    obtain ⟨f0, f1, f2, f3, f4, f5⟩ := hf it (List.mem_singleton.mpr rfl)
    refine (Walks.longrange (prog := X.prog) (w := X.w) (I.ok.hd hc) it lo 1 n).item i s _ _ hg st fun v h' tk hv st' kk => ?_
    obtain ⟨t, rfl⟩ := hv
    have J : Inv X pins σ H { s with heap := h', toks := tk } := I.turned (fun b o hb e => kk b o (fun z => hb (List.mem_singleton.mp z)) e) f0 f1 f3 f4 f5
    refine ⟨_, rfl, go_of (s := { s with heap := h', toks := tk }) (n := "longrange_iterator") st' rfl rfl (by decide) ⟨.int (lo + i), H, J, ⟨t, ?_⟩, ⟨rfl, rfl⟩, st', fun b hb => (hf b hb).1⟩⟩
    rw [Int.mul_one]
  done := by
    rintro X rfl rfl rfl hc i pins s σ H E I hf st hg
    obtain ⟨f0, f1, f2, f3, f4, f5⟩ := hf it (List.mem_singleton.mpr rfl)
    have hn : n ≤ i := hg
    exact wpAny_pyNext_long_end (I.ok.hd hc) st (by omega) fun h' eb => ⟨rfl, I.turned (t' := s.toks) (fun b o hb e => eb b o hb e) f0 f1 f3 f4 f5⟩
  self := fun _ _ _ _ _ st h => wpAny_pyIter_longiter st h
section
variable {X : Cx} {tg : Expr}
theorem range_any {pins : List (Addr × Obj)} {σ : L2.St} {H : Hp} {s : Shared} {R : It → Hp → Prop} {E : Value → Shared → Prop} {lo hi : Int} {t u v : Tok} {tk : Nat} (I : Inv X pins σ H s) (q : R (Itr lo (hi - lo).toNat) H) :
    wpAny (model X.prog X.w) X.A (pyIter (.ref s.heap.objs.size)) (PIE X pins σ tg R) E { s with heap := s.heap.push { cls := .type "range", data := .fields #[.int lo t, .int hi u, .int 1 v] }, toks := tk } := by
  have J : Inv X pins σ H { s with heap := s.heap.push { cls := .type "range", data := .fields #[.int lo t, .int hi u, .int 1 v] }, toks := tk } := I.kept fun b o e => Heap.get?_push_of_some _ e
  have e1 : lo + ((0 : Nat) : Int) * 1 = lo := by simp
  have e2 : (((hi - lo).toNat : Nat) : Int) - ((0 : Nat) : Int) = Builtin.Range.rangeSize lo hi 1 := by rw [rangeSize_one]; split <;> omega
  have fr : ∀ b ∈ [(s.heap.push { cls := .type "range", data := .fields #[.int lo t, .int hi u, .int 1 v] }).objs.size], _ := fun b hb => by
    obtain rfl := List.mem_singleton.mp hb
    exact J.fpOk (Nat.le_refl _) (J.hok.fresh (Nat.le_refl _))
  cases hs : Builtin.Range.small lo hi 1 with
  | true =>
    refine wpAny_pyIter_range (IsRange.new ..) hs ⟨_, [_], _, _, H, rfl, J.kept (t' := tk) fun b o e => Heap.get?_push_of_some _ e, turn_range _ lo (hi - lo).toNat, ?_, fr, q⟩
    show IsRangeIter _ _ (lo + ((0 : Nat) : Int) * 1) ((((hi - lo).toNat : Nat) : Int) - ((0 : Nat) : Int)) 1
    rw [e1, e2]
    exact Heap.get?_push_size _ rfl
  | false =>
    refine wpAny_pyIter_longrange (IsRange.new ..) hs ⟨_, [_], _, _, H, rfl, J.kept (t' := tk) fun b o e => Heap.get?_push_of_some _ e, turn_long _ lo (hi - lo).toNat, ?_, fr, q⟩
    show IsLongIter _ _ (lo + ((0 : Nat) : Int) * 1) ((((hi - lo).toNat : Nat) : Int) - ((0 : Nat) : Int)) 1
    rw [e1, e2]
    exact Heap.get?_push_size _ rfl
def iRngA (ta : TA) : TI := fun σ H R => ta σ H fun vs H1 => ∃ i j : Int, vs = [.int i, .int j] ∧ R (Itr i (j - i).toNat) H1
theorem pi_rangeA {a b : Expr} {ta : TA} {p pos : Pos} (hg : Gl X "range") (hm : X.mg "range" = none) (ha : PA X [a, b] ta) (hs : starEach [a, b] X.env = [(false, eval a X.env), (false, eval b X.env)] := by rfl)
    (hs2 : starEach [b] X.env = [(false, eval b X.env)] := by rfl) : PI X tg (.Call (.Name "range" p) [a, b] [] pos) (iRngA ta) := by
  refine ⟨fun pins s σ H R I h => Call_ (ld_blt I hg hm boot_range (PyProof.Rows.callWith_type1 (thn (ha.run pos pins s σ H _ I h) fun us s1 ⟨vs, H1, I1, r1, q1⟩ => ?_) (by rw [hs, hs2]) (by rw [hs2]; rfl)))⟩
  obtain ⟨i, j, rfl, q⟩ := q1
  obtain ⟨u, z, rfl, ⟨t, rfl⟩, ⟨t', rfl⟩⟩ := vals2 r1
  exact call_range_2 (range_any I1 q)
end
end Ex

set_option Elab.async false
set_option linter.all false
set_option maxRecDepth 100000
set_option maxHeartbeats 4000000
/-! Own layer: data of any depth, dicts among it, as repr shows it. -/
namespace Ex
open PySem PySem.Spec PyProof.Rows L2 Gu
mutual
inductive Dq (K : PySem.W.Frag) (H : Hp) : V → PyData → Prop
  | non : Dq K H .non .none
  | bl (b : Bool) : Dq K H (.bl b) (.bool b)
  | int (i : Int) : Dq K H (.int i) (.int i)
  | str (x : Str) : Dq K H (.str x) (.str x)
  | lst {a : Addr} {xs : List V} {ds : List PyData} : SqL K H a xs → DqAll K H xs ds → Dq K H (.ref a) (.list ds)
  | tup {a : Addr} {xs : List V} {ds : List PyData} : SqT K H a xs → DqAll K H xs ds → Dq K H (.ref a) (.tuple ds)
  | dct {a : Addr} {kvs : List (Key × V)} {ds : List (PyData × PyData)} : H a = some (.dK kvs) → DqAll K H (kvs.map fun p => kV p.1) (ds.map (·.1)) → DqAll K H (kvs.map (·.2)) (ds.map (·.2)) → Dq K H (.ref a) (.dict ds)
inductive DqAll (K : PySem.W.Frag) (H : Hp) : List V → List PyData → Prop
  | nil : DqAll K H [] []
  | cons {v : V} {vs : List V} {d : PyData} {ds : List PyData} : Dq K H v d → DqAll K H vs ds → DqAll K H (v :: vs) (d :: ds)
end
/-- the table of modules stands in the written part: no list lies there -/
def SysOk (K : PySem.W.Frag) : Prop := ∃ o, K.lookup sysModules = some o ∧ o.cls ≠ .type "list"
section
variable {X : Cx} {pins : List (Addr × Obj)} {σ : L2.St} {H : Hp} {s : Shared}
theorem key_rel {k : Key} {v : Value} (h : keyIs k v = true) : RelV (kV k) v := by
  rcases keyIs_shape h with ⟨i, t, rfl, rfl⟩ | ⟨x, t, rfl, rfl⟩
  · exact ⟨t, rfl⟩
  · exact ⟨t, rfl⟩
theorem not_sys {a : Addr} {o : Obj} (hs : SysOk X.K) (I : Inv X pins σ H s) (ho : s.heap.get? a = some o) (hc : o.cls = .type "list") : a ≠ sysModules := fun z => by
  obtain ⟨u, e, n⟩ := hs
  have h2 := I.kIn _ _ e
  rw [z, h2] at ho
  rw [Option.some.inj ho] at n
  exact n hc
theorem pairs_rel {es : List DictEntry} {vs : List (Key × Value)} (h : Pairs (mixKind X.prog X.w) es vs) : ∀ {kvs : List (Key × V)}, KV kvs vs → Vals (kvs.map fun p => kV p.1) (es.map (·.key)) ∧ Vals (kvs.map (·.2)) (es.map (·.val)) := by
  induction h with
  | nil =>
    intro kvs r
    cases r
    exact ⟨.nil, .nil⟩
  | @cons e kv es vs h1 h2 h3 ih =>
    intro kvs r
    cases r with
    | @cons p _ l _ r1 r2 =>
      obtain ⟨i1, i2⟩ := ih r2
      have k1 : RelV (kV p.1) e.key := by
        rw [r1.1]
        exact key_rel h1
      have k2 : RelV p.2 e.val := by
        rw [h2]
        exact r1.2
      exact ⟨.cons k1 i1, .cons k2 i2⟩
mutual
theorem Dq.reads (hs : SysOk X.K) (I : Inv X pins σ H s) : ∀ {v : V} {d : PyData}, Dq X.K H v d → ∀ u, RelV v u → ∃ as, Reads s.heap u d as ∧ sysModules ∉ as
  | _, _, .non, u, r => by
    cases r
    exact ⟨_, Reads.none, List.not_mem_nil⟩
  | _, _, .bl b, u, r => by
    cases r
    exact ⟨_, Reads.bool b, List.not_mem_nil⟩
  | _, _, .int i, u, r => by
    obtain ⟨t, rfl⟩ := r
    exact ⟨_, Reads.int i t, List.not_mem_nil⟩
  | _, _, .str x, u, r => by
    obtain ⟨t, rfl⟩ := r
    exact ⟨_, Reads.str x t, List.not_mem_nil⟩
  | _, _, .lst (a := a) hq ha, u, r => by
    cases r
    obtain ⟨its, rv, ⟨o, n, ho, hc, _, hd⟩, _⟩ := I.list hq
    obtain ⟨as, hr, na⟩ := Dq.readsAll hs I ha its rv
    refine ⟨_, Reads.list ho hc hd hr, fun hm => ?_⟩
    rcases List.mem_cons.mp hm with z | z
    · exact not_sys hs I ho hc z.symm
    · exact na z
  | _, _, .tup (a := a) hq ha, u, r => by
    cases r
    obtain ⟨its, rv, ⟨o, ho, hc, n, hd⟩, _⟩ := I.tuple hq
    obtain ⟨as, hr, na⟩ := Dq.readsAll hs I ha its rv
    exact ⟨_, Reads.tuple ho hc hd hr, na⟩
  | _, _, .dct (a := a) (kvs := kvs) hq h1 h2, u, r => by
    cases r
    obtain ⟨_, ns, vs, rk, o, es, ep, ho, hx, hd, _, hp, _⟩ := (show ObjOk X.prog X.w H s.heap a (.dK kvs) from I.hok a _ hq)
    obtain ⟨r1, r2⟩ := pairs_rel hp rk
    obtain ⟨as, q1, n1⟩ := Dq.readsAll hs I h1 _ r1
    obtain ⟨bs, q2, n2⟩ := Dq.readsAll hs I h2 _ r2
    refine ⟨_, Reads.dict ho hx.1 hd q1 q2, fun hm => ?_⟩
    rcases List.mem_append.mp hm with z | z
    · rcases List.mem_cons.mp z with z | z
      · rw [← z, beq_self_eq_true] at ns
        cases ns
      · exact n1 z
    · exact n2 z
theorem Dq.readsAll (hs : SysOk X.K) (I : Inv X pins σ H s) : ∀ {vs : List V} {ds : List PyData}, DqAll X.K H vs ds → ∀ us : List Value, Vals vs us → ∃ as, ReadsAll s.heap us ds as ∧ sysModules ∉ as
  | _, _, .nil, us, r => by
    cases r
    exact ⟨_, ReadsAll.nil, List.not_mem_nil⟩
  | _, _, .cons h1 h2, us, r => by
    cases r with
    | cons r1 r2 =>
      obtain ⟨as, q1, n1⟩ := Dq.reads hs I h1 _ r1
      obtain ⟨bs, q2, n2⟩ := Dq.readsAll hs I h2 _ r2
      refine ⟨_, ReadsAll.cons q1 q2, fun hm => ?_⟩
      rcases List.mem_append.mp hm with z | z
      · exact n1 z
      · exact n2 z
end
end
section
variable {X : Cx} {k : Nat}
/-- repr of any data -/
def rReprQ (K : PySem.W.Frag) : List V → Hp → VK → Prop := fun xs H Q => ∃ (v : V) (d : PyData), xs = [v] ∧ Dq K H v d ∧ d.showable = true ∧ d.depth ≤ 60 ∧ d.shown.length ≤ sizeLine ∧ Q (.str d.shown) H
theorem call_reprQ (hr : RoomG k X.A) (hs : SysOk X.K) : CallR X (.builtin "repr") (rReprQ X.K) := by
  intro pins s σ H xs us Q I r h
  obtain ⟨v, d, rfl, hd, hsh, hdep, hz, q⟩ := h
  obtain ⟨u, rfl, ru⟩ := vals1 r
  obtain ⟨as, rd, na⟩ := Dq.reads hs I hd u ru
  have hu := hr.r.units
  cases hd with
  | non =>
    cases ru
    exact PySem.P.repr_of_none ⟨.str _, H, I.tok _, ⟨_, rfl⟩, by simpa only [PyData.shown] using q⟩
  | bl b =>
    cases ru
    exact PySem.P.repr_of_bool ⟨.str _, H, I.tok _, ⟨_, rfl⟩, by simpa only [PyData.shown] using q⟩
  | int i =>
    obtain ⟨t, rfl⟩ := ru
    exact PySem.P.repr_of_int (by simpa [PyData.showable] using hsh) ⟨.str _, H, I.tok _, ⟨_, rfl⟩, by simpa only [PyData.shown] using q⟩
  | str x =>
    obtain ⟨t, rfl⟩ := ru
    exact PySem.P.repr_of_str ⟨.str _, H, I.tok _, ⟨_, rfl⟩, by simpa only [PyData.shown] using q⟩ (by simpa only [PyData.shown] using hz)
  | @lst a xs ds hq ha =>
    obtain rfl : u = Value.ref a := ru
    exact repr_of_reads' rd hsh (fun _ => na) hr.g (by omega) (fun _ _ e => e) (fun h' u tk hk => ⟨.str _, H, I.kept hk, ⟨u, rfl⟩, q⟩) hz
  | @tup a xs ds hq ha =>
    obtain rfl : u = Value.ref a := ru
    exact repr_of_reads' rd hsh (fun _ => na) hr.g (by omega) (fun _ _ e => e) (fun h' u tk hk => ⟨.str _, H, I.kept hk, ⟨u, rfl⟩, q⟩) hz
  | @dct a kvs ds hq h1 h2 =>
    obtain rfl : u = Value.ref a := ru
    exact repr_of_reads' rd hsh (fun _ => na) hr.g (by omega) (fun _ _ e => e) (fun h' u tk hk => ⟨.str _, H, I.kept hk, ⟨u, rfl⟩, q⟩) hz
/-- x is not True, x is not False, of any scalar -/
def rNotBA : R2 := fun x y H Q => ∃ b : Bool, y = .bl b ∧ ((∃ a : Bool, x = .bl a ∧ Q (.bl (!decide (a = b))) H) ∨ (∃ i : Int, x = .int i ∧ Q (.bl true) H))
theorem op_notBA : OpR X (compareOp .IsNot) rNotBA := by
  intro pins s σ H x y v u Q I rx ry h
  obtain ⟨b, rfl, h⟩ := h
  rcases h with ⟨a, rfl, q⟩ | ⟨i, rfl, q⟩
  · exact op_notBl pins s σ H _ _ v u Q I rx ry ⟨a, b, rfl, rfl, q⟩
  · cases (show u = Value.bool b from ry)
    obtain ⟨t, rfl⟩ := (show ∃ t, v = Value.int i t from rx)
    exact wpAny_isNot_other rfl (fun z => nomatch z) ⟨.bl true, H, I, rfl, q⟩
end
end Ex

set_option Elab.async false
set_option linter.all false
set_option maxRecDepth 100000
set_option maxHeartbeats 4000000
/-! Own layer: isinstance of a caught error that has a dict of its own; errors with fields, raised. -/
namespace Ex
open PySem PySem.Spec PySem.Calls PyProof.Rows L2 Gu
section
variable {prog : Program} {w : World} {A : Around} {E : Value → Shared → Prop} {s : Shared} {K : PySem.W.Frag} {x D : Addr} {ox od : Obj}
theorem class_of_exc {Q : Option Value → Shared → Prop} (c : ExcC K D) (X : K.In s.heap) (I : PySem.W.InstAt s.heap x ox D (some od)) (h : Q (some (.ref D)) { s with toks := s.toks + 1 }) :
    wpAny (model prog w) A (getAttr? (.ref x) "__class__") Q E s := by
  have found : PySem.W.findObj K D (some od) "__class__" = some (.bind (.builtin "getset_descriptor.__get__") (.builtin "object.__class__")) :=
    PySem.W.findObj_data (by obtain ⟨cd, e, _⟩ := PySem.W.any_some c.hd; rw [e]; rfl) c.ha c.hn c.ht
  obtain ⟨hp, g, d, t, os⟩ := s
  have lt := I.type (M := model prog w)
  have lg := PySem.W.looks_findIn (M := model prog w) X c.hg
  have lk := PySem.W.looks_findIn (M := model prog w) X c.hk
  have lf := PySem.W.looks_find (M := model prog w) X I found
  have other : (onTheHeap (Value.ref D) && Value.builtin "BaseException.__getattribute__" == Value.builtin "object.__getattribute__") = false := by
    rw [show (Value.builtin "BaseException.__getattribute__" == Value.builtin "object.__getattribute__") = false by decide +kernel]
    rfl
  unfold getAttr? getAttrBy? getAttrBy
  refine wpAny_bind (wpAny_mkText (wpAny_bind (wpAny_attempt (wpAny_holding (wpAny_bind (lt.at (wpAny_bind (lg.at ?own))))))))
  case own =>
    show wpAny _ _ (if (onTheHeap (Value.ref D) && Value.builtin "BaseException.__getattribute__" == Value.builtin "object.__getattribute__") = true then _ else _) _ _ _
    rw [other, if_neg Bool.false_ne_true]
    unfold getAttrByItsOwn hookBefore
    refine wpAny_bind ?_
    rw [if_pos (show onTheHeap (Value.ref D) = true from rfl)]
    refine lk.at (wpAny_bind (wpAny_attempt (wpAny_holding ?_)))
    unfold callGetattribute
    rw [show (false && onTheHeap (Value.builtin "BaseException.__getattribute__")) = false from rfl, if_neg Bool.false_ne_true]
    unfold boundAndCalled
    rw [PySem.F.excAttr_ValueError.ga.bind (.ref x)]
    refine wpAny_bind (wpAny_pure ?_)
    show wpAny _ _ (call (.builtin "BaseException.__getattribute__") [.ref x, .str "__class__" t]) _ _ _
    refine wpAny_call (codeAny_call_builtin PySem.F.excAttr_ValueError.ga.plain PySem.F.entry_bexc_ga
      (@PySem.W.check_slot (model prog w) _ _ ⟨hp, g, d, t + 1, os⟩ "BaseException.__getattribute__" "BaseException" "__getattribute__" (.ref x) [.str "__class__" t] [] _
        (by decide +kernel) (by decide +kernel) (lt.andThen (PySem.W.looks_subIn X c.hs)) (PySem.F.args_bexc_ga (.ref x) (.str "__class__" t)) ?_))
    unfold Builtin.«object.__getattribute__»
    refine wpAny_bind (wpAny_of_eq (a := ((Value.ref x : Value), [Value.str "__class__" t])) (by first | rfl | (simp only [slotArgs]; rfl)) (wpAny_bind (wpAny_pure (wpAny_bind (lt.at (wpAny_bind (lf.at ?_)))))))
    show wpAny _ _ (holding [Value.builtin "object.__class__"] (call (.builtin "getset_descriptor.__get__") [.builtin "object.__class__", .ref x, .ref D]) >>= ret) _ _ _
    refine wpAny_bind (wpAny_holding (wpAny_call (PySem.W.class_get (s := ⟨hp, g, d, t + 1, os⟩) (ox := ox) (od := some od) X I c.hm (wpAny_pure ?_))))
    show wpAny _ _ (handedOut (.ref D)) _ _ _
    rw [PySem.W.handedOut_of (v := .ref D) rfl]
    first
      | exact wpAny_pure (wpAny_pure h)
      | exact wpAny_pure h
      | exact wpAny_pure (wpAny_bind (wpAny_pure (wpAny_pure h)))
theorem kitx_exc (c : ExcC K D) : PySem.W.KitX K (.ref x) (.ref D) (fun h => PySem.W.InstAt h x ox D (some od)) where
  ty := fun _ _ _ I => I.type
  it := fun _ _ X _ => by
    obtain ⟨cd, e, _⟩ := PySem.W.any_some c.hd
    unfold PySem.W.clsIn at e
    split at e
    · rename_i ho
      exact fun A' Q' E' s' k q => by
        unfold isType loadHead
        exact wpAny_bind (wpAny_loadPart (k _ _ (X _ _ ho)) (wpAny_pure q))
    · cases e
  ne := fun h tp dd its n sl X htp => by
    obtain ⟨cd, e, _⟩ := PySem.W.any_some c.hd
    cases q : (Value.ref D == Value.ref tp) with
    | false => rfl
    | true =>
      have z : D = tp := Value.ref.inj (beq_iff_eq.mp q)
      rw [← z] at htp
      unfold PySem.W.clsIn at e
      split at e
      · rename_i ho
        have y := (X _ _ ho).symm.trans htp
        cases y
      · cases e
  ca := fun X I k => class_of_exc c X I k
end
section
variable {X : Cx} {a D : Addr} {oe : Obj} {d : Addr} {pn : List (Addr × Obj)}
/-- the caught error as the machine sees it -/
theorem inst_exc {pins : List (Addr × Obj)} {σ : L2.St} {H : Hp} {s : Shared} {fs : List (Str × V)} (I : Inv (X.suite a ((a, oe) :: pn)) pins σ H s) (hz : Zc (.ref D) (some d) oe) (hf : ∃ vs, oe.data = .fields vs) (hd : H d = some (.xd fs)) :
    ∃ od, PySem.W.InstAt s.heap a oe D (some od) := by
  obtain ⟨hget, _⟩ := I.pin (a, oe) (List.mem_append_left _ List.mem_cons_self)
  obtain ⟨vs, hv⟩ := hf
  obtain ⟨mA, hns, _⟩ := (show ObjOk X.prog X.w H s.heap d (.xd fs) from I.hok d _ hd)
  obtain ⟨od, ho, _⟩ := lookIn_ns hns
  exact ⟨od, hget, hz.1, by unfold PySem.W.notCls; rw [hv] <;> rfl, by rw [hz.2]; exact ho⟩
/-- isinstance(e, c) -/
def rIsX (K : PySem.W.Frag) (D a : Addr) (cls : Value) (d : Option Addr) : List V → Hp → VK → Prop := fun xs H Q => ∃ (c : V) (u : Value) (b : Bool) (dd : Addr) (fs : List (Str × V)), xs = [.ref a, c] ∧ cls = .ref D ∧ d = some dd ∧ ClsV c u ∧ H dd = some (.xd fs) ∧ PySem.W.kitOne K (.ref D) u = some b ∧ Q (.bl b) H
theorem call_isX {cls : Value} {d : Option Addr} (c : ExcC X.K D) (hz : Zc cls d oe) (hf : ∃ vs, oe.data = .fields vs) : CallR (X.suite a ((a, oe) :: pn)) (.builtin "isinstance") (rIsX X.K D a cls d) := by
  intro pins s σ H xs us Q I r h
  obtain ⟨cv, u, b, dd, fs, rfl, rfl, rfl, k, hd, e, q⟩ := h
  obtain ⟨u1, u2, rfl, r1, r2⟩ := vals2 r
  obtain rfl : u1 = Value.ref a := r1
  have e2 := k.eq r2
  subst e2
  obtain ⟨od, J⟩ := inst_exc I hz hf hd
  exact PySem.W.kia_one (kitx_exc c) I.kIn J e (fun z => nomatch z) fun tk => ⟨.bl b, H, I.tok tk, rfl, q⟩
/-- isinstance(e, (c1, c2, ..)) -/
def rIsXT (K : PySem.W.Frag) (D a : Addr) (cls : Value) (d : Option Addr) : List V → Hp → VK → Prop := fun xs H Q => ∃ (tp : Addr) (cs : List V) (us : List Value) (b : Bool) (dd : Addr) (fs : List (Str × V)), xs = [.ref a, .ref tp] ∧ cls = .ref D ∧ d = some dd ∧
  H tp = some (.tup cs) ∧ Paired ClsV cs us ∧ H dd = some (.xd fs) ∧ PySem.W.kitAny K (.ref D) us = some b ∧ Q (.bl b) H
theorem call_isXT {cls : Value} {d : Option Addr} (c : ExcC X.K D) (hz : Zc cls d oe) (hf : ∃ vs, oe.data = .fields vs) : CallR (X.suite a ((a, oe) :: pn)) (.builtin "isinstance") (rIsXT X.K D a cls d) := by
  intro pins s σ H xs us Q I r h
  obtain ⟨tp, cs, ws, b, dd, fs, rfl, rfl, rfl, hT, k, hd, e, q⟩ := h
  obtain ⟨u1, u2, rfl, r1, r2⟩ := vals2 r
  obtain rfl : u1 = Value.ref a := r1
  obtain rfl : u2 = Value.ref tp := r2
  obtain ⟨od, J⟩ := inst_exc I hz hf hd
  obtain ⟨_, its, rv, o, h1, h2, n, h3⟩ := (show ObjOk X.prog X.w H s.heap tp (.tup cs) from I.hok tp _ hT)
  have e3 := ClsV.all k rv
  subst e3
  obtain ⟨oc, odd, dt, sl⟩ := o
  simp only at h2 h3
  subst h2 h3
  exact PySem.W.kia_tup (kitx_exc c) I.kIn J h1 e (fun z => nomatch z) fun tk => ⟨.bl b, H, I.tok tk, rfl, q⟩
end
section
variable {X : Cx}
/-- repr of any data, also while an error is handled -/
theorem call_reprH (hg : X.A.guards = some []) (hu : X.A.units + 64 < cLine) (hs : SysOk X.K) : CallR X (.builtin "repr") (rReprQ X.K) := by
  intro pins s σ H xs us Q I r h
  obtain ⟨v, d, rfl, hd, hsh, hdep, hz, q⟩ := h
  obtain ⟨u, rfl, ru⟩ := vals1 r
  obtain ⟨as, rd, na⟩ := Dq.reads hs I hd u ru
  have viaRef : ∀ {a : Addr}, u = Value.ref a → wpAny (model X.prog X.w) X.A (call (.builtin "repr") [u]) (EP X pins σ Q) X.xe s := fun {a} e => by
    subst e
    exact repr_of_reads' rd hsh (fun _ => na) hg (by omega) (fun _ _ e => e) (fun h' u tk hk => ⟨.str _, H, I.kept hk, ⟨u, rfl⟩, q⟩) hz
  cases hd with
  | non =>
    cases ru
    exact PySem.P.repr_of_none ⟨.str _, H, I.tok _, ⟨_, rfl⟩, by simpa only [PyData.shown] using q⟩
  | bl b =>
    cases ru
    exact PySem.P.repr_of_bool ⟨.str _, H, I.tok _, ⟨_, rfl⟩, by simpa only [PyData.shown] using q⟩
  | int i =>
    obtain ⟨t, rfl⟩ := ru
    exact PySem.P.repr_of_int (by simpa [PyData.showable] using hsh) ⟨.str _, H, I.tok _, ⟨_, rfl⟩, by simpa only [PyData.shown] using q⟩
  | str x =>
    obtain ⟨t, rfl⟩ := ru
    exact PySem.P.repr_of_str ⟨.str _, H, I.tok _, ⟨_, rfl⟩, by simpa only [PyData.shown] using q⟩ (by simpa only [PyData.shown] using hz)
  | lst hq ha => exact viaRef ru
  | tup hq ha => exact viaRef ru
  | dct hq h1 h2 => exact viaRef ru
end
end Ex

set_option Elab.async false
set_option linter.all false
set_option maxRecDepth 100000
set_option maxHeartbeats 4000000
/-! Own layer: len(o) by an own __len__; what repr shows, within bounds; both law-free. -/
namespace Ex
open PySem PySem.Spec PySem.Calls PyProof.Rows L2 Gu
section
variable {X : Cx} {k j : Nat} {c : Str} {ps : List Str} {sp : Sp}
/-- len(o) by the class's own __len__ -/
def rLenO (C : Addr) (sp : Sp) : List V → Hp → VK → Prop := fun xs H Q => ∃ (a dx : Addr) (fs : List (Str × V)), xs = [.ref a] ∧ H a = some (.ins C dx fs) ∧ sp [.ref a] H (fun v H' => ∃ n : Nat, v = .int n ∧ n ≤ sizeLine ∧ Q (.int n) H') E0
theorem call_lenO (D : Mf X.prog X.w X.K X.mg X.base k c "__len__" ps sp) (hr : Room j X.A) (hj : k + 1 ≤ j := by decide) : CallR X (.builtin "len") (rLenO (He.ga X.K c) sp) := by
  intro pins s σ H xs us Q I r h
  obtain ⟨a, dx, fs, rfl, ha, hq⟩ := h
  obtain ⟨u, rfl, ru⟩ := vals1 r
  obtain rfl : u = Value.ref a := ru
  obtain ⟨fd, F, b⟩ := D.ex
  obtain ⟨mA, J, _⟩ := ins_get I.hok ha
  obtain ⟨od, J, _⟩ := J.look
  have rm : Room k X.A.in1 := (hr.mono hj).in1
  refine Calls.call_function_entry kind_len plain_len entry_len (args_len1 _) ?_
  unfold Builtin.«len»
  refine wpAny_bind (m := oneArg "len" _) (wpAny_pure ?_)
  refine wpAny_bind (m := callSpecial? (.ref a) (Str.ofString "__len__")) (PySem.W.special_fn (name := Str.ofString "__len__") (args := []) I.kIn J D.me.at_ (beq_iff_eq.mp D.me.fn) ?_)
  have e0 : Env0 X.prog X.w X.K X.mg X.base X.A.in1 X.stack s H := by
    have e := I.env0
    exact ⟨e.frames, e.mod, e.bs, e.bsz, e.funs, e.frf, e.hok, e.bare⟩
  have hl := F.len _ _ _ _ hq
  refine wpAny_call (codeAny_mono (F.run X.A.in1 X.stack s H ⟨[.ref a], []⟩ [.ref a] [.ref a] _ E0 rm e0 (by
    have := b s [.ref a] I.kIn (by simpa using hl)
    simpa using this) (.cons rfl .nil) hq) fun r s' hq' => ?_)
  match r, hq' with
  | .ok (.ret u), hq' =>
    obtain ⟨v, H', I', rv, n, rfl, hn, q⟩ := I.after hq'
    obtain ⟨t, rfl⟩ := rv
    have hs : sizeLine = 16777216 := sizeLine_eq
    refine wpAny_bind (wpAny_holding (wpAny_pure ?_))
    refine wpAny_bind (wpAny_letGo ?_)
    show wpAny _ _ (if ((n : Nat) : Int) < 0 then _ else _) _ _ _
    rw [if_neg (by omega)]
    show wpAny _ _ (if ((n : Nat) : Int) ≥ 2 ^ 63 then _ else _) _ _ _
    rw [if_neg (by omega)]
    exact wpAny_bind (wpAny_mkInt (wpAny_pure ⟨_, rfl, ⟨.int n, H', I'.tok _, ⟨_, rfl⟩, q⟩⟩))
end
theorem seqT {K : PySem.W.Frag} {H H' : Hp} {a : Addr} {xs : List V} (e : Same H H') (h : SqT K H a xs) : SqT K H' a xs := by
  rcases h with (h | ⟨o, h⟩) | h
  · exact .inl (.inl (e _ _ h))
  · exact .inl (.inr ⟨o, e _ _ h⟩)
  · exact .inr h
mutual
theorem dq_same {K : PySem.W.Frag} {H H' : Hp} (e : Same H H') : ∀ {v : V} {d : PyData}, Dq K H v d → Dq K H' v d
  | _, _, .non => .non
  | _, _, .bl b => .bl b
  | _, _, .int i => .int i
  | _, _, .str x => .str x
  | _, _, .lst hq ha => .lst (e.seq hq) (dqAll_same e ha)
  | _, _, .tup hq ha => .tup (seqT e hq) (dqAll_same e ha)
  | _, _, .dct hq h1 h2 => .dct (e _ _ hq) (dqAll_same e h1) (dqAll_same e h2)
theorem dqAll_same {K : PySem.W.Frag} {H H' : Hp} (e : Same H H') : ∀ {vs : List V} {ds : List PyData}, DqAll K H vs ds → DqAll K H' vs ds
  | _, _, .nil => .nil
  | _, _, .cons h1 h2 => .cons (dq_same e h1) (dqAll_same e h2)
end
/-- a value as repr shows it: nested at most n deep, at most m signs -/
structure Tq (K : PySem.W.Frag) (H : Hp) (v : V) (d : PyData) (n m : Nat) : Prop where
  dq : Dq K H v d
  sh : d.showable = true
  dp : d.depth ≤ n
  ln : d.shown.length ≤ m
structure TqAll (K : PySem.W.Frag) (H : Hp) (xs : List V) (ds : List PyData) (n m : Nat) : Prop where
  dq : DqAll K H xs ds
  sh : PyData.showableAll ds = true
  dp : PyData.depthAll ds ≤ n
  ln : ((PyData.shownAll ds).map (·.length)).sum + 2 * (PyData.shownAll ds).length ≤ xs.length * (m + 2)
section
variable {K : PySem.W.Frag} {H H' : Hp} {n m : Nat}
theorem Tq.same {v : V} {d : PyData} (t : Tq K H v d n m) (e : Same H H') : Tq K H' v d n m := ⟨dq_same e t.dq, t.sh, t.dp, t.ln⟩
theorem Tq.mono {v : V} {d : PyData} {n' m' : Nat} (t : Tq K H v d n m) (h1 : n ≤ n') (h2 : m ≤ m') : Tq K H v d n' m' := ⟨t.dq, t.sh, Nat.le_trans t.dp h1, Nat.le_trans t.ln h2⟩
theorem TqAll.same {xs : List V} {ds : List PyData} (t : TqAll K H xs ds n m) (e : Same H H') : TqAll K H' xs ds n m := ⟨dqAll_same e t.dq, t.sh, t.dp, t.ln⟩
theorem tq_all : ∀ {xs : List V}, (∀ v ∈ xs, ∃ d, Tq K H v d n m) → ∃ ds, TqAll K H xs ds n m
  | [], _ => ⟨[], .nil, rfl, Nat.zero_le _, Nat.zero_le _⟩
  | v :: xs, h => by
    obtain ⟨d, t⟩ := h v List.mem_cons_self
    obtain ⟨ds, a, b, c, e⟩ := tq_all (xs := xs) fun u hu => h u (List.mem_cons_of_mem _ hu)
    refine ⟨d :: ds, .cons t.dq a, ?_, ?_, ?_⟩
    · show (d.showable && PyData.showableAll ds) = true
      rw [t.sh, b]
      rfl
    · show max d.depth (PyData.depthAll ds) ≤ n
      have := t.dp
      omega
    · show (d.shown.length + ((PyData.shownAll ds).map (·.length)).sum) + 2 * ((PyData.shownAll ds).length + 1) ≤ (xs.length + 1) * (m + 2)
      have := t.ln
      rw [Nat.add_mul, Nat.one_mul]
      omega
theorem TqAll.lst {a : Addr} {xs : List V} {ds : List PyData} (t : TqAll K H xs ds n m) (h : H a = some (.lst xs)) : Tq K H (.ref a) (.list ds) (n + 1) (xs.length * (m + 2) + 3) := by
  refine ⟨.lst (SqL.of h) t.dq, t.sh, ?_, ?_⟩
  · show PyData.depthAll ds + 1 ≤ n + 1
    have := t.dp
    omega
  · have e := listText_len_le (PyData.shownAll ds)
    show (listText (PyData.shownAll ds)).length ≤ _
    have := t.ln
    omega
theorem TqAll.tup {a : Addr} {xs : List V} {ds : List PyData} (t : TqAll K H xs ds n m) (h : H a = some (.tup xs)) : Tq K H (.ref a) (.tuple ds) (n + 1) (xs.length * (m + 2) + 3) := by
  refine ⟨.tup (SqT.of h) t.dq, t.sh, ?_, ?_⟩
  · show PyData.depthAll ds + 1 ≤ n + 1
    have := t.dp
    omega
  · have e := tupleText_len_le (PyData.shownAll ds)
    show (tupleText (PyData.shownAll ds)).length ≤ _
    have := t.ln
    omega
theorem tq_non : Tq K H .non .none 0 41 := ⟨.non, rfl, Nat.le_refl _, by decide +kernel⟩
theorem tq_bl (b : Bool) : Tq K H (.bl b) (.bool b) 0 41 := ⟨.bl b, rfl, Nat.le_refl _, by cases b <;> decide +kernel⟩
theorem tq_int {i : Int} (h1 : -(10 ^ 39) ≤ i) (h2 : i ≤ 10 ^ 39) : Tq K H (.int i) (.int i) 0 41 := by
  have b39 : (10 : Int) ^ 39 = 1000000000000000000000000000000000000000 := by decide
  have e : i.natAbs < 10 ^ 40 := by
    have z : (10 : Nat) ^ 40 = 10000000000000000000000000000000000000000 := by decide
    omega
  have a : i.natAbs.log2 < 1920 := Nat.lt_of_lt_of_le (PySem.Flt.log2_lt_of (k := 200) (by decide) (Nat.lt_trans e (by decide))) (by decide)
  refine ⟨.int i, decide_eq_true a, Nat.le_refl _, ?_⟩
  have z := int_text_length_le10 (k := 40) (by decide) e
  show (Str.ofString (toString i)).length ≤ 41
  rw [PySem.ofString_length]
  exact z
theorem tq_text (z : String) (h : (reprText (Str.ofString z)).length ≤ 41) : Tq K H (.str (Str.ofString z)) (.str (Str.ofString z)) 0 41 := ⟨.str _, rfl, Nat.le_refl _, h⟩
theorem tq_dct {a : Addr} (h : H a = some (.dK [])) : Tq K H (.ref a) (.dict []) 1 41 := ⟨.dct h .nil .nil, rfl, by decide, by decide +kernel⟩
end
theorem code_lt {z : String} {c : Nat} (hc : c ∈ (Str.ofString z).cps.toList) : c < 1114112 := by
  have hc2 : c ∈ z.toList.map Char.toNat := by
    rw [← cpsOfBytes_string]
    simpa [Str.ofString] using hc
  obtain ⟨ch, _, rfl⟩ := List.mem_map.mp hc2
  have v : ch.val.toNat < 55296 ∨ (57343 < ch.val.toNat ∧ ch.val.toNat < 1114112) := ch.valid
  show ch.val.toNat < 1114112
  omega
/-- repr of such a value -/
theorem repr_tq {K : PySem.W.Frag} {H : Hp} {v : V} {d : PyData} {n m : Nat} {Q : VK} (t : Tq K H v d n m) (q : Q (.str d.shown) H) (hn : n ≤ 60 := by decide) (hm : m ≤ sizeLine := by decide) : rReprQ K [v] H Q :=
  ⟨v, d, rfl, t.dq, t.sh, Nat.le_trans t.dp hn, Nat.le_trans t.ln hm, q⟩
end Ex

set_option Elab.async false
set_option linter.all false
set_option maxRecDepth 100000
set_option maxHeartbeats 4000000
/-! Own layer: a == b by an own __eq__ that answers True or False; len(set(xs)) of ints that may be equal. -/
namespace Ex
open PySem PySem.Spec PySem.Calls PyProof.Rows L2 Gu
/-- a class's own == -/
structure EqOf (P : Program) (w : World) (K : PySem.W.Frag) (mg : Str → Option Value) (base : Heap) (k : Nat) (c : Str) (sp : Sp) : Prop where
  ex : ∃ fd, FnOk P w K mg base CX0 k (He.ma K (He.ga K c) "__eq__") fd ["self", "other"] sp ∧ Binds K fd ["self", "other"] []
  at_ : PySem.W.findIn K (.ref (He.ga K c)) "__eq__" = some (some (.ref (He.ma K (He.ga K c) "__eq__")))
  fn : PySem.W.isFn K (.ref (He.ma K (He.ga K c) "__eq__")) = true
/-- what isinstance asks of an own class, and that it knows itself -/
structure InsOk (K : PySem.W.Frag) (C : Addr) : Prop where
  cl : Cls K C
  ha : PySem.W.findIn K (.ref C) "__class__" = some (some (.builtin "object.__class__"))
  hn : PySem.W.specialIn K (.builtin "object.__class__") "__get__" = some (some (.builtin "getset_descriptor.__get__"))
  ht : PySem.W.takesIn K (.builtin "object.__class__") = some true
  hm : PySem.W.mroIn K C (.type "object") = some true
  ki : PySem.W.kitOne K (.ref C) (.ref C) = some true
def insB (K : PySem.W.Frag) (C : Addr) : Bool := He.eqO (PySem.W.findIn K (.ref C) "__class__") (some (some (.builtin "object.__class__"))) && (He.eqO (PySem.W.specialIn K (.builtin "object.__class__") "__get__") (some (some (.builtin "getset_descriptor.__get__"))) &&
  (decide (PySem.W.takesIn K (.builtin "object.__class__") = some true) && (decide (PySem.W.mroIn K C (.type "object") = some true) && decide (PySem.W.kitOne K (.ref C) (.ref C) = some true))))
theorem insB_ok {K : PySem.W.Frag} {C : Addr} (cl : Cls K C) (h : insB K C = true) : InsOk K C := by
  obtain ⟨h1, h⟩ := He.ba h
  obtain ⟨h2, h⟩ := He.ba h
  obtain ⟨h3, h⟩ := He.ba h
  obtain ⟨h4, h5⟩ := He.ba h
  exact ⟨cl, He.eqO_ok h1, He.eqO_ok h2, of_decide_eq_true h3, of_decide_eq_true h4, of_decide_eq_true h5⟩
theorem InsOk.ty {K : PySem.W.Frag} {C a dx : Addr} {fs : List (Str × V)} {H : Hp} (i : InsOk K C) (e : H a = some (.ins C dx fs)) : TyX K H (.ref a) (.ref C) := .base (.ins e i.cl i.ha i.hn i.ht i.hm)
/-- the facts of an own == by one Bool -/
def eqB (K : PySem.W.Frag) (C : Addr) : Bool := He.eqO (PySem.W.findIn K (.ref C) "__eq__") (some (some (.ref (He.ma K C "__eq__")))) && PySem.W.isFn K (.ref (He.ma K C "__eq__"))
theorem eqB_ok {K : PySem.W.Frag} {C : Addr} (h : eqB K C = true) : PySem.W.findIn K (.ref C) "__eq__" = some (some (.ref (He.ma K C "__eq__"))) ∧ PySem.W.isFn K (.ref (He.ma K C "__eq__")) = true := by
  obtain ⟨h1, h2⟩ := He.ba h
  exact ⟨He.eqO_ok h1, h2⟩
def rOwnEq (C : Addr) (sp : Sp) : R2 := fun x y H Q => ∃ a b dx dy fs gs, x = .ref a ∧ y = .ref b ∧ H a = some (.ins C dx fs) ∧ H b = some (.ins C dy gs) ∧ sp [.ref a, .ref b] H (fun v H' => (∃ t, v = .bl t) ∧ Q v H') E0
section
variable {X : Cx} {k j : Nat} {c : Str} {sp : Sp}
theorem op_own (D : EqOf X.prog X.w X.K X.mg X.base k c sp) (hr : Room j X.A) (hj : k ≤ j := by decide) : OpR X (compareOp .Eq) (rOwnEq (He.ga X.K c) sp) := by
  intro pins s σ H x y u v Q I rx ry ⟨a, b, dx, dy, fs, gs, ex, ey, ha, hb, hsp⟩
  subst ex ey
  obtain rfl : u = Value.ref a := rx
  obtain rfl : v = Value.ref b := ry
  obtain ⟨fd, F, bi⟩ := D.ex
  have hr' := hr.mono hj
  obtain ⟨mA, J, _⟩ := ins_get I.hok ha
  obtain ⟨mB, J', _⟩ := ins_get I.hok hb
  obtain ⟨od, J, _⟩ := J.look
  obtain ⟨od', J', _⟩ := J'.look
  obtain ⟨m, hF⟩ := I.fr
  show wpAny (model X.prog X.w) X.A (richCompare .Eq (.ref a) (.ref b)) (EP X pins σ Q) X.xe s
  refine PySem.W.cmp_K (op := .Eq) (tb := .ref (He.ga X.K c)) hr'.units0 hF I.ok.mod.kin J J'.type (by simp [PySem.W.notFirst]) D.at_ D.fn ?_
  have r2 : Vals [V.ref a, V.ref b] [Value.ref a, Value.ref b] := .cons rfl (.cons rfl .nil)
  have bb := bi s [.ref a, .ref b] I.kIn rfl
  refine wpAny_call (codeAny_mono (F.run X.A X.stack s H ⟨[.ref a, .ref b], []⟩ [.ref a, .ref b] [.ref a, .ref b] _ E0 hr' I.env0 (by simpa using bb) r2 hsp) fun r s' hq => ?_)
  match r, hq with
  | .ok (.ret w), hq =>
    obtain ⟨z, H', I', rz, ⟨t, ez⟩, q⟩ := I.after hq
    subst ez
    cases rz
    exact ⟨.bl t, H', I', rfl, q⟩
/-- how many different ones -/
def diff (ns : List Int) : Nat := (ns.foldl step_dedup []).length
theorem range_get (ns : List Int) : (List.range ns.length).map (fun i => ns.getD i 0) = ns := by
  apply List.ext_getElem?
  intro i
  by_cases h : i < ns.length
  · rw [List.getElem?_map, List.getElem?_range h, List.getElem?_eq_getElem h]
    simp [h]
  · rw [List.getElem?_eq_none (by rw [List.length_map, List.length_range]; omega), List.getElem?_eq_none (by omega)]
def tLenSetD (K : PySem.W.Frag) (ta : TE) : TE := fun σ H Q => ta σ H fun x H1 => ∃ (l : Addr) (ns : List Int), x = V.ref l ∧ SqL K H1 l (ns.map V.int) ∧ ns.length < 64 ∧ Q (.int (diff ns : Nat)) H1
theorem pe_lenSetD {a : Expr} {ta : TE} {p p2 q pos : Pos} (hc : X.calm = true) (hg : Gl X "len") (hm : X.mg "len" = none) (hg2 : Gl X "set") (hm2 : X.mg "set" = none) (ha : PE X a ta)
    (na : starEach [a] X.env = (false, eval a X.env) :: starEach [] X.env := by rfl) : PE X (.Call (.Name "len" p) [.Call (.Name "set" p2) [a] [] q] [] pos) (tLenSetD X.K ta) := by
  refine ⟨fun pins s σ H Q I h => Call_ (ld_blt I hg hm PySem.boot_len (PyProof.Rows.callWith_builtin1 (PyProof.Rows.args_cons (Call_ (ld_blt I hg2 hm2 PyProof.Rows.boot_set ?_)) rfl) rfl rfl))⟩
  refine PyProof.Rows.callWith_type1 (PyProof.Rows.args_cons (thn (ha.run pins s σ H _ I h) fun v s1 ⟨x, H1, I1, r1, l, ns, ex, hq, h1, q1⟩ => PyProof.Rows.args_nil ?_) na) na rfl
  subst ex
  obtain rfl : v = Value.ref l := r1
  obtain ⟨its, r, pl, hz⟩ := I1.list hq
  have hl : its.toArray.size = ns.length := by rw [List.size_toArray, ← r.length, List.length_map]
  refine call_set_list (I1.ok.hd hc) pl.isList (ns := ns) (by simpa using r.ints) (by unfold scanBound; omega) fun h' tk hS hk => PyProof.Rows.args_nil ?_
  have ed : (PyProof.Rows.firstMet (fun i => ns.getD i 0) its.toArray.size).length = diff ns := by
    unfold PyProof.Rows.firstMet diff
    rw [hl, range_get]
  have le : diff ns ≤ ns.length := by
    rw [← ed, ← hl]
    exact PyProof.Rows.firstMet_length_le _ _
  obtain ⟨o, es, ep, t, ho, hex, hd, _, _, _, hf, hn⟩ := hS
  rw [ed] at hn
  exact call_len_set ho hex hd hf (by rw [hn] <;> omega) ⟨.int (diff ns : Nat), H1, (I1.kept fun b o e => hk b o (Heap.lt_size e) e).tok _, ⟨_, by rw [hn]⟩, q1⟩
end
end Ex

set_option Elab.async false
set_option linter.all false
set_option maxRecDepth 100000
set_option maxHeartbeats 4000000
/-! Own layer: a != b by an own __eq__ and object's __ne__. -/
namespace HN
open PySem PySem.Spec PyProof.Rows PySem.SeqAt
section
variable {prog : Program} {w : World} {A : Around} {E : Value → Shared → Prop} {s : Shared} {K : PySem.W.Frag} {x C f : Addr} {b tb : Value} {ox : Obj} {od : Option Obj}
theorem objNe_entry {Q : Fin → Shared → Prop} (X : K.In s.heap) (I : PySem.W.InstAt s.heap x ox C od) (hs : PySem.W.findIn K (.ref C) "__eq__" = some (some (.ref f))) (hf : PySem.W.isFn K (.ref f) = true) (hu : A.units < cLine)
    (hcall : wpAny (model prog w) A (call (.ref f) [.ref x, b]) (fun v s' => ∃ t, v = .bool t ∧ Q (.done (.ret (.bool (!t)))) s') E s) :
    wpAny (model prog w) A (Builtin.«object.__ne__» ⟨[.ref x, b], []⟩) Q E s := by
  unfold Builtin.«object.__ne__»
  repeat (first
    | with_reducible refine wpAny_cRoomFor hu ?_
    | (refine wpAny_bind (m := callSpecialIfBound? (.ref x) (Str.ofString "__eq__") [b])
        (PySem.W.ifBound_K X I hs hf (wpAny_mono hcall (fun r s' hr => by
          obtain ⟨t, rfl, hq⟩ := hr
          repeat (first | exact hq | exact wpAny_pure hq | exact wpAny_truthy_bool hq | (refine wpAny_bind (m := truthy (.bool _)) (wpAny_truthy_bool ?_)) | wp_step)) fun _ _ e => e)))
    | wp_step)
theorem call_objNe {Q : Value → Shared → Prop} (X : K.In s.heap) (I : PySem.W.InstAt s.heap x ox C od) (hm : PySem.W.mroIn K C (.type "object") = some true) (hs : PySem.W.findIn K (.ref C) "__eq__" = some (some (.ref f))) (hf : PySem.W.isFn K (.ref f) = true) (hu : A.in1.units < cLine)
    (hcall : wpAny (model prog w) A.in1 (call (.ref f) [.ref x, b]) (fun v s' => ∃ t, v = .bool t ∧ Q (.bool (!t)) s') E s) :
    wpAny (model prog w) A (call (.builtin "object.__ne__") [.ref x, b]) Q E s :=
  wpAny_call (codeAny_call_builtin F.cmp_object.ne.plain F.cmpEntry_ne (PySem.W.check_slot F.cmpKind_ne F.cmpSplit_ne (I.type.andThen (PySem.W.looks_mroIn X hm)) (F.cmpArgs_ne _ _) (objNe_entry X I hs hf hu hcall)))
theorem ifBound_objNe {args : List Value} {Q : Option Value → Shared → Prop} {M : Model} (X : K.In s.heap) (I : PySem.W.InstAt s.heap x ox C od) (hs : PySem.W.findIn K (.ref C) "__ne__" = some (some (.builtin "object.__ne__")))
    (h : wpAny M A (call (.builtin "object.__ne__") (.ref x :: args)) (fun v => Q (some v)) E s) : wpAny M A (callSpecialIfBound? (.ref x) "__ne__" args) Q E s := by
  simp only [callSpecialIfBound?, bindSpecialIfBound?]
  refine wpAny_holding (wpAny_bind (wpAny_bind (wpAny_bind (I.type.here ((PySem.W.looks_findIn X hs).here ?_)))))
  refine wpAny_bind (wpAny_askSetting (wpAny_ite ?_))
  have fin : wpAny M A (call (.builtin "object.__ne__") ([.ref x] ++ args) >>= fun v => pure (some v)) Q E s := wpAny_bind (wpAny_mono h (fun v s' h' => wpAny_pure h') fun _ _ h' => h')
  split
  · exact wpAny_bind (wpAny_of_eq (F.cmp_object.ne.bind _) (wpAny_pure (by exact fin)))
  · exact wpAny_tryCatch (wpAny_bind (wpAny_of_eq (F.cmp_object.ne.bind _) (wpAny_pure (by exact fin))))
theorem ne_K {Q : Value → Shared → Prop} (hu : A.units < cLine) (hu1 : A.in1.units < cLine) (X : K.In s.heap) (I : PySem.W.InstAt s.heap x ox C od) (hb : PySem.W.Looks (model prog w) s.heap (typeOf b) (.ref C)) (hm : PySem.W.mroIn K C (.type "object") = some true)
    (hn : PySem.W.findIn K (.ref C) "__ne__" = some (some (.builtin "object.__ne__"))) (hs : PySem.W.findIn K (.ref C) "__eq__" = some (some (.ref f))) (hf : PySem.W.isFn K (.ref f) = true)
    (hcall : wpAny (model prog w) A.in1 (call (.ref f) [.ref x, b]) (fun v s' => ∃ t, v = .bool t ∧ Q (.bool (!t)) s') E s) : wpAny (model prog w) A (richCompare .NotEq (.ref x) b) Q E s := by
  have one : wpAny (model prog w) A (tryCompare (.ref x) "__ne__" b) (fun r s' => ∃ v, r = some v ∧ Q v s') E s := by
    unfold tryCompare
    refine wpAny_bind (ifBound_objNe X I hn (call_objNe X I hm hs hf hu1 (wpAny_mono hcall (fun v s' hv => ?_) fun _ _ e => e)))
    obtain ⟨t, rfl, q⟩ := hv
    exact ⟨t, rfl, wpAny_pure ⟨_, rfl, q⟩⟩
  simp only [richCompare, cmpInfo_NotEq, oneThing_ref]
  refine wpAny_holding (wpAny_bind (wpAny_cRoomFor hu ?_))
  refine wpAny_bind (I.type.here (wpAny_bind (hb.here ?_)))
  rw [show (Value.ref C != Value.ref C) = false from by simp]
  simp only [Bool.false_eq_true, if_false]
  refine wpAny_bind (wpAny_pure ?_)
  simp only [Bool.false_eq_true, if_false]
  refine wpAny_bind (wpAny_mono one (fun r s' z => ?_) fun _ _ e => e)
  obtain ⟨v, rfl, hq⟩ := z
  exact wpAny_pure hq
end
end HN
namespace Ex
open PySem PySem.Spec PySem.Calls PyProof.Rows L2 Gu
structure NeOk (K : PySem.W.Frag) (C : Addr) : Prop where
  ne : PySem.W.findIn K (.ref C) "__ne__" = some (some (.builtin "object.__ne__"))
  hm : PySem.W.mroIn K C (.type "object") = some true
def neB (K : PySem.W.Frag) (C : Addr) : Bool := He.eqO (PySem.W.findIn K (.ref C) "__ne__") (some (some (.builtin "object.__ne__"))) && decide (PySem.W.mroIn K C (.type "object") = some true)
theorem neB_ok {K : PySem.W.Frag} {C : Addr} (h : neB K C = true) : NeOk K C := by
  obtain ⟨h1, h2⟩ := He.ba h
  exact ⟨He.eqO_ok h1, of_decide_eq_true h2⟩
def rOwnNe (C : Addr) (sp : Sp) : R2 := fun x y H Q => ∃ a b dx dy fs gs, x = .ref a ∧ y = .ref b ∧ H a = some (.ins C dx fs) ∧ H b = some (.ins C dy gs) ∧ sp [.ref a, .ref b] H (fun v H' => ∃ t, v = .bl t ∧ Q (.bl (!t)) H') E0
section
variable {X : Cx} {k j : Nat} {c : Str} {sp : Sp}
theorem op_ownN (D : EqOf X.prog X.w X.K X.mg X.base k c sp) (N : NeOk X.K (He.ga X.K c)) (hr : Room j X.A) (hj : k + 1 ≤ j := by decide) : OpR X (compareOp .NotEq) (rOwnNe (He.ga X.K c) sp) := by
  intro pins s σ H x y u v Q I rx ry ⟨a, b, dx, dy, fs, gs, ex, ey, ha, hb, hsp⟩
  subst ex ey
  obtain rfl : u = Value.ref a := rx
  obtain rfl : v = Value.ref b := ry
  obtain ⟨fd, F, bi⟩ := D.ex
  have hr' := hr.mono hj
  obtain ⟨mA, J, _⟩ := ins_get I.hok ha
  obtain ⟨mB, J', _⟩ := ins_get I.hok hb
  obtain ⟨od, J, _⟩ := J.look
  obtain ⟨od', J', _⟩ := J'.look
  show wpAny (model X.prog X.w) X.A (richCompare .NotEq (.ref a) (.ref b)) (EP X pins σ Q) X.xe s
  refine HN.ne_K hr'.units0 hr'.in1.units0 I.kIn J J'.type N.hm N.ne D.at_ D.fn ?_
  have r2 : Vals [V.ref a, V.ref b] [Value.ref a, Value.ref b] := .cons rfl (.cons rfl .nil)
  have bb := bi s [.ref a, .ref b] I.kIn rfl
  refine wpAny_call (codeAny_mono (F.run X.A.in1 X.stack s H ⟨[.ref a, .ref b], []⟩ [.ref a, .ref b] [.ref a, .ref b] _ E0 hr'.in1 I.env0.in1 (by simpa using bb) r2 hsp) fun r s' hq => ?_)
  match r, hq with
  | .ok (.ret w), hq =>
    obtain ⟨z, H', I', rz, ⟨t, ez, q⟩⟩ := I.after hq
    subst ez
    cases rz
    exact ⟨t, rfl, .bl (!t), H', I', rfl, q⟩
end
end Ex

set_option Elab.async false
set_option linter.all false
set_option maxRecDepth 100000
set_option maxHeartbeats 4000000
/-! Own layer: errors with a field over any built-in base (ArithmeticError, LookupError, RuntimeError, ValueError), made and raised. -/
namespace Ex
open PySem PySem.Spec PySem.Calls PyProof.Rows L2 Gu
/-- own classes, then the mro of a built-in base -/
def refsB (tl : List Value) : List Value → Bool
  | .ref _ :: r => refsB tl r
  | l => l == tl
theorem refsB_two (tl : List Value) (l : List Value) (e : refsB tl l = true) : (∃ c r, l = .ref c :: r ∧ refsB tl r = true) ∨ l = tl := by
  cases l with
  | nil => exact .inr (beq_iff_eq.mp e)
  | cons v r => cases v with
    | ref c => exact .inl ⟨c, r, rfl, e⟩
    | _ => exact .inr (beq_iff_eq.mp e)
/-- a built-in base of errors -/
structure BaseE (B : String) (tl : List Value) : Prop where
  ex : ExcBaseFacts B (B ++ ".__new__") (B ++ ".__init__") tl
  pa : ∀ self : Value, refuseLoop self "__setattr__" tl = pure ()
  ob : tl.contains (.type "object") = true
  ne : tl.isEmpty = false
abbrev tailE (B : String) : List Value := [.type B, .type "Exception", .type "BaseException", .type "object"]
theorem base_AE : BaseE "ArithmeticError" (tailE "ArithmeticError") := ⟨F.excBase_ArithmeticError, F.store_ArithmeticError.passes, by decide +kernel, rfl⟩
theorem base_LE : BaseE "LookupError" (tailE "LookupError") := ⟨F.excBase_LookupError, F.store_LookupError.passes, by decide +kernel, rfl⟩
theorem base_RE : BaseE "RuntimeError" (tailE "RuntimeError") := ⟨F.excBase_RuntimeError, F.store_RuntimeError.passes, by decide +kernel, rfl⟩
theorem base_VE : BaseE "ValueError" (tailE "ValueError") := ⟨F.excBase_ValueError, F.store_ValueError.passes, by decide +kernel, rfl⟩
section
variable {B : String} {tl : List Value}
theorem BaseE.pass (b : BaseE B tl) (self : Value) : ∀ l, refsB tl l = true → refuseLoop self "__setattr__" l = pure ()
  | [], e => by
    have z : ([] : List Value) = tl := beq_iff_eq.mp e
    have n := b.ne
    rw [← z] at n
    cases n
  | v :: r, e => by
    rcases refsB_two tl _ e with ⟨c, r', q, h⟩ | q
    · cases q
      rw [refuseLoop_ref]
      exact b.pass self r h
    · rw [q]
      exact b.pa self
theorem BaseE.has (b : BaseE B tl) (Y : String) : ∀ l, refsB tl l = true → l.contains (.type Y) = tl.contains (.type Y)
  | [], e => by
    have z : ([] : List Value) = tl := beq_iff_eq.mp e
    rw [z]
  | v :: r, e => by
    rcases refsB_two tl _ e with ⟨c, r', q, h⟩ | q
    · cases q
      rw [List.contains_cons, b.has Y r h]
      rfl
    · rw [q]
theorem BaseE.some (b : BaseE B tl) {l : List Value} (e : refsB tl l = true) : l.isEmpty = false := by
  cases l with
  | cons _ _ => rfl
  | nil =>
    have z : ([] : List Value) = tl := beq_iff_eq.mp e
    have n := b.ne
    rw [← z] at n
    exact n
end
section
open Builtin Builtin.ObjectAttr
variable {prog : Program} {w : World} {A : Around} {R : Result → Shared → Prop} {hp : Heap} {g : Array GenState} {d : Drawn} {t : Nat} {os : OsState}
/-- the first field of an error is stored by object.__setattr__ -/
theorem first_field {B : String} {tl : List Value} (b : BaseE B tl) {K : W.Frag} {nm : Str} {tk : Tok} {v : Value} {x C : Addr} {fv : Array Value} {cd : ClassData}
    (KX : K.In hp) (hx : hp.get? x = some { cls := .ref C, data := .fields fv }) (hcd : W.clsIn K C = some cd) (mr : refsB tl cd.mro = true) (hdt : cd.hasDict = true) (no : W.findIn K (.ref C) nm = some none)
    (go : ∀ h' tk' dx, (∀ b o, b ≠ x → hp.get? b = some o → h'.get? b = some o) → hp.objs.size ≤ dx → dx ≠ x → h'.get? x = some { cls := .ref C, dict := some dx, data := .fields fv } →
      h'.Ns1 dx (fun y => if y = nm then some v else none) → R (.ok (.ret .none)) ⟨h', g, d, tk', os⟩) :
    codeAny (model prog w) A (.call (.builtin "object.__setattr__") ⟨[.ref x, .str nm tk, v], []⟩) R ⟨hp, g, d, t, os⟩ := by
  have IA : W.InstAt hp x { cls := .ref C, data := .fields fv } C none := ⟨hx, rfl, rfl, trivial⟩
  have so := F.store_object
  have nE := b.some mr
  have isO : cd.mro.contains (.type "object") = true := (b.has "object" _ mr).trans b.ob
  have far : x ≠ hp.objs.size := Nat.ne_of_lt (Heap.lt_size hx)
  have isI : W.Looks (model prog w) hp (isInstance (.ref x) (.type "object")) true := IA.type.andThen (W.looks_mroIn KX (by unfold W.mroIn; rw [hcd, Option.bind_some, if_neg (by rw [nE]; decide), isO]))
  refine codeAny_call_builtin so.slot.plain so.entry (@W.check_slot (model prog w) _ _ ⟨hp, g, d, t, os⟩ "object.__setattr__" "object" "__setattr__" (.ref x) [.str nm tk, v] [] _ so.kind so.split isI (so.args (.ref x) (.str nm tk) v) ?_)
  have lm : W.Looks (model prog w) hp (mroOf (.ref C)) cd.mro := (W.looks_clsIn KX hcd).andThen .now
  have ln : W.Looks (model prog w) hp (storeTaker? none) none := .now
  have lc : W.Looks (model prog w) hp (classData C) cd := W.looks_clsIn KX hcd
  rw [W.osa_eq, refuse_eq]
  refine wpAny_bind (wpAny_bind (IA.type.at (wpAny_bind (lm.at ?_))))
  rw [b.pass _ _ mr]
  refine wpAny_pure (wpAny_bind (IA.type.at (wpAny_bind ((W.looks_findIn KX no).at (wpAny_bind (ln.at ?_))))))
  show wpAny _ _ (storeInOwnDict (.ref x) (.ref C) (.str nm tk) nm v false) _ _ _
  obtain ⟨n1, n2, n3, n4, n5, hd, n7, n8, n9, n10, n11⟩ := cd
  dsimp only at hdt
  subst hdt
  unfold storeInOwnDict ownDictForStores
  repeat (first | with_reducible refine HandSPX.store_in_new ?_ ?_ | with_reducible refine wpAny_loadPart_at hx ?_ | with_reducible refine lc.at ?_ | wp_step)
  · exact ⟨_, #[], _, (Heap.get?_update_ne _ _ _ _ far.symm).trans (Heap.get?_push_at rfl rfl), rfl, fun e he => absurd he (by simp), fun _ => rfl⟩
  · intro h' tk' nn' sb
    have hx1 : (hp.push { cls := .type "dict", data := .dict #[] }).get? x = some { cls := .ref C, data := .fields fv } := Heap.get?_push_of_some _ hx
    exact go h' tk' hp.objs.size (fun c o hc ho => (sb.2 c (Nat.ne_of_lt (Heap.lt_size ho))).trans ((Heap.get?_update_ne _ _ _ _ hc).trans (Heap.get?_push_of_some _ ho))) (Nat.le_refl _) far.symm
      ((sb.2 x far).trans (Heap.get?_update_self _ hx1 rfl)) nn'
end
/-- what the written part says of an error's class over the base B -/
structure OexG (B : String) (tl : List Value) (K : PySem.W.Frag) (C : Addr) : Prop where
  base : BaseE B tl
  cls : ∃ nm q N bs bm sn sub ab col dd k0 k1 k2 k3 k5, K.lookup C = some (excClassObj nm q C N bs bm true sn sub ab col dd k0 k1 k2 k3 k5 (B ++ ".__new__")) ∧ refsB tl bm = true
  sa : PySem.W.findIn K (.ref C) "__setattr__" = some (some (.builtin "object.__setattr__"))
  exC : PySem.W.subIn K (.ref C) (.type "BaseException") = some true
  tyC : PySem.W.typeIn K (.ref C) = some (.type "type")
  kC : PySem.W.keepIn K (.ref C) = true
section
variable {X : Cx} {pins : List (Addr × Obj)} {σ : L2.St} {H : Hp} {s : Shared} {a C dx : Addr} {f : Str} {y : V} {u : Value} {Q : Unit → Shared → Prop} {E : Value → Shared → Prop} {A : Around} {B : String} {tl : List Value}
/-- self.f = y, the first one -/
theorem field_new (T : OexG B tl X.K C) (I : Inv X pins σ H s) (e : H a = some (exo a C none)) (no : PySem.W.findIn X.K (.ref C) f = some none) (ry : RelV y u)
    (go : ∀ dx s', H dx = none → dx ≠ a → Inv X pins σ (upd (upd H dx (exd dx [(f, y)])) a (exo a C (some dx))) s' → Q () s') : wpAny (model X.prog X.w) A (setAttr (.ref a) f u) Q E s := by
  obtain ⟨nm, q, N, bs, bm, sn, sub, ab, col, dd, k0, k1, k2, k3, k5, hC, mr⟩ := T.cls
  have hcl : PySem.W.clsIn X.K C = some { name := nm, bases := bs, mro := .ref C :: bm, ns := N, qualname := q, hasDict := true, slotNames := sn, subclasses := sub, abstract := ab, collection := col, hasDel := false } := by
    unfold PySem.W.clsIn
    rw [hC] <;> rfl
  obtain ⟨t1, at1⟩ := exo_at I.hok e
  obtain ⟨hp, g, dr, tk, os⟩ := s
  refine PySem.W.set_plain I.kIn (ox := { cls := .ref C, dict := none, data := .fields #[.ref t1, .none, .none, .none, .bool false, .none] }) (od := none) ⟨at1, rfl, rfl, trivial⟩ T.sa ?_
  refine first_field T.base I.kIn at1 hcl (show refsB tl (.ref C :: bm) = true from mr) rfl no (fun h' tk' dx k dn dne hx hn => ?_)
  have free : H dx = none := I.hok.fresh dn
  have far : ∀ {b : Addr} {o : Obj}, hp.get? b = some o → b ≠ dx := fun {b o} q => Nat.ne_of_lt (Nat.lt_of_lt_of_le (Heap.lt_size q) dn)
  have na : ∀ {b : Addr}, H b = none → b ≠ a := fun {b} n z => by
    rw [z, e] at n
    cases n
  have at2 : ∀ {b : Addr} {o : HO}, H b = some o → b ≠ a → upd (upd H dx (exd dx [(f, y)])) a (exo a C (some dx)) b = some o := fun {b o} q n => by
    rw [upd_ne n, upd_ne (ne_of_none q free)]
    exact q
  have U : Un X.fs [] H (upd (upd H dx (exd dx [(f, y)])) a (exo a C (some dx))) hp h' := {
    keep := fun b o q n _ _ => k b o (na n) q
    slot := fun b o q n _ _ => ⟨o.slots, k b o (na n) q⟩
    free := fun b o q n _ => (upd_ne (na n)).trans ((upd_ne (far q)).trans n)
    there := fun b o q _ => by
      by_cases hb : b = a
      · rw [hb]
        exact ⟨_, hx⟩
      · exact ⟨o, k b o hb q⟩
    tups := fun b xs q => at2 q (at_ne e q exo_tup)
    frzs := fun b o v q => at2 q (at_ne e q exo_frz)
    tbls := fun b ps q => ⟨#[], by rw [at2 q (at_ne e q exo_tbl)]; simp⟩ }
  refine go dx _ free dne (I.un (t' := tk') U fun b o q => ?_)
  by_cases hb : b = a
  · subst hb
    rw [upd_same] at q
    cases q
    exact exo_ok hx
  · rw [upd_ne hb] at q
    by_cases hd : b = dx
    · subst hd
      rw [upd_same] at q
      cases q
      exact exd_ok hn (relO_put (fs := []) ry fun g => True.intro)
    · rw [upd_ne hd] at q
      refine (I.hok b o q).stay (fun c v hc z => k c v ?_ z) (fun c hc => at2 hc (at_ne e hc exo_own)) (fun c xs hc => at2 hc (at_ne e hc exo_tup))
      rcases hc with hc | hc
      · rw [hc]
        exact hb
      · exact at_ne e hc exo_own
end
/-- self.f = e, the first field of an error -/
def tFst (B : String) (tl : List Value) (K : PySem.W.Frag) (f : Str) (to te : TE) : TS := fun D σ H => te σ H fun y H1 => to σ H1 fun x H2 => ∃ a C : Addr, x = .ref a ∧ OexG B tl K C ∧ PySem.W.findIn K (.ref C) f = some none ∧
  H2 a = some (exo a C none) ∧ ∀ dx, H2 dx = none → dx ≠ a → D.nx σ (upd (upd H2 dx (exd dx [(f, y)])) a (exo a C (some dx)))
section
variable {X : Cx} {o e : Expr} {es : List Expr} {to te : TE} {ta : TA} {f : Str} {p p' pos : Pos} {B : String} {tl : List Value}
theorem ps_fst (ho : PE X o to) (he : PE X e te) (hs : swapsWith e (some (.Attribute o f p')) pos.line X.env = pure false := by rfl) : PS X (.Assign [.Attribute o f p'] e pos) (tFst B tl X.K f to te) := by
  refine ⟨fun pins s σ H D I h => plainObj_wpAny_Assign_Attribute (thn (he.run pins s σ H _ I h) fun v s1 ⟨y, H1, I1, r1, q1⟩ => thn (ho.run pins s1 σ H1 _ I1 q1) fun u s2 ⟨x, H2, I2, r2, a, C, ex, T, no, ea, q⟩ => ?_) hs⟩
  subst ex
  obtain rfl : u = Value.ref a := r2
  exact field_new T I2 ea no r1 fun dx s' n ne J => ⟨σ, _, J, q dx n ne⟩
/-- C(e, ..) for a raise, C's own __init__ keeping sp -/
theorem pmk_oexG {CX : CXT} {x : Str} {C fI : Addr} {k : Nat} {fd : FuncData} {ps : List Str} {sp : Sp} {ds : List Value} {dvs : List V} (T : OexG B tl X.K C) (iC : PySem.W.findIn X.K (.ref C) "__init__" = some (some (.ref fI))) (tI : PySem.W.typeIn X.K (.ref fI) = some (.type "function"))
    (F1 : FnOk X.prog X.w X.K X.mg X.base CX k fI fd ps sp) (hr : Room (k + 1) X.A) (hb : Binds X.K fd ps ds) (hd : Vals dvs ds) (hx : Passes CX X (fun _ _ _ => False)) (hg : Gl X x) (hm : X.mg x = some (.ref C)) (ha : PA X (e :: es) ta)
    (hdb : (x == ("__debug__" : Str)) = false := by decide) (he : starEach (e :: es) X.env = (false, eval e X.env) :: starEach es X.env := by rfl) (hpl : (backTo pos (starEach es X.env)).any (·.1) = false := by rfl) :
    PMk X (.Call (.Name x p) (e :: es) [] pos) (tMkO C sp dvs ta) := by
  intro pins s σ H Q I h
  obtain ⟨nm, q, N, bs, bm, sn, sub, ab, col, dd, k0, k1, k2, k3, k5, hC, mr⟩ := T.cls
  refine wpAny_Call_Name_kw (ld_glob I hg hm (PySem.W.callWith_K (h₀ := X.base) I.ok.mod.kin T.kC (thn (ha.run pos pins s σ H _ I h) fun us s1 ⟨vs, H1, I1, r1, hz, q1⟩ => ⟨I1.kIn, ?_⟩) he hpl) hdb)
  show wpAny _ _ (call (.ref C) us) _ _ _
  obtain ⟨hp, g, dr, tk, os⟩ := s1
  generalize en : hp.objs.size + 1 = n
  have sz : hp.objs.size ≤ n := by omega
  have hq := q1 n (I1.hok.fresh sz)
  generalize ehp : (hp.push (PySem.W.kdv_tup us)).push (PySem.HandSPX.excO C hp.objs.size) = hp2
  have kk : ∀ b o, hp.get? b = some o → hp2.get? b = some o := fun b o e => by
    rw [← ehp]
    exact Heap.get?_push_of_some _ (Heap.get?_push_of_some _ e)
  have hget : hp2.get? n = some (PySem.HandSPX.excO C hp.objs.size) := by
    rw [← ehp, ← en]
    heap_get
  have I2 : Inv X pins σ (upd H1 n (exo n C none)) ⟨hp2, g, dr, tk, os⟩ := I1.laid (t' := tk) kk sz (exo_ok hget)
  have r2 : Vals (V.ref n :: (vs ++ dvs)) (Value.ref n :: (us ++ ds)) := .cons rfl (r1.append hd)
  have hl : (Value.ref n :: us ++ ds).length = ps.length := r2.length.symm.trans (F1.len _ _ _ _ hq)
  have few : us.length ≤ sizeLine := by
    rw [← Paired.length r1, sizeLine_eq]
    omega
  refine wpAny_call (PySem.HandSPX.call_own T.base.ex (fun Y => T.base.has Y bm mr) (I1.kIn _ _ hC) (PySem.W.looks_findIn I1.kIn iC) (fun self => PySem.W.bind_fn I1.kIn self tI) few ?_)
  rw [en, ehp]
  refine codeAny_mono (F1.run _ X.stack _ _ ⟨Value.ref n :: us, []⟩ (Value.ref n :: (us ++ ds)) _ _ (fun _ _ _ => False) (hr.make C us []) (I2.env0.make C us []) (hb _ (Value.ref n :: us) I2.kIn hl) r2 hq) fun r s' hq' => ?_
  match r, hq' with
  | .error er, hq' => exact hx pins σ _ _ er s' I2 hq'
  | .ok (.ret u), hq' =>
    obtain ⟨v, H2, os2, bare2, un2, hok2, rv, ev, d, fs, ea, ed, hd1, q2⟩ := hq'
    subst ev
    obtain ⟨h2, g2, d2, t2, os'⟩ := s'
    exact ⟨rv, mk_end (raises_own T.exC T.tyC) I1 sz kk un2 hok2 os2 bare2 ea ed hd1 q2⟩
end
end Ex

set_option Elab.async false
set_option linter.all false
set_option maxRecDepth 100000
set_option maxHeartbeats 4000000
/-! Own layer: several clauses 'except x as n' of one try, all with the same name n. -/
namespace Ex
open PySem PySem.Spec PySem.Calls PyProof.Rows L2 Gu
abbrev Suites : Type := List (Value × (Addr → Value → Option Addr → TS))
/-- what the clauses wish of an error of the body, one after the other: slot i is n's -/
def wAsAll (K : PySem.W.Frag) (i : Nat) (Wout : WX) (D : Ends) : Suites → WX
  | [] => Wout
  | (c, ts) :: r => wAs K c i ts (wAsAll K i Wout D r) D
inductive HdAs (X : Cx) (n : Str) : List ExceptHandler → Suites → Prop
  | nil : HdAs X n [] []
  | cons {x : Str} {c : Value} {ts : Addr → Value → Option Addr → TS} {b0 : Stmt} {su : List Stmt} {np p2 : Pos} {hs : List ExceptHandler} {l : Suites} (hc : Names X x c)
      (hsu : ∀ (a : Addr) (oe : Obj) (cls : Value) (d : Option Addr) (pn : List (Addr × Obj)), Zc cls d oe → (∃ vs, oe.data = .fields vs) → PSs (X.suite a ((a, oe) :: pn)) (b0 :: su) (ts a cls d)) (r : HdAs X n hs l) :
      HdAs X n (.ExceptHandler (some (.Name x np)) (some n) (b0 :: su) p2 :: hs) ((c, ts) :: l)
section
variable {X : Cx} {n : Str} {i : Nat} {body : List Stmt} {h0 : ExceptHandler} {hds : List ExceptHandler} {l : Suites} {pos : Pos} {tb : WX → TS} {Wout : WX}
theorem ps_try_asAll (hs : X.stack = X.env :: X.outer) (hf : X.env.frame = some X.env.locals) (hN : X.N.Nodup) (hi : X.N[i]? = some n) (hln : X.env.kindOf n = some .local) (tk : Takes X Wout)
    (hb : ∀ (W : WX) (pn : List (Addr × Obj)) (xe : Value → Shared → Prop), Takes (X.tr pn xe) W → PassesOwn (model X.prog X.w) X.A X.env xe → PSs (X.tr pn xe) body (tb W))
    (hh : HdAs X n (h0 :: hds) l) : PS X (.Try body (h0 :: hds) [] [] pos) (fun D σ H => tb (wAsAll X.K i Wout D l) D σ H) := by
  refine ⟨fun pins s σ H D I h => ?_⟩
  have ok := I.ok
  have fr : X.A.frames = some (X.env :: X.outer) := by
    rw [ok.frames, hs]
  refine wpAny_Try_except (wpAny_mono ((hb (wAsAll X.K i Wout D l) (X.pn ++ pins) (fun e s1 => wpAny (model X.prog X.w) X.A (noteFrame e X.env) (fun _ s2 => wpAny (model X.prog X.w) X.A (setFlight e none) (fun _ s3 =>
    wpAny (model X.prog X.w) X.A (handleBy e X.env (h0 :: hds)) (SP X pins D) X.xe s3) X.xe s2) X.xe s1) (fun u s' xx => ?_) PassesOwn.looking).run [] s σ H D (I.toTry _) h) (fun f s1 hsp => ?_) (fun e s1 he => he))
  · obtain ⟨a, B, sI, pins', σ1, H1, cls, d, rfl, J0, nb, up, sky, na, os, ag, w⟩ := xx
    have J : Inv X pins σ1 H1 sI := J0.ofTry ok
    rw [hs] at sky
    show wpAny (model X.prog X.w) X.A (noteFrame (.ref a) X.env) _ _ _
    refine Sky.land Zc.steady fr hf sky fun h3 fl up3 => ?_
    have J3 : Inv X pins σ1 H1 { s' with heap := h3 } := J.landed nb fl.1 (up.trans up3) os ag
    obtain ⟨o3, v3, he3, hz3, hd3⟩ := fl.there
    have nfr : a ∉ frs (X.env :: X.outer) := fun hm => by
      obtain ⟨_, o', e', hnf⟩ := fl.2.2.1.mem hm
      rw [he3] at e'
      cases e'
      exact hnf _ hd3
    have nL : a ≠ X.env.locals := fun z => nfr (List.mem_filterMap.mpr ⟨X.env, List.mem_cons_self, by rw [hf, z]⟩)
    have nF : a ∉ X.fs := fun hm => by
      obtain ⟨e, he, q⟩ := List.mem_filterMap.mp hm
      exact nfr (List.mem_filterMap.mpr ⟨e, List.mem_cons_of_mem _ he, q⟩)
    have S3 := J3.suite he3 hd3 na nL nF
    have go : ∀ {hs2 : List ExceptHandler} {l2 : Suites}, HdAs X n hs2 l2 → wAsAll X.K i Wout D l2 cls d σ1 H1 → wpAny (model X.prog X.w) X.A (handleBy (.ref a) X.env hs2) (SP X pins D) X.xe { s' with heap := h3 } := by
      intro hs2 l2 hk
      induction hk with
      | nil =>
        intro w
        refine wpAny_handleBy_nil ?_
        obtain ⟨_, _, _, oe, vs, Tb, oT, tsT, he, hz, hd, h1, hr⟩ := id fl
        unfold PySem.passOn
        refine wpAny_bind (wpAny_field he hd h1 ?_)
        rw [if_neg (show ¬ ((Value.ref Tb == Value.none) = true) from by simp)]
        have fin : wpAny (model X.prog X.w) X.A (setFlight (.ref a) X.env.frame) (fun _ s4 => wpAny (model X.prog X.w) X.A (throw (.ref a) : Sem Flow) (SP X pins D) X.xe s4) X.xe { s' with heap := h3 } := by
          rw [hf]
          exact HandSPX.setFlight_upZ fl fun h4 hh4 up4 => wpAny_throw (tk _ _ ⟨a, B, sI, pins, σ1, H1, cls, d, rfl, J, nb, (up.trans up3).trans up4, .inr (.inr (by rw [hs]; exact hh4)), na, os, ag, w⟩)
        first
          | exact wpAny_bind (wpAny_pure (wpAny_bind fin))
          | exact wpAny_bind fin
      | @cons x c ts b0 su np p2 hs3 l3 hc hsu r ih =>
        intro w
        obtain ⟨b, hb1, yes, no⟩ := w
        refine wpAny_handleBy_cons (codeAny_handlers_test ?_) (by intro q; cases q)
        have lt : PySem.W.Looks (model X.prog X.w) h3 (typeOf (.ref a)) cls := fun A Q E s k q => wpAny_typeOf_ref (k _ _ he3) (by rw [hz3.1]; exact q)
        have lm := PySem.W.exm_one (M := model X.prog X.w) J3.kIn lt hb1
        have name : ∀ {Q : Value → Shared → Prop} {E : Value → Shared → Prop}, Q c { s' with heap := h3 } → wpAny (model X.prog X.w) (X.A.mark (some (.ref a))) (eval (.Name x np) X.env) Q E { s' with heap := h3 } := fun {Q E} q => by
          obtain ⟨hg, hdbg, hm | ⟨hm, hv, hnn⟩⟩ := hc
          · exact ld_glob (X := X.suite a ((a, o3) :: (X.pn ++ pins))) S3 hg hm q hdbg
          · exact ld_blt (X := X.suite a ((a, o3) :: (X.pn ++ pins))) S3 hg hm hv q hnn hdbg
        refine name (lm.here ?_)
        cases b with
        | false =>
          show wpAny _ X.A (handleBy (.ref a) X.env hs3) _ _ _
          exact ih (no rfl)
        | true =>
          refine codeAny_handlers_suite_as (HandSPX.lands_againZ fl fun h4 fl4 up4 => ?_)
          have J4 : Inv X pins σ1 H1 { s' with heap := h4 } := J.landed nb fl4.1 ((up.trans up3).trans up4) os ag
          obtain ⟨o4, v4, he4, hz4, hd4⟩ := fl4.there
          have S4 := J4.suite he4 hd4 na nL nF
          refine store_ok (X := X.suite a ((a, o4) :: (X.pn ++ pins))) (v := .ref a) S4 hN hi (.inl hln) rfl (fun s5 S5 => ?_) (.inr hln)
          refine wpAny_mono ((hsu a o4 cls d (X.pn ++ pins) hz4 ⟨_, hd4⟩).run [] s5 _ H1 _ S5 (yes rfl a na)) (fun f s6 hsp => ?_) (fun _ _ z => False.elim z)
          have out : ∀ {σ6 : L2.St} {H6 : Hp} {Q : Shared → Prop}, Inv (X.suite a ((a, o4) :: (X.pn ++ pins))) [] σ6 H6 s6 → (∀ s7, Inv X pins (σ6.set i none) H6 s7 → Q s7) →
              wpAny (model X.prog X.w) X.A (do bindName X.env n .none; unbindBehindTheSuite X.env n p2) (fun _ s7 => Q s7) X.xe s6 := fun {σ6 H6 Q} S6 hq => gone_ok (S6.unsuite ok) hN hi hln hq
          match f, hsp with
          | .next, ⟨σ6, H6, S6, q6⟩ => exact out S6 fun s7 J7 => ⟨_, _, J7, q6⟩
          | .brk, ⟨σ6, H6, S6, q6⟩ => exact out S6 fun s7 J7 => ⟨_, _, J7, q6⟩
          | .cont, ⟨σ6, H6, S6, q6⟩ => exact out S6 fun s7 J7 => ⟨_, _, J7, q6⟩
          | .ret u, ⟨v6, σ6, H6, S6, r6, q6⟩ => exact out S6 fun s7 J7 => ⟨_, _, _, J7, r6, q6⟩
    exact go hh w
  · match f, hsp with
    | .next, ⟨σ1, H1, J1, q⟩ => exact wpAny_execs_nil ⟨σ1, H1, J1.ofTry ok, q⟩
    | .brk, ⟨σ1, H1, J1, q⟩ => exact ⟨σ1, H1, J1.ofTry ok, q⟩
    | .cont, ⟨σ1, H1, J1, q⟩ => exact ⟨σ1, H1, J1.ofTry ok, q⟩
    | .ret u, ⟨v, σ1, H1, J1, r, q⟩ => exact ⟨v, σ1, H1, J1.ofTry ok, r, q⟩
end
end Ex

set_option Elab.async false
set_option linter.all false
set_option maxRecDepth 100000
set_option maxHeartbeats 4000000
/-! Own layer: defs that make lambdas; the end of a law whose defs write the tables of their code objects, where no repr is under way. -/
namespace Gu
open PySem PySem.Spec PyProof.Rows L2
section
variable {P : Program} {w : World} {K : PySem.W.Frag} {mg : Str → Option Value} {base : Heap} {CX : CXT} {k : Nat} {f : Addr} {fd : FuncData} {ps : List Str} {sp : Sp}
/-- a def by its body, its code object known -/
theorem okGc {x qual : Str} {params : Arguments} {body : List Stmt} {scope : Scope} {dvs : List V} {kws : List (Str × V)} {N : List Str}
    (F : FunD K x qual params body scope dvs kws f fd) (S : FnScope N ps scope) (len : ∀ vs H Q E, sp vs H Q E → vs.length = ps.length)
    (hbody : ∀ (A : Around) (outer : List Env) (s : Shared) (H : Hp) (vs : List V) (Q : VK) (E : XK),
      RoomG k (A.deeper (envOfC qual scope s.heap.objs.size f fd.code)) → sp vs H Q E →
      ∃ t, PSs (cxOf CX P w K mg base N qual scope f fd.code A outer s H E) body t ∧ t { nx := fun _ H' => Q .non H', rt := Q } (start N vs) H) :
    FnG P w K mg base CX (k + 1) f fd ps sp := by
  obtain ⟨oc, od, dV, kV, doc, pm, an, cdv, ct, osl, rfl, lk, hcd, _, _⟩ := F.ex
  refine ⟨len, fun A outer s H args us vs Q E hr e0 hb rv hsp => ?_⟩
  have KX : K.In s.heap := e0.mod.kin.keeps fun b o e => (e0.bs b o e).1
  have kinds : ∀ y ∈ ps.zip us, scope.names.lookup y.1 = some .local ∨
      (scope.names.lookup y.1 = some .cell ∧ ((cellsFrom (s.heap.objs.size + 1) scope.names []).lookup y.1).isSome = true) := fun ⟨n, v⟩ hy => by
    rcases S.par n (List.of_mem_zip hy).1 with q | q
    · exact .inl q
    · exact .inr ⟨q, PySem.W.cellsFrom_some _ _ _ (.inl q)⟩
  refine codeAny_call_function hr.r.depth (KX _ _ lk) rfl S.co S.gen rfl (PySem.W.codeRec_of KX hcd) (hb _ _ _ _ ?_)
  refine wpAny_newFunctionEnv_cells S.kind kinds fun env he s1 x => ?_
  subst he
  refine ⟨(e0.mod.nolimit.keeps fun b o e => (e0.bs b o e).1).keeps x.toInCall.keep, codeAny_func ?_⟩
  obtain ⟨t, ht, hq⟩ := hbody A outer s H vs Q E (hr.down _) hsp
  have I := inv_start (CX := CX) (E := E) (N := N) (qual := qual) (f := f) (cd := cdv) S hr.r.hd e0 (len _ _ _ _ hsp) rv x
  refine wpAny_mono (ht.run [] s1 (start N vs) H _ I hq) (fun fl s' hs => ?_) fun e s' hs => hs
  match fl, hs with
  | .ret u, ⟨v, σ', H', J, rv', q⟩ => exact ⟨v, H', J.os, J.bare, J.base, J.hok, rv', q⟩
  | .next, ⟨σ', H', J, q⟩ => exact ⟨V.non, H', J.os, J.bare, J.base, J.hok, rfl, q⟩
  | .brk, ⟨_, _, z⟩ => exact z.2.elim
  | .cont, ⟨_, _, z⟩ => exact z.2.elim
end
/-- what stands in the heap before the law's call: the script, and the tables of the code objects cs -/
structure Tab0 (cs : List (Addr × Addr)) (H : Hp) : Prop where
  at_ : ∀ p ∈ cs, H p.2 = some (.tbl #[])
theorem law_goT {P : Program} {w : World} {K : PySem.W.Frag} {mg mb : Str → Option Value} {CX : CXT} {k : Nat} {fa a : Addr} {cs : List (Addr × Addr)} {fd : FuncData} {x : Str} {sp : Sp} {s₁ : Shared} {vs : List Value} {H : Hp}
    (KX : K.In s₁.heap) (hns : s₁.heap.Ns mainGlobals mg) (hb : s₁.heap.Ns builtinsNs mb) (hbb : ∀ x : Str, x ≠ "__name__" → mb x = bootBuiltins x) (hlim : s₁.heap.NoLimit) (hg : s₁.gens = #[])
    (tab : ∀ p ∈ cs, s₁.heap.get? p.2 = some { cls := .none, data := .fields #[] }) (cod : ∀ p ∈ cs, PySem.W.CodeHd s₁.heap p.1 p.2)
    (hbm : ∃ (bm : Addr) (ob : Obj), mg "__builtins__" = some (.ref bm) ∧ bm ≠ builtinsNs ∧ s₁.heap.get? bm = some ob ∧ ob.cls = .type "module" ∧ ob.dict = some builtinsNs ∧ ob.data = .plain)
    (ha : s₁.heap.get? a = some { cls := .type "list", data := .seq vs.toArray }) (hr : RoomG k callerA)
    (F : ∀ base : Heap, K.In base → base.Ns mainGlobals mg → (∀ p ∈ cs, LamX.TabB base mg p.1 p.2) → FnG P w K mg base CX k fa fd [x] sp) (hbind : ∀ (s : Shared) (u : Value), BindsTo s fd ⟨[u], []⟩ [(x, u)])
    (hsp : sp [.ref a] H (fun v _ => v = .bl true) fun _ _ _ => False) (hCX : ∀ e s', CX [] H s₁ (fun _ _ _ => False) e s' → False)
    (hT : Tab0 cs H) (hO : ∀ b, H b = none ∨ b ∈ cs.map (·.2) ∨ ∃ o xs, H b = some (.frz o (.lst xs))) (hok : HOk P w H s₁.heap) (hA : ∀ b, H b ≠ none → b = a ∨ b ∈ cs.map (·.2)) (hK : ∀ b, H b ≠ none → K.lookup b = none) :
    codeAny (model P w) callerA (.call (.ref fa) ⟨[.ref a], []⟩) (fun r s' => r = .ok (.ret (.bool true)) ∧ OldK s₁.heap s'.heap ∧ s'.os = s₁.os ∧ AllBare s'.gens) s₁ := by
  have isT : ∀ b : Addr, b ∈ cs.map (·.2) → s₁.heap.get? b = some { cls := .none, data := .fields #[] } := fun b hb => by
    obtain ⟨p, hp, e⟩ := List.mem_map.mp hb
    rw [← e]
    exact tab p hp
  have un : ∀ {b : Addr} {o : Obj}, s₁.heap.get? b = some o → (∀ zs n, o.data ≠ .seq zs n) → o.data ≠ .fields #[] → H b = none := fun {b o} e h1 h2 => by
    cases q : H b with
    | none => rfl
    | some u =>
      rcases hA b (by rw [q]; exact fun z => nomatch z) with z | z
      · rw [z, ha] at e
        exact (h1 _ _ (congrArg Obj.data (Option.some.inj e)).symm).elim
      · rw [isT b z] at e
        exact (h2 (congrArg Obj.data (Option.some.inj e)).symm).elim
  have nsK : ∀ {b : Addr} {m : Str → Option Value}, s₁.heap.Ns b m → (hidT s₁.heap H).Ns b m := fun {b m} ⟨o, es, ep, e, d, r⟩ =>
    ⟨o, es, ep, hidT_get e (un e (fun zs n z => by rw [d] at z; cases z) (fun z => by rw [d] at z; cases z)), d, r⟩
  have kb : K.In (hidT s₁.heap H) := fun b o e => hidT_get (KX b o e) (by
    cases q : H b with
    | none => rfl
    | some u =>
      rw [hK b (by rw [q]; exact fun z => nomatch z)] at e
      cases e)
  obtain ⟨mc, l1, l2⟩ := hlim
  have tb : ∀ p ∈ cs, LamX.TabB (hidT s₁.heap H) mg p.1 p.2 := fun p hp => by
    refine ⟨?_, ?_, fun z => ?_⟩
    · obtain ⟨o, us, file, tf, flags, tg, inF, text, tt, e1, r1, r2, r3, r4⟩ := cod p hp
      refine ⟨o, us, file, tf, flags, tg, inF, text, tt, hidT_get e1 (un e1 (fun zs n z => by rw [r2] at z; cases z) fun z => ?_), r1, r2, r3, r4⟩
      rw [r2] at z
      cases z
      simp at r3
    · obtain ⟨bm, ob, b1, b2, b3, b4, b5, b6⟩ := hbm
      refine ⟨bm, ob, b1, b2, fun q => ?_, fun q => ?_, hidT_get b3 (un b3 (fun zs n z => by rw [b6] at z; cases z) fun z => by rw [b6] at z; cases z), b4, b5, b6⟩
      · obtain ⟨o, es, ep, e, hd, _⟩ := hns
        rw [q, e] at b3
        cases b3
        rw [hd] at b6
        cases b6
      · rw [q, tab p hp] at b3
        cases b3
        cases b6
    · obtain ⟨o, es, ep, e, hd, _⟩ := hns
      rw [z, tab p hp] at e
      cases e
      cases hd
  have e0 : Env0 P w K mg (hidT s₁.heap H) callerA [] s₁ H :=
    ⟨rfl, ⟨kb, nsK hns, ⟨mb, nsK hb, hbb⟩, ⟨mc, nsK l1, l2⟩⟩, fun b o e => of_hidT e, Nat.le_of_eq (hidT_size _ _), trivial, fun b hb => absurd (show b ∈ ([] : List Addr) from hb) List.not_mem_nil, hok, .of_eq hg⟩
  refine codeAny_mono ((F _ kb (nsK hns) tb).run callerA [] s₁ H ⟨[.ref a], []⟩ [.ref a] [.ref a] _ _ hr e0 (hbind s₁ (.ref a)) (.cons rfl .nil) hsp) fun r s' h => ?_
  match r, h with
  | .error e, h => exact (hCX e s' h).elim
  | .ok (.ret u), h =>
    obtain ⟨v, H', os, bare, un', hok', r', q⟩ := h
    obtain rfl : v = .bl true := q
    obtain rfl : u = Value.bool true := r'
    have key : ∀ b o, b ∉ cs.map (·.2) → s₁.heap.get? b = some o → s'.heap.get? b = some o := fun b o nb e => by
      rcases hO b with z | z | ⟨ob, xs, z⟩
      · exact un'.keep b o e z (fun z => absurd (show b ∈ ([] : List Addr) from z) List.not_mem_nil) (fun z => absurd (show b ∈ ([] : List Addr) from z) List.not_mem_nil)
      · exact absurd z nb
      · obtain ⟨e1, _⟩ := hok b _ z
        obtain ⟨e2, _⟩ := hok' b _ (un'.frzs b ob _ z)
        rw [e] at e1
        rw [Option.some.inj e1]
        exact e2
    have more : ∀ p ∈ cs, ∃ m : Array Value, s'.heap.get? p.2 = some { cls := .none, data := .fields m } := fun p hp => by
      obtain ⟨m, z⟩ := un'.tbls p.2 #[] (hT.at_ p hp)
      exact ⟨_, hok' p.2 _ z⟩
    refine ⟨rfl, ⟨fun b o e => ?_, fun b o e => ?_⟩, os, bare⟩
    · by_cases hb : b ∈ cs.map (·.2)
      · obtain ⟨p, hp, ep⟩ := List.mem_map.mp hb
        obtain ⟨m, hm⟩ := more p hp
        rw [← ep] at e ⊢
        rw [tab p hp] at e
        cases e
        exact .inr (.inl ⟨((cod p hp).tab (tab p hp)).isCodeTable, rfl, #[], m, rfl, by rw [Array.empty_append]; exact hm⟩)
      · exact .inl (key b o hb e)
    · by_cases hb : b ∈ cs.map (·.2)
      · obtain ⟨p, hp, ep⟩ := List.mem_map.mp hb
        obtain ⟨m, hm⟩ := more p hp
        rw [← ep]
        exact ⟨_, hm⟩
      · exact ⟨o, key b o hb e⟩
theorem law_callTG {P : Program} {w : World} {K : PySem.W.Frag} {mg mb : Str → Option Value} {CX : CXT} {k : Nat} {fa a : Addr} {cs : List (Addr × Addr)} {fd : FuncData} {x : Str} {sp : Sp} {s₁ : Shared} {vs : List Value} {ns : List Int}
    (KX : K.In s₁.heap) (hns : s₁.heap.Ns mainGlobals mg) (hb : s₁.heap.Ns builtinsNs mb) (hbb : ∀ x : Str, x ≠ "__name__" → mb x = bootBuiltins x) (hlim : s₁.heap.NoLimit) (hg : s₁.gens = #[])
    (tab : ∀ p ∈ cs, s₁.heap.get? p.2 = some { cls := .none, data := .fields #[] }) (nT : ∀ p ∈ cs, K.lookup p.2 = none) (cod : ∀ p ∈ cs, PySem.W.CodeHd s₁.heap p.1 p.2)
    (hbm : ∃ (bm : Addr) (ob : Obj), mg "__builtins__" = some (.ref bm) ∧ bm ≠ builtinsNs ∧ s₁.heap.get? bm = some ob ∧ ob.cls = .type "module" ∧ ob.dict = some builtinsNs ∧ ob.data = .plain)
    (ha : s₁.heap.get? a = some { cls := .type "list", data := .seq vs.toArray }) (hi : IntsAre vs ns) (hl : ns.length ≤ sizeLine) (hr : RoomG k callerA)
    (F : ∀ base : Heap, K.In base → base.Ns mainGlobals mg → (∀ p ∈ cs, LamX.TabB base mg p.1 p.2) → FnG P w K mg base CX k fa fd [x] sp) (hbind : ∀ (s : Shared) (u : Value), BindsTo s fd ⟨[u], []⟩ [(x, u)])
    (hsp : ∀ H : Hp, Tab0 cs H → SqL K H a (ns.map V.int) → sp [.ref a] H (fun v _ => v = .bl true) fun _ _ _ => False) (hCX : ∀ H e s', CX [] H s₁ (fun _ _ _ => False) e s' → False) :
    codeAny (model P w) callerA (.call (.ref fa) ⟨[.ref a], []⟩) (fun r s' => r = .ok (.ret (.bool true)) ∧ OldK s₁.heap s'.heap ∧ s'.os = s₁.os ∧ AllBare s'.gens) s₁ := by
  have rv := vals_ints hi
  have lenV := hi.length
  have isT : ∀ b : Addr, b ∈ cs.map (·.2) → s₁.heap.get? b = some { cls := .none, data := .fields #[] } ∧ K.lookup b = none := fun b hb => by
    obtain ⟨p, hp, e⟩ := List.mem_map.mp hb
    rw [← e]
    exact ⟨tab p hp, nT p hp⟩
  have aT : a ∉ cs.map (·.2) := fun z => by
    have q := (isT a z).1
    rw [ha] at q
    cases congrArg Obj.data (Option.some.inj q)
  have memT : ∀ p ∈ cs, p.2 ∈ cs.map (·.2) := fun p hp => List.mem_map.mpr ⟨p, hp, rfl⟩
  let H0 : Option HO → Hp := fun z b => if b = a then z else if b ∈ cs.map (·.2) then some (.tbl #[]) else none
  have h_a : ∀ z, H0 z a = z := fun z => if_pos rfl
  have h_t : ∀ z b, b ∈ cs.map (·.2) → H0 z b = some (.tbl #[]) := fun z b hb => (if_neg fun e => aT (by rw [← e]; exact hb)).trans (if_pos hb)
  have h_n : ∀ z b, b ≠ a → b ∉ cs.map (·.2) → H0 z b = none := fun z b n hb => (if_neg n).trans (if_neg hb)
  have t0 : ∀ z, Tab0 cs (H0 z) := fun z => ⟨fun p hp => h_t z _ (memT p hp)⟩
  have two : ∀ z b, H0 z b ≠ none → b = a ∨ b ∈ cs.map (·.2) := fun z b h => by
    by_cases h1 : b = a
    · exact .inl h1
    · by_cases h2 : b ∈ cs.map (·.2)
      · exact .inr h2
      · exact (h (h_n z b h1 h2)).elim
  have tok : ∀ z b u, b ∈ cs.map (·.2) → H0 z b = some u → ObjOk P w (H0 z) s₁.heap b u := fun z b u hb e => by
    rw [h_t z b hb] at e
    cases e
    exact (isT b hb).1
  cases hk : K.lookup a with
  | some o =>
    have e := (KX a o hk).symm.trans ha
    obtain rfl := Option.some.inj e
    refine law_goT (H := H0 none) KX hns hb hbb hlim hg tab cod hbm ha hr F hbind (hsp _ (t0 _) (.inr ⟨_, vs.toArray, _, hk, rfl, rfl, rfl, by rw [List.size_toArray, lenV]; exact hl, by simpa using rv⟩)) (hCX _) (t0 _) (fun b => ?_) (fun b u z => ?_) (two _) (fun b z => ?_)
    · by_cases h2 : b ∈ cs.map (·.2)
      · exact .inr (.inl h2)
      · by_cases h1 : b = a
        · exact .inl (by rw [h1]; exact h_a none)
        · exact .inl (h_n _ b h1 h2)
    · rcases two _ b (by rw [z]; exact fun y => nomatch y) with h1 | h2
      · rw [h1, h_a] at z
        cases z
      · exact tok _ b u h2 z
    · rcases two _ b z with h1 | h2
      · rw [h1, h_a] at z
        exact (z rfl).elim
      · exact (isT b h2).2
  | none =>
    refine law_goT (H := H0 (some (.frz { cls := .type "list", data := .seq vs.toArray } (.lst (ns.map V.int))))) KX hns hb hbb hlim hg tab cod hbm ha hr F hbind (hsp _ (t0 _) (.inl (.inr ⟨_, h_a _⟩))) (hCX _) (t0 _) (fun b => ?_) (fun b u z => ?_) (two _) (fun b z => ?_)
    · by_cases h2 : b ∈ cs.map (·.2)
      · exact .inr (.inl h2)
      · by_cases h1 : b = a
        · exact .inr (.inr ⟨_, _, by rw [h1]; exact h_a _⟩)
        · exact .inl (h_n _ b h1 h2)
    · rcases two _ b (by rw [z]; exact fun y => nomatch y) with h1 | h2
      · rw [h1, h_a] at z
        obtain rfl := Option.some.inj z
        rw [h1]
        exact ⟨ha, by rw [List.length_map]; exact hl, vs, _, rv, ha⟩
      · exact tok _ b u h2 z
    · rcases two _ b z with h1 | h2
      · rw [h1]
        exact hk
      · exact (isT b h2).2
/-- the end of a law with tables, over a head by facts -/
theorem walkGT {l : PySem.W.OpenLaw} {n k : Nat} {q : Program} {loose : List Str} {XP : (Str → Option Value) → Heap → Prop} {YP : World → Heap → Prop} {d : DefRec} {CX : CXT} {x : Str}
    (hn : l.most = some n) (hn2 : n ≤ sizeLine) (hdf : d.params.defaults = []) (hr : RoomG k callerA)
    (F : ∀ (w : World) (mg : Str → Option Value) (fa : Addr) (h : Heap), YP w h → h.Ns mainGlobals mg → mg d.name = some (.ref fa) →
      ∃ (K : PySem.W.Frag) (fd : FuncData) (sp : Sp) (cs : List (Addr × Addr)), K.In h ∧ (∀ p ∈ cs, h.get? p.2 = some { cls := .none, data := .fields #[] }) ∧ (∀ p ∈ cs, K.lookup p.2 = none) ∧ (∀ p ∈ cs, PySem.W.CodeHd h p.1 p.2) ∧ (∀ (s : Shared) (u : Value), BindsTo s fd ⟨[u], []⟩ [(x, u)]) ∧
        (∀ (H : Hp) (a : Addr) (ns : List Int), ns.length ≤ n → Tab0 cs H → SqL K H a (ns.map V.int) → sp [.ref a] H (fun v _ => v = .bl true) fun _ _ _ => False) ∧
        ∀ base : Heap, K.In base → base.Ns mainGlobals mg → (∀ p ∈ cs, LamX.TabB base mg p.1 p.2) → FnG l.prog w K mg base CX k fa fd [x] sp)
    (hCX : ∀ (H : Hp) (s : Shared) (e : Value) (s' : Shared), CX [] H s (fun _ _ _ => False) e s' → False) :
    PySem.W.WalkO q loose XP YP l.row.toRowW d [] (fun f vs => PySem.call f vs) := by
  refine Att.attach_call hn hdf fun w s₀ s₁ mg mb fa o pm cd doc a vs ns G Y ho hd hcd hmg hobj hints hlen hg => ?_
  obtain ⟨K, fd, sp, cs, KX, h1, h2, h3, hb, hsp, hF⟩ := F w mg fa _ Y G.T.g hmg
  exact law_callTG KX G.T.g G.T.b G.T.builtins G.T.nolimit hg h1 h2 h3 G.T.bmain hobj hints (Nat.le_trans hlen hn2) hr hF hb (fun H hT hS => hsp H a ns hlen hT hS) fun H e s' => hCX H s₁ e s'
end Gu

set_option Elab.async false
set_option linter.all false
set_option maxRecDepth 100000
set_option maxHeartbeats 4000000
/-! Own layer: defs and methods that may raise, by their names: called where nothing is let out, in a def that lets errors out, in a try's body; by position and by keywords. -/
namespace Ex
open PySem PySem.Spec PySem.Calls PyProof.Rows L2 Gu
theorem passN {X : Cx} : Passes (L2.CX X.prog X.w) X E0 := fun _ _ _ _ _ _ _ ⟨_, _, _, _, _, _, _, _, _, _, _, _, z⟩ => z.elim
theorem passX {X : Cx} {E : XK} (tk : Takes X (fun cls d _ H => E cls d H)) : Passes (L2.CX X.prog X.w) X E := passes_call tk fun _ _ _ _ h => h
structure DfX (P : Program) (w : World) (K : PySem.W.Frag) (mg : Str → Option Value) (base : Heap) (k : Nat) (x : Str) (ps : List Str) (sp : Sp) : Prop where
  ex : ∃ fd, FnOk P w K mg base (L2.CX P w) k (He.ga K x) fd ps sp ∧ Binds K fd ps []
  gl : mg x = some (.ref (He.ga K x))
  kp : PySem.W.keepIn K (.ref (He.ga K x)) = true
structure MfX (P : Program) (w : World) (K : PySem.W.Frag) (mg : Str → Option Value) (base : Heap) (k : Nat) (c m : Str) (ps : List Str) (sp : Sp) : Prop where
  ex : ∃ fd, FnOk P w K mg base (L2.CX P w) k (He.ma K (He.ga K c) m) fd ps sp ∧ Binds K fd ps []
  cl : Cls K (He.ga K c)
  me : Meth K (He.ga K c) m (He.ma K (He.ga K c) m)
/-- .. called by the keywords ks alone behind self; j: the places of the other parameters among the keywords -/
structure MfXK (P : Program) (w : World) (K : PySem.W.Frag) (mg : Str → Option Value) (base : Heap) (k : Nat) (c m : Str) (ps ks : List Str) (j : List Nat) (sp : Sp) : Prop where
  ex : ∃ fd, FnOk P w K mg base (L2.CX P w) k (He.ma K (He.ga K c) m) fd ps sp ∧ ∀ (s : Shared) (u : Value) (ws : List Value), ws.length = ks.length → BindsTo s fd ⟨[u], ks.zip ws⟩ (ps.zip (u :: j.filterMap fun i => ws[i]?))
  cl : Cls K (He.ga K c)
  me : Meth K (He.ga K c) m (He.ma K (He.ga K c) m)
section
variable {X : Cx} {k j : Nat} {x c m : Str} {ps ks : List Str} {ji : List Nat} {sp : Sp} {p pos apos : Pos} {e o : Expr} {es : List Expr} {kws : List Keyword} {t tk : TA} {ta : TE} {E : XK} {W : WX}
theorem pcallX (D : DfX X.prog X.w X.K X.mg X.base k x ps sp) (hr : Room j X.A) (px : Passes (L2.CX X.prog X.w) X E) (ha : PA X (e :: es) t) (hj : k ≤ j := by decide) (hg : Gl X x := by rfl) (hdb : (x == ("__debug__" : Str)) = false := by decide)
    (he : starEach (e :: es) X.env = (false, eval e X.env) :: starEach es X.env := by rfl) (hpl : (backTo pos (starEach es X.env)).any (·.1) = false := by rfl) :
    PE X (.Call (.Name x p) (e :: es) [] pos) (tCall sp [] E t) := by
  obtain ⟨fd, F, b⟩ := D.ex
  exact pe_call F (hr.mono hj) hg D.gl D.kp b .nil px ha hdb he hpl
theorem pmethX {pl : Sem Bool} (D : MfX X.prog X.w X.K X.mg X.base k c m ps sp) (hr : Room j X.A) (px : Passes (L2.CX X.prog X.w) X E) (he : PE X o ta) (ha : PA X (e :: es) t) (hj : k ≤ j := by decide)
    (hst : starEach (e :: es) X.env = (false, eval e X.env) :: starEach es X.env := by rfl) (hpl : (backTo pos (starEach es X.env)).any (·.1) = false := by rfl)
    (ht : eval (.Call (.Attribute o m apos) (e :: es) [] pos) X.env = (do
      let ov ← eval o X.env
      standAt apos.atName
      let (f, first) ← holding [ov] (getMethod ov m pl)
      callWith pos f first (backTo pos (starEach (e :: es) X.env)) (backToKw pos (keywordEach [] X.env))) := by rfl) :
    PE X (.Call (.Attribute o m apos) (e :: es) [] pos) (tMeth (He.ga X.K c) m sp [] E ta t) := by
  obtain ⟨fd, F, b⟩ := D.ex
  exact pe_meth he D.cl D.me F (hr.mono hj) b .nil px ha hst hpl ht
/-- within a comprehension's block the reading names K by hand -/
theorem pmethXB {pl : Sem Bool} (K : PySem.W.Frag) (D : MfX X.prog X.w X.K X.mg X.base k c m ps sp) (hr : Room j X.A) (px : Passes (L2.CX X.prog X.w) X E) (he : PE X o ta) (ha : PA X (e :: es) t) (hj : k ≤ j := by decide) (hK : X.K = K := by rfl)
    (hst : starEach (e :: es) X.env = (false, eval e X.env) :: starEach es X.env := by rfl) (hpl : (backTo pos (starEach es X.env)).any (·.1) = false := by rfl)
    (ht : eval (.Call (.Attribute o m apos) (e :: es) [] pos) X.env = (do
      let ov ← eval o X.env
      standAt apos.atName
      let (f, first) ← holding [ov] (getMethod ov m pl)
      callWith pos f first (backTo pos (starEach (e :: es) X.env)) (backToKw pos (keywordEach [] X.env))) := by rfl) :
    PE X (.Call (.Attribute o m apos) (e :: es) [] pos) (tMeth (He.ga K c) m sp [] E ta t) := by
  subst hK
  exact pmethX D hr px he ha hj hst hpl ht
def tMethKw (C : Addr) (m : Str) (sp : Sp) (n : Nat) (j : List Nat) (E : XK) (ta : TE) (tk : TA) : TE := fun σ H Q => ta σ H fun x H1 => ∃ a dx fs, x = .ref a ∧ H1 a = some (.ins C dx fs) ∧ fs.lookup m = none ∧
  tk σ H1 fun zs H2 => zs.length = n ∧ sp (x :: j.filterMap fun i => zs[i]?) H2 Q E
theorem pmethXK {pl : Sem Bool} (D : MfXK X.prog X.w X.K X.mg X.base k c m ps ks ji sp) (hr : Room j X.A) (px : Passes (L2.CX X.prog X.w) X E) (he : PE X o ta) (hkw : PK X kws tk) (hj : k ≤ j := by decide)
    (hall : (backToKw pos (keywordEach kws X.env)).all (·.1.isSome) = true := by rfl) (hks : (backToKw pos (keywordEach kws X.env)).filterMap (·.1) = ks := by rfl)
    (hpl : ((backTo pos (starEach [] X.env)).any (·.1) || (backToKw pos (keywordEach kws X.env)).any (·.1.isNone)) = false := by rfl)
    (ht : eval (.Call (.Attribute o m apos) [] kws pos) X.env = (do
      let ov ← eval o X.env
      standAt apos.atName
      let (f, first) ← holding [ov] (getMethod ov m pl)
      callWith pos f first (backTo pos (starEach [] X.env)) (backToKw pos (keywordEach kws X.env))) := by rfl) :
    PE X (.Call (.Attribute o m apos) [] kws pos) (tMethKw (He.ga X.K c) m sp ks.length ji E ta tk) := by
  obtain ⟨fd, F, b⟩ := D.ex
  refine ⟨fun pins s σ H Q I h => PySem.W.methodCall_KW (pl := pl) (thn (he.run pins s σ H _ I h) fun u s1 ⟨x, H1, I1, rx, a, dx, fs, ex, ea, l, q⟩ => ?_) ht⟩
  subst ex
  obtain rfl : u = Value.ref a := rx
  refine getmeth_ok I1 ea D.cl D.me l (PySem.W.callWith_KW0 (first := [.ref a]) (h₀ := X.base) I.ok.mod.kin D.me.kp hall (thn (hkw.run pos pins s1 σ H1 _ I1 q) fun ws s2 ⟨zs, H2, I2, rz, hz, q2⟩ => ⟨I2.kIn, ?_⟩) hpl)
  rw [hks]
  have rv : Vals (V.ref a :: ji.filterMap fun i => zs[i]?) (Value.ref a :: ji.filterMap fun i => ws[i]?) := .cons rfl (vals_pick rz ji)
  refine wpAny_call (codeAny_mono (F.run X.A X.stack s2 H2 ⟨[Value.ref a] ++ [], ks.zip ws⟩ _ _ Q E (hr.mono hj) I2.env0 (b s2 (.ref a) ws (rz.length.symm.trans hz)) rv q2) fun r s' hq => ?_)
  match r, hq with
  | .error e, hq => exact px pins σ H2 s2 e s' I2 hq
  | .ok (.ret u), hq => exact I2.after hq
end
section
variable {X : Cx} {k j : Nat} {c m : Str} {ps : List Str} {sp : Sp} {pos apos : Pos} {e o : Expr} {es : List Expr} {t : TA} {ta : TE} {W : WX}
/-- o.m(e, ..) in a try's body -/
def tMethT (C : Addr) (m : Str) (sp : Sp) (E : L2.St → XK) (ta : TE) (t : TA) : TE := fun σ H Q => ta σ H fun x H1 => ∃ a dx fs, x = .ref a ∧ H1 a = some (.ins C dx fs) ∧ fs.lookup m = none ∧ t σ H1 fun vs H2 => sp (x :: vs) H2 Q (E σ)
theorem pmethT {pl : Sem Bool} (D : MfX X.prog X.w X.K X.mg X.base k c m ps sp) (hr : Room j X.A) (tk : Takes X W) (he : PE X o ta) (ha : PA X (e :: es) t) (hj : k ≤ j := by decide)
    (hst : starEach (e :: es) X.env = (false, eval e X.env) :: starEach es X.env := by rfl) (hpl : (backTo pos (starEach es X.env)).any (·.1) = false := by rfl)
    (ht : eval (.Call (.Attribute o m apos) (e :: es) [] pos) X.env = (do
      let ov ← eval o X.env
      standAt apos.atName
      let (f, first) ← holding [ov] (getMethod ov m pl)
      callWith pos f first (backTo pos (starEach (e :: es) X.env)) (backToKw pos (keywordEach [] X.env))) := by rfl) :
    PE X (.Call (.Attribute o m apos) (e :: es) [] pos) (tMethT (He.ga X.K c) m sp (WE W) ta t) := by
  obtain ⟨fd, F, b⟩ := D.ex
  refine ⟨fun pins s σ H Q I h => PySem.W.methodCall_KW (pl := pl) (thn (he.run pins s σ H _ I h) fun u s1 ⟨x, H1, I1, rx, a, dx, fs, ex, ea, l, q⟩ => ?_) ht⟩
  subst ex
  obtain rfl : u = Value.ref a := rx
  refine getmeth_ok I1 ea D.cl D.me l (PySem.W.callWith_K (first := [.ref a]) (h₀ := X.base) I.ok.mod.kin D.me.kp (thn (ha.run pos pins s1 σ H1 _ I1 q) fun us s2 ⟨vs, H2, I2, r, q2⟩ => ⟨I2.kIn, ?_⟩) hst hpl)
  exact run_fnS (E := WE W) (us := .ref a :: us) (vs := .ref a :: vs) F (hr.mono hj) b (passAt tk σ) I2 (.cons rfl r) q2
end
/-! ### facts of an error's class over any base -/
def oexGB (B : String) (K : PySem.W.Frag) (C : Addr) : Bool := match K.lookup C with
  | some ⟨.type "type", _, .cls cd, sl⟩ => (match cd.mro, sl.toList with
    | .ref c :: bm, [_, _, _, _, some (.builtin n), _] => (c == C && n == B ++ ".__new__") && ((!cd.hasDel && cd.hasDict) && refsB (tailE B) bm)
    | _, _ => false)
  | _ => false
theorem oexGB_ok {B : String} {K : PySem.W.Frag} {C : Addr} (h : oexGB B K C = true) :
    ∃ nm q N bs bm sn sub ab col dd k0 k1 k2 k3 k5, K.lookup C = some (excClassObj nm q C N bs bm true sn sub ab col dd k0 k1 k2 k3 k5 (B ++ ".__new__")) ∧ refsB (tailE B) bm = true := by
  unfold oexGB at h
  split at h
  · rename_i dd cd sl ho
    split at h
    · rename_i c bm k0 k1 k2 k3 n k5 hm hs
      obtain ⟨⟨h1, h2⟩, h3⟩ := (He.ba h).imp_left He.ba
      obtain ⟨h4, h5⟩ := He.ba h3
      obtain ⟨h6, h7⟩ := He.ba h4
      have e1 : c = C := beq_iff_eq.mp h1
      have e2 : n = B ++ ".__new__" := beq_iff_eq.mp h2
      have e3 : cd.hasDel = false := by simpa using h6
      subst e1 e2
      obtain ⟨nm, bs, mro, ns, qn, hd, sn, sub, ab, col, del⟩ := cd
      dsimp only at hm e3 h7
      subst hm e3 h7
      have e4 : sl = #[k0, k1, k2, k3, some (.builtin (B ++ ".__new__")), k5] := by
        obtain ⟨l⟩ := sl
        simp only at hs
        rw [hs]
      subst e4
      exact ⟨nm, qn, ns, bs, bm, sn, sub, ab, col, dd, k0, k1, k2, k3, k5, ho, h5⟩
    · cases h
  · cases h
def bOf (a : Option Bool) (b : Bool) : Bool := decide (a = some b)
theorem bOf_ok {a : Option Bool} {b : Bool} (h : bOf a b = true) : a = some b := of_decide_eq_true h
/-- what the rules ask of an error's class at C, over B, with the field n -/
def errG (B : String) (K : PySem.W.Frag) (C : Addr) (n : Str) : Bool := oexGB B K C && (He.eqO (PySem.W.findIn K (.ref C) "__setattr__") (some (some (.builtin "object.__setattr__"))) && (bOf (PySem.W.subIn K (.ref C) (.type "BaseException")) true &&
  (decide (PySem.W.typeIn K (.ref C) = some (.type "type")) && (PySem.W.keepIn K (.ref C) && (xfB K C && (He.eqO (PySem.W.findIn K (.ref C) "__class__") (some (some (.builtin "object.__class__"))) &&
  (He.eqO (PySem.W.specialIn K (.builtin "object.__class__") "__get__") (some (some (.builtin "getset_descriptor.__get__"))) && (bOf (PySem.W.takesIn K (.builtin "object.__class__")) true && (bOf (PySem.W.mroIn K C (.type "object")) true &&
  (He.eqO (PySem.W.findIn K (.ref C) n) (some none) && (He.eqO (PySem.W.findIn K (.ref C) "__init__") (some (some (.ref (He.ma K C "__init__")))) && (decide (PySem.W.typeIn K (.ref (He.ma K C "__init__")) = some (.type "function")) && bOf (PySem.W.exmOne K (.ref C) (.ref C)) true))))))))))))
structure ErrG (B : String) (K : PySem.W.Frag) (C : Addr) (n : Str) : Prop where
  ox : OexG B (tailE B) K C
  xf : XfC K C
  ec : ExcC K C
  no : PySem.W.findIn K (.ref C) n = some none
  ii : PySem.W.findIn K (.ref C) "__init__" = some (some (.ref (He.ma K C "__init__")))
  ti : PySem.W.typeIn K (.ref (He.ma K C "__init__")) = some (.type "function")
  em : PySem.W.exmOne K (.ref C) (.ref C) = some true
theorem errG_ok {B : String} {K : PySem.W.Frag} {C : Addr} {n : Str} (b : BaseE B (tailE B)) (h : errG B K C n = true) : ErrG B K C n := by
  obtain ⟨a1, h⟩ := He.ba h
  obtain ⟨a2, h⟩ := He.ba h
  obtain ⟨a3, h⟩ := He.ba h
  obtain ⟨a4, h⟩ := He.ba h
  obtain ⟨a5, h⟩ := He.ba h
  obtain ⟨a6, h⟩ := He.ba h
  obtain ⟨a7, h⟩ := He.ba h
  obtain ⟨a8, h⟩ := He.ba h
  obtain ⟨a9, h⟩ := He.ba h
  obtain ⟨a10, h⟩ := He.ba h
  obtain ⟨a11, h⟩ := He.ba h
  obtain ⟨a12, h⟩ := He.ba h
  obtain ⟨a13, a14⟩ := He.ba h
  have x := xfB_ok a6
  exact ⟨⟨b, oexGB_ok a1, He.eqO_ok a2, bOf_ok a3, of_decide_eq_true a4, a5⟩, x, ⟨x.ga, x.gg, x.exC, x.hdC, He.eqO_ok a7, He.eqO_ok a8, bOf_ok a9, bOf_ok a10⟩, He.eqO_ok a11, He.eqO_ok a12, of_decide_eq_true a13, bOf_ok a14⟩
/-- an error's __init__ with one field -/
def spErr (C : Addr) (n : Str) : Sp := fun vs H Q _ => ∃ (a : Addr) (v : V), vs = [.ref a, v] ∧ H a = some (exo a C none) ∧ ∀ dx, H dx = none → dx ≠ a → Q .non (upd (upd H dx (exd dx [(n, v)])) a (exo a C (some dx)))
/-- the error's maker, for a raise -/
structure Ei (P : Program) (w : World) (K : PySem.W.Frag) (mg : Str → Option Value) (base : Heap) (c n : Str) : Prop where
  ex : ∃ fd, FnOk P w K mg base CX0 1 (He.ma K (He.ga K c) "__init__") fd ["self", n] (spErr (He.ga K c) n) ∧ Binds K fd ["self", n] []
theorem heap_err {H : Hp} {a dx : Addr} {fs : List (Str × V)} {o1 o2 o3 : HO} (ha : H a = none) (hd : H dx = none) : Same H (upd (del (upd (upd (upd H a o1) dx o2) a o3) a) dx (.xd fs)) := fun b o e => by
  have nb : b ≠ a := ne_of_none e ha
  have nd : b ≠ dx := ne_of_none e hd
  rw [upd_ne nd, del_ne nb, upd_ne nb, upd_ne nd, upd_ne nb]
  exact e
/-- what is asked at a raise of C(v): that the def's own wish of errors holds of it -/
theorem raise_ok {K : PySem.W.Frag} {c n : Str} {v : V} {H : Hp} {E : XK} (q : ∀ d H', H d = none → Same H H' → H' d = some (.xd [(n, v)]) → E (.ref (He.ga K c)) (some d) H') :
    ∀ a, H a = none → spErr (He.ga K c) n (.ref a :: ([v] ++ [])) (upd H a (exo a (He.ga K c) none))
      (fun u H2 => u = .non ∧ ∃ (d : Addr) (fs : List (Str × V)), H2 a = some (exo a (He.ga K c) (some d)) ∧ H2 d = some (exd d fs) ∧ H d = none ∧ E (.ref (He.ga K c)) (some d) (upd (del H2 a) d (.xd fs))) (fun _ _ _ => False) := fun a ha => by
  refine ⟨a, v, rfl, upd_same, fun dx hdx ne => ⟨rfl, dx, [(n, v)], upd_same, ?_, ?_, ?_⟩⟩
  · rw [upd_ne ne, upd_same]
  · rw [upd_ne ne] at hdx
    exact hdx
  · rw [upd_ne ne] at hdx
    exact q dx _ hdx (heap_err ha hdx) upd_same
end Ex

set_option Elab.async false
set_option linter.all false
set_option maxRecDepth 100000
set_option maxHeartbeats 4000000
namespace K21
open PySem PySem.Spec PyProof.Rows L2 Gu Ex
def top (i : Nat) : Stmt := PySem.Challenge.pw_exactroom_k21_whole_blocks_by_a_model.main.body.getD i (.Pass ⟨0, 0, 0, 0⟩)
abbrev FnP (K : PySem.W.Frag) (x qual : Str) (st : Stmt) (f : Addr) (fd : FuncData) : Prop := FunD K x qual (defArgs st) (defBody st) (defScope st) [] [] f fd
/-- what the top has left -/
structure Tx (K : PySem.W.Frag) (mg : Str → Option Value) : Prop where
  n_len : mg "len" = none
  n_isinstance : mg "isinstance" = none
  n_int : mg "int" = none
  n_bool : mg "bool" = none
  n_list : mg "list" = none
  n_range : mg "range" = none
  n_divmod : mg "divmod" = none
  n_abs : mg "abs" = none
  n_max : mg "max" = none
  n_min : mg "min" = none
  n_enumerate : mg "enumerate" = none
  n_all : mg "all" = none
  n_sum : mg "sum" = none
  n_tuple : mg "tuple" = none
  n_sorted : mg "sorted" = none
  n_repr : mg "repr" = none
  n_set : mg "set" = none
  n_dict : mg "dict" = none
  n_any : mg "any" = none
  g_Sizes : mg "Sizes" = some (.ref (He.ga K "Sizes"))
  cl : Cls K (He.ga K "Sizes")
  nSL : NoAttr K (He.ga K "Sizes") "size_list"
  rd : ClX.CRead K (He.ga K "Sizes") (.type "type")
  cS : ∃ u, ClX.CVal K (He.ga K "Sizes") (.type "type") "MAX_SIZE" (.int 1000000000) u
  cN : ∃ u, ClX.CVal K (He.ga K "Sizes") (.type "type") "MAX_SIZES" (.int 8) u
  sys : SysOk K
  cC : ∃ u, ClX.CVal K (He.ga K "Sizes") (.type "type") "MAX_CELLS" (.int 1000000000000) u
  g_Layout : mg "Layout" = some (.ref (He.ga K "Layout"))
  ly : Cls K (He.ga K "Layout")
  nST : NoAttr K (He.ga K "Layout") "size_table"
  nCC : NoAttr K (He.ga K "Layout") "cell_count"
  nFC : NoAttr K (He.ga K "Layout") "free_count"
  nBL : NoAttr K (He.ga K "Layout") "block_list"
  iS : InsOk K (He.ga K "Sizes")
  iL : InsOk K (He.ga K "Layout")
  n_str : mg "str" = none
  n_LookupError : mg "LookupError" = none
  n_RuntimeError : mg "RuntimeError" = none
  n_ValueError : mg "ValueError" = none
  g_InvalidAddress : mg "InvalidAddress" = some (.ref (He.ga K "InvalidAddress"))
  g_UnknownBlock : mg "UnknownBlock" = some (.ref (He.ga K "UnknownBlock"))
  g_Occupied : mg "Occupied" = some (.ref (He.ga K "Occupied"))
  eA : ErrG "ValueError" K (He.ga K "InvalidAddress") "value"
  eU : ErrG "LookupError" K (He.ga K "UnknownBlock") "value"
  eO : ErrG "RuntimeError" K (He.ga K "Occupied") "address"
  kA : PySem.W.kitOne K (.ref (He.ga K "InvalidAddress")) (.type "ValueError") = some true
  kU : PySem.W.kitOne K (.ref (He.ga K "UnknownBlock")) (.type "LookupError") = some true
  kO : PySem.W.kitOne K (.ref (He.ga K "Occupied")) (.type "RuntimeError") = some true
  nAU : PySem.W.exmOne K (.ref (He.ga K "InvalidAddress")) (.ref (He.ga K "UnknownBlock")) = some false
  ne : NeOk K (He.ga K "Sizes")
abbrev cA (K : PySem.W.Frag) : Addr := He.ga K "InvalidAddress"
abbrev cU (K : PySem.W.Frag) : Addr := He.ga K "UnknownBlock"
abbrev cO (K : PySem.W.Frag) : Addr := He.ga K "Occupied"
/-- a list of sizes -/
structure Good (ns : List Int) : Prop where
  len : 1 ≤ ns.length ∧ ns.length ≤ 8
  one : ns[0]? = some 1
  rng : ∀ (i : Nat) x, ns[i]? = some x → 1 ≤ x ∧ x ≤ 1000000000
  up : ∀ (i : Nat) x y, ns[i]? = some x → ns[i + 1]? = some y → x < y ∧ y % x = 0
section
variable {P : Program} {w : World} {K : PySem.W.Frag} {mg : Str → Option Value} {base : Heap} {f : Addr} {fd : FuncData}
theorem bT {c : Prop} [Decidable c] (h : c) : V.bl (decide c) = V.bl true := congrArg V.bl (decide_eq_true h)
theorem bF {c : Prop} [Decidable c] (h : ¬ c) : V.bl (decide c) = V.bl false := congrArg V.bl (decide_eq_false h)
theorem ifT {c : Bool} {A B : Prop} (h : c = true) (x : A) : if c = true then A else B := by rw [h]; exact iteT x
theorem ifF {c : Bool} {A B : Prop} (h : c = false) (x : B) : if c = true then A else B := by rw [h]; exact iteF x
theorem vT {a b : Int} (h : a = b) : decide (V.int a = V.int b) = true := decide_eq_true (by rw [h])
theorem vF {a b : Int} (h : a ≠ b) : decide (V.int a = V.int b) = false := decide_eq_false fun z => h (V.int.inj z)
def spInt : Sp := fun vs H Q _ => ∃ i : Int, vs = [.int i] ∧ Q (.bl true) H
theorem sc_is_integer : FnScope ["value"] ["value"] (defScope (top 10)) := ⟨rfl, rfl, rfl, by decide +kernel, rfl, by decide +kernel, by decide +kernel⟩
theorem ok_is_integer (T : Tx K mg) (F : FnP K "is_integer" "is_integer" (top 10) f fd) : FnOk P w K mg base CX0 1 f fd ["value"] spInt := by
  refine F.ok sc_is_integer (fun vs H Q E h => ?_) (fun cdv A outer s H vs Q E hr h => ⟨_, PSs.nox (pss_one (ps_ret (pe_and (pe_callB call_isi (by rfl) T.n_isinstance (by decide +kernel) (pa_cons (pv 0) (pa_cons (pe_bltn (v := .ty "int") (by rfl) T.n_int (by decide +kernel) rfl) pa_nil))) (pe_one (pe_not (pe_callB call_isi (by rfl) T.n_isinstance (by decide +kernel) (pa_cons (pv 0) (pa_cons (pe_bltn (v := .ty "bool") (by rfl) T.n_bool (by decide +kernel) rfl) pa_nil)))))))), ?_⟩)
  · obtain ⟨i, rfl, _⟩ := h
    rfl
  · obtain ⟨i, rfl, q⟩ := h
    refine ⟨_, rfl, _, _, _, _, true, rfl, .ty "int", .base (.int i), kit_ty (by decide +kernel), _, rfl, iteT ?_⟩
    exact ⟨_, rfl, _, _, _, _, false, rfl, .ty "bool", .base (.int i), kit_ty (by decide +kernel), _, rfl, q⟩
/-- a good list at a, a place in it -/
def spProblem (K : PySem.W.Frag) : Sp := fun vs H Q _ => ∃ (a : Addr) (ns : List Int) (p : Nat), vs = [.ref a, .int p] ∧ SqL K H a (ns.map V.int) ∧ Good ns ∧ p < ns.length ∧ Q .non H
theorem at_map {ns : List Int} {p : Nat} {x : Int} (h : ns[p]? = some x) : atI (ns.map V.int) (p : Int) = some (.int x) := atI_nat (by rw [List.getElem?_map, h]; rfl)
theorem sc_size_problem : FnScope ["values", "position", "size", "before"] ["values", "position"] (defScope (top 13)) := ⟨rfl, rfl, rfl, by decide +kernel, rfl, by decide +kernel, by decide +kernel⟩
theorem ok_size_problem (T : Tx K mg) (D_is_integer : Df P w K mg base 1 "is_integer" ["value"] spInt) (F : FnP K "size_problem" "size_problem" (top 13) f fd) :
    FnOk P w K mg base CX0 2 f fd ["values", "position"] (spProblem K) := by
  refine F.ok sc_size_problem (fun vs H Q E h => ?_) (fun cdv A outer s H vs Q E hr h => ⟨_, PSs.nox (pss_cons (ps_set (i := 2) sc_size_problem.nd rfl (by first | exact Or.inl rfl | exact Or.inr rfl) (pe_ix ix_list (pv 0) (pv 1) (fun _ _ => rfl))) (pss_cons (ps_if (PW.pt (pw_or (pt_not (pt_val (pcall D_is_integer hr (pa_cons (pv 2) pa_nil)))) (pw_or1 (pt_not (pt_chain op_le op_le pe_int (pv 2) (ClX.pe_cval (pe_glob (v := .ref _) rfl T.g_Sizes rfl))))))) (pss_one (ps_ret pe_str)) pss_nil) (pss_cons (ps_if (pt_cmpR op_eq (pv 1) pe_int (nomark _)) (pss_one (ps_ret (pe_ifExp (pt_cmpR op_eq (pv 2) pe_int (nomark _)) pe_non pe_str))) pss_nil) (pss_cons (ps_set (i := 3) sc_size_problem.nd rfl (by first | exact Or.inl rfl | exact Or.inr rfl) (pe_ix ix_list (pv 0) (pe_op op_sub (pv 1) pe_int) (fun _ _ => rfl))) (pss_cons (ps_if (PW.pt (pw_or (pt_cmpR op_le (pv 2) (pv 3) (nomark _)) (pw_or1 (pt_cmpR op_ne (pe_op op_mod (pv 2) (pv 3)) pe_int (nomark _))))) (pss_one (ps_ret pe_str)) pss_nil) (pss_one (ps_ret pe_non))))))), ?_⟩)
  · obtain ⟨a, ns, p, rfl, _⟩ := h
    rfl
  · obtain ⟨a, ns, p, rfl, hS, g, hp, q⟩ := h
    have hx : ns[p]? = some ns[p] := List.getElem?_eq_getElem hp
    obtain ⟨b1, b2⟩ := g.rng p _ hx
    obtain ⟨u, cS⟩ := T.cS
    refine ⟨_, rfl, _, rfl, a, _, _, _, rfl, rfl, hS, at_map hx, ?_⟩
    refine ⟨_, rfl, _, rfl, true, rfl, iteF ?_⟩
    refine ⟨_, rfl, _, _, rfl, rfl, true, bT b1, iteT ?_⟩
    refine ⟨_, _, _, _, rfl, T.rd, cS, _, _, rfl, rfl, true, bT b2, iteF ?_⟩
    by_cases h0 : p = 0
    · subst h0
      have e1 : ns[0] = 1 := Option.some.inj (hx.symm.trans g.one)
      exact ⟨_, rfl, rfl, _, rfl, ifT (vT rfl) ⟨_, rfl, rfl, _, rfl, ifT (vT e1) q⟩⟩
    · refine ⟨_, rfl, rfl, _, rfl, ifF (vF (by omega)) ?_⟩
      have hp1 : p - 1 < ns.length := by omega
      have hy : ns[p - 1]? = some ns[p - 1] := List.getElem?_eq_getElem hp1
      have hx2 : ns[p - 1 + 1]? = some ns[p] := by rw [show p - 1 + 1 = p by omega]; exact hx
      obtain ⟨u1, u2⟩ := g.up (p - 1) _ _ hy hx2
      have u3 := (g.rng _ _ hy).1
      refine ⟨_, rfl, _, rfl, _, _, rfl, rfl, a, _, _, _, rfl, rfl, hS, (by rw [show ((p : Int) - 1) = ((p - 1 : Nat) : Int) by omega]; exact at_map hy), ?_⟩
      refine ⟨_, rfl, _, rfl, _, _, rfl, rfl, false, bF (by omega), iteF ?_⟩
      refine ⟨_, rfl, _, rfl, _, _, rfl, rfl, (by show (0 : Int) < _; omega), rfl, false, ?_, iteF q⟩
      exact congrArg V.bl (by rw [vT u2]; rfl)
/-- a good list -/
def spCheck (K : PySem.W.Frag) : Sp := fun vs H Q _ => ∃ (a : Addr) (ns : List Int), vs = [.ref a] ∧ SqL K H a (ns.map V.int) ∧ TyX K H (.ref a) (.type "list") ∧ Good ns ∧ Q .non H
theorem sc_check_sizes : FnScope ["values", "position", "problem"] ["values"] (defScope (top 14)) := ⟨rfl, rfl, rfl, by decide +kernel, rfl, by decide +kernel, by decide +kernel⟩
theorem ok_check_sizes (T : Tx K mg) (D_size_problem : Df P w K mg base 2 "size_problem" ["values", "position"] (spProblem K)) (F : FnP K "check_sizes" "check_sizes" (top 14) f fd) :
    FnOk P w K mg base CX0 3 f fd ["values"] (spCheck K) := by
  refine F.ok sc_check_sizes (fun vs H Q E h => ?_) (fun cdv A outer s H vs Q E hr h => ⟨_, PSs.nox (pss_cons (ps_if (pt_not (pt_val (pe_callB call_isi (by rfl) T.n_isinstance (by decide +kernel) (pa_cons (pv 0) (pa_cons (pe_bltn (v := .ty "list") (by rfl) T.n_list (by decide +kernel) rfl) pa_nil))))) (pss_one ps_never) pss_nil) (pss_cons (ps_for PassesOwn.never rfl (pi_range1 rfl T.n_range (pa_cons (pe_callB call_len_seq (by rfl) T.n_len (by decide +kernel) (pa_cons (pv 0) pa_nil)) pa_nil)) (pg_name (i := 1) sc_check_sizes.nd rfl (by first | exact Or.inl rfl | exact Or.inr rfl)) (pss_cons (ps_set (i := 2) sc_check_sizes.nd rfl (by first | exact Or.inl rfl | exact Or.inr rfl) (pcall D_size_problem hr (pa_cons (pv 0) (pa_cons (pv 1) pa_nil)))) (pss_one (ps_if (pt_cmpR op_notN (pv 2) pe_non (nomark _)) (pss_one ps_never) pss_nil)))) (pss_one (ps_if (pt_not (pt_chain op_le op_le pe_int (pe_callB call_len_seq (by rfl) T.n_len (by decide +kernel) (pa_cons (pv 0) pa_nil)) (ClX.pe_cval (pe_glob (v := .ref _) rfl T.g_Sizes rfl)))) (pss_one ps_never) pss_nil)))), ?_⟩)
  · obtain ⟨a, ns, rfl, _⟩ := h
    rfl
  · obtain ⟨a, ns, rfl, hS, ty, g, q⟩ := h
    obtain ⟨u, cN⟩ := T.cN
    obtain ⟨l1, l2⟩ := g.len
    refine ⟨_, rfl, _, _, _, _, true, rfl, .ty "list", ty, kit_ty (by decide +kernel), true, rfl, iteF ?_⟩
    refine ⟨_, rfl, a, _, rfl, .inl hS, _, rfl, (by simp only [List.length_map]; omega), (by simp only [List.length_map]; omega), ?_⟩
    refine for_range (fun i σ H' => H' = H ∧ ∃ x y, σ = [some (.ref a), x, y]) ⟨rfl, none, none, rfl⟩ ?_ ?_
    · rintro i σ H' hi ⟨rfl, x, y, rfl⟩
      have hi2 : i < ns.length := by simpa using hi
      refine ⟨_, rfl, _, rfl, a, ns, i, (by rw [Int.zero_add]; rfl), hS, g, hi2, ?_⟩
      exact ⟨_, rfl, rfl, false, rfl, iteF ⟨rfl, _, _, rfl⟩⟩
    · rintro σ H' ⟨rfl, x, y, rfl⟩
      refine ⟨_, rfl, a, _, rfl, .inl hS, _, _, rfl, rfl, true, bT (by simp only [List.length_map]; omega), iteT ?_⟩
      exact ⟨_, _, _, _, rfl, T.rd, cN, _, _, rfl, rfl, true, bT (by simp only [List.length_map]; omega), iteF q⟩
end
end K21

set_option Elab.async false
set_option linter.all false
set_option maxRecDepth 100000
set_option maxHeartbeats 4000000
namespace K21
open PySem PySem.Spec PyProof.Rows L2 Gu Ex
def szF (l : Addr) : List (Str × V) := [("size_list", V.ref l)]
theorem szF_get (l : Addr) : (szF l).lookup ("size_list" : Str) = some (.ref l) := by simp [szF, List.lookup]
theorem szF_no (l : Addr) {m : Str} (h : (m == ("size_list" : Str)) = false) : (szF l).lookup m = none := by simp [szF, List.lookup, h]
/-- at p an object of Sizes with the list ns -/
def SzAt (C : Addr) (H : Hp) (p : Addr) (ns : List Int) : Prop := ∃ dx l, H p = some (.ins C dx (szF l)) ∧ H l = some (.lst (ns.map V.int))
theorem putF_new (l : Addr) : putF "size_list" (V.ref l) [] = szF l := rfl
section
variable {P : Program} {w : World} {K : PySem.W.Frag} {mg : Str → Option Value} {base : Heap} {f : Addr} {fd : FuncData}
def spMade (K : PySem.W.Frag) : Sp := fun vs H Q _ => ∃ (x dx a : Addr) (ns : List Int), vs = [.ref x, .ref a] ∧ H x = some (.ins (He.ga K "Sizes") dx []) ∧ SqL K H a (ns.map V.int) ∧ TyX K H (.ref a) (.type "list") ∧ Good ns ∧
  ∀ l, H l = none → Q .non (upd (upd H l (.lst (ns.map V.int))) x (.ins (He.ga K "Sizes") dx (szF l)))
theorem sc_Sizes_init : FnScope ["self", "values"] ["self", "values"] (defScope (inClass (top 15) 4)) := ⟨rfl, rfl, rfl, by decide +kernel, rfl, by decide +kernel, by decide +kernel⟩
theorem ok_init (T : Tx K mg) (D_check_sizes : Df P w K mg base 3 "check_sizes" ["values"] (spCheck K)) (F : FnP K "__init__" "Sizes.__init__" (inClass (top 15) 4) f fd) :
    FnOk P w K mg base CX0 4 f fd ["self", "values"] (spMade K) := by
  refine F.ok sc_Sizes_init (fun vs H Q E h => ?_) (fun cdv A outer s H vs Q E hr h => ⟨_, PSs.nox (pss_cons (ps_expr (pcall D_check_sizes hr (pa_cons (pv 1) pa_nil))) (pss_one (ps_fld (pv 0) (pe_callTy call_list_of (by rfl) T.n_list (by decide +kernel) (pa_cons (pv 1) pa_nil)) rfl))), ?_⟩)
  · obtain ⟨x, dx, a, ns, rfl, _⟩ := h
    rfl
  · obtain ⟨x, dx, a, ns, rfl, hx, hS, ty, g, q⟩ := h
    refine ⟨_, rfl, a, ns, rfl, hS, ty, g, ?_⟩
    refine ⟨_, rfl, a, _, rfl, .inl hS, fun l hl => ?_⟩
    refine ⟨_, rfl, x, He.ga K "Sizes", dx, [], rfl, (by rw [upd_ne (ne_of_none hx hl)]; exact hx), T.cl, T.nSL, (by show 0 < 1000; decide), ?_⟩
    exact q l hl
def spTop (K : PySem.W.Frag) : Sp := fun vs H Q _ => ∃ (p : Addr) (ns : List Int), vs = [.ref p] ∧ SzAt (He.ga K "Sizes") H p ns ∧ Q (.int ((ns.length : Int) - 1)) H
theorem sc_top : FnScope ["self"] ["self"] (defScope (inClass (top 15) 10)) := ⟨rfl, rfl, rfl, by decide +kernel, rfl, by decide +kernel, by decide +kernel⟩
theorem ok_top (T : Tx K mg) (F : FnP K "top" "Sizes.top" (inClass (top 15) 10) f fd) : FnOk P w K mg base CX0 1 f fd ["self"] (spTop K) := by
  refine F.ok sc_top (fun vs H Q E h => ?_) (fun cdv A outer s H vs Q E hr h => ⟨_, PSs.nox (pss_one (ps_ret (pe_op op_sub (pe_callB call_len_seq (by rfl) T.n_len (by decide +kernel) (pa_cons (pe_fld (pv 0) rfl) pa_nil)) pe_int))), ?_⟩)
  · obtain ⟨p, ns, rfl, _⟩ := h
    rfl
  · obtain ⟨p, ns, rfl, ⟨dx, l, h1, h2⟩, q⟩ := h
    refine ⟨_, rfl, p, _, dx, _, _, rfl, h1, T.cl, T.nSL, szF_get l, l, _, rfl, .inl (SqL.of h2), _, _, rfl, rfl, ?_⟩
    rw [List.length_map]
    exact q
def spHas (K : PySem.W.Frag) : Sp := fun vs H Q _ => ∃ (p : Addr) (ns : List Int) (i : Nat), vs = [.ref p, .int i] ∧ SzAt (He.ga K "Sizes") H p ns ∧ i < ns.length ∧ Q (.bl true) H
theorem sc_has_level : FnScope ["self", "level"] ["self", "level"] (defScope (inClass (top 15) 12)) := ⟨rfl, rfl, rfl, by decide +kernel, rfl, by decide +kernel, by decide +kernel⟩
theorem ok_has (T : Tx K mg) (D_is_integer : Df P w K mg base 1 "is_integer" ["value"] spInt) (P_top : Pf P w K mg base 1 "Sizes" "top" (spTop K)) (F : FnP K "has_level" "Sizes.has_level" (inClass (top 15) 12) f fd) :
    FnOk P w K mg base CX0 3 f fd ["self", "level"] (spHas K) := by
  refine F.ok sc_has_level (fun vs H Q E h => ?_) (fun cdv A outer s H vs Q E hr h => ⟨_, PSs.nox (pss_one (ps_ret (pe_and (pcall D_is_integer hr (pa_cons (pv 1) pa_nil)) (pe_one (pe_chain op_le op_le pe_int (pv 1) (pprop P_top hr (pv 0))))))), ?_⟩)
  · obtain ⟨p, ns, i, rfl, _⟩ := h
    rfl
  · obtain ⟨p, ns, i, rfl, hz, hi, q⟩ := h
    obtain ⟨dx, l, h1, h2⟩ := id hz
    refine ⟨_, rfl, _, rfl, true, rfl, iteT ?_⟩
    refine ⟨_, rfl, _, _, rfl, rfl, true, bT (by omega), iteT ?_⟩
    refine ⟨_, rfl, p, dx, _, rfl, h1, p, ns, rfl, hz, _, _, rfl, rfl, ?_⟩
    have e : decide ((i : Int) ≤ (ns.length : Int) - 1) = true := decide_eq_true (by omega)
    show Q (.bl (decide ((i : Int) ≤ (ns.length : Int) - 1))) H
    rw [e]
    exact q
def spCheckL (K : PySem.W.Frag) : Sp := fun vs H Q _ => ∃ (p : Addr) (ns : List Int) (i : Nat), vs = [.ref p, .int i] ∧ SzAt (He.ga K "Sizes") H p ns ∧ i < ns.length ∧ Q .non H
theorem sc_check_level : FnScope ["self", "level"] ["self", "level"] (defScope (inClass (top 15) 13)) := ⟨rfl, rfl, rfl, by decide +kernel, rfl, by decide +kernel, by decide +kernel⟩
theorem ok_check_level (T : Tx K mg) (M_has_level : Mf P w K mg base 3 "Sizes" "has_level" ["self", "level"] (spHas K)) (F : FnP K "check_level" "Sizes.check_level" (inClass (top 15) 13) f fd) :
    FnOk P w K mg base CX0 4 f fd ["self", "level"] (spCheckL K) := by
  refine F.ok sc_check_level (fun vs H Q E h => ?_) (fun cdv A outer s H vs Q E hr h => ⟨_, PSs.nox (pss_one (ps_if (pt_not (pt_val (pmeth M_has_level hr (pv 0) (pa_cons (pv 1) pa_nil)))) (pss_one ps_never) pss_nil)), ?_⟩)
  · obtain ⟨p, ns, i, rfl, _⟩ := h
    rfl
  · obtain ⟨p, ns, i, rfl, hz, hi, q⟩ := h
    obtain ⟨dx, l, h1, h2⟩ := id hz
    exact ⟨_, rfl, p, dx, _, rfl, h1, szF_no l (by decide +kernel), _, rfl, p, ns, i, rfl, hz, hi, true, rfl, iteF q⟩
def spSize (K : PySem.W.Frag) : Sp := fun vs H Q _ => ∃ (p : Addr) (ns : List Int) (i : Nat) (x : Int), vs = [.ref p, .int i] ∧ SzAt (He.ga K "Sizes") H p ns ∧ ns[i]? = some x ∧ Q (.int x) H
theorem sc_size : FnScope ["self", "level"] ["self", "level"] (defScope (inClass (top 15) 14)) := ⟨rfl, rfl, rfl, by decide +kernel, rfl, by decide +kernel, by decide +kernel⟩
theorem ok_size (T : Tx K mg) (M_check_level : Mf P w K mg base 4 "Sizes" "check_level" ["self", "level"] (spCheckL K)) (F : FnP K "size" "Sizes.size" (inClass (top 15) 14) f fd) :
    FnOk P w K mg base CX0 5 f fd ["self", "level"] (spSize K) := by
  refine F.ok sc_size (fun vs H Q E h => ?_) (fun cdv A outer s H vs Q E hr h => ⟨_, PSs.nox (pss_cons (ps_expr (pmeth M_check_level hr (pv 0) (pa_cons (pv 1) pa_nil))) (pss_one (ps_ret (pe_ix ix_list (pe_fld (pv 0) rfl) (pv 1) (fun _ _ => rfl))))), ?_⟩)
  · obtain ⟨p, ns, i, x, rfl, _⟩ := h
    rfl
  · obtain ⟨p, ns, i, x, rfl, hz, hx, q⟩ := h
    obtain ⟨dx, l, h1, h2⟩ := id hz
    refine ⟨_, rfl, p, dx, _, rfl, h1, szF_no l (by decide +kernel), _, rfl, p, ns, i, rfl, hz, (List.getElem?_eq_some_iff.mp hx).1, ?_⟩
    exact ⟨_, rfl, p, _, dx, _, _, rfl, h1, T.cl, T.nSL, szF_get l, _, rfl, l, _, _, _, rfl, rfl, SqL.of h2, at_map hx, q⟩
def spAddr : Sp := fun vs H Q _ => ∃ i : Int, vs = [.int i] ∧ 0 ≤ i ∧ Q (.bl true) H
theorem sc_is_address : FnScope ["value"] ["value"] (defScope (top 17)) := ⟨rfl, rfl, rfl, by decide +kernel, rfl, by decide +kernel, by decide +kernel⟩
theorem ok_is_address (T : Tx K mg) (D_is_integer : Df P w K mg base 1 "is_integer" ["value"] spInt) (F : FnP K "is_address" "is_address" (top 17) f fd) : FnOk P w K mg base CX0 2 f fd ["value"] spAddr := by
  refine F.ok sc_is_address (fun vs H Q E h => ?_) (fun cdv A outer s H vs Q E hr h => ⟨_, PSs.nox (pss_one (ps_ret (pe_and (pcall D_is_integer hr (pa_cons (pv 0) pa_nil)) (pe_one (pe_cmpR op_ge (pv 0) pe_int (nomark _)))))), ?_⟩)
  · obtain ⟨i, rfl, _⟩ := h
    rfl
  · obtain ⟨i, rfl, hi, q⟩ := h
    refine ⟨_, rfl, _, rfl, true, rfl, iteT ⟨_, rfl, _, _, rfl, rfl, ?_⟩⟩
    have e : decide ((0 : Int) ≤ i) = true := decide_eq_true hi
    show Q (.bl (decide ((0 : Int) ≤ i))) H
    rw [e]
    exact q
def spRange : Sp := fun vs H Q _ => ∃ a b : Int, vs = [.int a, .int b] ∧ 0 ≤ a ∧ a ≤ b ∧ Q .non H
/-- the least multiple of s from a on -/
def nextI (s a : Int) : Int := -(-a / s) * s
def spNext : Sp := fun vs H Q _ => ∃ s a : Int, vs = [.int s, .int a] ∧ 1 ≤ s ∧ s ≤ 1000000000 ∧ Q (.int (nextI s a)) H
theorem div_ok {i s : Int} (h1 : 1 ≤ s) (h2 : s ≤ 1000000000) : CDivW i s := wide_div (b := 64) (by omega) (by omega) (by decide) (by decide)
def spStart (K : PySem.W.Frag) : Sp := fun vs H Q _ => ∃ (p : Addr) (ns : List Int) (i : Nat) (x a : Int), vs = [.ref p, .int i, .int a] ∧ SzAt (He.ga K "Sizes") H p ns ∧ ns[i]? = some x ∧ 1 ≤ x ∧ 0 ≤ a ∧ Q (.int (a - a % x)) H
/-- what count_regions reckons -/
def cntI (s lo hi : Int) : Int := if ((hi - hi % s) - nextI s lo) / s > 0 then ((hi - hi % s) - nextI s lo) / s else 0
def spCount (K : PySem.W.Frag) : Sp := fun vs H Q _ => ∃ (p : Addr) (ns : List Int) (i : Nat) (x a b : Int), vs = [.ref p, .int i, .int a, .int b] ∧ SzAt (He.ga K "Sizes") H p ns ∧ ns[i]? = some x ∧ 1 ≤ x ∧ x ≤ 1000000000 ∧ 0 ≤ a ∧ a ≤ b ∧ Q (.int (cntI x a b)) H
end
end K21

set_option linter.all false
/-! The mathematics of counted regions. -/
namespace M15
theorem div_is {x s q r : Int} (h : x = s * q + r) (h0 : 0 ≤ r) (h1 : r < s) : x / s = q := by
  have e : r + s * q = x := by rw [h, Int.add_comm]
  exact ((Int.ediv_emod_unique (by omega)).mpr ⟨e, h0, h1⟩).1
/-- the number of multiples below x, rounded up -/
def C (s x : Int) : Int := (x + s - 1) / s
theorem parts (s x : Int) (h : 1 ≤ s) : x = s * (x / s) + x % s ∧ 0 ≤ x % s ∧ x % s < s :=
  ⟨(Int.mul_ediv_add_emod x s).symm, Int.emod_nonneg _ (by omega), Int.emod_lt_of_pos _ (by omega)⟩
theorem C_of {s x q r : Int} (hs : 1 ≤ s) (h : x = s * q + r) (h0 : 0 ≤ r) (h1 : r < s) : C s x = if r = 0 then q else q + 1 := by
  unfold C
  by_cases z : r = 0
  · rw [if_pos z]
    exact div_is (r := s - 1) (by omega) (by omega) (by omega)
  · rw [if_neg z]
    refine div_is (r := r - 1) ?_ (by omega) (by omega)
    have e : s * (q + 1) = s * q + s := by rw [Int.mul_add, Int.mul_one]
    omega
theorem C_step {s x : Int} (hs : 1 ≤ s) : C s (x + 1) = C s x + (if x % s = 0 then 1 else 0) := by
  obtain ⟨e, h0, h1⟩ := parts s x hs
  have a : C s (x + 1) = x / s + 1 := by
    unfold C
    have e2 : s * (x / s + 1) = s * (x / s) + s := by rw [Int.mul_add, Int.mul_one]
    exact div_is (r := x % s) (by omega) h0 h1
  rw [a, C_of hs e h0 h1]
  by_cases z : x % s = 0
  · rw [if_pos z, if_pos z]
  · rw [if_neg z, if_neg z]
    omega
theorem C_mono {s : Int} (hs : 1 ≤ s) (x : Int) (n : Nat) : C s x ≤ C s (x + n) := by
  induction n with
  | zero => simp
  | succ n ih =>
    have e := C_step (s := s) (x := x + n) hs
    rw [show x + ((n + 1 : Nat) : Int) = x + n + 1 by omega, e]
    split <;> omega
theorem C_le {s : Int} (hs : 1 ≤ s) {x y : Int} (h : x ≤ y) : C s x ≤ C s y := by
  have e := C_mono hs x (y - x).toNat
  rw [show x + (((y - x).toNat : Nat) : Int) = y by omega] at e
  exact e
/-- how many of the first n addresses from b on begin a region that ends by e -/
def cnt (s b e : Int) : Nat → Nat
  | 0 => 0
  | n + 1 => cnt s b e n + if (b + n) % s = 0 ∧ b + n + s ≤ e then 1 else 0
theorem cnt_is {s b e : Int} (hs : 1 ≤ s) : ∀ n : Nat, ((cnt s b e n : Nat) : Int) = if C s (min (b + n) (e - s + 1)) > C s b then C s (min (b + n) (e - s + 1)) - C s b else 0
  | 0 => by
    have h : C s (min (b + (0 : Nat)) (e - s + 1)) ≤ C s b := C_le hs (by omega)
    rw [if_neg (by omega)]
    rfl
  | n + 1 => by
    have ih := cnt_is (s := s) (b := b) (e := e) hs n
    show (((cnt s b e n + if (b + n) % s = 0 ∧ b + n + s ≤ e then 1 else 0 : Nat)) : Int) = _
    by_cases hb : b + n + s ≤ e
    · rw [show min (b + ((n + 1 : Nat) : Int)) (e - s + 1) = b + n + 1 by omega, C_step hs]
      rw [show min (b + (n : Int)) (e - s + 1) = b + n by omega] at ih
      have m := C_mono hs b n
      by_cases z : (b + n) % s = 0
      · rw [if_pos ⟨z, hb⟩, if_pos z]
        split at ih <;> split <;> omega
      · rw [if_neg (fun q => z q.1), if_neg z]
        split at ih <;> split <;> omega
    · rw [if_neg (fun q => hb q.2)]
      rw [show min (b + ((n + 1 : Nat) : Int)) (e - s + 1) = e - s + 1 by omega]
      rw [show min (b + (n : Int)) (e - s + 1) = e - s + 1 by omega] at ih
      omega
/-- the greatest of 0 and the difference -/
def cntM (s b e : Int) : Int := if e / s - C s b > 0 then e / s - C s b else 0
theorem C_end {s e : Int} : C s (e - s + 1) = e / s := by
  unfold C
  rw [show e - s + 1 + s - 1 = e by omega]
theorem cnt_all {s b e : Int} (hs : 1 ≤ s) (hb : b ≤ e) : ((cnt s b e (e - b).toNat : Nat) : Int) = cntM s b e := by
  rw [cnt_is hs, show min (b + (((e - b).toNat : Nat) : Int)) (e - s + 1) = e - s + 1 by omega, C_end]
  unfold cntM
  split <;> split <;> omega
theorem up_is {s a : Int} (hs : 1 ≤ s) : -(-a / s) = C s a := by
  obtain ⟨e, h0, h1⟩ := parts s a hs
  rw [C_of hs e h0 h1]
  by_cases z : a % s = 0
  · rw [if_pos z]
    have : -a / s = -(a / s) := div_is (r := 0) (by rw [Int.mul_neg]; omega) (by omega) (by omega)
    omega
  · rw [if_neg z]
    have e2 : s * (-(a / s) - 1) = -(s * (a / s)) - s := by rw [Int.mul_sub, Int.mul_neg, Int.mul_one]
    have : -a / s = -(a / s) - 1 := div_is (r := s - a % s) (by omega) (by omega) (by omega)
    omega
theorem quot_is {s a e : Int} (hs : 1 ≤ s) : ((e - e % s) - -(-a / s) * s) / s = e / s - C s a := by
  obtain ⟨h, h0, h1⟩ := parts s e hs
  rw [up_is hs]
  refine div_is (r := 0) ?_ (by omega) (by omega)
  have x1 : C s a * s = s * C s a := Int.mul_comm _ _
  have x2 : s * (e / s - C s a) = s * (e / s) - s * C s a := Int.mul_sub _ _ _
  omega
/-- a region across the cut -/
theorem across {s b c e : Int} (hs : 1 ≤ s) (h1 : b ≤ c) (h2 : c ≤ e) :
    cntM s b c + cntM s c e + (if b ≤ c - c % s ∧ c - c % s < c ∧ c - c % s + s ≤ e ∧ c % s ≠ 0 then 1 else 0) = cntM s b e := by
  obtain ⟨ec, c0, c1⟩ := parts s c hs
  obtain ⟨ee, e0, e1⟩ := parts s e hs
  obtain ⟨eb, b0, b1⟩ := parts s b hs
  have hCc := C_of hs ec c0 c1
  have hCb := C_of hs eb b0 b1
  have m1 : C s b ≤ C s c := C_le hs h1
  have m2 : c / s ≤ e / s := Int.ediv_le_ediv (by omega) h2
  have m3 : b / s ≤ c / s := Int.ediv_le_ediv (by omega) h1
  unfold cntM
  -- quotients: qb qc qe
  generalize hqb : b / s = qb at *
  generalize hqc : c / s = qc at *
  generalize hqe : e / s = qe at *
  have k1 : b ≤ c - c % s ↔ C s b ≤ qc := by
    have t : c - c % s = s * qc := by omega
    rw [t, hCb]
    constructor
    · intro h
      by_cases z : b % s = 0
      · rw [if_pos z]
        exact m3
      · rw [if_neg z]
        refine Int.not_lt.mp fun hn => ?_
        have : qc = qb := by omega
        rw [this] at h
        omega
    · intro h
      by_cases z : b % s = 0
      · rw [if_pos z] at h
        have := Int.mul_le_mul_of_nonneg_left h (show (0 : Int) ≤ s by omega)
        omega
      · rw [if_neg z] at h
        have := Int.mul_le_mul_of_nonneg_left h (show (0 : Int) ≤ s by omega)
        rw [Int.mul_add, Int.mul_one] at this
        omega
  have k2 : c - c % s + s ≤ e ↔ qc + 1 ≤ qe := by
    have t : c - c % s + s = s * (qc + 1) := by rw [Int.mul_add, Int.mul_one]; omega
    rw [t]
    constructor
    · intro h
      refine Int.not_lt.mp fun hn => ?_
      have := Int.mul_le_mul_of_nonneg_left (show qe ≤ qc by omega) (show (0 : Int) ≤ s by omega)
      have : s * (qc + 1) = s * qc + s := by rw [Int.mul_add, Int.mul_one]
      omega
    · intro h
      have := Int.mul_le_mul_of_nonneg_left h (show (0 : Int) ≤ s by omega)
      omega
  have hI : (if b ≤ c - c % s ∧ c - c % s < c ∧ c - c % s + s ≤ e ∧ c % s ≠ 0 then (1 : Int) else 0) = if c % s ≠ 0 ∧ C s b ≤ qc ∧ qc + 1 ≤ qe then 1 else 0 := by
    by_cases y : c % s ≠ 0 ∧ C s b ≤ qc ∧ qc + 1 ≤ qe
    · rw [if_pos y, if_pos ⟨k1.mpr y.2.1, by omega, k2.mpr y.2.2, y.1⟩]
    · rw [if_neg y, if_neg fun q => y ⟨q.2.2.2, k1.mp q.1, k2.mp q.2.2.1⟩]
  rw [hI]
  have hc3 : C s c = qc ∧ c % s = 0 ∨ C s c = qc + 1 ∧ c % s ≠ 0 := by
    by_cases z : c % s = 0
    · rw [if_pos z] at hCc
      exact .inl ⟨hCc, z⟩
    · rw [if_neg z] at hCc
      exact .inr ⟨hCc, z⟩
  clear hCc hCb k1 k2 hI
  generalize C s b = cb at *
  generalize C s c = cc at *
  rcases hc3 with ⟨rfl, z⟩ | ⟨rfl, z⟩
  · rw [if_neg (c := c % s ≠ 0 ∧ cb ≤ cc ∧ cc + 1 ≤ qe) fun q => q.1 z]
    split <;> split <;> split <;> omega
  · by_cases y : cb ≤ qc ∧ qc + 1 ≤ qe
    · rw [if_pos (c := c % s ≠ 0 ∧ cb ≤ qc ∧ qc + 1 ≤ qe) ⟨z, y.1, y.2⟩]
      split <;> split <;> split <;> omega
    · rw [if_neg (c := c % s ≠ 0 ∧ cb ≤ qc ∧ qc + 1 ≤ qe) fun q => y q.2]
      split <;> split <;> split <;> omega
end M15

set_option Elab.async false
set_option linter.all false
set_option maxRecDepth 100000
set_option maxHeartbeats 4000000
namespace K21
open PySem PySem.Spec PyProof.Rows L2 Gu Ex
/-- the drawing list at r -/
def Rng (H : Hp) (r : Addr) : Prop := ∃ a b : Int, H r = some (.lst [.int a, .int b]) ∧ 0 ≤ a ∧ 0 ≤ b ∧ b < 2147483587
/-- only the drawing list at r may have changed -/
def Stp (r : Addr) (H H' : Hp) : Prop := Rng H' r ∧ ∀ b o, b ≠ r → H b = some o → H' b = some o
theorem Stp.trans {r : Addr} {H H1 H2 : Hp} (a : Stp r H H1) (b : Stp r H1 H2) : Stp r H H2 := ⟨b.1, fun c o n e => b.2 c o n (a.2 c o n e)⟩
theorem Stp.refl {r : Addr} {H : Hp} (h : Rng H r) : Stp r H H := ⟨h, fun _ _ _ e => e⟩
/-- the ways of a choice come together: what holds of every value -/
theorem join {α : Type} {G : Prop} (Pc : α → Prop) {R : α → Prop} (h1 : (∀ c, Pc c → R c) → G) (h2 : ∀ c, Pc c → R c) : G := h1 h2
theorem Rng.ne {H : Hp} {r p : Addr} (h : Rng H r) (hp : H p = none) : r ≠ p := fun z => by
  obtain ⟨_, _, e, _⟩ := h
  rw [z, hp] at e
  cases e
theorem Stp.new {r p : Addr} {H H1 : Hp} {o : HO} (a : Stp r H H1) (hp : H1 p = none) : Stp r H (upd H1 p o) := by
  obtain ⟨⟨x, y, e, z⟩, k⟩ := a
  refine ⟨⟨x, y, ?_, z⟩, fun b u n e2 => ?_⟩
  · rw [upd_ne (ne_of_none e hp)]
    exact e
  · rw [upd_ne (ne_of_none (k b u n e2) hp)]
    exact k b u n e2
theorem Stp.free {r p : Addr} {H H1 : Hp} (a : Stp r H H1) (h : H1 p = none) : H p = none := by
  cases e : H p with
  | none => rfl
  | some o =>
    have n : p ≠ r := fun z => (a.1.ne h) z.symm
    rw [a.2 p o n e] at h
    cases h
section
variable {P : Program} {w : World} {K : PySem.W.Frag} {mg : Str → Option Value} {base : Heap} {f : Addr} {fd : FuncData}
def spRng (K : PySem.W.Frag) : Sp := fun vs H Q _ => ∃ (a : Addr) (ns : List Int) (k : Nat), vs = [.ref a, .int k] ∧ SqL K H a (ns.map V.int) ∧ k ≤ 63 ∧ ∀ p H', H p = none → Same H H' → Rng H' p → Q (.ref p) H'
theorem sc__law_rng : FnScope ["_law_script", "_law_k", "_law_cell"] ["_law_script", "_law_k"] (defScope (top 23)) := ⟨rfl, rfl, rfl, by decide +kernel, rfl, by decide +kernel, by decide +kernel⟩
theorem ok_rng (T : Tx K mg) (F : FnP K "_law_rng" "_law_rng" (top 23) f fd) : FnOk P w K mg base CX0 1 f fd ["_law_script", "_law_k"] (spRng K) := by
  refine F.ok sc__law_rng (fun vs H Q E h => ?_) (fun cdv A outer s H vs Q E hr h => ⟨_, PSs.nox (pss_cons (ps_set (i := 2) sc__law_rng.nd rfl (by first | exact Or.inl rfl | exact Or.inr rfl) (pe_ifExp (pt_cmpR op_lt (pv 1) (pe_callB call_len_seq (by rfl) T.n_len (by decide +kernel) (pa_cons (pv 0) pa_nil)) (nomark _)) (pe_callB call_abs (by rfl) T.n_abs (by decide +kernel) (pa_cons (pe_ix ix_list (pv 0) (pv 1) (fun _ _ => rfl)) pa_nil)) pe_int)) (pss_one (ps_ret (pe_lst (pa_cons (pe_callB (call_max2 rfl) (by rfl) T.n_max (by decide +kernel) (pa_cons pe_int (pa_cons (pe_op op_sub (pv 2) (pe_op op_pow pe_int pe_int)) pa_nil))) (pa_cons (pe_op op_add (pe_op op_mod (pe_op op_pow (pe_op op_add (pe_op op_add (pe_op op_mod (pv 2) pe_int) (pe_op op_mul pe_int (pv 1))) pe_int) pe_int) pe_int) pe_int) pa_nil)))))), ?_⟩)
  · obtain ⟨a, ns, k, rfl, _⟩ := h
    rfl
  · obtain ⟨a, ns, k, rfl, hS, hk, q⟩ := h
    refine join (fun c : Int => 0 ≤ c) (R := ?R) (fun tail => ?main) ?tl
    case main =>
      refine ⟨_, rfl, _, rfl, a, _, rfl, .inl hS, _, _, rfl, rfl, _, rfl, ?_⟩
      by_cases hl : (k : Int) < (((ns.map V.int).length : Nat) : Int)
      · have hk2 : k < ns.length := by rw [List.length_map] at hl; omega
        refine ifT (decide_eq_true hl) ?_
        refine ⟨_, rfl, _, rfl, a, _, _, _, rfl, rfl, hS, at_map (List.getElem?_eq_getElem hk2), _, rfl, ?_⟩
        obtain ⟨c, hc, ec⟩ : ∃ c : Int, 0 ≤ c ∧ (if ns[k] < 0 then -ns[k] else ns[k]) = c := ⟨if ns[k] < 0 then -ns[k] else ns[k], by split <;> omega, rfl⟩
        rw [ec]
        exact tail c hc
      · refine ifF (decide_eq_false hl) ?_
        exact tail 0 (by decide)
    case tl =>
      intro c hc
      have c0 := Int.emod_nonneg c (show (2147483543 : Int) ≠ 0 by decide)
      have c1 := Int.emod_lt_of_pos c (show (0 : Int) < 2147483543 by decide)
      refine ⟨_, rfl, _, _, rfl, rfl, ⟨by decide, by decide, by decide⟩, _, _, rfl, rfl, _, _, rfl, ?_⟩
      refine ⟨_, rfl, _, _, rfl, rfl, (by show (0 : Int) < 2147483543; decide), _, rfl, _, _, rfl, rfl, .inl ⟨by decide, by decide⟩, _, _, rfl, rfl, _, _, rfl, rfl, _, _, rfl, rfl, ⟨by decide, by decide, by omega⟩, _, _, rfl, rfl, (by show (0 : Int) < 2147483497; decide), _, _, rfl, rfl, ?_⟩
      refine ⟨(by show 2 ≤ sizeLine; decide), fun p hp => q p _ hp (fun b o e => by rw [upd_ne (ne_of_none e hp)]; exact e) ⟨_, _, upd_same, ?_, ?_, ?_⟩⟩
      · split <;> omega
      · have := Int.emod_nonneg ((c % 2147483543 + 101 * (k : Int) + 7) ^ (2 : Int).toNat) (show (2147483497 : Int) ≠ 0 by decide)
        omega
      · have := Int.emod_lt_of_pos ((c % 2147483543 + 101 * (k : Int) + 7) ^ (2 : Int).toNat) (show (0 : Int) < 2147483497 by decide)
        omega
def spDraw : Sp := fun vs H Q _ => ∃ (r : Addr) (m : Int), vs = [.ref r, .int m] ∧ Rng H r ∧ 1 ≤ m ∧ m ≤ 10 ^ 40 ∧ ∀ d H', 0 ≤ d → d < m → Stp r H H' → Q (.int d) H'
theorem sc__law_draw : FnScope ["_law_rng_here", "_law_many", "_law_mixed", "_law_digit"] ["_law_rng_here", "_law_many"] (defScope (top 24)) := ⟨rfl, rfl, rfl, by decide +kernel, rfl, by decide +kernel, by decide +kernel⟩
theorem ok_draw (T : Tx K mg) (F : FnP K "_law_draw" "_law_draw" (top 24) f fd) : FnOk P w K mg base CX0 1 f fd ["_law_rng_here", "_law_many"] spDraw := by
  refine F.ok sc__law_draw (fun vs H Q E h => ?_) (fun cdv A outer s H vs Q E hr h => ⟨_, PSs.nox (pss_cons (ps_if (pt_cmpR op_gt (pe_ix ix_list (pv 0) pe_int (fun _ _ => rfl)) pe_int (nomark _)) (pss_cons (ps_asg (pe_callB call_divmodW (by rfl) T.n_divmod (by decide +kernel) (pa_cons (pe_ix ix_list (pv 0) pe_int (fun _ _ => rfl)) (pa_cons (pv 1) pa_nil))) (pg_tup (by rfl) (pgs_cons (pg_sub (pv 0) pe_int set_list) (pgs_cons (pg_name (i := 3) sc__law_draw.nd rfl (by first | exact Or.inl rfl | exact Or.inr rfl)) pgs_nil)))) (pss_one (ps_ret (pv 3)))) pss_nil) (pss_cons (ps_asg (pe_op op_mod (pe_op op_add (pe_op op_mul (pe_ix ix_list (pv 0) pe_int (fun _ _ => rfl)) pe_int) pe_int) pe_int) (pg_sub (pv 0) pe_int set_list)) (pss_cons (ps_set (i := 2) sc__law_draw.nd rfl (by first | exact Or.inl rfl | exact Or.inr rfl) (pe_op op_fdivW (pe_op op_mod (pe_op op_mul (pe_ix ix_list (pv 0) pe_int (fun _ _ => rfl)) (pe_ix ix_list (pv 0) pe_int (fun _ _ => rfl))) pe_int) pe_int)) (pss_one (ps_ret (pe_ifExp (pt_cmpR op_lt (pv 1) (pe_op op_pow pe_int pe_int) (nomark _)) (pe_op op_mod (pv 2) (pv 1)) (pe_op op_mod (pe_op op_mul (pe_op op_add (pe_op op_mul (pv 2) pe_int) (pe_ix ix_list (pv 0) pe_int (fun _ _ => rfl))) pe_int) (pv 1)))))))), ?_⟩)
  · obtain ⟨r, m, rfl, _⟩ := h
    rfl
  · obtain ⟨r, m, rfl, ⟨a, b, hR, ha, hb, hb2⟩, m1, m2, q⟩ := h
    have mb : m.natAbs < 2 ^ 200 := by
      have : (10 : Int) ^ 40 < 2 ^ 200 := by decide
      have e : ((2 : Nat) ^ 200 : Nat) = ((2 : Int) ^ 200).natAbs := by decide
      omega
    refine ⟨_, rfl, r, _, _, _, rfl, rfl, SqL.of hR, rfl, _, _, rfl, rfl, _, rfl, ?_⟩
    by_cases h0 : 0 < a
    · refine ifT (decide_eq_true h0) ?_
      refine ⟨_, rfl, r, _, _, _, rfl, rfl, SqL.of hR, rfl, _, rfl, _, _, rfl, ⟨by omega, PyProof.noPylong_of_log2 (Nat.lt_of_lt_of_le (PySem.Flt.log2_lt_of (by decide) mb) (by decide))⟩, fun p hp => ?_⟩
      have nrp : r ≠ p := ne_of_none hR hp
      have hR2 : (upd H p (.tup [.int (a / m), .int (a % m)])) r = some (.lst [.int a, .int b]) := by rw [upd_ne nrp]; exact hR
      refine ⟨p, _, rfl, .inl (.inl upd_same), rfl, _, _, rfl, _, rfl, r, _, _, 0, rfl, rfl, hR2, rfl, _, _, rfl, rfl, ?_⟩
      refine ⟨_, rfl, q _ _ (Int.emod_nonneg _ (by omega)) (Int.emod_lt_of_pos _ (by omega)) ⟨⟨a / m, b, upd_same, Int.ediv_nonneg (by omega) (by omega), hb, hb2⟩, fun c o n e => ?_⟩⟩
      rw [upd_ne n, upd_ne (ne_of_none e hp)]
      exact e
    · refine ifF (decide_eq_false h0) ?_
      have b0 := Int.emod_nonneg (b * 48271 + 10007) (show (2147483587 : Int) ≠ 0 by decide)
      have b1 := Int.emod_lt_of_pos (b * 48271 + 10007) (show (0 : Int) < 2147483587 by decide)
      refine ⟨_, rfl, r, _, _, _, rfl, rfl, SqL.of hR, rfl, _, _, rfl, rfl, .inr ⟨by decide, by decide⟩, _, _, rfl, rfl, _, _, rfl, rfl, (by show (0 : Int) < 2147483587; decide), _, rfl, r, _, _, 1, rfl, rfl, hR, rfl, ?_⟩
      dsimp only
      generalize hB : (b * 48271 + 10007) % 2147483587 = B at *
      have hR2 : (upd H r (.lst [.int a, .int B])) r = some (.lst [.int a, .int B]) := upd_same
      have st : Stp r H (upd H r (.lst [.int a, .int B])) := ⟨⟨a, B, upd_same, ha, b0, b1⟩, fun c o n e => by rw [upd_ne n]; exact e⟩
      refine ⟨_, rfl, r, _, _, _, rfl, rfl, SqL.of hR2, rfl, _, rfl, r, _, _, _, rfl, rfl, SqL.of hR2, rfl, _, _, rfl, rfl, .inl ⟨by omega, by omega⟩, _, _, rfl, rfl, (by show (0 : Int) < 2147483549; decide), _, _, rfl, rfl, wide_div (b := 64) (by decide) (by decide) (by decide) (by decide), ?_⟩
      refine ⟨_, rfl, _, _, rfl, rfl, ⟨by decide, by decide, by decide⟩, _, _, rfl, rfl, _, rfl, ite2 (fun _ => ?_) (fun _ => ?_)⟩
      · exact ⟨_, rfl, _, rfl, _, _, rfl, rfl, (by show (0 : Int) < m; omega), q _ _ (Int.emod_nonneg _ (by omega)) (Int.emod_lt_of_pos _ (by omega)) st⟩
      · refine ⟨_, rfl, _, _, rfl, rfl, .inr ⟨by decide, by decide⟩, _, rfl, r, _, _, _, rfl, rfl, SqL.of hR2, rfl, _, _, rfl, rfl, _, _, rfl, rfl, .inr ⟨by decide, by decide⟩, _, rfl, _, _, rfl, rfl, (by show (0 : Int) < m; omega), ?_⟩
        exact q _ _ (Int.emod_nonneg _ (by omega)) (Int.emod_lt_of_pos _ (by omega)) st
end
end K21

set_option Elab.async false
set_option linter.all false
set_option maxRecDepth 100000
set_option maxHeartbeats 4000000
namespace K21
open PySem PySem.Spec PyProof.Rows L2 Gu Ex
section
variable {P : Program} {w : World} {K : PySem.W.Frag} {mg : Str → Option Value} {base : Heap} {f : Addr} {fd : FuncData}
theorem at_of {xs : List V} {d : Int} (h0 : 0 ≤ d) (h1 : d < xs.length) : ∃ v, atI xs d = some v ∧ v ∈ xs := by
  obtain ⟨n, rfl⟩ := Int.eq_ofNat_of_zero_le h0
  have hn : n < xs.length := by omega
  exact ⟨xs[n], atI_nat (List.getElem?_eq_getElem hn), List.getElem_mem hn⟩
def spChoice : Sp := fun vs H Q _ => ∃ (r o : Addr) (xs : List V), vs = [.ref r, .ref o] ∧ Rng H r ∧ H o = some (.lst xs) ∧ o ≠ r ∧ 1 ≤ xs.length ∧ xs.length ≤ 1000 ∧ ∀ v H', v ∈ xs → Stp r H H' → Q v H'
theorem sc__law_choice : FnScope ["_law_rng_here", "_law_options"] ["_law_rng_here", "_law_options"] (defScope (top 25)) := ⟨rfl, rfl, rfl, by decide +kernel, rfl, by decide +kernel, by decide +kernel⟩
theorem ok_choice (T : Tx K mg) (D__law_draw : Df P w K mg base 1 "_law_draw" ["_law_rng_here", "_law_many"] spDraw) (F : FnP K "_law_choice" "_law_choice" (top 25) f fd) : FnOk P w K mg base CX0 2 f fd ["_law_rng_here", "_law_options"] spChoice := by
  refine F.ok sc__law_choice (fun vs H Q E h => ?_) (fun cdv A outer s H vs Q E hr h => ⟨_, PSs.nox (pss_one (ps_ret (pe_ix ix_list (pv 1) (pcall D__law_draw hr (pa_cons (pv 0) (pa_cons (pe_callB call_len_seq (by rfl) T.n_len (by decide +kernel) (pa_cons (pv 1) pa_nil)) pa_nil))) (fun _ _ => rfl)))), ?_⟩)
  · obtain ⟨r, o, xs, rfl, _⟩ := h
    rfl
  · obtain ⟨r, o, xs, rfl, hR, hO, ne, l1, l2, q⟩ := h
    refine ⟨_, rfl, _, rfl, _, rfl, o, _, rfl, .inl (SqL.of hO), r, _, rfl, hR, by omega, ?_, fun d H1 d0 d1 st => ?_⟩
    · have : (1000 : Int) ≤ 10 ^ 40 := by decide
      omega
    · obtain ⟨v, hv, hm⟩ := at_of d0 d1
      exact ⟨o, _, _, v, rfl, rfl, SqL.of (st.2 o _ ne hO), hv, q v H1 hm st⟩
theorem good_one : Good [1] := ⟨⟨by decide, by decide⟩, rfl, fun i x h => by
    cases i with
    | zero => cases h; decide
    | succ i => simp at h, fun i x y h1 h2 => by
    cases i with
    | zero => simp at h2
    | succ i => simp at h1⟩
theorem good_more {ns : List Int} {x k : Int} (g : Good ns) (hl : ns.length < 8) (hx : ns[ns.length - 1]? = some x) (hk : 2 ≤ k) (hm : x * k ≤ 1000000000) : Good (ns ++ [x * k]) := by
  have l := g.len
  have xr := g.rng _ _ hx
  have gt : x < x * k := by
    have := Int.mul_le_mul_of_nonneg_left hk (show (0 : Int) ≤ x by omega)
    omega
  refine ⟨⟨by rw [List.length_append, List.length_singleton]; omega, by rw [List.length_append, List.length_singleton]; omega⟩, ?_, fun i y h => ?_, fun i y z h1 h2 => ?_⟩
  · rw [List.getElem?_append_left (by omega)]
    exact g.one
  · by_cases hi : i < ns.length
    · rw [List.getElem?_append_left hi] at h
      exact g.rng i y h
    · rw [List.getElem?_append_right (by omega)] at h
      have hi2 : i - ns.length = 0 := by
        cases e : i - ns.length with
        | zero => rfl
        | succ n => rw [e] at h; simp at h
      rw [hi2] at h
      have e : x * k = y := Option.some.inj h
      omega
  · by_cases hi : i + 1 < ns.length
    · rw [List.getElem?_append_left hi] at h2
      rw [List.getElem?_append_left (by omega)] at h1
      exact g.up i y z h1 h2
    · by_cases hi2 : i + 1 = ns.length
      · rw [List.getElem?_append_left (by omega)] at h1
        rw [List.getElem?_append_right (by omega), hi2, Nat.sub_self] at h2
        have e : x * k = z := Option.some.inj h2
        rw [show i = ns.length - 1 by omega, hx] at h1
        have e2 : x = y := Option.some.inj h1
        rw [← e, ← e2]
        exact ⟨gt, Int.mul_emod_right x k⟩
      · rw [List.getElem?_append_right (by omega)] at h2
        cases e : i + 1 - ns.length with
        | zero => omega
        | succ n => rw [e] at h2; simp at h2
def spSizes : Sp := fun vs H Q _ => ∃ (r : Addr) (lv gr : Int), vs = [.ref r, .int lv, .int gr] ∧ Rng H r ∧ 1 ≤ lv ∧ lv ≤ 8 ∧ 2 ≤ gr ∧ gr ≤ 1000000 ∧
  ∀ l ns H', Good ns → H l = none → H' l = some (.lst (ns.map V.int)) → Stp r H H' → Q (.ref l) H'
theorem at_last (ys : List Int) (x : Int) : atI ((ys ++ [x]).map V.int) (-1) = some (.int x) := by
  rw [List.map_append]
  exact atI_last _ _
theorem last_of : ∀ {ns : List Int}, 1 ≤ ns.length → ∃ ys x, ns = ys ++ [x]
  | [], h => absurd h (by decide)
  | [x], _ => ⟨[], x, rfl⟩
  | a :: b :: r, _ => by
    obtain ⟨ys, x, e⟩ := last_of (ns := b :: r) (by simp)
    exact ⟨a :: ys, x, by rw [e]; rfl⟩
theorem last_get (ys : List Int) (x : Int) : (ys ++ [x])[(ys ++ [x]).length - 1]? = some x := by
  rw [List.length_append, List.length_singleton, Nat.add_sub_cancel, List.getElem?_append_right (Nat.le_refl _), Nat.sub_self]
  rfl
theorem sc__law_sizes : FnScope ["_law_rng_here", "_law_levels", "_law_greatest", "_law_result", "_law_k", "_law_factor"] ["_law_rng_here", "_law_levels", "_law_greatest"] (defScope (top 26)) := ⟨rfl, rfl, rfl, by decide +kernel, rfl, by decide +kernel, by decide +kernel⟩
theorem ok_sizes (T : Tx K mg) (D__law_draw : Df P w K mg base 1 "_law_draw" ["_law_rng_here", "_law_many"] spDraw) (F : FnP K "_law_sizes" "_law_sizes" (top 26) f fd) :
    FnOk P w K mg base CX0 2 f fd ["_law_rng_here", "_law_levels", "_law_greatest"] spSizes := by
  refine F.ok sc__law_sizes (fun vs H Q E h => ?_) (fun cdv A outer s H vs Q E hr h => ⟨_, PSs.nox (pss_cons (ps_set (i := 3) sc__law_sizes.nd rfl (by first | exact Or.inl rfl | exact Or.inr rfl) (pe_lst (pa_cons pe_int pa_nil))) (pss_cons (ps_for PassesOwn.never rfl (pi_range1 rfl T.n_range (pa_cons (pcall D__law_draw hr (pa_cons (pv 0) (pa_cons (pv 1) pa_nil))) pa_nil)) (pg_name (i := 4) sc__law_sizes.nd rfl (by first | exact Or.inl rfl | exact Or.inr rfl)) (pss_cons (ps_set (i := 5) sc__law_sizes.nd rfl (by first | exact Or.inl rfl | exact Or.inr rfl) (pe_ix ix_list (pe_lst (pa_cons pe_int (pa_cons pe_int (pa_cons pe_int (pa_cons pe_int (pa_cons (pe_op op_add pe_int (pcall D__law_draw hr (pa_cons (pv 0) (pa_cons (pe_op op_sub (pv 2) pe_int) pa_nil)))) pa_nil)))))) (pcall D__law_draw hr (pa_cons (pv 0) (pa_cons pe_int pa_nil))) (fun _ _ => rfl))) (pss_one (ps_if (PW.pt (pw_and (pt_cmpR op_le (pe_op op_mul (pe_ix ix_list (pv 3) (pe_un un_neg pe_int) (fun _ _ => rfl)) (pv 5)) (pe_op op_pow pe_int pe_int) (nomark _)) (pw_and1 (pt_cmpR op_le (pv 5) (pv 2) (nomark _))))) (pss_one (ps_expr (pe_bm PySem.F.plainAttrs_list PySem.F.slot_list_append PySem.F.type_list_append mt_append (pv 3) (pa_cons (pe_op op_mul (pe_ix ix_list (pv 3) (pe_un un_neg pe_int) (fun _ _ => rfl)) (pv 5)) pa_nil)))) pss_nil)))) (pss_one (ps_ret (pv 3))))), ?_⟩)
  · obtain ⟨r, lv, gr, rfl, _⟩ := h
    rfl
  · obtain ⟨r, lv, gr, rfl, hR, l1, l2, g1, g2, q⟩ := h
    have big : (10 : Int) ^ 40 = 10000000000000000000000000000000000000000 := by decide
    refine ⟨(by show 1 ≤ sizeLine; decide), fun l hl => ?_⟩
    have nrl : r ≠ l := hR.ne hl
    have s0 : Stp r H (upd H l (.lst [.int 1])) := (Stp.refl hR).new hl
    refine ⟨_, rfl, _, rfl, r, lv, rfl, s0.1, l1, by omega, fun d H1 d0 d1 s1 => ?_⟩
    refine ⟨d, rfl, by omega, by omega, ?_⟩
    have s01 := s0.trans s1
    refine for_range (fun i σ H' => ∃ ns x y, σ = [some (.ref r), some (.int lv), some (.int gr), some (.ref l), x, y] ∧ Good ns ∧ ns.length ≤ i + 1 ∧ H' l = some (.lst (ns.map V.int)) ∧ Stp r H H') ⟨[1], none, none, rfl, good_one, by simp, s1.2 l _ nrl.symm upd_same, s01⟩ ?_ ?_
    · rintro i σ H' hi ⟨ns, x, y, rfl, g, hlen, hL, st⟩
      have hi8 : i < 8 := by omega
      obtain ⟨ys, z, rfl⟩ := last_of g.len.1
      have zr := g.rng _ _ (last_get ys z)
      refine ⟨_, rfl, _, rfl, _, _, rfl, rfl, r, gr - 1, rfl, st.1, by omega, by omega, fun d1 H1 a0 a1 t1 => ?_⟩
      have st1 := st.trans t1
      have hL1 : H1 l = some (.lst ((ys ++ [z]).map V.int)) := t1.2 l _ nrl.symm hL
      refine ⟨_, _, rfl, rfl, (by show 5 ≤ sizeLine; decide), fun t ht => ?_⟩
      have st2 := st1.new (o := .lst [.int 2, .int 2, .int 3, .int 4, .int (2 + d1)]) ht
      have nrt : r ≠ t := st1.1.ne ht
      have hL2 : (upd H1 t (.lst [.int 2, .int 2, .int 3, .int 4, .int (2 + d1)])) l = some (.lst ((ys ++ [z]).map V.int)) := by rw [upd_ne (ne_of_none hL1 ht)]; exact hL1
      refine ⟨_, rfl, r, 5, rfl, st2.1, by decide, by omega, fun d2 H3 b0 b1 t3 => ?_⟩
      have st3 := st2.trans t3
      have hL3 : H3 l = some (.lst ((ys ++ [z]).map V.int)) := t3.2 l _ nrl.symm hL2
      obtain ⟨v, hv, hm⟩ := at_of (xs := [.int 2, .int 2, .int 3, .int 4, .int (2 + d1)]) b0 b1
      obtain ⟨k, rfl, k2⟩ : ∃ k : Int, v = .int k ∧ 2 ≤ k := by
        simp only [List.mem_cons, List.not_mem_nil, or_false] at hm
        rcases hm with rfl | rfl | rfl | rfl | rfl
        · exact ⟨_, rfl, by omega⟩
        · exact ⟨_, rfl, by omega⟩
        · exact ⟨_, rfl, by omega⟩
        · exact ⟨_, rfl, by omega⟩
        · exact ⟨_, rfl, by omega⟩
      refine ⟨t, _, _, _, rfl, rfl, SqL.of (t3.2 t _ nrt.symm upd_same), hv, ?_⟩
      refine ⟨_, rfl, _, rfl, l, _, _, _, rfl, rfl, SqL.of hL3, at_last ys z, _, rfl, _, _, rfl, rfl, .inl ⟨by omega, by omega⟩, _, _, rfl, rfl, ⟨by decide, by decide, by decide⟩, _, _, rfl, rfl, _, rfl, ?_⟩
      by_cases hc : z * k ≤ 10 ^ (9 : Int).toNat
      · refine ifT (decide_eq_true hc) ?_
        refine ⟨_, rfl, _, rfl, _, _, rfl, rfl, _, rfl, ite2 (fun hk => ?_) (fun _ => ?_)⟩
        · refine ⟨_, rfl, .inl ⟨rfl, _, SqL.of hL3⟩, _, rfl, _, rfl, l, _, _, _, rfl, rfl, SqL.of hL3, at_last ys z, _, rfl, _, _, rfl, rfl, .inl ⟨by omega, by omega⟩, l, _, _, rfl, rfl, hL3, ?_, ?_⟩
          · exact small1000 (by rw [List.length_map]; omega)
          · have hc2 : z * k ≤ 1000000000 := hc
            refine ⟨(ys ++ [z]) ++ [z * k], _, _, rfl, good_more g (by omega) (last_get ys z) k2 hc2, by rw [List.length_append (bs := [z * k]), List.length_singleton]; omega, ?_, ?_⟩
            · rw [upd_same, List.map_append (l₂ := [z * k])]
              rfl
            · obtain ⟨⟨x1, x2, e1, e2⟩, kk⟩ := st3
              refine ⟨⟨x1, x2, by rw [upd_ne nrl]; exact e1, e2⟩, fun b o n e => ?_⟩
              rw [upd_ne (ne_of_none e hl)]
              exact kk b o n e
        · exact ⟨_, _, _, rfl, g, by omega, hL3, st3⟩
      · exact ifF (decide_eq_false hc) ⟨_, _, _, rfl, g, by omega, hL3, st3⟩
    · rintro σ H' ⟨ns, x, y, rfl, g, hlen, hL, st⟩
      exact ⟨_, rfl, q l ns H' g hl hL st⟩
end
end K21

set_option Elab.async false
set_option linter.all false
set_option maxRecDepth 100000
set_option maxHeartbeats 4000000
/-! Own layer: range(a, b, c) of any whole numbers a, b and a step from 1 to 2^30; a comprehension over it. -/
namespace Ex
open PySem PySem.Spec PyProof.Rows L2 Gu
theorem turn_longC {P : Program} {w : World} {K : PySem.W.Frag} {tg : Expr} (it : Addr) (lo c : Int) (n : Nat) :
    Turn P w K tg (Itc lo c n) [it] it (fun i h => IsLongIter h it (lo + (i : Nat) * c) ((n : Int) - (i : Nat)) c) where
  mem := List.mem_singleton.mpr rfl
  obj := fun i h st b hb => by
    obtain rfl := List.mem_singleton.mp hb
    exact ⟨_, st, fun v z => nomatch (show Data.fields _ = Data.cell v from z)⟩
  keep := fun i h h' st k => k it (List.mem_singleton.mpr rfl) _ st
  item := by
    rintro X rfl rfl rfl hc i pins s σ H E I hf st hg
    obtain ⟨f0, f1, f2, f3, f4, f5⟩ := hf it (List.mem_singleton.mpr rfl)
    refine (Walks.longrange (prog := X.prog) (w := X.w) (I.ok.hd hc) it lo c n).item i s _ _ hg st fun v h' tk hv st' kk => ?_
    obtain ⟨t, rfl⟩ := hv
    have J : Inv X pins σ H { s with heap := h', toks := tk } := I.turned (fun b o hb e => kk b o (fun z => hb (List.mem_singleton.mp z)) e) f0 f1 f3 f4 f5
    exact ⟨_, rfl, go_of (s := { s with heap := h', toks := tk }) (n := "longrange_iterator") st' rfl rfl (by decide) ⟨.int (lo + (i : Nat) * c), H, J, ⟨t, rfl⟩, ⟨rfl, rfl⟩, st', fun b hb => (hf b hb).1⟩⟩
  done := by
    rintro X rfl rfl rfl hc i pins s σ H E I hf st hg
    obtain ⟨f0, f1, f2, f3, f4, f5⟩ := hf it (List.mem_singleton.mpr rfl)
    have hn : n ≤ i := hg
    exact wpAny_pyNext_long_end (I.ok.hd hc) st (by omega) fun h' eb => ⟨rfl, I.turned (t' := s.toks) (fun b o hb e => eb b o hb e) f0 f1 f3 f4 f5⟩
  self := fun _ _ _ _ _ st h => wpAny_pyIter_longiter st h
section
variable {X : Cx} {tg : Expr}
theorem range_anyC {pins : List (Addr × Obj)} {σ : L2.St} {H : Hp} {s : Shared} {R : It → Hp → Prop} {E : Value → Shared → Prop} {lo hi c : Int} {t u v : Tok} {tk : Nat} (I : Inv X pins σ H s) (q : R (Itc lo c (Builtin.Range.rangeSize lo hi c).toNat) H) :
    wpAny (model X.prog X.w) X.A (pyIter (.ref s.heap.objs.size)) (PIE X pins σ tg R) E { s with heap := s.heap.push { cls := .type "range", data := .fields #[.int lo t, .int hi u, .int c v] }, toks := tk } := by
  have J : Inv X pins σ H { s with heap := s.heap.push { cls := .type "range", data := .fields #[.int lo t, .int hi u, .int c v] }, toks := tk } := I.kept fun b o e => Heap.get?_push_of_some _ e
  have e1 : lo + ((0 : Nat) : Int) * c = lo := by simp
  have e2 : (((Builtin.Range.rangeSize lo hi c).toNat : Nat) : Int) - ((0 : Nat) : Int) = Builtin.Range.rangeSize lo hi c := by
    rw [← rangeSize_toNat]
    simp
  have fr : ∀ b ∈ [(s.heap.push { cls := .type "range", data := .fields #[.int lo t, .int hi u, .int c v] }).objs.size], _ := fun b hb => by
    obtain rfl := List.mem_singleton.mp hb
    exact J.fpOk (Nat.le_refl _) (J.hok.fresh (Nat.le_refl _))
  cases hs : Builtin.Range.small lo hi c with
  | true =>
    refine wpAny_pyIter_range (IsRange.new ..) hs ⟨_, [_], _, _, H, rfl, J.kept (t' := tk) fun b o e => Heap.get?_push_of_some _ e, turn_rangeC _ lo c (Builtin.Range.rangeSize lo hi c).toNat, ?_, fr, q⟩
    show IsRangeIter _ _ (lo + ((0 : Nat) : Int) * c) ((((Builtin.Range.rangeSize lo hi c).toNat : Nat) : Int) - ((0 : Nat) : Int)) c
    rw [e1, e2]
    exact Heap.get?_push_size _ rfl
  | false =>
    refine wpAny_pyIter_longrange (IsRange.new ..) hs ⟨_, [_], _, _, H, rfl, J.kept (t' := tk) fun b o e => Heap.get?_push_of_some _ e, turn_longC _ lo c (Builtin.Range.rangeSize lo hi c).toNat, ?_, fr, q⟩
    show IsLongIter _ _ (lo + ((0 : Nat) : Int) * c) ((((Builtin.Range.rangeSize lo hi c).toNat : Nat) : Int) - ((0 : Nat) : Int)) c
    rw [e1, e2]
    exact Heap.get?_push_size _ rfl
/-- how many turns range(i, j, c) has -/
def stepsN (i j c : Int) : Nat := (Builtin.Range.rangeSize i j c).toNat
def iRngS (ta : TA) : TI := fun σ H R => ta σ H fun vs H1 => ∃ i j c : Int, vs = [.int i, .int j, .int c] ∧ 1 ≤ c ∧ c < 1073741824 ∧ R (Itc i c (stepsN i j c)) H1
theorem pi_rangeS {a b c : Expr} {ta : TA} {p pos : Pos} (hg : Gl X "range") (hm : X.mg "range" = none) (ha : PA X [a, b, c] ta)
    (hs : starEach [a, b, c] X.env = (false, eval a X.env) :: starEach [b, c] X.env := by rfl) (hpl : (backTo pos (starEach [b, c] X.env)).any (·.1) = false := by rfl) :
    PI X tg (.Call (.Name "range" p) [a, b, c] [] pos) (iRngS ta) := by
  refine ⟨fun pins s σ H R I h => ?_⟩
  refine Call_ (ld_blt I hg hm boot_range (PyProof.Rows.callWith_type1 (thn (ha.run pos pins s σ H _ I h) fun us s1 ⟨vs, H1, I1, r1, q1⟩ => ?_) hs hpl))
  obtain ⟨i, j, k, e, c0, c1, q⟩ := q1
  subst e
  cases r1 with
  | cons r rr =>
    cases rr with
    | cons r' rr =>
      cases rr with
      | cons r'' rr =>
        cases rr
        obtain ⟨t, rfl⟩ := r
        obtain ⟨t', rfl⟩ := r'
        obtain ⟨t'', rfl⟩ := r''
        exact call_range_3 (by omega) (range_anyC (tk := s1.toks) I1 q) (.inl (PyProof.noPylong_small (by omega)))
end
theorem steps_le {i j c : Int} (hc : 1 ≤ c) (h : j - i ≤ 100) : stepsN i j c ≤ 100 := by
  unfold stepsN Builtin.Range.rangeSize
  rw [if_pos (by omega)]
  split
  · have h1 := Int.ediv_le_self c (show (0 : Int) ≤ j - i - 1 by omega)
    omega
  · decide
/-- the turns reach every step below the end, and no other -/
theorem steps_lt {i j c : Int} (hc : 1 ≤ c) (n : Nat) : n < stepsN i j c ↔ i + (n : Int) * c < j := by
  unfold stepsN Builtin.Range.rangeSize
  rw [if_pos (by omega)]
  by_cases hij : i < j
  · rw [if_pos hij]
    have d0 : 0 ≤ (j - i - 1) / c := Int.ediv_nonneg (by omega) (by omega)
    have e1 := Int.mul_ediv_add_emod (j - i - 1) c
    have e2 := Int.emod_nonneg (j - i - 1) (show c ≠ 0 by omega)
    have e3 := Int.emod_lt_of_pos (j - i - 1) (show 0 < c by omega)
    generalize (j - i - 1) / c = q at *
    constructor
    · intro h
      have h2 : (n : Int) ≤ q := by omega
      have h3 := Int.mul_le_mul_of_nonneg_left h2 (show 0 ≤ c by omega)
      have h4 : (n : Int) * c = c * n := Int.mul_comm _ _
      omega
    · intro h
      have h4 : (n : Int) * c = c * n := Int.mul_comm _ _
      have h2 : (n : Int) ≤ q := by
        refine Int.not_lt.mp fun z => ?_
        have h3 := Int.mul_le_mul_of_nonneg_left (show q + 1 ≤ (n : Int) by omega) (show 0 ≤ c by omega)
        rw [Int.mul_add, Int.mul_one] at h3
        omega
      omega
  · rw [if_neg hij]
    have : 0 ≤ (n : Int) * c := Int.mul_nonneg (by omega) (by omega)
    constructor
    · intro h
      have : n < (0 : Int).toNat := h
      exact absurd this (Nat.not_lt_zero _)
    · intro h
      omega
/-- a comprehension over such a range -/
theorem lc_rangeC {lo c : Int} {n : Nat} {g : TG} {tt : TT} {te : TE} {vs : List Nat} {σ : L2.St} {H1 : Hp} {D : Addr} {Qd : Hp → Prop} (Pv : Nat → Hp → Prop) (h0 : Pv 0 (upd H1 D (.lst [])))
    (hs : ∀ i H, i < n → Pv i H → g (.int (lo + (i : Nat) * c)) (wipe σ vs) H fun σ2 H2 => wipe σ2 vs = wipe σ vs ∧ tt σ2 H2 fun b H3 =>
      if b = true then te σ2 H3 fun y H4 => ∃ acc, H4 D = some (.lst acc) ∧ acc.length < sizeLine ∧ Pv (i + 1) (upd H4 D (.lst (acc ++ [y]))) else Pv (i + 1) H3) (hd : ∀ H, Pv n H → Qd H) :
    ∃ W : Nat → Nat → Hp → Prop, (∃ m, W 0 m (upd H1 D (.lst []))) ∧ ∀ i m H, W i m H →
      ((Itc lo c n).stop i H ∧ Qd H) ∨ ((Itc lo c n).go i H ∧ ∃ Nx : Hp → Prop, (∀ H', Nx H' → ∃ m', m' < m ∧ W (i + 1) m' H') ∧ ∀ x H', (Itc lo c n).yld i H x H' → g x (wipe σ vs) H' fun σ2 H2 => wipe σ2 vs = wipe σ vs ∧ tt σ2 H2 fun b H3 =>
        if b = true then te σ2 H3 fun y H4 => ∃ acc, H4 D = some (.lst acc) ∧ acc.length < sizeLine ∧ Nx (upd H4 D (.lst (acc ++ [y]))) else Nx H3) := by
  refine ⟨fun i m H => m = n - i ∧ i ≤ n ∧ Pv i H, ⟨n, by simp, Nat.zero_le _, h0⟩, ?_⟩
  rintro i m H ⟨rfl, hi, p⟩
  by_cases hlt : i < n
  · refine .inr ⟨hlt, Pv (i + 1), fun H' p' => ⟨n - (i + 1), by omega, rfl, hlt, p'⟩, fun x H' y => ?_⟩
    obtain ⟨e, y⟩ := y
    subst e y
    exact hs i _ hlt p
  · have e : i = n := by omega
    subst e
    exact .inl ⟨Nat.le_refl _, hd H p⟩
end Ex

set_option Elab.async false
set_option linter.all false
/-! The mathematics of maximal regions: sizes that divide each other, a range from lo to hi. -/
namespace M16
structure Ch (s : Nat → Int) (m : Nat) : Prop where
  m1 : 1 ≤ m
  one : s 0 = 1
  pos : ∀ k, k < m → 1 ≤ s k
  dv : ∀ k, k + 1 < m → s k ∣ s (k + 1)
theorem Ch.dvd {s : Nat → Int} {m : Nat} (c : Ch s m) {j : Nat} : ∀ {k : Nat}, j ≤ k → k < m → s j ∣ s k
  | 0, h, _ => by
    rw [show j = 0 by omega]
    exact Int.dvd_refl _
  | k + 1, h, hk => by
    by_cases e : j = k + 1
    · rw [e]
      exact Int.dvd_refl _
    · exact Int.dvd_trans (Ch.dvd c (show j ≤ k by omega) (by omega)) (c.dv k hk)
theorem gap {z q e : Int} (h1 : z ∣ q) (h2 : z ∣ e) (h : q < e) : q + z ≤ e := by
  have := Int.le_of_dvd (by omega) (Int.dvd_sub h2 h1)
  omega
theorem mod0 {z x : Int} (h : z ∣ x) : x % z = 0 := Int.emod_eq_zero_of_dvd h
theorem dvd0 {z x : Int} (h : x % z = 0) : z ∣ x := Int.dvd_of_emod_eq_zero h
theorem fl_dvd (z x : Int) : z ∣ x - x % z := ⟨x / z, by have := Int.mul_ediv_add_emod x z; omega⟩
theorem fl_le {z : Int} (x : Int) (hz : 1 ≤ z) : x - x % z ≤ x := by
  have := Int.emod_nonneg x (show z ≠ 0 by omega)
  omega
theorem fl_lt {z : Int} (x : Int) (hz : 1 ≤ z) : x < x - x % z + z := by
  have := Int.emod_lt_of_pos x (show 0 < z by omega)
  omega
theorem fl_eq {z q x : Int} (hz : 1 ≤ z) (h : z ∣ q) (h1 : q ≤ x) (h2 : x < q + z) : x - x % z = q := by
  have a := fl_le x hz
  have b := fl_lt x hz
  have d := fl_dvd z x
  rcases Int.lt_trichotomy (x - x % z) q with e | e | e
  · have := gap d h e
    omega
  · exact e
  · have := gap h d e
    omega
theorem fl_ge {z q x : Int} (hz : 1 ≤ z) (h : z ∣ q) (h1 : q ≤ x) : q ≤ x - x % z := by
  have b := fl_lt x hz
  refine Int.not_lt.mp fun e => ?_
  have := gap (fl_dvd z x) h e
  omega
/-- the least multiple from a on -/
def nx (z a : Int) : Int := -(-a / z) * z
theorem nx_is (z a : Int) : nx z a = a + (-a) % z := by
  have e := Int.mul_ediv_add_emod (-a) z
  have h : nx z a = -(z * (-a / z)) := by
    unfold nx
    rw [Int.neg_mul, Int.mul_comm]
  omega
theorem nx_dvd (z a : Int) : z ∣ nx z a := ⟨-(-a / z), by unfold nx; rw [Int.mul_comm]⟩
theorem nx_ge {z : Int} (a : Int) (hz : 1 ≤ z) : a ≤ nx z a := by
  have := Int.emod_nonneg (-a) (show z ≠ 0 by omega)
  rw [nx_is]
  omega
theorem nx_lt {z : Int} (a : Int) (hz : 1 ≤ z) : nx z a < a + z := by
  have := Int.emod_lt_of_pos (-a) (show 0 < z by omega)
  rw [nx_is]
  omega
theorem nx_least {z a q : Int} (hz : 1 ≤ z) (h : z ∣ q) (ha : a ≤ q) : nx z a ≤ q := by
  refine Int.not_lt.mp fun e => ?_
  have := gap h (nx_dvd z a) e
  have := nx_lt a hz
  omega
theorem nx_self {z a : Int} (hz : 1 ≤ z) (h : z ∣ a) : nx z a = a := by
  have := nx_ge a hz
  have := nx_least hz h (Int.le_refl a)
  omega
/-- count_regions is positive just if the first region ends by b -/
theorem cnt_pos {z a b : Int} (hz : 1 ≤ z) : 0 < ((b - b % z) - nx z a) / z ↔ nx z a + z ≤ b := by
  have h : (1 : Int) ≤ ((b - b % z) - nx z a) / z ↔ 1 * z ≤ (b - b % z) - nx z a := Int.le_ediv_iff_mul_le (by omega)
  rw [Int.one_mul] at h
  have l := fl_le b hz
  constructor
  · intro k
    have := h.mp (by omega)
    omega
  · intro k
    have d : z ∣ nx z a + z := Int.dvd_add (nx_dvd z a) (Int.dvd_refl z)
    have := fl_ge hz d k
    have := h.mpr (by omega)
    omega
section
variable (s : Nat → Int) (m : Nat) (hi : Int)
def Lies (a : Int) (k : Nat) : Prop := a % s k = 0 ∧ a + s k ≤ hi
instance (a : Int) (k : Nat) : Decidable (Lies s hi a k) := inferInstanceAs (Decidable (a % s k = 0 ∧ a + s k ≤ hi))
/-- the highest level of a region at a, sought from n down -/
def lev (a : Int) : Nat → Nat
  | 0 => 0
  | n + 1 => if Lies s hi a (n + 1) then n + 1 else lev a n
def L (a : Int) : Nat := lev s hi a (m - 1)
def en (a : Int) : Int := if L s m hi a + 1 < m ∧ nx (s (L s m hi a + 1)) a + s (L s m hi a + 1) ≤ hi then nx (s (L s m hi a + 1)) a else hi - hi % s (L s m hi a)
/-- no region that lies in the range goes across a -/
def B (lo a : Int) : Prop := ∀ j, j < m → a % s j ≠ 0 → ¬ (lo ≤ a - a % s j ∧ a - a % s j + s j ≤ hi)
abbrev Run : Type := Nat × Int × Int
def run (a : Int) : Run := (L s m hi a, a, (en s m hi a - a) / s (L s m hi a))
def lay : Nat → Int → List Run
  | 0, _ => []
  | n + 1, a => if a < hi then run s m hi a :: lay n (en s m hi a) else []
def R (a : Int) : List Run := lay s m hi (hi - a).toNat a
end
section
variable {s : Nat → Int} {m : Nat} {hi a lo : Int}
theorem lev_le : ∀ n, lev s hi a n ≤ n
  | 0 => Nat.le_refl _
  | n + 1 => by
    show (if Lies s hi a (n + 1) then n + 1 else lev s hi a n) ≤ n + 1
    split
    · exact Nat.le_refl _
    · have := lev_le n
      omega
theorem lev_lies (h0 : Lies s hi a 0) : ∀ n, Lies s hi a (lev s hi a n)
  | 0 => h0
  | n + 1 => by
    show Lies s hi a (if Lies s hi a (n + 1) then n + 1 else lev s hi a n)
    split
    · assumption
    · exact lev_lies h0 n
theorem lev_max : ∀ n j, j ≤ n → lev s hi a n < j → ¬ Lies s hi a j
  | 0, j, h, h2 => by
    have : lev s hi a 0 = 0 := rfl
    omega
  | n + 1, j, h, h2 => by
    have e : lev s hi a (n + 1) = if Lies s hi a (n + 1) then n + 1 else lev s hi a n := rfl
    by_cases hl : Lies s hi a (n + 1)
    · rw [e, if_pos hl] at h2
      omega
    · rw [e, if_neg hl] at h2
      by_cases ej : j = n + 1
      · rw [ej]
        exact hl
      · exact lev_max n j (by omega) h2
theorem lies0 (c : Ch s m) (h : a < hi) : Lies s hi a 0 := by
  unfold Lies
  rw [c.one]
  exact ⟨Int.emod_one a, by omega⟩
theorem L_lt (c : Ch s m) : L s m hi a < m := by
  have := lev_le (s := s) (hi := hi) (a := a) (m - 1)
  have := c.m1
  show lev s hi a (m - 1) < m
  omega
theorem L_lies (c : Ch s m) (h : a < hi) : Lies s hi a (L s m hi a) := lev_lies (lies0 c h) _
theorem L_max (c : Ch s m) {j : Nat} (hj : j < m) (h : L s m hi a < j) : ¬ Lies s hi a j := lev_max (m - 1) j (by omega) h
theorem lies_down (c : Ch s m) {j k : Nat} (h : j ≤ k) (hk : k < m) (x : Lies s hi a k) : Lies s hi a j := by
  have d := c.dvd h hk
  have p := c.pos k hk
  have l := Int.le_of_dvd (by omega) d
  exact ⟨mod0 (Int.dvd_trans d (dvd0 x.1)), by have := x.2; omega⟩
theorem en1 (c1 : L s m hi a + 1 < m ∧ nx (s (L s m hi a + 1)) a + s (L s m hi a + 1) ≤ hi) : en s m hi a = nx (s (L s m hi a + 1)) a := if_pos c1
theorem en2 (c2 : ¬ (L s m hi a + 1 < m ∧ nx (s (L s m hi a + 1)) a + s (L s m hi a + 1) ≤ hi)) : en s m hi a = hi - hi % s (L s m hi a) := if_neg c2
theorem en_gt (c : Ch s m) (h : a < hi) : a < en s m hi a := by
  have hl := L_lies c h
  have hm := L_lt (a := a) (hi := hi) c
  by_cases c1 : L s m hi a + 1 < m ∧ nx (s (L s m hi a + 1)) a + s (L s m hi a + 1) ≤ hi
  · rw [en1 c1]
    have z := c.pos _ c1.1
    have g := nx_ge a z
    refine Int.not_le.mp fun hle => ?_
    have e : a = nx (s (L s m hi a + 1)) a := by omega
    refine L_max c c1.1 (Nat.lt_succ_self _) ⟨mod0 ?_, ?_⟩
    · have d := nx_dvd (s (L s m hi a + 1)) a
      rw [← e] at d
      exact d
    · have := c1.2
      rw [← e] at this
      exact this
  · rw [en2 c1]
    have z := c.pos _ hm
    have := fl_ge (x := hi) z (Int.dvd_add (dvd0 hl.1) (Int.dvd_refl _)) hl.2
    omega
theorem en_le (c : Ch s m) : en s m hi a ≤ hi := by
  by_cases c1 : L s m hi a + 1 < m ∧ nx (s (L s m hi a + 1)) a + s (L s m hi a + 1) ≤ hi
  · rw [en1 c1]
    have := c.pos _ c1.1
    have := c1.2
    omega
  · rw [en2 c1]
    exact fl_le hi (c.pos _ (L_lt c))
theorem en_dvd (c : Ch s m) : s (L s m hi a) ∣ en s m hi a := by
  by_cases c1 : L s m hi a + 1 < m ∧ nx (s (L s m hi a + 1)) a + s (L s m hi a + 1) ≤ hi
  · rw [en1 c1]
    exact Int.dvd_trans (c.dv _ c1.1) (nx_dvd _ _)
  · rw [en2 c1]
    exact fl_dvd _ _
/-- one way up, the other down -/
theorem up (c : Ch s m) (c1 : L s m hi a + 1 < m ∧ nx (s (L s m hi a + 1)) a + s (L s m hi a + 1) ≤ hi) : en s m hi a < hi ∧ L s m hi a < L s m hi (en s m hi a) := by
  have z := c.pos _ c1.1
  have e := en1 c1
  have h2 := c1.2
  rw [← e] at h2
  refine ⟨by omega, Nat.lt_of_not_le fun hle => ?_⟩
  refine L_max (a := en s m hi a) c c1.1 (by omega) ⟨mod0 ?_, h2⟩
  rw [e]
  exact nx_dvd _ _
def NoHi (s : Nat → Int) (m : Nat) (hi a : Int) : Prop := ¬ (L s m hi a + 1 < m ∧ nx (s (L s m hi a + 1)) a + s (L s m hi a + 1) ≤ hi)
theorem down (c : Ch s m) (c2 : NoHi s m hi a) (h : en s m hi a < hi) : L s m hi (en s m hi a) < L s m hi a ∧ NoHi s m hi (en s m hi a) := by
  have e := en2 c2
  have hm := L_lt (a := a) (hi := hi) c
  have z := c.pos _ hm
  have l := fl_lt hi z
  have dk : s (L s m hi a) ∣ en s m hi a := en_dvd c
  have lt : L s m hi (en s m hi a) < L s m hi a := Nat.lt_of_not_le fun hle => by
    have x := lies_down c hle (L_lt c) (L_lies c h)
    have := x.2
    omega
  refine ⟨lt, fun c1 => ?_⟩
  have d := Int.dvd_trans (c.dvd (show L s m hi (en s m hi a) + 1 ≤ L s m hi a by omega) hm) dk
  have n := nx_self (c.pos _ c1.1) d
  have k := c1.2
  rw [n] at k
  exact L_max (a := en s m hi a) c c1.1 (Nat.lt_succ_self _) ⟨mod0 d, k⟩
theorem other (c : Ch s m) (h : en s m hi a < hi) : L s m hi a ≠ L s m hi (en s m hi a) := by
  by_cases c1 : L s m hi a + 1 < m ∧ nx (s (L s m hi a + 1)) a + s (L s m hi a + 1) ≤ hi
  · have := (up c c1).2
    omega
  · have := (down c c1 h).1
    omega
theorem B_lo (c : Ch s m) : B s m hi lo lo := fun j hj n h => by
  have := Int.emod_nonneg lo (show s j ≠ 0 by have := c.pos j hj; omega)
  omega
theorem B_next (c : Ch s m) (h : a < hi) (b : B s m hi lo a) : B s m hi lo (en s m hi a) := fun j hj n ⟨h1, h2⟩ => by
  have hm := L_lt (a := a) (hi := hi) c
  have zj := c.pos j hj
  have q0 := fl_dvd (s j) (en s m hi a)
  have q1 := fl_le (en s m hi a) zj
  have q2 := fl_lt (en s m hi a) zj
  have gt := en_gt c h
  have nq : en s m hi a - en s m hi a % s j < en s m hi a := by
    have := Int.emod_nonneg (en s m hi a) (show s j ≠ 0 by omega)
    omega
  generalize en s m hi a - en s m hi a % s j = q at *
  have hk : L s m hi a < j := Nat.lt_of_not_le fun hle => n (mod0 (Int.dvd_trans (c.dvd hle hm) (en_dvd c)))
  have k1 : L s m hi a + 1 < m := by omega
  have z1 := c.pos _ k1
  have dq : s (L s m hi a + 1) ∣ q := Int.dvd_trans (c.dvd (by omega) hj) q0
  have lz : s (L s m hi a + 1) ≤ s j := Int.le_of_dvd (by omega) (c.dvd (by omega) hj)
  have qa : q < a := by
    by_cases c1 : L s m hi a + 1 < m ∧ nx (s (L s m hi a + 1)) a + s (L s m hi a + 1) ≤ hi
    · have e := en1 c1
      have l := nx_lt a z1
      have d := nx_dvd (s (L s m hi a + 1)) a
      rw [← e] at l d
      have := gap dq d nq
      omega
    · refine Int.not_le.mp fun ha => c1 ⟨k1, ?_⟩
      have := nx_least z1 dq ha
      omega
  have f := fl_eq zj q0 (show q ≤ a by omega) (by omega)
  refine b j hj ?_ ?_
  · omega
  · rw [f]
    exact ⟨h1, h2⟩
/-- no higher region around an address of the run lies in the range -/
theorem no_high (c : Ch s m) (h : a < hi) (b : B s m hi lo a) (k1 : L s m hi a + 1 < m) {x : Int} (x1 : a ≤ x) (x2 : x < en s m hi a) :
    ¬ (lo ≤ x - x % s (L s m hi a + 1) ∧ x - x % s (L s m hi a + 1) + s (L s m hi a + 1) ≤ hi) := fun ⟨h1, h2⟩ => by
  have z1 := c.pos _ k1
  have q0 := fl_dvd (s (L s m hi a + 1)) x
  have q1 := fl_le x z1
  have q2 := fl_lt x z1
  generalize x - x % s (L s m hi a + 1) = q at *
  by_cases qa : q < a
  · have f := fl_eq z1 q0 (show q ≤ a by omega) (by omega)
    refine b _ k1 ?_ ?_
    · omega
    · rw [f]
      exact ⟨h1, h2⟩
  · have n := nx_least z1 q0 (show a ≤ q by omega)
    by_cases c1 : L s m hi a + 1 < m ∧ nx (s (L s m hi a + 1)) a + s (L s m hi a + 1) ≤ hi
    · rw [en1 c1] at x2
      omega
    · exact c1 ⟨k1, by omega⟩
theorem top_in (c : Ch s m) (h : a < hi) {x : Int} (x1 : a ≤ x) (x2 : x < en s m hi a) : a ≤ x - x % s (L s m hi a) ∧ x - x % s (L s m hi a) + s (L s m hi a) ≤ en s m hi a := by
  have z := c.pos _ (L_lt (a := a) (hi := hi) c)
  have l := fl_le x z
  refine ⟨fl_ge z (dvd0 (L_lies c h).1) x1, gap (fl_dvd _ _) (en_dvd c) (by omega)⟩
theorem top_max (c : Ch s m) (h : a < hi) (b : B s m hi lo a) {x : Int} (x1 : a ≤ x) (x2 : x < en s m hi a) {j : Nat} (hj : j < m) (h1 : lo ≤ x - x % s j) (h2 : x - x % s j + s j ≤ hi) : j ≤ L s m hi a := by
  refine Nat.le_of_not_lt fun hlt => ?_
  have k1 : L s m hi a + 1 < m := by omega
  have z1 := c.pos _ k1
  have zj := c.pos j hj
  have d := c.dvd (show L s m hi a + 1 ≤ j by omega) hj
  have g1 := fl_ge (x := x) z1 (Int.dvd_trans d (fl_dvd (s j) x)) (fl_le x zj)
  have g2 := gap (fl_dvd (s (L s m hi a + 1)) x) (Int.dvd_add (Int.dvd_trans d (fl_dvd (s j) x)) d) (show x - x % s (L s m hi a + 1) < x - x % s j + s j by
    have := fl_le x z1
    have := fl_lt x zj
    omega)
  exact no_high c h b k1 x1 x2 ⟨by omega, by omega⟩
theorem lay_eq (c : Ch s m) : ∀ n n' a, (hi - a).toNat ≤ n → (hi - a).toNat ≤ n' → lay s m hi n a = lay s m hi n' a
  | 0, 0, _, _, _ => rfl
  | 0, n' + 1, a, h, _ => by
    show ([] : List Run) = if a < hi then run s m hi a :: lay s m hi n' (en s m hi a) else []
    rw [if_neg (by omega)]
  | n + 1, 0, a, _, h => by
    show (if a < hi then run s m hi a :: lay s m hi n (en s m hi a) else []) = []
    rw [if_neg (by omega)]
  | n + 1, n' + 1, a, h, h' => by
    show (if a < hi then run s m hi a :: lay s m hi n (en s m hi a) else []) = if a < hi then run s m hi a :: lay s m hi n' (en s m hi a) else []
    by_cases e : a < hi
    · have g := en_gt c e
      rw [if_pos e, if_pos e, lay_eq c n n' (en s m hi a) (by omega) (by omega)]
    · rw [if_neg e, if_neg e]
theorem R_end (h : ¬ a < hi) : R s m hi a = [] := by
  unfold R
  rw [show (hi - a).toNat = 0 by omega]
  rfl
theorem R_step (c : Ch s m) (h : a < hi) : R s m hi a = run s m hi a :: R s m hi (en s m hi a) := by
  unfold R
  obtain ⟨n, e⟩ : ∃ n, (hi - a).toNat = n + 1 := ⟨(hi - a).toNat - 1, by omega⟩
  rw [e]
  show (if a < hi then run s m hi a :: lay s m hi n (en s m hi a) else []) = _
  have g := en_gt c h
  rw [if_pos h, lay_eq c n (hi - en s m hi a).toNat (en s m hi a) (by omega) (Nat.le_refl _)]
theorem R_down (c : Ch s m) : ∀ (n : Nat) (a : Int), (hi - a).toNat ≤ n → a < hi → NoHi s m hi a → (R s m hi a).length ≤ L s m hi a + 1
  | 0, a, h, h2, _ => by omega
  | n + 1, a, h, h2, c2 => by
    rw [R_step c h2, List.length_cons]
    by_cases e : en s m hi a < hi
    · obtain ⟨d1, d2⟩ := down c c2 e
      have g := en_gt c h2
      have := R_down c n (en s m hi a) (by omega) e d2
      omega
    · rw [R_end e]
      simp
theorem R_len (c : Ch s m) : ∀ (n : Nat) (a : Int), (hi - a).toNat ≤ n → a < hi → (R s m hi a).length + L s m hi a ≤ 2 * m
  | 0, a, h, h2 => by omega
  | n + 1, a, h, h2 => by
    have l := L_lt (a := a) (hi := hi) c
    by_cases c1 : L s m hi a + 1 < m ∧ nx (s (L s m hi a + 1)) a + s (L s m hi a + 1) ≤ hi
    · obtain ⟨u1, u2⟩ := up c c1
      have g := en_gt c h2
      have := R_len c n (en s m hi a) (by omega) u1
      rw [R_step c h2, List.length_cons]
      omega
    · have := R_down c (n + 1) a h h2 c1
      omega
theorem R_short (c : Ch s m) (h8 : m ≤ 8) : (R s m hi a).length ≤ 16 := by
  by_cases h : a < hi
  · have := R_len c _ a (Nat.le_refl _) h
    omega
  · rw [R_end h]
    simp
/-- a place between two runs -/
structure Mid (s : Nat → Int) (m : Nat) (hi lo a : Int) (done : List Run) : Prop where
  eq : R s m hi lo = done ++ R s m hi a
  lo_le : lo ≤ a
  le_hi : a ≤ hi
  bd : B s m hi lo a
  last : a < hi → ∀ t, done.getLast? = some t → t.1 ≠ L s m hi a
theorem mid0 (c : Ch s m) (h : lo ≤ hi) : Mid s m hi lo lo [] := ⟨rfl, Int.le_refl _, h, B_lo c, fun _ t e => by cases e⟩
theorem Mid.next {done : List Run} (c : Ch s m) (M : Mid s m hi lo a done) (h : a < hi) : Mid s m hi lo (en s m hi a) (done ++ [run s m hi a]) := by
  have g := en_gt c h
  have l := M.lo_le
  refine ⟨?_, by omega, en_le c, B_next c h M.bd, fun h2 t e => ?_⟩
  · rw [M.eq, R_step c h, List.append_assoc]
    rfl
  · rw [List.getLast?_concat] at e
    cases e
    exact other c h2
/-- the number of cells of a run -/
theorem run_cells (c : Ch s m) (h : a < hi) : (en s m hi a - a) / s (L s m hi a) * s (L s m hi a) = en s m hi a - a := Int.ediv_mul_cancel (Int.dvd_sub (en_dvd c) (dvd0 (L_lies c h).1))
theorem run_one (c : Ch s m) (h : a < hi) : 1 ≤ (en s m hi a - a) / s (L s m hi a) := by
  have z := c.pos _ (L_lt (a := a) (hi := hi) c)
  have g := gap (dvd0 (L_lies c h).1) (en_dvd c) (en_gt c h)
  exact (Int.le_ediv_iff_mul_le (by omega)).mpr (by omega)
/-- multiples of z below y, from 0 on -/
def cd (z y : Int) : Int := (y + z - 1) / z
theorem cd_zero {z : Int} (hz : 1 ≤ z) : cd z 0 = 0 := by
  unfold cd
  exact Int.ediv_eq_zero_of_lt (by omega) (by omega)
theorem cd_mul {z y : Int} (hz : 1 ≤ z) (h : z ∣ y) : cd z y = y / z := by
  obtain ⟨q, rfl⟩ := h
  unfold cd
  rw [show z * q + z - 1 = (z - 1) + z * q by omega, Int.add_mul_ediv_left _ _ (by omega), Int.mul_ediv_cancel_left _ (by omega), Int.ediv_eq_zero_of_lt (by omega) (by omega)]
  omega
theorem cd_next {z y : Int} (hz : 1 ≤ z) (h : z ∣ y) : cd z (y + 1) = y / z + 1 := by
  obtain ⟨q, rfl⟩ := h
  unfold cd
  rw [show z * q + 1 + z - 1 = z * (q + 1) by rw [Int.mul_add]; omega, Int.mul_ediv_cancel_left _ (by omega), Int.mul_ediv_cancel_left _ (by omega)]
theorem cd_stay {z y : Int} (hz : 1 ≤ z) (h : ¬ z ∣ y) : cd z (y + 1) = cd z y := by
  unfold cd
  have e := Int.mul_ediv_add_emod y z
  have e1 := Int.emod_nonneg y (show z ≠ 0 by omega)
  have e2 := Int.emod_lt_of_pos y (show 0 < z by omega)
  have n : y % z ≠ 0 := fun q => h (dvd0 q)
  have a1 : (y + 1 + z - 1) / z = y / z + 1 := by
    rw [show y + 1 + z - 1 = (y % z) + z * (y / z + 1) by rw [Int.mul_add]; omega, Int.add_mul_ediv_left _ _ (by omega), Int.ediv_eq_zero_of_lt e1 e2]
    omega
  have a2 : (y + z - 1) / z = y / z + 1 := by
    rw [show y + z - 1 = (y % z - 1) + z * (y / z + 1) by rw [Int.mul_add]; omega, Int.add_mul_ediv_left _ _ (by omega), Int.ediv_eq_zero_of_lt (by omega) (by omega)]
    omega
  rw [a1, a2]
end
end M16

set_option Elab.async false
set_option linter.all false
set_option maxRecDepth 100000
set_option maxHeartbeats 4000000
namespace K21
open PySem PySem.Spec PyProof.Rows L2 Gu Ex
theorem same_upd {H : Hp} {p : Addr} {o : HO} (h : H p = none) : Same H (upd H p o) := fun b x e => by
  rw [upd_ne (ne_of_none e h)]
  exact e
theorem SzAt.same {C p : Addr} {H H' : Hp} {ns : List Int} (h : SzAt C H p ns) (s : Same H H') : SzAt C H' p ns := by
  obtain ⟨dx, l, a, b⟩ := h
  exact ⟨dx, l, s _ _ a, s _ _ b⟩
def sz (ns : List Int) (k : Nat) : Int := ns.getD k 0
theorem sz_at {ns : List Int} {k : Nat} (h : k < ns.length) : ns[k]? = some (sz ns k) := by
  unfold sz
  rw [List.getD_eq_getElem?_getD, List.getElem?_eq_getElem h]
  rfl
theorem chain {ns : List Int} (g : Good ns) : M16.Ch (sz ns) ns.length := by
  refine ⟨g.len.1, ?_, fun k h => (g.rng k _ (sz_at h)).1, fun k h => Int.dvd_of_emod_eq_zero (g.up k _ _ (sz_at (by omega)) (sz_at h)).2⟩
  have := (sz_at (ns := ns) (k := 0) (by have := g.len.1; omega)).symm.trans g.one
  exact Option.some.inj this
theorem sz_le {ns : List Int} (g : Good ns) {k : Nat} (h : k < ns.length) : sz ns k ≤ 1000000000 := (g.rng k _ (sz_at h)).2
theorem at_sz {ns : List Int} {k : Nat} (h : k < ns.length) : atI (ns.map V.int) (k : Int) = some (.int (sz ns k)) := at_map (sz_at h)
/-- objects at these addresses, told by f -/
inductive Refs {α : Type} (f : α → List V) (H : Hp) : List Addr → List α → Prop
  | nil : Refs f H [] []
  | cons {p : Addr} {ps : List Addr} {t : α} {ts : List α} : H p = some (.tup (f t)) → Refs f H ps ts → Refs f H (p :: ps) (t :: ts)
section
variable {α : Type} {f : α → List V} {H H' : Hp} {ps qs : List Addr} {ts us : List α}
theorem Refs.mono (h : Refs f H ps ts) (k : ∀ p xs, H p = some (.tup xs) → H' p = some (.tup xs)) : Refs f H' ps ts := by
  induction h with
  | nil => exact .nil
  | cons a _ ih => exact .cons (k _ _ a) ih
theorem Refs.same (h : Refs f H ps ts) (k : Same H H') : Refs f H' ps ts := h.mono fun p xs e => k p _ e
theorem Refs.app (h : Refs f H ps ts) (h2 : Refs f H qs us) : Refs f H (ps ++ qs) (ts ++ us) := by
  induction h with
  | nil => exact h2
  | cons b _ ih => exact .cons b ih
theorem Refs.one {p : Addr} {t : α} (h : H p = some (.tup (f t))) : Refs f H [p] [t] := .cons h .nil
theorem Refs.len (h : Refs f H ps ts) : ps.length = ts.length := by
  induction h with
  | nil => rfl
  | cons _ _ ih => rw [List.length_cons, List.length_cons, ih]
theorem Refs.get (h : Refs f H ps ts) : ∀ {i : Nat} {p : Addr}, ps[i]? = some p → ∃ t, ts[i]? = some t ∧ H p = some (.tup (f t)) := by
  induction h with
  | nil => intro i p e; cases e
  | cons a _ ih =>
    intro i p e
    cases i with
    | zero =>
      cases e
      exact ⟨_, rfl, a⟩
    | succ i => exact ih e
theorem Refs.at_ (h : Refs f H ps ts) {i : Nat} {t : α} (ht : ts[i]? = some t) : ∃ p, ps[i]? = some p ∧ H p = some (.tup (f t)) := by
  have hi : i < ts.length := (List.getElem?_eq_some_iff.mp ht).1
  have hi2 : i < ps.length := by rw [h.len]; exact hi
  obtain ⟨u, e1, e2⟩ := h.get (List.getElem?_eq_getElem hi2)
  rw [ht] at e1
  cases e1
  exact ⟨_, List.getElem?_eq_getElem hi2, e2⟩
theorem Refs.take (h : Refs f H ps ts) : ∀ n, Refs f H (ps.take n) (ts.take n) := by
  induction h with
  | nil => intro n; simp; exact .nil
  | cons a _ ih =>
    intro n
    cases n with
    | zero => exact .nil
    | succ n => exact .cons a (ih n)
theorem Refs.drop (h : Refs f H ps ts) : ∀ n, Refs f H (ps.drop n) (ts.drop n) := by
  induction h with
  | nil => intro n; simp; exact .nil
  | cons a b ih =>
    intro n
    cases n with
    | zero => exact .cons a b
    | succ n => exact ih n
theorem Refs.map_at {i : Nat} {p : Addr} (h : ps[i]? = some p) : atI (ps.map V.ref) (i : Int) = some (.ref p) := atI_nat (by rw [List.getElem?_map, h]; rfl)
end
section
variable {P : Program} {w : World} {K : PySem.W.Frag} {mg : Str → Option Value} {base : Heap} {f : Addr} {fd : FuncData}
def spCells : Sp := fun vs H Q _ => ∃ i : Int, vs = [.int i] ∧ 1 ≤ i ∧ i ≤ 1000000000000 ∧ Q (.bl true) H
theorem sc_is_cells : FnScope ["value"] ["value"] (defScope (top 11)) := ⟨rfl, rfl, rfl, by decide +kernel, rfl, by decide +kernel, by decide +kernel⟩
theorem ok_is_cells (T : Tx K mg) (D_is_integer : Df P w K mg base 1 "is_integer" ["value"] spInt) (F : FnP K "is_cells" "is_cells" (top 11) f fd) : FnOk P w K mg base CX0 2 f fd ["value"] spCells := by
  refine F.ok sc_is_cells (fun vs H Q E h => ?_) (fun cdv A outer s H vs Q E hr h => ⟨_, PSs.nox (pss_one (ps_ret (pe_and (pcall D_is_integer hr (pa_cons (pv 0) pa_nil)) (pe_one (pe_chain op_le op_le pe_int (pv 0) (ClX.pe_cval (pe_glob (v := .ref _) rfl T.g_Sizes rfl))))))), ?_⟩)
  · obtain ⟨i, rfl, _⟩ := h
    rfl
  · obtain ⟨i, rfl, h1, h2, q⟩ := h
    obtain ⟨u, cC⟩ := T.cC
    refine ⟨_, rfl, _, rfl, true, rfl, iteT ⟨_, rfl, _, _, rfl, rfl, _, rfl, ifT (decide_eq_true h1) ⟨_, _, _, _, rfl, T.rd, cC, _, _, rfl, rfl, ?_⟩⟩⟩
    have e : decide (i ≤ 1000000000000) = true := decide_eq_true h2
    show Q (.bl (decide (i ≤ 1000000000000))) H
    rw [e]
    exact q
def spCellsC : Sp := fun vs H Q _ => ∃ i : Int, vs = [.int i] ∧ 1 ≤ i ∧ i ≤ 1000000000000 ∧ Q .non H
theorem sc_check_cells : FnScope ["value"] ["value"] (defScope (top 12)) := ⟨rfl, rfl, rfl, by decide +kernel, rfl, by decide +kernel, by decide +kernel⟩
theorem ok_check_cells (T : Tx K mg) (D_is_cells : Df P w K mg base 2 "is_cells" ["value"] spCells) (F : FnP K "check_cells" "check_cells" (top 12) f fd) : FnOk P w K mg base CX0 3 f fd ["value"] spCellsC := by
  refine F.ok sc_check_cells (fun vs H Q E h => ?_) (fun cdv A outer s H vs Q E hr h => ⟨_, PSs.nox (pss_one (ps_if (pt_not (pt_val (pcall D_is_cells hr (pa_cons (pv 0) pa_nil)))) (pss_one ps_never) pss_nil)), ?_⟩)
  · obtain ⟨i, rfl, _⟩ := h
    rfl
  · obtain ⟨i, rfl, h1, h2, q⟩ := h
    exact ⟨_, rfl, _, rfl, h1, h2, true, rfl, iteF q⟩
def spWhole (K : PySem.W.Frag) : Sp := fun vs H Q _ => ∃ (p : Addr) (ns : List Int) (i : Nat) (x c : Int), vs = [.ref p, .int c, .int i] ∧ SzAt (He.ga K "Sizes") H p ns ∧ ns[i]? = some x ∧ 1 ≤ x ∧ 1 ≤ c ∧ c ≤ 1000000000000 ∧ Q (.int (c - c % x)) H
def spBelow (K : PySem.W.Frag) : Sp := fun vs H Q _ => ∃ (p : Addr) (ns : List Int) (i : Nat) (x a e : Int), vs = [.ref p, .int i, .int a, .int e] ∧ SzAt (He.ga K "Sizes") H p ns ∧ ns[i]? = some x ∧ 1 ≤ x ∧ Q (.bl (decide (a % x = 0 ∧ a + x ≤ e))) H
theorem sc_lies_below : FnScope ["sizes", "level", "address", "end", "size"] ["sizes", "level", "address", "end"] (defScope (top 18)) := ⟨rfl, rfl, rfl, by decide +kernel, rfl, by decide +kernel, by decide +kernel⟩
theorem ok_below (T : Tx K mg) (M_size : Mf P w K mg base 5 "Sizes" "size" ["self", "level"] (spSize K)) (F : FnP K "lies_below" "lies_below" (top 18) f fd) : FnOk P w K mg base CX0 6 f fd ["sizes", "level", "address", "end"] (spBelow K) := by
  refine F.ok sc_lies_below (fun vs H Q E h => ?_) (fun cdv A outer s H vs Q E hr h => ⟨_, PSs.nox (pss_cons (ps_set (i := 4) sc_lies_below.nd rfl (by first | exact Or.inl rfl | exact Or.inr rfl) (pmeth M_size hr (pv 0) (pa_cons (pv 1) pa_nil))) (pss_one (ps_ret (pe_and (pe_cmpR op_eq (pe_op op_mod (pv 2) (pv 4)) pe_int (nomark _)) (pe_one (pe_cmpR op_le (pe_op op_add (pv 2) (pv 4)) (pv 3) (nomark _))))))), ?_⟩)
  · obtain ⟨p, ns, i, x, a, e, rfl, _⟩ := h
    rfl
  · obtain ⟨p, ns, i, x, a, e, rfl, hz, hx, x1, q⟩ := h
    obtain ⟨dx, l, h1, h2⟩ := id hz
    refine ⟨_, rfl, p, dx, _, rfl, h1, szF_no l (by decide +kernel), _, rfl, p, ns, i, x, rfl, hz, hx, ?_⟩
    refine ⟨_, rfl, _, rfl, _, _, rfl, rfl, (by show (0 : Int) < x; omega), rfl, _, rfl, ?_⟩
    by_cases hm : a % x = 0
    · refine ifT (vT hm) ⟨_, rfl, _, rfl, _, _, rfl, rfl, _, rfl, _, _, rfl, rfl, ?_⟩
      have e2 : decide (a % x = 0 ∧ a + x ≤ e) = decide (a + x ≤ e) := by
        by_cases z : a + x ≤ e
        · rw [decide_eq_true z, decide_eq_true ⟨hm, z⟩]
        · rw [decide_eq_false z, decide_eq_false fun y => z y.2]
      rw [e2] at q
      exact q
    · have e2 : decide (a % x = 0 ∧ a + x ≤ e) = false := decide_eq_false fun y => hm y.1
      rw [e2] at q
      exact ifF (vF hm) q
/-- a right region -/
def spRegion (K : PySem.W.Frag) : Sp := fun vs H Q _ => ∃ (p : Addr) (ns : List Int) (i : Nat) (n a : Int), vs = [.ref p, .int n, .int i, .int a] ∧ SzAt (He.ga K "Sizes") H p ns ∧ Good ns ∧ i < ns.length ∧ 1 ≤ n ∧ n ≤ 1000000000000 ∧ 0 ≤ a ∧ a % sz ns i = 0 ∧ a + sz ns i ≤ n ∧ Q (.bl true) H
theorem sc_is_region : FnScope ["sizes", "length", "level", "address"] ["sizes", "length", "level", "address"] (defScope (top 19)) := ⟨rfl, rfl, rfl, by decide +kernel, rfl, by decide +kernel, by decide +kernel⟩
theorem ok_is_region (T : Tx K mg) (D_check_cells : Df P w K mg base 3 "check_cells" ["value"] spCellsC) (M_has_level : Mf P w K mg base 3 "Sizes" "has_level" ["self", "level"] (spHas K)) (D_is_address : Df P w K mg base 2 "is_address" ["value"] spAddr)
    (D_lies_below : Df P w K mg base 6 "lies_below" ["sizes", "level", "address", "end"] (spBelow K)) (F : FnP K "is_region" "is_region" (top 19) f fd) : FnOk P w K mg base CX0 7 f fd ["sizes", "length", "level", "address"] (spRegion K) := by
  refine F.ok sc_is_region (fun vs H Q E h => ?_) (fun cdv A outer s H vs Q E hr h => ⟨_, PSs.nox (pss_cons (ps_expr (pcall D_check_cells hr (pa_cons (pv 1) pa_nil))) (pss_one (ps_ret (pe_and (pmeth M_has_level hr (pv 0) (pa_cons (pv 2) pa_nil)) (pe_and (pcall D_is_address hr (pa_cons (pv 3) pa_nil)) (pe_one (pcall D_lies_below hr (pa_cons (pv 0) (pa_cons (pv 2) (pa_cons (pv 3) (pa_cons (pv 1) pa_nil))))))))))), ?_⟩)
  · obtain ⟨p, ns, i, n, a, rfl, _⟩ := h
    rfl
  · obtain ⟨p, ns, i, n, a, rfl, hz, g, hi, n1, n2, a0, a1, a2, q⟩ := h
    obtain ⟨dx, l, h1, h2⟩ := id hz
    refine ⟨_, rfl, n, rfl, n1, n2, ?_⟩
    refine ⟨_, rfl, p, dx, _, rfl, h1, szF_no l (by decide +kernel), _, rfl, p, ns, i, rfl, hz, hi, true, rfl, iteT ⟨_, rfl, a, rfl, a0, true, rfl, iteT ?_⟩⟩
    refine ⟨_, rfl, _, rfl, _, rfl, _, rfl, p, ns, i, _, a, n, rfl, hz, sz_at hi, (chain g).pos i hi, ?_⟩
    rw [decide_eq_true (show a % sz ns i = 0 ∧ a + sz ns i ≤ n from ⟨a1, a2⟩)]
    exact q
end
end K21

set_option Elab.async false
set_option linter.all false
set_option maxRecDepth 100000
set_option maxHeartbeats 4000000
namespace K21
open PySem PySem.Spec PyProof.Rows L2 Gu Ex
def layF (zp : Addr) (n fr : Int) (bl : Addr) : List (Str × V) := [("size_table", .ref zp), ("cell_count", .int n), ("free_count", .int fr), ("block_list", .ref bl)]
section
variable (zp bl : Addr) (n fr : Int)
theorem lay_st : (layF zp n fr bl).lookup ("size_table" : Str) = some (.ref zp) := by simp [layF, List.lookup]
theorem lay_cc : (layF zp n fr bl).lookup ("cell_count" : Str) = some (.int n) := by
  have e : (("cell_count" : Str) == ("size_table" : Str)) = false := by decide +kernel
  simp [layF, List.lookup, e]
theorem lay_fc : (layF zp n fr bl).lookup ("free_count" : Str) = some (.int fr) := by
  have e : (("free_count" : Str) == ("size_table" : Str)) = false := by decide +kernel
  have e2 : (("free_count" : Str) == ("cell_count" : Str)) = false := by decide +kernel
  simp [layF, List.lookup, e, e2]
theorem lay_bl : (layF zp n fr bl).lookup ("block_list" : Str) = some (.ref bl) := by
  have e : (("block_list" : Str) == ("size_table" : Str)) = false := by decide +kernel
  have e2 : (("block_list" : Str) == ("cell_count" : Str)) = false := by decide +kernel
  have e3 : (("block_list" : Str) == ("free_count" : Str)) = false := by decide +kernel
  simp [layF, List.lookup, e, e2, e3]
theorem lay_no {m : Str} (h1 : (m == ("size_table" : Str)) = false) (h2 : (m == ("cell_count" : Str)) = false) (h3 : (m == ("free_count" : Str)) = false) (h4 : (m == ("block_list" : Str)) = false) : (layF zp n fr bl).lookup m = none := by
  simp [layF, List.lookup, h1, h2, h3, h4]
theorem lay_put (z : Int) : putF "free_count" (.int z) (layF zp n fr bl) = layF zp n z bl := by
  have e : (("size_table" : Str) = ("free_count" : Str)) = False := by
    simp only [eq_iff_iff, iff_false]
    decide +kernel
  have e2 : (("cell_count" : Str) = ("free_count" : Str)) = False := by
    simp only [eq_iff_iff, iff_false]
    decide +kernel
  simp [layF, putF, e, e2]
end
/-- a block: address, level, is it pinned -/
abbrev Blk : Type := Int × Nat × Bool
def blkV (b : Blk) : List V := [.int b.1, .int (b.2.1 : Nat), .bl b.2.2]
def bEnd (ns : List Int) (b : Blk) : Int := b.1 + sz ns b.2.1
structure Wf (ns : List Int) (n : Int) (bs : List Blk) : Prop where
  ok : ∀ b ∈ bs, b.2.1 < ns.length ∧ 0 ≤ b.1 ∧ sz ns b.2.1 ∣ b.1 ∧ bEnd ns b ≤ n
  so : bs.Pairwise fun b c => bEnd ns b ≤ c.1
def tot (ns : List Int) (bs : List Blk) : Int := (bs.map fun b => sz ns b.2.1).sum
structure Ly (K : PySem.W.Frag) (H : Hp) (y zp bl dx : Addr) (ps : List Addr) (ns : List Int) (n : Int) (bs : List Blk) : Prop where
  at_ : H y = some (.ins (He.ga K "Layout") dx (layF zp n (n - tot ns bs) bl))
  szs : SzAt (He.ga K "Sizes") H zp ns
  lst : H bl = some (.lst (ps.map V.ref))
  rf : Refs blkV H ps bs
  wf : Wf ns n bs
  gd : Good ns
  n1 : 1 ≤ n
  n2 : n ≤ 1000000000000
  ln : bs.length ≤ 1000
  ap : ∃ dz l, H zp = some (.ins (He.ga K "Sizes") dz (szF l)) ∧ H l = some (.lst (ns.map V.int)) ∧ l ≠ bl
section
variable {K : PySem.W.Frag} {H H' : Hp} {y zp bl dx : Addr} {ps : List Addr} {ns : List Int} {n : Int} {bs : List Blk}
theorem Ly.same (h : Ly K H y zp bl dx ps ns n bs) (s : Same H H') : Ly K H' y zp bl dx ps ns n bs := ⟨s _ _ h.at_, h.szs.same s, s _ _ h.lst, h.rf.same s, h.wf, h.gd, h.n1, h.n2, h.ln, h.ap.elim fun dz z => z.elim fun l z => ⟨dz, l, s _ _ z.1, s _ _ z.2.1, z.2.2⟩⟩
theorem Wf.pos (w : Wf ns n bs) (g : Good ns) {b : Blk} (h : b ∈ bs) : 1 ≤ sz ns b.2.1 := (chain g).pos _ (w.ok b h).1
/-- the addresses rise -/
theorem Wf.lt (w : Wf ns n bs) (g : Good ns) {i j : Nat} {b c : Blk} (hi : bs[i]? = some b) (hj : bs[j]? = some c) (h : i < j) : bEnd ns b ≤ c.1 ∧ b.1 < c.1 := by
  obtain ⟨h1, e1⟩ := List.getElem?_eq_some_iff.mp hi
  obtain ⟨h2, e2⟩ := List.getElem?_eq_some_iff.mp hj
  have p := List.pairwise_iff_getElem.mp w.so i j h1 h2 h
  rw [e1, e2] at p
  have z := w.pos g (List.mem_of_getElem? hi)
  unfold bEnd at p
  exact ⟨p, by omega⟩
/-- the layout's own objects lie apart from the sizes -/
theorem Ly.far (L : Ly K H y zp bl dx ps ns n bs) : ∃ dz l, H zp = some (.ins (He.ga K "Sizes") dz (szF l)) ∧ H l = some (.lst (ns.map V.int)) ∧ zp ≠ y ∧ zp ≠ bl ∧ l ≠ bl ∧ l ≠ y ∧ y ≠ bl := by
  obtain ⟨dz, l, z1, z2, nb⟩ := L.ap
  refine ⟨dz, l, z1, z2, fun e => ?_, fun e => ?_, nb, fun e => ?_, fun e => ?_⟩
  · rw [e, L.at_] at z1
    have z3 := congrArg List.length (HO.ins.inj (Option.some.inj z1)).2.2
    cases z3
  · rw [e, L.lst] at z1
    cases z1
  · rw [e, L.at_] at z2
    cases z2
  · have a := L.at_
    rw [e, L.lst] at a
    cases a
/-- how many blocks start below a -/
def Below (bs : List Blk) (a : Int) (i : Nat) : Prop := i ≤ bs.length ∧ ∀ j b, bs[j]? = some b → (j < i ↔ b.1 < a)
end
section
variable {P : Program} {w : World} {K : PySem.W.Frag} {mg : Str → Option Value} {base : Heap} {f : Addr} {fd : FuncData}
def spNew (K : PySem.W.Frag) : Sp := fun vs H Q _ => ∃ (y zp dx : Addr) (ns : List Int) (n : Int), vs = [.ref y, .ref zp, .int n] ∧ H y = some (.ins (He.ga K "Layout") dx []) ∧ SzAt (He.ga K "Sizes") H zp ns ∧ Good ns ∧ 1 ≤ n ∧ n ≤ 1000000000000 ∧
  ∀ bl H', H bl = none → (∀ c o, c ≠ y → H c = some o → H' c = some o) → Ly K H' y zp bl dx [] ns n [] → Q .non H'
theorem sc_Layout_init : FnScope ["self", "sizes", "length"] ["self", "sizes", "length"] (defScope (inClass (top 21) 0)) := ⟨rfl, rfl, rfl, by decide +kernel, rfl, by decide +kernel, by decide +kernel⟩
theorem ok_new (T : Tx K mg) (D_check_cells : Df P w K mg base 3 "check_cells" ["value"] spCellsC) (F : FnP K "__init__" "Layout.__init__" (inClass (top 21) 0) f fd) : FnOk P w K mg base CX0 4 f fd ["self", "sizes", "length"] (spNew K) := by
  refine F.ok sc_Layout_init (fun vs H Q E h => ?_) (fun cdv A outer s H vs Q E hr h => ⟨_, PSs.nox (pss_cons (ps_expr (pcall D_check_cells hr (pa_cons (pv 2) pa_nil))) (pss_cons (ps_fld (pv 0) (pv 1) rfl) (pss_cons (ps_fld (pv 0) (pv 2) rfl) (pss_cons (ps_fld (pv 0) (pv 2) rfl) (pss_one (ps_fld (pv 0) (pe_lst pa_nil) rfl)))))), ?_⟩)
  · obtain ⟨y, zp, dx, ns, n, rfl, _⟩ := h
    rfl
  · obtain ⟨y, zp, dx, ns, n, rfl, hy, hz, g, n1, n2, q⟩ := h
    have few : ∀ k, k < 10 → k < 1000 := fun k h => by omega
    refine ⟨_, rfl, n, rfl, n1, n2, ?_⟩
    refine ⟨_, rfl, _, rfl, y, _, dx, _, rfl, hy, T.ly, T.nST, (by show 0 < 1000; decide), ?_⟩
    refine ⟨_, rfl, _, rfl, y, _, dx, _, rfl, upd_same, T.ly, T.nCC, (by show 1 < 1000; decide), ?_⟩
    refine ⟨_, rfl, _, rfl, y, _, dx, _, rfl, upd_same, T.ly, T.nFC, (by show 2 < 1000; decide), ?_⟩
    refine ⟨Nat.zero_le _, fun bl hbl => ⟨_, rfl, y, _, dx, _, rfl, (by rw [upd_ne (ne_of_none (o := .ins (He.ga K "Layout") dx (putF "free_count" (.int n) (putF "cell_count" (.int n) (putF "size_table" (.ref zp) []))))  upd_same hbl)]; exact upd_same), T.ly, T.nBL, (by show 3 < 1000; decide), ?_⟩⟩
    have nyb : y ≠ bl := ne_of_none (o := .ins (He.ga K "Layout") dx (putF "free_count" (.int n) (putF "cell_count" (.int n) (putF "size_table" (.ref zp) [])))) upd_same hbl
    have nb : H bl = none := by
      rw [upd_ne nyb.symm, upd_ne nyb.symm, upd_ne nyb.symm] at hbl
      exact hbl
    have keep : ∀ {c : Addr} {o : HO}, c ≠ y → H c = some o → (upd (upd (upd (upd (upd H y (.ins (He.ga K "Layout") dx (putF "size_table" (.ref zp) []))) y (.ins (He.ga K "Layout") dx (putF "cell_count" (.int n) (putF "size_table" (.ref zp) [])))) y (.ins (He.ga K "Layout") dx (putF "free_count" (.int n) (putF "cell_count" (.int n) (putF "size_table" (.ref zp) []))))) bl (.lst [])) y (.ins (He.ga K "Layout") dx (putF "block_list" (.ref bl) (putF "free_count" (.int n) (putF "cell_count" (.int n) (putF "size_table" (.ref zp) [])))))) c = some o := fun {c o} hc e => by
      rw [upd_ne hc, upd_ne (ne_of_none e nb), upd_ne hc, upd_ne hc, upd_ne hc]
      exact e
    obtain ⟨dz, l, z1, z2⟩ := id hz
    have ny1 : zp ≠ y := fun e => by
      rw [e, hy] at z1
      have z3 := (HO.ins.inj (Option.some.inj z1)).2.2
      cases z3
    have ny2 : l ≠ y := fun e => by
      rw [e, hy] at z2
      cases z2
    refine q bl _ nb (fun c o hc e => keep hc e) ⟨?_, ⟨dz, l, keep ny1 z1, keep ny2 z2⟩, ?_, .nil, ⟨fun b hb => absurd hb List.not_mem_nil, .nil⟩, g, n1, n2, Nat.zero_le _, ⟨dz, l, keep ny1 z1, keep ny2 z2, ne_of_none z2 nb⟩⟩
    · rw [upd_same]
      have e : n - tot ns [] = n := by simp [tot]
      rw [e]
      rfl
    · rw [upd_ne nyb.symm, upd_same]
      rfl
def spCB (K : PySem.W.Frag) : Sp := fun vs H Q _ => ∃ (y zp bl dx : Addr) (ps : List Addr) (ns : List Int) (n a : Int) (bs : List Blk), vs = [.ref y, .int a] ∧ Ly K H y zp bl dx ps ns n bs ∧ ∀ i : Nat, Below bs a i → Q (.int i) H
theorem sc_count_below : FnScope ["self", "address", "low", "high", "middle"] ["self", "address"] (defScope (inClass (top 21) 9)) := ⟨rfl, rfl, rfl, by decide +kernel, rfl, by decide +kernel, by decide +kernel⟩
theorem ok_cb (T : Tx K mg) (F : FnP K "count_below" "Layout.count_below" (inClass (top 21) 9) f fd) : FnOk P w K mg base CX0 1 f fd ["self", "address"] (spCB K) := by
  refine F.ok sc_count_below (fun vs H Q E h => ?_) (fun cdv A outer s H vs Q E hr h => ⟨_, PSs.nox (pss_cons (ps_set (i := 2) sc_count_below.nd rfl (by first | exact Or.inl rfl | exact Or.inr rfl) pe_int) (pss_cons (ps_set (i := 3) sc_count_below.nd rfl (by first | exact Or.inl rfl | exact Or.inr rfl) (pe_callB call_len_seq (by rfl) T.n_len (by decide +kernel) (pa_cons (pe_fld (pv 0) rfl) pa_nil))) (pss_cons (ps_while PassesOwn.never (pt_cmpR op_lt (pv 2) (pv 3) (nomark _)) (pss_cons (ps_set (i := 4) sc_count_below.nd rfl (by first | exact Or.inl rfl | exact Or.inr rfl) (pe_op op_fdivW (pe_op op_add (pv 2) (pv 3)) pe_int)) (pss_one (ps_if (pt_cmpR op_lt (pe_ix ix_tup (pe_ix ix_list (pe_fld (pv 0) rfl) (pv 4) (fun _ _ => rfl)) pe_int (fun _ _ => rfl)) (pv 1) (nomark _)) (pss_one (ps_set (i := 2) sc_count_below.nd rfl (by first | exact Or.inl rfl | exact Or.inr rfl) (pe_op op_add (pv 4) pe_int))) (pss_one (ps_set (i := 3) sc_count_below.nd rfl (by first | exact Or.inl rfl | exact Or.inr rfl) (pv 4))))))) (pss_one (ps_ret (pv 2)))))), ?_⟩)
  · obtain ⟨y, zp, bl, dx, ps, ns, n, a, bs, rfl, _⟩ := h
    rfl
  · obtain ⟨y, zp, bl, dx, ps, ns, n, a, bs, rfl, L, q⟩ := h
    have pl := L.rf.len
    have sl : sizeLine = 16777216 := sizeLine_eq
    refine ⟨_, rfl, y, _, dx, _, _, rfl, L.at_, T.ly, T.nBL, lay_bl .., bl, _, rfl, .inl (SqL.of L.lst), ?_⟩
    refine ⟨fun m σ G => ∃ (lo hi : Nat) (x : Option V), m = hi - lo ∧ G = H ∧ σ = [some (.ref y), some (.int a), some (.int (lo : Nat)), some (.int (hi : Nat)), x] ∧ lo ≤ hi ∧ hi ≤ bs.length ∧ (∀ j b, bs[j]? = some b → j < lo → b.1 < a) ∧ (∀ j b, bs[j]? = some b → hi ≤ j → a ≤ b.1),
      ⟨_, 0, bs.length, none, rfl, rfl, (by rw [List.length_map, pl]; rfl), Nat.zero_le _, Nat.le_refl _, fun j b _ h => absurd h (Nat.not_lt_zero _), fun j b hb h => by
        have := (List.getElem?_eq_some_iff.mp hb).1
        omega⟩, ?_⟩
    rintro m σ G ⟨lo, hi, x, rfl, rfl, rfl, h1, h2, h3, h4⟩
    refine ⟨_, rfl, _, rfl, _, _, rfl, rfl, _, rfl, ?_⟩
    by_cases hc : (lo : Int) < (hi : Int)
    · refine ifT (decide_eq_true hc) ?_
      have em : ((lo : Int) + (hi : Int)) / 2 = (((lo + hi) / 2 : Nat) : Int) := by omega
      have mlt : (lo + hi) / 2 < bs.length := by omega
      obtain ⟨b, hb⟩ : ∃ b, bs[(lo + hi) / 2]? = some b := ⟨_, List.getElem?_eq_getElem mlt⟩
      obtain ⟨p, hp, hT⟩ := L.rf.at_ hb
      refine ⟨fun σ' G' => ∃ (lo' hi' : Nat) (x : Option V), hi' - lo' < hi - lo ∧ G' = G ∧ σ' = [some (.ref y), some (.int a), some (.int (lo' : Nat)), some (.int (hi' : Nat)), x] ∧ lo' ≤ hi' ∧ hi' ≤ bs.length ∧ (∀ j b, bs[j]? = some b → j < lo' → b.1 < a) ∧ (∀ j b, bs[j]? = some b → hi' ≤ j → a ≤ b.1),
        fun σ' G' ⟨lo', hi', x, hl, r⟩ => ⟨hi' - lo', hl, lo', hi', x, rfl, r⟩, ?_⟩
      refine ⟨_, rfl, _, rfl, _, _, rfl, rfl, _, _, rfl, rfl, wide_div (b := 64) (by decide) (by decide) (by decide) (by decide), ?_⟩
      refine ⟨_, rfl, y, _, dx, _, _, rfl, L.at_, T.ly, T.nBL, lay_bl .., _, rfl, bl, _, _, _, rfl, rfl, SqL.of L.lst, (by rw [em]; exact Refs.map_at hp), p, _, _, _, rfl, rfl, SqT.of hT, rfl, _, rfl, _, _, rfl, rfl, _, rfl, ?_⟩
      by_cases hb2 : b.1 < a
      · refine ifT (decide_eq_true hb2) ⟨_, rfl, _, _, rfl, rfl, (lo + hi) / 2 + 1, hi, some (.int (((lo : Int) + (hi : Int)) / 2)), by omega, rfl, ?_, by omega, h2, fun j c hj hlt => ?_, h4⟩
        · show [some (V.ref y), some (V.int a), some (V.int (((lo : Int) + (hi : Int)) / 2 + 1)), some (V.int hi), some (V.int (((lo : Int) + (hi : Int)) / 2))] = _
          rw [em]
          rfl
        · by_cases e : j = (lo + hi) / 2
          · rw [e, hb] at hj
            cases hj
            exact hb2
          · have := (L.wf.lt L.gd hj hb (by omega)).2
            omega
      · refine ifF (decide_eq_false hb2) ⟨_, rfl, lo, (lo + hi) / 2, some (.int (((lo : Int) + (hi : Int)) / 2)), by omega, rfl, ?_, by omega, by omega, h3, fun j c hj hle => ?_⟩
        · show [some (V.ref y), some (V.int a), some (V.int lo), some (V.int (((lo : Int) + (hi : Int)) / 2)), some (V.int (((lo : Int) + (hi : Int)) / 2))] = _
          rw [em]
        · by_cases e : j = (lo + hi) / 2
          · rw [e, hb] at hj
            cases hj
            omega
          · have := (L.wf.lt L.gd hb hj (by omega)).2
            omega
    · refine ifF (decide_eq_false hc) ⟨_, rfl, q lo ⟨by omega, fun j b hb => ⟨h3 j b hb, fun hlt => ?_⟩⟩⟩
      have := h4 j b hb
      omega
end
end K21

set_option Elab.async false
set_option linter.all false
set_option maxRecDepth 100000
set_option maxHeartbeats 4000000
set_option pp.maxSteps 900
namespace K21
open PySem PySem.Spec PyProof.Rows L2 Gu Ex
/-- values of any kind -/
inductive Any (H : Hp) : V → Prop
  | non : Any H .non
  | bl (b : Bool) : Any H (.bl b)
  | int (i : Int) : Any H (.int i)
  | str (x : Str) : Any H (.str x)
  | lst {a : Addr} {xs : List V} : H a = some (.lst xs) → Any H (.ref a)
  | tup {a : Addr} {xs : List V} : H a = some (.tup xs) → Any H (.ref a)
  | dct {a : Addr} {kvs : List (Key × V)} : H a = some (.dK kvs) → Any H (.ref a)
def isI : V → Bool
  | .int _ => true
  | _ => false
def isB : V → Bool
  | .bl _ => true
  | _ => false
theorem Any.ty {K : PySem.W.Frag} {H : Hp} {v : V} (h : Any H v) : ∃ T, TyX K H v (.type T) ∧ kitB T "int" = some (isI v || isB v) ∧ kitB T "bool" = some (isB v) := by
  cases h with
  | non => exact ⟨"NoneType", .base .non, (show kitB "NoneType" "int" = some false by decide +kernel), (show kitB "NoneType" "bool" = some false by decide +kernel)⟩
  | bl b => exact ⟨"bool", .base (.bl b), (show kitB "bool" "int" = some true by decide +kernel), (show kitB "bool" "bool" = some true by decide +kernel)⟩
  | int i => exact ⟨"int", .base (.int i), (show kitB "int" "int" = some true by decide +kernel), (show kitB "int" "bool" = some false by decide +kernel)⟩
  | str x => exact ⟨"str", .base (.str x), (show kitB "str" "int" = some false by decide +kernel), (show kitB "str" "bool" = some false by decide +kernel)⟩
  | lst e => exact ⟨"list", .base (.lst e), (show kitB "list" "int" = some false by decide +kernel), (show kitB "list" "bool" = some false by decide +kernel)⟩
  | tup e => exact ⟨"tuple", .base (.tup e), (show kitB "tuple" "int" = some false by decide +kernel), (show kitB "tuple" "bool" = some false by decide +kernel)⟩
  | dct e => exact ⟨"dict", .base (.dK e), (show kitB "dict" "int" = some false by decide +kernel), (show kitB "dict" "bool" = some false by decide +kernel)⟩
theorem Any.same {H H' : Hp} {v : V} (h : Any H v) (s : Same H H') : Any H' v := by
  cases h with
  | non => exact .non
  | bl b => exact .bl b
  | int i => exact .int i
  | str x => exact .str x
  | lst e => exact .lst (s _ _ e)
  | tup e => exact .tup (s _ _ e)
  | dct e => exact .dct (s _ _ e)
def addrB : V → Bool
  | .int i => decide (0 ≤ i)
  | _ => false
section
variable {P : Program} {w : World} {K : PySem.W.Frag} {mg : Str → Option Value} {base : Heap} {f : Addr} {fd : FuncData}
def spIntA : Sp := fun vs H Q _ => ∃ v : V, vs = [v] ∧ Any H v ∧ Q (.bl (isI v)) H
theorem ok_is_integerA (T : Tx K mg) (F : FnP K "is_integer" "is_integer" (top 10) f fd) : FnOk P w K mg base CX0 1 f fd ["value"] spIntA := by
  refine F.ok sc_is_integer (fun vs H Q E h => ?_) (fun cdv A outer s H vs Q E hr h => ⟨_, PSs.nox (pss_one (ps_ret (pe_and (pe_callB call_isi (by rfl) T.n_isinstance (by decide +kernel) (pa_cons (pv 0) (pa_cons (pe_bltn (v := .ty "int") (by rfl) T.n_int (by decide +kernel) rfl) pa_nil))) (pe_one (pe_not (pe_callB call_isi (by rfl) T.n_isinstance (by decide +kernel) (pa_cons (pv 0) (pa_cons (pe_bltn (v := .ty "bool") (by rfl) T.n_bool (by decide +kernel) rfl) pa_nil)))))))), ?_⟩)
  · obtain ⟨v, rfl, _⟩ := h
    rfl
  · obtain ⟨v, rfl, hv, q⟩ := h
    obtain ⟨Ty, ty, k1, k2⟩ := hv.ty (K := K)
    refine ⟨_, rfl, _, _, _, _, _, rfl, .ty "int", ty, kit_ty k1, _, rfl, ?_⟩
    cases e : (isI v || isB v) with
    | true =>
      refine iteT ⟨_, rfl, _, _, _, _, _, rfl, .ty "bool", ty, kit_ty k2, _, rfl, ?_⟩
      have e2 : (!isB v) = isI v := by cases v <;> first | rfl | cases e
      rw [e2]
      exact q
    | false =>
      have e2 : isI v = false := by cases v <;> first | rfl | cases e
      rw [e2] at q
      exact iteF q
def spAddrA : Sp := fun vs H Q _ => ∃ v : V, vs = [v] ∧ Any H v ∧ Q (.bl (addrB v)) H
theorem ok_is_addressA (T : Tx K mg) (D_is_integer : Df P w K mg base 1 "is_integer" ["value"] spIntA) (F : FnP K "is_address" "is_address" (top 17) f fd) : FnOk P w K mg base CX0 2 f fd ["value"] spAddrA := by
  refine F.ok sc_is_address (fun vs H Q E h => ?_) (fun cdv A outer s H vs Q E hr h => ⟨_, PSs.nox (pss_one (ps_ret (pe_and (pcall D_is_integer hr (pa_cons (pv 0) pa_nil)) (pe_one (pe_cmpR op_ge (pv 0) pe_int (nomark _)))))), ?_⟩)
  · obtain ⟨v, rfl, _⟩ := h
    rfl
  · obtain ⟨v, rfl, hv, q⟩ := h
    refine ⟨_, rfl, v, rfl, hv, _, rfl, ?_⟩
    cases v with
    | int i => exact iteT ⟨_, rfl, _, _, rfl, rfl, q⟩
    | _ => exact iteF q
/-- is it a region of level i? -/
def regB (ns : List Int) (i : Nat) (n : Int) : V → Bool
  | .int a => decide (0 ≤ a) && decide (a % sz ns i = 0 ∧ a + sz ns i ≤ n)
  | _ => false
def spRegA (K : PySem.W.Frag) : Sp := fun vs H Q _ => ∃ (p : Addr) (ns : List Int) (i : Nat) (n : Int) (v : V), vs = [.ref p, .int n, .int i, v] ∧ SzAt (He.ga K "Sizes") H p ns ∧ Good ns ∧ i < ns.length ∧ 1 ≤ n ∧ n ≤ 1000000000000 ∧ Any H v ∧ Q (.bl (regB ns i n v)) H
theorem ok_is_regionA (T : Tx K mg) (D_check_cells : Df P w K mg base 3 "check_cells" ["value"] spCellsC) (M_has_level : Mf P w K mg base 3 "Sizes" "has_level" ["self", "level"] (spHas K)) (D_is_address : Df P w K mg base 2 "is_address" ["value"] spAddrA)
    (D_lies_below : Df P w K mg base 6 "lies_below" ["sizes", "level", "address", "end"] (spBelow K)) (F : FnP K "is_region" "is_region" (top 19) f fd) : FnOk P w K mg base CX0 7 f fd ["sizes", "length", "level", "address"] (spRegA K) := by
  refine F.ok sc_is_region (fun vs H Q E h => ?_) (fun cdv A outer s H vs Q E hr h => ⟨_, PSs.nox (pss_cons (ps_expr (pcall D_check_cells hr (pa_cons (pv 1) pa_nil))) (pss_one (ps_ret (pe_and (pmeth M_has_level hr (pv 0) (pa_cons (pv 2) pa_nil)) (pe_and (pcall D_is_address hr (pa_cons (pv 3) pa_nil)) (pe_one (pcall D_lies_below hr (pa_cons (pv 0) (pa_cons (pv 2) (pa_cons (pv 3) (pa_cons (pv 1) pa_nil))))))))))), ?_⟩)
  · obtain ⟨p, ns, i, n, v, rfl, _⟩ := h
    rfl
  · obtain ⟨p, ns, i, n, v, rfl, hz, g, hi, n1, n2, hv, q⟩ := h
    obtain ⟨dx, l, h1, h2⟩ := id hz
    refine ⟨_, rfl, n, rfl, n1, n2, ?_⟩
    refine ⟨_, rfl, p, dx, _, rfl, h1, szF_no l (by decide +kernel), _, rfl, p, ns, i, rfl, hz, hi, true, rfl, iteT ⟨_, rfl, v, rfl, hv, _, rfl, ?_⟩⟩
    cases v with
    | int a =>
      by_cases a0 : 0 ≤ a
      · refine ifT (decide_eq_true a0) ⟨_, rfl, _, rfl, _, rfl, _, rfl, p, ns, i, _, a, n, rfl, hz, sz_at hi, (chain g).pos i hi, ?_⟩
        have e : regB ns i n (.int a) = decide (a % sz ns i = 0 ∧ a + sz ns i ≤ n) := by
          show (decide (0 ≤ a) && _) = _
          rw [decide_eq_true a0, Bool.true_and]
        rw [e] at q
        exact q
      · have e : regB ns i n (.int a) = false := by
          show (decide (0 ≤ a) && _) = _
          rw [decide_eq_false a0, Bool.false_and]
        rw [e] at q
        exact ifF (decide_eq_false a0) q
    | _ => exact iteF q
/-- the error that a call lets out -/
def Raised (K : PySem.W.Frag) (c n : Str) (v : V) (H : Hp) (E : XK) : Prop := ∀ d H', H d = none → Same H H' → H' d = some (.xd [(n, v)]) → E (.ref (He.ga K c)) (some d) H'
theorem Raised.same {c n : Str} {v : V} {H H1 : Hp} {E : XK} (h : Raised K c n v H E) (s : Same H H1) : Raised K c n v H1 E := fun d H' e s2 x => h d H' (s.free e) (s.trans s2) x
theorem sc_InvalidAddress_init : FnScope ["self", "value"] ["self", "value"] (defScope (inClass (top 6) 0)) := ⟨rfl, rfl, rfl, by decide +kernel, rfl, by decide +kernel, by decide +kernel⟩
theorem ok_errA (T : Tx K mg) (F : FnP K "__init__" "InvalidAddress.__init__" (inClass (top 6) 0) f fd) : FnOk P w K mg base CX0 1 f fd ["self", "value"] (Ex.spErr (cA K) "value") := by
  refine F.ok sc_InvalidAddress_init (fun vs H Q E h => ?_) (fun cdv A outer s H vs Q E hr h => ⟨_, PSs.nox (pss_one (ps_fst (B := "ValueError") (tl := tailE "ValueError") (pv 0) (pv 1))), ?_⟩)
  · obtain ⟨a, v, rfl, _⟩ := h
    rfl
  · obtain ⟨a, v, rfl, ha, q⟩ := h
    exact ⟨_, rfl, _, rfl, a, cA K, rfl, T.eA.ox, T.eA.no, ha, q⟩
theorem sc_UnknownBlock_init : FnScope ["self", "value"] ["self", "value"] (defScope (inClass (top 7) 0)) := ⟨rfl, rfl, rfl, by decide +kernel, rfl, by decide +kernel, by decide +kernel⟩
theorem ok_errU (T : Tx K mg) (F : FnP K "__init__" "UnknownBlock.__init__" (inClass (top 7) 0) f fd) : FnOk P w K mg base CX0 1 f fd ["self", "value"] (Ex.spErr (cU K) "value") := by
  refine F.ok sc_UnknownBlock_init (fun vs H Q E h => ?_) (fun cdv A outer s H vs Q E hr h => ⟨_, PSs.nox (pss_one (ps_fst (B := "LookupError") (tl := tailE "LookupError") (pv 0) (pv 1))), ?_⟩)
  · obtain ⟨a, v, rfl, _⟩ := h
    rfl
  · obtain ⟨a, v, rfl, ha, q⟩ := h
    exact ⟨_, rfl, _, rfl, a, cU K, rfl, T.eU.ox, T.eU.no, ha, q⟩
theorem sc_Occupied_init : FnScope ["self", "address"] ["self", "address"] (defScope (inClass (top 8) 0)) := ⟨rfl, rfl, rfl, by decide +kernel, rfl, by decide +kernel, by decide +kernel⟩
theorem ok_errO (T : Tx K mg) (F : FnP K "__init__" "Occupied.__init__" (inClass (top 8) 0) f fd) : FnOk P w K mg base CX0 1 f fd ["self", "address"] (Ex.spErr (cO K) "address") := by
  refine F.ok sc_Occupied_init (fun vs H Q E h => ?_) (fun cdv A outer s H vs Q E hr h => ⟨_, PSs.nox (pss_one (ps_fst (B := "RuntimeError") (tl := tailE "RuntimeError") (pv 0) (pv 1))), ?_⟩)
  · obtain ⟨a, v, rfl, _⟩ := h
    rfl
  · obtain ⟨a, v, rfl, ha, q⟩ := h
    exact ⟨_, rfl, _, rfl, a, cO K, rfl, T.eO.ox, T.eO.no, ha, q⟩
end
end K21

set_option Elab.async false
set_option linter.all false
set_option maxRecDepth 100000
set_option maxHeartbeats 4000000
namespace K21
open PySem PySem.Spec PyProof.Rows L2 Gu Ex
theorem lay_nm {zp bl : Addr} {n fr : Int} {m : Str} (h : (m == ("size_table" : Str) || (m == ("cell_count" : Str) || (m == ("free_count" : Str) || m == ("block_list" : Str)))) = false) : (layF zp n fr bl).lookup m = none := by
  obtain ⟨h1, h⟩ := Bool.or_eq_false_iff.mp h
  obtain ⟨h2, h⟩ := Bool.or_eq_false_iff.mp h
  obtain ⟨h3, h4⟩ := Bool.or_eq_false_iff.mp h
  exact lay_no zp bl n fr h1 h2 h3 h4
section
variable {ns : List Int} {n : Int} {bs : List Blk}
/-- the place of a block that starts at a -/
theorem Below.at_ {a : Int} {i j : Nat} {b : Blk} (w : Wf ns n bs) (g : Good ns) (h : Below bs a i) (hj : bs[j]? = some b) (e : b.1 = a) : i = j := by
  have h1 := (h.2 j b hj)
  by_cases hij : i < j
  · have hi : i < bs.length := by
      have := (List.getElem?_eq_some_iff.mp hj).1
      omega
    have h2 := h.2 i _ (List.getElem?_eq_getElem hi)
    have h3 := (w.lt g (List.getElem?_eq_getElem hi) hj hij).2
    omega
  · omega
/-- the block that may contain a -/
theorem Below.holds {a : Int} {i : Nat} {c : Blk} (w : Wf ns n bs) (g : Good ns) (h : Below bs (a + 1) i) (hc : c ∈ bs) (h1 : c.1 ≤ a) (h2 : a < bEnd ns c) : 0 < i ∧ bs[i - 1]? = some c := by
  obtain ⟨j, hj, rfl⟩ := List.getElem_of_mem hc
  have ej := List.getElem?_eq_getElem hj
  have k := (h.2 j _ ej).mpr (by omega)
  refine ⟨by omega, ?_⟩
  have l := h.1
  by_cases e : j = i - 1
  · rw [← e]
    exact ej
  · have hi : i - 1 < bs.length := by omega
    have p := (w.lt g ej (List.getElem?_eq_getElem hi) (by omega)).1
    have k2 := (h.2 (i - 1) _ (List.getElem?_eq_getElem hi)).mp (by omega)
    omega
end
section
variable {P : Program} {w : World} {K : PySem.W.Frag} {mg : Str → Option Value} {base : Heap} {f : Addr} {fd : FuncData}
def spIx (K : PySem.W.Frag) : Sp := fun vs H Q E => ∃ (y zp bl dx : Addr) (ps : List Addr) (ns : List Int) (n : Int) (bs : List Blk) (v : V), vs = [.ref y, v] ∧ Ly K H y zp bl dx ps ns n bs ∧ Any H v ∧ (∀ (j : Nat) (b : Blk), bs[j]? = some b → v = .int b.1 → Q (.int j) H) ∧ ((∀ b ∈ bs, v ≠ .int b.1) → Raised K "UnknownBlock" "value" v H E)
theorem sc_index_of : FnScope ["self", "address", "index"] ["self", "address"] (defScope (inClass (top 21) 10)) := ⟨rfl, rfl, rfl, by decide +kernel, rfl, by decide +kernel, by decide +kernel⟩
theorem ok_ix (T : Tx K mg) (D_is_integer : Df P w K mg base 1 "is_integer" ["value"] spIntA) (M_count_below : Mf P w K mg base 1 "Layout" "count_below" ["self", "address"] (spCB K)) (M : Ex.Ei P w K mg base "UnknownBlock" "value") (F : FnP K "index_of" "Layout.index_of" (inClass (top 21) 10) f fd) :
    FnOk P w K mg base (L2.CX P w) 4 f fd ["self", "address"] (spIx K) := by
  obtain ⟨fdI, FI, bI⟩ := M.ex
  refine F.ok sc_index_of (fun vs H Q E h => ?_) (fun cdv A outer s H vs Q E hr h => ⟨_, (pss_cons (ps_if (pt_val (pcall D_is_integer hr (pa_cons (pv 1) pa_nil))) (pss_cons (ps_set (i := 2) sc_index_of.nd rfl (by first | exact Or.inl rfl | exact Or.inr rfl) (pmeth M_count_below hr (pv 0) (pa_cons (pv 1) pa_nil))) (pss_one (ps_if (PW.pt (pw_and (pt_cmpR op_lt (pv 2) (pe_callB call_len_seq (by rfl) T.n_len (by decide +kernel) (pa_cons (pe_fld (pv 0) rfl) pa_nil)) (nomark _)) (pw_and1 (pt_cmpR op_eq (pe_ix ix_tup (pe_ix ix_list (pe_fld (pv 0) rfl) (pv 2) (fun _ _ => rfl)) pe_int (fun _ _ => rfl)) (pv 1) (nomark _))))) (pss_one (ps_ret (pv 2))) pss_nil))) pss_nil) (pss_one (ps_raise rfl (takes_of (E := E) rfl rfl rfl rfl) (pmk_oexG T.eU.ox T.eU.ii T.eU.ti FI (hr.mono (by decide)) bI .nil pass0 rfl T.g_UnknownBlock (pa_cons (pv 1) pa_nil))))), ?_⟩)
  · obtain ⟨y, zp, bl, dx, ps, ns, n, bs, v, rfl, _⟩ := h
    rfl
  · obtain ⟨y, zp, bl, dx, ps, ns, n, bs, v, rfl, L, hv, q1, q2⟩ := h
    refine ⟨_, rfl, v, rfl, hv, _, rfl, ?_⟩
    cases v with
    | int a =>
      refine iteT ?_
      refine ⟨_, rfl, y, dx, _, rfl, L.at_, lay_nm (by decide +kernel), _, rfl, y, zp, bl, dx, ps, ns, n, a, bs, rfl, L, fun i hi => ?_⟩
      have pl := L.rf.len
      refine ⟨_, rfl, _, rfl, y, _, dx, _, _, rfl, L.at_, T.ly, T.nBL, lay_bl .., bl, _, rfl, .inl (SqL.of L.lst), _, _, rfl, rfl, _, rfl, ?_⟩
      by_cases il : i < bs.length
      · refine ifT (decide_eq_true (by rw [List.length_map]; omega)) ?_
        obtain ⟨b, hb⟩ : ∃ b, bs[i]? = some b := ⟨_, List.getElem?_eq_getElem il⟩
        obtain ⟨p, hp, hT⟩ := L.rf.at_ hb
        refine ⟨_, rfl, y, _, dx, _, _, rfl, L.at_, T.ly, T.nBL, lay_bl .., _, rfl, bl, _, _, _, rfl, rfl, SqL.of L.lst, Refs.map_at hp, p, _, _, _, rfl, rfl, SqT.of hT, rfl, _, rfl, rfl, _, rfl, ?_⟩
        by_cases eb : b.1 = a
        · exact ifT (vT eb) ⟨_, rfl, q1 i b hb (by rw [eb])⟩
        · refine ifF (vF eb) ⟨_, rfl, (by show 1 ≤ 1000; decide), raise_ok (q2 fun c hc e => ?_)⟩
          obtain ⟨j, hj⟩ := List.getElem?_of_mem hc
          have ea : c.1 = a := (V.int.inj e).symm
          have := hi.at_ L.wf L.gd hj ea
          rw [← this, hb] at hj
          cases hj
          exact eb ea
      · refine ifF (decide_eq_false (by rw [List.length_map]; omega)) ⟨_, rfl, (by show 1 ≤ 1000; decide), raise_ok (q2 fun c hc e => ?_)⟩
        obtain ⟨j, hj⟩ := List.getElem?_of_mem hc
        have := hi.at_ L.wf L.gd hj (V.int.inj e).symm
        have := (List.getElem?_eq_some_iff.mp hj).1
        omega
    | _ => exact iteF ⟨_, rfl, (by show 1 ≤ 1000; decide), raise_ok (q2 fun c _ e => nomatch e)⟩
def atB (n : Int) : V → Bool
  | .int a => decide (0 ≤ a ∧ a < n)
  | _ => false
def spAt (K : PySem.W.Frag) : Sp := fun vs H Q E => ∃ (y zp bl dx : Addr) (ps : List Addr) (ns : List Int) (n : Int) (bs : List Blk) (v : V), vs = [.ref y, v] ∧ Ly K H y zp bl dx ps ns n bs ∧ Any H v ∧
  (∀ a, v = .int a → 0 ≤ a → a < n → ((∀ b ∈ bs, ¬ (b.1 ≤ a ∧ a < bEnd ns b)) → Q .non H) ∧ (∀ b ∈ bs, b.1 ≤ a → a < bEnd ns b → ∀ t, H t = none → Q (.ref t) (upd H t (.tup (blkV b))))) ∧ (atB n v = false → Raised K "InvalidAddress" "value" v H E)
theorem sc_block_at : FnScope ["self", "address", "index", "start", "level", "is_pinned"] ["self", "address"] (defScope (inClass (top 21) 11)) := ⟨rfl, rfl, rfl, by decide +kernel, rfl, by decide +kernel, by decide +kernel⟩
theorem ok_at (T : Tx K mg) (D_is_address : Df P w K mg base 2 "is_address" ["value"] spAddrA) (M_count_below : Mf P w K mg base 1 "Layout" "count_below" ["self", "address"] (spCB K)) (M_size : Mf P w K mg base 5 "Sizes" "size" ["self", "level"] (spSize K)) (M : Ex.Ei P w K mg base "InvalidAddress" "value")
    (F : FnP K "block_at" "Layout.block_at" (inClass (top 21) 11) f fd) : FnOk P w K mg base (L2.CX P w) 7 f fd ["self", "address"] (spAt K) := by
  obtain ⟨fdI, FI, bI⟩ := M.ex
  refine F.ok sc_block_at (fun vs H Q E h => ?_) (fun cdv A outer s H vs Q E hr h => ⟨_, (pss_cons (ps_if (PW.pt (pw_or (pt_not (pt_val (pcall D_is_address hr (pa_cons (pv 1) pa_nil)))) (pw_or1 (pt_cmpR op_ge (pv 1) (pe_fld (pv 0) rfl) (nomark _))))) (pss_one (ps_raise rfl (takes_of (E := E) rfl rfl rfl rfl) (pmk_oexG T.eA.ox T.eA.ii T.eA.ti FI (hr.mono (by decide)) bI .nil pass0 rfl T.g_InvalidAddress (pa_cons (pv 1) pa_nil)))) pss_nil) (pss_cons (ps_set (i := 2) sc_block_at.nd rfl (by first | exact Or.inl rfl | exact Or.inr rfl) (pe_op op_sub (pmeth M_count_below hr (pv 0) (pa_cons (pe_op op_add (pv 1) pe_int) pa_nil)) pe_int)) (pss_cons (ps_if (pt_cmpR op_lt (pv 2) pe_int (nomark _)) (pss_one (ps_ret pe_non)) pss_nil) (pss_cons (ps_asg (pe_ix ix_list (pe_fld (pv 0) rfl) (pv 2) (fun _ _ => rfl)) (pg_tup (by rfl) (pgs_cons (pg_name (i := 3) sc_block_at.nd rfl (by first | exact Or.inl rfl | exact Or.inr rfl)) (pgs_cons (pg_name (i := 4) sc_block_at.nd rfl (by first | exact Or.inl rfl | exact Or.inr rfl)) (pgs_cons (pg_name (i := 5) sc_block_at.nd rfl (by first | exact Or.inl rfl | exact Or.inr rfl)) pgs_nil))))) (pss_one (ps_ret (pe_ifExp (pt_cmpR op_lt (pv 1) (pe_op op_add (pv 3) (pmeth M_size hr (pe_fld (pv 0) rfl) (pa_cons (pv 4) pa_nil))) (nomark _)) (pe_tup (pa_cons (pv 3) (pa_cons (pv 4) (pa_cons (pv 5) pa_nil)))) pe_non))))))), ?_⟩)
  · obtain ⟨y, zp, bl, dx, ps, ns, n, bs, v, rfl, _⟩ := h
    rfl
  · obtain ⟨y, zp, bl, dx, ps, ns, n, bs, v, rfl, L, hv, q0, q3⟩ := h
    refine ⟨_, rfl, v, rfl, hv, _, rfl, ?_⟩
    cases v with
    | int a =>
      by_cases a0 : 0 ≤ a
      · refine ifF (by rw [show addrB (.int a) = true from decide_eq_true a0]; rfl) ⟨_, rfl, _, rfl, y, _, dx, _, _, rfl, L.at_, T.ly, T.nCC, lay_cc .., _, _, rfl, rfl, _, rfl, ?_⟩
        by_cases a1 : a < n
        · obtain ⟨q1, q2⟩ := q0 a rfl a0 a1
          refine ifF (decide_eq_false (by omega)) ?_
          refine ⟨_, rfl, y, dx, _, rfl, L.at_, lay_nm (by decide +kernel), _, rfl, _, _, rfl, rfl, y, zp, bl, dx, ps, ns, n, a + 1, bs, rfl, L, fun i hi => ⟨_, _, rfl, rfl, ?_⟩⟩
          refine ⟨_, rfl, _, _, rfl, rfl, _, rfl, ?_⟩
          by_cases h0 : ((i : Int) - 1) < 0
          · refine ifT (decide_eq_true h0) (q1 fun b hb hh => ?_)
            have := (hi.holds L.wf L.gd hb hh.1 hh.2).1
            omega
          · refine ifF (decide_eq_false h0) ?_
            have e : ((i : Int) - 1) = ((i - 1 : Nat) : Int) := by omega
            have il : i - 1 < bs.length := by have := hi.1; omega
            obtain ⟨b, hb⟩ : ∃ b, bs[i - 1]? = some b := ⟨_, List.getElem?_eq_getElem il⟩
            have bm := List.mem_of_getElem? hb
            obtain ⟨p, hp, hT⟩ := L.rf.at_ hb
            have b1 := (hi.2 _ _ hb).mp (by omega)
            have bk := (L.wf.ok b bm).1
            obtain ⟨dz, l, z1, z2⟩ := id L.szs
            have hT' : H p = some (.tup [.int b.1, .int (b.2.1 : Nat), .bl b.2.2]) := hT
            refine ⟨_, rfl, y, _, dx, _, _, rfl, L.at_, T.ly, T.nBL, lay_bl .., _, rfl, bl, _, _, _, rfl, rfl, SqL.of L.lst, (by rw [e]; exact Refs.map_at hp), p, _, rfl, .inl (.inl hT'), rfl, _, _, rfl, _, _, rfl, _, _, rfl, rfl, ?_⟩
            refine ⟨_, rfl, _, rfl, _, rfl, y, _, dx, _, _, rfl, L.at_, T.ly, T.nST, lay_st .., zp, dz, _, rfl, z1, szF_no l (by decide +kernel), _, rfl, zp, ns, b.2.1, _, rfl, L.szs, sz_at bk, _, _, rfl, rfl, _, _, rfl, rfl, _, rfl, ?_⟩
            by_cases hc : a < b.1 + sz ns b.2.1
            · exact ifT (decide_eq_true hc) ⟨_, rfl, _, rfl, _, rfl, (by show 3 ≤ sizeLine; decide), fun t ht => q2 b bm (by omega) hc t ht⟩
            · refine ifF (decide_eq_false hc) (q1 fun c hcm hh => ?_)
              have e2 := (hi.holds L.wf L.gd hcm hh.1 hh.2).2
              rw [hb] at e2
              cases e2
              exact hc hh.2
        · exact ifT (decide_eq_true (by omega)) ⟨_, rfl, (by show 1 ≤ 1000; decide), raise_ok (q3 (decide_eq_false fun z => a1 z.2))⟩
      · exact ifT (by rw [show addrB (.int a) = false from decide_eq_false a0]; rfl) ⟨_, rfl, (by show 1 ≤ 1000; decide), raise_ok (q3 (decide_eq_false fun z => a0 z.1))⟩
    | _ => exact iteT ⟨_, rfl, (by show 1 ≤ 1000; decide), raise_ok (q3 rfl)⟩
/-- a range without a block -/
def FreeR (ns : List Int) (bs : List Blk) (lo hi : Int) : Prop := ∀ b ∈ bs, bEnd ns b ≤ lo ∨ hi ≤ b.1
/-- t is the lowest address of the range in a block -/
def Taken (ns : List Int) (bs : List Blk) (lo hi t : Int) : Prop := lo ≤ t ∧ t < hi ∧ (∃ b ∈ bs, b.1 ≤ t ∧ t < bEnd ns b) ∧ ∀ b ∈ bs, ∀ u, lo ≤ u → u < t → ¬ (b.1 ≤ u ∧ u < bEnd ns b)
theorem Taken.one {ns : List Int} {bs : List Blk} {lo hi t u : Int} (h : Taken ns bs lo hi t) (g : Taken ns bs lo hi u) : t = u := by
  obtain ⟨a1, a2, ⟨b, hb, b1, b2⟩, a4⟩ := h
  obtain ⟨c1, c2, ⟨c, hc, d1, d2⟩, c4⟩ := g
  by_cases h1 : t < u
  · exact absurd ⟨b1, b2⟩ (c4 b hb t a1 h1)
  · by_cases h2 : u < t
    · exact absurd ⟨d1, d2⟩ (a4 c hc u c1 h2)
    · omega
theorem Taken.nf {ns : List Int} {bs : List Blk} {lo hi t : Int} (h : Taken ns bs lo hi t) : ¬ FreeR ns bs lo hi := fun fr => by
  obtain ⟨a1, a2, ⟨b, hb, b1, b2⟩, a4⟩ := h
  rcases fr b hb with z | z <;> omega
def spFirst (K : PySem.W.Frag) : Sp := fun vs H Q _ => ∃ (y zp bl dx : Addr) (ps : List Addr) (ns : List Int) (n lo hi : Int) (bs : List Blk), vs = [.ref y, .int lo, .int hi] ∧ Ly K H y zp bl dx ps ns n bs ∧ 0 ≤ lo ∧ lo < hi ∧ hi ≤ n ∧
  (FreeR ns bs lo hi → ∀ H', Same H H' → Q .non H') ∧ (∀ t H', Taken ns bs lo hi t → Same H H' → Q (.int t) H')
theorem sc_first_taken : FnScope ["self", "low", "high", "index"] ["self", "low", "high"] (defScope (inClass (top 21) 12)) := ⟨rfl, rfl, rfl, by decide +kernel, rfl, by decide +kernel, by decide +kernel⟩
theorem ok_first (T : Tx K mg) (M_block_at : MfX P w K mg base 7 "Layout" "block_at" ["self", "address"] (spAt K)) (M_count_below : Mf P w K mg base 1 "Layout" "count_below" ["self", "address"] (spCB K)) (F : FnP K "first_taken" "Layout.first_taken" (inClass (top 21) 12) f fd) :
    FnOk P w K mg base CX0 8 f fd ["self", "low", "high"] (spFirst K) := by
  refine F.ok sc_first_taken (fun vs H Q E h => ?_) (fun cdv A outer s H vs Q E hr h => ⟨_, PSs.nox (pss_cons (ps_if (pt_cmpR op_notN (pmethX M_block_at hr passN (pv 0) (pa_cons (pv 1) pa_nil)) pe_non (nomark _)) (pss_one (ps_ret (pv 1))) pss_nil) (pss_cons (ps_set (i := 3) sc_first_taken.nd rfl (by first | exact Or.inl rfl | exact Or.inr rfl) (pmeth M_count_below hr (pv 0) (pa_cons (pv 1) pa_nil))) (pss_cons (ps_if (PW.pt (pw_and (pt_cmpR op_lt (pv 3) (pe_callB call_len_seq (by rfl) T.n_len (by decide +kernel) (pa_cons (pe_fld (pv 0) rfl) pa_nil)) (nomark _)) (pw_and1 (pt_cmpR op_lt (pe_ix ix_tup (pe_ix ix_list (pe_fld (pv 0) rfl) (pv 3) (fun _ _ => rfl)) pe_int (fun _ _ => rfl)) (pv 2) (nomark _))))) (pss_one (ps_ret (pe_ix ix_tup (pe_ix ix_list (pe_fld (pv 0) rfl) (pv 3) (fun _ _ => rfl)) pe_int (fun _ _ => rfl)))) pss_nil) (pss_one (ps_ret pe_non))))), ?_⟩)
  · obtain ⟨y, zp, bl, dx, ps, ns, n, lo, hi, bs, rfl, _⟩ := h
    rfl
  · obtain ⟨y, zp, bl, dx, ps, ns, n, lo, hi, bs, rfl, L, l0, l1, l2, q1, q2⟩ := h
    have sr : Same H H := fun _ _ e => e
    refine ⟨_, rfl, y, dx, _, rfl, L.at_, lay_nm (by decide +kernel), _, rfl, y, zp, bl, dx, ps, ns, n, bs, .int lo, rfl, L, .int lo, fun a ea a0 a1 => ?_, fun z => ?_⟩
    · cases ea
      refine ⟨fun none => ?_, fun b hb h1 h2 t ht => ?_⟩
      · refine ⟨rfl, _, rfl, iteF ?_⟩
        refine ⟨_, rfl, y, dx, _, rfl, L.at_, lay_nm (by decide +kernel), _, rfl, y, zp, bl, dx, ps, ns, n, lo, bs, rfl, L, fun i hb0 => ?_⟩
        have pl := L.rf.len
        refine ⟨_, rfl, _, rfl, y, _, dx, _, _, rfl, L.at_, T.ly, T.nBL, lay_bl .., bl, _, rfl, .inl (SqL.of L.lst), _, _, rfl, rfl, _, rfl, ?_⟩
        by_cases hc : ((i : Nat) : Int) < (((ps.map V.ref).length : Nat) : Int)
        · have il : i < bs.length := by rw [List.length_map] at hc; omega
          obtain ⟨b, hb⟩ : ∃ b, bs[i]? = some b := ⟨_, List.getElem?_eq_getElem il⟩
          obtain ⟨p, hp, hT⟩ := L.rf.at_ hb
          have bm := List.mem_of_getElem? hb
          have z := L.wf.pos L.gd bm
          have lob : lo ≤ b.1 := by
            have := hb0.2 i b hb
            omega
          -- blocks ahead of i end at or below lo; those behind start at or behind b
          have away : ∀ c ∈ bs, bEnd ns c ≤ lo ∨ b.1 ≤ c.1 := fun c hc2 => by
            obtain ⟨j, hj⟩ := List.getElem?_of_mem hc2
            by_cases ji : j < i
            · have k := (hb0.2 j c hj).mp ji
              have r := none c hc2
              have zc := L.wf.pos L.gd hc2
              exact .inl (by omega)
            · by_cases e : j = i
              · rw [e, hb] at hj
                cases hj
                exact .inr (Int.le_refl _)
              · exact .inr (by have := (L.wf.lt L.gd hb hj (by omega)).2; omega)
          refine ifT (decide_eq_true hc) ⟨_, rfl, y, _, dx, _, _, rfl, L.at_, T.ly, T.nBL, lay_bl .., _, rfl, bl, _, _, _, rfl, rfl, SqL.of L.lst, Refs.map_at hp, p, _, _, _, rfl, rfl, SqT.of hT, rfl, _, rfl, _, _, rfl, rfl, _, rfl, ?_⟩
          by_cases nb : b.1 < hi
          · refine ifT (decide_eq_true nb) ⟨_, rfl, y, _, dx, _, _, rfl, L.at_, T.ly, T.nBL, lay_bl .., _, rfl, bl, _, _, _, rfl, rfl, SqL.of L.lst, Refs.map_at hp, p, _, _, _, rfl, rfl, SqT.of hT, rfl, ?_⟩
            refine q2 b.1 H ⟨lob, nb, ⟨b, bm, Int.le_refl _, by unfold bEnd; omega⟩, fun c hc2 u u1 u2 uu => ?_⟩ sr
            rcases away c hc2 with y1 | y1 <;> omega
          · refine ifF (decide_eq_false nb) (q1 (fun c hc2 => ?_) H sr)
            rcases away c hc2 with y1 | y1
            · exact .inl y1
            · exact .inr (by omega)
        · refine ifF (decide_eq_false hc) (q1 (fun c hc2 => ?_) H sr)
          obtain ⟨j, hj⟩ := List.getElem?_of_mem hc2
          have jl := (List.getElem?_eq_some_iff.mp hj).1
          have hc3 : ¬ ((i : Nat) : Int) < ((bs.length : Nat) : Int) := by
            rw [List.length_map, pl] at hc
            exact hc
          have k := (hb0.2 j c hj).mp (by omega)
          have r := none c hc2
          exact .inl (by omega)
      · refine ⟨rfl, _, rfl, iteT ⟨_, rfl, ?_⟩⟩
        exact q2 lo _ ⟨Int.le_refl _, l1, ⟨b, hb, h1, h2⟩, fun c _ u u1 u2 => by omega⟩ (same_upd ht)
    · have : atB n (.int lo) = true := decide_eq_true ⟨l0, by omega⟩
      rw [this] at z
      cases z
end
end K21

set_option Elab.async false
set_option linter.all false
set_option maxRecDepth 100000
set_option maxHeartbeats 4000000
namespace K21
open PySem PySem.Spec PyProof.Rows L2 Gu Ex
abbrev FnK (K : PySem.W.Frag) (x qual : Str) (st : Stmt) (kws : List (Str × V)) (f : Addr) (fd : FuncData) : Prop := FunD K x qual (defArgs st) (defBody st) (defScope st) [] kws f fd
section
variable {ns : List Int} {n : Int} {bs : List Blk}
theorem mem_take_at {i : Nat} {c : Blk} (h : c ∈ bs.take i) : ∃ j, j < i ∧ bs[j]? = some c := by
  obtain ⟨j, hj, e⟩ := List.getElem_of_mem h
  rw [List.length_take] at hj
  refine ⟨j, by omega, ?_⟩
  rw [List.getElem_take] at e
  rw [← e]
  exact List.getElem?_eq_getElem (by omega)
theorem mem_drop_at {i : Nat} {c : Blk} (h : c ∈ bs.drop i) : ∃ j, i ≤ j ∧ bs[j]? = some c := by
  obtain ⟨j, hj, e⟩ := List.getElem_of_mem h
  rw [List.length_drop] at hj
  refine ⟨i + j, by omega, ?_⟩
  rw [List.getElem_drop] at e
  rw [← e]
  exact List.getElem?_eq_getElem (by omega)
/-- a block put in at its place -/
def insB (bs : List Blk) (i : Nat) (b : Blk) : List Blk := bs.take i ++ [b] ++ bs.drop i
theorem ins_wf {i : Nat} {b : Blk} (w : Wf ns n bs) (g : Good ns) (h : Below bs b.1 i) (k : b.2.1 < ns.length) (h0 : 0 ≤ b.1) (hd : sz ns b.2.1 ∣ b.1) (he : bEnd ns b ≤ n) (fr : FreeR ns bs b.1 (bEnd ns b)) : Wf ns n (insB bs i b) := by
  have z := (chain g).pos _ k
  have left : ∀ c ∈ bs.take i, bEnd ns c ≤ b.1 := fun c hc => by
    obtain ⟨j, hj, e⟩ := mem_take_at hc
    have h1 := (h.2 j c e).mp hj
    have r := fr c (List.mem_of_getElem? e)
    unfold bEnd at *
    omega
  have right : ∀ c ∈ bs.drop i, bEnd ns b ≤ c.1 := fun c hc => by
    obtain ⟨j, hj, e⟩ := mem_drop_at hc
    have h1 := h.2 j c e
    have r := fr c (List.mem_of_getElem? e)
    have zc := w.pos g (List.mem_of_getElem? e)
    unfold bEnd at *
    omega
  refine ⟨fun c hc => ?_, ?_⟩
  · unfold insB at hc
    rcases List.mem_append.mp hc with hc | hc
    · rcases List.mem_append.mp hc with hc | hc
      · exact w.ok c (List.mem_of_mem_take hc)
      · rw [List.mem_singleton.mp hc]
        exact ⟨k, h0, hd, he⟩
    · exact w.ok c (List.mem_of_mem_drop hc)
  · unfold insB
    rw [List.append_assoc]
    refine List.pairwise_append.mpr ⟨w.so.sublist (List.take_sublist _ _), ?_, fun c hc d hd => ?_⟩
    · refine List.pairwise_append.mpr ⟨List.pairwise_singleton _ _, w.so.sublist (List.drop_sublist _ _), fun c hc d hd => ?_⟩
      rw [List.mem_singleton.mp hc]
      exact right d hd
    · rcases List.mem_append.mp hd with hd | hd
      · rw [List.mem_singleton.mp hd]
        exact left c hc
      · have a1 := left c hc
        have a2 := right d hd
        unfold bEnd at *
        omega
theorem tot_app (xs ys : List Blk) : tot ns (xs ++ ys) = tot ns xs + tot ns ys := by
  unfold tot
  rw [List.map_append, List.sum_append]
theorem tot_one (b : Blk) : tot ns [b] = sz ns b.2.1 := by simp [tot]
theorem tot_ins (bs : List Blk) (i : Nat) (b : Blk) : tot ns (insB bs i b) = tot ns bs + sz ns b.2.1 := by
  unfold insB
  have e := congrArg (tot ns) (List.take_append_drop i bs)
  rw [tot_app] at e
  rw [tot_app, tot_app, tot_one]
  omega
theorem tot_era {j : Nat} {b : Blk} (h : bs[j]? = some b) : tot ns (bs.eraseIdx j) = tot ns bs - sz ns b.2.1 := by
  have e := congrArg (tot ns) (List.take_append_drop j bs)
  obtain ⟨hj, eb⟩ := List.getElem?_eq_some_iff.mp h
  rw [List.eraseIdx_eq_take_drop_succ, tot_app]
  rw [List.drop_eq_getElem_cons hj, tot_app, ← List.singleton_append, tot_app, tot_one, eb] at e
  omega
theorem era_wf {j : Nat} (w : Wf ns n bs) : Wf ns n (bs.eraseIdx j) := ⟨fun b hb => w.ok b (List.mem_of_mem_eraseIdx hb), w.so.sublist (List.eraseIdx_sublist _ _)⟩
/-- a block with another pin -/
def pinB (bs : List Blk) (j : Nat) (b : Blk) (p : Bool) : List Blk := bs.set j (b.1, b.2.1, p)
theorem pin_wf {j : Nat} {b : Blk} {p : Bool} (w : Wf ns n bs) (h : bs[j]? = some b) : Wf ns n (pinB bs j b p) := by
  obtain ⟨hj, eb⟩ := List.getElem?_eq_some_iff.mp h
  refine ⟨fun c hc => ?_, ?_⟩
  · rcases List.mem_or_eq_of_mem_set hc with z | z
    · exact w.ok c z
    · rw [z]
      exact w.ok b (List.mem_of_getElem? h)
  · refine List.pairwise_iff_getElem.mpr fun i k hi hk hik => ?_
    unfold pinB at hi hk ⊢
    rw [List.length_set] at hi hk
    have p0 := List.pairwise_iff_getElem.mp w.so i k hi hk hik
    rw [List.getElem_set, List.getElem_set]
    split
    · rename_i e
      subst e
      rw [if_neg (by omega)]
      rw [eb] at p0
      exact p0
    · split
      · rename_i e
        subst e
        rw [eb] at p0
        exact p0
      · exact p0
theorem tot_pin {j : Nat} {b : Blk} {p : Bool} (h : bs[j]? = some b) : tot ns (pinB bs j b p) = tot ns bs := by
  obtain ⟨hj, eb⟩ := List.getElem?_eq_some_iff.mp h
  unfold pinB tot
  rw [List.map_set]
  congr 1
  have e : sz ns b.2.1 = (bs.map fun b => sz ns b.2.1)[j]'(by rw [List.length_map]; exact hj) := by rw [List.getElem_map, eb]
  show (bs.map fun b => sz ns b.2.1).set j (sz ns b.2.1) = _
  rw [e, List.set_getElem_self]
end
/-- all but the layout's own two objects stay -/
def But2 (y bl : Addr) (H H' : Hp) : Prop := ∀ c o, c ≠ y → c ≠ bl → H c = some o → H' c = some o
theorem Refs.ins {α : Type} {f : α → List V} {H : Hp} {ps : List Addr} {ts : List α} {p : Addr} {t : α} (h : Refs f H ps ts) (i : Nat) (hp : H p = some (.tup (f t))) : Refs f H (ps.take i ++ [p] ++ ps.drop i) (ts.take i ++ [t] ++ ts.drop i) := ((h.take i).app (.one hp)).app (h.drop i)
theorem Refs.era {α : Type} {f : α → List V} {H : Hp} {ps : List Addr} {ts : List α} (h : Refs f H ps ts) (j : Nat) : Refs f H (ps.eraseIdx j) (ts.eraseIdx j) := by
  rw [List.eraseIdx_eq_take_drop_succ, List.eraseIdx_eq_take_drop_succ]
  exact (h.take j).app (h.drop (j + 1))
theorem Refs.set {α : Type} {f : α → List V} {H : Hp} {p : Addr} {t : α} (hp : H p = some (.tup (f t))) : ∀ {ps : List Addr} {ts : List α}, Refs f H ps ts → ∀ j, Refs f H (ps.set j p) (ts.set j t)
  | _, _, .nil, _ => .nil
  | _, _, .cons a b, 0 => .cons hp b
  | _, _, .cons a b, j + 1 => .cons a (Refs.set hp b j)
section
variable {P : Program} {w : World} {K : PySem.W.Frag} {mg : Str → Option Value} {base : Heap} {f : Addr} {fd : FuncData}
def spPut (K : PySem.W.Frag) : Sp := fun vs H Q E => ∃ (y zp bl dx : Addr) (ps : List Addr) (ns : List Int) (n : Int) (bs : List Blk) (k : Nat) (p : Bool) (v : V), vs = [.ref y, .int k, v, .bl p] ∧ Ly K H y zp bl dx ps ns n bs ∧ bs.length < 900 ∧ k < ns.length ∧ Any H v ∧
  (∀ a, v = .int a → regB ns k n v = true → FreeR ns bs a (a + sz ns k) → ∀ i ps' H', Below bs a i → Ly K H' y zp bl dx ps' ns n (insB bs i (a, k, p)) → But2 y bl H H' → Q .non H') ∧
  (∀ a t, v = .int a → regB ns k n v = true → Taken ns bs a (a + sz ns k) t → Raised K "Occupied" "address" (.int t) H E) ∧ (regB ns k n v = false → Raised K "InvalidAddress" "value" v H E)
theorem sc_put : FnScope ["self", "level", "address", "pinned", "size", "taken"] ["self", "level", "address", "pinned"] (defScope (inClass (top 21) 13)) := ⟨rfl, rfl, rfl, by decide +kernel, rfl, by decide +kernel, by decide +kernel⟩
theorem ok_put (T : Tx K mg) (M_size : Mf P w K mg base 5 "Sizes" "size" ["self", "level"] (spSize K)) (D_is_region : Df P w K mg base 7 "is_region" ["sizes", "length", "level", "address"] (spRegA K)) (M_first_taken : Mf P w K mg base 8 "Layout" "first_taken" ["self", "low", "high"] (spFirst K)) (MA : Ex.Ei P w K mg base "InvalidAddress" "value") (MO : Ex.Ei P w K mg base "Occupied" "address")
    (M_count_below : Mf P w K mg base 1 "Layout" "count_below" ["self", "address"] (spCB K)) (F : FnK K "put" "Layout.put" (inClass (top 21) 13) [("pinned", .bl false)] f fd) : FnOk P w K mg base (L2.CX P w) 9 f fd ["self", "level", "address", "pinned"] (spPut K) := by
  obtain ⟨fdA, FA, bA⟩ := MA.ex
  obtain ⟨fdO, FO, bO⟩ := MO.ex
  refine F.ok sc_put (fun vs H Q E h => ?_) (fun cdv A outer s H vs Q E hr h => ⟨_, (pss_cons (ps_set (i := 4) sc_put.nd rfl (by first | exact Or.inl rfl | exact Or.inr rfl) (pmeth M_size hr (pe_fld (pv 0) rfl) (pa_cons (pv 1) pa_nil))) (pss_cons (ps_if (pt_not (pt_val (pcall D_is_region hr (pa_cons (pe_fld (pv 0) rfl) (pa_cons (pe_fld (pv 0) rfl) (pa_cons (pv 1) (pa_cons (pv 2) pa_nil))))))) (pss_one (ps_raise rfl (takes_of (E := E) rfl rfl rfl rfl) (pmk_oexG T.eA.ox T.eA.ii T.eA.ti FA (hr.mono (by decide)) bA .nil pass0 rfl T.g_InvalidAddress (pa_cons (pv 2) pa_nil)))) pss_nil) (pss_cons (ps_set (i := 5) sc_put.nd rfl (by first | exact Or.inl rfl | exact Or.inr rfl) (pmeth M_first_taken hr (pv 0) (pa_cons (pv 2) (pa_cons (pe_op op_add (pv 2) (pv 4)) pa_nil)))) (pss_cons (ps_if (pt_cmpR op_notN (pv 5) pe_non (nomark _)) (pss_one (ps_raise rfl (takes_of (E := E) rfl rfl rfl rfl) (pmk_oexG T.eO.ox T.eO.ii T.eO.ti FO (hr.mono (by decide)) bO .nil pass0 rfl T.g_Occupied (pa_cons (pv 5) pa_nil)))) pss_nil) (pss_cons (ps_expr (pe_bm PySem.F.plainAttrs_list PySem.F.slot_list_insert PySem.F.type_list_insert mt_insert (pe_fld (pv 0) rfl) (pa_cons (pmeth M_count_below hr (pv 0) (pa_cons (pv 2) pa_nil)) (pa_cons (pe_tup (pa_cons (pv 2) (pa_cons (pv 1) (pa_cons (pv 3) pa_nil)))) pa_nil)))) (pss_one (ps_fldaug (pv 0) (pv 4) in_sub))))))), ?_⟩)
  · obtain ⟨y, zp, bl, dx, ps, ns, n, bs, k, p, v, rfl, _⟩ := h
    rfl
  · obtain ⟨y, zp, bl, dx, ps, ns, n, bs, k, p, v, rfl, L, l900, hk, hv, q0, qo, qa⟩ := h
    obtain ⟨dz, l, zz, zl, zy, zb, lb, ly, nyb⟩ := L.far
    have z := (chain L.gd).pos _ hk
    have pl := L.rf.len
    have sl : sizeLine = 16777216 := sizeLine_eq
    refine ⟨_, rfl, y, _, dx, _, _, rfl, L.at_, T.ly, T.nST, lay_st .., zp, dz, _, rfl, zz, szF_no l (by decide +kernel), _, rfl, zp, ns, k, _, rfl, L.szs, sz_at hk, ?_⟩
    refine ⟨_, rfl, y, _, dx, _, _, rfl, L.at_, T.ly, T.nST, lay_st .., _, rfl, y, _, dx, _, _, rfl, L.at_, T.ly, T.nCC, lay_cc .., _, rfl, _, rfl, zp, ns, k, n, v, rfl, L.szs, L.gd, hk, L.n1, L.n2, hv, _, rfl, ?_⟩
    cases er : regB ns k n v with
    | false => exact iteT ⟨_, rfl, (by show 1 ≤ 1000; decide), raise_ok (qa er)⟩
    | true =>
    obtain ⟨a, rfl, a0, a1, a2⟩ : ∃ a, v = .int a ∧ 0 ≤ a ∧ a % sz ns k = 0 ∧ a + sz ns k ≤ n := by
      cases v with
      | int a =>
        obtain ⟨e1, e2⟩ := He.ba (show (decide (0 ≤ a) && decide (a % sz ns k = 0 ∧ a + sz ns k ≤ n)) = true from er)
        exact ⟨a, rfl, of_decide_eq_true e1, (of_decide_eq_true e2).1, (of_decide_eq_true e2).2⟩
      | _ => cases er
    refine iteF ?_
    refine ⟨_, rfl, y, dx, _, rfl, L.at_, lay_nm (by decide +kernel), _, rfl, _, rfl, _, rfl, _, _, rfl, rfl, y, zp, bl, dx, ps, ns, n, a, a + sz ns k, bs, rfl, L, a0, by omega, a2, fun fr H1 s1 => ?_, fun t H1 tk s1 => ?_⟩
    case refine_2 => exact ⟨_, rfl, rfl, _, rfl, iteT ⟨_, rfl, (by show 1 ≤ 1000; decide), raise_ok ((qo a t rfl er tk).same s1)⟩⟩
    refine ⟨_, rfl, rfl, _, rfl, iteF ?_⟩
    have q : ∀ i ps' H', Below bs a i → Ly K H' y zp bl dx ps' ns n (insB bs i (a, k, p)) → But2 y bl H1 H' → Q .non H' := fun i ps' H' h1 h2 h3 => q0 a rfl er fr i ps' H' h1 h2 fun c o c1 c2 e => h3 c o c1 c2 (s1 _ _ e)
    have L := L.same s1
    replace zz := s1 _ _ zz
    replace zl := s1 _ _ zl
    refine ⟨_, rfl, y, _, dx, _, _, rfl, L.at_, T.ly, T.nBL, lay_bl .., .inl ⟨rfl, _, SqL.of L.lst⟩, _, rfl, y, dx, _, rfl, L.at_, lay_nm (by decide +kernel), _, rfl, y, zp, bl, dx, ps, ns, n, a, bs, rfl, L, fun i hi => ?_⟩
    refine ⟨_, rfl, _, rfl, _, rfl, (by show 3 ≤ sizeLine; decide), fun t ht => ?_⟩
    have ntb : bl ≠ t := ne_of_none L.lst ht
    have nty : y ≠ t := ne_of_none L.at_ ht
    refine ⟨bl, _, i, _, rfl, rfl, (by rw [upd_ne ntb]; exact L.lst), (by rw [List.length_map]; omega), by omega, (by have := hi.1; have := L.ln; omega), ?_⟩
    have keep : ∀ {c : Addr} {o : HO} {u v : HO}, c ≠ y → c ≠ bl → H1 c = some o → (upd (upd (upd H1 t (.tup (blkV (a, k, p)))) bl u) y v) c = some o := fun {c o u v} c1 c2 e => by
      rw [upd_ne c1, upd_ne c2, upd_ne (ne_of_none e ht)]
      exact e
    refine ⟨_, rfl, y, _, dx, _, _, rfl, (by rw [upd_ne nyb, upd_ne nty]; exact L.at_), T.ly, T.nFC, lay_fc .., _, rfl, _, _, rfl, rfl, dx, _, (by rw [upd_ne nyb, upd_ne nty]; exact L.at_), (by show 4 < 1000; decide), ?_⟩
    refine q i (ps.take i ++ [t] ++ ps.drop i) _ hi ⟨?_, ?_, ?_, ?_, ins_wf L.wf L.gd hi hk a0 (M16.dvd0 a1) a2 fr, L.gd, L.n1, L.n2, ?_, ⟨dz, l, keep zy zb zz, keep ly lb zl, lb⟩⟩ fun c o c1 c2 e => keep c1 c2 e
    · rw [upd_same, lay_put, tot_ins]
      have e : n - tot ns bs - sz ns k = n - (tot ns bs + sz ns k) := by omega
      exact congrArg (fun z => some (HO.ins (He.ga K "Layout") dx (layF zp n z bl))) e
    · exact ⟨dz, l, keep zy zb zz, keep ly lb zl⟩
    · rw [upd_ne nyb.symm, upd_same, List.map_append, List.map_append, List.map_take, List.map_drop]
      rfl
    · refine Refs.ins (L.rf.mono fun c xs e => ?_) i ?_
      · exact keep (fun z => by rw [z, L.at_] at e; cases e) (fun z => by rw [z, L.lst] at e; cases e) e
      · rw [upd_ne nty.symm, upd_ne ntb.symm, upd_same]
        rfl
    · unfold insB
      rw [List.length_append, List.length_append, List.length_take, List.length_drop, List.length_singleton]
      omega
theorem era_map (ps : List Addr) (j : Nat) : (ps.map V.ref).eraseIdx j = (ps.eraseIdx j).map V.ref := by
  rw [List.eraseIdx_eq_take_drop_succ, List.eraseIdx_eq_take_drop_succ, List.map_append, List.map_take, List.map_drop]
theorem ix_nat {k n : Nat} (h : k < n) : ixN n (k : Int) = some k := by
  unfold ixN
  rw [if_pos (by omega), if_pos (by omega), Int.toNat_natCast]
def spTake (K : PySem.W.Frag) : Sp := fun vs H Q E => ∃ (y zp bl dx : Addr) (ps : List Addr) (ns : List Int) (n : Int) (bs : List Blk) (v : V), vs = [.ref y, v] ∧ Ly K H y zp bl dx ps ns n bs ∧ Any H v ∧ ((∀ b ∈ bs, v ≠ .int b.1) → Raised K "UnknownBlock" "value" v H E) ∧
  ∀ (j : Nat) (b : Blk), bs[j]? = some b → v = .int b.1 → ∀ t ps' H', H t = none → Ly K H' y zp bl dx ps' ns n (bs.eraseIdx j) → H' t = some (.tup [.int (b.2.1 : Nat), .bl b.2.2]) → But2 y bl H H' → Q (.ref t) H'
theorem sc_take_out : FnScope ["self", "address", "start", "level", "is_pinned"] ["self", "address"] (defScope (inClass (top 21) 14)) := ⟨rfl, rfl, rfl, by decide +kernel, rfl, by decide +kernel, by decide +kernel⟩
theorem ok_take (T : Tx K mg) (M_index_of : MfX P w K mg base 4 "Layout" "index_of" ["self", "address"] (spIx K)) (M_size : Mf P w K mg base 5 "Sizes" "size" ["self", "level"] (spSize K)) (F : FnP K "take_out" "Layout.take_out" (inClass (top 21) 14) f fd) :
    FnOk P w K mg base (L2.CX P w) 6 f fd ["self", "address"] (spTake K) := by
  refine F.ok sc_take_out (fun vs H Q E h => ?_) (fun cdv A outer s H vs Q E hr h => ⟨_, (pss_cons (ps_asg (pe_bm PySem.F.plainAttrs_list PySem.F.slot_list_pop PySem.F.type_list_pop mt_popAt (pe_fld (pv 0) rfl) (pa_cons (pmethX M_index_of hr (passX (takes_of (E := E) rfl rfl rfl rfl)) (pv 0) (pa_cons (pv 1) pa_nil)) pa_nil)) (pg_tup (by rfl) (pgs_cons (pg_name (i := 2) sc_take_out.nd rfl (by first | exact Or.inl rfl | exact Or.inr rfl)) (pgs_cons (pg_name (i := 3) sc_take_out.nd rfl (by first | exact Or.inl rfl | exact Or.inr rfl)) (pgs_cons (pg_name (i := 4) sc_take_out.nd rfl (by first | exact Or.inl rfl | exact Or.inr rfl)) pgs_nil))))) (pss_cons (ps_fldaug (pv 0) (pmeth M_size hr (pe_fld (pv 0) rfl) (pa_cons (pv 3) pa_nil)) in_add) (pss_one (ps_ret (pe_tup (pa_cons (pv 3) (pa_cons (pv 4) pa_nil))))))), ?_⟩)
  · obtain ⟨y, zp, bl, dx, ps, ns, n, bs, v, rfl, _⟩ := h
    rfl
  · obtain ⟨y, zp, bl, dx, ps, ns, n, bs, v, rfl, L, hv, q3, q0⟩ := h
    obtain ⟨dz, l, zz, zl, zy, zb, lb, ly, nyb⟩ := L.far
    have pl := L.rf.len
    have bn := L.ln
    refine ⟨_, rfl, y, _, dx, _, _, rfl, L.at_, T.ly, T.nBL, lay_bl .., .inl ⟨rfl, _, SqL.of L.lst⟩, _, rfl, y, dx, _, rfl, L.at_, lay_nm (by decide +kernel), _, rfl, y, zp, bl, dx, ps, ns, n, bs, v, rfl, L, hv, fun j b hj hb => ?_, q3⟩
    have q := q0 j b hj hb
    have jl := (List.getElem?_eq_some_iff.mp hj).1
    have hk := (L.wf.ok b (List.mem_of_getElem? hj)).1
    obtain ⟨p, hp, hT⟩ := L.rf.at_ hj
    have hT' : H p = some (.tup [.int b.1, .int (b.2.1 : Nat), .bl b.2.2]) := hT
    refine ⟨bl, _, j, j, .ref p, rfl, rfl, L.lst, by omega, by omega, (by rw [List.length_map]; exact (seqIndex_at (by omega) (by omega)).trans (by rw [Int.toNat_natCast])), (by rw [List.getElem?_map, hp]; rfl), ?_⟩
    have keep0 : ∀ {c : Addr} {o : HO} {u : HO}, c ≠ bl → H c = some o → (upd H bl u) c = some o := fun {c o u} c2 e => by
      rw [upd_ne c2]
      exact e
    have pb : p ≠ bl := fun z => by rw [z, L.lst] at hT'; cases hT'
    have py : p ≠ y := fun z => by rw [z, L.at_] at hT'; cases hT'
    refine ⟨p, _, rfl, .inl (.inl (keep0 pb hT')), rfl, _, _, rfl, _, _, rfl, _, _, rfl, rfl, ?_⟩
    refine ⟨_, rfl, y, _, dx, _, _, rfl, keep0 nyb L.at_, T.ly, T.nFC, lay_fc .., _, rfl, y, _, dx, _, _, rfl, keep0 nyb L.at_, T.ly, T.nST, lay_st .., zp, dz, _, rfl, keep0 zb zz, szF_no l (by decide +kernel), _, rfl, zp, ns, b.2.1, _, rfl, ⟨dz, l, keep0 zb zz, keep0 lb zl⟩, sz_at hk, _, _, rfl, rfl, dx, _, keep0 nyb L.at_, (by show 4 < 1000; decide), ?_⟩
    refine ⟨_, rfl, _, rfl, (by show 2 ≤ sizeLine; decide), fun t ht => ?_⟩
    have keep : ∀ {c : Addr} {o : HO} {u v v' : HO}, c ≠ y → c ≠ bl → H c = some o → (upd (upd (upd H bl u) y v) t v') c = some o ∨ c = t := fun {c o u v v'} c1 c2 e => by
      by_cases ct : c = t
      · exact .inr ct
      · rw [upd_ne ct, upd_ne c1, upd_ne c2]
        exact .inl e
    have ty : t ≠ y := fun z => by
      rw [z, upd_same] at ht
      cases ht
    have tb : t ≠ bl := fun z => by
      rw [z, upd_ne nyb.symm, upd_same] at ht
      cases ht
    have tn : H t = none := by
      rw [upd_ne ty, upd_ne tb] at ht
      exact ht
    have kp : ∀ {c : Addr} {o : HO} {u v v' : HO}, c ≠ y → c ≠ bl → H c = some o → (upd (upd (upd H bl u) y v) t v') c = some o := fun {c o u v v'} c1 c2 e => by
      rw [upd_ne (ne_of_none e tn), upd_ne c1, upd_ne c2]
      exact e
    refine q t (ps.eraseIdx j) _ tn ⟨?_, ⟨dz, l, kp zy zb zz, kp ly lb zl⟩, ?_, (L.rf.mono fun c xs e => ?_).era j, era_wf L.wf, L.gd, L.n1, L.n2, ?_, ⟨dz, l, kp zy zb zz, kp ly lb zl, lb⟩⟩ upd_same fun c o c1 c2 e => kp c1 c2 e
    · rw [upd_ne ty.symm, upd_same, lay_put, tot_era hj]
      have e : n - tot ns bs + sz ns b.2.1 = n - (tot ns bs - sz ns b.2.1) := by omega
      exact congrArg (fun z => some (HO.ins (He.ga K "Layout") dx (layF zp n z bl))) e
    · rw [upd_ne tb.symm, upd_ne nyb.symm, upd_same, era_map]
    · exact kp (fun z => by rw [z, L.at_] at e; cases e) (fun z => by rw [z, L.lst] at e; cases e) e
    · have := List.length_eraseIdx_le bs j
      omega
def spPin (K : PySem.W.Frag) : Sp := fun vs H Q E => ∃ (y zp bl dx : Addr) (ps : List Addr) (ns : List Int) (n : Int) (bs : List Blk) (v : V) (p : Bool), vs = [.ref y, v, .bl p] ∧ Ly K H y zp bl dx ps ns n bs ∧ Any H v ∧ ((∀ b ∈ bs, v ≠ .int b.1) → Raised K "UnknownBlock" "value" v H E) ∧
  ∀ (j : Nat) (b : Blk), bs[j]? = some b → v = .int b.1 → ∀ ps' H', Ly K H' y zp bl dx ps' ns n (pinB bs j b p) → But2 y bl H H' → Q .non H'
theorem sc_set_pinned : FnScope ["self", "address", "pinned", "index", "start", "level", "was_pinned"] ["self", "address", "pinned"] (defScope (inClass (top 21) 15)) := ⟨rfl, rfl, rfl, by decide +kernel, rfl, by decide +kernel, by decide +kernel⟩
theorem ok_pin (T : Tx K mg) (M_index_of : MfX P w K mg base 4 "Layout" "index_of" ["self", "address"] (spIx K)) (F : FnP K "set_pinned" "Layout.set_pinned" (inClass (top 21) 15) f fd) :
    FnOk P w K mg base (L2.CX P w) 5 f fd ["self", "address", "pinned"] (spPin K) := by
  refine F.ok sc_set_pinned (fun vs H Q E h => ?_) (fun cdv A outer s H vs Q E hr h => ⟨_, (pss_cons (ps_set (i := 3) sc_set_pinned.nd rfl (by first | exact Or.inl rfl | exact Or.inr rfl) (pmethX M_index_of hr (passX (takes_of (E := E) rfl rfl rfl rfl)) (pv 0) (pa_cons (pv 1) pa_nil))) (pss_cons (ps_asg (pe_ix ix_list (pe_fld (pv 0) rfl) (pv 3) (fun _ _ => rfl)) (pg_tup (by rfl) (pgs_cons (pg_name (i := 4) sc_set_pinned.nd rfl (by first | exact Or.inl rfl | exact Or.inr rfl)) (pgs_cons (pg_name (i := 5) sc_set_pinned.nd rfl (by first | exact Or.inl rfl | exact Or.inr rfl)) (pgs_cons (pg_name (i := 6) sc_set_pinned.nd rfl (by first | exact Or.inl rfl | exact Or.inr rfl)) pgs_nil))))) (pss_one (ps_asg (pe_tup (pa_cons (pv 4) (pa_cons (pv 5) (pa_cons (pv 2) pa_nil)))) (pg_sub (pe_fld (pv 0) rfl) (pv 3) set_list))))), ?_⟩)
  · obtain ⟨y, zp, bl, dx, ps, ns, n, bs, v, p, rfl, _⟩ := h
    rfl
  · obtain ⟨y, zp, bl, dx, ps, ns, n, bs, v, pp, rfl, L, hv, q3, q0⟩ := h
    obtain ⟨dz, l, zz, zl, zy, zb, lb, ly, nyb⟩ := L.far
    have pl := L.rf.len
    have bn := L.ln
    refine ⟨_, rfl, y, dx, _, rfl, L.at_, lay_nm (by decide +kernel), _, rfl, y, zp, bl, dx, ps, ns, n, bs, v, rfl, L, hv, fun j b hj hb => ?_, q3⟩
    have q := q0 j b hj hb
    have jl := (List.getElem?_eq_some_iff.mp hj).1
    obtain ⟨p, hp, hT⟩ := L.rf.at_ hj
    have hT' : H p = some (.tup [.int b.1, .int (b.2.1 : Nat), .bl b.2.2]) := hT
    refine ⟨_, rfl, y, _, dx, _, _, rfl, L.at_, T.ly, T.nBL, lay_bl .., _, rfl, bl, _, _, _, rfl, rfl, SqL.of L.lst, Refs.map_at hp, p, _, rfl, .inl (.inl hT'), rfl, _, _, rfl, _, _, rfl, _, _, rfl, rfl, ?_⟩
    refine ⟨_, rfl, _, rfl, _, rfl, (by show 3 ≤ sizeLine; decide), fun t ht => ?_⟩
    have sm := same_upd (o := .tup [.int b.1, .int (b.2.1 : Nat), .bl pp]) ht
    have ntb : bl ≠ t := ne_of_none L.lst ht
    have kp : ∀ {c : Addr} {o : HO} {u : HO}, c ≠ bl → H c = some o → (upd (upd H t (.tup [.int b.1, .int (b.2.1 : Nat), .bl pp])) bl u) c = some o := fun {c o u} c2 e => by
      rw [upd_ne c2]
      exact sm _ _ e
    refine ⟨_, rfl, y, _, dx, _, _, rfl, sm _ _ L.at_, T.ly, T.nBL, lay_bl .., _, rfl, bl, _, _, j, rfl, rfl, sm _ _ L.lst, ?_, ?_⟩
    · rw [List.length_map]
      exact ix_nat (by omega)
    · refine q (ps.set j t) _ ⟨?_, ⟨dz, l, kp zb zz, kp lb zl⟩, ?_, Refs.set (t := (b.1, b.2.1, pp)) ?_ (L.rf.mono fun c xs e => ?_) j, pin_wf L.wf hj, L.gd, L.n1, L.n2, ?_, ⟨dz, l, kp zb zz, kp lb zl, lb⟩⟩ fun c o _ c2 e => kp c2 e
      · rw [tot_pin hj]
        exact kp nyb L.at_
      · rw [upd_same, List.map_set]
      · rw [upd_ne ntb.symm, upd_same]
        rfl
      · exact kp (fun z => by rw [z, L.lst] at e; cases e) e
      · unfold pinB
        rw [List.length_set]
        exact bn
end
end K21

set_option Elab.async false
set_option linter.all false
set_option maxRecDepth 100000
set_option maxHeartbeats 4000000
namespace K21
open PySem PySem.Spec PyProof.Rows L2 Gu Ex
def blkD (b : Blk) : PyData := .tuple [.int b.1, .int (b.2.1 : Nat), .bool b.2.2]
theorem Refs.dp {K : PySem.W.Frag} {H : Hp} {qs : List Addr} {bs : List Blk} (h : Refs blkV H qs bs) : DpAll K H (qs.map V.ref) (bs.map blkD) := by
  induction h with
  | nil => exact .nil
  | cons e _ ih => exact .cons (.tup (SqT.of e) (.cons (.int _) (.cons (.int _) (.cons (.bl _) .nil)))) ih
theorem lay_blk : ∀ bs : List Blk, PyData.canLayAll0 (bs.map blkD) = true
  | [] => rfl
  | b :: r => by
    have e : (blkD b).canLay0 = true := rfl
    simp only [List.map_cons, PyData.canLayAll0, e, lay_blk r, Bool.and_self]
theorem dep_blk : ∀ bs : List Blk, PyData.depthAll (bs.map blkD) ≤ 1
  | [] => Nat.zero_le _
  | b :: r => by
    have e : (blkD b).depth = 1 := rfl
    simp only [List.map_cons, PyData.depthAll, e]
    have := dep_blk r
    omega
theorem shaped_blk (bs : List Blk) : SeqAt.shaped (.list (bs.map blkD)) = true := by
  have c : (PyData.list (bs.map blkD)).canLay0 = true := lay_blk bs
  have e : (PyData.list (bs.map blkD)).depth ≤ 2 := by
    show PyData.depthAll (bs.map blkD) + 1 ≤ 2
    have := dep_blk bs
    omega
  unfold SeqAt.shaped
  rw [c]
  simp
  omega
theorem trues_len (i : Nat) : (List.map V.bl (List.replicate i true)).length = i := by simp
theorem trues_more (i : Nat) : List.map V.bl (List.replicate i true) ++ [V.bl true] = List.map V.bl (List.replicate (i + 1) true) := by
  rw [List.replicate_succ', List.map_append]
  rfl
theorem all_trues (i : Nat) : (List.replicate i true).all id = true := by
  rw [List.all_replicate]
  split <;> rfl

theorem eqv_ints : ∀ ns ms : List Int, PyData.eqvAll (ns.map PyData.int) (ms.map PyData.int) = decide (ns = ms)
  | [], [] => rfl
  | [], _ :: _ => rfl
  | _ :: _, [] => rfl
  | n :: ns, m :: ms => by
    show ((n == m) && PyData.eqvAll (ns.map PyData.int) (ms.map PyData.int)) = _
    rw [eqv_ints ns ms]
    by_cases h : n = m
    · subst h
      simp
    · simp [h]
theorem eqv_blk (b c : Blk) : PyData.eqv (blkD b) (blkD c) = decide (b = c) := by
  obtain ⟨a, k, p⟩ := b
  obtain ⟨a2, k2, p2⟩ := c
  show ((a == a2) && (((k : Int) == (k2 : Int)) && ((p == p2) && true))) = _
  by_cases h1 : a = a2
  · by_cases h2 : k = k2
    · by_cases h3 : p = p2
      · subst h1 h2 h3
        simp
      · simp [h1, h2, h3]
    · have h2' : ¬ (k : Int) = (k2 : Int) := by omega
      simp [h1, h2, h2']
  · simp [h1]
theorem eqv_blks : ∀ bs cs : List Blk, PyData.eqvAll (bs.map blkD) (cs.map blkD) = decide (bs = cs)
  | [], [] => rfl
  | [], _ :: _ => rfl
  | _ :: _, [] => rfl
  | b :: bs, c :: cs => by
    show (PyData.eqv (blkD b) (blkD c) && PyData.eqvAll (bs.map blkD) (cs.map blkD)) = _
    rw [eqv_blks bs cs, eqv_blk]
    by_cases h : b = c
    · subst h
      simp
    · simp [h]
theorem dp_ints {K : PySem.W.Frag} {H : Hp} : ∀ ns : List Int, DpAll K H (ns.map V.int) (ns.map PyData.int)
  | [] => .nil
  | n :: r => .cons (.int n) (dp_ints r)
theorem flat : ∀ ns : List Int, PyData.depthAll (ns.map PyData.int) = 0
  | [] => rfl
  | n :: r => by
    show max 0 (PyData.depthAll (r.map PyData.int)) = 0
    rw [flat r]
    rfl
theorem can_lay : ∀ ns : List Int, PyData.canLayAll0 (ns.map PyData.int) = true
  | [] => rfl
  | n :: r => by simp only [List.map_cons, PyData.canLayAll0, PyData.canLay0, can_lay r, Bool.and_self]
theorem shaped_ints (ns : List Int) : SeqAt.shaped (.list (ns.map PyData.int)) = true := by
  have e : (PyData.list (ns.map PyData.int)).depth = 1 := by
    show PyData.depthAll (ns.map PyData.int) + 1 = 1
    rw [flat]
  have c : (PyData.list (ns.map PyData.int)).canLay0 = true := can_lay ns
  unfold SeqAt.shaped
  rw [c, e]
  rfl
section
variable {P : Program} {w : World} {K : PySem.W.Frag} {mg : Str → Option Value} {base : Heap} {f : Addr} {fd : FuncData}
def spBlk (K : PySem.W.Frag) : Sp := fun vs H Q _ => ∃ (y zp bl dx : Addr) (ps : List Addr) (ns : List Int) (n : Int) (bs : List Blk), vs = [.ref y] ∧ Ly K H y zp bl dx ps ns n bs ∧ ∀ l, H l = none → Q (.ref l) (upd H l (.lst (ps.map V.ref)))
theorem sc_blocks : FnScope ["self"] ["self"] (defScope (inClass (top 21) 7)) := ⟨rfl, rfl, rfl, by decide +kernel, rfl, by decide +kernel, by decide +kernel⟩
theorem ok_blk (T : Tx K mg) (F : FnP K "blocks" "Layout.blocks" (inClass (top 21) 7) f fd) : FnOk P w K mg base CX0 1 f fd ["self"] (spBlk K) := by
  refine F.ok sc_blocks (fun vs H Q E h => ?_) (fun cdv A outer s H vs Q E hr h => ⟨_, PSs.nox (pss_one (ps_ret (pe_callTy call_list_of (by rfl) T.n_list (by decide +kernel) (pa_cons (pe_fld (pv 0) rfl) pa_nil)))), ?_⟩)
  · obtain ⟨y, zp, bl, dx, ps, ns, n, bs, rfl, _⟩ := h
    rfl
  · obtain ⟨y, zp, bl, dx, ps, ns, n, bs, rfl, L, q⟩ := h
    exact ⟨_, rfl, y, _, dx, _, _, rfl, L.at_, T.ly, T.nBL, lay_bl .., bl, _, rfl, .inl (SqL.of L.lst), q⟩
def spSEq (K : PySem.W.Frag) : Sp := fun vs H Q _ => ∃ (p q : Addr) (ns ms : List Int), vs = [.ref p, .ref q] ∧ SzAt (He.ga K "Sizes") H p ns ∧ SzAt (He.ga K "Sizes") H q ms ∧ Q (.bl (decide (ns = ms))) H
theorem sc_Sizes_eq : FnScope ["self", "other"] ["self", "other"] (defScope (inClass (top 15) 5)) := ⟨rfl, rfl, rfl, by decide +kernel, rfl, by decide +kernel, by decide +kernel⟩
theorem ok_seq (T : Tx K mg) (F : FnP K "__eq__" "Sizes.__eq__" (inClass (top 15) 5) f fd) : FnOk P w K mg base CX0 1 f fd ["self", "other"] (spSEq K) := by
  refine F.ok sc_Sizes_eq (fun vs H Q E h => ?_) (fun cdv A outer s H vs Q E hr h => ⟨_, PSs.nox (pss_one (ps_ret (pe_and (pe_callB call_isi (by rfl) T.n_isinstance (by decide +kernel) (pa_cons (pv 1) (pa_cons (pe_glob (v := .ref _) rfl T.g_Sizes rfl) pa_nil))) (pe_one (pe_cmpR (op_eqD hr.units) (pe_fld (pv 0) rfl) (pe_fld (pv 1) rfl) (nomark _)))))), ?_⟩)
  · obtain ⟨p, q, ns, ms, rfl, _⟩ := h
    rfl
  · obtain ⟨p, r, ns, ms, rfl, ⟨dx, l, h1, h2⟩, ⟨dy, m, k1, k2⟩, q⟩ := h
    refine ⟨_, rfl, _, _, _, _, true, rfl, .own _, T.iS.ty k1, T.iS.ki, _, rfl, iteT ?_⟩
    refine ⟨_, rfl, p, _, dx, _, _, rfl, h1, T.cl, T.nSL, szF_get l, _, rfl, r, _, dy, _, _, rfl, k1, T.cl, T.nSL, szF_get m, _, _, .lst (SqL.of h2) (dp_ints ns), .lst (SqL.of k2) (dp_ints ms), shaped_ints _, shaped_ints _, ?_⟩
    show Q (.bl (PyData.eqvAll (ns.map PyData.int) (ms.map PyData.int))) H
    rw [eqv_ints]
    exact q
def spLen (K : PySem.W.Frag) : Sp := fun vs H Q _ => ∃ (p : Addr) (ns : List Int), vs = [.ref p] ∧ SzAt (He.ga K "Sizes") H p ns ∧ Q (.int (ns.length : Nat)) H
theorem sc_Sizes_len : FnScope ["self"] ["self"] (defScope (inClass (top 15) 6)) := ⟨rfl, rfl, rfl, by decide +kernel, rfl, by decide +kernel, by decide +kernel⟩
theorem ok_len (T : Tx K mg) (F : FnP K "__len__" "Sizes.__len__" (inClass (top 15) 6) f fd) : FnOk P w K mg base CX0 1 f fd ["self"] (spLen K) := by
  refine F.ok sc_Sizes_len (fun vs H Q E h => ?_) (fun cdv A outer s H vs Q E hr h => ⟨_, PSs.nox (pss_one (ps_ret (pe_callB call_len_seq (by rfl) T.n_len (by decide +kernel) (pa_cons (pe_fld (pv 0) rfl) pa_nil)))), ?_⟩)
  · obtain ⟨p, ns, rfl, _⟩ := h
    rfl
  · obtain ⟨p, ns, rfl, ⟨dx, l, h1, h2⟩, q⟩ := h
    refine ⟨_, rfl, p, _, dx, _, _, rfl, h1, T.cl, T.nSL, szF_get l, l, _, rfl, .inl (SqL.of h2), ?_⟩
    rw [List.length_map]
    exact q
def spLEq (K : PySem.W.Frag) : Sp := fun vs H Q _ => ∃ (y zp bl dx y2 zp2 bl2 dx2 : Addr) (ps ps2 : List Addr) (ns ns2 : List Int) (n n2 : Int) (bs bs2 : List Blk), vs = [.ref y, .ref y2] ∧ Ly K H y zp bl dx ps ns n bs ∧ Ly K H y2 zp2 bl2 dx2 ps2 ns2 n2 bs2 ∧
  ns = ns2 ∧ n = n2 ∧ Q (.bl (decide (bs = bs2))) H
theorem sc_Layout_eq : FnScope ["self", "other"] ["self", "other"] (defScope (inClass (top 21) 1)) := ⟨rfl, rfl, rfl, by decide +kernel, rfl, by decide +kernel, by decide +kernel⟩
theorem ok_leq (T : Tx K mg) (E_Sizes : EqOf P w K mg base 1 "Sizes" (spSEq K)) (F : FnP K "__eq__" "Layout.__eq__" (inClass (top 21) 1) f fd) : FnOk P w K mg base CX0 2 f fd ["self", "other"] (spLEq K) := by
  refine F.ok sc_Layout_eq (fun vs H Q E h => ?_) (fun cdv A outer s H vs Q E hr h => ⟨_, PSs.nox (pss_one (ps_ret (pe_and (pe_callB call_isi (by rfl) T.n_isinstance (by decide +kernel) (pa_cons (pv 1) (pa_cons (pe_glob (v := .ref _) rfl T.g_Layout rfl) pa_nil))) (pe_and (pe_cmpR (op_own E_Sizes hr) (pe_fld (pv 0) rfl) (pe_fld (pv 1) rfl) (nomark _)) (pe_and (pe_cmpR op_eq (pe_fld (pv 0) rfl) (pe_fld (pv 1) rfl) (nomark _)) (pe_one (pe_cmpR (op_eqD hr.units) (pe_fld (pv 0) rfl) (pe_fld (pv 1) rfl) (nomark _)))))))), ?_⟩)
  · obtain ⟨y, zp, bl, dx, y2, zp2, bl2, dx2, ps, ps2, ns, ns2, n, n2, bs, bs2, rfl, _⟩ := h
    rfl
  · obtain ⟨y, zp, bl, dx, y2, zp2, bl2, dx2, ps, ps2, ns, ns2, n, n2, bs, bs2, rfl, L, L2, rfl, rfl, q⟩ := h
    obtain ⟨dz, l, z1, z2⟩ := id L.szs
    obtain ⟨dz2, l2, z3, z4⟩ := id L2.szs
    refine ⟨_, rfl, _, _, _, _, true, rfl, .own _, T.iL.ty L2.at_, T.iL.ki, _, rfl, iteT ?_⟩
    refine ⟨_, rfl, y, _, dx, _, _, rfl, L.at_, T.ly, T.nST, lay_st .., _, rfl, y2, _, dx2, _, _, rfl, L2.at_, T.ly, T.nST, lay_st .., zp, zp2, dz, dz2, _, _, rfl, rfl, z1, z3, zp, zp2, ns, ns, rfl, L.szs, L2.szs, ⟨_, rfl⟩, _, rfl, ifT (decide_eq_true rfl) ?_⟩
    refine ⟨_, rfl, y, _, dx, _, _, rfl, L.at_, T.ly, T.nCC, lay_cc .., _, rfl, y2, _, dx2, _, _, rfl, L2.at_, T.ly, T.nCC, lay_cc .., rfl, _, rfl, ifT (decide_eq_true rfl) ?_⟩
    refine ⟨_, rfl, y, _, dx, _, _, rfl, L.at_, T.ly, T.nBL, lay_bl .., _, rfl, y2, _, dx2, _, _, rfl, L2.at_, T.ly, T.nBL, lay_bl .., _, _, .lst (SqL.of L.lst) L.rf.dp, .lst (SqL.of L2.lst) L2.rf.dp, shaped_blk _, shaped_blk _, ?_⟩
    show Q (.bl (PyData.eqvAll (bs.map blkD) (bs2.map blkD))) H
    rw [eqv_blks]
    exact q
def spFree (K : PySem.W.Frag) : Sp := fun vs H Q _ => ∃ (y zp bl dx : Addr) (ps : List Addr) (ns : List Int) (n : Int) (bs : List Blk), vs = [.ref y] ∧ Ly K H y zp bl dx ps ns n bs ∧ Q (.int (n - tot ns bs)) H
theorem sc_free : FnScope ["self"] ["self"] (defScope (inClass (top 21) 6)) := ⟨rfl, rfl, rfl, by decide +kernel, rfl, by decide +kernel, by decide +kernel⟩
theorem ok_free (T : Tx K mg) (F : FnP K "free" "Layout.free" (inClass (top 21) 6) f fd) : FnOk P w K mg base CX0 1 f fd ["self"] (spFree K) := by
  refine F.ok sc_free (fun vs H Q E h => ?_) (fun cdv A outer s H vs Q E hr h => ⟨_, PSs.nox (pss_one (ps_ret (pe_fld (pv 0) rfl))), ?_⟩)
  · obtain ⟨y, zp, bl, dx, ps, ns, n, bs, rfl, _⟩ := h
    rfl
  · obtain ⟨y, zp, bl, dx, ps, ns, n, bs, rfl, L, q⟩ := h
    exact ⟨_, rfl, y, _, dx, _, _, rfl, L.at_, T.ly, T.nFC, lay_fc .., q⟩
end
end K21

set_option Elab.async false
set_option linter.all false
set_option maxRecDepth 100000
set_option maxHeartbeats 4000000
/-! sorted of tuples (int, int, bool) with distinct first parts -/
namespace SrtO
open PySem PyProof.Rows Srt
section
variable {prog : Program} {w : World} {A : Around} {E : Value → Shared → Prop} {s : Shared}
def IsTrip (h : Heap) (v : Value) (x : Int) : Prop := ∃ a o t y u b n, v = .ref a ∧ h.get? a = some o ∧ o.cls = .type "tuple" ∧ o.data = .seq #[.int x t, .int y u, .bool b] n
theorem IsTrip.keeps {h h' : Heap} {v : Value} {x : Int} (p : IsTrip h v x) (k : ∀ b o, h.get? b = some o → o.cls = .type "tuple" → h'.get? b = some o) : IsTrip h' v x := by
  obtain ⟨a, o, t, y, u, b, n, e, ho, hc, hd⟩ := p
  exact ⟨a, o, t, y, u, b, n, e, k _ _ ho hc, hc, hd⟩
abbrev ltI (k : Value → Int) (v u : Value) : Bool := decide (k v < k u)
theorem swo_int {α : Type} (k : α → Int) : Swo (fun v u => decide (k v < k u)) := by
  refine ⟨fun x y h => ?_, fun x y z h1 h2 => ?_⟩
  · have a := of_decide_eq_true h
    exact decide_eq_false (by omega)
  · have a := of_decide_eq_false h1
    have b := of_decide_eq_false h2
    exact decide_eq_false (by omega)
theorem trip_cmp {vs : List Value} {k : Value → Int} (hp : ∀ v ∈ vs, IsTrip s.heap v (k v)) (hd : ∀ v ∈ vs, ∀ u ∈ vs, k v = k u → v = u) : Cmp prog w A s (tuples' true) (fun p => p.1 ∈ vs) (lt2 (ltI k)) := by
  intro p q hm hm'
  show wpAny (model prog w) A (keyLt' (tuples' true) p.1 q.1) (fun r s' => s' = s ∧ r = decide (k p.1 < k q.1)) (fun _ _ => False) s
  have h1 := hp _ hm
  have h2 := hp _ hm'
  by_cases ek : k p.1 = k q.1
  · have ev := hd _ hm _ hm' ek
    rw [← ev]
    rw [decide_eq_false (Int.lt_irrefl _)]
    generalize k p.1 = x at h1
    obtain ⟨a, o, t, y, u, b, n, e, ho, hc, hdd⟩ := h1
    rw [e]
    refine PySem.W.kat_lt ho hdd ho hdd ?_
    show PySem.W.KatLex prog w A true (decide (3 < 3)) _ [(.int x t, .int x t), (.int y u, .int y u), (.bool b, .bool b)] 0 s
    refine PySem.W.kat_cons (SeqAt.EqAt.int_int x t x t prog w _ _ ?_)
    refine PySem.W.kat_go (fun _ => ?_) (fun e1 => absurd e1 (by simp))
    refine PySem.W.kat_yes (PySem.W.kat_cons (SeqAt.EqAt.int_int y u y u prog w _ _ ?_))
    refine PySem.W.kat_go (fun _ => ?_) (fun e1 => absurd e1 (by simp))
    refine PySem.W.kat_yes (PySem.W.kat_cons (SeqAt.EqAt.bool_bool b b prog w _ _ ?_))
    refine PySem.W.kat_go (fun _ => ?_) (fun e1 => absurd e1 (by simp))
    exact PySem.W.kat_yes (PySem.W.kat_nil ⟨rfl, rfl⟩)
  · generalize k p.1 = x at h1 ek
    generalize k q.1 = x' at h2 ek
    obtain ⟨a, o, t, y, u, b, n, e, ho, hc, hdd⟩ := h1
    obtain ⟨a', o', t', y', u', b', n', e', ho', hc', hdd'⟩ := h2
    rw [e, e']
    refine PySem.W.kat_lt ho hdd ho' hdd' ?_
    show PySem.W.KatLex prog w A true (decide (3 < 3)) _ [(.int x t, .int x' t'), (.int y u, .int y' u'), (.bool b, .bool b')] 0 s
    refine PySem.W.kat_cons (SeqAt.EqAt.int_int x t x' t' prog w _ _ ?_)
    refine PySem.W.kat_go (fun e1 => absurd (by simpa using e1) ek) (fun e1 => ?_)
    exact PySem.W.kat_no (oneLt_int ⟨rfl, rfl⟩)
theorem firsts3 {h : Heap} : ∀ {vs : List Value}, (∀ v ∈ vs, ∃ x, IsTrip h v x) → ∃ fs : List Value, PySem.W.KatTups h vs fs ∧ fs.length = vs.length ∧ ∀ f ∈ fs, ∃ x t, f = Value.int x t
  | [], _ => ⟨[], PySem.W.KatTups.nil, rfl, fun _ hm => by simp at hm⟩
  | v :: vs, hp => by
    obtain ⟨fs, h1, h2, h3⟩ := firsts3 (vs := vs) fun v' hm => hp v' (List.mem_cons_of_mem _ hm)
    obtain ⟨x, a, o, t, y, u, b, n, e, ho, hc, hd⟩ := hp v (List.mem_cons_self ..)
    subst e
    refine ⟨.int x t :: fs, PySem.W.KatTups.cons ho hc hd rfl h1, by rw [List.length_cons, List.length_cons, h2], fun f hm => ?_⟩
    rcases List.mem_cons.mp hm with rfl | hm
    · exact ⟨x, t, rfl⟩
    · exact h3 f hm
theorem trips_sortable {a : Addr} {vs : List Value} {k : Value → Int} (h0 : 0 < vs.length) (hp : ∀ v ∈ vs, IsTrip s.heap v (k v)) (hd : ∀ v ∈ vs, ∀ u ∈ vs, k v = k u → v = u) (ha : ∀ o, s.heap.get? a = some o → o.cls ≠ .type "tuple") : SortableO prog w A s a vs (ltI k) := by
  intro h' keep
  have hp' : ∀ v ∈ vs, IsTrip h' v (k v) := fun v hm => (hp v hm).keeps fun b o e c => keep b o (fun z => by subst z; exact ha o e c) e
  obtain ⟨fs, h1, h2, h3⟩ := firsts3 fun v hm => ⟨_, hp' v hm⟩
  refine ⟨tuples' true, fun Q E hq => ?_, trip_cmp hp' hd⟩
  refine PySem.W.kat_kind (T := .type "int") h1 (by omega) (fun f hm => ?_) (by rfl) ?_
  · obtain ⟨x, t, rfl⟩ := h3 f hm
    exact PySem.W.Looks.now
  · have e : (Value.type "int" != Value.type "tuple") = true := by first | decide +kernel | rfl | decide
    rw [e]
    exact hq
theorem sorted_trips {l : Addr} {vs : List Value} {k : Value → Int} {Q : Value → Shared → Prop} (hl : s.heap.IsList l vs.toArray) (hz : vs.length ≤ sizeLine) (hp : ∀ v ∈ vs, IsTrip s.heap v (k v)) (hdi : ∀ v ∈ vs, ∀ u ∈ vs, k v = k u → v = u)
    (h : ∀ (h' : Heap) (d : Addr) (out : List Value), Srtd (ltI k) out → Stb (ltI k) out vs → (∀ b o, s.heap.get? b = some o → h'.get? b = some o) → s.heap.objs.size ≤ d → (∃ n, h'.get? d = some (seqObj "list" out.toArray n)) → Q (.ref d) { s with heap := h' }) :
    wpAny (model prog w) A (call (.builtin "sorted") [.ref l]) Q E s := by
  refine sorted_ord (swo_int k) hl hz (fun h2 h₁ a ha kk => ?_) fun out hs hb => ?_
  · refine trips_sortable (s := { s with heap := h₁ }) (by omega) (fun v hm => (hp v hm).keeps fun b o e _ => (kk b o e).2) hdi fun o e => ?_
    have e' : some o = some (seqObj "list" vs.toArray 0) := e.symm.trans ha
    cases e'
    intro c
    exact absurd (Value.type.inj c) (by decide)
  · exact h _ _ out hs hb (fun b o e => sortedAll_old e) (Nat.le_succ _) (sortedAll_at s.heap vs out.toArray)
end
end SrtO
namespace L2
open PySem PySem.Spec PyProof.Rows
theorem vals3S {a b c : V} {us : List Value} (r : Vals [a, b, c] us) : ∃ u v w, us = [u, v, w] ∧ RelV a u ∧ RelV b v ∧ RelV c w := by
  cases r with
  | cons h1 r => cases r with
    | cons h2 r => cases r with
      | cons h3 r => cases r with
        | nil => exact ⟨_, _, _, rfl, h1, h2, h3⟩
def rSortedB (K : PySem.W.Frag) : List V → Hp → VK → Prop := fun vs H Q => ∃ (a : Addr) (xs : List V) (k : V → Int), vs = [V.ref a] ∧ SqL K H a xs ∧ (∀ x ∈ xs, ∃ t j b, x = V.ref t ∧ H t = some (.tup [.int (k x), .int j, .bl b])) ∧ (∀ x ∈ xs, ∀ y ∈ xs, k x = k y → x = y) ∧
  ∀ ys p, ys.Pairwise (fun x y => k x ≤ k y) → ys.Perm xs → H p = none → Q (.ref p) (upd H p (.lst ys))
section
variable {X : Cx}
theorem cr_sortedB : CallR X (.builtin "sorted") (rSortedB X.K) := by
  intro pins s σ H vs us Q I r h
  obtain ⟨a, xs, k, rfl, hs, hx, hdi, q⟩ := h
  obtain ⟨its, rv, hl, hz⟩ := I.list hs
  obtain ⟨u, rfl, ru⟩ := vals1 r
  obtain rfl : u = Value.ref a := ru
  obtain ⟨e1, e2⟩ := refs_back rv fun x m => by
    obtain ⟨t, _, _, e, _⟩ := hx x m
    exact ⟨t, e⟩
  have mem : ∀ v ∈ its, backV v ∈ xs := fun v hv => by rw [e1]; exact List.mem_map.mpr ⟨_, hv, rfl⟩
  refine SrtO.sorted_trips (k := fun u => k (backV u)) hl.isList (by rw [← rv.length]; exact hz) (fun v hv => ?_) (fun v hv u hu e => ?_) fun h' d out h1 h2 kp hd hn => ?_
  · obtain ⟨t, rfl⟩ := e2 v hv
    have hm : V.ref t ∈ xs := mem _ hv
    obtain ⟨t', j, b, e, ht⟩ := hx _ hm
    cases e
    obtain ⟨_, its2, r2, o, ho, hc, n, hd⟩ := I.hok _ _ ht
    obtain ⟨u1, u2, u3, rfl, ri, rj, rb⟩ := vals3S r2
    obtain ⟨t1, rfl⟩ := ri
    obtain ⟨t2, rfl⟩ := rj
    have e3 : u3 = .bool b := rb
    subst e3
    exact ⟨t, o, t1, j, t2, b, n, rfl, ho, hc, hd⟩
  · have z := hdi _ (mem v hv) _ (mem u hu) e
    obtain ⟨t, rfl⟩ := e2 v hv
    obtain ⟨t', rfl⟩ := e2 u hu
    have z2 : V.ref t = V.ref t' := z
    rw [V.ref.inj z2]
  · have h3 : ∀ u ∈ out, ∃ a, u = Value.ref a := fun u hu => e2 u (h2.perm.mem_iff.mp hu)
    obtain ⟨n, hn⟩ := hn
    have hb : (out.map backV).Perm xs := by
      rw [e1]
      exact h2.perm.map backV
    refine ⟨.ref d, upd H d (.lst (out.map backV)), I.laid (t' := s.toks) kp hd ⟨?_, out, n, vals_back h3, hn⟩, rfl, q _ d (List.pairwise_map.mpr (h1.imp fun {x y} e => ?_)) hb (I.hok.fresh hd)⟩
    · rw [hb.length_eq]
      exact hz
    · have z := of_decide_eq_false e
      exact Int.not_lt.mp z
end
end L2

set_option Elab.async false
set_option linter.all false
set_option maxRecDepth 100000
set_option maxHeartbeats 4000000
set_option pp.maxSteps 900
/-! min of a list of blocks -/
namespace K21
open PySem PySem.Spec PyProof.Rows L2 Gu Ex
theorem lt_blk {b c : Blk} (h : b.1 ≠ c.1) : PySem.W.dataLt (blkD b) (blkD c) = decide (b.1 < c.1) := by
  have e : PyData.eqv (.int b.1) (.int c.1) = false := by
    show (b.1 == c.1) = false
    exact beq_eq_false_iff_ne.mpr h
  show PySem.W.dataLt (.tuple _) (.tuple _) = _
  rw [PySem.W.dataLt_tuple, PySem.W.dataLt_all_no rfl e, PySem.W.dataLt_int]
theorem min_blk : ∀ (bs : List Blk) (b : Blk), ∃ m, PySem.W.minD (blkD b) (bs.map blkD) = blkD m ∧ m.1 ≤ b.1 ∧ ∀ c ∈ bs, m.1 ≤ c.1
  | [], b => ⟨b, rfl, Int.le_refl _, fun _ h => nomatch h⟩
  | c :: bs, b => by
    obtain ⟨d, ed, h1, h2⟩ : ∃ d : Blk, (if PySem.W.dataLt (blkD c) (blkD b) = true then blkD c else blkD b) = blkD d ∧ d.1 ≤ b.1 ∧ d.1 ≤ c.1 := by
      by_cases e : c.1 = b.1
      · cases PySem.W.dataLt (blkD c) (blkD b) with
        | true => exact ⟨c, rfl, by omega, by omega⟩
        | false => exact ⟨b, rfl, by omega, by omega⟩
      · rw [lt_blk e]
        by_cases l : c.1 < b.1
        · exact ⟨c, if_pos (decide_eq_true l), by omega, by omega⟩
        · exact ⟨b, if_neg (fun z => l (of_decide_eq_true z)), by omega, by omega⟩
    obtain ⟨m, em, k1, k2⟩ := min_blk bs d
    refine ⟨m, ?_, by omega, fun x hx => ?_⟩
    · show PySem.W.minD (if PySem.W.dataLt (blkD c) (blkD b) = true then blkD c else blkD b) (bs.map blkD) = _
      rw [ed]
      exact em
    · rcases List.mem_cons.mp hx with rfl | hx
      · omega
      · exact k2 x hx
theorem alike_blk (bs : List Blk) : PySem.W.AlikeAll (bs.map blkD) := by
  refine ⟨fun x hx y hy => ?_, fun x hx => ?_⟩
  · obtain ⟨b, _, rfl⟩ := List.mem_map.mp hx
    obtain ⟨c, _, rfl⟩ := List.mem_map.mp hy
    rfl
  · obtain ⟨b, _, rfl⟩ := List.mem_map.mp hx
    intro z
    cases z
theorem reads_int {h : Heap} {x : Int} {t : Tok} {d : PyData} {as : List Addr} (r : Reads h (.int x t) d as) : d = .int x := by
  cases r
  rfl
/-- min(xs) of a list of blocks that is not empty -/
def rMinB (K : PySem.W.Frag) : List V → Hp → VK → Prop := fun vs H Q => ∃ (a : Addr) (qs : List Addr) (bs : List Blk), vs = [V.ref a] ∧ SqL K H a (qs.map V.ref) ∧ Refs blkV H qs bs ∧ bs ≠ [] ∧ ∀ q b, b ∈ bs → H q = some (.tup (blkV b)) → (∀ c ∈ bs, b.1 ≤ c.1) → Q (.ref q) H
theorem cr_minB {X : Cx} (hc : X.calm = true) (hu : X.A.units + 64 < cLine) : CallR X (.builtin "min") (rMinB X.K) := by
  intro pins s σ H vs us Q I r h
  obtain ⟨a, qs, bs, rfl, hs, rf, hne, q⟩ := h
  obtain ⟨its, rv, hl, _⟩ := I.list hs
  rw [Vals.ref1 r]
  match bs, rf, hne, q with
  | b0 :: bs, rf, _, q =>
    obtain ⟨as, rd⟩ := Dp.readsAll I _ _ _ rf.dp rv
    refine PySem.W.min_list_data (x := blkD b0) (xs := bs.map blkD) (I.ok.hd hc) hl.isList (by simpa using rd) (alike_blk (b0 :: bs)) ?_ fun i v h' tk bs' hv rd' kp => ?_
    · have := dep_blk (b0 :: bs)
      show X.A.units + 1 + PyData.depthAll ((b0 :: bs).map blkD) < cLine
      omega
    · obtain ⟨m, em, k1, k2⟩ := min_blk bs b0
      rw [em] at rd'
      have hv2 : its[i]? = some v := by simpa using hv
      have il : i < (b0 :: bs).length := by
        have h1 := rv.length
        rw [List.length_map, rf.len] at h1
        rw [h1]
        exact (List.getElem?_eq_some_iff.mp hv2).1
      obtain ⟨b, hb⟩ : ∃ b, (b0 :: bs)[i]? = some b := ⟨_, List.getElem?_eq_getElem il⟩
      obtain ⟨p, hp, hT⟩ := rf.at_ hb
      obtain ⟨u, hu2, ru⟩ := Vals.get rv (show (qs.map V.ref)[i]? = some (V.ref p) by rw [List.getElem?_map, hp]; rfl)
      rw [hv2] at hu2
      cases hu2
      obtain rfl : v = Value.ref p := ru
      have hT' : H p = some (.tup [.int b.1, .int (b.2.1 : Nat), .bl b.2.2]) := hT
      obtain ⟨_, its2, r2, o, ho, hcl, n, hd⟩ := I.hok _ _ hT'
      obtain ⟨u1, u2, u3, rfl, ri, rj, rb⟩ := vals3S r2
      obtain ⟨t1, rfl⟩ := ri
      have em1 : b.1 = m.1 := by
        cases rd' with
        | tuple e1 e2 e3 e4 =>
          have e5 := kp _ _ ho
          rw [e1] at e5
          cases e5
          rw [hd] at e3
          cases e3
          cases e4 with
          | cons e6 _ =>
            exact (PyData.int.inj (reads_int e6)).symm
      exact ⟨.ref p, H, I.kept kp, rfl, q p b (List.mem_of_getElem? hb) hT (fun c hc2 => by
        rw [em1]
        rcases List.mem_cons.mp hc2 with rfl | hc2
        · exact k1
        · exact k2 c hc2)⟩
end K21

set_option Elab.async false
set_option linter.all false
set_option maxRecDepth 100000
set_option maxHeartbeats 4000000
/-! xs != [] -/
namespace L2
open PySem PySem.Spec PyProof.Rows
section
variable {X : Cx}
def rNeNil (K : PySem.W.Frag) : R2 := fun x y H Q => ∃ a b xs, x = .ref a ∧ y = .ref b ∧ SqL K H a xs ∧ SqL K H b [] ∧ Q (.bl (!decide (xs.length = 0))) H
theorem op_neNil (hu : X.A.units + 64 < cLine) : OpR X (compareOp .NotEq) (rNeNil X.K) := by
  intro pins s σ H x y v u Q I rx ry h
  obtain ⟨a, b, xs, rfl, rfl, ha, hb, q⟩ := h
  cases rx
  cases ry
  obtain ⟨us, r1, p1, _⟩ := I.list ha
  obtain ⟨ws, r2, p2, _⟩ := I.list hb
  cases r2
  have hl := r1.length
  by_cases hz : xs.length = 0
  · rw [decide_eq_true hz] at q
    have hs : us.toArray.size = (#[] : Array Value).size := by rw [List.size_toArray, ← hl, hz]; rfl
    refine SeqAt.RcNeAt.lists (e := fun _ => true) p1.isList p2.isList hs (by omega) (fun j h1 h2 => absurd h2 (Nat.not_lt_zero j)) X.prog X.w _ _ ?_
    rw [show ((List.range us.toArray.size).all fun _ => true) = true from List.all_eq_true.mpr fun _ _ => rfl]
    exact ⟨.bl false, H, I, rfl, q⟩
  · rw [decide_eq_false hz] at q
    refine SeqAt.RcNeAt.lists_lengths p1.isList p2.isList ?_ (by omega) X.prog X.w _ _ ⟨.bl true, H, I, rfl, q⟩
    have : us.toArray.size ≠ 0 := by rw [List.size_toArray, ← hl]; exact hz
    simpa using this
end
end L2

set_option Elab.async false
set_option linter.all false
set_option maxRecDepth 100000
set_option maxHeartbeats 400000
set_option pp.maxSteps 900
namespace K21
open PySem PySem.Spec PyProof.Rows L2 Gu Ex
theorem u1 {k : Nat} {A : Around} (h : Room k A) : A.units + 1 < cLine := by
  have := h.units
  omega
abbrev kS : Key := Sum.inr ("sizes" : Str)
abbrev kL : Key := Sum.inr ("length" : Str)
abbrev kB : Key := Sum.inr ("blocks" : Str)
def wd3 (sa : Addr) (n : Int) (ba : Addr) : List (Key × V) := [(kS, .ref sa), (kL, .int n), (kB, .ref ba)]
section
variable {sa ba ba' : Addr} {n : Int}
theorem wd_s : valV (wd3 sa n ba) kS = some (.ref sa) := by
  simp [wd3, valV, List.find?]
theorem wd_l : valV (wd3 sa n ba) kL = some (.int n) := by
  have e1 : decide (kS = kL) = false := by decide +kernel
  have e2 : decide (kL = kL) = true := decide_eq_true rfl
  simp only [wd3, valV, List.find?, e1, e2]
  rfl
theorem wd_b : valV (wd3 sa n ba) kB = some (.ref ba) := by
  have e1 : decide (kS = kB) = false := by decide +kernel
  have e2 : decide (kL = kB) = false := by decide +kernel
  have e3 : decide (kB = kB) = true := decide_eq_true rfl
  simp only [wd3, valV, List.find?, e1, e2, e3]
  rfl
theorem wd_put : putK (wd3 sa n ba) kB (.ref ba') = wd3 sa n ba' := by
  have e1 : (kS = kB) = False := eq_false (by decide +kernel)
  have e2 : (kL = kB) = False := eq_false (by decide +kernel)
  simp [wd3, putK, e1, e2]
end
/-- the law's own record of the blocks -/
structure WR (r : Addr) (H : Hp) (wa sa ba : Addr) (qs : List Addr) (ns : List Int) (n : Int) (bs : List Blk) : Prop where
  w : H wa = some (.dK (wd3 sa n ba))
  s : H sa = some (.lst (ns.map V.int))
  b : H ba = some (.lst (qs.map V.ref))
  rf : Refs blkV H qs bs
  sr : sa ≠ r
  br : ba ≠ r
  g : Good ns
  wf : Wf ns n bs
  n1 : 1 ≤ n
  n2 : n ≤ 1000000000000
  ln : bs.length ≤ 100
theorem Rng.ntup {H : Hp} {r p : Addr} {xs : List V} (h : Rng H r) (e : H p = some (.tup xs)) : p ≠ r := fun z => by
  obtain ⟨a, b, e2, _⟩ := h
  rw [z, e2] at e
  cases e
theorem Rng.ndct {H : Hp} {r p : Addr} {xs : List (Key × V)} (h : Rng H r) (e : H p = some (.dK xs)) : p ≠ r := fun z => by
  obtain ⟨a, b, e2, _⟩ := h
  rw [z, e2] at e
  cases e
theorem Rng.nins {H : Hp} {r p C dx : Addr} {fs : List (Str × V)} (h : Rng H r) (e : H p = some (.ins C dx fs)) : p ≠ r := fun z => by
  obtain ⟨a, b, e2, _⟩ := h
  rw [z, e2] at e
  cases e
theorem Stp.same {r : Addr} {H H1 H2 : Hp} (a : Stp r H H1) (s : Same H1 H2) : Stp r H H2 := by
  obtain ⟨⟨x, y, e, z⟩, k⟩ := a
  exact ⟨⟨x, y, s _ _ e, z⟩, fun b u n e2 => s _ _ (k b u n e2)⟩
section
variable {K : PySem.W.Frag} {r wa sa ba y zp bl dx : Addr} {H H' : Hp} {qs ps : List Addr} {ns : List Int} {n : Int} {bs cs : List Blk}
theorem WR.same (h : WR r H wa sa ba qs ns n bs) (s : Same H H') : WR r H' wa sa ba qs ns n bs := ⟨s _ _ h.w, s _ _ h.s, s _ _ h.b, h.rf.same s, h.sr, h.br, h.g, h.wf, h.n1, h.n2, h.ln⟩
theorem WR.stp (h : WR r H wa sa ba qs ns n bs) (R : Rng H r) (t : Stp r H H') : WR r H' wa sa ba qs ns n bs :=
  ⟨t.2 _ _ (R.ndct h.w) h.w, t.2 _ _ h.sr h.s, t.2 _ _ h.br h.b, h.rf.mono fun p xs e => t.2 p _ (R.ntup e) e, h.sr, h.br, h.g, h.wf, h.n1, h.n2, h.ln⟩
/-- the layout, apart from the drawing list -/
structure LR (K : PySem.W.Frag) (r : Addr) (H : Hp) (y zp bl dx : Addr) (ps : List Addr) (ns : List Int) (n : Int) (bs : List Blk) : Prop where
  L : Ly K H y zp bl dx ps ns n bs
  br : bl ≠ r
  zr : ∃ dz l, H zp = some (.ins (He.ga K "Sizes") dz (szF l)) ∧ H l = some (.lst (ns.map V.int)) ∧ l ≠ r ∧ l ≠ bl
theorem LR.same (h : LR K r H y zp bl dx ps ns n bs) (s : Same H H') : LR K r H' y zp bl dx ps ns n bs := by
  obtain ⟨L, br, dz, l, h1, h2, h3⟩ := h
  exact ⟨L.same s, br, dz, l, s _ _ h1, s _ _ h2, h3⟩
theorem LR.stp (h : LR K r H y zp bl dx ps ns n bs) (R : Rng H r) (t : Stp r H H') : LR K r H' y zp bl dx ps ns n bs := by
  obtain ⟨L, br, dz, l, h1, h2, h3, h4⟩ := h
  have k1 := t.2 _ _ (R.nins h1) h1
  have k2 := t.2 _ _ h3 h2
  exact ⟨⟨t.2 _ _ (R.nins L.at_) L.at_, ⟨dz, l, k1, k2⟩, t.2 _ _ br L.lst, L.rf.mono fun p xs e => t.2 p _ (R.ntup e) e, L.wf, L.gd, L.n1, L.n2, L.ln, ⟨dz, l, k1, k2, h4⟩⟩, br, dz, l, k1, k2, h3, h4⟩
/-- the layout y and the record wa hold the same blocks -/
def Sta (K : PySem.W.Frag) (r y wa : Addr) (ns : List Int) (n : Int) (bs : List Blk) (H : Hp) : Prop := ∃ (zp bl dx : Addr) (ps : List Addr) (sa ba : Addr) (qs : List Addr), Rng H r ∧ LR K r H y zp bl dx ps ns n bs ∧ WR r H wa sa ba qs ns n bs ∧ sa ≠ bl ∧ ba ≠ bl
theorem Sta.stp (h : Sta K r y wa ns n bs H) (t : Stp r H H') : Sta K r y wa ns n bs H' := by
  obtain ⟨zp, bl, dx, ps, sa, ba, qs, R, l, w, a, b⟩ := h
  exact ⟨zp, bl, dx, ps, sa, ba, qs, t.1, l.stp R t, w.stp R t, a, b⟩
theorem Sta.rng (h : Sta K r y wa ns n bs H) : Rng H r := by
  obtain ⟨zp, bl, dx, ps, sa, ba, qs, R, _⟩ := h
  exact R
theorem get_s (h : WR r H wa sa ba qs ns n bs) : DGet H wa (.str "sizes") (some (.ref sa)) := by
  have e := DGet.k (k := kS) h.w
  rw [wd_s] at e
  exact e
theorem get_l (h : WR r H wa sa ba qs ns n bs) : DGet H wa (.str "length") (some (.int n)) := by
  have e := DGet.k (k := kL) h.w
  rw [wd_l] at e
  exact e
theorem get_b (h : WR r H wa sa ba qs ns n bs) : DGet H wa (.str "blocks") (some (.ref ba)) := by
  have e := DGet.k (k := kB) h.w
  rw [wd_b] at e
  exact e
end
theorem nx_of {E0 : Ends} {F : List (Option V) → Hp → Prop} {rt : VK} {σ σ' : List (Option V)} {H : Hp} (e : σ = σ') (h : F σ' H) : ({ E0 with nx := F, rt := rt } : Ends).nx σ H := e ▸ h
theorem go_nm {i : Nat} {x : V} {σ : List (Option V)} {H : Hp} {Q : List (Option V) → Hp → Prop} (h : Q (σ.set i (some x)) H) : gName i x σ H Q := h
theorem go_asg {te : TE} {i : Nat} {u : TS} {D : Ends} {σ : List (Option V)} {H : Hp} (h : te σ H (fun x H1 => u D (σ.set i (some x)) H1)) : tSeq (tAsg te (gName i)) u D σ H := h
/-- the ways of a value come together -/
theorem joinI {te : TE} {σ : List (Option V)} {H : Hp} {Q : VK} (Pc : Int → Hp → Prop) (h1 : ∀ Q' : VK, (∀ c G, Pc c G → Q' (.int c) G) → te σ H Q') (h2 : ∀ c G, Pc c G → Q (.int c) G) : te σ H Q := h1 Q h2
theorem joinB {te : TE} {σ : List (Option V)} {H : Hp} {Q : VK} (Pc : Bool → Hp → Prop) (h1 : ∀ Q' : VK, (∀ c G, Pc c G → Q' (.bl c) G) → te σ H Q') (h2 : ∀ c G, Pc c G → Q (.bl c) G) : te σ H Q := h1 Q h2
theorem joinW {te : TE} {σ : List (Option V)} {H : Hp} {Q : VK} (Pc : V → Hp → Prop) (h1 : ∀ Q' : VK, (∀ c G, Pc c G → Q' c G) → te σ H Q') (h2 : ∀ c G, Pc c G → Q c G) : te σ H Q := h1 Q h2
theorem join2 {α β : Type} {G : Prop} (Pc : α → β → Prop) {R : α → β → Prop} (h1 : (∀ a b, Pc a b → R a b) → G) (h2 : ∀ a b, Pc a b → R a b) : G := h1 h2
theorem dv_ok {i s : Int} (h1 : 1 ≤ s) (h2 : s ≤ 1000000000) : CDivW i s := wide_div (b := 64) (by omega) (by omega) (by decide) (by decide)
section
variable {P : Program} {w : World} {K : PySem.W.Frag} {mg : Str → Option Value} {base : Heap} {f : Addr} {fd : FuncData}
def spLn : Sp := fun vs H Q _ => ∃ (r o : Addr) (ns : List Int), vs = [.ref r, .ref o] ∧ Rng H r ∧ Good ns ∧ H o = some (.lst (ns.map V.int)) ∧ o ≠ r ∧ ∀ n H', 1 ≤ n → n ≤ 1000000000000 → Stp r H H' → Q (.int n) H'
theorem sc__law_length : FnScope ["_law_rng_here", "_law_sizes_here", "_law_far", "_law_near"] ["_law_rng_here", "_law_sizes_here"] (defScope (top 27)) := ⟨rfl, rfl, rfl, by decide +kernel, rfl, by decide +kernel, by decide +kernel⟩
theorem ok_len_ (T : Tx K mg) (D__law_draw : Df P w K mg base 1 "_law_draw" ["_law_rng_here", "_law_many"] spDraw) (F : FnP K "_law_length" "_law_length" (top 27) f fd) : FnOk P w K mg base CX0 2 f fd ["_law_rng_here", "_law_sizes_here"] spLn := by
  refine F.ok sc__law_length (fun vs H Q E h => ?_) (fun cdv A outer s H vs Q E hr h => ⟨_, PSs.nox (pss_cons (ps_set (i := 2) sc__law_length.nd rfl (by first | exact Or.inl rfl | exact Or.inr rfl) (pe_op op_sub (pe_op op_pow pe_int pe_int) (pcall D__law_draw hr (pa_cons (pv 0) (pa_cons pe_int pa_nil))))) (pss_cons (ps_set (i := 3) sc__law_length.nd rfl (by first | exact Or.inl rfl | exact Or.inr rfl) (pe_op op_add (pe_op op_mul (pe_ix ix_list (pv 1) (pe_un un_neg pe_int) (fun _ _ => rfl)) (pe_op op_add pe_int (pcall D__law_draw hr (pa_cons (pv 0) (pa_cons pe_int pa_nil))))) (pcall D__law_draw hr (pa_cons (pv 0) (pa_cons (pe_ix ix_list (pv 1) (pe_un un_neg pe_int) (fun _ _ => rfl)) pa_nil))))) (pss_one (ps_ret (pe_ix ix_list (pe_lst (pa_cons (pe_op op_add pe_int (pcall D__law_draw hr (pa_cons (pv 0) (pa_cons pe_int pa_nil)))) (pa_cons (pv 3) (pa_cons (pv 3) (pa_cons (pv 2) (pa_cons (pe_op op_add pe_int (pcall D__law_draw hr (pa_cons (pv 0) (pa_cons (pe_op op_pow pe_int pe_int) pa_nil)))) pa_nil)))))) (pcall D__law_draw hr (pa_cons (pv 0) (pa_cons pe_int pa_nil))) (fun _ _ => rfl)))))), ?_⟩)
  · obtain ⟨r, o, ns, rfl, _⟩ := h
    rfl
  · obtain ⟨r, o, ns, rfl, hR, g, hO, nor, q⟩ := h
    have l8 := g.len
    have big : (10 : Int) ^ 40 = 10000000000000000000000000000000000000000 := by decide
    have e12 : (10 : Int) ^ (12 : Int).toNat = 1000000000000 := by decide
    have pw12 : CPow 10 12 := ⟨by decide, by decide, by decide⟩
    obtain ⟨ys, x, rfl⟩ := last_of l8.1
    have xr := g.rng _ _ (last_get ys x)
    refine ⟨_, _, rfl, rfl, pw12, _, rfl, r, 10, rfl, hR, by decide, by omega, fun d1 H1 a0 a1 t1 => ⟨_, _, rfl, rfl, ?_⟩⟩
    refine ⟨_, rfl, _, rfl, o, _, _, _, rfl, rfl, SqL.of (t1.2 _ _ nor hO), at_last ys x, _, rfl, r, 6, rfl, t1.1, by decide, by omega, fun d2 H2 b0 b1 t2 => ?_⟩
    have t12 := t1.trans t2
    refine ⟨_, _, rfl, rfl, _, _, rfl, rfl, .inl ⟨by omega, by omega⟩, _, rfl, _, rfl, _, rfl, o, _, _, _, rfl, rfl, SqL.of (t12.2 _ _ nor hO), at_last ys x, r, x, rfl, t12.1, by omega, by omega, fun d3 H3 c0 c1 t3 => ?_⟩
    have t13 := t12.trans t3
    refine ⟨_, _, rfl, rfl, ?_⟩
    have nr1 : 1 ≤ x * (1 + d2) + d3 := by
      have := Int.mul_le_mul_of_nonneg_left (show (1 : Int) ≤ 1 + d2 by omega) (show (0 : Int) ≤ x by omega)
      omega
    have nr2 : x * (1 + d2) + d3 ≤ 1000000000000 := by
      have := Int.mul_le_mul_of_nonneg_left (show 1 + d2 ≤ (6 : Int) by omega) (show (0 : Int) ≤ x by omega)
      omega
    refine ⟨_, rfl, r, 40, rfl, t13.1, by decide, by omega, fun d4 H4 f0 f1 t4 => ⟨_, _, rfl, rfl, _, rfl, _, rfl, _, rfl, _, rfl, _, _, rfl, rfl, pw12, r, _, rfl, (t13.trans t4).1, (by rw [e12]; decide), (by rw [e12]; omega), fun d5 H5 g0 g1 t5 => ⟨_, _, rfl, rfl, (by show 5 ≤ sizeLine; decide), fun L hL => ?_⟩⟩⟩
    have t15 := t13.trans (t4.trans t5)
    have t16 := t15.new (o := .lst [.int (1 + d4), .int (x * (1 + d2) + d3), .int (x * (1 + d2) + d3), .int ((10 : Int) ^ (12 : Int).toNat - d1), .int (1 + d5)]) hL
    have hL1 : (upd H5 L (.lst [.int (1 + d4), .int (x * (1 + d2) + d3), .int (x * (1 + d2) + d3), .int ((10 : Int) ^ (12 : Int).toNat - d1), .int (1 + d5)])) L = some (.lst [.int (1 + d4), .int (x * (1 + d2) + d3), .int (x * (1 + d2) + d3), .int ((10 : Int) ^ (12 : Int).toNat - d1), .int (1 + d5)]) := upd_same
    have nL : L ≠ r := (t15.1.ne hL).symm
    refine ⟨_, rfl, r, 5, rfl, t16.1, by decide, by omega, fun i H6 i0 i1 t6 => ?_⟩
    obtain ⟨v, hv, hm⟩ := at_of (xs := [.int (1 + d4), .int (x * (1 + d2) + d3), .int (x * (1 + d2) + d3), .int ((10 : Int) ^ (12 : Int).toNat - d1), .int (1 + d5)]) i0 i1
    refine ⟨L, _, _, v, rfl, rfl, SqL.of (t6.2 _ _ nL hL1), hv, ?_⟩
    have t17 := t16.trans t6
    rw [e12] at g1
    simp only [List.mem_cons, List.not_mem_nil, or_false] at hm
    rcases hm with rfl | rfl | rfl | rfl | rfl
    · exact q _ _ (by omega) (by omega) t17
    · exact q _ _ nr1 nr2 t17
    · exact q _ _ nr1 nr2 t17
    · exact q _ _ (by rw [e12]; omega) (by rw [e12]; omega) t17
    · exact q _ _ (by omega) (by omega) t17
/-- a right place -/
def spPlace : Sp := fun vs H Q _ => ∃ (r wa sa ba : Addr) (qs : List Addr) (ns : List Int) (n : Int) (bs : List Blk) (k : Nat), vs = [.ref r, .ref wa, .int k] ∧ Rng H r ∧ WR r H wa sa ba qs ns n bs ∧ k < ns.length ∧ sz ns k ≤ n ∧
  ∀ a H', 0 ≤ a → a % sz ns k = 0 → a + sz ns k ≤ n → Stp r H H' → Q (.int a) H'
theorem sc__law_place : FnScope ["_law_rng_here", "_law_world", "_law_rank", "_law_many", "_law_near", "_law_spots", "_law_sizes_here", "_law_length_here", "_law_blocks"] ["_law_rng_here", "_law_world", "_law_rank"] (defScope (top 28)) := ⟨rfl, rfl, rfl, by decide +kernel, rfl, by decide +kernel, by decide +kernel⟩
theorem ok_place (T : Tx K mg) (D__law_draw : Df P w K mg base 1 "_law_draw" ["_law_rng_here", "_law_many"] spDraw) (D__law_choice : Df P w K mg base 2 "_law_choice" ["_law_rng_here", "_law_options"] spChoice) (F : FnP K "_law_place" "_law_place" (top 28) f fd) :
    FnOk P w K mg base CX0 3 f fd ["_law_rng_here", "_law_world", "_law_rank"] spPlace := by
  refine F.ok sc__law_place (fun vs H Q E h => ?_) (fun cdv A outer s H vs Q E hr h => ⟨_, PSs.nox (pss_cons (ps_par3 (by rfl) sc__law_place.nd (i := 6) (j := 7) (l := 8) rfl rfl rfl (by decide) (by decide) (by decide) rfl rfl rfl (pa_cons (pe_dget (u1 hr) (pv 1) pe_str (fun _ _ => rfl)) (pa_cons (pe_dget (u1 hr) (pv 1) pe_str (fun _ _ => rfl)) (pa_cons (pe_dget (u1 hr) (pv 1) pe_str (fun _ _ => rfl)) pa_nil))) (by rfl)) (pss_cons (ps_set (i := 3) sc__law_place.nd rfl (by first | exact Or.inl rfl | exact Or.inr rfl) (pe_op op_fdivW (pv 7) (pe_ix ix_list (pv 6) (pv 2) (fun _ _ => rfl)))) (pss_cons (ps_set (i := 4) sc__law_place.nd rfl (by first | exact Or.inl rfl | exact Or.inr rfl) (pe_ifExp (pt_cmpR (op_neNil hr.units) (pv 8) (pe_lst pa_nil) (nomark _)) (pe_op op_fdivW (pe_ix (r := rIxT K) ix_tup (pe_ix ix_list (pv 8) (pcall D__law_draw hr (pa_cons (pv 0) (pa_cons (pe_callB call_len_seq (by rfl) T.n_len (by decide +kernel) (pa_cons (pv 8) pa_nil)) pa_nil))) (fun _ _ => rfl)) pe_int (fun _ _ => rfl)) (pe_ix ix_list (pv 6) (pv 2) (fun _ _ => rfl))) pe_int)) (pss_cons (ps_set (i := 5) sc__law_place.nd rfl (by first | exact Or.inl rfl | exact Or.inr rfl) (pe_lst (pa_cons pe_int (pa_cons (pe_op op_sub (pv 3) pe_int) (pa_cons (pcall D__law_draw hr (pa_cons (pv 0) (pa_cons (pv 3) pa_nil))) (pa_cons (pe_callB (call_min2 rfl) (by rfl) T.n_min (by decide +kernel) (pa_cons (pe_op op_sub (pv 3) pe_int) (pa_cons (pv 4) pa_nil))) (pa_cons (pe_callB (call_min2 rfl) (by rfl) T.n_min (by decide +kernel) (pa_cons (pe_op op_sub (pv 3) pe_int) (pa_cons (pe_op op_add (pv 4) pe_int) pa_nil))) pa_nil))))))) (pss_one (ps_ret (pe_op op_mul (pcall D__law_choice hr (pa_cons (pv 0) (pa_cons (pv 5) pa_nil))) (pe_ix ix_list (pv 6) (pv 2) (fun _ _ => rfl))))))))), ?_⟩)
  · obtain ⟨r, wa, sa, ba, qs, ns, n, bs, k, rfl, _⟩ := h
    rfl
  · obtain ⟨r, wa, sa, ba, qs, ns, n, bs, k, rfl, hR, W, hk, hn, q⟩ := h
    have big : (10 : Int) ^ 40 = 10000000000000000000000000000000000000000 := by decide
    have z1 := (chain W.g).pos _ hk
    have zl := (W.g.rng _ _ (sz_at hk)).2
    have n2 := W.n2
    refine ⟨_, rfl, wa, _, rfl, get_s W, _, rfl, wa, _, rfl, get_l W, _, rfl, wa, _, rfl, get_b W, ?_⟩
    refine ⟨_, _, _, rfl, ?_⟩
    refine ⟨_, rfl, _, rfl, _, rfl, sa, _, _, _, rfl, rfl, SqL.of W.s, at_map (sz_at hk), _, _, rfl, rfl, dv_ok z1 zl, ?_⟩
    have m1 : 1 ≤ n / sz ns k := Int.le_ediv_of_mul_le (by omega) (by omega)
    have m2 : n / sz ns k ≤ n := Int.ediv_le_self _ (by omega)
    have m3 : n / sz ns k * sz ns k ≤ n := Int.ediv_mul_le _ (by omega)
    refine go_nm (nx_of rfl (go_asg ?_))
    refine joinI (fun (c : Int) (G : Hp) => 0 ≤ c ∧ Stp r H G) (fun Q' tail => ?main) ?tl
    case main =>
      refine ⟨_, rfl, (by show 0 ≤ sizeLine; decide), fun e he => ⟨ba, e, _, rfl, rfl, SqL.of (same_upd he _ _ W.b), SqL.of upd_same, _, rfl, ?_⟩⟩
      have s1 := same_upd (o := .lst []) he
      have t1 := Stp.same (Stp.refl hR) s1
      have W1 := W.same s1
      generalize upd H e (.lst []) = H1 at s1 t1 W1
      have pl := W.rf.len
      by_cases hb : bs = []
      · refine ifF (by rw [List.length_map, pl, hb]; rfl) ?_
        exact tail 0 H1 ⟨Int.le_refl _, t1⟩
      · have b1 : 1 ≤ bs.length := List.length_pos_iff.mpr hb
        have bl := W.ln
        refine ifT (by rw [List.length_map, pl, decide_eq_false (by omega)]; rfl) ?_
        refine ⟨_, rfl, _, rfl, _, rfl, ba, _, rfl, .inl (SqL.of W1.b), r, _, rfl, t1.1, (by rw [List.length_map, pl]; omega), (by rw [List.length_map, pl]; omega), fun d H2 d0 d1 t2 => ?_⟩
        have W2 := W1.stp t1.1 t2
        obtain ⟨j, rfl⟩ := Int.eq_ofNat_of_zero_le d0
        have jl : j < bs.length := by rw [List.length_map, pl] at d1; omega
        obtain ⟨b, hbj⟩ : ∃ b, bs[j]? = some b := ⟨_, List.getElem?_eq_getElem jl⟩
        obtain ⟨p, hp, hT⟩ := W2.rf.at_ hbj
        have b0 := (W.wf.ok b (List.mem_of_getElem? hbj)).2.1
        refine ⟨ba, _, _, _, rfl, rfl, SqL.of W2.b, Refs.map_at hp, p, _, _, _, rfl, rfl, SqT.of hT, rfl, _, rfl, _, rfl, sa, _, _, _, rfl, rfl, SqL.of W2.s, at_map (sz_at hk), _, _, rfl, rfl, dv_ok z1 zl, ?_⟩
        have c0 : 0 ≤ b.1 / sz ns k := Int.ediv_nonneg b0 (by omega)
        exact tail (b.1 / sz ns k) H2 ⟨c0, t1.trans t2⟩
    case tl =>
      rintro c G ⟨c0, tG⟩
      have WG := W.stp hR tG
      refine ⟨_, rfl, _, _, rfl, rfl, _, rfl, _, rfl, r, _, rfl, tG.1, m1, by omega, fun d H1 d0 d1 t1 => ?_⟩
      refine ⟨_, rfl, _, _, rfl, rfl, _, rfl, _, _, rfl, _, rfl, _, _, rfl, rfl, _, rfl, _, _, rfl, rfl, _, _, rfl, (by show 5 ≤ sizeLine; decide), fun L hL => ?_⟩
      have t2 := tG.trans t1
      have hxs : ∀ v ∈ [V.int 0, V.int (n / sz ns k - 1), V.int d, V.int (if c < n / sz ns k - 1 then c else n / sz ns k - 1), V.int (if c + 1 < n / sz ns k - 1 then c + 1 else n / sz ns k - 1)], ∃ e : Int, v = .int e ∧ 0 ≤ e ∧ e ≤ n / sz ns k - 1 := by
        intro v hv
        simp only [List.mem_cons, List.not_mem_nil, or_false] at hv
        rcases hv with rfl | rfl | rfl | rfl | rfl
        · exact ⟨_, rfl, Int.le_refl _, by omega⟩
        · exact ⟨_, rfl, by omega, Int.le_refl _⟩
        · exact ⟨_, rfl, d0, by omega⟩
        · refine ⟨_, rfl, ?_, ?_⟩ <;> split <;> omega
        · refine ⟨_, rfl, ?_, ?_⟩ <;> split <;> omega
      have t3 := t2.new (o := .lst [V.int 0, V.int (n / sz ns k - 1), V.int d, V.int (if c < n / sz ns k - 1 then c else n / sz ns k - 1), V.int (if c + 1 < n / sz ns k - 1 then c + 1 else n / sz ns k - 1)]) hL
      have hL1 : (upd H1 L (.lst [V.int 0, V.int (n / sz ns k - 1), V.int d, V.int (if c < n / sz ns k - 1 then c else n / sz ns k - 1), V.int (if c + 1 < n / sz ns k - 1 then c + 1 else n / sz ns k - 1)])) L = some (.lst [V.int 0, V.int (n / sz ns k - 1), V.int d, V.int (if c < n / sz ns k - 1 then c else n / sz ns k - 1), V.int (if c + 1 < n / sz ns k - 1 then c + 1 else n / sz ns k - 1)]) := upd_same
      have nL : L ≠ r := (t2.1.ne hL).symm
      refine ⟨_, rfl, _, rfl, r, L, _, rfl, t3.1, hL1, nL, (by show 1 ≤ 5; decide), (by show 5 ≤ 1000; decide), fun v G2 hv t4 => ?_⟩
      obtain ⟨e, rfl, e0, e1⟩ := hxs v hv
      have t5 := t3.trans t4
      refine ⟨_, rfl, _, rfl, sa, _, _, _, rfl, rfl, SqL.of (W.stp hR t5).s, at_map (sz_at hk), _, _, rfl, rfl, .inr ⟨by omega, by omega⟩, ?_⟩
      have f1 : 0 ≤ e * sz ns k := Int.mul_nonneg e0 (by omega)
      have f2 : (e + 1) * sz ns k ≤ n / sz ns k * sz ns k := Int.mul_le_mul_of_nonneg_right (by omega) (by omega)
      have f3 : (e + 1) * sz ns k = e * sz ns k + sz ns k := by rw [Int.add_mul, Int.one_mul]
      exact q _ _ f1 (Int.mul_emod_left _ _) (by omega) t5
end
end K21

set_option Elab.async false
set_option linter.all false
set_option maxRecDepth 100000
set_option maxHeartbeats 400000
set_option pp.maxSteps 900
namespace K21
open PySem PySem.Spec PyProof.Rows L2 Gu Ex
theorem flt_at {α : Type} (p : α → Bool) {xs : List α} {i : Nat} {x : α} (h : xs[i]? = some x) : (xs.take (i + 1)).filter p = (xs.take i).filter p ++ (if p x = true then [x] else []) := by
  rw [List.take_add_one, h, List.filter_append]
  show _ ++ [x].filter p = _
  by_cases e : p x = true
  · rw [if_pos e, List.filter_cons_of_pos e]
    rfl
  · rw [if_neg e, List.filter_cons_of_neg (by simpa using e)]
    rfl
/-- the blocks that meet the range -/
def metB (ns : List Int) (a e : Int) (b : Blk) : Bool := decide (b.1 < e) && decide (a < bEnd ns b)
theorem met_taken {ns : List Int} {n a e : Int} {bs : List Blk} {b : Blk} (w : Wf ns n bs) (g : Good ns) (ae : a < e) (hb : b ∈ bs.filter (metB ns a e)) (hm : ∀ c ∈ bs.filter (metB ns a e), b.1 ≤ c.1) : Taken ns bs a e (if b.1 > a then b.1 else a) := by
  obtain ⟨hb1, hb2⟩ := List.mem_filter.mp hb
  obtain ⟨h1, h2⟩ := He.ba hb2
  have h1 := of_decide_eq_true h1
  have h2 := of_decide_eq_true h2
  have z := w.pos g hb1
  have fa : ∀ t, t = (if b.1 > a then b.1 else a) → a ≤ t ∧ t < e ∧ b.1 ≤ t ∧ t < bEnd ns b ∧ (a < t → t = b.1) := fun t et => by
    unfold bEnd at *
    subst et
    split <;> omega
  obtain ⟨k1, k2, k3, k4, k5⟩ := fa _ rfl
  generalize (if b.1 > a then b.1 else a) = t at *
  refine ⟨k1, k2, ⟨b, hb1, k3, k4⟩, fun c hc u u1 u2 uu => ?_⟩
  have cm : c ∈ bs.filter (metB ns a e) := List.mem_filter.mpr ⟨hc, by
    show (decide (c.1 < e) && decide (a < bEnd ns c)) = true
    rw [decide_eq_true (by omega), decide_eq_true (by omega)]
    rfl⟩
  have := hm c cm
  have := k5 (by omega)
  omega
theorem met_free {ns : List Int} {a e : Int} {bs : List Blk} (h : bs.filter (metB ns a e) = []) : FreeR ns bs a e := fun b hb => by
  have h2 : metB ns a e b = false := by
    cases q : metB ns a e b with
    | false => rfl
    | true => exact absurd (List.mem_filter.mpr ⟨hb, q⟩) (by rw [h]; exact List.not_mem_nil)
  by_cases h3 : b.1 < e
  · by_cases h4 : a < bEnd ns b
    · have : metB ns a e b = true := by
        show (decide (b.1 < e) && decide (a < bEnd ns b)) = true
        rw [decide_eq_true h3, decide_eq_true h4]
        rfl
      rw [this] at h2
      cases h2
    · exact .inl (by omega)
  · exact .inr (by omega)
section
variable {P : Program} {w : World} {K : PySem.W.Frag} {mg : Str → Option Value} {base : Heap} {f : Addr} {fd : FuncData}
def spFT : Sp := fun vs H Q _ => ∃ (r wa sa ba : Addr) (qs : List Addr) (ns : List Int) (n : Int) (bs : List Blk) (k : Nat) (a : Int), vs = [.ref wa, .int k, .int a] ∧ WR r H wa sa ba qs ns n bs ∧ k < ns.length ∧
  (FreeR ns bs a (a + sz ns k) → ∀ H', Same H H' → Q .non H') ∧ (∀ t H', Taken ns bs a (a + sz ns k) t → Same H H' → Q (.int t) H')
theorem sc__law_first_taken : FnScope ["_law_world", "_law_rank", "_law_spot", "_law_met", "_law_sizes_here", "_law_end", "_law_one"] ["_law_world", "_law_rank", "_law_spot"] (defScope (top 29)) := ⟨rfl, rfl, rfl, by decide +kernel, rfl, by decide +kernel, by decide +kernel⟩
theorem ok_ft (T : Tx K mg) (F : FnP K "_law_first_taken" "_law_first_taken" (top 29) f fd) : FnOk P w K mg base CX0 1 f fd ["_law_world", "_law_rank", "_law_spot"] spFT := by
  refine F.ok sc__law_first_taken (fun vs H Q E h => ?_) (fun cdv A outer s H vs Q E hr h => ⟨_, PSs.nox (pss_cons (ps_asg (pe_tup (pa_cons (pe_dget (u1 hr) (pv 0) pe_str (fun _ _ => rfl)) (pa_cons (pe_op op_add (pv 2) (pe_ix ix_list (pe_dget (u1 hr) (pv 0) pe_str (fun _ _ => rfl)) (pv 1) (fun _ _ => rfl))) pa_nil))) (pg_tup (by rfl) (pgs_cons (pg_name (i := 4) sc__law_first_taken.nd rfl (by first | exact Or.inl rfl | exact Or.inr rfl)) (pgs_cons (pg_name (i := 5) sc__law_first_taken.nd rfl (by first | exact Or.inl rfl | exact Or.inr rfl)) pgs_nil)))) (pss_cons (ps_setLc (i := 3) (own := [("_law_one", 6)]) (g := gName 6) rfl sc__law_first_taken.nd rfl rfl (sw_true rfl rfl rfl (by decide +kernel)) (pi_list (pe_dget (u1 hr) (pv 0) pe_str (fun _ _ => rfl))) (blkOk_by (own := [("_law_one", 6)]) (N := ["_law_world", "_law_rank", "_law_spot", "_law_met", "_law_sizes_here", "_law_end", "_law_one"]) (sc := defScope (top 29)) (by decide +kernel)) (fun _ _ _ _ _ => pg_name (i := 6) sc__law_first_taken.nd rfl (Or.inl rfl)) (fun _ _ _ _ _ => (pts_one (PW.pt (pw_and (pt_cmpR op_lt (pe_ix (r := rIxT K) ix_tup (pv 6) pe_int (fun _ _ => rfl)) (pv 5) (nomark _)) (pw_and1 (pt_cmpR op_lt (pv 2) (pe_op op_add (pe_ix (r := rIxT K) ix_tup (pv 6) pe_int (fun _ _ => rfl)) (pe_ix (r := rIxL K) ix_list (pv 4) (pe_ix (r := rIxT K) ix_tup (pv 6) pe_int (fun _ _ => rfl)) (fun _ _ => rfl))) (nomark _))))))) (fun _ _ _ _ _ => (pv 6))) (pss_one (ps_ret (pe_ifExp (pt_cmpR (op_neNil hr.units) (pv 3) (pe_lst pa_nil) (nomark _)) (pe_callB (call_max2 rfl) (by rfl) T.n_max (by decide +kernel) (pa_cons (pv 2) (pa_cons (pe_ix (r := rIxT K) ix_tup (pe_callB (cr_minB rfl hr.units) (by rfl) T.n_min (by decide +kernel) (pa_cons (pv 3) pa_nil)) pe_int (fun _ _ => rfl)) pa_nil))) pe_non))))), ?_⟩)
  · obtain ⟨r, wa, sa, ba, qs, ns, n, bs, k, a, rfl, _⟩ := h
    rfl
  · obtain ⟨r, wa, sa, ba, qs, ns, n, bs, k, a, rfl, W, hk, q1, q2⟩ := h
    have z1 := (chain W.g).pos _ hk
    have pl := W.rf.len
    have ln := W.ln
    have sl : sizeLine = 16777216 := sizeLine_eq
    refine ⟨_, rfl, wa, _, rfl, get_s W, _, rfl, _, rfl, wa, _, rfl, get_s W, _, rfl, sa, _, _, _, rfl, rfl, SqL.of W.s, at_map (sz_at hk), _, _, rfl, rfl, ?_⟩
    refine ⟨(by show 2 ≤ sizeLine; decide), fun t0 ht0 => ⟨t0, _, rfl, .inl (.inl upd_same), rfl, _, _, rfl, _, _, rfl, rfl, ?_⟩⟩
    have s0 := same_upd (o := .tup [.ref sa, .int (a + sz ns k)]) ht0
    have W0 := W.same s0
    have H0d : ∀ {o : HO}, (upd H t0 (.tup [.ref sa, .int (a + sz ns k)])) = (upd H t0 (.tup [.ref sa, .int (a + sz ns k)])) := rfl
    refine ⟨_, rfl, wa, _, rfl, get_b W0, ba, rfl, ⟨_, SqL.of W0.b⟩, fun D hD => ?_⟩
    generalize upd H t0 (.tup [.ref sa, .int (a + sz ns k)]) = H0 at *
    clear H0d
    refine lc_it (walk_list (xs := qs.map V.ref)) (fun i G => Same H0 G ∧ ∃ qs' : List Addr, G D = some (.lst (qs'.map V.ref)) ∧ Refs blkV G qs' ((bs.take i).filter (metB ns a (a + sz ns k)))) ⟨same_upd hD, [], upd_same, .nil⟩ (fun i G _ h => SqL.of (h.1 _ _ W0.b)) ?_ ?_
    · rintro i v G0 G hi ⟨sm, qs', hG, rr⟩ ⟨rfl, hv⟩
      have hi2 : i < bs.length := by rw [List.length_map, pl] at hi; exact hi
      obtain ⟨b, hb⟩ : ∃ b, bs[i]? = some b := ⟨_, List.getElem?_eq_getElem hi2⟩
      obtain ⟨p, hp, hT0⟩ := W0.rf.at_ hb
      rw [List.getElem?_map, hp] at hv
      obtain rfl : v = .ref p := (Option.some.inj hv).symm
      have hT : G p = some (.tup (blkV b)) := sm _ _ hT0
      have bk := (W.wf.ok b (List.mem_of_getElem? hb)).1
      have hsG := sm _ _ W0.s
      have fa := flt_at (metB ns a (a + sz ns k)) hb
      have fl := List.length_filter_le (metB ns a (a + sz ns k)) (bs.take i)
      rw [List.length_take] at fl
      have rl := rr.len
      refine ⟨rfl, _, rfl, p, _, _, _, rfl, rfl, SqT.of hT, rfl, _, rfl, _, _, rfl, rfl, _, rfl, ?_⟩
      by_cases c1 : b.1 < a + sz ns k
      · refine ifT (decide_eq_true c1) ⟨_, rfl, _, rfl, p, _, _, _, rfl, rfl, SqT.of hT, rfl, _, rfl, _, rfl, p, _, _, _, rfl, rfl, SqT.of hT, rfl, sa, _, _, _, rfl, rfl, SqL.of hsG, at_map (sz_at bk), _, _, rfl, rfl, _, _, rfl, rfl, _, rfl, ?_⟩
        by_cases c2 : a < b.1 + sz ns b.2.1
        · have em : metB ns a (a + sz ns k) b = true := by
            show (decide (b.1 < a + sz ns k) && decide (a < b.1 + sz ns b.2.1)) = true
            rw [decide_eq_true c1, decide_eq_true c2]
            rfl
          rw [em, if_pos rfl] at fa
          refine ifT (decide_eq_true c2) ⟨_, rfl, _, hG, (by rw [List.length_map]; omega), fun c o e => ?_, qs' ++ [p], ?_, ?_⟩
          · rw [upd_ne (ne_of_none e hD)]
            exact sm c o e
          · rw [upd_same, List.map_append]
            rfl
          · rw [fa]
            have hDG : ∀ c xs, G c = some (.tup xs) → (upd G D (.lst (qs'.map V.ref ++ [V.ref p]))) c = some (.tup xs) := fun c xs e => by
              rw [upd_ne fun z => by rw [z, hG] at e; cases e]
              exact e
            exact (rr.mono hDG).app (.one (hDG _ _ hT))
        · have em : metB ns a (a + sz ns k) b = false := by
            show (decide (b.1 < a + sz ns k) && decide (a < b.1 + sz ns b.2.1)) = false
            rw [decide_eq_false c2, Bool.and_false]
          rw [em, if_neg (by simp), List.append_nil] at fa
          refine ifF (decide_eq_false c2) ⟨sm, qs', hG, ?_⟩
          rw [fa]
          exact rr
      · have em : metB ns a (a + sz ns k) b = false := by
          show (decide (b.1 < a + sz ns k) && _) = false
          rw [decide_eq_false c1, Bool.false_and]
        rw [em, if_neg (by simp), List.append_nil] at fa
        refine ifF (decide_eq_false c1) ⟨sm, qs', hG, ?_⟩
        rw [fa]
        exact rr
    · rintro G ⟨sm, qs', hG, rr⟩
      rw [List.length_map, pl, List.take_length] at rr
      have rl := rr.len
      have sH := s0.trans sm
      refine ⟨_, rfl, (by show 0 ≤ sizeLine; decide), fun e he => ⟨D, e, _, rfl, rfl, SqL.of (same_upd he _ _ hG), SqL.of upd_same, _, rfl, ?_⟩⟩
      have s1 := same_upd (o := .lst []) he
      have hG1 := s1 _ _ hG
      have rr1 := rr.same s1
      generalize upd G e (.lst []) = G1 at s1 hG1 rr1
      by_cases hb : bs.filter (metB ns a (a + sz ns k)) = []
      · refine ifF (by rw [List.length_map, rl, hb]; rfl) (q1 (met_free hb) _ (sH.trans s1))
      · have b1 := List.length_pos_iff.mpr hb
        refine ifT (by rw [List.length_map, rl, decide_eq_false (by omega)]; rfl) ?_
        refine ⟨_, rfl, _, rfl, D, qs', _, rfl, SqL.of hG1, rr1, hb, fun p b hb1 hT hm => ?_⟩
        refine ⟨p, _, _, _, rfl, rfl, SqT.of hT, rfl, _, _, rfl, ?_⟩
        have tk := met_taken W.wf W.g (by omega) hb1 hm
        exact q2 _ _ tk (sH.trans s1)
end
end K21

set_option Elab.async false
set_option linter.all false
set_option maxRecDepth 100000
set_option maxHeartbeats 4000000
/-! Own layer: a built-in value == an instance with its own __eq__ (the built-in declines, then the own one is asked); instance == any value; instance != any value. -/
namespace HQ
open PySem PySem.Spec PyProof.Rows PySem.SeqAt PySem.W
section
variable {prog : Program} {w : World} {A : Around} {E : Value → Shared → Prop} {s : Shared} {K : PySem.W.Frag} {x C f : Addr} {a tb : Value} {ox : Obj} {od : Option Obj} {T id : String}
theorem try_own {nm : Str} {Q : Value → Shared → Prop} (X : K.In s.heap) (I : InstAt s.heap x ox C od) (hs : findIn K (.ref C) nm = some (some (.ref f))) (hf : isFn K (.ref f) = true)
    (h : wpAny (model prog w) A (call (.ref f) [.ref x, a]) (PySem.W.CmpBack Q) E s) : wpAny (model prog w) A (tryCompare (.ref x) nm a) (fun r s' => ∃ v, r = some v ∧ Q v s') E s := by
  unfold tryCompare
  refine wpAny_bind (ifBound_K X I hs hf (wpAny_mono h (fun v s' hv => ?_) fun _ _ e => e))
  cases v <;> first | exact hv.elim | exact wpAny_pure ⟨_, rfl, hv⟩
theorem refl_K {Q : Value → Shared → Prop} (hu : A.units < cLine) (X : K.In s.heap) (I : InstAt s.heap x ox C od) (hs : findIn K (.ref C) "__eq__" = some (some (.ref f))) (hf : isFn K (.ref f) = true)
    (ha : s.TypeIs a T) (slot : Slot T "__eq__" id) (hsub : subIn K (.ref C) (.type T) = some false)
    (hd : ∀ Q' : Value → Shared → Prop, Q' .notImplemented s → wpAny (model prog w) A (call (.builtin id) [a, .ref x]) Q' E s)
    (h : wpAny (model prog w) A (call (.ref f) [.ref x, a]) (PySem.W.CmpBack Q) E s) : wpAny (model prog w) A (richCompare .Eq a (.ref x)) Q E s := by
  have one := try_own X I hs hf h
  simp only [richCompare, cmpInfo_Eq, ha.oneThing_none]
  try with_reducible refine wpAny_holding ?_
  refine wpAny_bind (wpAny_cRoomFor hu ?_)
  refine wpAny_bind (wpAny_typeOf ha (wpAny_bind (I.type.here ?_)))
  rw [show (Value.type T != Value.ref C) = true from by simp, if_pos rfl]
  refine wpAny_bind ((looks_subIn X hsub).here ?_)
  simp only [Bool.false_eq_true, if_false, Bool.not_false, if_true]
  refine wpAny_bind (m := tryCompare a _ (.ref x)) (wpAny_tryCompare_declines ha slot (hd _ ⟨rfl, ?_⟩))
  refine wpAny_bind (m := tryCompare (.ref x) _ a) (wpAny_mono one (fun r s' z => ?_) fun _ _ e => e)
  obtain ⟨v, rfl, hq⟩ := z
  exact wpAny_pure hq
/-! the built-ins decline -/
theorem dec_none (l : Addr) : Gives (Builtin.«NoneType.__eq__» ⟨[.none, .ref l], []⟩) (.val (Value.notImplemented)) :=
  .of_wp fun M A E s Q h => by obtain ⟨hp, g, d, tk, os⟩ := s; wp_walk; exact ⟨_, rfl, h⟩
theorem dec_bool {dx : Addr} {Q : Fin → Shared → Prop}  (X : K.In s.heap) (I : InstAt s.heap x (instObj C dx) C od) (b : Bool) (hsub : subIn K (.ref C) (.type "int") = some false) (h : Q (.done (.ret .notImplemented)) s) :
    wpAny (model prog w) A (Builtin.«int.__eq__» ⟨[.bool b, .ref x], []⟩) Q E s := by
  unfold Builtin.«int.__eq__»
  repeat (first
    | exact h
    | (refine I.type.here ?_)
    | (refine (looks_subIn X hsub).here ?_)
    | (with_reducible refine wpAny_load I.at_ ?_)
    | wp_step)
theorem dec_int {dx : Addr} {Q : Fin → Shared → Prop}  (X : K.In s.heap) (I : InstAt s.heap x (instObj C dx) C od) (i : Int) (t : Tok) (hsub : subIn K (.ref C) (.type "int") = some false) (h : Q (.done (.ret .notImplemented)) s) :
    wpAny (model prog w) A (Builtin.«int.__eq__» ⟨[.int i t, .ref x], []⟩) Q E s := by
  unfold Builtin.«int.__eq__»
  repeat (first
    | exact h
    | (refine I.type.here ?_)
    | (refine (looks_subIn X hsub).here ?_)
    | (with_reducible refine wpAny_load I.at_ ?_)
    | wp_step)
theorem dec_str {dx : Addr} {Q : Fin → Shared → Prop}  (X : K.In s.heap) (I : InstAt s.heap x (instObj C dx) C od) (z : Str) (t : Tok) (hsub : subIn K (.ref C) (.type "str") = some false) (h : Q (.done (.ret .notImplemented)) s) :
    wpAny (model prog w) A (Builtin.«str.__eq__» ⟨[.str z t, .ref x], []⟩) Q E s := by
  unfold Builtin.«str.__eq__»
  repeat (first
    | exact h
    | (refine I.type.here ?_)
    | (refine (looks_subIn X hsub).here ?_)
    | (with_reducible refine wpAny_load I.at_ ?_)
    | wp_step)
theorem dec_list {dx : Addr} {Q : Fin → Shared → Prop} {l : Addr} {items : Array Value} {n : Nat} {dd : Option Addr} {sl : Array (Option Value)} (X : K.In s.heap) (I : InstAt s.heap x (instObj C dx) C od) (hl : s.heap.get? l = some { cls := .type "list", dict := dd, data := .seq items n, slots := sl }) (hsub : subIn K (.ref C) (.type "list") = some false) (h : Q (.done (.ret .notImplemented)) s) :
    wpAny (model prog w) A (Builtin.«list.__eq__» ⟨[.ref l, .ref x], []⟩) Q E s := by
  unfold Builtin.«list.__eq__»
  repeat (first
    | exact h
    | (refine I.type.here ?_)
    | (refine (looks_subIn X hsub).here ?_)
    | (with_reducible refine wpAny_load I.at_ ?_)
    | wp_step)
theorem dec_tuple {dx : Addr} {Q : Fin → Shared → Prop} {l : Addr} {items : Array Value} {n : Nat} {dd : Option Addr} {sl : Array (Option Value)} (X : K.In s.heap) (I : InstAt s.heap x (instObj C dx) C od) (hl : s.heap.get? l = some { cls := .type "tuple", dict := dd, data := .seq items n, slots := sl }) (hsub : subIn K (.ref C) (.type "tuple") = some false) (h : Q (.done (.ret .notImplemented)) s) :
    wpAny (model prog w) A (Builtin.«tuple.__eq__» ⟨[.ref l, .ref x], []⟩) Q E s := by
  unfold Builtin.«tuple.__eq__»
  repeat (first
    | exact h
    | (refine I.type.here ?_)
    | (refine (looks_subIn X hsub).here ?_)
    | (with_reducible refine wpAny_load I.at_ ?_)
    | wp_step)
theorem dec_dict {dx : Addr} {Q : Fin → Shared → Prop} {l : Addr} {es : Array DictEntry} {n : Nat} {dd : Option Addr} {sl : Array (Option Value)} (X : K.In s.heap) (I : InstAt s.heap x (instObj C dx) C od) (hl : s.heap.get? l = some { cls := .type "dict", dict := dd, data := .dict es n, slots := sl }) (hsub : subIn K (.ref C) (.type "dict") = some false) (h : Q (.done (.ret .notImplemented)) s) :
    wpAny (model prog w) A (Builtin.«dict.__eq__» ⟨[.ref l, .ref x], []⟩) Q E s := by
  unfold Builtin.«dict.__eq__»
  repeat (first
    | exact h
    | (refine I.type.here ?_)
    | (refine (looks_subIn X hsub).here ?_)
    | (with_reducible refine wpAny_load I.at_ ?_)
    | wp_step)
end
end HQ

set_option Elab.async false
set_option linter.all false
set_option maxRecDepth 100000
set_option maxHeartbeats 4000000
/-! Own layer: == and != between an instance with its own __eq__ and any built-in value, in both sequences. -/
namespace HQ
open PySem PySem.Spec PyProof.Rows PySem.SeqAt PySem.W
section
variable {prog : Program} {w : World} {A : Around} {E : Value → Shared → Prop} {s : Shared} {K : PySem.W.Frag} {x C f dx l : Addr} {a b tb : Value} {od : Option Obj} {T id : String}
variable {items : Array Value} {n : Nat} {dd : Option Addr} {sl : Array (Option Value)}
/-- an instance of C at x, C's relations in K -/
def At (K : PySem.W.Frag) (x C dx : Addr) (od : Option Obj) (s : Shared) : Prop := K.In s.heap ∧ InstAt s.heap x (instObj C dx) C od
theorem m_none : Meets (Builtin.«NoneType.__eq__» ⟨[.none, .ref x], []⟩) (fun _ R s => R (.ok (.ret .notImplemented)) s) :=
  .of_wp fun prog w A R s h => by obtain ⟨hp, g, d, tk, os⟩ := s; wp_walk; exact ⟨_, rfl, h⟩
theorem m_bool (p : Bool) (hsub : subIn K (.ref C) (.type "int") = some false) : Meets (Builtin.«int.__eq__» ⟨[.bool p, .ref x], []⟩) (fun _ R s => At K x C dx od s ∧ R (.ok (.ret .notImplemented)) s) :=
  .of_wp fun prog w A R s h => dec_bool h.1.1 h.1.2 p hsub ⟨_, rfl, h.2⟩
theorem m_int (i : Int) (t : Tok) (hsub : subIn K (.ref C) (.type "int") = some false) : Meets (Builtin.«int.__eq__» ⟨[.int i t, .ref x], []⟩) (fun _ R s => At K x C dx od s ∧ R (.ok (.ret .notImplemented)) s) :=
  .of_wp fun prog w A R s h => dec_int h.1.1 h.1.2 i t hsub ⟨_, rfl, h.2⟩
theorem m_str (z : Str) (t : Tok) (hsub : subIn K (.ref C) (.type "str") = some false) : Meets (Builtin.«str.__eq__» ⟨[.str z t, .ref x], []⟩) (fun _ R s => At K x C dx od s ∧ R (.ok (.ret .notImplemented)) s) :=
  .of_wp fun prog w A R s h => dec_str h.1.1 h.1.2 z t hsub ⟨_, rfl, h.2⟩
theorem m_list (hsub : subIn K (.ref C) (.type "list") = some false) : Meets (Builtin.«list.__eq__» ⟨[.ref l, .ref x], []⟩) (fun _ R s => At K x C dx od s ∧ s.heap.get? l = some { cls := .type "list", dict := dd, data := .seq items n, slots := sl } ∧ R (.ok (.ret .notImplemented)) s) :=
  .of_wp fun prog w A R s h => dec_list h.1.1 h.1.2 h.2.1 hsub ⟨_, rfl, h.2.2⟩
theorem m_tuple (hsub : subIn K (.ref C) (.type "tuple") = some false) : Meets (Builtin.«tuple.__eq__» ⟨[.ref l, .ref x], []⟩) (fun _ R s => At K x C dx od s ∧ s.heap.get? l = some { cls := .type "tuple", dict := dd, data := .seq items n, slots := sl } ∧ R (.ok (.ret .notImplemented)) s) :=
  .of_wp fun prog w A R s h => dec_tuple h.1.1 h.1.2 h.2.1 hsub ⟨_, rfl, h.2.2⟩
theorem m_dict {es : Array DictEntry} (hsub : subIn K (.ref C) (.type "dict") = some false) : Meets (Builtin.«dict.__eq__» ⟨[.ref l, .ref x], []⟩) (fun _ R s => At K x C dx od s ∧ s.heap.get? l = some { cls := .type "dict", dict := dd, data := .dict es n, slots := sl } ∧ R (.ok (.ret .notImplemented)) s) :=
  .of_wp fun prog w A R s h => dec_dict h.1.1 h.1.2 h.2.1 hsub ⟨_, rfl, h.2.2⟩
theorem ne_KB {Q : Value → Shared → Prop} (hu : A.units < cLine) (hu1 : A.in1.units < cLine) (X : K.In s.heap) (I : InstAt s.heap x (instObj C dx) C od) (hb : Looks (model prog w) s.heap (typeOf b) tb) (hn0 : notFirst K C tb = true) (hm : mroIn K C (.type "object") = some true)
    (hn : findIn K (.ref C) "__ne__" = some (some (.builtin "object.__ne__"))) (hs : findIn K (.ref C) "__eq__" = some (some (.ref f))) (hf : isFn K (.ref f) = true)
    (hcall : wpAny (model prog w) A.in1 (call (.ref f) [.ref x, b]) (fun v s' => ∃ t, v = .bool t ∧ Q (.bool (!t)) s') E s) : wpAny (model prog w) A (richCompare .NotEq (.ref x) b) Q E s := by
  have one : wpAny (model prog w) A (tryCompare (.ref x) "__ne__" b) (fun r s' => ∃ v, r = some v ∧ Q v s') E s := by
    unfold tryCompare
    refine wpAny_bind (HN.ifBound_objNe X I hn (HN.call_objNe X I hm hs hf hu1 (wpAny_mono hcall (fun v s' hv => ?_) fun _ _ e => e)))
    obtain ⟨t, rfl, q⟩ := hv
    exact ⟨t, rfl, wpAny_pure ⟨_, rfl, q⟩⟩
  simp only [richCompare, cmpInfo_NotEq, oneThing_ref]
  refine wpAny_holding (wpAny_bind (wpAny_cRoomFor hu ?_))
  refine wpAny_bind (I.type.here (wpAny_bind (hb.here ?_)))
  split
  · rename_i q
    have e : subIn K tb (.ref C) = some false := by
      rcases Bool.or_eq_true_iff.mp hn0 with e | e
      · rw [beq_iff_eq.mp e] at q; simp at q
      · exact beq_iff_eq.mp e
    refine wpAny_bind ((looks_subIn X e).here ?_)
    simp only [Bool.false_eq_true, if_false]
    refine wpAny_bind (wpAny_mono one (fun r s' z => ?_) fun _ _ e => e)
    obtain ⟨v, rfl, hq⟩ := z
    exact wpAny_pure hq
  · refine wpAny_bind (wpAny_pure ?_)
    simp only [Bool.false_eq_true, if_false]
    refine wpAny_bind (wpAny_mono one (fun r s' z => ?_) fun _ _ e => e)
    obtain ⟨v, rfl, hq⟩ := z
    exact wpAny_pure hq
end
end HQ
namespace Ex
open PySem PySem.Spec PySem.Calls PyProof.Rows L2 Gu
/-- built-in values and their types -/
inductive Bv (H : Hp) : V → String → Prop
  | non : Bv H .non "NoneType"
  | bl (b : Bool) : Bv H (.bl b) "bool"
  | int (i : Int) : Bv H (.int i) "int"
  | str (x : Str) : Bv H (.str x) "str"
  | lst {a : Addr} {xs : List V} : H a = some (.lst xs) → Bv H (.ref a) "list"
  | tup {a : Addr} {xs : List V} : H a = some (.tup xs) → Bv H (.ref a) "tuple"
  | dct {a : Addr} {kvs : List (Key × V)} : H a = some (.dK kvs) → Bv H (.ref a) "dict"
theorem Bv.tyx {K : PySem.W.Frag} {H : Hp} {v : V} {T : String} (h : Bv H v T) : TyX K H v (.type T) := by
  cases h with
  | non => exact .base .non
  | bl b => exact .base (.bl b)
  | int i => exact .base (.int i)
  | str x => exact .base (.str x)
  | lst e => exact .base (.lst e)
  | tup e => exact .base (.tup e)
  | dct e => exact .base (.dK e)
def bus : List String := ["NoneType", "bool", "int", "str", "list", "tuple", "dict"]
theorem Bv.mem {H : Hp} {v : V} {T : String} (h : Bv H v T) : T ∈ bus := by cases h <;> decide
/-- what comparisons with built-in values ask of an own class -/
structure BuOk (K : PySem.W.Frag) (C : Addr) : Prop where
  all : ∀ T ∈ bus, PySem.W.notFirst K C (.type T) = true ∧ PySem.W.subIn K (.ref C) (.type T) = some false ∧ PySem.W.kitOne K (.type T) (.ref C) = some false
def buB (K : PySem.W.Frag) (C : Addr) : Bool := bus.all fun T => PySem.W.notFirst K C (.type T) && (decide (PySem.W.subIn K (.ref C) (.type T) = some false) && decide (PySem.W.kitOne K (.type T) (.ref C) = some false))
theorem buB_ok {K : PySem.W.Frag} {C : Addr} (h : buB K C = true) : BuOk K C := ⟨fun T hT => by
  obtain ⟨h1, h2⟩ := He.ba (List.all_eq_true.mp h T hT)
  obtain ⟨h2, h3⟩ := He.ba h2
  exact ⟨h1, of_decide_eq_true h2, of_decide_eq_true h3⟩⟩
theorem BuOk.kit {K : PySem.W.Frag} {C : Addr} {H : Hp} {v : V} {T : String} (h : BuOk K C) (b : Bv H v T) : PySem.W.kitOne K (.type T) (.ref C) = some false := (h.all T b.mem).2.2
section
variable {X : Cx} {pins : List (Addr × Obj)} {σ : L2.St} {H : Hp} {s : Shared} {k j : Nat} {c : Str} {sp : Sp}
theorem Bv.typeIs (I : Inv X pins σ H s) {v : V} {T : String} {u : Value} (h : Bv H v T) (r : RelV v u) : s.TypeIs u T := by
  cases h with
  | non => cases r; rfl
  | bl b => cases r; rfl
  | int i => obtain ⟨t, rfl⟩ := r; rfl
  | str x => obtain ⟨t, rfl⟩ := r; rfl
  | lst e =>
    cases r
    obtain ⟨its, _, ⟨o, n, ho, hc, _, hd⟩, _⟩ := I.list (SqL.of e)
    exact ⟨o, ho, hc⟩
  | tup e =>
    cases r
    obtain ⟨its, _, ⟨o, ho, hc, n, hd⟩, _⟩ := I.tuple (SqT.of e)
    exact ⟨o, ho, hc⟩
  | dct e =>
    cases r
    obtain ⟨_, _, vs, _, dd⟩ := dk_of I.hok e
    exact dd.typeIs
theorem looks_of {prog : Program} {w : World} {u : Value} {T : String} (h : s.TypeIs u T) : PySem.W.Looks (model prog w) s.heap (typeOf u) (.type T) := by
  cases u with
  | ref a =>
    obtain ⟨o, ho, hc⟩ := h
    exact hc ▸ (PySem.W.Looks.ld ho).andThen .now
  | _ => exact PySem.W.Looks.of_pure h
def rEqB (C : Addr) (sp : Sp) : R2 := fun x y H Q => ∃ a dx fs T, x = .ref a ∧ H a = some (.ins C dx fs) ∧ Bv H y T ∧ sp [.ref a, y] H (fun v H' => (∃ t, v = .bl t) ∧ Q v H') E0
theorem op_eqB (D : EqOf X.prog X.w X.K X.mg X.base k c sp) (B : BuOk X.K (He.ga X.K c)) (hr : Room j X.A) (hj : k ≤ j := by decide) : OpR X (compareOp .Eq) (rEqB (He.ga X.K c) sp) := by
  intro pins s σ H x y u v Q I rx ry ⟨a, dx, fs, T, ex, ha, bv, hsp⟩
  subst ex
  obtain rfl : u = Value.ref a := rx
  obtain ⟨fd, F, bi⟩ := D.ex
  have hr' := hr.mono hj
  obtain ⟨mA, J, _⟩ := ins_get I.hok ha
  obtain ⟨od, J, _⟩ := J.look
  obtain ⟨m, hF⟩ := I.fr
  have ty := bv.typeIs I ry
  show wpAny (model X.prog X.w) X.A (richCompare .Eq (.ref a) v) (EP X pins σ Q) X.xe s
  refine PySem.W.cmp_K (op := .Eq) (tb := .type T) hr'.units0 hF I.ok.mod.kin J (looks_of ty) (B.all T bv.mem).1 D.at_ D.fn ?_
  have r2 : Vals [V.ref a, y] [Value.ref a, v] := .cons rfl (.cons ry .nil)
  have bb := bi s [.ref a, v] I.kIn rfl
  refine wpAny_call (codeAny_mono (F.run X.A X.stack s H ⟨[.ref a, v], []⟩ [.ref a, v] [.ref a, y] _ E0 hr' I.env0 (by simpa using bb) r2 hsp) fun r s' hq => ?_)
  match r, hq with
  | .ok (.ret w), hq =>
    obtain ⟨z, H', I', rz, ⟨t, ez⟩, q⟩ := I.after hq
    subst ez
    cases rz
    exact ⟨.bl t, H', I', rfl, q⟩
def rNeB (C : Addr) (sp : Sp) : R2 := fun x y H Q => ∃ a dx fs T, x = .ref a ∧ H a = some (.ins C dx fs) ∧ Bv H y T ∧ sp [.ref a, y] H (fun v H' => ∃ t, v = .bl t ∧ Q (.bl (!t)) H') E0
theorem op_neB (D : EqOf X.prog X.w X.K X.mg X.base k c sp) (N : NeOk X.K (He.ga X.K c)) (B : BuOk X.K (He.ga X.K c)) (hr : Room j X.A) (hj : k + 1 ≤ j := by decide) : OpR X (compareOp .NotEq) (rNeB (He.ga X.K c) sp) := by
  intro pins s σ H x y u v Q I rx ry ⟨a, dx, fs, T, ex, ha, bv, hsp⟩
  subst ex
  obtain rfl : u = Value.ref a := rx
  obtain ⟨fd, F, bi⟩ := D.ex
  have hr' := hr.mono hj
  obtain ⟨mA, J, _⟩ := ins_get I.hok ha
  obtain ⟨od, J, _⟩ := J.look
  have ty := bv.typeIs I ry
  show wpAny (model X.prog X.w) X.A (richCompare .NotEq (.ref a) v) (EP X pins σ Q) X.xe s
  refine HQ.ne_KB hr'.units0 hr'.in1.units0 I.kIn J (looks_of ty) (B.all T bv.mem).1 N.hm N.ne D.at_ D.fn ?_
  have r2 : Vals [V.ref a, y] [Value.ref a, v] := .cons rfl (.cons ry .nil)
  have bb := bi s [.ref a, v] I.kIn rfl
  refine wpAny_call (codeAny_mono (F.run X.A.in1 X.stack s H ⟨[.ref a, v], []⟩ [.ref a, v] [.ref a, y] _ E0 hr'.in1 I.env0.in1 (by simpa using bb) r2 hsp) fun r s' hq => ?_)
  match r, hq with
  | .ok (.ret w), hq =>
    obtain ⟨z, H', I', rz, ⟨t, ez, q⟩⟩ := I.after hq
    subst ez
    cases rz
    exact ⟨t, rfl, .bl (!t), H', I', rfl, q⟩
def rEqR (C : Addr) (sp : Sp) : R2 := fun x y H Q => ∃ b dx fs T, y = .ref b ∧ H b = some (.ins C dx fs) ∧ Bv H x T ∧ sp [.ref b, x] H (fun v H' => (∃ t, v = .bl t) ∧ Q v H') E0
theorem op_eqR (D : EqOf X.prog X.w X.K X.mg X.base k c sp) (B : BuOk X.K (He.ga X.K c)) (hr : Room j X.A) (hj : k ≤ j := by decide) : OpR X (compareOp .Eq) (rEqR (He.ga X.K c) sp) := by
  intro pins s σ H x y u v Q I rx ry ⟨b, dx, fs, T, ey, hb, bv, hsp⟩
  subst ey
  obtain rfl : v = Value.ref b := ry
  obtain ⟨fd, F, bi⟩ := D.ex
  have hr' := hr.mono hj
  obtain ⟨mA, J, _⟩ := ins_get I.hok hb
  obtain ⟨od, J, _⟩ := J.look
  have ty := bv.typeIs I rx
  have at0 : HQ.At X.K b (He.ga X.K c) dx (some od) s := ⟨I.kIn, J⟩
  have su : ∀ T ∈ bus, PySem.W.subIn X.K (.ref (He.ga X.K c)) (.type T) = some false := fun T hT => (B.all T hT).2.1
  have r2 : Vals [V.ref b, x] [Value.ref b, u] := .cons rfl (.cons rx .nil)
  have bb := bi s [.ref b, u] I.kIn rfl
  have own : wpAny (model X.prog X.w) X.A (call (.ref (He.ma X.K (He.ga X.K c) "__eq__")) [.ref b, u]) (PySem.W.CmpBack (EP X pins σ Q)) X.xe s := by
    refine wpAny_call (codeAny_mono (F.run X.A X.stack s H ⟨[.ref b, u], []⟩ [.ref b, u] [.ref b, x] _ E0 hr' I.env0 (by simpa using bb) r2 hsp) fun r s' hq => ?_)
    match r, hq with
    | .ok (.ret w), hq =>
      obtain ⟨z, H', I', rz, ⟨t, ez⟩, q⟩ := I.after hq
      subst ez
      cases rz
      exact ⟨.bl t, H', I', rfl, q⟩
  have tyT := ty
  show wpAny (model X.prog X.w) X.A (richCompare .Eq u (.ref b)) (EP X pins σ Q) X.xe s
  cases bv with
  | non =>
    cases rx
    exact HQ.refl_K hr'.units0 I.kIn J D.at_ D.fn ty PySem.F.slot_NoneType_eq (su _ (by decide)) (fun Q' q' => call_meets PySem.F.slot_NoneType_eq ty PySem.F.entry_NoneType_eq (PySem.F.args_NoneType_eq_2 _ _) HQ.m_none q') own
  | bl p =>
    cases rx
    exact HQ.refl_K hr'.units0 I.kIn J D.at_ D.fn ty PySem.F.slot_bool_eq (su _ (by decide)) (fun Q' q' => call_meets PySem.F.slot_bool_eq ty PySem.F.entry_int_eq (PySem.F.args_int_eq_2 _ _) (HQ.m_bool p (su "int" (by decide))) ⟨at0, q'⟩) own
  | int i =>
    obtain ⟨t, rfl⟩ := rx
    exact HQ.refl_K hr'.units0 I.kIn J D.at_ D.fn ty PySem.F.slot_int_eq (su _ (by decide)) (fun Q' q' => call_meets PySem.F.slot_int_eq ty PySem.F.entry_int_eq (PySem.F.args_int_eq_2 _ _) (HQ.m_int i t (su "int" (by decide))) ⟨at0, q'⟩) own
  | str z =>
    obtain ⟨t, rfl⟩ := rx
    exact HQ.refl_K hr'.units0 I.kIn J D.at_ D.fn ty PySem.F.slot_str_eq (su _ (by decide)) (fun Q' q' => call_meets PySem.F.slot_str_eq ty PySem.F.entry_str_eq (PySem.F.args_str_eq_2 _ _) (HQ.m_str z t (su "str" (by decide))) ⟨at0, q'⟩) own
  | lst e =>
    cases rx
    obtain ⟨its, _, ⟨⟨oc, od1, odt, osl⟩, n, ho, hc, _, hd⟩, _⟩ := I.list (SqL.of e)
    simp only at hc hd
    subst hc hd
    exact HQ.refl_K hr'.units0 I.kIn J D.at_ D.fn ty PySem.F.slot_list_eq (su _ (by decide)) (fun Q' q' => call_meets PySem.F.slot_list_eq ty PySem.F.entry_list_eq (PySem.F.args_list_eq_2 _ _) (HQ.m_list (su "list" (by decide))) ⟨at0, ho, q'⟩) own
  | tup e =>
    cases rx
    obtain ⟨its, _, ⟨⟨oc, od1, odt, osl⟩, ho, hc, n, hd⟩, _⟩ := I.tuple (SqT.of e)
    simp only at hc hd
    subst hc hd
    exact HQ.refl_K hr'.units0 I.kIn J D.at_ D.fn ty PySem.F.slot_tuple_eq (su _ (by decide)) (fun Q' q' => call_meets PySem.F.slot_tuple_eq ty PySem.F.entry_tuple_eq (PySem.F.args_tuple_eq_2 _ _) (HQ.m_tuple (su "tuple" (by decide))) ⟨at0, ho, q'⟩) own
  | dct e =>
    cases rx
    obtain ⟨_, _, vs, _, ⟨oc, od1, odt, osl⟩, es, ep, ho, hx, hd, _⟩ := dk_of I.hok e
    have hc : oc = .type "dict" := hx.1
    simp only at hd
    subst hc hd
    exact HQ.refl_K hr'.units0 I.kIn J D.at_ D.fn ty PySem.F.slot_dict_eq (su _ (by decide)) (fun Q' q' => call_meets PySem.F.slot_dict_eq ty PySem.F.entry_dict_eq (PySem.F.args_dict_eq_2 _ _) (HQ.m_dict (su "dict" (by decide))) ⟨at0, ho, q'⟩) own
end
end Ex

set_option Elab.async false
set_option linter.all false
set_option maxRecDepth 100000
set_option maxHeartbeats 4000000
/-! Own layer: repr(o) by the class's own __repr__; {x!r} of a list or a tuple of data in an f-string. -/
namespace Ex
open PySem PySem.Spec PySem.Calls PyProof.Rows L2 Gu
/-- methods that are called where no repr is under way -/
structure MfG (P : Program) (w : World) (K : PySem.W.Frag) (mg : Str → Option Value) (base : Heap) (k : Nat) (c m : Str) (ps : List Str) (sp : Sp) : Prop where
  ex : ∃ fd, FnG P w K mg base CX0 k (He.ma K (He.ga K c) m) fd ps sp ∧ Binds K fd ps []
  cl : Cls K (He.ga K c)
  me : Meth K (He.ga K c) m (He.ma K (He.ga K c) m)
section
variable {X : Cx} {k j : Nat} {c : Str} {ps : List Str} {sp : Sp}
def rReprO (C : Addr) (sp : Sp) : List V → Hp → VK → Prop := fun xs H Q => ∃ (a dx : Addr) (fs : List (Str × V)), xs = [.ref a] ∧ H a = some (.ins C dx fs) ∧ sp [.ref a] H (fun v H' => ∃ z : Str, v = .str z ∧ Q (.str z) H') E0
theorem call_reprO (D : MfG X.prog X.w X.K X.mg X.base k c "__repr__" ps sp) (hr : RoomG j X.A) (hj : k + 1 ≤ j := by decide) : CallR X (.builtin "repr") (rReprO (He.ga X.K c) sp) := by
  intro pins s σ H xs us Q I r h
  obtain ⟨a, dx, fs, rfl, ha, hq⟩ := h
  obtain ⟨u, rfl, ru⟩ := vals1 r
  obtain rfl : u = Value.ref a := ru
  obtain ⟨fd, F, b⟩ := D.ex
  obtain ⟨mA, J, _⟩ := ins_get I.hok ha
  obtain ⟨od, J, _⟩ := J.look
  obtain ⟨m, hF⟩ := I.fr
  have rm : RoomG k X.A.in1 := ⟨(hr.r.mono hj).in1, hr.g⟩
  have hl := F.len _ _ _ _ hq
  refine PySem.W.repr_K rm.r.units0 hF I.ok.mod.kin J D.me.at_ D.me.fn ?_
  refine wpAny_call (codeAny_mono (F.run X.A.in1 X.stack s H ⟨[.ref a], []⟩ [.ref a] [.ref a] _ E0 rm I.env0.in1 (by
    have := b s [.ref a] I.kIn (by simpa using hl)
    simpa using this) (.cons rfl .nil) hq) fun r s' hq' => ?_)
  match r, hq' with
  | .ok (.ret u), hq' =>
    obtain ⟨v, H', I', rv, z, rfl, q⟩ := I.after hq'
    obtain ⟨t, rfl⟩ := rv
    exact ⟨.str z, H', I', ⟨t, rfl⟩, q⟩
/-- {x!r}, x a list or a tuple -/
def tFmtRQ (K : PySem.W.Frag) (te : TE) : TE := fun σ H Q => te σ H fun x H1 => ∃ (a : Addr) (d : PyData), x = .ref a ∧ Dq K H1 (.ref a) d ∧ d.showable = true ∧ d.depth ≤ 60 ∧ d.shown.length ≤ sizeLine ∧ Q (.str d.shown) H1
theorem pe_fmtRQ (hr : RoomG k X.A) (hs : SysOk X.K) {e : Expr} {te : TE} {pos : Pos} (he : PE X e te) : PE X (.FormattedValue e 114 none pos) (tFmtRQ X.K te) := by
  refine ⟨fun pins s σ H Q I h => ?_⟩
  refine wpAny_FormattedValue_repr (thn (he.run pins s σ H _ I h) fun v s1 hv => ?_)
  obtain ⟨x, H1, I1, r1, a, d, rfl, hd, hsh, hdep, hz, q⟩ := hv
  obtain ⟨as, rd, na⟩ := Dq.reads hs I1 hd v r1
  obtain rfl : v = Value.ref a := r1
  have hu := hr.r.units
  refine pyReprObj_of_reads rd hsh (fun _ => na) hr.g (by omega) (fun _ _ e => e) (fun h' u tk hk => ?_) hz
  exact wpAny_formatField_str ⟨.str d.shown, H1, I1.kept hk, ⟨_, rfl⟩, q⟩ ⟨.str d.shown, H1, I1.kept hk, ⟨_, rfl⟩, q⟩ hz
end
end Ex

set_option Elab.async false
set_option linter.all false
set_option maxRecDepth 100000
set_option maxHeartbeats 400000
set_option pp.maxSteps 900
namespace K21
open PySem PySem.Spec PyProof.Rows L2 Gu Ex
/-! what repr shows of blocks -/
section
variable {K : PySem.W.Frag} {H : Hp} {n m : Nat}
theorem tqa_nil : TqAll K H [] [] n m := ⟨.nil, rfl, Nat.zero_le _, Nat.zero_le _⟩
theorem tqa_cons {v : V} {vs : List V} {d : PyData} {ds : List PyData} (t : Tq K H v d n m) (a : TqAll K H vs ds n m) : TqAll K H (v :: vs) (d :: ds) n m := by
  refine ⟨.cons t.dq a.dq, ?_, ?_, ?_⟩
  · show (d.showable && PyData.showableAll ds) = true
    rw [t.sh, a.sh]
    rfl
  · show max d.depth (PyData.depthAll ds) ≤ n
    have := t.dp
    have := a.dp
    omega
  · show (d.shown.length + ((PyData.shownAll ds).map (·.length)).sum) + 2 * ((PyData.shownAll ds).length + 1) ≤ (vs.length + 1) * (m + 2)
    have := t.ln
    have := a.ln
    rw [Nat.add_mul, Nat.one_mul]
    omega
def InB (b : Blk) : Prop := 0 ≤ b.1 ∧ b.1 ≤ 1000000000000 ∧ b.2.1 < 8
theorem one_blk {b : Blk} {p : Addr} (h : H p = some (.tup (blkV b))) (i : InB b) : Tq K H (.ref p) (blkD b) 1 132 := by
  have b39 : (10 : Int) ^ 39 = 1000000000000000000000000000000000000000 := by decide
  obtain ⟨i1, i2, i3⟩ := i
  exact ((tqa_cons (tq_int (by omega) (by omega)) (tqa_cons (tq_int (by omega) (by omega)) (tqa_cons (tq_bl _) tqa_nil))).tup h).mono (by decide) (by show 3 * (41 + 2) + 3 ≤ 132; decide)
theorem blk_all : ∀ {qs : List Addr} {bs : List Blk}, Refs blkV H qs bs → (∀ b ∈ bs, InB b) → TqAll K H (qs.map V.ref) (bs.map blkD) 1 132
  | _, _, .nil, _ => tqa_nil
  | _, _, .cons a r, h => tqa_cons (one_blk a (h _ List.mem_cons_self)) (blk_all r fun b hb => h b (List.mem_cons_of_mem _ hb))
theorem wf_in {ns : List Int} {z : Int} {bs : List Blk} (w : Wf ns z bs) (g : Good ns) (z2 : z ≤ 1000000000000) : ∀ b ∈ bs, InB b := fun b hb => by
  obtain ⟨h1, h2, h3, h4⟩ := w.ok b hb
  have := w.pos g hb
  have := g.len
  unfold bEnd at h4
  exact ⟨h2, by omega, by omega⟩
theorem blks_tq {qs : List Addr} {bs : List Blk} {l : Addr} (r : Refs blkV H qs bs) (i : ∀ b ∈ bs, InB b) (ln : bs.length ≤ 100) (h : H l = some (.lst (qs.map V.ref))) : Tq K H (.ref l) (.list (bs.map blkD)) 3 14000 :=
  ((blk_all r i).lst h).mono (by decide) (by rw [List.length_map, r.len]; omega)
end
section
variable {P : Program} {w : World} {K : PySem.W.Frag} {mg : Str → Option Value} {base : Heap} {f : Addr} {fd : FuncData}
def spDue : Sp := fun vs H Q _ => ∃ (r wa sa ba : Addr) (qs : List Addr) (ns : List Int) (n : Int) (bs : List Blk) (a : Int), vs = [.ref wa, .int a] ∧ WR r H wa sa ba qs ns n bs ∧
  ((∀ b ∈ bs, ¬ (b.1 ≤ a ∧ a < bEnd ns b)) → Q .non H) ∧ (∀ b ∈ bs, b.1 ≤ a → a < bEnd ns b → ∀ q, H q = some (.tup (blkV b)) → Q (.ref q) H)
theorem sc__law_block_due : FnScope ["_law_world", "_law_spot", "_law_one"] ["_law_world", "_law_spot"] (defScope (top 33)) := ⟨rfl, rfl, rfl, by decide +kernel, rfl, by decide +kernel, by decide +kernel⟩
theorem ok_due (T : Tx K mg) (F : FnP K "_law_block_due" "_law_block_due" (top 33) f fd) : FnOk P w K mg base CX0 1 f fd ["_law_world", "_law_spot"] spDue := by
  refine F.ok sc__law_block_due (fun vs H Q E h => ?_) (fun cdv A outer s H vs Q E hr h => ⟨_, PSs.nox (pss_cons (ps_for PassesOwn.never rfl (pi_list (pe_dget (u1 hr) (pv 0) pe_str (fun _ _ => rfl))) (pg_name (i := 2) sc__law_block_due.nd rfl (by first | exact Or.inl rfl | exact Or.inr rfl)) (pss_one (ps_if (pt_chain op_le op_lt (pe_ix (r := rIxT K) ix_tup (pv 2) pe_int (fun _ _ => rfl)) (pv 1) (pe_op op_add (pe_ix (r := rIxT K) ix_tup (pv 2) pe_int (fun _ _ => rfl)) (pe_ix ix_list (pe_dget (u1 hr) (pv 0) pe_str (fun _ _ => rfl)) (pe_ix (r := rIxT K) ix_tup (pv 2) pe_int (fun _ _ => rfl)) (fun _ _ => rfl)))) (pss_one (ps_ret (pv 2))) pss_nil))) (pss_one (ps_ret pe_non))), ?_⟩)
  · obtain ⟨r, wa, sa, ba, qs, ns, n, bs, a, rfl, _⟩ := h
    rfl
  · obtain ⟨r, wa, sa, ba, qs, ns, n, bs, a, rfl, W, q1, q2⟩ := h
    have pl := W.rf.len
    refine ⟨_, rfl, wa, _, rfl, get_b W, ba, rfl, ⟨_, SqL.of W.b⟩, ?_⟩
    refine for_it (walk_list (xs := qs.map V.ref)) (fun i σ G => (∃ x, σ = [some (.ref wa), some (.int a), x]) ∧ G = H ∧ ∀ (j : Nat) b, j < i → bs[j]? = some b → ¬ (b.1 ≤ a ∧ a < bEnd ns b)) ⟨⟨none, rfl⟩, rfl, fun j b h => absurd h (Nat.not_lt_zero j)⟩ (fun i σ G _ h => by rw [h.2.1]; exact SqL.of W.b) ?_ ?_
    · rintro i v σ G0 G hi ⟨⟨x, rfl⟩, rfl, hno⟩ ⟨rfl, hv⟩
      have hi2 : i < bs.length := by rw [List.length_map, pl] at hi; exact hi
      obtain ⟨b, hb⟩ : ∃ b, bs[i]? = some b := ⟨_, List.getElem?_eq_getElem hi2⟩
      obtain ⟨p, hp, hT⟩ := W.rf.at_ hb
      rw [List.getElem?_map, hp] at hv
      obtain rfl : v = .ref p := (Option.some.inj hv).symm
      have bm := List.mem_of_getElem? hb
      have bk := (W.wf.ok b bm).1
      have more : ¬ (b.1 ≤ a ∧ a < bEnd ns b) → ∀ (j : Nat) c, j < i + 1 → bs[j]? = some c → ¬ (c.1 ≤ a ∧ a < bEnd ns c) := fun nb j c hj hc => by
        by_cases e : j = i
        · rw [e, hb] at hc
          cases hc
          exact nb
        · exact hno j c (by omega) hc
      refine ⟨_, rfl, p, _, _, _, rfl, rfl, SqT.of hT, rfl, _, rfl, _, _, rfl, rfl, _, rfl, ?_⟩
      by_cases c1 : b.1 ≤ a
      · refine ifT (decide_eq_true c1) ⟨_, rfl, p, _, _, _, rfl, rfl, SqT.of hT, rfl, _, rfl, wa, _, rfl, get_s W, _, rfl, p, _, _, _, rfl, rfl, SqT.of hT, rfl, sa, _, _, _, rfl, rfl, SqL.of W.s, at_map (sz_at bk), _, _, rfl, rfl, _, _, rfl, rfl, _, rfl, ?_⟩
        by_cases c2 : a < b.1 + sz ns b.2.1
        · exact ifT (decide_eq_true c2) ⟨_, rfl, q2 b bm c1 c2 p hT⟩
        · exact ifF (decide_eq_false c2) ⟨⟨_, rfl⟩, rfl, more fun z => c2 z.2⟩
      · exact ifF (decide_eq_false c1) ⟨_, rfl, iteF ⟨⟨_, rfl⟩, rfl, more fun z => c1 z.1⟩⟩
    · rintro σ G ⟨⟨x, rfl⟩, rfl, hno⟩
      rw [List.length_map, pl] at hno
      refine q1 fun b hb => ?_
      obtain ⟨j, hj⟩ := List.getElem?_of_mem hb
      exact hno j b (List.getElem?_eq_some_iff.mp hj).1 hj
def spLLen (K : PySem.W.Frag) : Sp := fun vs H Q _ => ∃ (y zp bl dx : Addr) (ps : List Addr) (ns : List Int) (n : Int) (bs : List Blk), vs = [.ref y] ∧ Ly K H y zp bl dx ps ns n bs ∧ Q (.int (bs.length : Nat)) H
theorem sc_Layout_len : FnScope ["self"] ["self"] (defScope (inClass (top 21) 2)) := ⟨rfl, rfl, rfl, by decide +kernel, rfl, by decide +kernel, by decide +kernel⟩
theorem ok_llen (T : Tx K mg) (F : FnP K "__len__" "Layout.__len__" (inClass (top 21) 2) f fd) : FnOk P w K mg base CX0 1 f fd ["self"] (spLLen K) := by
  refine F.ok sc_Layout_len (fun vs H Q E h => ?_) (fun cdv A outer s H vs Q E hr h => ⟨_, PSs.nox (pss_one (ps_ret (pe_callB call_len_seq (by rfl) T.n_len (by decide +kernel) (pa_cons (pe_fld (pv 0) rfl) pa_nil)))), ?_⟩)
  · obtain ⟨y, zp, bl, dx, ps, ns, n, bs, rfl, _⟩ := h
    rfl
  · obtain ⟨y, zp, bl, dx, ps, ns, n, bs, rfl, L, q⟩ := h
    refine ⟨_, rfl, y, _, dx, _, _, rfl, L.at_, T.ly, T.nBL, lay_bl .., bl, _, rfl, .inl (SqL.of L.lst), ?_⟩
    rw [List.length_map, L.rf.len]
    exact q
def spLng (K : PySem.W.Frag) : Sp := fun vs H Q _ => ∃ (y zp bl dx : Addr) (ps : List Addr) (ns : List Int) (n : Int) (bs : List Blk), vs = [.ref y] ∧ Ly K H y zp bl dx ps ns n bs ∧ Q (.int n) H
theorem sc_length : FnScope ["self"] ["self"] (defScope (inClass (top 21) 5)) := ⟨rfl, rfl, rfl, by decide +kernel, rfl, by decide +kernel, by decide +kernel⟩
theorem ok_lng (T : Tx K mg) (F : FnP K "length" "Layout.length" (inClass (top 21) 5) f fd) : FnOk P w K mg base CX0 1 f fd ["self"] (spLng K) := by
  refine F.ok sc_length (fun vs H Q E h => ?_) (fun cdv A outer s H vs Q E hr h => ⟨_, PSs.nox (pss_one (ps_ret (pe_fld (pv 0) rfl))), ?_⟩)
  · obtain ⟨y, zp, bl, dx, ps, ns, n, bs, rfl, _⟩ := h
    rfl
  · obtain ⟨y, zp, bl, dx, ps, ns, n, bs, rfl, L, q⟩ := h
    exact ⟨_, rfl, y, _, dx, _, _, rfl, L.at_, T.ly, T.nCC, lay_cc .., q⟩
def spSzs (K : PySem.W.Frag) : Sp := fun vs H Q _ => ∃ (y zp bl dx : Addr) (ps : List Addr) (ns : List Int) (n : Int) (bs : List Blk), vs = [.ref y] ∧ Ly K H y zp bl dx ps ns n bs ∧ Q (.ref zp) H
theorem sc_sizes : FnScope ["self"] ["self"] (defScope (inClass (top 21) 4)) := ⟨rfl, rfl, rfl, by decide +kernel, rfl, by decide +kernel, by decide +kernel⟩
theorem ok_szs (T : Tx K mg) (F : FnP K "sizes" "Layout.sizes" (inClass (top 21) 4) f fd) : FnOk P w K mg base CX0 1 f fd ["self"] (spSzs K) := by
  refine F.ok sc_sizes (fun vs H Q E h => ?_) (fun cdv A outer s H vs Q E hr h => ⟨_, PSs.nox (pss_one (ps_ret (pe_fld (pv 0) rfl))), ?_⟩)
  · obtain ⟨y, zp, bl, dx, ps, ns, n, bs, rfl, _⟩ := h
    rfl
  · obtain ⟨y, zp, bl, dx, ps, ns, n, bs, rfl, L, q⟩ := h
    exact ⟨_, rfl, y, _, dx, _, _, rfl, L.at_, T.ly, T.nST, lay_st .., q⟩
def layT (n : Int) (bs : List Blk) : Str := ("Layout(" : Str) ++ Str.ofString (toString n) ++ (", " : Str) ++ (PyData.list (bs.map blkD)).shown ++ (")" : Str)
def spLRepr (K : PySem.W.Frag) : Sp := fun vs H Q _ => ∃ (y zp bl dx : Addr) (ps : List Addr) (ns : List Int) (n : Int) (bs : List Blk), vs = [.ref y] ∧ Ly K H y zp bl dx ps ns n bs ∧ bs.length ≤ 100 ∧ Q (.str (layT n bs)) H
theorem num_log {n : Int} (h1 : 1 ≤ n) (h2 : n ≤ 1000000000000) : n.natAbs.log2 < 1920 := by
  have e2 : (2 : Nat) ^ 40 = 1099511627776 := by decide
  exact Nat.lt_of_lt_of_le (PySem.Flt.log2_lt_of (k := 40) (by decide) (by omega)) (by decide)
theorem num_len {n : Int} (h1 : 1 ≤ n) (h2 : n ≤ 1000000000000) : (Str.ofString (toString n)).length ≤ 41 := by
  have b39 : (10 : Int) ^ 39 = 1000000000000000000000000000000000000000 := by decide
  have t := (tq_int (K := default) (H := fun _ => none) (i := n) (by omega) (by omega)).ln
  exact t
theorem sc_Layout_repr : FnScope ["self"] ["self"] (defScope (inClass (top 21) 3)) := ⟨rfl, rfl, rfl, by decide +kernel, rfl, by decide +kernel, by decide +kernel⟩
theorem ok_lrepr (T : Tx K mg) (F : FnP K "__repr__" "Layout.__repr__" (inClass (top 21) 3) f fd) : FnG P w K mg base CX0 2 f fd ["self"] (spLRepr K) := by
  refine okG F sc_Layout_repr (fun vs H Q E h => ?_) (fun cdv A outer s H vs Q E hr h => ⟨_, PSs.nox (pss_one (ps_ret (pe_joined (.cons pe_str (.cons (pe_fmt (pe_fld (pv 0) rfl)) (.cons pe_str (.cons (pe_fmtRQ hr T.sys (pe_fld (pv 0) rfl)) (.cons pe_str .nil)))))))), ?_⟩)
  · obtain ⟨y, zp, bl, dx, ps, ns, n, bs, rfl, _⟩ := h
    rfl
  · obtain ⟨y, zp, bl, dx, ps, ns, n, bs, rfl, L, l100, q⟩ := h
    have sl : sizeLine = 16777216 := sizeLine_eq
    have tq := blks_tq (K := K) L.rf (wf_in L.wf L.gd L.n2) l100 L.lst
    have e0 : (Str.empty ++ ("Layout(" : Str)) = ("Layout(" : Str) := by decide +kernel
    have l0 : ("Layout(" : Str).length = 7 := by decide +kernel
    have l1 : (", " : Str).length = 2 := by decide +kernel
    have l2 : (")" : Str).length = 1 := by decide +kernel
    have ln := num_len L.n1 L.n2
    have l3 : (PyData.list (bs.map blkD)).shown.length ≤ 14000 := tq.ln
    refine ⟨_, rfl, by rw [e0, l0]; omega, _, rfl, y, _, dx, _, _, rfl, L.at_, T.ly, T.nCC, lay_cc .., .inr ⟨n, rfl, num_log L.n1 L.n2, ?_⟩⟩
    refine ⟨_, rfl, by rw [e0, Str.length_append, l0]; omega, _, rfl, by rw [e0, Str.length_append, Str.length_append, l0, l1]; omega, _, rfl, y, _, dx, _, _, rfl, L.at_, T.ly, T.nBL, lay_bl .., bl, _, rfl, tq.dq, tq.sh, Nat.le_trans tq.dp (by decide), by omega, ?_⟩
    refine ⟨_, rfl, by rw [e0, Str.length_append, Str.length_append, Str.length_append, l0, l1]; omega, _, rfl, by rw [e0, Str.length_append, Str.length_append, Str.length_append, Str.length_append, l0, l1, l2]; omega, ?_⟩
    rw [e0]
    exact q
end
end K21

set_option Elab.async false
set_option linter.all false
set_option maxRecDepth 100000
set_option maxHeartbeats 400000
set_option pp.maxSteps 900
namespace K21
open PySem PySem.Spec PyProof.Rows L2 Gu Ex
/-- does the block contain e? -/
def cnB (ns : List Int) (e : Int) (b : Blk) : Bool := decide (b.1 ≤ e) && decide (e < bEnd ns b)
theorem cn_iff {ns : List Int} {e : Int} {b : Blk} : cnB ns e b = true ↔ b.1 ≤ e ∧ e < bEnd ns b := by
  unfold cnB
  rw [Bool.and_eq_true, decide_eq_true_eq, decide_eq_true_eq]
/-- what block_at shows -/
def atD (ns : List Int) (bs : List Blk) (e : Int) : PyData := match bs.find? (cnB ns e) with
  | some b => blkD b
  | none => .none
theorem at_one {ns : List Int} {n e : Int} {bs : List Blk} {b : Blk} (w : Wf ns n bs) (g : Good ns) (hb : b ∈ bs) (h1 : b.1 ≤ e) (h2 : e < bEnd ns b) : atD ns bs e = blkD b := by
  unfold atD
  cases q : bs.find? (cnB ns e) with
  | none => exact absurd (cn_iff.mpr ⟨h1, h2⟩) (List.find?_eq_none.mp q b hb)
  | some c =>
    have hc := List.mem_of_find?_eq_some q
    obtain ⟨k1, k2⟩ := cn_iff.mp (List.find?_some q)
    obtain ⟨i, hi⟩ := List.getElem?_of_mem hb
    obtain ⟨j, hj⟩ := List.getElem?_of_mem hc
    have e2 : i = j := by
      by_cases l1 : i < j
      · have := (w.lt g hi hj l1).1
        omega
      · by_cases l2 : j < i
        · have := (w.lt g hj hi l2).1
          omega
        · omega
    rw [e2, hj] at hi
    cases hi
    rfl
theorem at_non {ns : List Int} {e : Int} {bs : List Blk} (h : ∀ b ∈ bs, ¬ (b.1 ≤ e ∧ e < bEnd ns b)) : atD ns bs e = .none := by
  unfold atD
  rw [List.find?_eq_none.mpr fun b hb => fun z => h b hb (cn_iff.mp z)]
theorem at_q {K : PySem.W.Frag} {H : Hp} {y zp bl dx : Addr} {ps : List Addr} {ns : List Int} {n e : Int} {bs : List Blk} {Q : VK} (L : Ly K H y zp bl dx ps ns n bs) (q : ∀ v H', Same H H' → Tq K H' v (atD ns bs e) 1 132 → Q v H') :
    ∀ a, V.int e = V.int a → 0 ≤ a → a < n → ((∀ b ∈ bs, ¬ (b.1 ≤ a ∧ a < bEnd ns b)) → Q .non H) ∧ (∀ b ∈ bs, b.1 ≤ a → a < bEnd ns b → ∀ t, H t = none → Q (.ref t) (upd H t (.tup (blkV b)))) := fun a ea a0 a1 => by
  have inb := wf_in L.wf L.gd L.n2
  cases ea
  refine ⟨fun no => q _ H (fun _ _ h => h) ?_, fun b hb h1 h2 t ht => q _ _ (same_upd ht) ?_⟩
  · rw [at_non no]
    exact tq_non.mono (by decide) (by decide)
  · rw [at_one L.wf L.gd hb h1 h2]
    exact one_blk upd_same (inb b hb)
theorem at_e {K : PySem.W.Frag} {H : Hp} {n e : Int} {E : XK} (e0 : 0 ≤ e) (e1 : e < n) : atB n (.int e) = false → Raised K "InvalidAddress" "value" (.int e) H E := fun z => by
  rw [show atB n (.int e) = true from decide_eq_true ⟨e0, e1⟩] at z
  cases z
theorem due_q {K : PySem.W.Frag} {H : Hp} {r wa sa ba : Addr} {qs : List Addr} {ns : List Int} {n e : Int} {bs : List Blk} {Q : VK} (W : WR r H wa sa ba qs ns n bs) (q : ∀ v, Tq K H v (atD ns bs e) 1 132 → Q v H) :
    ((∀ b ∈ bs, ¬ (b.1 ≤ e ∧ e < bEnd ns b)) → Q .non H) ∧ (∀ b ∈ bs, b.1 ≤ e → e < bEnd ns b → ∀ p, H p = some (.tup (blkV b)) → Q (.ref p) H) := by
  have inb := wf_in W.wf W.g W.n2
  refine ⟨fun no => q _ ?_, fun b hb h1 h2 p hp => q _ ?_⟩
  · rw [at_non no]
    exact tq_non.mono (by decide) (by decide)
  · rw [at_one W.wf W.g hb h1 h2]
    exact one_blk hp (inb b hb)
theorem go_lst {t : TA} {σ : List (Option V)} {H : Hp} {Q : VK} (h : t σ H (fun xs H1 => xs.length ≤ sizeLine ∧ ∀ p, H1 p = none → Q (.ref p) (upd H1 p (.lst xs)))) : tLst t σ H Q := h
theorem go_cb {r : List V → Hp → VK → Prop} {t : TA} {σ : List (Option V)} {H : Hp} {Q : VK} (h : t σ H (fun vs H1 => r vs H1 Q)) : tCB r t σ H Q := h
theorem go_cons {ta : TE} {tr : TA} {σ : List (Option V)} {H : Hp} {Q : List V → Hp → Prop} (h : ta σ H (fun x H1 => tr σ H1 (fun xs H2 => Q (x :: xs) H2))) : tCons ta tr σ H Q := h
theorem go_op {r : R2} {ta tb : TE} {σ : List (Option V)} {H : Hp} {Q : VK} (h : ta σ H (fun x H1 => tb σ H1 (fun y H2 => r x y H2 Q))) : tOp r ta tb σ H Q := h
theorem joinCW {ta : TE} {tr : TA} {σ : List (Option V)} {H : Hp} {Q : List V → Hp → Prop} (Pc : V → Hp → Prop) (h1 : ∀ Q' : VK, (∀ c G, Pc c G → Q' c G) → ta σ H Q') (h2 : ∀ c G, Pc c G → tr σ G (fun xs H2 => Q (c :: xs) H2)) : tCons ta tr σ H Q := h1 _ h2
section
variable {P : Program} {w : World} {K : PySem.W.Frag} {mg : Str → Option Value} {base : Heap} {f : Addr} {fd : FuncData}
def spStands (K : PySem.W.Frag) : Sp := fun vs H Q _ => ∃ (r y wa : Addr) (ns : List Int) (n : Int) (bs : List Blk), vs = [.ref r, .ref y, .ref wa] ∧ Sta K r y wa ns n bs H ∧ ∀ H', Stp r H H' → Q (.bl true) H'
theorem sc__law_stands : FnScope ["_law_rng_here", "_law_layout", "_law_world", "_law_told", "_law_spots", "_law_spot", "_law_blocks", "_law_length_here", "_law_rank", "_law_fixed", "_law_end"] ["_law_rng_here", "_law_layout", "_law_world"] (defScope (top 34)) := ⟨rfl, rfl, rfl, by decide +kernel, rfl, by decide +kernel, by decide +kernel⟩
theorem ok_stands (T : Tx K mg) (D__law_draw : Df P w K mg base 1 "_law_draw" ["_law_rng_here", "_law_many"] spDraw) (M_blocks : Mf P w K mg base 1 "Layout" "blocks" ["self"] (spBlk K)) (M_llen : Mf P w K mg base 1 "Layout" "__len__" ["self"] (spLLen K)) (P_length : Pf P w K mg base 1 "Layout" "length" (spLng K))
    (M_lrepr : MfG P w K mg base 2 "Layout" "__repr__" ["self"] (spLRepr K)) (M_block_at : MfX P w K mg base 7 "Layout" "block_at" ["self", "address"] (spAt K)) (M_block_at_kw : MfXK P w K mg base 7 "Layout" "block_at" ["self", "address"] ["address"] [0] (spAt K))
    (D__law_block_due : Df P w K mg base 1 "_law_block_due" ["_law_world", "_law_spot"] spDue) (F : FnP K "_law_stands" "_law_stands" (top 34) f fd) : FnG P w K mg base CX0 8 f fd ["_law_rng_here", "_law_layout", "_law_world"] (spStands K) := by
  refine okG F sc__law_stands (fun vs H Q E h => ?_) (fun cdv A outer s H vs Q E hr h => ⟨_, PSs.nox (pss_cons (ps_par (by rfl) sc__law_stands.nd (i := 6) (j := 7) rfl rfl (by decide) rfl rfl (pa_cons (pe_dget (u1 hr.r) (pv 2) pe_str (fun _ _ => rfl)) (pa_cons (pe_dget (u1 hr.r) (pv 2) pe_str (fun _ _ => rfl)) pa_nil)) (by rfl)) (pss_cons (ps_set (i := 3) sc__law_stands.nd rfl (by first | exact Or.inl rfl | exact Or.inr rfl) (pmeth0 M_blocks hr.r (pv 1))) (pss_cons (ps_if (PW.pt (pw_or (pt_cmpR op_ne (pe_callB (call_reprQ hr T.sys) (by rfl) T.n_repr (by decide +kernel) (pa_cons (pv 3) pa_nil)) (pe_callB (call_reprQ hr T.sys) (by rfl) T.n_repr (by decide +kernel) (pa_cons (pv 6) pa_nil)) (nomark _)) (pw_or1 (pt_cmpR op_ne (pe_callB (call_reprQ hr T.sys) (by rfl) T.n_repr (by decide +kernel) (pa_cons (pe_lst (pa_cons (pe_callB (call_lenO M_llen hr.r) (by rfl) T.n_len (by decide +kernel) (pa_cons (pv 1) pa_nil)) (pa_cons (pprop P_length hr.r (pv 1)) pa_nil))) pa_nil)) (pe_callB (call_reprQ hr T.sys) (by rfl) T.n_repr (by decide +kernel) (pa_cons (pe_lst (pa_cons (pe_callB call_len_seq (by rfl) T.n_len (by decide +kernel) (pa_cons (pv 6) pa_nil)) (pa_cons (pv 7) pa_nil))) pa_nil)) (nomark _))))) (pss_one (ps_ret pe_bl)) pss_nil) (pss_cons (ps_expr (pe_bm0 PySem.F.plainAttrs_list PySem.F.slot_list_reverse PySem.F.type_list_reverse mt_reverse (pv 3))) (pss_cons (ps_expr (pe_bm PySem.F.plainAttrs_list PySem.F.slot_list_append PySem.F.type_list_append mt_append (pv 3) (pa_cons pe_non pa_nil))) (pss_cons (ps_if (pt_cmpR op_ne (pe_callB (call_reprO M_lrepr hr) (by rfl) T.n_repr (by decide +kernel) (pa_cons (pv 1) pa_nil)) (pe_op op_add_str (pe_op op_add_str (pe_op op_add_str (pe_op op_add_str pe_str (pe_callTy call_str_int (by rfl) T.n_str (by decide +kernel) (pa_cons (pv 7) pa_nil))) pe_str) (pe_callB (call_reprQ hr T.sys) (by rfl) T.n_repr (by decide +kernel) (pa_cons (pv 6) pa_nil))) pe_str) (nomark _)) (pss_one (ps_ret pe_bl)) pss_nil) (pss_cons (ps_set (i := 4) sc__law_stands.nd rfl (by first | exact Or.inl rfl | exact Or.inr rfl) (pe_lst (pa_cons pe_int (pa_cons (pe_op op_sub (pv 7) pe_int) (pa_cons (pcall D__law_draw hr.r (pa_cons (pv 0) (pa_cons (pv 7) pa_nil))) pa_nil))))) (pss_cons (ps_for PassesOwn.never rfl (pi_list (pv 6)) (pg_tup (by rfl) (pgs_cons (pg_name (i := 5) sc__law_stands.nd rfl (by first | exact Or.inl rfl | exact Or.inr rfl)) (pgs_cons (pg_name (i := 8) sc__law_stands.nd rfl (by first | exact Or.inl rfl | exact Or.inr rfl)) (pgs_cons (pg_name (i := 9) sc__law_stands.nd rfl (by first | exact Or.inl rfl | exact Or.inr rfl)) pgs_nil)))) (pss_cons (ps_set (i := 10) sc__law_stands.nd rfl (by first | exact Or.inl rfl | exact Or.inr rfl) (pe_op op_add (pv 5) (pe_ix ix_list (pe_dget (u1 hr.r) (pv 2) pe_str (fun _ _ => rfl)) (pv 8) (fun _ _ => rfl)))) (pss_one (ps_expr (pe_bm PySem.F.plainAttrs_list PySem.F.slot_list_extend PySem.F.type_list_extend mt_extend (pv 4) (pa_cons (pe_lst (pa_cons (pv 5) (pa_cons (pe_op op_sub (pv 10) pe_int) (pa_cons (pe_callB (call_max2 rfl) (by rfl) T.n_max (by decide +kernel) (pa_cons pe_int (pa_cons (pe_op op_sub (pv 5) pe_int) pa_nil))) (pa_cons (pe_callB (call_min2 rfl) (by rfl) T.n_min (by decide +kernel) (pa_cons (pe_op op_sub (pv 7) pe_int) (pa_cons (pv 10) pa_nil))) pa_nil))))) pa_nil)))))) (pss_cons (ps_for PassesOwn.never rfl (pi_list (pv 4)) (pg_name (i := 5) sc__law_stands.nd rfl (by first | exact Or.inl rfl | exact Or.inr rfl)) (pss_cons (ps_set (i := 3) sc__law_stands.nd rfl (by first | exact Or.inl rfl | exact Or.inr rfl) (pe_lst (pa_cons (pmethX M_block_at hr.r passN (pv 1) (pa_cons (pv 5) pa_nil)) (pa_cons (pmethXK M_block_at_kw hr.r passN (pv 1) (pk_cons (pv 5) pk_nil)) pa_nil)))) (pss_one (ps_if (pt_cmpR op_ne (pe_callB (call_reprQ hr T.sys) (by rfl) T.n_repr (by decide +kernel) (pa_cons (pv 3) pa_nil)) (pe_callB (call_reprQ hr T.sys) (by rfl) T.n_repr (by decide +kernel) (pa_cons (pe_op op_rep (pe_lst (pa_cons (pcall D__law_block_due hr.r (pa_cons (pv 2) (pa_cons (pv 5) pa_nil))) pa_nil)) pe_int) pa_nil)) (nomark _)) (pss_one (ps_ret pe_bl)) pss_nil)))) (pss_one (ps_ret (pe_cmpR op_eq (pe_callB (call_reprQ hr T.sys) (by rfl) T.n_repr (by decide +kernel) (pa_cons (pmeth0 M_blocks hr.r (pv 1)) pa_nil)) (pe_callB (call_reprQ hr T.sys) (by rfl) T.n_repr (by decide +kernel) (pa_cons (pv 6) pa_nil)) (nomark _))))))))))))), ?_⟩)
  · obtain ⟨r, y, wa, ns, n, bs, rfl, _⟩ := h
    rfl
  · obtain ⟨r, y, wa, ns, n, bs, rfl, ⟨zp, bl, dx, ps, sa, ba, qs, hR, LL, W, sbl, bbl⟩, q⟩ := h
    have sl : sizeLine = 16777216 := sizeLine_eq
    have b39 : (10 : Int) ^ 39 = 1000000000000000000000000000000000000000 := by decide
    have b40 : (10 : Int) ^ 40 = 10000000000000000000000000000000000000000 := by decide
    have L := LL.L
    have inb := wf_in W.wf W.g W.n2
    have ln := W.ln
    have n1 := W.n1
    have n2 := W.n2
    have pl := W.rf.len
    have pl2 := L.rf.len
    refine ⟨_, rfl, wa, _, rfl, get_b W, _, rfl, wa, _, rfl, get_l W, _, _, rfl, ?_⟩
    refine ⟨_, rfl, y, dx, _, rfl, L.at_, lay_nm (by decide +kernel), y, zp, bl, dx, ps, ns, n, bs, rfl, L, fun l hl => ?_⟩
    have s1 := same_upd (o := .lst (ps.map V.ref)) hl
    have hl1 : (upd H l (.lst (ps.map V.ref))) l = some (.lst (ps.map V.ref)) := upd_same
    have nlr : l ≠ r := (hR.ne hl).symm
    have L1 := L.same s1
    have W1 := W.same s1
    have t1 := Stp.same (Stp.refl hR) s1
    generalize upd H l (.lst (ps.map V.ref)) = H1 at *
    have tq1 := blks_tq (K := K) L1.rf inb ln hl1
    have tq2 := blks_tq (K := K) W1.rf inb ln W1.b
    refine ⟨_, rfl, _, _, rfl, tq1.dq, tq1.sh, Nat.le_trans tq1.dp (by decide), Nat.le_trans tq1.ln (by decide), _, rfl, _, _, rfl, tq2.dq, tq2.sh, Nat.le_trans tq2.dp (by decide), Nat.le_trans tq2.ln (by decide), rfl, _, rfl, ifF (by rw [decide_eq_true rfl]; rfl) ?_⟩
    refine ⟨_, rfl, y, dx, _, rfl, L1.at_, y, zp, bl, dx, ps, ns, n, bs, rfl, L1, bs.length, rfl, by omega, _, rfl, y, dx, _, rfl, L1.at_, y, zp, bl, dx, ps, ns, n, bs, rfl, L1, (by show 2 ≤ sizeLine; decide), fun a ha => ?_⟩
    have tq3 : Tq K (upd H1 a (.lst [.int (bs.length : Nat), .int n])) (.ref a) (.list [.int (bs.length : Nat), .int n]) 1 100 := (tqa_cons (tq_int (by omega) (by omega)) (tqa_cons (tq_int (by omega) (by omega)) tqa_nil)).lst upd_same |>.mono (by decide) (by show 2 * (41 + 2) + 3 ≤ 100; decide)
    have s2 := same_upd (o := .lst [.int (bs.length : Nat), .int n]) ha
    generalize upd H1 a (.lst [.int (bs.length : Nat), .int n]) = H2 at *
    have W2 := W1.same s2
    refine ⟨_, _, rfl, tq3.dq, tq3.sh, Nat.le_trans tq3.dp (by decide), Nat.le_trans tq3.ln (by decide), _, rfl, ba, _, rfl, .inl (SqL.of W2.b), _, rfl, (by show 2 ≤ sizeLine; decide), fun c hc => ?_⟩
    rw [List.length_map, pl]
    have tq4 : Tq K (upd H2 c (.lst [.int (bs.length : Nat), .int n])) (.ref c) (.list [.int (bs.length : Nat), .int n]) 1 100 := (tqa_cons (tq_int (by omega) (by omega)) (tqa_cons (tq_int (by omega) (by omega)) tqa_nil)).lst upd_same |>.mono (by decide) (by show 2 * (41 + 2) + 3 ≤ 100; decide)
    have s3 := same_upd (o := .lst [.int (bs.length : Nat), .int n]) hc
    generalize upd H2 c (.lst [.int (bs.length : Nat), .int n]) = H3 at *
    have hl3 := s3 _ _ (s2 _ _ hl1)
    have s03 := s1.trans (s2.trans s3)
    refine ⟨_, _, rfl, tq4.dq, tq4.sh, Nat.le_trans tq4.dp (by decide), Nat.le_trans tq4.ln (by decide), rfl, _, rfl, ifF (by rw [decide_eq_true rfl]; rfl) ?_⟩
    refine ⟨_, rfl, .inl ⟨rfl, _, SqL.of hl3⟩, l, _, rfl, rfl, hl3, ?_⟩
    refine ⟨_, rfl, .inl ⟨rfl, _, SqL.of upd_same⟩, l, _, _, rfl, rfl, upd_same, (by rw [List.length_reverse, List.length_map]; omega), ?_⟩
    have s04 : Same H (upd (upd H3 l (.lst (ps.map V.ref).reverse)) l (.lst ((ps.map V.ref).reverse ++ [.non]))) := fun b o e => by
      rw [upd_ne (ne_of_none e hl), upd_ne (ne_of_none e hl)]
      exact s03 b o e
    generalize upd (upd H3 l (.lst (ps.map V.ref).reverse)) l (.lst ((ps.map V.ref).reverse ++ [.non])) = H4 at s04
    have L4 := L.same s04
    have W4 := W.same s04
    have LL4 := LL.same s04
    have t4 := Stp.same (Stp.refl hR) s04
    have tq5 := blks_tq (K := K) W4.rf inb ln W4.b
    have l0 : ("Layout(" : Str).length = 7 := by decide +kernel
    have lc : (", " : Str).length = 2 := by decide +kernel
    have l2 : (")" : Str).length = 1 := by decide +kernel
    have lnn := num_len n1 n2
    have l3 : (PyData.list (bs.map blkD)).shown.length ≤ 14000 := tq5.ln
    refine ⟨_, rfl, y, dx, _, rfl, L4.at_, y, zp, bl, dx, ps, ns, n, bs, rfl, L4, ln, _, rfl, ?_⟩
    refine ⟨_, rfl, n, rfl, num_log n1 n2, _, _, rfl, rfl, (by rw [l0]; show 7 + (Str.ofString (toString n)).length ≤ _; omega), _, _, rfl, rfl, (by rw [Str.length_append, l0, lc]; show 7 + (Str.ofString (toString n)).length + 2 ≤ _; omega), _, rfl, _, _, rfl, tq5.dq, tq5.sh, Nat.le_trans tq5.dp (by decide), Nat.le_trans tq5.ln (by decide), _, _, rfl, rfl, (by rw [Str.length_append, Str.length_append, l0, lc]; show 7 + (Str.ofString (toString n)).length + 2 + (PyData.list (bs.map blkD)).shown.length ≤ _; omega), _, _, rfl, rfl, (by rw [Str.length_append, Str.length_append, Str.length_append, l0, lc, l2]; show 7 + (Str.ofString (toString n)).length + 2 + (PyData.list (bs.map blkD)).shown.length + 1 ≤ _; omega), rfl, _, rfl, ?_⟩
    refine ifF (congrArg not (decide_eq_true rfl)) ?_
    refine ⟨_, rfl, _, _, rfl, rfl, _, rfl, _, rfl, r, n, rfl, t4.1, n1, by omega, fun d H5 d0 d1 t5 => ⟨(by show 3 ≤ sizeLine; decide), fun S hS => ?_⟩⟩
    have t45 := t4.trans t5
    have LL5 := LL4.stp t4.1 t5
    have W5 := W4.stp t4.1 t5
    have nSr : S ≠ r := (t5.1.ne hS).symm
    refine ⟨_, rfl, ba, rfl, ⟨_, SqL.of (same_upd hS _ _ W5.b)⟩, ?_⟩
    refine for_it (walk_list (xs := qs.map V.ref)) (fun i σ G => (∃ x5 x8 x9 x10, σ = [some (.ref r), some (.ref y), some (.ref wa), some (.ref l), some (.ref S), x5, some (.ref ba), some (.int n), x8, x9, x10]) ∧ Same H5 G ∧ ∃ es : List Int, G S = some (.lst (es.map V.int)) ∧ es.length = 3 + 4 * i ∧ ∀ e ∈ es, 0 ≤ e ∧ e < n)
      ⟨⟨none, none, none, none, rfl⟩, same_upd hS, [0, n - 1, d], upd_same, rfl, fun e he => ?_⟩ (fun i σ G _ h => SqL.of (h.2.1 _ _ W5.b)) ?_ ?_
    · simp only [List.mem_cons, List.not_mem_nil, or_false] at he
      rcases he with rfl | rfl | rfl <;> omega
    · rintro i v σ G0 G hi ⟨⟨x5, x8, x9, x10, rfl⟩, sm, es, hG, el, er⟩ ⟨rfl, hv⟩
      have hi2 : i < bs.length := by rw [List.length_map, pl] at hi; exact hi
      obtain ⟨b, hb⟩ : ∃ b, bs[i]? = some b := ⟨_, List.getElem?_eq_getElem hi2⟩
      obtain ⟨p, hp, hT0⟩ := W5.rf.at_ hb
      rw [List.getElem?_map, hp] at hv
      obtain rfl : v = .ref p := (Option.some.inj hv).symm
      have hT : G p = some (.tup [.int b.1, .int (b.2.1 : Nat), .bl b.2.2]) := sm _ _ hT0
      have bm := List.mem_of_getElem? hb
      obtain ⟨bk, b0, _, be⟩ := W.wf.ok b bm
      have z1 := W.wf.pos W.g bm
      have WG := W5.same sm
      unfold bEnd at be
      refine ⟨p, _, rfl, .inl (.inl hT), rfl, _, _, rfl, _, _, rfl, _, _, rfl, rfl, ?_⟩
      refine ⟨_, rfl, _, rfl, wa, _, rfl, get_s WG, _, rfl, sa, _, _, _, rfl, rfl, SqL.of WG.s, at_map (sz_at bk), _, _, rfl, rfl, ?_⟩
      refine ⟨_, rfl, .inl ⟨rfl, _, SqL.of hG⟩, _, rfl, _, rfl, _, _, rfl, rfl, _, rfl, _, _, rfl, rfl, _, _, rfl, _, rfl, _, _, rfl, rfl, _, rfl, _, _, rfl, (by show 4 ≤ sizeLine; decide), fun E2 hE2 => ?_⟩
      have nSE : S ≠ E2 := ne_of_none hG hE2
      refine ⟨S, E2, _, _, rfl, rfl, (by rw [upd_ne nSE]; exact hG), upd_same, (by rw [List.length_map, sl]; show es.length + 4 ≤ _; omega), ?_⟩
      refine ⟨⟨_, _, _, _, rfl⟩, fun c o e => ?_, es ++ [b.1, b.1 + sz ns b.2.1 - 1, (if b.1 - 1 > 0 then b.1 - 1 else 0), (if b.1 + sz ns b.2.1 < n - 1 then b.1 + sz ns b.2.1 else n - 1)], ?_, ?_, fun e he => ?_⟩
      · rw [upd_ne (ne_of_none e hS), upd_ne (ne_of_none (sm c o e) hE2)]
        exact sm c o e
      · rw [upd_same, List.map_append]
        rfl
      · rw [List.length_append, el]
        show 3 + 4 * i + 4 = _
        omega
      · rcases List.mem_append.mp he with z | z
        · exact er e z
        · simp only [List.mem_cons, List.not_mem_nil, or_false] at z
          rcases z with rfl | rfl | rfl | rfl
          · omega
          · omega
          · split <;> omega
          · split <;> omega
    · rintro σ G ⟨⟨x5, x8, x9, x10, rfl⟩, sm, es, hG, el, er⟩
      have t6 := t45.same sm
      have LG := (LL5.same sm).L
      have WG := W5.same sm
      refine ⟨_, rfl, S, rfl, ⟨_, SqL.of hG⟩, ?_⟩
      refine for_it (walk_list (xs := es.map V.int)) (fun i σ G' => (∃ x3 x5 x8 x9 x10, σ = [some (.ref r), some (.ref y), some (.ref wa), x3, some (.ref S), x5, some (.ref ba), some (.int n), x8, x9, x10]) ∧ Same G G') ⟨⟨_, _, _, _, _, rfl⟩, Same.refl _⟩ (fun i σ G' _ h => SqL.of (h.2 _ _ hG)) ?_ ?_
      · rintro i v σ G0 G1 hi ⟨⟨x3, x5, x8, x9, x10, rfl⟩, sg⟩ ⟨rfl, hv⟩
        rw [List.getElem?_map] at hv
        obtain ⟨e, he, rfl⟩ := Option.map_eq_some_iff.mp hv
        obtain ⟨e0, e1⟩ := er e (List.mem_of_getElem? he)
        have Lg := LG.same sg
        refine go_nm (go_asg (go_lst ?_))
        refine joinCW (fun v G2 => Same G1 G2 ∧ Tq K G2 v (atD ns bs e) 1 132) (fun Q' tail => ⟨_, rfl, y, dx, _, rfl, Lg.at_, lay_nm (by decide +kernel), _, rfl, y, zp, bl, dx, ps, ns, n, bs, .int e, rfl, Lg, .int e, at_q Lg fun v H' s q => tail v H' ⟨s, q⟩, at_e e0 e1⟩) (fun v1 G2 h12 => ?_)
        obtain ⟨s2, q1⟩ := h12
        have Lg2 := Lg.same s2
        refine joinCW (fun v G3 => Same G2 G3 ∧ Tq K G3 v (atD ns bs e) 1 132) (fun Q' tail => ⟨_, rfl, y, dx, _, rfl, Lg2.at_, lay_nm (by decide +kernel), _, rfl, rfl, y, zp, bl, dx, ps, ns, n, bs, .int e, rfl, Lg2, .int e, at_q Lg2 fun v H' s q => tail v H' ⟨s, q⟩, at_e e0 e1⟩) (fun v2 G3 h23 => ?_)
        obtain ⟨s3, q2⟩ := h23
        refine ⟨(by show 2 ≤ sizeLine; decide), fun t ht => ?_⟩
        have sT := same_upd (o := .lst [v1, v2]) ht
        have tqA : Tq K (upd G3 t (.lst [v1, v2])) (.ref t) (.list [atD ns bs e, atD ns bs e]) 2 300 := ((tqa_cons ((q1.same s3).same sT) (tqa_cons (q2.same sT) tqa_nil)).lst upd_same).mono (by decide) (by show 2 * (132 + 2) + 3 ≤ 300; decide)
        generalize upd G3 t (.lst [v1, v2]) = G4 at sT tqA
        have sg4 := sg.trans (s2.trans (s3.trans sT))
        refine ⟨_, rfl, _, _, rfl, tqA.dq, tqA.sh, Nat.le_trans tqA.dp (by decide), Nat.le_trans tqA.ln (by decide), ?_⟩
        have W4' := WG.same sg4
        refine go_cb (go_cons (go_op (go_lst (joinCW (fun v G5 => G5 = G4 ∧ Tq K G4 v (atD ns bs e) 1 132) (fun Q' tail => ⟨_, rfl, _, rfl, r, wa, sa, ba, qs, ns, n, bs, e, rfl, W4', due_q W4' fun v q => tail v G4 ⟨rfl, q⟩⟩) (fun v3 G5 h45 => ?_)))))
        obtain ⟨e45, q3⟩ := h45
        rw [e45]
        clear e45
        refine ⟨(by show 1 ≤ sizeLine; decide), fun u hu => ?_⟩
        have sU := same_upd (o := .lst [v3]) hu
        refine ⟨u, 2, _, rfl, rfl, upd_same, by decide, by decide, (by show 1 * 2 ≤ sizeLine; decide), fun u2 hu2 => ?_⟩
        have sU2 := same_upd (o := .lst (List.replicate (2 : Int).toNat [v3]).flatten) hu2
        have tqB : Tq K (upd (upd G4 u (.lst [v3])) u2 (.lst (List.replicate (2 : Int).toNat [v3]).flatten)) (.ref u2) (.list [atD ns bs e, atD ns bs e]) 2 300 := ((tqa_cons ((q3.same sU).same sU2) (tqa_cons ((q3.same sU).same sU2) tqa_nil)).lst upd_same).mono (by decide) (by show 2 * (132 + 2) + 3 ≤ 300; decide)
        refine ⟨_, _, rfl, tqB.dq, tqB.sh, Nat.le_trans tqB.dp (by decide), Nat.le_trans tqB.ln (by decide), rfl, _, rfl, ifF (congrArg not (decide_eq_true rfl)) ⟨⟨_, _, _, _, _, rfl⟩, sg4.trans (sU.trans sU2)⟩⟩
      · rintro σ G2 ⟨⟨x3, x5, x8, x9, x10, rfl⟩, sg⟩
        have Lf := LG.same sg
        have Wf' := WG.same sg
        refine ⟨_, rfl, y, dx, _, rfl, Lf.at_, lay_nm (by decide +kernel), y, zp, bl, dx, ps, ns, n, bs, rfl, Lf, fun m hm => ?_⟩
        have sM := same_upd (o := .lst (ps.map V.ref)) hm
        have tq6 := blks_tq (K := K) (Lf.same sM).rf inb ln (upd_same (H := G2) (a := m) (o := .lst (ps.map V.ref)))
        have tq7 := blks_tq (K := K) (Wf'.same sM).rf inb ln (Wf'.same sM).b
        refine ⟨_, _, rfl, tq6.dq, tq6.sh, Nat.le_trans tq6.dp (by decide), Nat.le_trans tq6.ln (by decide), _, rfl, _, _, rfl, tq7.dq, tq7.sh, Nat.le_trans tq7.dp (by decide), Nat.le_trans tq7.ln (by decide), rfl, ?_⟩
        rw [decide_eq_true rfl]
        exact q _ ((t6.same sg).same sM)
end
end K21

set_option Elab.async false
set_option linter.all false
set_option maxRecDepth 100000
set_option maxHeartbeats 4000000
/-! Own layer: fields and methods within a comprehension's block; methods called with keywords; a dict's comprehension over a list. -/
namespace Ex
open PySem PySem.Spec PySem.Calls PyProof.Rows L2 Gu
section
variable {X : Cx} {k j : Nat} {c m : Str} {ps ks : List Str} {sp : Sp} {p pos apos : Pos} {e o : Expr} {es : List Expr} {kws : List Keyword} {t tk : TA} {ta : TE} {f : Str}
theorem pfldB (K : PySem.W.Frag) (he : PE X o ta) (hK : X.K = K := by rfl) (hb : attributeBase o f X.env (eval o X.env) = eval o X.env := by rfl) : PE X (.Attribute o f pos) (tFld K ta f) := by
  subst hK
  exact pe_fld he hb
theorem pmethB {pl : Sem Bool} (K : PySem.W.Frag) (D : Mf X.prog X.w X.K X.mg X.base k c m ps sp) (hr : Room j X.A) (he : PE X o ta) (ha : PA X (e :: es) t) (hj : k ≤ j := by decide) (hK : X.K = K := by rfl)
    (hst : starEach (e :: es) X.env = (false, eval e X.env) :: starEach es X.env := by rfl) (hpl : (backTo pos (starEach es X.env)).any (·.1) = false := by rfl)
    (ht : eval (.Call (.Attribute o m apos) (e :: es) [] pos) X.env = (do
      let ov ← eval o X.env
      standAt apos.atName
      let (f, first) ← holding [ov] (getMethod ov m pl)
      callWith pos f first (backTo pos (starEach (e :: es) X.env)) (backToKw pos (keywordEach [] X.env))) := by rfl) :
    PE X (.Call (.Attribute o m apos) (e :: es) [] pos) (tMeth (He.ga K c) m sp [] E0 ta t) := by
  subst hK
  exact pmeth D hr he ha hj hst hpl ht
/-- a method that is called with n values by position (self among them) and the keywords ks behind them -/
structure MfK (P : Program) (w : World) (K : PySem.W.Frag) (mg : Str → Option Value) (base : Heap) (k : Nat) (c m : Str) (ps : List Str) (n : Nat) (ks : List Str) (sp : Sp) : Prop where
  ex : ∃ fd, FnOk P w K mg base CX0 k (He.ma K (He.ga K c) m) fd ps sp ∧ ∀ (s : Shared) (us ws : List Value), us.length = n → ws.length = ks.length → K.In s.heap → BindsTo s fd ⟨us, ks.zip ws⟩ (ps.zip (us ++ ws))
  cl : Cls K (He.ga K c)
  me : Meth K (He.ga K c) m (He.ma K (He.ga K c) m)
def tMethK (C : Addr) (m : Str) (sp : Sp) (n q : Nat) (ta : TE) (t tk : TA) : TE := fun σ H Q => ta σ H fun x H1 => ∃ a dx fs, x = .ref a ∧ H1 a = some (.ins C dx fs) ∧ fs.lookup m = none ∧
  t σ H1 fun vs H2 => tk σ H2 fun zs H3 => vs.length + 1 = n ∧ zs.length = q ∧ sp (x :: vs ++ zs) H3 Q E0
theorem pmethK {pl : Sem Bool} {n : Nat} (D : MfK X.prog X.w X.K X.mg X.base k c m ps n ks sp) (hr : Room j X.A) (he : PE X o ta) (ha : PA X (e :: es) t) (hkw : PK X kws tk) (hj : k ≤ j := by decide)
    (hst : starEach (e :: es) X.env = (false, eval e X.env) :: starEach es X.env := by rfl)
    (hall : (backToKw pos (keywordEach kws X.env)).all (·.1.isSome) = true := by rfl) (hks : (backToKw pos (keywordEach kws X.env)).filterMap (·.1) = ks := by rfl)
    (hpl : ((backTo pos (starEach (e :: es) X.env)).any (·.1) || (backToKw pos (keywordEach kws X.env)).any (·.1.isNone)) = false := by rfl)
    (ht : eval (.Call (.Attribute o m apos) (e :: es) kws pos) X.env = (do
      let ov ← eval o X.env
      standAt apos.atName
      let (f, first) ← holding [ov] (getMethod ov m pl)
      callWith pos f first (backTo pos (starEach (e :: es) X.env)) (backToKw pos (keywordEach kws X.env))) := by rfl) :
    PE X (.Call (.Attribute o m apos) (e :: es) kws pos) (tMethK (He.ga X.K c) m sp n ks.length ta t tk) := by
  obtain ⟨fd, F, b⟩ := D.ex
  refine ⟨fun pins s σ H Q I h => ?_⟩
  refine PySem.W.methodCall_KW (pl := pl) (thn (he.run pins s σ H _ I h) fun u s1 ⟨x, H1, I1, rx, a, dx, fs, ex, ea, l, q⟩ => ?_) ht
  subst ex
  obtain rfl : u = Value.ref a := rx
  refine getmeth_ok I1 ea D.cl D.me l ?_
  refine PySem.W.callWith_KW (first := [.ref a]) (h₀ := X.base) I.ok.mod.kin D.me.kp hall (thn (ha.run pos pins s1 σ H1 _ I1 q) fun us s2 ⟨vs, H2, I2, r, q2⟩ => thn (hkw.run pos pins s2 σ H2 _ I2 q2) fun ws s3 ⟨zs, H3, I3, rz, hn, hz, q3⟩ => ⟨I3.kIn, ?_⟩) hpl hst
  rw [hks]
  have r2 : Vals (V.ref a :: vs) (Value.ref a :: us) := .cons rfl r
  have r3 : Vals (V.ref a :: vs ++ zs) (Value.ref a :: us ++ ws) := r2.append rz
  have l1 : (Value.ref a :: us).length = n := by
    rw [← r2.length]
    exact hn
  have l2 : ws.length = ks.length := by
    rw [← rz.length]
    exact hz
  refine wpAny_call (codeAny_mono (F.run X.A X.stack s3 H3 ⟨Value.ref a :: us, ks.zip ws⟩ _ _ Q E0 (hr.mono hj) I3.env0 (b s3 (Value.ref a :: us) ws l1 l2 I3.kIn) r3 q3) fun r s' hq => ?_)
  match r, hq with
  | .ok (.ret u), hq => exact I3.after hq
end
/-- a dict's comprehension over a list that stays -/
theorem dc_list {K : PySem.W.Frag} {a : Addr} {xs : List V} {g : TG} {tt : TT} {tk tv : TE} {vs : List Nat} {σ : L2.St} {H1 : Hp} {D : Addr} {Qd : Hp → Prop} (Pv : Nat → Hp → Prop) (h0 : Pv 0 (upd H1 D (.dK []))) (hl : ∀ i H, i ≤ xs.length → Pv i H → SqL K H a xs)
    (hs : ∀ i x H, xs[i]? = some x → Pv i H → g x (wipe σ vs) H fun σ2 H2 => wipe σ2 vs = wipe σ vs ∧ tt σ2 H2 fun b H3 =>
      if b = true then tk σ2 H3 fun y H4 => tv σ2 H4 fun z H5 => ∃ kvs k, y = kV k ∧ H5 D = some (.dK kvs) ∧ kvs.length < sizeLine ∧ Pv (i + 1) (upd H5 D (.dK (putK kvs k z))) else Pv (i + 1) H3) (hd : ∀ H, Pv xs.length H → Qd H) :
    ∃ W : Nat → Nat → Hp → Prop, (∃ m, W 0 m (upd H1 D (.dK []))) ∧ ∀ i m H, W i m H →
      ((Itl K a).stop i H ∧ Qd H) ∨ ((Itl K a).go i H ∧ ∃ Nx : Hp → Prop, (∀ H', Nx H' → ∃ m', m' < m ∧ W (i + 1) m' H') ∧ ∀ x H', (Itl K a).yld i H x H' → g x (wipe σ vs) H' fun σ2 H2 => wipe σ2 vs = wipe σ vs ∧ tt σ2 H2 fun b H3 =>
        if b = true then tk σ2 H3 fun y H4 => tv σ2 H4 fun z H5 => ∃ kvs k, y = kV k ∧ H5 D = some (.dK kvs) ∧ kvs.length < sizeLine ∧ Nx (upd H5 D (.dK (putK kvs k z))) else Nx H3) := by
  refine ⟨fun i m H => m = xs.length - i ∧ i ≤ xs.length ∧ Pv i H, ⟨xs.length, by simp, Nat.zero_le _, h0⟩, ?_⟩
  rintro i m H ⟨rfl, hi, p⟩
  have q := hl i H hi p
  by_cases hlt : i < xs.length
  · refine .inr ⟨⟨xs, xs[i], q, by simp [hlt]⟩, Pv (i + 1), fun H' p' => ⟨xs.length - (i + 1), by omega, rfl, hlt, p'⟩, fun x H' y => ?_⟩
    obtain ⟨e, y⟩ := y
    subst e
    exact hs i x _ (y xs q) p
  · have e : i = xs.length := by omega
    subst e
    exact .inl ⟨⟨xs, q, Nat.le_refl _⟩, hd H p⟩
end Ex

set_option Elab.async false
set_option linter.all false
set_option maxRecDepth 100000
set_option maxHeartbeats 4000000
/-! Own layer: methods that may raise, called by position and by keywords behind, or with their keyword-only defaults. -/
namespace Ex
open PySem PySem.Spec PySem.Calls PyProof.Rows L2 Gu
structure MfXD (P : Program) (w : World) (K : PySem.W.Frag) (mg : Str → Option Value) (base : Heap) (k : Nat) (c m : Str) (ps : List Str) (dvs : List V) (sp : Sp) : Prop where
  ex : ∃ fd ds, FnOk P w K mg base (L2.CX P w) k (He.ma K (He.ga K c) m) fd ps sp ∧ Vals dvs ds ∧ Binds K fd ps ds
  cl : Cls K (He.ga K c)
  me : Meth K (He.ga K c) m (He.ma K (He.ga K c) m)
structure MfKX (P : Program) (w : World) (K : PySem.W.Frag) (mg : Str → Option Value) (base : Heap) (k : Nat) (c m : Str) (ps : List Str) (n : Nat) (ks : List Str) (sp : Sp) : Prop where
  ex : ∃ fd, FnOk P w K mg base (L2.CX P w) k (He.ma K (He.ga K c) m) fd ps sp ∧ ∀ (s : Shared) (us ws : List Value), us.length = n → ws.length = ks.length → K.In s.heap → BindsTo s fd ⟨us, ks.zip ws⟩ (ps.zip (us ++ ws))
  cl : Cls K (He.ga K c)
  me : Meth K (He.ga K c) m (He.ma K (He.ga K c) m)
def tMethKX (C : Addr) (m : Str) (sp : Sp) (n q : Nat) (E : XK) (ta : TE) (t tk : TA) : TE := fun σ H Q => ta σ H fun x H1 => ∃ a dx fs, x = .ref a ∧ H1 a = some (.ins C dx fs) ∧ fs.lookup m = none ∧
  t σ H1 fun vs H2 => tk σ H2 fun zs H3 => vs.length + 1 = n ∧ zs.length = q ∧ sp (x :: vs ++ zs) H3 Q E
section
variable {X : Cx} {k j : Nat} {c m : Str} {ps ks : List Str} {dvs : List V} {sp : Sp} {pos apos : Pos} {e o : Expr} {es : List Expr} {kws : List Keyword} {t tk : TA} {ta : TE} {E : XK}
theorem pmethXD {pl : Sem Bool} (D : MfXD X.prog X.w X.K X.mg X.base k c m ps dvs sp) (hr : Room j X.A) (px : Passes (L2.CX X.prog X.w) X E) (he : PE X o ta) (ha : PA X (e :: es) t) (hj : k ≤ j := by decide)
    (hst : starEach (e :: es) X.env = (false, eval e X.env) :: starEach es X.env := by rfl) (hpl : (backTo pos (starEach es X.env)).any (·.1) = false := by rfl)
    (ht : eval (.Call (.Attribute o m apos) (e :: es) [] pos) X.env = (do
      let ov ← eval o X.env
      standAt apos.atName
      let (f, first) ← holding [ov] (getMethod ov m pl)
      callWith pos f first (backTo pos (starEach (e :: es) X.env)) (backToKw pos (keywordEach [] X.env))) := by rfl) :
    PE X (.Call (.Attribute o m apos) (e :: es) [] pos) (tMeth (He.ga X.K c) m sp dvs E ta t) := by
  obtain ⟨fd, ds, F, v, b⟩ := D.ex
  exact pe_meth he D.cl D.me F (hr.mono hj) b v px ha hst hpl ht
theorem pmethKX {pl : Sem Bool} {n : Nat} (D : MfKX X.prog X.w X.K X.mg X.base k c m ps n ks sp) (hr : Room j X.A) (px : Passes (L2.CX X.prog X.w) X E) (he : PE X o ta) (ha : PA X (e :: es) t) (hkw : PK X kws tk) (hj : k ≤ j := by decide)
    (hst : starEach (e :: es) X.env = (false, eval e X.env) :: starEach es X.env := by rfl)
    (hall : (backToKw pos (keywordEach kws X.env)).all (·.1.isSome) = true := by rfl) (hks : (backToKw pos (keywordEach kws X.env)).filterMap (·.1) = ks := by rfl)
    (hpl : ((backTo pos (starEach (e :: es) X.env)).any (·.1) || (backToKw pos (keywordEach kws X.env)).any (·.1.isNone)) = false := by rfl)
    (ht : eval (.Call (.Attribute o m apos) (e :: es) kws pos) X.env = (do
      let ov ← eval o X.env
      standAt apos.atName
      let (f, first) ← holding [ov] (getMethod ov m pl)
      callWith pos f first (backTo pos (starEach (e :: es) X.env)) (backToKw pos (keywordEach kws X.env))) := by rfl) :
    PE X (.Call (.Attribute o m apos) (e :: es) kws pos) (tMethKX (He.ga X.K c) m sp n ks.length E ta t tk) := by
  obtain ⟨fd, F, b⟩ := D.ex
  refine ⟨fun pins s σ H Q I h => ?_⟩
  refine PySem.W.methodCall_KW (pl := pl) (thn (he.run pins s σ H _ I h) fun u s1 ⟨x, H1, I1, rx, a, dx, fs, ex, ea, l, q⟩ => ?_) ht
  subst ex
  obtain rfl : u = Value.ref a := rx
  refine getmeth_ok I1 ea D.cl D.me l ?_
  refine PySem.W.callWith_KW (first := [.ref a]) (h₀ := X.base) I.ok.mod.kin D.me.kp hall (thn (ha.run pos pins s1 σ H1 _ I1 q) fun us s2 ⟨vs, H2, I2, r, q2⟩ => thn (hkw.run pos pins s2 σ H2 _ I2 q2) fun ws s3 ⟨zs, H3, I3, rz, hn, hz, q3⟩ => ⟨I3.kIn, ?_⟩) hpl hst
  rw [hks]
  have r2 : Vals (V.ref a :: vs) (Value.ref a :: us) := .cons rfl r
  have r3 : Vals (V.ref a :: vs ++ zs) (Value.ref a :: us ++ ws) := r2.append rz
  have l1 : (Value.ref a :: us).length = n := by
    rw [← r2.length]
    exact hn
  have l2 : ws.length = ks.length := by
    rw [← rz.length]
    exact hz
  refine wpAny_call (codeAny_mono (F.run X.A X.stack s3 H3 ⟨Value.ref a :: us, ks.zip ws⟩ _ _ Q E (hr.mono hj) I3.env0 (b s3 (Value.ref a :: us) ws l1 l2 I3.kIn) r3 q3) fun r s' hq => ?_)
  match r, hq with
  | .error e, hq => exact px pins σ H3 s3 e s' I3 hq
  | .ok (.ret u), hq => exact I3.after hq
/-- o.m(e, ..) in a try's body, the defaults behind -/
def tMethTD (C : Addr) (m : Str) (sp : Sp) (dvs : List V) (E : L2.St → XK) (ta : TE) (t : TA) : TE := fun σ H Q => ta σ H fun x H1 => ∃ a dx fs, x = .ref a ∧ H1 a = some (.ins C dx fs) ∧ fs.lookup m = none ∧ t σ H1 fun vs H2 => sp (x :: vs ++ dvs) H2 Q (E σ)
theorem pmethTD {pl : Sem Bool} {W : WX} (D : MfXD X.prog X.w X.K X.mg X.base k c m ps dvs sp) (hr : Room j X.A) (tk : Takes X W) (he : PE X o ta) (ha : PA X (e :: es) t) (hj : k ≤ j := by decide)
    (hst : starEach (e :: es) X.env = (false, eval e X.env) :: starEach es X.env := by rfl) (hpl : (backTo pos (starEach es X.env)).any (·.1) = false := by rfl)
    (ht : eval (.Call (.Attribute o m apos) (e :: es) [] pos) X.env = (do
      let ov ← eval o X.env
      standAt apos.atName
      let (f, first) ← holding [ov] (getMethod ov m pl)
      callWith pos f first (backTo pos (starEach (e :: es) X.env)) (backToKw pos (keywordEach [] X.env))) := by rfl) :
    PE X (.Call (.Attribute o m apos) (e :: es) [] pos) (tMethTD (He.ga X.K c) m sp dvs (WE W) ta t) := by
  obtain ⟨fd, ds, F, v, b⟩ := D.ex
  refine ⟨fun pins s σ H Q I h => PySem.W.methodCall_KW (pl := pl) (thn (he.run pins s σ H _ I h) fun u s1 ⟨x, H1, I1, rx, a, dx, fs, ex, ea, l, q⟩ => ?_) ht⟩
  subst ex
  obtain rfl : u = Value.ref a := rx
  refine getmeth_ok I1 ea D.cl D.me l (PySem.W.callWith_K (first := [.ref a]) (h₀ := X.base) I.ok.mod.kin D.me.kp (thn (ha.run pos pins s1 σ H1 _ I1 q) fun us s2 ⟨vs, H2, I2, r, q2⟩ => ⟨I2.kIn, ?_⟩) hst hpl)
  exact run_fnSD (E := WE W) (us := .ref a :: us) (vs := .ref a :: vs) F (hr.mono hj) b v (passAt tk σ) I2 (.cons rfl r) q2
end
end Ex

set_option Elab.async false
set_option linter.all false
set_option maxRecDepth 100000
set_option maxHeartbeats 400000
set_option pp.maxSteps 900
namespace Ex
open PySem PySem.Spec PySem.Calls PyProof.Rows L2 Gu
section
variable {X : Cx} {k j : Nat} {x : Str} {ps : List Str} {sp : Sp} {p pos : Pos} {e : Expr} {es : List Expr} {t : TA} {W : WX}
/-- f(e, ..) in a try's body -/
theorem pcallT (D : DfX X.prog X.w X.K X.mg X.base k x ps sp) (hr : Room j X.A) (tk : Takes X W) (ha : PA X (e :: es) t) (hj : k ≤ j := by decide) (hg : Gl X x := by rfl) (hdb : (x == ("__debug__" : Str)) = false := by decide)
    (he : starEach (e :: es) X.env = (false, eval e X.env) :: starEach es X.env := by rfl) (hpl : (backTo pos (starEach es X.env)).any (·.1) = false := by rfl) :
    PE X (.Call (.Name x p) (e :: es) [] pos) (tCallS sp (WE W) t) := by
  obtain ⟨fd, F, b⟩ := D.ex
  exact pe_callS F (hr.mono hj) hg D.gl D.kp b (fun σ => passAt tk σ) ha hdb he hpl
end
end Ex
namespace K21
open PySem PySem.Spec PyProof.Rows L2 Gu Ex
/-- the block at an address -/
def bkA (G : Hp) (t : Addr) : Blk := match G t with
  | some (.tup [.int a, .int l, .bl p]) => (a, l.toNat, p)
  | _ => (0, 0, false)
def keyV (G : Hp) : V → Int
  | .ref t => (bkA G t).1
  | _ => 0
theorem bkA_of {G : Hp} {t : Addr} {b : Blk} (h : G t = some (.tup (blkV b))) : bkA G t = b := by
  unfold bkA
  rw [h]
  obtain ⟨a, l, p⟩ := b
  show (a, ((l : Nat) : Int).toNat, p) = (a, l, p)
  rw [Int.toNat_natCast]
theorem Refs.bk {G : Hp} {qs : List Addr} {bs : List Blk} (h : Refs blkV G qs bs) : bs = qs.map (bkA G) ∧ ∀ t ∈ qs, G t = some (.tup (blkV (bkA G t))) := by
  induction h with
  | nil => exact ⟨rfl, fun _ m => nomatch m⟩
  | cons e _ ih =>
    have e2 := bkA_of e
    refine ⟨by rw [List.map_cons, e2, ih.1], fun t ht => ?_⟩
    rcases List.mem_cons.mp ht with z | z
    · rw [z, e2]; exact e
    · exact ih.2 t z
theorem Refs.of_bk {G : Hp} : ∀ {qs : List Addr}, (∀ t ∈ qs, G t = some (.tup (blkV (bkA G t)))) → Refs blkV G qs (qs.map (bkA G))
  | [], _ => .nil
  | t :: qs, h => .cons (h t List.mem_cons_self) (Refs.of_bk fun u hu => h u (List.mem_cons_of_mem _ hu))
def Dj (ns : List Int) (b c : Blk) : Prop := bEnd ns b ≤ c.1 ∨ bEnd ns c ≤ b.1
theorem Dj.symm {ns : List Int} {b c : Blk} (h : Dj ns b c) : Dj ns c b := h.elim .inr .inl
/-- blocks as they are put, in any order -/
structure Un (ns : List Int) (n : Int) (bs : List Blk) : Prop where
  ok : ∀ b ∈ bs, b.2.1 < ns.length ∧ 0 ≤ b.1 ∧ sz ns b.2.1 ∣ b.1 ∧ bEnd ns b ≤ n
  dj : bs.Pairwise (Dj ns)
theorem Wf.un {ns : List Int} {n : Int} {bs : List Blk} (w : Wf ns n bs) : Un ns n bs := ⟨w.ok, w.so.imp fun h => .inl h⟩
section
variable {ns : List Int} {n : Int} {bs : List Blk} {G : Hp} {qs : List Addr}
theorem Un.perm {cs : List Blk} (u : Un ns n bs) (p : cs.Perm bs) : Un ns n cs := ⟨fun b hb => u.ok b (p.mem_iff.mp hb), (p.pairwise_iff (fun h => h.symm)).mpr u.dj⟩
theorem Un.wf (u : Un ns n bs) (g : Good ns) (s : bs.Pairwise (fun b c => b.1 ≤ c.1)) : Wf ns n bs := by
  refine ⟨u.ok, List.pairwise_iff_getElem.mpr fun i j hi hj hij => ?_⟩
  have h1 := List.pairwise_iff_getElem.mp u.dj i j hi hj hij
  have h2 := List.pairwise_iff_getElem.mp s i j hi hj hij
  have h3 := (chain g).pos _ (u.ok _ (List.getElem_mem hj)).1
  rcases h1 with h | h
  · exact h
  · unfold bEnd at h
    omega
/-- what sorted wants -/
theorem Un.keys (u : Un ns n bs) (g : Good ns) (rf : Refs blkV G qs bs) : (∀ x ∈ qs.map V.ref, ∃ t j b, x = V.ref t ∧ G t = some (.tup [.int (keyV G x), .int j, .bl b])) ∧ ∀ x ∈ qs.map V.ref, ∀ y ∈ qs.map V.ref, keyV G x = keyV G y → x = y := by
  obtain ⟨e, h⟩ := rf.bk
  refine ⟨fun x hx => ?_, fun x hx y hy hk => ?_⟩
  · obtain ⟨t, ht, rfl⟩ := List.mem_map.mp hx
    exact ⟨t, _, _, rfl, h t ht⟩
  · obtain ⟨t, ht, rfl⟩ := List.mem_map.mp hx
    obtain ⟨t2, ht2, rfl⟩ := List.mem_map.mp hy
    obtain ⟨i, hi, ei⟩ := List.mem_iff_getElem.mp ht
    obtain ⟨j, hj, ej⟩ := List.mem_iff_getElem.mp ht2
    by_cases ij : i = j
    · subst ij
      rw [ei] at ej
      rw [ej]
    · exfalso
      have hk2 : (bkA G t).1 = (bkA G t2).1 := hk
      have pw := List.pairwise_iff_getElem.mp u.dj
      have li : i < bs.length := by rw [e, List.length_map]; exact hi
      have lj : j < bs.length := by rw [e, List.length_map]; exact hj
      have bi : bs[i] = bkA G t := by
        have : bs[i]? = some (bkA G t) := by rw [e, List.getElem?_map, List.getElem?_eq_getElem hi, ei]; rfl
        rw [List.getElem?_eq_getElem li] at this
        exact Option.some.inj this
      have bj : bs[j] = bkA G t2 := by
        have : bs[j]? = some (bkA G t2) := by rw [e, List.getElem?_map, List.getElem?_eq_getElem hj, ej]; rfl
        rw [List.getElem?_eq_getElem lj] at this
        exact Option.some.inj this
      have p1 := (chain g).pos _ (u.ok _ (List.getElem_mem li)).1
      have p2 := (chain g).pos _ (u.ok _ (List.getElem_mem lj)).1
      have dd : Dj ns bs[i] bs[j] := by
        rcases Nat.lt_or_gt_of_ne ij with l | l
        · exact pw i j li lj l
        · exact (pw j i lj li l).symm
      have hk3 : bs[i].1 = bs[j].1 := by rw [bi, bj]; exact hk2
      unfold Dj bEnd at dd
      omega
def unR : V → Addr
  | .ref t => t
  | _ => 0
theorem map_unR (qs : List Addr) : (qs.map V.ref).map unR = qs := by
  induction qs with
  | nil => rfl
  | cons t qs ih => rw [List.map_cons, List.map_cons, ih]; rfl
theorem refs_of : ∀ {zs : List V}, (∀ v ∈ zs, ∃ t, v = V.ref t) → ∃ qs : List Addr, zs = qs.map V.ref
  | [], _ => ⟨[], rfl⟩
  | v :: zs, h => by
    obtain ⟨t, rfl⟩ := h v List.mem_cons_self
    obtain ⟨qs, rfl⟩ := refs_of (zs := zs) fun u hu => h u (List.mem_cons_of_mem _ hu)
    exact ⟨t :: qs, rfl⟩
theorem Un.sorted (u : Un ns n bs) (g : Good ns) (rf : Refs blkV G qs bs) {zs : List V} (hs : zs.Pairwise (fun x y => keyV G x ≤ keyV G y)) (hp : zs.Perm (qs.map V.ref)) : ∃ qs' bs', zs = qs'.map V.ref ∧ Refs blkV G qs' bs' ∧ bs'.Perm bs ∧ Wf ns n bs' := by
  obtain ⟨e, h⟩ := rf.bk
  obtain ⟨qs', hq, hz⟩ : ∃ qs' : List Addr, qs'.Perm qs ∧ zs = qs'.map V.ref := by
    obtain ⟨qs', rfl⟩ := refs_of (zs := zs) fun v hv => by
      obtain ⟨t, _, rfl⟩ := List.mem_map.mp (hp.mem_iff.mp hv)
      exact ⟨t, rfl⟩
    have := hp.map unR
    rw [map_unR, map_unR] at this
    exact ⟨qs', this, rfl⟩
  subst hz
  have rf' := Refs.of_bk (G := G) (qs := qs') fun t ht => h t (hq.mem_iff.mp ht)
  have pm : (qs'.map (bkA G)).Perm bs := by rw [e]; exact hq.map _
  refine ⟨qs', _, rfl, rf', pm, (u.perm pm).wf g ?_⟩
  have hs' : qs'.Pairwise (fun x y => (bkA G x).1 ≤ (bkA G y).1) := (List.pairwise_map (f := V.ref) (R := fun x y => keyV G x ≤ keyV G y)).mp hs
  exact List.pairwise_map.mpr hs'
/-- sorted lists of the same blocks are one -/
theorem uniqB : ∀ {l m : List Blk}, l.Pairwise (fun b c => b.1 < c.1) → m.Pairwise (fun b c => b.1 < c.1) → l.Perm m → l = m
  | [], m, _, _, h => (List.Perm.eq_nil h.symm).symm
  | x :: l, [], _, _, h => absurd h.length_eq (by simp)
  | x :: l, y :: m, hl, hm, h => by
    have pl := List.pairwise_cons.mp hl
    have pm := List.pairwise_cons.mp hm
    have e : x = y := by
      rcases List.mem_cons.mp (h.mem_iff.mp (List.mem_cons_self (a := x) (l := l))) with e | e
      · exact e
      · rcases List.mem_cons.mp (h.mem_iff.mpr (List.mem_cons_self (a := y) (l := m))) with e2 | e2
        · exact e2.symm
        · have := pm.1 x e
          have := pl.1 y e2
          omega
    subst e
    rw [uniqB pl.2 pm.2 (List.Perm.cons_inv h)]
end
/-- a new block among the others, in any order -/
theorem Un.add {ns : List Int} {n : Int} {bs : List Blk} {b : Blk} (u : Un ns n bs) (k : b.2.1 < ns.length) (h0 : 0 ≤ b.1) (hd : sz ns b.2.1 ∣ b.1) (he : bEnd ns b ≤ n) (fr : FreeR ns bs b.1 (bEnd ns b)) : Un ns n (bs ++ [b]) := by
  refine ⟨fun c hc => ?_, List.pairwise_append.mpr ⟨u.dj, List.pairwise_singleton _ _, fun c hc d hd2 => ?_⟩⟩
  · rcases List.mem_append.mp hc with e | e
    · exact u.ok c e
    · rw [List.mem_singleton.mp e]
      exact ⟨k, h0, hd, he⟩
  · rw [List.mem_singleton.mp hd2]
    exact (fr c hc).elim .inl .inr
theorem ins_perm (bs : List Blk) (i : Nat) (b : Blk) : (bs ++ [b]).Perm (insB bs i b) := by
  have h : (bs.take i ++ bs.drop i ++ [b]).Perm (bs.take i ++ [b] ++ bs.drop i) := by
    rw [List.append_assoc, List.append_assoc]
    exact List.Perm.append_left _ (List.perm_append_comm)
  rw [List.take_append_drop] at h
  exact h
theorem Wf.lts {ns : List Int} {n : Int} {bs : List Blk} (w : Wf ns n bs) (g : Good ns) : bs.Pairwise (fun b c => b.1 < c.1) := List.pairwise_iff_getElem.mpr fun i j hi hj hij => (w.lt g (List.getElem?_eq_getElem hi) (List.getElem?_eq_getElem hj) hij).2
section
variable {P : Program} {w : World} {K : PySem.W.Frag} {mg : Str → Option Value} {base : Heap} {f : Addr} {fd : FuncData}
def spPC (K : PySem.W.Frag) : Sp := fun vs H Q E => ∃ (r y zp bl dx : Addr) (ps : List Addr) (ns : List Int) (n : Int) (bs : List Blk) (k : Nat) (a : Int) (p : Bool), vs = [.ref r, .ref y, .int k, .int a, .bl p] ∧ Rng H r ∧ LR K r H y zp bl dx ps ns n bs ∧ bs.length < 900 ∧ k < ns.length ∧ regB ns k n (.int a) = true ∧
  (FreeR ns bs a (a + sz ns k) → ∀ H1 i ps' H', Stp r H H1 → Below bs a i → Ly K H' y zp bl dx ps' ns n (insB bs i (a, k, p)) → But2 y bl H1 H' → Q .non H') ∧ (∀ t, Taken ns bs a (a + sz ns k) t → ∀ H1, Stp r H H1 → Raised K "Occupied" "address" (.int t) H1 E)
theorem sc__law_put_called : FnScope ["_law_rng_here", "_law_layout", "_law_rank", "_law_spot", "_law_fixed"] ["_law_rng_here", "_law_layout", "_law_rank", "_law_spot", "_law_fixed"] (defScope (top 30)) := ⟨rfl, rfl, rfl, by decide +kernel, rfl, by decide +kernel, by decide +kernel⟩
theorem ok_pc (T : Tx K mg) (D__law_draw : Df P w K mg base 1 "_law_draw" ["_law_rng_here", "_law_many"] spDraw) (M_put_d : MfXD P w K mg base 9 "Layout" "put" ["self", "level", "address", "pinned"] [.bl false] (spPut K)) (M_put_k : MfXK P w K mg base 9 "Layout" "put" ["self", "level", "address", "pinned"] ["pinned", "address", "level"] [2, 1, 0] (spPut K))
    (M_put_p : MfKX P w K mg base 9 "Layout" "put" ["self", "level", "address", "pinned"] 3 ["pinned"] (spPut K)) (F : FnP K "_law_put_called" "_law_put_called" (top 30) f fd) : FnOk P w K mg base (L2.CX P w) 10 f fd ["_law_rng_here", "_law_layout", "_law_rank", "_law_spot", "_law_fixed"] (spPC K) := by
  refine F.ok sc__law_put_called (fun vs H Q E h => ?_) (fun cdv A outer s H vs Q E hr h => ⟨_, (pss_cons (ps_if (PW.pt (pw_and (pt_not (pt_val (pv 4))) (pw_and1 (pt_cmpR op_eq (pcall D__law_draw hr (pa_cons (pv 0) (pa_cons pe_int pa_nil))) pe_int (nomark _))))) (pss_one (ps_ret (pmethXD M_put_d hr (passX (takes_of (E := E) rfl rfl rfl rfl)) (pv 1) (pa_cons (pv 2) (pa_cons (pv 3) pa_nil))))) pss_nil) (pss_cons (ps_if (pt_cmpR op_eq (pcall D__law_draw hr (pa_cons (pv 0) (pa_cons pe_int pa_nil))) pe_int (nomark _)) (pss_one (ps_ret (pmethXK M_put_k hr (passX (takes_of (E := E) rfl rfl rfl rfl)) (pv 1) (pk_cons (pv 4) (pk_cons (pv 3) (pk_cons (pv 2) pk_nil)))))) pss_nil) (pss_one (ps_ret (pmethKX M_put_p hr (passX (takes_of (E := E) rfl rfl rfl rfl)) (pv 1) (pa_cons (pv 2) (pa_cons (pv 3) pa_nil)) (pk_cons (pv 4) pk_nil)))))), ?_⟩)
  · obtain ⟨r, y, zp, bl, dx, ps, ns, n, bs, k, a, p, rfl, _⟩ := h
    rfl
  · obtain ⟨r, y, zp, bl, dx, ps, ns, n, bs, k, a, p, rfl, hR, LL, l9, hk, er, q1, q2⟩ := h
    have L := LL.L
    have two : (2 : Int) ≤ 10 ^ 40 := by decide
    have PP : ∀ H1, Stp r H H1 → spPut K [.ref y, .int k, .int a, .bl p] H1 Q E := fun H1 t1 => by
      refine ⟨y, zp, bl, dx, ps, ns, n, bs, k, p, .int a, rfl, (LL.stp hR t1).L, l9, hk, .int a, fun a' ea _ fr i ps' H' h1 h2 h3 => ?_, fun a' t ea _ tk => ?_, fun z => ?_⟩
      · cases ea
        exact q1 fr H1 i ps' H' t1 h1 h2 h3
      · cases ea
        exact q2 t tk H1 t1
      · rw [er] at z
        cases z
    have A1 : ∀ H1, Stp r H H1 → H1 y = some (.ins (He.ga K "Layout") dx (layF zp n (n - tot ns bs) bl)) := fun H1 t1 => (LL.stp hR t1).L.at_
    refine ⟨_, rfl, _, rfl, ?_⟩
    cases p with
    | true =>
      refine iteF ?_
      refine ⟨_, rfl, r, 2, rfl, hR, by decide, two, fun d2 H2 _ _ t2 => ⟨rfl, _, rfl, ?_⟩⟩
      by_cases e2 : d2 = 0
      · exact ifT (vT e2) ⟨_, rfl, y, dx, _, rfl, A1 H2 t2, lay_nm (by decide +kernel), _, rfl, _, rfl, _, rfl, rfl, PP H2 t2⟩
      · exact ifF (vF e2) ⟨_, rfl, y, dx, _, rfl, A1 H2 t2, lay_nm (by decide +kernel), _, rfl, _, rfl, _, rfl, rfl, rfl, PP H2 t2⟩
    | false =>
      refine iteT ?_
      refine ⟨_, rfl, r, 2, rfl, hR, by decide, two, fun d1 H1 _ _ t1 => ⟨rfl, _, rfl, ?_⟩⟩
      by_cases e1 : d1 = 0
      · exact ifT (vT e1) ⟨_, rfl, y, dx, _, rfl, A1 H1 t1, lay_nm (by decide +kernel), _, rfl, _, rfl, PP H1 t1⟩
      · refine ifF (vF e1) ?_
        refine ⟨_, rfl, r, 2, rfl, t1.1, by decide, two, fun d2 H2 _ _ t2 => ⟨rfl, _, rfl, ?_⟩⟩
        have t12 := t1.trans t2
        by_cases e2 : d2 = 0
        · exact ifT (vT e2) ⟨_, rfl, y, dx, _, rfl, A1 H2 t12, lay_nm (by decide +kernel), _, rfl, _, rfl, _, rfl, rfl, PP H2 t12⟩
        · exact ifF (vF e2) ⟨_, rfl, y, dx, _, rfl, A1 H2 t12, lay_nm (by decide +kernel), _, rfl, _, rfl, _, rfl, rfl, rfl, PP H2 t12⟩
end
end K21

set_option Elab.async false
set_option linter.all false
set_option maxRecDepth 100000
set_option maxHeartbeats 400000
set_option pp.maxSteps 900
namespace K21
open PySem PySem.Spec PyProof.Rows L2 Gu Ex
def t_taken (K : PySem.W.Frag) (a : Addr) (cls : Value) (d : Option Addr) : TS :=
  tAsg (tLst (tCons (tC (.str "taken")) (tCons (tXf a cls d (cO K) "address" (tVar 4)) (tCons (tCB (rIsX K (cO K) a cls d) (tCons (tVar 4) (tCons (tC (.ty "RuntimeError")) tNil))) tNil)))) (gName 8)
/-- an if that may set a name: the ways come together -/
theorem seq_if {c : TT} {t u : TS} {D : Ends} {σ : List (Option V)} {H : Hp} (σf : Nat → List (Option V)) (Pk : Nat → Prop) (hc : ∀ E0 : Ends, (∀ k, Pk k → E0.nx (σf k) H) → (tIfS c t tNext) E0 σ H) (tail : ∀ k, Pk k → u D (σf k) H) : tSeq (tIfS c t tNext) u D σ H := hc _ tail
section
variable {K : PySem.W.Frag} {r wa sa ba y zp bl dx : Addr} {H H' : Hp} {qs ps ps' : List Addr} {ns : List Int} {n : Int} {bs cs : List Blk}
theorem WR.but2 (h : WR r H wa sa ba qs ns n bs) (l : LR K r H y zp bl dx ps ns n cs) (sb : sa ≠ bl) (bb : ba ≠ bl) (k : But2 y bl H H') : WR r H' wa sa ba qs ns n bs := by
  have ky := l.L.at_
  have kb := l.L.lst
  have nl : ∀ {c : Addr} {xs : List V}, H c = some (.lst xs) → c ≠ y := fun {c xs} e z => by rw [z, ky] at e; cases e
  refine ⟨k wa _ (fun z => ?_) (fun z => ?_) h.w, k sa _ (nl h.s) sb h.s, k ba _ (nl h.b) bb h.b, h.rf.mono fun p xs e => k p _ (fun z => ?_) (fun z => ?_) e, h.sr, h.br, h.g, h.wf, h.n1, h.n2, h.ln⟩
  · have := h.w
    rw [z, ky] at this
    cases this
  · have := h.w
    rw [z, kb] at this
    cases this
  · rw [z, ky] at e
    cases e
  · rw [z, kb] at e
    cases e
theorem LR.rng (l : LR K r H y zp bl dx ps ns n cs) (R : Rng H r) (k : But2 y bl H H') : Rng H' r := by
  obtain ⟨a, b, e, f⟩ := R
  exact ⟨a, b, k r _ (fun z => by rw [z, l.L.at_] at e; cases e) l.br.symm e, f⟩
theorem LR.but2 (l : LR K r H y zp bl dx ps ns n cs) (L : Ly K H' y zp bl dx ps' ns n bs) (k : But2 y bl H H') : LR K r H' y zp bl dx ps' ns n bs := by
  obtain ⟨dz, z, h1, h2, h3, h4⟩ := l.zr
  have ky := l.L.at_
  refine ⟨L, l.br, dz, z, k zp _ (fun e => ?_) (fun e => ?_) h1, k z _ (fun e => ?_) h4 h2, h3, h4⟩
  · rw [e, ky] at h1
    have z3 := congrArg List.length (HO.ins.inj (Option.some.inj h1)).2.2
    cases z3
  · rw [e, l.L.lst] at h1
    cases h1
  · rw [e, ky] at h2
    cases h2
/-- all but dicts stay -/
def ButD (H H' : Hp) : Prop := ∀ c o, H c = some o → (∀ kvs, o ≠ .dK kvs) → H' c = some o
theorem butD {kvs kws : List (Key × V)} (h : H wa = some (.dK kvs)) : ButD H (upd H wa (.dK kws)) := fun c o e no => by
  rw [upd_ne fun z => by
    rw [z, h] at e
    exact no kvs (Option.some.inj e).symm]
  exact e
theorem LR.butD (l : LR K r H y zp bl dx ps ns n cs) (k : ButD H H') : LR K r H' y zp bl dx ps ns n cs := by
  obtain ⟨L, br, dz, z, h1, h2, h3, h4⟩ := l
  have i1 := k _ _ h1 (fun _ e => nomatch e)
  have i2 := k _ _ h2 (fun _ e => nomatch e)
  exact ⟨⟨k _ _ L.at_ (fun _ e => nomatch e), ⟨dz, z, i1, i2⟩, k _ _ L.lst (fun _ e => nomatch e), L.rf.mono fun p xs e => k p _ e (fun _ e => nomatch e), L.wf, L.gd, L.n1, L.n2, L.ln, ⟨dz, z, i1, i2, h4⟩⟩, br, dz, z, i1, i2, h3, h4⟩
theorem rng_butD (R : Rng H r) (k : ButD H H') : Rng H' r := by
  obtain ⟨a, b, e, f⟩ := R
  exact ⟨a, b, k r _ e (fun _ e => nomatch e), f⟩
/-- what was there before the cell's own objects -/
structure Bs (B H : Hp) (r y bl wa : Addr) : Prop where
  s : Same B H
  r0 : B r = none
  y0 : B y = none
  b0 : B bl = none
  w0 : B wa = none
theorem Bs.stp {B : Hp} (h : Bs B H r y bl wa) (t : Stp r H H') : Bs B H' r y bl wa := ⟨fun c o e => t.2 c o (fun z => by rw [z, h.r0] at e; cases e) (h.s c o e), h.r0, h.y0, h.b0, h.w0⟩
theorem Bs.same {B : Hp} (h : Bs B H r y bl wa) (t : Same H H') : Bs B H' r y bl wa := ⟨h.s.trans t, h.r0, h.y0, h.b0, h.w0⟩
theorem Bs.but2 {B : Hp} (h : Bs B H r y bl wa) (t : But2 y bl H H') : Bs B H' r y bl wa := ⟨fun c o e => t c o (fun z => by rw [z, h.y0] at e; cases e) (fun z => by rw [z, h.b0] at e; cases e) (h.s c o e), h.r0, h.y0, h.b0, h.w0⟩
theorem Bs.dct {B : Hp} {o : HO} (h : Bs B H r y bl wa) : Bs B (upd H wa o) r y bl wa := ⟨fun c o e => by
  rw [upd_ne (fun z => by rw [z, h.w0] at e; cases e)]
  exact h.s c o e, h.r0, h.y0, h.b0, h.w0⟩
/-- the state, with what was there before -/
def StaF (B : Hp) (K : PySem.W.Frag) (r y wa : Addr) (ns : List Int) (n : Int) (bs : List Blk) (H : Hp) : Prop := ∃ (zp bl dx : Addr) (ps : List Addr) (sa ba : Addr) (qs : List Addr), Rng H r ∧ LR K r H y zp bl dx ps ns n bs ∧ WR r H wa sa ba qs ns n bs ∧ sa ≠ bl ∧ ba ≠ bl ∧ Bs B H r y bl wa
theorem StaF.sta {B : Hp} (h : StaF B K r y wa ns n bs H) : Sta K r y wa ns n bs H := by
  obtain ⟨zp, bl, dx, ps, sa, ba, qs, R, l, w, a, b, _⟩ := h
  exact ⟨zp, bl, dx, ps, sa, ba, qs, R, l, w, a, b⟩
theorem StaF.stp {B : Hp} (h : StaF B K r y wa ns n bs H) (t : Stp r H H') : StaF B K r y wa ns n bs H' := by
  obtain ⟨zp, bl, dx, ps, sa, ba, qs, R, l, w, a, b, f⟩ := h
  exact ⟨zp, bl, dx, ps, sa, ba, qs, t.1, l.stp R t, w.stp R t, a, b, f.stp t⟩
theorem StaF.old {B : Hp} (h : StaF B K r y wa ns n bs H) : Same B H := by
  obtain ⟨zp, bl, dx, ps, sa, ba, qs, R, l, w, a, b, f⟩ := h
  exact f.s
end
section
variable {P : Program} {w : World} {K : PySem.W.Frag} {mg : Str → Option Value} {base : Heap} {f : Addr} {fd : FuncData}
def spPutR (K : PySem.W.Frag) : Sp := fun vs H Q _ => ∃ (B : Hp) (r y wa : Addr) (ns : List Int) (n : Int) (bs : List Blk), vs = [.ref r, .ref y, .ref wa] ∧ StaF B K r y wa ns n bs H ∧ bs.length < 100 ∧ ∀ bs' H', bs'.length ≤ bs.length + 1 → StaF B K r y wa ns n bs' H' → Q (.bl true) H'
theorem sc__law_put_right : FnScope ["_law_rng_here", "_law_layout", "_law_world", "_law_rank", "e", "_law_spot", "_law_fixed", "_law_taken", "_law_told"] ["_law_rng_here", "_law_layout", "_law_world"] (defScope (top 31)) := ⟨rfl, rfl, rfl, by decide +kernel, rfl, by decide +kernel, by decide +kernel⟩
theorem ok_putr (T : Tx K mg) (D__law_draw : Df P w K mg base 1 "_law_draw" ["_law_rng_here", "_law_many"] spDraw) (D__law_place : Df P w K mg base 3 "_law_place" ["_law_rng_here", "_law_world", "_law_rank"] spPlace) (D__law_first_taken : Df P w K mg base 1 "_law_first_taken" ["_law_world", "_law_rank", "_law_spot"] spFT)
    (D__law_put_called : DfX P w K mg base 10 "_law_put_called" ["_law_rng_here", "_law_layout", "_law_rank", "_law_spot", "_law_fixed"] (spPC K)) (F : FnP K "_law_put_right" "_law_put_right" (top 31) f fd) :
    FnG P w K mg base CX0 12 f fd ["_law_rng_here", "_law_layout", "_law_world"] (spPutR K) := by
  refine okG F sc__law_put_right (fun vs H Q E h => ?_) (fun cdv A outer s H vs Q E hr h => ⟨_, PSs.nox (pss_cons (ps_set (i := 3) sc__law_put_right.nd rfl (by first | exact Or.inl rfl | exact Or.inr rfl) (pcall D__law_draw hr.r (pa_cons (pv 0) (pa_cons (pe_callB call_len_seq (by rfl) T.n_len (by decide +kernel) (pa_cons (pe_dget (u1 hr.r) (pv 2) pe_str (fun _ _ => rfl)) pa_nil)) pa_nil)))) (pss_cons (ps_if (pt_cmpR op_gt (pe_ix ix_list (pe_dget (u1 hr.r) (pv 2) pe_str (fun _ _ => rfl)) (pv 3) (fun _ _ => rfl)) (pe_dget (u1 hr.r) (pv 2) pe_str (fun _ _ => rfl)) (nomark _)) (pss_one (ps_set (i := 3) sc__law_put_right.nd rfl (by first | exact Or.inl rfl | exact Or.inr rfl) pe_int)) pss_nil) (pss_cons (ps_par (by rfl) sc__law_put_right.nd (i := 5) (j := 6) rfl rfl (by decide) rfl rfl (pa_cons (pcall D__law_place hr.r (pa_cons (pv 0) (pa_cons (pv 2) (pa_cons (pv 3) pa_nil)))) (pa_cons (pe_cmpR op_eq (pcall D__law_draw hr.r (pa_cons (pv 0) (pa_cons pe_int pa_nil))) pe_int (nomark _)) pa_nil)) (by rfl)) (pss_cons (ps_par (by rfl) sc__law_put_right.nd (i := 7) (j := 8) rfl rfl (by decide) rfl rfl (pa_cons (pcall D__law_first_taken hr.r (pa_cons (pv 2) (pa_cons (pv 3) (pa_cons (pv 5) pa_nil)))) (pa_cons (pe_lst (pa_cons pe_str pa_nil)) pa_nil)) (by rfl)) (pss_cons (ps_try_as (i := 4) (tb := fun W => tAsg (tLst (tCons (tC (.str "done")) (tCons (tCallS (spPC K) (WE W) (tCons (tVar 0) (tCons (tVar 1) (tCons (tVar 3) (tCons (tVar 5) (tCons (tVar 6) tNil)))))) tNil))) (gName 8)) (ts := t_taken K) (Wout := fun _ _ _ _ => False) rfl rfl sc__law_put_right.nd rfl rfl ⟨rfl, by decide, Or.inl T.g_Occupied⟩ takes0 (fun W pn xe tk _ => pss_one (ps_set (i := 8) sc__law_put_right.nd rfl (Or.inl rfl) (by exact (pe_lst (pa_cons pe_str (pa_cons (by exact (pcallT D__law_put_called hr.r tk (pa_cons (pv 0) (pa_cons (pv 1) (pa_cons (pv 3) (pa_cons (pv 5) (pa_cons (pv 6) pa_nil))))))) pa_nil)))))) (fun a oe cls d pn hz hf => pss_one (ps_set (i := 8) sc__law_put_right.nd rfl (Or.inl rfl) (by exact (pe_lst (pa_cons pe_str (pa_cons (by exact (pe_xf T.eO.xf T.eO.no hz hf (pv 4))) (pa_cons (by exact (pe_callB (r := rIsX K (cO K) a cls d) (id := "isinstance") (call_isX T.eO.ec hz hf) (by rfl) T.n_isinstance (by decide +kernel) (by exact (pa_cons (pv 4) (pa_cons (pe_bltn (v := .ty "RuntimeError") (by rfl) T.n_RuntimeError (by decide +kernel) rfl) pa_nil))))) pa_nil)))))))) (pss_cons (ps_if (pt_cmpR op_isN (pv 7) pe_non (nomark _)) (pss_one (ps_dput (u1 hr.r) (pv 2) pe_str (pe_callB cr_sortedB (by rfl) T.n_sorted (by decide +kernel) (pa_cons (pe_op op_cat (pe_dget (u1 hr.r) (pv 2) pe_str (fun _ _ => rfl)) (pe_lst (pa_cons (pe_tup (pa_cons (pv 5) (pa_cons (pv 3) (pa_cons (pv 6) pa_nil)))) pa_nil))) pa_nil)) (by rfl))) pss_nil) (pss_one (ps_ret (pe_cmpR op_eq (pe_callB (call_reprQ hr T.sys) (by rfl) T.n_repr (by decide +kernel) (pa_cons (pv 8) pa_nil)) (pe_callB (call_reprQ hr T.sys) (by rfl) T.n_repr (by decide +kernel) (pa_cons (pe_ifExp (pt_cmpR op_isN (pv 7) pe_non (nomark _)) (pe_lst (pa_cons pe_str (pa_cons pe_non pa_nil))) (pe_lst (pa_cons pe_str (pa_cons (pv 7) (pa_cons pe_bl pa_nil))))) pa_nil)) (nomark _)))))))))), ?_⟩)
  · obtain ⟨B, r, y, wa, ns, n, bs, rfl, _⟩ := h
    rfl
  · obtain ⟨B, r, y, wa, ns, n, bs, rfl, ⟨zp, bl, dx, ps, sa, ba, qs, hR, LL, W, sbl, bbl, fB⟩, l100, q⟩ := h
    have b40 : (10 : Int) ^ 40 = 10000000000000000000000000000000000000000 := by decide
    have l8 := W.g.len
    have n1 := W.n1
    refine ⟨_, rfl, _, rfl, wa, _, rfl, get_s W, sa, _, rfl, .inl (SqL.of W.s), r, _, rfl, hR, (by rw [List.length_map]; omega), (by rw [List.length_map]; omega), fun d H1 d0 d1 t1 => ?_⟩
    rw [List.length_map] at d1
    obtain ⟨k0, rfl⟩ := Int.eq_ofNat_of_zero_le d0
    have hk0 : k0 < ns.length := by omega
    have W1 := W.stp hR t1
    refine go_nm (nx_of (σ' := [some (.ref r), some (.ref y), some (.ref wa), some (.int (k0 : Nat)), none, none, none, none, none]) rfl ?_)
    refine seq_if (fun k => [some (.ref r), some (.ref y), some (.ref wa), some (.int (k : Nat)), none, none, none, none, none]) (fun k => k < ns.length ∧ sz ns k ≤ n) (fun E0 hE => ?_) (fun k hkn => ?_)
    · refine ⟨_, rfl, wa, _, rfl, get_s W1, _, rfl, sa, _, _, _, rfl, rfl, SqL.of W1.s, at_map (sz_at hk0), _, rfl, wa, _, rfl, get_l W1, _, _, rfl, rfl, _, rfl, ?_⟩
      by_cases c : sz ns k0 > n
      · have e0 : sz ns 0 = 1 := Option.some.inj ((sz_at (show 0 < ns.length by omega)).symm.trans W.g.one)
        exact ifT (decide_eq_true c) (hE 0 ⟨by omega, by omega⟩)
      · exact ifF (decide_eq_false c) (hE k0 ⟨hk0, by omega⟩)
    obtain ⟨hk, hn⟩ := hkn
    refine ⟨_, rfl, _, rfl, _, rfl, r, wa, sa, ba, qs, ns, n, bs, k, rfl, t1.1, W1, hk, hn, fun a H2 a0 a1 a2 t2 => ⟨_, rfl, r, 3, rfl, t2.1, by decide, by omega, fun d3 H3 _ _ t3 => ⟨rfl, ?_⟩⟩⟩
    refine ⟨_, _, rfl, nx_of (σ' := [some (.ref r), some (.ref y), some (.ref wa), some (.int (k : Nat)), none, some (.int a), some (.bl (decide (V.int d3 = V.int 0))), none, none]) rfl ?_⟩
    generalize decide (V.int d3 = V.int 0) = p
    have t23 := t2.trans t3
    have t13 := t1.trans t23
    have W3 := W.stp hR t13
    have LL3 := LL.stp hR t13
    have er : regB ns k n (.int a) = true := by
      show (decide (0 ≤ a) && decide (a % sz ns k = 0 ∧ a + sz ns k ≤ n)) = true
      rw [decide_eq_true a0, decide_eq_true ⟨a1, a2⟩]
      rfl
    have ln9 : bs.length < 900 := by omega
    refine ⟨_, rfl, _, rfl, _, rfl, r, wa, sa, ba, qs, ns, n, bs, k, a, rfl, W3, hk, fun fr H4 s4 => ⟨(by show 1 ≤ sizeLine; decide), fun o ho => ⟨_, _, rfl, ?_⟩⟩, fun t H4 tk s4 => ⟨(by show 1 ≤ sizeLine; decide), fun o ho => ⟨_, _, rfl, ?_⟩⟩⟩
    · have s5 := s4.trans (same_upd (o := .lst [.str "other"]) ho)
      generalize upd H4 o (.lst [.str "other"]) = H5 at s5
      have R5 := (Stp.same (Stp.refl t13.1) s5).1
      have W5 := W3.same s5
      have LL5 := LL3.same s5
      refine ⟨_, rfl, _, rfl, _, rfl, _, rfl, _, rfl, r, y, zp, bl, dx, ps, ns, n, bs, k, a, p, rfl, R5, LL5, ln9, hk, er, fun _ H6 i ps' H7 t6 bw L7 but => ?_, fun t tk => (tk.nf fr).elim⟩
      refine ⟨(by show 2 ≤ sizeLine; decide), fun u hu => ?_⟩
      have W6 := W5.stp R5 t6
      have LL6 := LL5.stp R5 t6
      have W7 := W6.but2 LL6 sbl bbl but
      have f7 := (((fB.stp t13).same s5).stp t6).but2 but
      have LL7 := LL6.but2 L7 but
      have R7 := LL6.rng t6.1 but
      have s8 := same_upd (o := .lst [.str "done", .non]) hu
      have hu8 : (upd H7 u (.lst [.str "done", .non])) u = some (.lst [.str "done", .non]) := upd_same
      generalize upd H7 u (.lst [.str "done", .non]) = H8 at s8 hu8
      have W8 := W7.same s8
      have LL8 := LL7.same s8
      have R8 := (Stp.same (Stp.refl R7) s8).1
      refine ⟨_, rfl, rfl, _, rfl, iteT ?_⟩
      obtain ⟨er1, er2⟩ := He.ba er
      have un := W.wf.un.add (b := (a, k, p)) hk a0 (M16.dvd0 a1) a2 fr
      have pl := W.rf.len
      refine ⟨_, rfl, wa, _, rfl, get_b W8, _, rfl, _, rfl, _, rfl, (by show 3 ≤ sizeLine; decide), fun q0 hq0 => ⟨(by show 1 ≤ sizeLine; decide), fun m hm => ?_⟩⟩
      have s9 := same_upd (o := .tup [.int a, .int (k : Nat), .bl p]) hq0
      have hq1 : (upd H8 q0 (.tup [.int a, .int (k : Nat), .bl p])) q0 = some (.tup (blkV (a, k, p))) := upd_same
      have s10 := same_upd (o := .lst [.ref q0]) hm
      have hm1 : (upd (upd H8 q0 (.tup [.int a, .int (k : Nat), .bl p])) m (.lst [.ref q0])) m = some (.lst [.ref q0]) := upd_same
      have hq2 := s10 _ _ hq1
      have s8a := s9.trans s10
      generalize upd (upd H8 q0 (.tup [.int a, .int (k : Nat), .bl p])) m (.lst [.ref q0]) = H10 at hm1 hq2 s8a
      have W10 := W8.same s8a
      refine ⟨ba, m, _, _, rfl, rfl, W10.b, hm1, (by rw [List.length_map, pl]; show bs.length + 1 ≤ sizeLine; rw [sizeLine_eq]; omega), fun c hc => ?_⟩
      have s11 := same_upd (o := .lst (qs.map V.ref ++ [.ref q0])) hc
      have hc1 : (upd H10 c (.lst (qs.map V.ref ++ [.ref q0]))) c = some (.lst (qs.map V.ref ++ [.ref q0])) := upd_same
      generalize upd H10 c (.lst (qs.map V.ref ++ [.ref q0])) = H11 at s11 hc1
      have W11 := W10.same s11
      have rf11 : Refs blkV H11 (qs ++ [q0]) (bs ++ [(a, k, p)]) := W11.rf.app (.one (s11 _ _ hq2))
      have eq1 : (qs ++ [q0]).map V.ref = qs.map V.ref ++ [.ref q0] := by rw [List.map_append]; rfl
      obtain ⟨k1, k2⟩ := un.keys W.g rf11
      rw [eq1] at k1 k2
      refine ⟨c, _, keyV H11, rfl, SqL.of hc1, k1, k2, fun ys pp so pm hp => ?_⟩
      obtain ⟨qs2, bs2, rfl, rf12, pb, wf2⟩ := un.sorted W.g rf11 so (by rw [eq1]; exact pm)
      have eb : bs2 = insB bs i (a, k, p) := uniqB (wf2.lts W.g) (L7.wf.lts W.g) (pb.trans (ins_perm bs i _))
      subst eb
      have s12 := same_upd (o := .lst (qs2.map V.ref)) hp
      have hp1 : (upd H11 pp (.lst (qs2.map V.ref))) pp = some (.lst (qs2.map V.ref)) := upd_same
      have hp0 : H8 pp = none := s8a.free (s11.free hp)
      generalize upd H11 pp (.lst (qs2.map V.ref)) = H12 at s12 hp1
      have W12 := W11.same s12
      have s812 := s8a.trans (s11.trans s12)
      have LL12 := LL8.same s812
      have R12 := (Stp.same (Stp.refl R8) s812).1
      have rf13 := rf12.same s12
      have hu12 := s812 _ _ hu8
      refine ⟨_, rfl, wa, _, rfl, DPut.k (k := kB) W12.w (by show 3 < sizeLine; decide), ?_⟩
      rw [wd_put]
      have bD := butD (kws := wd3 sa n pp) W12.w
      have f13 := ((f7.same s8).same s812).dct (o := .dK (wd3 sa n pp))
      have hw13 : (upd H12 wa (.dK (wd3 sa n pp))) wa = some (.dK (wd3 sa n pp)) := upd_same
      generalize upd H12 wa (.dK (wd3 sa n pp)) = H13 at bD hw13 f13
      have LL13 := LL12.butD bD
      have R13 := rng_butD R12 bD
      have hu13 := bD _ _ hu12 (fun _ e => nomatch e)
      have W13 : WR r H13 wa sa pp qs2 ns n (insB bs i (a, k, p)) := ⟨hw13, bD _ _ W12.s (fun _ e => nomatch e), bD _ _ hp1 (fun _ e => nomatch e), rf13.mono fun x xs e => bD _ _ e (fun _ e => nomatch e), W.sr, (R8.ne hp0).symm, W.g, wf2, W.n1, W.n2, by unfold insB; rw [List.length_append, List.length_append, List.length_take, List.length_drop, List.length_singleton]; omega⟩
      have tqD : ∀ {G : Hp} {z : Addr}, G z = some (.lst [.str "done", .non]) → Tq K G (.ref z) (.list [.str "done", .none]) 1 100 := fun e => ((tqa_cons (tq_text "done" (by decide +kernel)) (tqa_cons tq_non tqa_nil)).lst e).mono (by decide) (by show 2 * (41 + 2) + 3 ≤ 100; decide)
      have tqU := tqD hu13
      refine ⟨_, rfl, _, _, rfl, tqU.dq, tqU.sh, Nat.le_trans tqU.dp (by decide), Nat.le_trans tqU.ln (by decide), _, rfl, rfl, _, rfl, iteT ⟨(by show 2 ≤ sizeLine; decide), fun z hz => ?_⟩⟩
      have s14 := same_upd (o := .lst [.str "done", .non]) hz
      have tqZ := tqD (upd_same (H := H13) (a := z) (o := .lst [.str "done", .non]))
      refine ⟨_, _, rfl, tqZ.dq, tqZ.sh, Nat.le_trans tqZ.dp (by decide), Nat.le_trans tqZ.ln (by decide), rfl, ?_⟩
      rw [decide_eq_true rfl]
      have nb : pp ≠ bl := fun e => by
        have := LL8.L.lst
        rw [← e, hp0] at this
        cases this
      exact q _ _ (by unfold insB; rw [List.length_append, List.length_append, List.length_take, List.length_drop, List.length_singleton]; omega) ⟨zp, bl, dx, ps', sa, pp, qs2, (Stp.same (Stp.refl R13) s14).1, LL13.same s14, W13.same s14, sbl, nb, f13.same s14⟩
    · have s5 := s4.trans (same_upd (o := .lst [.str "other"]) ho)
      generalize upd H4 o (.lst [.str "other"]) = H5 at s5
      have R5 := (Stp.same (Stp.refl t13.1) s5).1
      have W5 := W3.same s5
      have LL5 := LL3.same s5
      refine ⟨_, rfl, _, rfl, _, rfl, _, rfl, _, rfl, r, y, zp, bl, dx, ps, ns, n, bs, k, a, p, rfl, R5, LL5, ln9, hk, er, fun fr => (tk.nf fr).elim, fun t' tk' H6 t6 d H7 hd s7 hx => ?_⟩
      have et : t' = t := tk'.one tk
      rw [et] at hx
      refine ⟨true, T.eO.em, fun _ a0 ha0 => ?_, fun zz => Bool.noConfusion zz⟩
      refine ⟨_, rfl, rfl, rfl, d, _, .int t, rfl, hx, (by simp [List.lookup]), ?_⟩
      refine ⟨_, rfl, _, _, _, d, _, rfl, rfl, rfl, .ty "RuntimeError", hx, T.kO, (by show 3 ≤ sizeLine; decide), fun u hu => ?_⟩
      have s8 := s7.trans (same_upd (o := .lst [.str "taken", .int t, .bl true]) hu)
      have hu8 : (upd H7 u (.lst [.str "taken", .int t, .bl true])) u = some (.lst [.str "taken", .int t, .bl true]) := upd_same
      generalize upd H7 u (.lst [.str "taken", .int t, .bl true]) = H8 at s8 hu8
      have t68 := t6.same s8
      have W8 := W5.stp R5 t68
      have LL8 := LL5.stp R5 t68
      have b39 : (10 : Int) ^ 39 = 1000000000000000000000000000000000000000 := by decide
      have n2 := W.n2
      have tb := tk
      obtain ⟨tk1, tk2, _⟩ := tb
      have tqT : ∀ {G : Hp} {z : Addr}, G z = some (.lst [.str "taken", .int t, .bl true]) → Tq K G (.ref z) (.list [.str "taken", .int t, .bool true]) 1 200 := fun e => ((tqa_cons (tq_text "taken" (by decide +kernel)) (tqa_cons (tq_int (by omega) (by omega)) (tqa_cons (tq_bl true) tqa_nil))).lst e).mono (by decide) (by show 3 * (41 + 2) + 3 ≤ 200; decide)
      have tqU := tqT hu8
      refine ⟨_, rfl, rfl, _, rfl, iteF ?_⟩
      refine ⟨_, rfl, _, _, rfl, tqU.dq, tqU.sh, Nat.le_trans tqU.dp (by decide), Nat.le_trans tqU.ln (by decide), _, rfl, rfl, _, rfl, iteF ⟨_, rfl, (by show 3 ≤ sizeLine; decide), fun z hz => ?_⟩⟩
      have s14 := same_upd (o := .lst [.str "taken", .int t, .bl true]) hz
      have tqZ := tqT (upd_same (H := H8) (a := z) (o := .lst [.str "taken", .int t, .bl true]))
      refine ⟨_, _, rfl, tqZ.dq, tqZ.sh, Nat.le_trans tqZ.dp (by decide), Nat.le_trans tqZ.ln (by decide), rfl, ?_⟩
      rw [decide_eq_true rfl]
      exact q bs _ (by omega) ⟨zp, bl, dx, ps, sa, ba, qs, (Stp.same (Stp.refl t68.1) s14).1, LL8.same s14, W8.same s14, sbl, bbl, (((fB.stp t13).same s5).stp t68).same s14⟩
end
end K21

set_option Elab.async false
set_option linter.all false
set_option maxRecDepth 100000
set_option maxHeartbeats 400000
set_option pp.maxSteps 900
namespace K21
open PySem PySem.Spec PyProof.Rows L2 Gu Ex
theorem flt_era {bs : List Blk} {j : Nat} {b : Blk} (w : bs.Pairwise (fun b c => b.1 < c.1)) (h : bs[j]? = some b) : bs.filter (fun c => !decide (c = b)) = bs.eraseIdx j := by
  obtain ⟨hj, eb⟩ := List.getElem?_eq_some_iff.mp h
  have pw := List.pairwise_iff_getElem.mp w
  have e : bs = bs.take j ++ b :: bs.drop (j + 1) := by
    have := (List.take_append_drop j bs).symm
    rw [List.drop_eq_getElem_cons hj, eb] at this
    exact this
  have f1 : (bs.take j).filter (fun c => !decide (c = b)) = bs.take j := List.filter_eq_self.mpr fun c hc => by
    obtain ⟨i, hi, ei⟩ := mem_take_at hc
    obtain ⟨hi2, ei2⟩ := List.getElem?_eq_some_iff.mp ei
    have := pw i j hi2 hj hi
    rw [ei2, eb] at this
    rw [decide_eq_false fun z => by rw [z] at this; omega]
    rfl
  have f2 : (bs.drop (j + 1)).filter (fun c => !decide (c = b)) = bs.drop (j + 1) := List.filter_eq_self.mpr fun c hc => by
    obtain ⟨i, hi, ei⟩ := mem_drop_at hc
    obtain ⟨hi2, ei2⟩ := List.getElem?_eq_some_iff.mp ei
    have := pw j i hj hi2 (by omega)
    rw [ei2, eb] at this
    rw [decide_eq_false fun z => by rw [z] at this; omega]
    rfl
  rw [List.eraseIdx_eq_take_drop_succ]
  conv => lhs; rw [e]
  rw [List.filter_append, f1, List.filter_cons_of_neg (by simp), f2]
theorem set_perm {bs : List Blk} {j : Nat} {b c : Blk} (h : bs[j]? = some b) : (bs.eraseIdx j ++ [c]).Perm (bs.set j c) := by
  obtain ⟨hj, eb⟩ := List.getElem?_eq_some_iff.mp h
  rw [List.eraseIdx_eq_take_drop_succ, List.set_eq_take_append_cons_drop, if_pos hj, List.append_assoc]
  exact List.Perm.append_left _ (List.perm_append_comm (l₁ := bs.drop (j + 1)) (l₂ := [c]))
theorem era_free {ns : List Int} {n : Int} {bs : List Blk} {j : Nat} {b : Blk} (w : Wf ns n bs) (h : bs[j]? = some b) : FreeR ns (bs.eraseIdx j) b.1 (bEnd ns b) := fun c hc => by
  obtain ⟨hj, eb⟩ := List.getElem?_eq_some_iff.mp h
  have pw := List.pairwise_iff_getElem.mp w.so
  rw [List.eraseIdx_eq_take_drop_succ] at hc
  rcases List.mem_append.mp hc with hc | hc
  · obtain ⟨i, hi, ei⟩ := mem_take_at hc
    obtain ⟨hi2, ei2⟩ := List.getElem?_eq_some_iff.mp ei
    have := pw i j hi2 hj hi
    rw [ei2, eb] at this
    exact .inl this
  · obtain ⟨i, hi, ei⟩ := mem_drop_at hc
    obtain ⟨hi2, ei2⟩ := List.getElem?_eq_some_iff.mp ei
    have := pw j i hj hi2 (by omega)
    rw [ei2, eb] at this
    exact .inr this
section
variable {P : Program} {w : World} {K : PySem.W.Frag} {mg : Str → Option Value} {base : Heap} {f : Addr} {fd : FuncData}
def spChR (K : PySem.W.Frag) : Sp := fun vs H Q _ => ∃ (B : Hp) (r y wa : Addr) (ns : List Int) (n : Int) (bs : List Blk), vs = [.ref r, .ref y, .ref wa] ∧ StaF B K r y wa ns n bs H ∧ bs ≠ [] ∧ ∀ bs' H', bs'.length ≤ bs.length → StaF B K r y wa ns n bs' H' → Q (.bl true) H'
theorem sc__law_changed_right : FnScope ["_law_rng_here", "_law_layout", "_law_world", "_law_one", "_law_rest", "_law_now", "_law_told", "_law_spot", "_law_rank", "_law_fixed", "_law_other"] ["_law_rng_here", "_law_layout", "_law_world"] (defScope (top 32)) := ⟨rfl, rfl, rfl, by decide +kernel, rfl, by decide +kernel, by decide +kernel⟩
theorem ok_chr (T : Tx K mg) (D__law_draw : Df P w K mg base 1 "_law_draw" ["_law_rng_here", "_law_many"] spDraw) (D__law_choice : Df P w K mg base 2 "_law_choice" ["_law_rng_here", "_law_options"] spChoice) (M_take_out : MfX P w K mg base 6 "Layout" "take_out" ["self", "address"] (spTake K)) (M_take_out_kw : MfXK P w K mg base 6 "Layout" "take_out" ["self", "address"] ["address"] [0] (spTake K))
    (M_set_pinned : MfX P w K mg base 5 "Layout" "set_pinned" ["self", "address", "pinned"] (spPin K)) (M_set_pinned_kw : MfXK P w K mg base 5 "Layout" "set_pinned" ["self", "address", "pinned"] ["pinned", "address"] [1, 0] (spPin K)) (F : FnP K "_law_changed_right" "_law_changed_right" (top 32) f fd) :
    FnG P w K mg base CX0 8 f fd ["_law_rng_here", "_law_layout", "_law_world"] (spChR K) := by
  refine okG F sc__law_changed_right (fun vs H Q E h => ?_) (fun cdv A outer s H vs Q E hr h => ⟨_, PSs.nox (pss_cons (ps_set (i := 3) sc__law_changed_right.nd rfl (by first | exact Or.inl rfl | exact Or.inr rfl) (pcall D__law_choice hr.r (pa_cons (pv 0) (pa_cons (pe_dget (u1 hr.r) (pv 2) pe_str (fun _ _ => rfl)) pa_nil)))) (pss_cons (ps_asg (pv 3) (pg_tup (by rfl) (pgs_cons (pg_name (i := 7) sc__law_changed_right.nd rfl (by first | exact Or.inl rfl | exact Or.inr rfl)) (pgs_cons (pg_name (i := 8) sc__law_changed_right.nd rfl (by first | exact Or.inl rfl | exact Or.inr rfl)) (pgs_cons (pg_name (i := 9) sc__law_changed_right.nd rfl (by first | exact Or.inl rfl | exact Or.inr rfl)) pgs_nil))))) (pss_cons (ps_setLc (i := 4) (own := [("_law_other", 10)]) (g := gName 10) rfl sc__law_changed_right.nd rfl rfl (sw_true rfl rfl rfl (by decide +kernel)) (pi_list (pe_dget (u1 hr.r) (pv 2) pe_str (fun _ _ => rfl))) (blkOk_by (own := [("_law_other", 10)]) (N := ["_law_rng_here", "_law_layout", "_law_world", "_law_one", "_law_rest", "_law_now", "_law_told", "_law_spot", "_law_rank", "_law_fixed", "_law_other"]) (sc := defScope (top 32)) (by decide +kernel)) (fun _ _ _ _ _ => pg_name (i := 10) sc__law_changed_right.nd rfl (Or.inl rfl)) (fun _ _ _ _ _ => (pts_one (pt_cmpR (r := rNeD K) (op_neD hr.r.units) (pv 10) (pv 3) (nomark _)))) (fun _ _ _ _ _ => (pv 10))) (pss_cons (ps_if (pt_cmpR op_eq (pcall D__law_draw hr.r (pa_cons (pv 0) (pa_cons pe_int pa_nil))) pe_int (nomark _)) (pss_cons (ps_set (i := 6) sc__law_changed_right.nd rfl (by first | exact Or.inl rfl | exact Or.inr rfl) (pe_ifExp (pt_cmpR op_eq (pcall D__law_draw hr.r (pa_cons (pv 0) (pa_cons pe_int pa_nil))) pe_int (nomark _)) (pmethX M_take_out hr.r passN (pv 1) (pa_cons (pv 7) pa_nil)) (pmethXK M_take_out_kw hr.r passN (pv 1) (pk_cons (pv 7) pk_nil)))) (pss_cons (ps_dput (u1 hr.r) (pv 2) pe_str (pv 4) (by rfl)) (pss_one (ps_ret (pe_cmpR op_eq (pe_callB (call_reprQ hr T.sys) (by rfl) T.n_repr (by decide +kernel) (pa_cons (pv 6) pa_nil)) (pe_callB (call_reprQ hr T.sys) (by rfl) T.n_repr (by decide +kernel) (pa_cons (pe_tup (pa_cons (pv 8) (pa_cons (pv 9) pa_nil))) pa_nil)) (nomark _)))))) pss_nil) (pss_cons (ps_set (i := 5) sc__law_changed_right.nd rfl (by first | exact Or.inl rfl | exact Or.inr rfl) (pe_cmpR op_eq (pcall D__law_draw hr.r (pa_cons (pv 0) (pa_cons pe_int pa_nil))) pe_int (nomark _))) (pss_cons (ps_set (i := 6) sc__law_changed_right.nd rfl (by first | exact Or.inl rfl | exact Or.inr rfl) (pe_ifExp (pt_cmpR op_eq (pcall D__law_draw hr.r (pa_cons (pv 0) (pa_cons pe_int pa_nil))) pe_int (nomark _)) (pmethX M_set_pinned hr.r passN (pv 1) (pa_cons (pv 7) (pa_cons (pv 5) pa_nil))) (pmethXK M_set_pinned_kw hr.r passN (pv 1) (pk_cons (pv 5) (pk_cons (pv 7) pk_nil))))) (pss_cons (ps_dput (u1 hr.r) (pv 2) pe_str (pe_callB cr_sortedB (by rfl) T.n_sorted (by decide +kernel) (pa_cons (pe_op op_cat (pv 4) (pe_lst (pa_cons (pe_tup (pa_cons (pv 7) (pa_cons (pv 8) (pa_cons (pv 5) pa_nil)))) pa_nil))) pa_nil)) (by rfl)) (pss_one (ps_ret (pe_cmpR op_isN (pv 6) pe_non (nomark _))))))))))), ?_⟩)
  · obtain ⟨B, r, y, wa, ns, n, bs, rfl, _⟩ := h
    rfl
  · obtain ⟨B, r, y, wa, ns, n, bs, rfl, ⟨zp, bl, dx, ps, sa, ba, qs, hR, LL, W, sbl, bbl, fB⟩, hne, q⟩ := h
    have b40 : (10 : Int) ^ 40 = 10000000000000000000000000000000000000000 := by decide
    have pl := W.rf.len
    have ln := W.ln
    have b1 : 1 ≤ bs.length := List.length_pos_iff.mpr hne
    refine ⟨_, rfl, _, rfl, wa, _, rfl, get_b W, r, ba, _, rfl, hR, W.b, W.br, (by rw [List.length_map]; omega), (by rw [List.length_map]; omega), fun v H1 hv t1 => ?_⟩
    obtain ⟨q0, hq0, rfl⟩ := List.mem_map.mp hv
    obtain ⟨j, hj0⟩ := List.getElem?_of_mem hq0
    have W1 := W.stp hR t1
    have LL1 := LL.stp hR t1
    obtain ⟨b, hj, hT⟩ := W1.rf.get hj0
    have hT' : H1 q0 = some (.tup [.int b.1, .int (b.2.1 : Nat), .bl b.2.2]) := hT
    refine ⟨_, rfl, q0, _, rfl, .inl (.inl hT'), rfl, _, _, rfl, _, _, rfl, _, _, rfl, rfl, ?_⟩
    refine ⟨_, rfl, wa, _, rfl, get_b W1, ba, rfl, ⟨_, SqL.of W1.b⟩, fun D hD => ?_⟩
    refine lc_it (walk_list (xs := qs.map V.ref)) (fun i G => Same H1 G ∧ ∃ qs' : List Addr, G D = some (.lst (qs'.map V.ref)) ∧ Refs blkV G qs' ((bs.take i).filter (fun c => !decide (c = b)))) ⟨same_upd hD, [], upd_same, .nil⟩ (fun i G _ h => SqL.of (h.1 _ _ W1.b)) ?_ ?_
    · rintro i v G0 G hi ⟨sm, qs', hG, rr⟩ ⟨rfl, hv⟩
      have hi2 : i < bs.length := by rw [List.length_map, pl] at hi; exact hi
      obtain ⟨c, hc⟩ : ∃ c, bs[i]? = some c := ⟨_, List.getElem?_eq_getElem hi2⟩
      obtain ⟨p, hp, hP0⟩ := W1.rf.at_ hc
      rw [List.getElem?_map, hp] at hv
      obtain rfl : v = .ref p := (Option.some.inj hv).symm
      have hP : G p = some (.tup (blkV c)) := sm _ _ hP0
      have fa := flt_at (fun z => !decide (z = b)) hc
      have fl := List.length_filter_le (fun z : Blk => !decide (z = b)) (bs.take i)
      rw [List.length_take] at fl
      have rl := rr.len
      have dpb : ∀ {x : Addr} {z : Blk}, G x = some (.tup (blkV z)) → Dp K G (.ref x) (blkD z) := fun e => .tup (SqT.of e) (.cons (.int _) (.cons (.int _) (.cons (.bl _) .nil)))
      refine ⟨rfl, _, rfl, _, rfl, blkD c, blkD b, dpb hP, dpb (sm _ _ hT), rfl, rfl, _, rfl, ?_⟩
      rw [eqv_blk]
      by_cases ec : c = b
      · rw [decide_eq_true ec] at fa ⊢
        rw [if_neg (by decide), List.append_nil] at fa
        refine iteF ⟨sm, qs', hG, ?_⟩
        rw [fa]
        exact rr
      · rw [decide_eq_false ec] at fa ⊢
        rw [if_pos (by decide)] at fa
        refine iteT ⟨_, rfl, _, hG, (by rw [List.length_map, sizeLine_eq]; omega), fun x o e => ?_, qs' ++ [p], ?_, ?_⟩
        · rw [upd_ne (ne_of_none e hD)]
          exact sm x o e
        · rw [upd_same, List.map_append]
          rfl
        · rw [fa]
          have hDG : ∀ x xs, G x = some (.tup xs) → (upd G D (.lst (qs'.map V.ref ++ [V.ref p]))) x = some (.tup xs) := fun x xs e => by
            rw [upd_ne fun z => by rw [z, hG] at e; cases e]
            exact e
          exact (rr.mono hDG).app (.one (hDG _ _ hP))
    · rintro G ⟨sm, qs', hG, rr⟩
      rw [List.length_map, pl, List.take_length, flt_era (W.wf.lts W.g) hj] at rr
      have bm := List.mem_of_getElem? hj
      obtain ⟨bk, b0, bd, be⟩ := W.wf.ok b bm
      have jl := (List.getElem?_eq_some_iff.mp hj).1
      have WG := W1.same sm
      have LLG := LL1.same sm
      have fG := (fB.stp t1).same sm
      have RG := (Stp.same (Stp.refl t1.1) sm).1
      have nDr : D ≠ r := (t1.1.ne hD).symm
      have nDb : D ≠ bl := fun e => by
        have := LL1.L.lst
        rw [← e, hD] at this
        cases this
      have ela : (bs.eraseIdx j).length ≤ 100 := Nat.le_trans (List.length_eraseIdx_le bs j) ln
      have same_j : ∀ (j' : Nat) (b' : Blk), bs[j']? = some b' → V.int b.1 = V.int b'.1 → j' = j ∧ b' = b := fun j' b' hj' e => by
        have e1 : b.1 = b'.1 := V.int.inj e
        have : j' = j := by
          by_cases l1 : j' < j
          · have := (W.wf.lt W.g hj' hj l1).2
            omega
          · by_cases l2 : j < j'
            · have := (W.wf.lt W.g hj hj' l2).2
              omega
            · omega
        rw [this, hj] at hj'
        exact ⟨this, (Option.some.inj hj').symm⟩
      refine go_nm (nx_of (σ' := [some (.ref r), some (.ref y), some (.ref wa), some (.ref q0), some (.ref D), none, none, some (.int b.1), some (.int (b.2.1 : Nat)), some (.bl b.2.2), none]) rfl ?_)
      refine ⟨_, rfl, r, 2, rfl, RG, by decide, by omega, fun d2 H2 _ _ t2 => ⟨rfl, _, rfl, ?_⟩⟩
      by_cases e2 : d2 = 0
      · refine ifT (vT e2) (go_asg ?_)
        have TK : ∀ H3, Stp r G H3 → ∀ Q' : VK, (∀ v H', (∃ t ps' H3, v = V.ref t ∧ Stp r G H3 ∧ H3 t = none ∧ Ly K H' y zp bl dx ps' ns n (bs.eraseIdx j) ∧ H' t = some (.tup [.int (b.2.1 : Nat), .bl b.2.2]) ∧ But2 y bl H3 H') → Q' v H') → spTake K [.ref y, .int b.1] H3 Q' E0 := fun H3 t3 Q' tail => by
          refine ⟨y, zp, bl, dx, ps, ns, n, bs, .int b.1, rfl, (LLG.stp RG t3).L, .int b.1, fun no => absurd rfl (no b bm), fun j' b' hj' e t ps' H' ht L' hT2 but => ?_⟩
          obtain ⟨rfl, rfl⟩ := same_j j' b' hj' e
          exact tail _ _ ⟨t, ps', H3, rfl, t3, ht, L', hT2, but⟩
        refine joinW (fun v H' => ∃ t ps' H3, v = V.ref t ∧ Stp r G H3 ∧ H3 t = none ∧ Ly K H' y zp bl dx ps' ns n (bs.eraseIdx j) ∧ H' t = some (.tup [.int (b.2.1 : Nat), .bl b.2.2]) ∧ But2 y bl H3 H') (fun Q' tail => ?_) (fun v H5 hP => ?_)
        · refine ⟨_, rfl, r, 2, rfl, t2.1, by decide, by omega, fun d3 H3 _ _ t3 => ⟨rfl, _, rfl, ?_⟩⟩
          have t23 := t2.trans t3
          have A3 := (LLG.stp RG t23).L.at_
          by_cases e3 : d3 = 0
          · exact ifT (vT e3) ⟨_, rfl, y, dx, _, rfl, A3, lay_nm (by decide +kernel), _, rfl, TK H3 t23 Q' tail⟩
          · exact ifF (vF e3) ⟨_, rfl, y, dx, _, rfl, A3, lay_nm (by decide +kernel), _, rfl, rfl, TK H3 t23 Q' tail⟩
        · obtain ⟨t, ps', H3, rfl, t3, ht, L5, hT5, but⟩ := hP
          have W3 := WG.stp RG t3
          have LL3 := LLG.stp RG t3
          have W5 := W3.but2 LL3 sbl bbl but
          have LL5 := LL3.but2 L5 but
          have R5 := LL3.rng t3.1 but
          have hD3 := t3.2 _ _ nDr hG
          have nDy : D ≠ y := fun e => by
            have := LL3.L.at_
            rw [← e, hD3] at this
            cases this
          have hD5 := but _ _ nDy nDb hD3
          have rf5 : Refs blkV H5 qs' (bs.eraseIdx j) := (rr.mono fun x xs e => t3.2 x _ (RG.ntup e) e).mono fun x xs e => but x _ (fun z => by rw [z, LL3.L.at_] at e; cases e) (fun z => by rw [z, LL3.L.lst] at e; cases e) e
          refine ⟨_, rfl, _, rfl, wa, _, rfl, DPut.k (k := kB) W5.w (by show 3 < sizeLine; decide), ?_⟩
          rw [wd_put]
          have bD := butD (kws := wd3 sa n D) W5.w
          have f6 := ((fG.stp t3).but2 but).dct (o := .dK (wd3 sa n D))
          have hw6 : (upd H5 wa (.dK (wd3 sa n D))) wa = some (.dK (wd3 sa n D)) := upd_same
          generalize upd H5 wa (.dK (wd3 sa n D)) = H6 at bD hw6 f6
          have LL6 := LL5.butD bD
          have R6 := rng_butD R5 bD
          have hT6 := bD _ _ hT5 (fun _ e => nomatch e)
          have W6 : WR r H6 wa sa D qs' ns n (bs.eraseIdx j) := ⟨hw6, bD _ _ W5.s (fun _ e => nomatch e), bD _ _ hD5 (fun _ e => nomatch e), rf5.mono fun x xs e => bD _ _ e (fun _ e => nomatch e), W.sr, nDr, W.g, era_wf W.wf, W.n1, W.n2, ela⟩
          have b39 : (10 : Int) ^ 39 = 1000000000000000000000000000000000000000 := by decide
          have l8 := W.g.len
          have tqT : ∀ {F : Hp} {z : Addr}, F z = some (.tup [.int (b.2.1 : Nat), .bl b.2.2]) → Tq K F (.ref z) (.tuple [.int (b.2.1 : Nat), .bool b.2.2]) 1 100 := fun e => ((tqa_cons (tq_int (by omega) (by omega)) (tqa_cons (tq_bl _) tqa_nil)).tup e).mono (by decide) (by show 2 * (41 + 2) + 3 ≤ 100; decide)
          have tq1 := tqT hT6
          refine ⟨_, rfl, _, _, rfl, tq1.dq, tq1.sh, Nat.le_trans tq1.dp (by decide), Nat.le_trans tq1.ln (by decide), _, rfl, _, rfl, (by show 2 ≤ sizeLine; decide), fun z hz => ?_⟩
          have s7 := same_upd (o := .tup [.int (b.2.1 : Nat), .bl b.2.2]) hz
          have tq2 := tqT (upd_same (H := H6) (a := z) (o := .tup [.int (b.2.1 : Nat), .bl b.2.2]))
          refine ⟨_, _, rfl, tq2.dq, tq2.sh, Nat.le_trans tq2.dp (by decide), Nat.le_trans tq2.ln (by decide), rfl, ?_⟩
          rw [decide_eq_true rfl]
          exact q _ _ (List.length_eraseIdx_le bs j) ⟨zp, bl, dx, ps', sa, D, qs', (Stp.same (Stp.refl R6) s7).1, LL6.same s7, W6.same s7, sbl, nDb, f6.same s7⟩
      · refine ifF (vF e2) ⟨_, rfl, r, 2, rfl, t2.1, by decide, by omega, fun d4 H3 _ _ t4 => ⟨rfl, ?_⟩⟩
        refine go_nm (nx_of (σ' := [some (.ref r), some (.ref y), some (.ref wa), some (.ref q0), some (.ref D), some (.bl (decide (V.int d4 = V.int 0))), none, some (.int b.1), some (.int (b.2.1 : Nat)), some (.bl b.2.2), none]) rfl ?_)
        generalize decide (V.int d4 = V.int 0) = nw
        have t24 := t2.trans t4
        refine go_asg ?_
        have PN : ∀ H4, Stp r G H4 → ∀ Q' : VK, (∀ v H', (v = V.non ∧ ∃ ps' H4, Stp r G H4 ∧ Ly K H' y zp bl dx ps' ns n (pinB bs j b nw) ∧ But2 y bl H4 H') → Q' v H') → spPin K [.ref y, .int b.1, .bl nw] H4 Q' E0 := fun H4 t5 Q' tail => by
          refine ⟨y, zp, bl, dx, ps, ns, n, bs, .int b.1, nw, rfl, (LLG.stp RG t5).L, .int b.1, fun no => absurd rfl (no b bm), fun j' b' hj' e ps' H' L' but => ?_⟩
          obtain ⟨rfl, rfl⟩ := same_j j' b' hj' e
          exact tail _ _ ⟨rfl, ps', H4, t5, L', but⟩
        refine joinW (fun v H' => v = V.non ∧ ∃ ps' H4, Stp r G H4 ∧ Ly K H' y zp bl dx ps' ns n (pinB bs j b nw) ∧ But2 y bl H4 H') (fun Q' tail => ?_) (fun v H5 hP => ?_)
        · refine ⟨_, rfl, r, 2, rfl, t24.1, by decide, by omega, fun d5 H4 _ _ t5 => ⟨rfl, _, rfl, ?_⟩⟩
          have t25 := t24.trans t5
          have A4 := (LLG.stp RG t25).L.at_
          by_cases e5 : d5 = 0
          · exact ifT (vT e5) ⟨_, rfl, y, dx, _, rfl, A4, lay_nm (by decide +kernel), _, rfl, _, rfl, PN H4 t25 Q' tail⟩
          · exact ifF (vF e5) ⟨_, rfl, y, dx, _, rfl, A4, lay_nm (by decide +kernel), _, rfl, _, rfl, rfl, PN H4 t25 Q' tail⟩
        · obtain ⟨rfl, ps', H4, t5, L5, but⟩ := hP
          have W4 := WG.stp RG t5
          have LL4 := LLG.stp RG t5
          have W5 := W4.but2 LL4 sbl bbl but
          have LL5 := LL4.but2 L5 but
          have R5 := LL4.rng t5.1 but
          have hD4 := t5.2 _ _ nDr hG
          have nDy : D ≠ y := fun e => by
            have := LL4.L.at_
            rw [← e, hD4] at this
            cases this
          have hD5 := but _ _ nDy nDb hD4
          have rf5 : Refs blkV H5 qs' (bs.eraseIdx j) := (rr.mono fun x xs e => t5.2 x _ (RG.ntup e) e).mono fun x xs e => but x _ (fun z => by rw [z, LL4.L.at_] at e; cases e) (fun z => by rw [z, LL4.L.lst] at e; cases e) e
          have un := (era_wf (j := j) W.wf).un.add (b := (b.1, b.2.1, nw)) bk b0 bd be (show FreeR ns (bs.eraseIdx j) b.1 (bEnd ns b) from era_free W.wf hj)
          have rl := rf5.len
          refine ⟨_, rfl, _, rfl, _, rfl, _, rfl, (by show 3 ≤ sizeLine; decide), fun x0 hx0 => ⟨(by show 1 ≤ sizeLine; decide), fun m hm => ?_⟩⟩
          have s9 := same_upd (o := .tup [.int b.1, .int (b.2.1 : Nat), .bl nw]) hx0
          have hq1 : (upd H5 x0 (.tup [.int b.1, .int (b.2.1 : Nat), .bl nw])) x0 = some (.tup (blkV (b.1, b.2.1, nw))) := upd_same
          have s10 := same_upd (o := .lst [.ref x0]) hm
          have hm1 : (upd (upd H5 x0 (.tup [.int b.1, .int (b.2.1 : Nat), .bl nw])) m (.lst [.ref x0])) m = some (.lst [.ref x0]) := upd_same
          have hq2 := s10 _ _ hq1
          have s8a := s9.trans s10
          generalize upd (upd H5 x0 (.tup [.int b.1, .int (b.2.1 : Nat), .bl nw])) m (.lst [.ref x0]) = H10 at hm1 hq2 s8a
          refine ⟨D, m, _, _, rfl, rfl, s8a _ _ hD5, hm1, (by rw [List.length_map, rl]; show (bs.eraseIdx j).length + 1 ≤ sizeLine; rw [sizeLine_eq]; omega), fun c hc => ?_⟩
          have s11 := same_upd (o := .lst (qs'.map V.ref ++ [.ref x0])) hc
          have hc1 : (upd H10 c (.lst (qs'.map V.ref ++ [.ref x0]))) c = some (.lst (qs'.map V.ref ++ [.ref x0])) := upd_same
          generalize upd H10 c (.lst (qs'.map V.ref ++ [.ref x0])) = H11 at s11 hc1
          have rf11 : Refs blkV H11 (qs' ++ [x0]) (bs.eraseIdx j ++ [(b.1, b.2.1, nw)]) := (rf5.same (s8a.trans s11)).app (.one (s11 _ _ hq2))
          have eq1 : (qs' ++ [x0]).map V.ref = qs'.map V.ref ++ [.ref x0] := by rw [List.map_append]; rfl
          obtain ⟨k1, k2⟩ := un.keys W.g rf11
          rw [eq1] at k1 k2
          refine ⟨c, _, keyV H11, rfl, SqL.of hc1, k1, k2, fun ys pp so pm hp => ?_⟩
          obtain ⟨qs2, bs2, rfl, rf12, pb, wf2⟩ := un.sorted W.g rf11 so (by rw [eq1]; exact pm)
          have eb : bs2 = pinB bs j b nw := uniqB (wf2.lts W.g) (L5.wf.lts W.g) (pb.trans (set_perm hj))
          subst eb
          have s12 := same_upd (o := .lst (qs2.map V.ref)) hp
          have hp1 : (upd H11 pp (.lst (qs2.map V.ref))) pp = some (.lst (qs2.map V.ref)) := upd_same
          have hp0 : H5 pp = none := s8a.free (s11.free hp)
          generalize upd H11 pp (.lst (qs2.map V.ref)) = H12 at s12 hp1
          have s512 := s8a.trans (s11.trans s12)
          have W12 := W5.same s512
          have LL12 := LL5.same s512
          have R12 := (Stp.same (Stp.refl R5) s512).1
          have rf13 := rf12.same s12
          refine ⟨_, rfl, wa, _, rfl, DPut.k (k := kB) W12.w (by show 3 < sizeLine; decide), ?_⟩
          rw [wd_put]
          have bD := butD (kws := wd3 sa n pp) W12.w
          have f13 := (((fG.stp t5).but2 but).same s512).dct (o := .dK (wd3 sa n pp))
          have hw13 : (upd H12 wa (.dK (wd3 sa n pp))) wa = some (.dK (wd3 sa n pp)) := upd_same
          generalize upd H12 wa (.dK (wd3 sa n pp)) = H13 at bD hw13 f13
          have LL13 := LL12.butD bD
          have R13 := rng_butD R12 bD
          have lpin : (pinB bs j b nw).length = bs.length := List.length_set
          have W13 : WR r H13 wa sa pp qs2 ns n (pinB bs j b nw) := ⟨hw13, bD _ _ W12.s (fun _ e => nomatch e), bD _ _ hp1 (fun _ e => nomatch e), rf13.mono fun x xs e => bD _ _ e (fun _ e => nomatch e), W.sr, (R5.ne hp0).symm, W.g, wf2, W.n1, W.n2, by omega⟩
          have nb : pp ≠ bl := fun e => by
            have := LL5.L.lst
            rw [← e, hp0] at this
            cases this
          refine ⟨_, rfl, rfl, ?_⟩
          rw [decide_eq_true rfl]
          exact q _ _ (by omega) ⟨zp, bl, dx, ps', sa, pp, qs2, R13, LL13, W13, sbl, nb, f13⟩
end
end K21

set_option Elab.async false
set_option linter.all false
set_option maxRecDepth 100000
set_option maxHeartbeats 400000
set_option pp.maxSteps 900
namespace K21
open PySem PySem.Spec PyProof.Rows L2 Gu Ex
/-- what the body of the try asks -/
def t_odd (K : PySem.W.Frag) (W : WX) : TS :=
  tIfS (tTest (tOp rEq (tVar 1) (tC (.int 0)))) (tDrop (tMethT (He.ga K "Layout") "take_out" (spTake K) (WE W) (tVar 0) (tCons (tVar 2) tNil)))
    (tIfS (tTest (tOp rEq (tVar 1) (tC (.int 1)))) (tDrop (tMethT (He.ga K "Layout") "set_pinned" (spPin K) (WE W) (tVar 0) (tCons (tVar 2) (tCons (tC (.bl true)) tNil))))
      (tIfS (tTest (tOp rEq (tVar 1) (tC (.int 2)))) (tDrop (tMethT (He.ga K "Layout") "block_at" (spAt K) (WE W) (tVar 0) (tCons (tVar 2) tNil)))
        (tDrop (tMethTD (He.ga K "Layout") "put" (spPut K) [.bl false] (WE W) (tVar 0) (tCons (tC (.int 0)) (tCons (tVar 2) tNil))))))
def t_oddX (K : PySem.W.Frag) (C : Addr) (wd : Str) (B : String) (a : Addr) (cls : Value) (d : Option Addr) : TS :=
  tAsg (tLst (tCons (tC (.str wd)) (tCons (tXf a cls d C "value" (tVar 4)) (tCons (tCB (rIsX K C a cls d) (tCons (tVar 4) (tCons (tC (.ty B)) tNil))) tNil)))) (gName 3)
/-- how an odd value is told -/
def oddD (w : Int) (d : PyData) : PyData := .list [.str (if w < 2 then "unknown" else "address"), d, .bool true]
section
variable {P : Program} {w : World} {K : PySem.W.Frag} {mg : Str → Option Value} {base : Heap} {f : Addr} {fd : FuncData}
def spOdd (K : PySem.W.Frag) : Sp := fun vs H Q _ => ∃ (y zp bl dx : Addr) (ps : List Addr) (ns : List Int) (n : Int) (bs : List Blk) (k : Int) (v : V) (d : PyData), vs = [.ref y, .int k, v] ∧ 0 ≤ k ∧ Ly K H y zp bl dx ps ns n bs ∧ bs.length < 900 ∧ Any H v ∧ Tq K H v d 3 100 ∧
  (∀ b ∈ bs, v ≠ .int b.1) ∧ atB n v = false ∧ regB ns 0 n v = false ∧ ∀ H', Same H H' → Q (.str (oddD k d).shown) H'
theorem sc__law_odd_told : FnScope ["_law_layout", "_law_way", "_law_odd", "_law_told", "e"] ["_law_layout", "_law_way", "_law_odd"] (defScope (top 35)) := ⟨rfl, rfl, rfl, by decide +kernel, rfl, by decide +kernel, by decide +kernel⟩
theorem ok_odd (T : Tx K mg) (M_take_out : MfX P w K mg base 6 "Layout" "take_out" ["self", "address"] (spTake K)) (M_set_pinned : MfX P w K mg base 5 "Layout" "set_pinned" ["self", "address", "pinned"] (spPin K)) (M_block_at : MfX P w K mg base 7 "Layout" "block_at" ["self", "address"] (spAt K))
    (M_put_d : MfXD P w K mg base 9 "Layout" "put" ["self", "level", "address", "pinned"] [.bl false] (spPut K)) (F : FnP K "_law_odd_told" "_law_odd_told" (top 35) f fd) : FnG P w K mg base CX0 10 f fd ["_law_layout", "_law_way", "_law_odd"] (spOdd K) := by
  refine okG F sc__law_odd_told (fun vs H Q E h => ?_) (fun cdv A outer s H vs Q E hr h => ⟨_, PSs.nox (pss_cons (ps_set (i := 3) sc__law_odd_told.nd rfl (by first | exact Or.inl rfl | exact Or.inr rfl) (pe_lst (pa_cons pe_str pa_nil))) (pss_cons (ps_try_asAll (i := 4) (tb := t_odd K) (l := [(.ref (cU K), t_oddX K (cU K) "unknown" "LookupError"), (.ref (cA K), t_oddX K (cA K) "address" "ValueError")]) (Wout := fun _ _ _ _ => False) rfl rfl sc__law_odd_told.nd rfl rfl takes0 (fun W pn xe tk _ => (pss_one (ps_if (by exact (pt_cmpR op_eq (pv 1) pe_int (nomark _))) (pss_one (ps_expr (by exact (pmethT M_take_out hr.r tk (pv 0) (pa_cons (pv 2) pa_nil))))) (pss_one (ps_if (by exact (pt_cmpR op_eq (pv 1) pe_int (nomark _))) (pss_one (ps_expr (by exact (pmethT M_set_pinned hr.r tk (pv 0) (pa_cons (pv 2) (pa_cons pe_bl pa_nil)))))) (pss_one (ps_if (by exact (pt_cmpR op_eq (pv 1) pe_int (nomark _))) (pss_one (ps_expr (by exact (pmethT M_block_at hr.r tk (pv 0) (pa_cons (pv 2) pa_nil))))) (pss_one (ps_expr (by exact (pmethTD M_put_d hr.r tk (pv 0) (pa_cons pe_int (pa_cons (pv 2) pa_nil))))))))))))) (.cons ⟨rfl, by decide, Or.inl T.g_UnknownBlock⟩ (fun a oe cls d pn hz hf => pss_one (ps_set (i := 3) sc__law_odd_told.nd rfl (Or.inl rfl) (by exact (pe_lst (pa_cons pe_str (pa_cons (by exact (pe_xf T.eU.xf T.eU.no hz hf (pv 4))) (pa_cons (by exact (pe_callB (r := rIsX K (cU K) a cls d) (id := "isinstance") (call_isX T.eU.ec hz hf) (by rfl) T.n_isinstance (by decide +kernel) (by exact (pa_cons (pv 4) (pa_cons (pe_bltn (v := .ty "LookupError") (by rfl) T.n_LookupError (by decide +kernel) rfl) pa_nil))))) pa_nil))))))) (.cons ⟨rfl, by decide, Or.inl T.g_InvalidAddress⟩ (fun a oe cls d pn hz hf => pss_one (ps_set (i := 3) sc__law_odd_told.nd rfl (Or.inl rfl) (by exact (pe_lst (pa_cons pe_str (pa_cons (by exact (pe_xf T.eA.xf T.eA.no hz hf (pv 4))) (pa_cons (by exact (pe_callB (r := rIsX K (cA K) a cls d) (id := "isinstance") (call_isX T.eA.ec hz hf) (by rfl) T.n_isinstance (by decide +kernel) (by exact (pa_cons (pv 4) (pa_cons (pe_bltn (v := .ty "ValueError") (by rfl) T.n_ValueError (by decide +kernel) rfl) pa_nil))))) pa_nil))))))) .nil))) (pss_one (ps_ret (pe_callB (call_reprQ hr T.sys) (by rfl) T.n_repr (by decide +kernel) (pa_cons (pv 3) pa_nil)))))), ?_⟩)
  · obtain ⟨y, zp, bl, dx, ps, ns, n, bs, k, v, d, rfl, _⟩ := h
    rfl
  · obtain ⟨y, zp, bl, dx, ps, ns, n, bs, k, v, d, rfl, k0, L0, l9, hv0, tq0, u1, u2, u3, q⟩ := h
    refine ⟨(by show 1 ≤ sizeLine; decide), fun l hl => ?_⟩
    have sl : Same H (upd H l (.lst [.str "done"])) := same_upd hl
    generalize upd H l (.lst [.str "done"]) = H1 at sl
    have L := L0.same sl
    have hv := hv0.same sl
    have nm : ∀ m : Str, _ → (layF zp n (n - tot ns bs) bl).lookup m = none := fun m hm => lay_nm hm
    have tell : ∀ {G : Hp} {z : Addr} (wd : Str), Same H G → (reprText wd).length ≤ 41 → G z = some (.lst [.str wd, v, .bl true]) → Tq K G (.ref z) (.list [.str wd, d, .bool true]) 4 400 := fun {G z} wd s hw e =>
      ((tqa_cons (n := 3) (m := 100) ((show Tq K G (.str wd) (.str wd) 0 41 from ⟨.str _, rfl, Nat.le_refl _, hw⟩).mono (by decide) (by decide)) (tqa_cons (tq0.same s) (tqa_cons ((tq_bl true).mono (by decide) (by decide)) tqa_nil))).lst e).mono (by decide) (by show 3 * (100 + 2) + 3 ≤ 400; decide)
    have wU : (reprText ("unknown" : Str)).length ≤ 41 := by decide +kernel
    have wA : (reprText ("address" : Str)).length ≤ 41 := by decide +kernel
    have l0 : 0 < ns.length := by have := L.gd.len; omega
    refine ⟨_, rfl, rfl, _, rfl, (Decidable.em (k = 0)).elim (fun e0 => ifT (vT e0) ⟨_, rfl, y, dx, _, rfl, L.at_, lay_nm (by decide +kernel), _, rfl, y, zp, bl, dx, ps, ns, n, bs, v, rfl, L, hv, fun _ dd H2 hd s2 hx => ?R1, fun j b hj hb => absurd hb (u1 b (List.mem_of_getElem? hj))⟩) (fun e0 => ifF (vF e0) ⟨_, rfl, rfl, _, rfl, (Decidable.em (k = 1)).elim (fun e1 => ifT (vT e1) ⟨_, rfl, y, dx, _, rfl, L.at_, lay_nm (by decide +kernel), _, rfl, y, zp, bl, dx, ps, ns, n, bs, v, true, rfl, L, hv, fun _ dd H2 hd s2 hx => ?R2, fun j b hj hb => absurd hb (u1 b (List.mem_of_getElem? hj))⟩) (fun e1 => ifF (vF e1) ⟨_, rfl, rfl, _, rfl, (Decidable.em (k = 2)).elim (fun e2 => ifT (vT e2) ⟨_, rfl, y, dx, _, rfl, L.at_, lay_nm (by decide +kernel), _, rfl, y, zp, bl, dx, ps, ns, n, bs, v, rfl, L, hv, fun a ea a0 a1 => ?A3, fun _ dd H2 hd s2 hx => ?R3⟩) (fun e2 => ifF (vF e2) ⟨_, rfl, y, dx, _, rfl, L.at_, lay_nm (by decide +kernel), _, rfl, y, zp, bl, dx, ps, ns, n, bs, 0, false, v, rfl, L, l9, l0, hv, fun a ea er => ?A4, fun a t ea er => ?A5, fun _ dd H2 hd s2 hx => ?R4⟩)⟩)⟩)⟩
    case A3 =>
      rw [ea] at u2
      exact absurd ⟨a0, a1⟩ (of_decide_eq_false u2)
    case A4 =>
      rw [u3] at er
      cases er
    case A5 =>
      rw [u3] at er
      cases er
    case R1 | R2 =>
      refine ⟨true, T.eU.em, fun _ a0 ha0 => ?_, fun zz => Bool.noConfusion zz⟩
      refine ⟨_, rfl, rfl, rfl, dd, _, v, rfl, hx, (by simp [List.lookup]), ?_⟩
      refine ⟨_, rfl, _, _, _, dd, _, rfl, rfl, rfl, .ty "LookupError", hx, T.kU, (by show 3 ≤ sizeLine; decide), fun u hu => ?_⟩
      have s3 := (sl.trans s2).trans (same_upd (o := .lst [.str "unknown", v, .bl true]) hu)
      have tqU := tell "unknown" s3 wU upd_same
      have qq := q _ s3
      rw [show oddD k d = .list [.str "unknown", d, .bool true] by unfold oddD; rw [if_pos (by omega)]] at qq
      exact ⟨_, rfl, _, _, rfl, tqU.dq, tqU.sh, Nat.le_trans tqU.dp (by decide), Nat.le_trans tqU.ln (by decide), qq⟩
    case R3 | R4 =>
      refine ⟨false, T.nAU, fun zz => Bool.noConfusion zz, fun _ => ⟨true, T.eA.em, fun _ a0 ha0 => ?_, fun zz => Bool.noConfusion zz⟩⟩
      refine ⟨_, rfl, rfl, rfl, dd, _, v, rfl, hx, (by simp [List.lookup]), ?_⟩
      refine ⟨_, rfl, _, _, _, dd, _, rfl, rfl, rfl, .ty "ValueError", hx, T.kA, (by show 3 ≤ sizeLine; decide), fun u hu => ?_⟩
      have s3 := (sl.trans s2).trans (same_upd (o := .lst [.str "address", v, .bl true]) hu)
      have tqU := tell "address" s3 wA upd_same
      have qq := q _ s3
      rw [show oddD k d = .list [.str "address", d, .bool true] by unfold oddD; rw [if_neg (by omega)]] at qq
      exact ⟨_, rfl, _, _, rfl, tqU.dq, tqU.sh, Nat.le_trans tqU.dp (by decide), Nat.le_trans tqU.ln (by decide), qq⟩
end
end K21

set_option Elab.async false
set_option linter.all false
set_option maxRecDepth 100000
set_option maxHeartbeats 400000
set_option pp.maxSteps 900
namespace K21
open PySem PySem.Spec PyProof.Rows L2 Gu Ex
/-- Layout(Sizes(s), n) -/
theorem mk_lay {K : PySem.W.Frag} {H0 : Hp} {σ : L2.St} {ns : List Int} {n : Int} {tz tn : TE} {Q : VK} (hz : ∀ Q', (∀ s H, Same H0 H → H s = some (.lst (ns.map V.int)) → Q' (.ref s) H) → tz σ H0 Q') (g : Good ns) (n1 : 1 ≤ n) (n2 : n ≤ 1000000000000)
    (hn : ∀ H' Q', Same H0 H' → Q' (.int n) H' → tn σ H' Q')
    (q : ∀ y zp bl dx dz l H', Same H0 H' → Ly K H' y zp bl dx [] ns n [] → H0 y = none → H0 bl = none → H' zp = some (.ins (He.ga K "Sizes") dz (szF l)) → H' l = some (.lst (ns.map V.int)) → H0 l = none → Q (.ref y) H') :
    tMake (He.ga K "Layout") (spNew K) [] E0 (tCons (tMake (He.ga K "Sizes") (spMade K) [] E0 (tCons tz tNil)) (tCons tn tNil)) σ H0 Q := by
  refine hz _ fun s H s0 hs => ?_
  intro x dz hx hdz ndz
  have e1 : (upd (upd H dz (.own x)) x (.ins (He.ga K "Sizes") dz [])) s = some (.lst (ns.map V.int)) := by
    rw [upd_ne (ne_of_none hs hx), upd_ne (ne_of_none hs hdz)]
    exact hs
  refine ⟨x, dz, s, ns, rfl, upd_same, SqL.of e1, .base (.lst e1), g, fun l hl => ⟨rfl, ?_⟩⟩
  have nxl : x ≠ l := ne_of_none upd_same hl
  have ndl : dz ≠ l := fun z => by
    rw [← z, upd_ne ndz, upd_same] at hl
    cases hl
  have l0 : H l = none := by
    rw [upd_ne nxl.symm, upd_ne ndl.symm] at hl
    exact hl
  have kp1 : ∀ {c : Addr} {o : HO}, H c = some o → (upd (upd (upd (upd H dz (.own x)) x (.ins (He.ga K "Sizes") dz [])) l (.lst (ns.map V.int))) x (.ins (He.ga K "Sizes") dz (szF l))) c = some o := fun {c o} e => by
    rw [upd_ne (ne_of_none e hx), upd_ne (ne_of_none e l0), upd_ne (ne_of_none e hx), upd_ne (ne_of_none e hdz)]
    exact e
  have hx1 : (upd (upd (upd (upd H dz (.own x)) x (.ins (He.ga K "Sizes") dz [])) l (.lst (ns.map V.int))) x (.ins (He.ga K "Sizes") dz (szF l))) x = some (.ins (He.ga K "Sizes") dz (szF l)) := upd_same
  have hl1 : (upd (upd (upd (upd H dz (.own x)) x (.ins (He.ga K "Sizes") dz [])) l (.lst (ns.map V.int))) x (.ins (He.ga K "Sizes") dz (szF l))) l = some (.lst (ns.map V.int)) := by rw [upd_ne nxl.symm, upd_same]
  generalize upd (upd (upd (upd H dz (.own x)) x (.ins (He.ga K "Sizes") dz [])) l (.lst (ns.map V.int))) x (.ins (He.ga K "Sizes") dz (szF l)) = H1 at kp1 hx1 hl1
  refine hn _ _ (fun c o e => kp1 (s0 _ _ e)) ?_
  intro y dx hy hdx ndx
  have kp2 : ∀ {c : Addr} {o : HO}, H1 c = some o → (upd (upd H1 dx (.own y)) y (.ins (He.ga K "Layout") dx [])) c = some o := fun {c o} e => by
    rw [upd_ne (ne_of_none e hy), upd_ne (ne_of_none e hdx)]
    exact e
  have free : ∀ {c : Addr}, (upd (upd H1 dx (.own y)) y (.ins (He.ga K "Layout") dx [])) c = none → H c = none := fun {c} e => by
    cases e2 : H c with
    | none => rfl
    | some o => exact nomatch (kp2 (kp1 e2)).symm.trans e
  have y0 : H y = none := by
    cases e2 : H y with
    | none => rfl
    | some o => exact nomatch (kp1 e2).symm.trans hy
  refine ⟨y, x, dx, ns, n, rfl, upd_same, ⟨dz, l, kp2 hx1, kp2 hl1⟩, g, n1, n2, fun bl H' hbl keep L => ⟨rfl, ?_⟩⟩
  have bl0 := free hbl
  have sm : Same H H' := fun c o e => keep c o (ne_of_none e y0) (kp2 (kp1 e))
  exact q y x bl dx dz l H' (s0.trans sm) L (s0.free y0) (s0.free bl0) (keep x _ (ne_of_none hx1 hy) (kp2 hx1)) (keep l _ (ne_of_none hl1 hy) (kp2 hl1)) (s0.free l0)
def odds (t l : Addr) : List V := [.bl true, .bl false, .non, .str "0", .ref t, .ref l, .int (-1), .int 4]
def twoB : List Blk := [(0, 0, false), (1, 0, true)]
theorem good12 : Good [1, 2] := good_more (ns := [1]) (x := 1) (k := 2) good_one (by decide) rfl (by decide) (by decide)
theorem odd_at {K : PySem.W.Frag} {G : Hp} {t l : Addr} {i : Nat} {v : V} (ht : G t = some (.tup [.int 0])) (hl : G l = some (.lst [.int 1])) (hi : (odds t l)[i]? = some v) :
    ∃ d, Any G v ∧ Tq K G v d 3 100 ∧ (∀ b ∈ twoB, v ≠ .int b.1) ∧ atB 4 v = false ∧ regB [1, 2] 0 4 v = false ∧ PyData.strOk (oddD 0 d).shown = true ∧ PyData.strOk (oddD 2 d).shown = true := by
  have b40 : (10 : Int) ^ 39 = 1000000000000000000000000000000000000000 := by decide
  have nb : ∀ {u : V}, (u ≠ .int 0) → (u ≠ .int 1) → ∀ b ∈ twoB, u ≠ .int b.1 := fun {u} h0 h1 b hb => by
    rcases List.mem_cons.mp hb with z | z
    · rw [z]; exact h0
    · rw [List.mem_singleton.mp z]; exact h1
  match i, hi with
  | 0, hi => obtain rfl := Option.some.inj hi; exact ⟨.bool true, .bl _, (tq_bl true).mono (by decide) (by decide), nb nofun nofun, rfl, rfl, by decide +kernel, by decide +kernel⟩
  | 1, hi => obtain rfl := Option.some.inj hi; exact ⟨.bool false, .bl _, (tq_bl false).mono (by decide) (by decide), nb nofun nofun, rfl, rfl, by decide +kernel, by decide +kernel⟩
  | 2, hi => obtain rfl := Option.some.inj hi; exact ⟨.none, .non, tq_non.mono (by decide) (by decide), nb nofun nofun, rfl, rfl, by decide +kernel, by decide +kernel⟩
  | 3, hi => obtain rfl := Option.some.inj hi; exact ⟨.str "0", .str _, (tq_text "0" (by decide +kernel)).mono (by decide) (by decide), nb nofun nofun, rfl, rfl, by decide +kernel, by decide +kernel⟩
  | 4, hi => obtain rfl := Option.some.inj hi; exact ⟨.tuple [.int 0], .tup ht, ((tqa_cons (tq_int (by omega) (by omega)) tqa_nil).tup ht).mono (by decide) (by decide), nb nofun nofun, rfl, rfl, by decide +kernel, by decide +kernel⟩
  | 5, hi => obtain rfl := Option.some.inj hi; exact ⟨.list [.int 1], .lst hl, ((tqa_cons (tq_int (by omega) (by omega)) tqa_nil).lst hl).mono (by decide) (by decide), nb nofun nofun, rfl, rfl, by decide +kernel, by decide +kernel⟩
  | 6, hi => obtain rfl := Option.some.inj hi; exact ⟨.int (-1), .int _, (tq_int (by omega) (by omega)).mono (by decide) (by decide), nb (fun z => nomatch z) (fun z => nomatch z), by decide +kernel, by decide +kernel, by decide +kernel, by decide +kernel⟩
  | 7, hi => obtain rfl := Option.some.inj hi; exact ⟨.int 4, .int _, (tq_int (by omega) (by omega)).mono (by decide) (by decide), nb (fun z => nomatch z) (fun z => nomatch z), by decide +kernel, by decide +kernel, by decide +kernel, by decide +kernel⟩
  | i + 8, hi => cases hi
end K21

set_option Elab.async false
set_option linter.all false
set_option maxRecDepth 100000
set_option maxHeartbeats 400000
set_option pp.maxSteps 900
namespace K21
open PySem PySem.Spec PyProof.Rows L2 Gu Ex
theorem below0 {a : Int} {i : Nat} (h : Below [] a i) : i = 0 := Nat.le_zero.mp h.1
theorem at_st {u : TS} {D : Ends} {σ σ' : List (Option V)} {H : Hp} (e : σ = σ') (h : u D σ' H) : u D σ H := e ▸ h
section
variable {P : Program} {w : World} {K : PySem.W.Frag} {mg : Str → Option Value} {base : Heap} {f : Addr} {fd : FuncData}
def spBools : Sp := fun vs H Q _ => vs = [] ∧ ∀ H', Q (.bl true) H'
theorem sc__law_bools_right : FnScope ["_law_layout", "_law_odd", "_law_told", "_law_due", "_law_way"] [] (defScope (top 36)) := ⟨rfl, rfl, rfl, by decide +kernel, rfl, by decide +kernel, by decide +kernel⟩
theorem ok_bools (T : Tx K mg) (D_Sizes : Kf P w K mg base 4 "Sizes" ["self", "values"] (spMade K)) (D_Layout : Kf P w K mg base 4 "Layout" ["self", "sizes", "length"] (spNew K)) (M_put_d : MfXD P w K mg base 9 "Layout" "put" ["self", "level", "address", "pinned"] [.bl false] (spPut K))
    (M_put_p : MfKX P w K mg base 9 "Layout" "put" ["self", "level", "address", "pinned"] 3 ["pinned"] (spPut K)) (D__law_odd_told : DfG P w K mg base 10 "_law_odd_told" ["_law_layout", "_law_way", "_law_odd"] (spOdd K)) (M_blocks : Mf P w K mg base 1 "Layout" "blocks" ["self"] (spBlk K))
    (F : FnP K "_law_bools_right" "_law_bools_right" (top 36) f fd) : FnG P w K mg base CX0 11 f fd [] spBools := by
  refine okG F sc__law_bools_right (fun vs H Q E h => ?_) (fun cdv A outer s H vs Q E hr h => ⟨_, PSs.nox (pss_cons (ps_set (i := 0) sc__law_bools_right.nd rfl (by first | exact Or.inl rfl | exact Or.inr rfl) (pmake D_Layout hr.r (pa_cons (pmake D_Sizes hr.r (pa_cons (pe_lst (pa_cons pe_int (pa_cons pe_int pa_nil))) pa_nil)) (pa_cons pe_int pa_nil)))) (pss_cons (ps_expr (pmethXD M_put_d hr.r passN (pv 0) (pa_cons pe_int (pa_cons pe_int pa_nil)))) (pss_cons (ps_expr (pmethKX M_put_p hr.r passN (pv 0) (pa_cons pe_int (pa_cons pe_int pa_nil)) (pk_cons pe_bl pk_nil))) (pss_cons (ps_for PassesOwn.never rfl (pi_list (pe_lst (pa_cons pe_bl (pa_cons pe_bl (pa_cons pe_non (pa_cons pe_str (pa_cons (pe_tup (pa_cons pe_int pa_nil)) (pa_cons (pe_lst (pa_cons pe_int pa_nil)) (pa_cons (pe_un un_neg pe_int) (pa_cons pe_int pa_nil)))))))))) (pg_name (i := 1) sc__law_bools_right.nd rfl (by first | exact Or.inl rfl | exact Or.inr rfl)) (pss_cons (ps_setLc (i := 2) (own := [("_law_way", 4)]) (g := gName 4) rfl sc__law_bools_right.nd rfl rfl (sw_true rfl rfl rfl (by decide +kernel)) (pi_range1 rfl T.n_range (pa_cons pe_int pa_nil)) (blkOk_by (own := [("_law_way", 4)]) (N := ["_law_layout", "_law_odd", "_law_told", "_law_due", "_law_way"]) (sc := defScope (top 36)) (by decide +kernel)) (fun _ _ _ _ _ => pg_name (i := 4) sc__law_bools_right.nd rfl (Or.inl rfl)) (fun _ _ _ _ _ => pts_nil) (fun _ _ _ _ _ => (pcallG D__law_odd_told hr (pa_cons (pv 0) (pa_cons (pv 4) (pa_cons (pv 1) pa_nil)))))) (pss_cons (ps_set (i := 3) sc__law_bools_right.nd rfl (by first | exact Or.inl rfl | exact Or.inr rfl) (pe_op op_cat (pe_op op_rep (pe_lst (pa_cons (pe_callB (call_reprQ hr T.sys) (by rfl) T.n_repr (by decide +kernel) (pa_cons (pe_lst (pa_cons pe_str (pa_cons (pv 1) (pa_cons pe_bl pa_nil)))) pa_nil)) pa_nil)) pe_int) (pe_op op_rep (pe_lst (pa_cons (pe_callB (call_reprQ hr T.sys) (by rfl) T.n_repr (by decide +kernel) (pa_cons (pe_lst (pa_cons pe_str (pa_cons (pv 1) (pa_cons pe_bl pa_nil)))) pa_nil)) pa_nil)) pe_int))) (pss_one (ps_if (PW.pt (pw_or (pt_cmpR (op_neD hr.r.units) (pv 2) (pv 3) (nomark _)) (pw_or1 (pt_cmpR op_ne (pe_callB (call_reprQ hr T.sys) (by rfl) T.n_repr (by decide +kernel) (pa_cons (pmeth0 M_blocks hr.r (pv 0)) pa_nil)) pe_str (nomark _))))) (pss_one (ps_ret pe_bl)) pss_nil))))) (pss_one (ps_ret pe_bl)))))), ?_⟩)
  · obtain ⟨rfl, _⟩ := h
    rfl
  · obtain ⟨rfl, q⟩ := h
    have sl : sizeLine = 16777216 := sizeLine_eq
    refine go_asg ?_
    refine mk_lay (ns := [1, 2]) (n := 4) (fun Q' k => ⟨(by show 2 ≤ sizeLine; decide), fun s0 h0 => k s0 _ (same_upd h0) upd_same⟩) good12 (by decide) (by decide) (fun H' Q' _ k => k) (fun y zp bl dx dz l H1 s1 L1 y0 b0 hz hl l0 => ?_)
    refine at_st (σ' := [some (.ref y), none, none, none, none]) rfl ?_
    refine ⟨_, rfl, y, dx, _, rfl, L1.at_, lay_nm (by decide +kernel), ?_⟩
    refine ⟨y, zp, bl, dx, [], [1, 2], 4, [], 0, false, .int 0, rfl, L1, by decide, by decide, .int 0, fun a ea er fr i ps' H2 hi L2 b2 => ?_, fun a t ea er tk => ?_, fun er => ?_⟩
    · obtain rfl := V.int.inj ea
      obtain rfl := below0 hi
      replace L2 : Ly K H2 y zp bl dx ps' [1, 2] 4 [(0, 0, false)] := L2
      refine ⟨_, rfl, y, dx, _, rfl, L2.at_, lay_nm (by decide +kernel), rfl, rfl, ?_⟩
      refine ⟨y, zp, bl, dx, ps', [1, 2], 4, [(0, 0, false)], 0, true, .int 1, rfl, L2, (by show 1 < 900; decide), by decide, .int 1, fun a ea er fr i ps3 H3 hi L3 b3 => ?_, fun a t ea er tk => ?_, fun er => ?_⟩
      · obtain rfl := V.int.inj ea
        obtain rfl : i = 1 := by
          have h1 : i ≤ 1 := hi.1
          have h2 := (hi.2 0 (0, 0, false) rfl).mpr (by decide)
          omega
        replace L3 : Ly K H3 y zp bl dx ps3 [1, 2] 4 twoB := L3
        refine ⟨Nat.le_of_ble_eq_true rfl, fun t ht => ⟨Nat.le_of_ble_eq_true rfl, fun l1 hl1 => ⟨_, rfl, ?_⟩⟩⟩
        have s1 := same_upd (o := .tup [.int 0]) ht
        have ht1 : (upd H3 t (.tup [.int 0])) t = some (.tup [.int 0]) := upd_same
        generalize upd H3 t (.tup [.int 0]) = G1 at s1 ht1 hl1
        have s2 := same_upd (o := .lst [.int 1]) hl1
        have hl2 : (upd G1 l1 (.lst [.int 1])) l1 = some (.lst [.int 1]) := upd_same
        have ht2 := s2 _ _ ht1
        have L4 := (L3.same s1).same s2
        generalize upd G1 l1 (.lst [.int 1]) = G2 at hl2 ht2 L4
        clear s1 s2 ht1 hl1 L3 L2 L1
        refine ⟨Nat.le_of_ble_eq_true rfl, fun p hp => ?_⟩
        refine ⟨p, rfl, ⟨_, SqL.of upd_same⟩, ?_⟩
        have s3 := same_upd (o := .lst (odds t l1)) hp
        have hp3 : (upd G2 p (.lst (odds t l1))) p = some (.lst (odds t l1)) := upd_same
        show ∃ W : Nat → Nat → L2.St → Hp → Prop, (∃ m, W 0 m [some (.ref y), none, none, none, none] (upd G2 p (.lst (odds t l1)))) ∧ _
        generalize upd G2 p (.lst (odds t l1)) = G3 at s3 hp3
        have L5 := L4.same s3
        have ht3 := s3 _ _ ht2
        have hl3 := s3 _ _ hl2
        refine for_list (K := K) (a := p) (xs := odds t l1) (fun i σ G => (∃ x1 x2 x3 x4, σ = [some (.ref y), x1, x2, x3, x4]) ∧ Same G3 G) ⟨⟨_, _, _, _, rfl⟩, Same.refl _⟩ (fun i σ G _ h => SqL.of (h.2 _ _ hp3)) ?_ ?_
        · rintro i v σ G hv ⟨⟨x1, x2, x3, x4, rfl⟩, sm⟩
          have ht4 := sm _ _ ht3
          have hl4 := sm _ _ hl3
          obtain ⟨d, av, tq, nb, na, nr, ok0, ok2⟩ := odd_at (K := K) ht4 hl4 hv
          have L6 := L5.same sm
          refine go_nm (go_asg ?_)
          refine ⟨4, rfl, by decide, by decide, fun D hD => ?_⟩
          refine lc_range (fun i G' => G' D = some (.lst ((List.range i).map fun k => V.str (oddD (k : Nat) d).shown)) ∧ Same G G') ⟨upd_same, same_upd hD⟩ ?_ ?_
          · rintro k G' hk ⟨e1, e2⟩
            have hk2 : k < 4 := hk
            refine ⟨rfl, _, rfl, _, rfl, _, rfl, ?_⟩
            refine ⟨y, zp, bl, dx, ps3, [1, 2], 4, twoB, (0 + (k : Int)), v, d, rfl, by omega, L6.same e2, (by show 2 < 900; decide), av.same e2, tq.same e2, nb, na, nr, fun G5 s5 => ?_⟩
            rw [Int.zero_add]
            refine ⟨_, s5 _ _ e1, small1000 (by rw [List.length_map, List.length_range]; omega), ?_, fun b' o' e' => ?_⟩
            · rw [upd_same, List.range_succ, List.map_append]
              rfl
            · rw [upd_ne (ne_of_none e' hD)]
              exact s5 _ _ (e2 b' o' e')
          · rintro G' ⟨e1, e2⟩
            refine at_st (σ' := [some (.ref y), some v, some (.ref D), x3, x4]) rfl (go_asg ?_)
            have tell : ∀ {Z : Hp} {z : Addr} (wd : Str), Same G' Z → (reprText wd).length ≤ 41 → Z z = some (.lst [.str wd, v, .bl true]) → Tq K Z (.ref z) (.list [.str wd, d, .bool true]) 4 400 := fun {Z z} wd sz hw e =>
              ((tqa_cons (n := 3) (m := 100) ((show Tq K Z (.str wd) (.str wd) 0 41 from ⟨.str _, rfl, Nat.le_refl _, hw⟩).mono (by decide) (by decide)) (tqa_cons ((tq.same e2).same sz) (tqa_cons ((tq_bl true).mono (by decide) (by decide)) tqa_nil))).lst e).mono (by decide) (by show 3 * (100 + 2) + 3 ≤ 400; decide)
            have wU : (reprText ("unknown" : Str)).length ≤ 41 := by decide +kernel
            have wA : (reprText ("address" : Str)).length ≤ 41 := by decide +kernel
            have e1' : G' D = some (.lst [.str (oddD 0 d).shown, .str (oddD 0 d).shown, .str (oddD 2 d).shown, .str (oddD 2 d).shown]) := e1
            refine ⟨_, rfl, (by show 3 ≤ sizeLine; decide), fun a1 ha1 => ?_⟩
            have s1 := same_upd (o := .lst [.str "unknown", v, .bl true]) ha1
            have tqU : Tq K (upd G' a1 (.lst [.str "unknown", v, .bl true])) (.ref a1) (oddD 0 d) 4 400 := tell "unknown" s1 wU upd_same
            generalize upd G' a1 (.lst [.str "unknown", v, .bl true]) = Z1 at s1 tqU
            refine ⟨_, _, rfl, tqU.dq, tqU.sh, Nat.le_trans tqU.dp (by decide), Nat.le_trans tqU.ln (by decide), Nat.le_of_ble_eq_true rfl, fun a2 ha2 => ?_⟩
            have s2 := s1.trans (same_upd (o := .lst [.str (oddD 0 d).shown]) ha2)
            have h2 : (upd Z1 a2 (.lst [.str (oddD 0 d).shown])) a2 = some (.lst [.str (oddD 0 d).shown]) := upd_same
            generalize upd Z1 a2 (.lst [.str (oddD 0 d).shown]) = Z2 at s2 h2
            refine ⟨a2, 2, _, rfl, rfl, h2, by decide, by decide, (by show 1 * 2 ≤ sizeLine; decide), fun a3 ha3 => ?_⟩
            have s3 := s2.trans (same_upd (o := .lst [.str (oddD 0 d).shown, .str (oddD 0 d).shown]) ha3)
            have h3 : (upd Z2 a3 (.lst [.str (oddD 0 d).shown, .str (oddD 0 d).shown])) a3 = some (.lst [.str (oddD 0 d).shown, .str (oddD 0 d).shown]) := upd_same
            refine ⟨_, rfl, (by show 3 ≤ sizeLine; decide), fun a4 ha4 => ?_⟩
            have k4 := same_upd (o := .lst [.str "address", v, .bl true]) ha4
            have tqA : Tq K (upd (upd Z2 a3 (.lst [.str (oddD 0 d).shown, .str (oddD 0 d).shown])) a4 (.lst [.str "address", v, .bl true])) (.ref a4) (oddD 2 d) 4 400 := tell "address" (s3.trans k4) wA upd_same
            refine ⟨_, _, rfl, tqA.dq, tqA.sh, Nat.le_trans tqA.dp (by decide), Nat.le_trans tqA.ln (by decide), Nat.le_of_ble_eq_true rfl, fun a5 ha5 => ?_⟩
            have k5 := k4.trans (same_upd (o := .lst [.str (oddD 2 d).shown]) ha5)
            refine ⟨a5, 2, _, rfl, rfl, upd_same, by decide, by decide, (by show 1 * 2 ≤ sizeLine; decide), fun a6 ha6 => ?_⟩
            have k6 := k5.trans (same_upd (o := .lst [.str (oddD 2 d).shown, .str (oddD 2 d).shown]) ha6)
            refine ⟨a3, a6, _, _, rfl, rfl, k6 _ _ h3, upd_same, (by show 4 ≤ sizeLine; decide), fun a7 ha7 => ?_⟩
            have s7 := s3.trans (k6.trans (same_upd (o := .lst [.str (oddD 0 d).shown, .str (oddD 0 d).shown, .str (oddD 2 d).shown, .str (oddD 2 d).shown]) ha7))
            have cl : PyData.canLay0 (.list [.str (oddD 0 d).shown, .str (oddD 0 d).shown, .str (oddD 2 d).shown, .str (oddD 2 d).shown]) = true := by
              simp only [PyData.canLay0, PyData.canLayAll0, ok0, ok2, Bool.and_self]
            have shp : SeqAt.shaped (.list [.str (oddD 0 d).shown, .str (oddD 0 d).shown, .str (oddD 2 d).shown, .str (oddD 2 d).shown]) = true := by
              unfold SeqAt.shaped
              rw [cl]
              rfl
            have ev := SeqAt.eqv_refl _ cl
            have dps : ∀ {Z : Hp}, DpAll K Z [.str (oddD 0 d).shown, .str (oddD 0 d).shown, .str (oddD 2 d).shown, .str (oddD 2 d).shown] [.str (oddD 0 d).shown, .str (oddD 0 d).shown, .str (oddD 2 d).shown, .str (oddD 2 d).shown] := .cons (.str _) (.cons (.str _) (.cons (.str _) (.cons (.str _) .nil)))
            have hD7 := s7 _ _ e1'
            have ge : ∀ Z : Hp, (upd Z a7 (.lst [.str (oddD 0 d).shown, .str (oddD 0 d).shown, .str (oddD 2 d).shown, .str (oddD 2 d).shown])) a7 = some (.lst [.str (oddD 0 d).shown, .str (oddD 0 d).shown, .str (oddD 2 d).shown, .str (oddD 2 d).shown]) := fun Z => upd_same
            refine ⟨_, rfl, _, rfl, _, _, .lst (SqL.of hD7) dps, .lst (SqL.of (ge _)) dps, shp, shp, _, rfl, ifF (by rw [ev]; rfl) ?_⟩
            have L7 := (L6.same e2).same s7
            refine ⟨_, rfl, y, dx, _, rfl, L7.at_, lay_nm (by decide +kernel), y, zp, bl, dx, ps3, [1, 2], 4, twoB, rfl, L7, fun m hm => ?_⟩
            have s8 := s7.trans (same_upd (o := .lst (ps3.map V.ref)) hm)
            have L8 := L7.same (same_upd (o := .lst (ps3.map V.ref)) hm)
            have tqB := blks_tq (K := K) L8.rf (wf_in L8.wf L8.gd L8.n2) (by decide) upd_same
            refine ⟨_, _, rfl, tqB.dq, tqB.sh, Nat.le_trans tqB.dp (by decide), Nat.le_trans tqB.ln (by decide), ?_⟩
            have eq0 : (PyData.list (twoB.map blkD)).shown = "[(0, 0, False), (1, 0, True)]" := by decide +kernel
            rw [eq0]
            refine ⟨rfl, _, rfl, ifF (congrArg not (decide_eq_true rfl)) ⟨⟨_, _, _, _, rfl⟩, (sm.trans (e2.trans s8))⟩⟩
        · rintro σ G ⟨⟨x1, x2, x3, x4, rfl⟩, sm⟩
          exact q _
      · obtain rfl := V.int.inj ea
        exact (tk.nf (fun b hb => by
          rw [List.mem_singleton.mp hb]
          exact .inl (by decide +kernel))).elim
      · cases (show regB [1, 2] 0 4 (.int 1) = true by decide +kernel).symm.trans er
    · obtain rfl := V.int.inj ea
      exact (tk.nf (fun b hb => nomatch hb)).elim
    · cases (show regB [1, 2] 0 4 (.int 0) = true by decide +kernel).symm.trans er
end
end K21

set_option Elab.async false
set_option linter.all false
set_option maxRecDepth 100000
set_option maxHeartbeats 4000000
/-! xs == [] -/
namespace L2
open PySem PySem.Spec PyProof.Rows
section
variable {X : Cx}
def rEqNil (K : PySem.W.Frag) : R2 := fun x y H Q => ∃ a b xs, x = .ref a ∧ y = .ref b ∧ SqL K H a xs ∧ SqL K H b [] ∧ Q (.bl (decide (xs.length = 0))) H
theorem op_eqNil (hu : X.A.units + 64 < cLine) : OpR X (compareOp .Eq) (rEqNil X.K) := by
  intro pins s σ H x y v u Q I rx ry h
  obtain ⟨a, b, xs, rfl, rfl, ha, hb, q⟩ := h
  cases rx
  cases ry
  obtain ⟨us, r1, p1, _⟩ := I.list ha
  obtain ⟨ws, r2, p2, _⟩ := I.list hb
  cases r2
  have hl := r1.length
  by_cases hz : xs.length = 0
  · rw [decide_eq_true hz] at q
    have hs : us.toArray.size = (#[] : Array Value).size := by rw [List.size_toArray, ← hl, hz]; rfl
    refine SeqAt.eq_listAt (e := fun _ => true) p1.isList p2.isList hs (by omega) (fun j h1 h2 => absurd h2 (Nat.not_lt_zero j)) ?_
    rw [show ((List.range us.toArray.size).all fun _ => true) = true from List.all_eq_true.mpr fun _ _ => rfl]
    exact ⟨.bl true, H, I, rfl, q⟩
  · rw [decide_eq_false hz] at q
    refine SeqAt.eq_list_lengthsAt p1.isList p2.isList ?_ (by omega) ⟨.bl false, H, I, rfl, q⟩
    have : us.toArray.size ≠ 0 := by rw [List.size_toArray, ← hl]; exact hz
    simpa using this
end
end L2

set_option Elab.async false
set_option linter.all false
set_option maxRecDepth 100000
set_option maxHeartbeats 4000000
/-! Own layer: classmethods by their names (also in a try's body, also by keywords), making an object through a local name or by keywords. -/
namespace Ex
open PySem PySem.Spec PySem.Calls PyProof.Rows L2 Gu
theorem fnR_of {P : Program} {w : World} {K : PySem.W.Frag} {mg : Str → Option Value} {base : Heap} {CX : CXT} {k : Nat} {f : Addr} {fd : FuncData} {ps : List Str} {sp : Sp} (F : FnOk P w K mg base CX k f fd ps sp) (b : Binds K fd ps []) : FnR P w K mg base CX k f sp :=
  fun A outer s H us vs Q E hr e0 rv h => by
    have hl := F.len _ _ _ _ h
    have KX : K.In s.heap := e0.mod.kin.keeps fun b o e => (e0.bs b o e).1
    have z := b s us KX (by rw [List.append_nil, ← rv.length]; exact hl)
    rw [List.append_nil] at z
    exact F.run A outer s H ⟨us, []⟩ us vs Q E hr e0 z rv h
/-- the classmethod m of the class c -/
structure Cm (P : Program) (w : World) (K : PySem.W.Frag) (mg : Str → Option Value) (base : Heap) (CX : CXT) (k : Nat) (c m : Str) (ps : List Str) (sp : Sp) : Prop where
  rd : ClX.CRead K (He.ga K c) (.type "type")
  ex : ∃ (p g : Addr) (fd : FuncData), ClX.CMet K (He.ga K c) (.type "type") m p g ∧ FnOk P w K mg base CX k g fd ps sp ∧ Binds K fd ps []
def tCMethT (C : Addr) (sp : Sp) (E : L2.St → XK) (ta : TE) (t : TA) : TE := fun σ H Q => ta σ H fun x H1 => x = .ref C ∧ t σ H1 fun vs H2 => sp (.ref C :: vs) H2 Q (E σ)
section
variable {X : Cx} {k j i : Nat} {c m x : Str} {ps : List Str} {sp : Sp} {p pos apos : Pos} {o e : Expr} {es : List Expr} {kws : List Keyword} {t : TA} {ta : TE} {W : WX} {E : XK} {pl : Sem Bool}
open ClX in
theorem pcmT (D : Cm X.prog X.w X.K X.mg X.base (L2.CX X.prog X.w) k c m ps sp) (hr : Room j X.A) (tk : Takes X W) (he : PE X o ta) (ha : PA X (e :: es) t) (hj : k ≤ j := by decide)
    (hst : starEach (e :: es) X.env = (false, eval e X.env) :: starEach es X.env := by rfl) (hpl : (backTo pos (starEach es X.env)).any (·.1) = false := by rfl)
    (ht : eval (.Call (.Attribute o m apos) (e :: es) [] pos) X.env = (do
      let ov ← eval o X.env
      standAt apos.atName
      let (f, first) ← holding [ov] (getMethod ov m pl)
      callWith pos f first (backTo pos (starEach (e :: es) X.env)) (backToKw pos (keywordEach [] X.env))) := by rfl) :
    PE X (.Call (.Attribute o m apos) (e :: es) [] pos) (tCMethT (He.ga X.K c) sp (WE W) ta t) := by
  obtain ⟨pa, g, fd, cm, F, b⟩ := D.ex
  have R := fnR_of F b
  refine ⟨fun pins s σ H Q I h => ?_⟩
  refine PySem.W.methodCall_KW (pl := pl) (thn (he.run pins s σ H _ I h) fun u s1 ⟨x, H1, I1, rx, ex, q⟩ => ?_) ht
  subst ex
  obtain rfl : u = Value.ref (He.ga X.K c) := rx
  refine getmethcm_ok I1 D.rd cm fun s2 I2 => ?_
  refine callwith_cm I2 (base_none I1 (Nat.le_refl _)) cm.fi (thn (ha.run pos _ s2 σ H1 _ I2 q) fun us s3 ⟨vs, H2, I3, rv, q2⟩ => ⟨⟨pin_at I3, I3.kIn⟩, ?_⟩) hst hpl
  have z : wpAny (model X.prog X.w) X.A (call (.ref s1.heap.objs.size) us) (EP X ((s1.heap.objs.size, PySem.W.methodObj (.ref g) (.ref (He.ga X.K c))) :: pins) σ Q) X.xe s3 := by
    refine wpAny_call (PySem.W.method_call (pin_at I3) (codeAny_mono (R X.A X.stack s3 H2 (.ref (He.ga X.K c) :: us) (.ref (He.ga X.K c) :: vs) Q (WE W σ) (hr.mono hj) I3.env0 (.cons rfl rv) q2) fun r s' hq => ?_))
    match r, hq with
    | .error e, hq => exact passAt tk σ _ H2 s3 e s' I3 hq
    | .ok (.ret v), hq => exact I3.after hq
  exact thn z fun _ _ y => unpinE y
theorem pcm (D : Cm X.prog X.w X.K X.mg X.base (L2.CX X.prog X.w) k c m ps sp) (hr : Room j X.A) (hx : Passes (L2.CX X.prog X.w) X E) (he : PE X o ta) (ha : PA X (e :: es) t) (hj : k ≤ j := by decide)
    (hst : starEach (e :: es) X.env = (false, eval e X.env) :: starEach es X.env := by rfl) (hpl : (backTo pos (starEach es X.env)).any (·.1) = false := by rfl)
    (ht : eval (.Call (.Attribute o m apos) (e :: es) [] pos) X.env = (do
      let ov ← eval o X.env
      standAt apos.atName
      let (f, first) ← holding [ov] (getMethod ov m pl)
      callWith pos f first (backTo pos (starEach (e :: es) X.env)) (backToKw pos (keywordEach [] X.env))) := by rfl) :
    PE X (.Call (.Attribute o m apos) (e :: es) [] pos) (ClX.tCMeth (He.ga X.K c) sp E ta t) := by
  obtain ⟨pa, g, fd, cm, F, b⟩ := D.ex
  exact ClX.pe_cmeth he D.rd cm (fnR_of F b) (hr.mono hj) hx ha hst hpl ht
/-- C(e, ..), C in a local slot, its __init__ may raise -/
def tMakeL (i : Nat) (C : Addr) (sp : Sp) (E : L2.St → XK) (t : TA) : TE := fun σ H Q => σ[i]? = some (some (.ref C)) ∧ t σ H fun vs H1 => ∀ x dx, H1 x = none → H1 dx = none → dx ≠ x →
  sp (.ref x :: vs) (upd (upd H1 dx (.own x)) x (.ins C dx [])) (fun v H2 => v = .non ∧ Q (.ref x) H2) (E σ)
structure KfX (P : Program) (w : World) (K : PySem.W.Frag) (mg : Str → Option Value) (base : Heap) (CX : CXT) (k : Nat) (c : Str) (ps : List Str) (sp : Sp) : Prop where
  ex : ∃ fd, FnOk P w K mg base CX k (He.ma K (He.ga K c) "__init__") fd ps sp ∧ Binds K fd ps []
  gl : mg c = some (.ref (He.ga K c))
  mkr : Mk K (He.ga K c) (He.ma K (He.ga K c) "__init__")
def tMakeT (C : Addr) (sp : Sp) (E : L2.St → XK) (t : TA) : TE := fun σ H Q => t σ H fun vs H1 => ∀ x dx, H1 x = none → H1 dx = none → dx ≠ x →
  sp (.ref x :: vs) (upd (upd H1 dx (.own x)) x (.ins C dx [])) (fun v H2 => v = .non ∧ Q (.ref x) H2) (E σ)
theorem run_makeT {pins : List (Addr × Obj)} {σ : L2.St} {H1 : Hp} {s1 : Shared} {Q : VK} {us : List Value} {vs : List V} {CX : CXT} {E : L2.St → XK} (D : KfX X.prog X.w X.K X.mg X.base CX k c ps sp) (hr : Room j X.A) (hx : PassesAt CX X σ (E σ)) (hj : k + 1 ≤ j) (I1 : Inv X pins σ H1 s1) (r : Vals vs us)
    (q : ∀ x dx, H1 x = none → H1 dx = none → dx ≠ x → sp (.ref x :: vs) (upd (upd H1 dx (.own x)) x (.ins (He.ga X.K c) dx [])) (fun v H2 => v = .non ∧ Q (.ref x) H2) (E σ)) :
    wpAny (model X.prog X.w) X.A (call (.ref (He.ga X.K c)) us) (EP X pins σ Q) X.xe s1 := by
  obtain ⟨fd, F, hb⟩ := D.ex
  have hq := q (s1.heap.objs.size + 1) s1.heap.objs.size (I1.hok.fresh (Nat.le_succ _)) (I1.hok.fresh (Nat.le_refl _)) (Nat.ne_of_lt (Nat.lt_succ_self _))
  have J := Inv.made (C := He.ga X.K c) I1
  have r2 : Vals (V.ref (s1.heap.objs.size + 1) :: vs) (Value.ref (s1.heap.objs.size + 1) :: us) := .cons rfl r
  have hl : ((Value.ref (s1.heap.objs.size + 1) :: us) ++ []).length = ps.length := by
    rw [List.append_nil, ← r2.length]
    exact F.len _ _ _ _ hq
  have hb2 := hb _ (Value.ref (s1.heap.objs.size + 1) :: us) J.kIn hl
  rw [List.append_nil] at hb2
  refine wpAny_call (make_map (f := He.ma X.K (He.ga X.K c) "__init__") I1.kIn D.mkr.makes D.mkr.init (beq_iff_eq.mp D.mkr.fn)
    (codeAny_mono (F.run _ X.stack _ _ ⟨Value.ref (s1.heap.objs.size + 1) :: us, []⟩ _ _ _ _ ((hr.mono hj).make (He.ga X.K c) us []) (J.env0.make (He.ga X.K c) us []) hb2 r2 hq) fun o s' z => ?_))
  match o, z with
  | .error er, z => exact hx pins _ _ er s' J z
  | .ok (.ret u), z =>
    obtain ⟨v, H', I3, rv, ev, q3⟩ := J.after z
    subst ev
    exact ⟨rv, ⟨V.ref (s1.heap.objs.size + 1), H', I3, rfl, q3⟩⟩
theorem pmakeT {CX : CXT} {E : L2.St → XK} (D : KfX X.prog X.w X.K X.mg X.base CX k c ps sp) (hr : Room j X.A) (hx : ∀ σ, PassesAt CX X σ (E σ)) (ha : PA X (e :: es) t) (hj : k + 1 ≤ j := by decide) (hg : Gl X c := by rfl) (hdb : (c == ("__debug__" : Str)) = false := by decide)
    (he : starEach (e :: es) X.env = (false, eval e X.env) :: starEach es X.env := by rfl) (hpl : (backTo pos (starEach es X.env)).any (·.1) = false := by rfl) :
    PE X (.Call (.Name c p) (e :: es) [] pos) (tMakeT (He.ga X.K c) sp E t) :=
  ⟨fun pins s σ H Q I h => wpAny_Call_Name_kw (ld_glob I hg D.gl (PySem.W.callWith_K (h₀ := X.base) I.ok.mod.kin D.mkr.kp
    (thn (ha.run pos pins s σ H _ I h) fun us s1 ⟨vs, H1, I1, r, q⟩ => ⟨I1.kIn, run_makeT D hr (hx σ) hj I1 r q⟩) he hpl) hdb)⟩
theorem pmakeLT {CX : CXT} {E : L2.St → XK} (D : KfX X.prog X.w X.K X.mg X.base CX k c ps sp) (hr : Room j X.A) (hx : ∀ σ, PassesAt CX X σ (E σ)) (hN : X.N[i]? = some x) (hv : Vis X.env.scope x) (ha : PA X (e :: es) t) (hj : k + 1 ≤ j := by decide)
    (hdb : (x == ("__debug__" : Str)) = false := by decide) (hcd : (x == ("__classdict__" : Str)) = false := by decide)
    (he : starEach (e :: es) X.env = (false, eval e X.env) :: starEach es X.env := by rfl) (hpl : (backTo pos (starEach es X.env)).any (·.1) = false := by rfl) :
    PE X (.Call (.Name x p) (e :: es) [] pos) (tMakeL i (He.ga X.K c) sp E t) := by
  refine ⟨fun pins s σ H Q I h => ?_⟩
  obtain ⟨hs, ht⟩ := h
  refine wpAny_Call_Name_kw (thn ((pe_var (pos := p) hN hv hdb hcd).run pins s σ H (fun v H1 => v = .ref (He.ga X.K c) ∧ H1 = H) I ⟨.ref (He.ga X.K c), hs, rfl, rfl⟩) fun u s1 ⟨v, H1, I1, r1, q1⟩ => ?_)
  obtain ⟨rfl, rfl⟩ := q1
  cases r1
  exact PySem.W.callWith_K (h₀ := X.base) I.ok.mod.kin D.mkr.kp (thn (ha.run pos pins s1 σ _ _ I1 ht) fun us s2 ⟨vs, H2, I2, r, q⟩ => ⟨I2.kIn, run_makeT D hr (hx σ) hj I2 r q⟩) he hpl
end
/-- a def by its body, for calls while an exception is handled -/
theorem okH {P : Program} {w : World} {K : PySem.W.Frag} {mg : Str → Option Value} {base : Heap} {CX : CXT} {x qual : Str} {params : Arguments} {body : List Stmt} {scope : Scope} {dvs : List V} {kws : List (Str × V)} {f : Addr} {fd : FuncData} {N ps : List Str} {k : Nat} {sp : Sp}
    (F : FunD K x qual params body scope dvs kws f fd) (S : FnScope N ps scope) (len : ∀ vs H Q E, sp vs H Q E → vs.length = ps.length)
    (hbody : ∀ (cdv : Value) (A : Around) (outer : List Env) (s : Shared) (H : Hp) (vs : List V) (Q : VK) (E : XK) (p : Addr × Obj), L2H.Hot1 A p → L2H.RoomH k (A.deeper (envOfC qual scope s.heap.objs.size f cdv)) → sp vs H Q E →
      ∃ t, PSs (L2H.cxH CX P w K mg base N qual scope f cdv A outer s H E p) body t ∧ t { nx := fun _ H' => Q .non H', rt := Q } (L2.start N vs) H) : L2H.FnH P w K mg base CX (k + 1) f fd ps sp := by
  obtain ⟨oc, od, dV, kV, doc, pm, an, cdv, ct, osl, rfl, lk, hcd, _, _⟩ := F.ex
  exact L2H.fn_ofH lk hcd S len fun A outer s H vs Q E p hot hr hsp => hbody cdv A outer s H vs Q E p hot hr hsp
end Ex

set_option Elab.async false
set_option linter.all false
set_option maxRecDepth 100000
set_option maxHeartbeats 4000000
/-! Own layer: an operator's readings side by side; a promise without exceptions as one with them; classmethods and makers by keywords alone. -/
namespace Ex
open PySem PySem.Spec PySem.Calls PyProof.Rows L2 Gu
theorem op_orR {X : Cx} {op : Value → Value → Sem Value} {r1 r2 : R2} (h1 : OpR X op r1) (h2 : OpR X op r2) : OpR X op (fun x y H Q => r1 x y H Q ∨ r2 x y H Q) := by
  intro pins s σ H x y u v Q I rx ry h
  rcases h with h | h
  · exact h1 pins s σ H x y u v Q I rx ry h
  · exact h2 pins s σ H x y u v Q I rx ry h
theorem FnOk.up {P : Program} {w : World} {K : PySem.W.Frag} {mg : Str → Option Value} {base : Heap} {CX : CXT} {k : Nat} {f : Addr} {fd : FuncData} {ps : List Str} {sp : Sp} (F : FnOk P w K mg base CX0 k f fd ps sp) : FnOk P w K mg base CX k f fd ps sp :=
  ⟨F.len, fun A outer s H args us vs Q E hr he hb hv hs => codeAny_mono (F.run A outer s H args us vs Q E hr he hb hv hs) fun r s' h => by
    cases r with
    | error e => exact h.elim
    | ok fl => cases fl <;> exact h⟩
theorem passNN {X : Cx} : Passes (L2N.CX X.prog X.w) X E0 := fun _ _ _ _ _ _ _ ⟨_, _, _, _, _, _, _, _, _, _, _, _, z⟩ => z.elim
/-- the classmethod m of the class c, called by the keywords ks alone -/
structure CmK (P : Program) (w : World) (K : PySem.W.Frag) (mg : Str → Option Value) (base : Heap) (CX : CXT) (k : Nat) (c m : Str) (ps ks : List Str) (j : List Nat) (sp : Sp) : Prop where
  rd : ClX.CRead K (He.ga K c) (.type "type")
  ex : ∃ (p g : Addr) (fd : FuncData), ClX.CMet K (He.ga K c) (.type "type") m p g ∧ FnOk P w K mg base CX k g fd ps sp ∧ ∀ (s : Shared) (u : Value) (ws : List Value), ws.length = ks.length → BindsTo s fd ⟨[u], ks.zip ws⟩ (ps.zip (u :: j.filterMap fun i => ws[i]?))
def tCMethKw (C : Addr) (sp : Sp) (n : Nat) (j : List Nat) (E : XK) (ta : TE) (tk : TA) : TE := fun σ H Q => ta σ H fun x H1 => x = .ref C ∧ tk σ H1 fun zs H2 => zs.length = n ∧ sp (.ref C :: j.filterMap fun i => zs[i]?) H2 Q E
section
variable {X : Cx} {k j i : Nat} {c m x : Str} {ps ks : List Str} {ji : List Nat} {sp : Sp} {p pos apos : Pos} {o e : Expr} {es : List Expr} {kws : List Keyword} {t tk : TA} {ta : TE} {W : WX} {E : XK} {pl : Sem Bool}
open ClX in
theorem pcmK (D : CmK X.prog X.w X.K X.mg X.base (L2.CX X.prog X.w) k c m ps ks ji sp) (hr : Room j X.A) (hx : Passes (L2.CX X.prog X.w) X E) (he : PE X o ta) (hkw : PK X kws tk) (hj : k ≤ j := by decide)
    (hall : (backToKw pos (keywordEach kws X.env)).all (·.1.isSome) = true := by rfl) (hks : (backToKw pos (keywordEach kws X.env)).filterMap (·.1) = ks := by rfl)
    (hpl : ((backTo pos (starEach [] X.env)).any (·.1) || (backToKw pos (keywordEach kws X.env)).any (·.1.isNone)) = false := by rfl)
    (ht : eval (.Call (.Attribute o m apos) [] kws pos) X.env = (do
      let ov ← eval o X.env
      standAt apos.atName
      let (f, first) ← holding [ov] (getMethod ov m pl)
      callWith pos f first (backTo pos (starEach [] X.env)) (backToKw pos (keywordEach kws X.env))) := by rfl) :
    PE X (.Call (.Attribute o m apos) [] kws pos) (tCMethKw (He.ga X.K c) sp ks.length ji E ta tk) := by
  obtain ⟨pa, g, fd, cm, F, b⟩ := D.ex
  refine ⟨fun pins s σ H Q I h => ?_⟩
  refine PySem.W.methodCall_KW (pl := pl) (thn (he.run pins s σ H _ I h) fun u s1 ⟨x, H1, I1, rx, ex, q⟩ => ?_) ht
  subst ex
  obtain rfl : u = Value.ref (He.ga X.K c) := rx
  refine getmethcm_ok I1 D.rd cm fun s2 I2 => ?_
  have kp := PySem.W.keeps_M (M := model X.prog X.w) (q := s1.heap.objs.size) (self := .ref (He.ga X.K c)) cm.fi
  refine PySem.W.callWith_of (P := PySem.W.MethP X.K s1.heap.objs.size g (.ref (He.ga X.K c))) hpl kp (evalArgs_kw2_nil hall (thn (hkw.run pos _ s2 σ H1 _ I2 q) fun ws s3 ⟨zs, H2, I3, rz, l2, q2⟩ => ⟨⟨pin_at I3, I3.kIn⟩, ?_⟩))
  rw [hks]
  have z : wpAny (model X.prog X.w) X.A (call (.ref s1.heap.objs.size) [] (ks.zip ws)) (EP X ((s1.heap.objs.size, PySem.W.methodObj (.ref g) (.ref (He.ga X.K c))) :: pins) σ Q) X.xe s3 := by
    refine wpAny_call (PySem.W.method_call (pin_at I3) (codeAny_mono (F.run X.A X.stack s3 H2 ⟨[.ref (He.ga X.K c)], ks.zip ws⟩ _ (.ref (He.ga X.K c) :: ji.filterMap fun i => zs[i]?) Q E (hr.mono hj) I3.env0 (b s3 (.ref (He.ga X.K c)) ws (rz.length.symm.trans l2)) (.cons rfl (vals_pick rz ji)) q2) fun r s' hq => ?_))
    match r, hq with
    | .error e, hq => exact hx _ σ _ _ e s' I3 hq
    | .ok (.ret v), hq => exact I3.after hq
  exact thn z fun _ _ y => unpinE y
/-- C(k = v, ..) by keywords alone -/
structure KfXK (P : Program) (w : World) (K : PySem.W.Frag) (mg : Str → Option Value) (base : Heap) (CX : CXT) (k : Nat) (c : Str) (ps ks : List Str) (j : List Nat) (sp : Sp) : Prop where
  ex : ∃ fd, FnOk P w K mg base CX k (He.ma K (He.ga K c) "__init__") fd ps sp ∧ ∀ (s : Shared) (u : Value) (ws : List Value), ws.length = ks.length → BindsTo s fd ⟨[u], ks.zip ws⟩ (ps.zip (u :: j.filterMap fun i => ws[i]?))
  gl : mg c = some (.ref (He.ga K c))
  mkr : Mk K (He.ga K c) (He.ma K (He.ga K c) "__init__")
def tMakeKw (C : Addr) (sp : Sp) (n : Nat) (j : List Nat) (E : XK) (tk : TA) : TE := fun σ H Q => tk σ H fun zs H1 => zs.length = n ∧ ∀ x dx, H1 x = none → H1 dx = none → dx ≠ x →
  sp (.ref x :: j.filterMap fun i => zs[i]?) (upd (upd H1 dx (.own x)) x (.ins C dx [])) (fun v H2 => v = .non ∧ Q (.ref x) H2) E
theorem pmakeXK {CX : CXT} (D : KfXK X.prog X.w X.K X.mg X.base CX k c ps ks ji sp) (hr : Room j X.A) (hx : Passes CX X E) (hkw : PK X kws tk) (hj : k + 1 ≤ j := by decide) (hg : Gl X c := by rfl) (hdb : (c == ("__debug__" : Str)) = false := by decide)
    (hall : (backToKw pos (keywordEach kws X.env)).all (·.1.isSome) = true := by rfl) (hks : (backToKw pos (keywordEach kws X.env)).filterMap (·.1) = ks := by rfl)
    (hpl : ((backTo pos (starEach [] X.env)).any (·.1) || (backToKw pos (keywordEach kws X.env)).any (·.1.isNone)) = false := by rfl) :
    PE X (.Call (.Name c p) [] kws pos) (tMakeKw (He.ga X.K c) sp ks.length ji E tk) := by
  obtain ⟨fd, F, hb⟩ := D.ex
  refine ⟨fun pins s σ H Q I h => wpAny_Call_Name_kw (ld_glob I hg D.gl (PySem.W.callWith_KW0 (h₀ := X.base) I.ok.mod.kin D.mkr.kp hall (thn (hkw.run pos pins s σ H _ I h) fun ws s1 ⟨zs, H1, I1, rz, l2, q⟩ => ⟨I1.kIn, ?_⟩) hpl) hdb)⟩
  rw [hks]
  have hq := q (s1.heap.objs.size + 1) s1.heap.objs.size (I1.hok.fresh (Nat.le_succ _)) (I1.hok.fresh (Nat.le_refl _)) (Nat.ne_of_lt (Nat.lt_succ_self _))
  have J := Inv.made (C := He.ga X.K c) I1
  have r2 : Vals (V.ref (s1.heap.objs.size + 1) :: ji.filterMap fun i => zs[i]?) (Value.ref (s1.heap.objs.size + 1) :: ji.filterMap fun i => ws[i]?) := .cons rfl (vals_pick rz ji)
  refine wpAny_call (make_map (f := He.ma X.K (He.ga X.K c) "__init__") I1.kIn D.mkr.makes D.mkr.init (beq_iff_eq.mp D.mkr.fn)
    (codeAny_mono (F.run _ X.stack _ _ ⟨[Value.ref (s1.heap.objs.size + 1)], ks.zip ws⟩ _ _ _ _ ((hr.mono hj).make (He.ga X.K c) [] (ks.zip ws)) (J.env0.make (He.ga X.K c) [] (ks.zip ws)) (hb _ _ ws (rz.length.symm.trans l2)) r2 hq) fun o s' z => ?_))
  match o, z with
  | .error er, z => exact hx pins _ _ _ er s' J z
  | .ok (.ret u), z =>
    obtain ⟨v, H', I3, rv, ev, q3⟩ := J.after z
    subst ev
    exact ⟨rv, ⟨V.ref (s1.heap.objs.size + 1), H', I3, rfl, q3⟩⟩
theorem pcallG0 (D : DfG X.prog X.w X.K X.mg X.base k x ps sp) (hr : RoomG j X.A) (hj : k ≤ j := by decide) (hg : Gl X x := by rfl) (hdb : (x == ("__debug__" : Str)) = false := by decide) : PE X (.Call (.Name x p) [] [] pos) (tCall sp [] E0 tNil) := by
  obtain ⟨fd, F, b⟩ := D.ex
  exact ⟨fun pins s σ H Q I h => wpAny_Call_Name_kw (ld_glob I hg D.gl (PySem.W.callWith_K0 I.kIn D.kp (runG (us := []) F (hr.mono hj) b .nil pass0 I .nil h)) hdb)⟩
theorem pmakeTB {CX : CXT} {E : L2.St → XK} (K : PySem.W.Frag) (D : KfX X.prog X.w X.K X.mg X.base CX k c ps sp) (hr : Room j X.A) (hx : ∀ σ, PassesAt CX X σ (E σ)) (ha : PA X (e :: es) t) (hj : k + 1 ≤ j := by decide) (hK : X.K = K := by rfl) (hg : Gl X c := by rfl) (hdb : (c == ("__debug__" : Str)) = false := by decide)
    (he : starEach (e :: es) X.env = (false, eval e X.env) :: starEach es X.env := by rfl) (hpl : (backTo pos (starEach es X.env)).any (·.1) = false := by rfl) :
    PE X (.Call (.Name c p) (e :: es) [] pos) (tMakeT (He.ga K c) sp E t) := by
  subst hK
  exact pmakeT D hr hx ha hj hg hdb he hpl
end
end Ex

set_option Elab.async false
set_option linter.all false
set_option maxRecDepth 100000
set_option maxHeartbeats 400000
set_option pp.maxSteps 900
namespace K21
open PySem PySem.Spec PyProof.Rows L2 Gu Ex
/-- Sizes(s) -/
theorem mk_szs {K : PySem.W.Frag} {H0 : Hp} {σ : L2.St} {ns : List Int} {tz : TE} {Q : VK} (hz : ∀ Q', (∀ s H, Same H0 H → H s = some (.lst (ns.map V.int)) → Q' (.ref s) H) → tz σ H0 Q') (g : Good ns)
    (q : ∀ x dz l H', Same H0 H' → H' x = some (.ins (He.ga K "Sizes") dz (szF l)) → H' l = some (.lst (ns.map V.int)) → Q (.ref x) H') : tMake (He.ga K "Sizes") (spMade K) [] E0 (tCons tz tNil) σ H0 Q := by
  refine hz _ fun s H s0 hs => ?_
  intro x dz hx hdz ndz
  have e1 : (upd (upd H dz (.own x)) x (.ins (He.ga K "Sizes") dz [])) s = some (.lst (ns.map V.int)) := by
    rw [upd_ne (ne_of_none hs hx), upd_ne (ne_of_none hs hdz)]
    exact hs
  refine ⟨x, dz, s, ns, rfl, upd_same, SqL.of e1, .base (.lst e1), g, fun l hl => ⟨rfl, ?_⟩⟩
  have nxl : x ≠ l := ne_of_none upd_same hl
  have ndl : dz ≠ l := fun z => by
    rw [← z, upd_ne ndz, upd_same] at hl
    cases hl
  have l0 : H l = none := by
    rw [upd_ne nxl.symm, upd_ne ndl.symm] at hl
    exact hl
  have kp1 : ∀ {c : Addr} {o : HO}, H c = some o → (upd (upd (upd (upd H dz (.own x)) x (.ins (He.ga K "Sizes") dz [])) l (.lst (ns.map V.int))) x (.ins (He.ga K "Sizes") dz (szF l))) c = some o := fun {c o} e => by
    rw [upd_ne (ne_of_none e hx), upd_ne (ne_of_none e l0), upd_ne (ne_of_none e hx), upd_ne (ne_of_none e hdz)]
    exact e
  exact q x dz l _ (fun c o e => kp1 (s0 c o e)) upd_same (by rw [upd_ne nxl.symm, upd_same])
theorem mg3 {sa ba : Addr} {n : Int} : mergeK [] (wd3 sa n ba) = wd3 sa n ba := by
  have e1 : (kS = kL) = False := eq_false (by decide +kernel)
  have e2 : (kS = kB) = False := eq_false (by decide +kernel)
  have e3 : (kL = kB) = False := eq_false (by decide +kernel)
  simp [mergeK, wd3, putK, e1, e2, e3]
theorem wf_nil {ns : List Int} {n : Int} : Wf ns n [] := ⟨fun b hb => (nomatch hb), .nil⟩
/-- an if whose ways come together -/
theorem seq_ifH {c : TT} {t e u : TS} {D : Ends} {σ : L2.St} {H : Hp} (R : L2.St → Hp → Prop) (hc : ∀ E0 : Ends, (∀ σ' H', R σ' H' → E0.nx σ' H') → (tIfS c t e) E0 σ H) (tail : ∀ σ' H', R σ' H' → u D σ' H') : tSeq (tIfS c t e) u D σ H := hc _ tail
section
variable {P : Program} {w : World} {K : PySem.W.Frag} {mg : Str → Option Value} {base : Heap} {f : Addr} {fd : FuncData}
def spLaw (K : PySem.W.Frag) : Sp := fun vs H Q _ => ∃ (a : Addr) (ns : List Int), vs = [.ref a] ∧ SqL K H a (ns.map V.int) ∧ ns.length ≤ 63 ∧ ∀ H', Q (.bl true) H'
theorem sc_law : FnScope ["_law_script", "_law_k", "_law_rng_here", "_law_sizes_here", "_law_world", "_law_layout", "_law_turn", "_law_is_right"] ["_law_script"] (defScope (top 37)) := ⟨rfl, rfl, rfl, by decide +kernel, rfl, by decide +kernel, by decide +kernel⟩
theorem ok_law (T : Tx K mg) (D__law_rng : Df P w K mg base 1 "_law_rng" ["_law_script", "_law_k"] (spRng K)) (D__law_draw : Df P w K mg base 1 "_law_draw" ["_law_rng_here", "_law_many"] spDraw) (D__law_sizes : Df P w K mg base 2 "_law_sizes" ["_law_rng_here", "_law_levels", "_law_greatest"] spSizes)
    (D__law_length : Df P w K mg base 2 "_law_length" ["_law_rng_here", "_law_sizes_here"] spLn) (D_Sizes : Kf P w K mg base 4 "Sizes" ["self", "values"] (spMade K)) (D_Layout : Kf P w K mg base 4 "Layout" ["self", "sizes", "length"] (spNew K)) (P_sizes : Pf P w K mg base 1 "Layout" "sizes" (spSzs K)) (E_Sizes : EqOf P w K mg base 1 "Sizes" (spSEq K))
    (D__law_stands : DfG P w K mg base 8 "_law_stands" ["_law_rng_here", "_law_layout", "_law_world"] (spStands K)) (D__law_put_right : DfG P w K mg base 12 "_law_put_right" ["_law_rng_here", "_law_layout", "_law_world"] (spPutR K)) (D__law_changed_right : DfG P w K mg base 8 "_law_changed_right" ["_law_rng_here", "_law_layout", "_law_world"] (spChR K)) (D__law_bools_right : DfG P w K mg base 11 "_law_bools_right" [] spBools)
    (F : FnP K "law" "law" (top 37) f fd) : FnG P w K mg base CX0 13 f fd ["_law_script"] (spLaw K) := by
  refine okG F sc_law (fun vs H Q E h => ?_) (fun cdv A outer s H vs Q E hr h => ⟨_, PSs.nox (pss_cons (ps_for PassesOwn.never rfl (pi_range1 rfl T.n_range (pa_cons (pe_callB (call_max2 rfl) (by rfl) T.n_max (by decide +kernel) (pa_cons pe_int (pa_cons (pe_callB (call_min2 rfl) (by rfl) T.n_min (by decide +kernel) (pa_cons pe_int (pa_cons (pe_callB call_len_seq (by rfl) T.n_len (by decide +kernel) (pa_cons (pv 0) pa_nil)) pa_nil))) pa_nil))) pa_nil)) (pg_name (i := 1) sc_law.nd rfl (by first | exact Or.inl rfl | exact Or.inr rfl)) (pss_cons (ps_set (i := 2) sc_law.nd rfl (by first | exact Or.inl rfl | exact Or.inr rfl) (pcall D__law_rng hr.r (pa_cons (pv 0) (pa_cons (pv 1) pa_nil)))) (pss_cons (ps_set (i := 3) sc_law.nd rfl (by first | exact Or.inl rfl | exact Or.inr rfl) (pcall D__law_sizes hr.r (pa_cons (pv 2) (pa_cons pe_int (pa_cons pe_int pa_nil))))) (pss_cons (ps_set (i := 4) sc_law.nd rfl (by first | exact Or.inl rfl | exact Or.inr rfl) (pe_disp (pps_cons pe_str (pv 3) (pps_cons pe_str (pcall D__law_length hr.r (pa_cons (pv 2) (pa_cons (pv 3) pa_nil))) (pps_cons pe_str (pe_lst pa_nil) pps_nil))) (by rfl) (by rfl) (fun z => by cases z) (by decide))) (pss_cons (ps_set (i := 5) sc_law.nd rfl (by first | exact Or.inl rfl | exact Or.inr rfl) (pmake D_Layout hr.r (pa_cons (pmake D_Sizes hr.r (pa_cons (pv 3) pa_nil)) (pa_cons (pe_dget (u1 hr.r) (pv 4) pe_str (fun _ _ => rfl)) pa_nil)))) (pss_cons (ps_if (PW.pt (pw_or (pt_not (pt_val (pcallG D__law_stands hr (pa_cons (pv 2) (pa_cons (pv 5) (pa_cons (pv 4) pa_nil)))))) (pw_or1 (pt_cmpR (op_ownN E_Sizes T.ne hr.r) (pprop P_sizes hr.r (pv 5)) (pmake D_Sizes hr.r (pa_cons (pe_callTy call_list_of (by rfl) T.n_list (by decide +kernel) (pa_cons (pv 3) pa_nil)) pa_nil)) (nomark _))))) (pss_one (ps_ret pe_bl)) pss_nil) (pss_one (ps_for PassesOwn.never rfl (pi_range1 rfl T.n_range (pa_cons (pcall D__law_draw hr.r (pa_cons (pv 2) (pa_cons pe_int pa_nil))) pa_nil)) (pg_name (i := 6) sc_law.nd rfl (by first | exact Or.inl rfl | exact Or.inr rfl)) (pss_cons (ps_if (PW.pt (pw_or (pt_cmpR (op_eqNil hr.r.units) (pe_dget (u1 hr.r) (pv 4) pe_str (fun _ _ => rfl)) (pe_lst pa_nil) (nomark _)) (pw_or1 (pt_cmpR op_gt (pcall D__law_draw hr.r (pa_cons (pv 2) (pa_cons pe_int pa_nil))) pe_int (nomark _))))) (pss_one (ps_set (i := 7) sc_law.nd rfl (by first | exact Or.inl rfl | exact Or.inr rfl) (pcallG D__law_put_right hr (pa_cons (pv 2) (pa_cons (pv 5) (pa_cons (pv 4) pa_nil)))))) (pss_one (ps_set (i := 7) sc_law.nd rfl (by first | exact Or.inl rfl | exact Or.inr rfl) (pcallG D__law_changed_right hr (pa_cons (pv 2) (pa_cons (pv 5) (pa_cons (pv 4) pa_nil))))))) (pss_one (ps_if (PW.pt (pw_or (pt_not (pt_val (pv 7))) (pw_or1 (pt_not (pt_val (pcallG D__law_stands hr (pa_cons (pv 2) (pa_cons (pv 5) (pa_cons (pv 4) pa_nil))))))))) (pss_one (ps_ret pe_bl)) pss_nil))))))))))) (pss_one (ps_ret (pcallG0 D__law_bools_right hr)))), ?_⟩)
  · obtain ⟨a, ns, rfl, _⟩ := h
    rfl
  · obtain ⟨a, ns, rfl, hS, hlen, q⟩ := h
    have b40 : (10 : Int) ^ 40 = 10000000000000000000000000000000000000000 := by decide
    refine ⟨_, rfl, a, _, rfl, .inl hS, _, _, rfl, _, _, rfl, ?_⟩
    obtain ⟨j, ej, j1, j2⟩ : ∃ j : Int, (if (if ((ns.map V.int).length : Int) < 5 then ((ns.map V.int).length : Int) else 5) > 1 then (if ((ns.map V.int).length : Int) < 5 then ((ns.map V.int).length : Int) else 5) else 1) = j ∧ 1 ≤ j ∧ j ≤ 5 := by
      refine ⟨_, rfl, ?_, ?_⟩
      · split <;> omega
      · split <;> split <;> omega
    refine ⟨j, (by rw [ej]), by omega, by omega, ?_⟩
    refine for_range (fun i σ G => (∃ x1 x2 x3 x4 x5 x6 x7, σ = [some (.ref a), x1, x2, x3, x4, x5, x6, x7]) ∧ Same H G) ⟨⟨_, _, _, _, _, _, _, rfl⟩, Same.refl _⟩ ?_ ?_
    · rintro i σ G hi ⟨⟨x1, x2, x3, x4, x5, x6, x7, rfl⟩, sm⟩
      rw [Int.zero_add]
      refine go_nm (go_asg ?_)
      refine ⟨_, rfl, _, rfl, a, ns, i, rfl, sm.seq hS, by omega, fun r H1 hr0 s1 R1 => ?_⟩
      refine at_st (σ' := [some (.ref a), some (.int i), some (.ref r), x3, x4, x5, x6, x7]) rfl (go_asg ?_)
      refine ⟨_, rfl, r, 5, 6, rfl, R1, by decide, by decide, by decide, by decide, fun l ns' H2 g hl hL t2 => ?_⟩
      refine at_st (σ' := [some (.ref a), some (.int i), some (.ref r), some (.ref l), x4, x5, x6, x7]) rfl (go_asg ?_)
      intro wa hwa
      have sG2 : Same G H2 := fun c o e => t2.2 c o (ne_of_none e hr0) (s1 c o e)
      have wG := sG2.free hwa
      have sW := same_upd (o := .dK []) hwa
      have hW : (upd H2 wa (.dK [])) wa = some (.dK []) := upd_same
      generalize upd H2 wa (.dK []) = H3 at sW hW
      have R3 := (Stp.same (Stp.refl t2.1) sW).1
      have hL3 := sW _ _ hL
      have lr : l ≠ r := (R1.ne hl).symm
      refine ⟨_, rfl, _, rfl, _, rfl, r, l, ns', rfl, R3, g, hL3, lr, fun n H4 n1 n2 t4 => ?_⟩
      refine ⟨(by show 0 ≤ sizeLine; decide), fun ba hba => ?_⟩
      have wr : wa ≠ r := (t2.1.ne hwa).symm
      have br : ba ≠ r := (t4.1.ne hba).symm
      have hW4 := t4.2 _ _ wr hW
      have hL4 := t4.2 _ _ lr hL3
      have sB := same_upd (o := .lst []) hba
      have hB5 : (upd H4 ba (.lst [])) ba = some (.lst []) := upd_same
      have sG5 : Same G (upd H4 ba (.lst [])) := fun c o e => sB c o (t4.2 c o (ne_of_none e hr0) (sW c o (sG2 c o e)))
      generalize upd H4 ba (.lst []) = H5 at sB hB5 sG5
      have hW5 := sB _ _ hW4
      have hL5 := sB _ _ hL4
      have R5 := (Stp.same (Stp.refl t4.1) sB).1
      refine ⟨hW5, wd3 l n ba, rfl, (by decide : 3 ≤ 15), ?_⟩
      rw [mg3]
      have bD := butD (kws := wd3 l n ba) hW5
      have hw6 : (upd H5 wa (.dK (wd3 l n ba))) wa = some (.dK (wd3 l n ba)) := upd_same
      have sG6 : Same G (upd H5 wa (.dK (wd3 l n ba))) := fun c o e => by
        rw [upd_ne (ne_of_none e wG)]
        exact sG5 c o e
      generalize upd H5 wa (.dK (wd3 l n ba)) = H6 at bD hw6 sG6
      have R6 := rng_butD R5 bD
      have hL6 := bD _ _ hL5 (fun _ e => nomatch e)
      have hB6 := bD _ _ hB5 (fun _ e => nomatch e)
      have W6 : WR r H6 wa l ba [] ns' n [] := ⟨hw6, hL6, hB6, .nil, lr, br, g, wf_nil, n1, n2, Nat.zero_le _⟩
      refine at_st (σ' := [some (.ref a), some (.int i), some (.ref r), some (.ref l), some (.ref wa), x5, x6, x7]) rfl (go_asg ?_)
      refine mk_lay (ns := ns') (n := n) (fun Q' k => ⟨_, rfl, k l H6 (Same.refl _) hL6⟩) g n1 n2 (fun H' Q' s7 k => ⟨_, rfl, wa, _, rfl, get_l (W6.same s7), k⟩) (fun y zp bl dx dz lz H7 s7 L7 y0 b0 hz hlz lz0 => ?_)
      have fB : StaF G K r y wa ns' n [] H7 := by
        obtain ⟨dz', l', k1, k2, k3⟩ := L7.ap
        have el : l' = lz := by
          rw [hz] at k1
          have z3 := (HO.ins.inj (Option.some.inj k1)).2.2
          unfold szF at z3
          simp only [List.cons.injEq, Prod.mk.injEq, V.ref.injEq, true_and, and_true] at z3
          exact z3.symm
        rw [el] at k3
        obtain ⟨ra, rb, re, rf⟩ := id R6
        exact ⟨zp, bl, dx, [], l, ba, [], (Stp.same (Stp.refl R6) s7).1, ⟨L7, (ne_of_none re b0).symm, dz, lz, hz, hlz, (ne_of_none re lz0).symm, k3⟩, W6.same s7, ne_of_none hL6 b0, ne_of_none hB6 b0, ⟨sG6.trans s7, hr0, sG6.free y0, sG6.free b0, wG⟩⟩
      refine at_st (σ' := [some (.ref a), some (.int i), some (.ref r), some (.ref l), some (.ref wa), some (.ref y), x6, x7]) rfl ?_
      refine ⟨_, rfl, _, rfl, _, rfl, r, y, wa, ns', n, [], rfl, fB.sta, fun H8 t8 => ⟨_, rfl, ?_⟩⟩
      have fB8 := fB.stp t8
      obtain ⟨zp8, bl8, dx8, ps8, sa8, ba8, qs8, R8, LL8, W8, _⟩ := id fB8
      have hL8 := t8.2 _ _ lr (s7 _ _ hL6)
      refine iteF ?_
      refine go_op ⟨_, rfl, y, dx8, _, rfl, LL8.L.at_, y, zp8, bl8, dx8, ps8, ns', n, [], rfl, LL8.L, ?_⟩
      refine mk_szs (fun Q' k => ⟨_, rfl, l, _, rfl, .inl (SqL.of hL8), fun l2 hl2 => k l2 _ (same_upd hl2) upd_same⟩) g (fun x dq lq H9 s9 hx hlq => ?_)
      obtain ⟨dz8, z8, k1, k2, _⟩ := (LL8.same s9).zr
      refine ⟨zp8, x, dz8, dq, _, _, rfl, rfl, k1, hx, zp8, x, ns', ns', rfl, ⟨dz8, z8, k1, k2⟩, ⟨dq, lq, hx, hlq⟩, _, rfl, _, rfl, ifF (by rw [decide_eq_true rfl]; rfl) ?_⟩
      have R9 := (Stp.same (Stp.refl R8) s9).1
      have fB9 := fB8.stp (Stp.same (Stp.refl R8) s9)
      refine ⟨_, rfl, r, 41, rfl, R9, by decide, by decide, fun d H10 d0 d1 t10 => ⟨d, rfl, by omega, by omega, ?_⟩⟩
      refine for_range (fun i' σ G' => (∃ x6 x7, σ = [some (.ref a), some (.int i), some (.ref r), some (.ref l), some (.ref wa), some (.ref y), x6, x7]) ∧ ∃ bs, bs.length ≤ i' ∧ StaF G K r y wa ns' n bs G') ⟨⟨_, _, rfl⟩, [], Nat.le_refl _, fB9.stp t10⟩ ?_ ?_
      · rintro k σ G' hk ⟨⟨x6, x7, rfl⟩, bs, hb, fS⟩
        obtain ⟨zp8, bl8, dx8, ps8, sa8, ba8, qs8, R8, LL8, W8, _⟩ := id fS
        have hk2 : k < 41 := by omega
        refine go_nm ?_
        refine seq_ifH (fun σ' H' => ∃ x6 bs, σ' = [some (.ref a), some (.int i), some (.ref r), some (.ref l), some (.ref wa), some (.ref y), x6, some (.bl true)] ∧ bs.length ≤ k + 1 ∧ StaF G K r y wa ns' n bs H') (fun E0 hE => ?_) (fun σ' H' hR => ?_)
        · have put : ∀ G2, Same G' G2 ∨ Stp r G' G2 → StaF G K r y wa ns' n bs G2 → spPutR K [.ref r, .ref y, .ref wa] G2 (fun v H' => E0.nx ([some (.ref a), some (.int i), some (.ref r), some (.ref l), some (.ref wa), some (.ref y), some (.int (0 + (k : Int))), some v]) H') L2.E0 := fun G2 _ f2 =>
            ⟨G, r, y, wa, ns', n, bs, rfl, f2, by omega, fun bs' H' hb' f' => hE _ _ ⟨_, bs', rfl, by omega, f'⟩⟩
          refine ⟨_, rfl, wa, _, rfl, get_b W8, (by show 0 ≤ sizeLine; decide), fun e he => ?_⟩
          have sE := same_upd (o := .lst []) he
          have hE0 : (upd G' e (.lst [])) e = some (.lst []) := upd_same
          generalize upd G' e (.lst []) = G1 at sE hE0
          have W9 := W8.same sE
          have tE := Stp.same (Stp.refl R8) sE
          have f1 := fS.stp tE
          refine ⟨ba8, e, _, rfl, rfl, SqL.of W9.b, SqL.of hE0, _, rfl, ?_⟩
          by_cases eb : bs = []
          · refine ifT (decide_eq_true (by rw [List.length_map, W9.rf.len, eb]; rfl)) ?_
            exact ⟨_, rfl, _, rfl, _, rfl, put G1 (.inl sE) f1⟩
          · refine ifF (decide_eq_false (by rw [List.length_map, W9.rf.len]; exact fun z => eb (List.eq_nil_of_length_eq_zero z))) ?_
            refine ⟨_, rfl, r, 3, rfl, tE.1, by decide, by omega, fun d3 G2 _ _ t3 => ⟨_, _, rfl, rfl, _, rfl, ?_⟩⟩
            have f2 := f1.stp t3
            by_cases c3 : 0 < d3
            · refine ifT (decide_eq_true c3) ?_
              exact ⟨_, rfl, _, rfl, _, rfl, put G2 (.inr (tE.trans t3)) f2⟩
            · refine ifF (decide_eq_false c3) ?_
              exact ⟨_, rfl, _, rfl, _, rfl, G, r, y, wa, ns', n, bs, rfl, f2, eb, fun bs' H' hb' f' => hE _ _ ⟨_, bs', rfl, by omega, f'⟩⟩
        · obtain ⟨x6, bs', rfl, hb', fT⟩ := hR
          refine ⟨_, rfl, _, rfl, iteF ?_⟩
          refine ⟨_, rfl, _, rfl, _, rfl, r, y, wa, ns', n, bs', rfl, fT.sta, fun H8 t8 => ⟨_, rfl, iteF ?_⟩⟩
          exact ⟨⟨_, _, rfl⟩, bs', hb', fT.stp t8⟩
      · rintro σ G' ⟨⟨x6, x7, rfl⟩, bs, hb, fS⟩
        exact ⟨⟨_, _, _, _, _, _, _, rfl⟩, sm.trans fS.old⟩
    · rintro σ G ⟨⟨x1, x2, x3, x4, x5, x6, x7, rfl⟩, sm⟩
      exact ⟨rfl, fun H' => q H'⟩
end
end K21

set_option Elab.async false
set_option linter.all false
set_option maxRecDepth 100000
set_option maxHeartbeats 0
namespace Ex
open PySem PySem.Spec PyProof.Rows L2 Gu
/-! ### facts of a class beyond those by names: constants, a property -/
def cvB (K : PySem.W.Frag) (C : Addr) (f : Str) (i : Int) : Bool := match PySem.W.findCls K (.ref C) (.type "type") f with
  | some (.val (.int j _)) => decide (j = i)
  | _ => false
theorem cvB_ok {K : PySem.W.Frag} {C : Addr} {f : Str} {i : Int} (h : cvB K C f i = true) : ∃ u, ClX.CVal K C (.type "type") f (.int i) u := by
  unfold cvB at h
  split at h
  · rename_i j t e
    have ej : j = i := of_decide_eq_true h
    exact ⟨_, e, t, by rw [ej]⟩
  · cases h
def rdB (K : PySem.W.Frag) (C : Addr) : Bool := PySem.W.readsIn K C (.type "type") && He.eqO (PySem.W.specialIn K (.ref C) "__getattribute__") (some (some (.builtin "type.__getattribute__")))
theorem rdB_ok {K : PySem.W.Frag} {C : Addr} (h : rdB K C = true) : ClX.CRead K C (.type "type") := by
  obtain ⟨h1, h2⟩ := He.ba h
  exact ⟨h1, He.eqO_ok h2⟩
def prA (K : PySem.W.Frag) (C : Addr) (f : Str) : Addr := match PySem.W.findIn K (.ref C) f with
  | some (some (.ref p)) => p
  | _ => 0
def pgA (K : PySem.W.Frag) (C : Addr) (f : Str) : Addr := match PySem.W.recIn K (prA K C f) "property" with
  | some (.ref g :: _) => g
  | _ => 0
def prB (K : PySem.W.Frag) (C : Addr) (f : Str) : Bool := He.eqO (PySem.W.findIn K (.ref C) f) (some (some (.ref (prA K C f)))) &&
  (He.eqO (PySem.W.specialIn K (.ref (prA K C f)) "__get__") (some (some (.builtin "property.__get__"))) && (decide (PySem.W.takesIn K (.ref (prA K C f)) = some true) &&
    (match PySem.W.recIn K (prA K C f) "property" with
    | some (.ref _ :: _) => true
    | _ => false)))
theorem prB_ok {K : PySem.W.Frag} {C : Addr} {f : Str} (h : prB K C f = true) : PropOf K C f (prA K C f) (pgA K C f) := by
  obtain ⟨h1, h⟩ := He.ba h
  obtain ⟨h2, h⟩ := He.ba h
  obtain ⟨h3, h4⟩ := He.ba h
  refine ⟨He.eqO_ok h1, He.eqO_ok h2, of_decide_eq_true h3, ?_⟩
  unfold pgA
  split at h4
  · rename_i g r e
    rw [e]
    exact ⟨r, rfl⟩
  · cases h4
/-- the def at an address -/
def fnAt (K : PySem.W.Frag) (a : Addr) : He.FnW := match K.lookup a with
  | some ⟨_, _, .func fd, _⟩ => some (fd.name, fd.qualname, fd.params, fd.body, fd.scope, fd.globals, fd.closure, fd.builtins)
  | _ => none
def okAt (K : PySem.W.Frag) (a : Addr) (qual : Str) : Bool := PySem.W.keepIn K (.ref a) && (match K.lookup a with
  | some ⟨_, _, .func fd, _⟩ => PySem.W.codeIn K fd.code qual && (He.dflB K fd.defaults [] && He.kwdB K fd.kwdefaults [])
  | _ => false)
theorem fun_at {K : PySem.W.Frag} {a : Addr} {name qual : Str} {params : Arguments} {body : List Stmt} {scope : Scope} (e : fnAt K a = some (name, qual, params, .stmts body, scope, mainGlobals, [], builtinsNs)) (c : okAt K a qual = true) :
    ∃ fd, FunD K name qual params body scope [] [] a fd := by
  obtain ⟨kp, c2⟩ := He.ba c
  unfold fnAt at e
  split at e
  · rename_i oc od fd sl q
    rw [q] at c2
    obtain ⟨k1, k2⟩ := He.ba c2
    obtain ⟨k3, k4⟩ := He.ba k2
    obtain ⟨n1, n2, n3, n4, n5, n6, n7, n8, n9, n10, n11, n12, n13, n14, n15⟩ := fd
    simp only [Option.some.injEq, Prod.mk.injEq] at e
    obtain ⟨rfl, rfl, rfl, rfl, rfl, rfl, rfl, rfl⟩ := e
    exact ⟨_, ⟨oc, od, n8, n9, n10, n11, n12, n13, n14, sl, rfl, q, k1, He.dflB_ok k3, He.kwdB_ok k4⟩, kp⟩
  · cases e
def sysB (K : PySem.W.Frag) : Bool := match K.lookup sysModules with
  | some o => decide (o.cls ≠ .type "list")
  | none => false
end Ex

set_option Elab.async false
set_option linter.all false
set_option maxRecDepth 100000
set_option maxHeartbeats 0
namespace Ex
open PySem PySem.Spec PyProof.Rows L2 Gu
/-! ### facts for the end: constants read through an object, classmethods, methods and makers by keywords alone, an error's class over ValueError -/
def conB (K : PySem.W.Frag) (C : Addr) (f : Str) (i : Int) : Bool := match PySem.W.findIn K (.ref C) f with
  | some (some (.int j t)) => decide (j = i) && (He.eqO (PySem.W.specialIn K (.int j t) "__get__") (some none) && !PySem.W.copiedNames.contains f)
  | _ => false
theorem conB_ok {K : PySem.W.Frag} {C : Addr} {f : Str} {i : Int} (h : conB K C f i = true) : ∃ u, Con K C f (.int i) u := by
  unfold conB at h
  split at h
  · rename_i j t e
    obtain ⟨h1, h2⟩ := He.ba h
    obtain ⟨h3, h4⟩ := He.ba h2
    have ej : j = i := of_decide_eq_true h1
    exact ⟨_, e, ⟨t, by rw [ej]⟩, He.eqO_ok h3, by simpa using h4⟩
  · cases h
def cmP (K : PySem.W.Frag) (C : Addr) (m : Str) : Addr := match PySem.W.findCls K (.ref C) (.type "type") m with
  | some (.get _ (.ref p) _ _) => p
  | _ => 0
def cmA (K : PySem.W.Frag) (C : Addr) (m : Str) : Addr := match PySem.W.recIn K (cmP K C m) "classmethod" with
  | some (.ref g :: _) => g
  | _ => 0
def cmB (K : PySem.W.Frag) (C : Addr) (m : Str) : Bool := (match PySem.W.findCls K (.ref C) (.type "type") m with
  | some (.get (.builtin n) (.ref _) .none (.ref c)) => decide (n = "classmethod.__get__") && decide (c = C)
  | _ => false) && ((match PySem.W.recIn K (cmP K C m) "classmethod" with
  | some (.ref _ :: _) => true
  | _ => false) && PySem.W.fnIn K (cmA K C m))
theorem cmB_ok {K : PySem.W.Frag} {C : Addr} {m : Str} (h : cmB K C m = true) : ClX.CMet K C (.type "type") m (cmP K C m) (cmA K C m) := by
  obtain ⟨h1, h⟩ := He.ba h
  obtain ⟨h2, h3⟩ := He.ba h
  refine ⟨?_, ?_, h3⟩
  · unfold cmP
    split at h1
    · rename_i n p c e
      obtain ⟨e1, e2⟩ := He.ba h1
      have e1 : n = "classmethod.__get__" := of_decide_eq_true e1
      have e2 : c = C := of_decide_eq_true e2
      rw [e, e1, e2]
    · cases h1
  · unfold cmA
    split at h2
    · rename_i g r e
      rw [e]
      exact ⟨r, rfl⟩
    · cases h2
/-- keywords alone, behind self or cls -/
theorem bindsKw {K : PySem.W.Frag} {name qual : Str} {params : Arguments} {body : List Stmt} {scope : Scope} {f : Addr} {ps ks : List Str} {j : List Nat} {fd : FuncData} (F : FunD K name qual params body scope [] [] f fd)
    (hb : ∀ (kV doc pm : Value) (an : Option Addr) (cdv ct u : Value) (ws : List Value), ws.length = ks.length → bindArgs (PySem.W.fnOf name qual params body scope .none kV doc pm an cdv ct) ⟨[u], ks.zip ws⟩ = pure (ps.zip (u :: j.filterMap fun i => ws[i]?))) :
    ∀ (s : Shared) (u : Value) (ws : List Value), ws.length = ks.length → BindsTo s fd ⟨[u], ks.zip ws⟩ (ps.zip (u :: j.filterMap fun i => ws[i]?)) := by
  intro s u ws hl
  obtain ⟨oc, od, dV, kV, doc, pm, an, cdv, ct, osl, rfl, lk, hcd, hD, hK⟩ := F.ex
  rcases hD with ⟨_, rfl⟩ | ⟨e, _⟩
  · exact .of_eq (hb kV doc pm an cdv ct u ws hl)
  · exact absurd rfl e
theorem refs_VE (l : List Value) (h : refsB (tailE "ValueError") l = true) : PySem.HandSPX.refsVE l = true := by
  induction l with
  | nil => exact absurd h (by decide +kernel)
  | cons v r ih =>
    rcases refsB_two _ _ h with ⟨c, r', e, h'⟩ | e
    · injection e with e1 e2
      subst e1 e2
      exact ih h'
    · rw [e]
      decide +kernel
theorem ErrG.oxC {K : PySem.W.Frag} {C : Addr} {n : Str} (e : ErrG "ValueError" K C n) : OexC K C := by
  obtain ⟨b, ⟨nm, q, N, bs, bm, sn, sub, ab, col, dd, k0, k1, k2, k3, k5, hC, mr⟩, sa, ex, ty, kC⟩ := e.ox
  exact ⟨⟨nm, q, N, bs, bm, sn, sub, ab, col, dd, k0, k1, k2, k3, k5, hC, refs_VE bm mr⟩, sa, ex, ty, kC⟩
end Ex

set_option Elab.async false
set_option linter.all false
set_option maxRecDepth 100000
set_option maxHeartbeats 4000000
/-! Own layer: a keyword-only default that is the empty tuple; a call with the keyword given. -/
namespace Ex
open PySem PySem.Spec PyProof.Rows L2 Gu
def tup0 (K : PySem.W.Frag) (z : Addr) : Bool := match K.lookup z with
  | some ⟨.type c, _, .seq its _, _⟩ => decide (c = "tuple") && decide (its.size = 0)
  | _ => false
theorem tup0_ok {K : PySem.W.Frag} {z : Addr} (h : tup0 K z = true) : ∃ (o : Obj) (n : Nat), K.lookup z = some o ∧ o.cls = .type "tuple" ∧ o.data = .seq #[] n := by
  unfold tup0 at h
  split at h
  · rename_i c d its n sl e
    obtain ⟨h1, h2⟩ := He.ba h
    have e1 := of_decide_eq_true h1
    have e2 := of_decide_eq_true h2
    have e3 : its = #[] := Array.eq_empty_of_size_eq_zero e2
    subst e1
    subst e3
    exact ⟨_, n, e, rfl, rfl⟩
  · cases h
def kwV (K : PySem.W.Frag) (k : Str) : Value → Bool
  | .ref D => (match PySem.W.nsIn K D k with
    | some (some (.ref z)) => tup0 K z
    | _ => false)
  | _ => false
def kwB (K : PySem.W.Frag) (f : Addr) (k : Str) : Bool := match K.lookup f with
  | some ⟨_, _, .func fd, _⟩ => kwV K k fd.kwdefaults
  | _ => false
section
variable {K : PySem.W.Frag} {x qual : Str} {params : Arguments} {body : List Stmt} {scope : Scope} {kws : List (Str × V)} {f : Addr} {fd : FuncData} {ps ks : List Str} {k : Str}
theorem kwB_ok (F : FunD K x qual params body scope [] [] f fd) (h : kwB K f k = true) : ∃ (z : Addr) (o : Obj) (n : Nat), FunD K x qual params body scope [] [(k, .ref z)] f fd ∧ K.lookup z = some o ∧ o.cls = .type "tuple" ∧ o.data = .seq #[] n := by
  obtain ⟨⟨oc, od, dV, kV, doc, pm, an, cdv, ct, osl, rfl, lk, hcd, hD, hK⟩, kp⟩ := F
  unfold kwB at h
  rw [lk] at h
  have h1 : kwV K k kV = true := h
  cases kV with
  | ref D =>
    have h2 : (match PySem.W.nsIn K D k with
      | some (some (.ref z)) => tup0 K z
      | _ => false) = true := h1
    split at h2
    · rename_i z e
      obtain ⟨o, n, a, b, c⟩ := tup0_ok h2
      refine ⟨z, o, n, ⟨⟨oc, od, dV, _, doc, pm, an, cdv, ct, osl, rfl, lk, hcd, hD, .inr ⟨D, rfl, fun q hq => ?_⟩⟩, kp⟩, a, b, c⟩
      cases List.mem_singleton.mp hq
      exact ⟨_, e, rfl⟩
    · cases h2
  | _ => cases h1
theorem bindsK {n : Nat} (F : FunD K x qual params body scope [] kws f fd)
    (h : ∀ (kV doc pm : Value) (an : Option Addr) (cdv ct : Value) (us ws : List Value), us.length = n → ws.length = ks.length → bindArgs (PySem.W.fnOf x qual params body scope .none kV doc pm an cdv ct) ⟨us, ks.zip ws⟩ = pure (ps.zip (us ++ ws)))
    (s : Shared) (us ws : List Value) (hu : us.length = n) (hw : ws.length = ks.length) (_ : K.In s.heap) : BindsTo s fd ⟨us, ks.zip ws⟩ (ps.zip (us ++ ws)) := by
  obtain ⟨oc, od, dV, kV, doc, pm, an, cdv, ct, osl, rfl, lk, hcd, hD, hK⟩ := F.ex
  rcases hD with ⟨_, rfl⟩ | ⟨e, _⟩
  · exact .of_eq (h kV doc pm an cdv ct us ws hu hw)
  · exact absurd rfl e
end
end Ex

set_option Elab.async false
set_option linter.all false
set_option maxRecDepth 100000
set_option maxHeartbeats 0
namespace Ex
open PySem PySem.Spec PyProof.Rows L2 Gu
/-- keywords alone, behind self; keyword-only defaults may stand -/
theorem bindsKwD {K : PySem.W.Frag} {name qual : Str} {params : Arguments} {body : List Stmt} {scope : Scope} {kws : List (Str × V)} {f : Addr} {ps ks : List Str} {j : List Nat} {fd : FuncData} (F : FunD K name qual params body scope [] kws f fd)
    (hb : ∀ (kV doc pm : Value) (an : Option Addr) (cdv ct u : Value) (ws : List Value), ws.length = ks.length → bindArgs (PySem.W.fnOf name qual params body scope .none kV doc pm an cdv ct) ⟨[u], ks.zip ws⟩ = pure (ps.zip (u :: j.filterMap fun i => ws[i]?))) :
    ∀ (s : Shared) (u : Value) (ws : List Value), ws.length = ks.length → BindsTo s fd ⟨[u], ks.zip ws⟩ (ps.zip (u :: j.filterMap fun i => ws[i]?)) := by
  intro s u ws hl
  obtain ⟨oc, od, dV, kV, doc, pm, an, cdv, ct, osl, rfl, lk, hcd, hD, hK⟩ := F.ex
  rcases hD with ⟨_, rfl⟩ | ⟨e, _⟩
  · exact .of_eq (hb kV doc pm an cdv ct u ws hl)
  · exact absurd rfl e
end Ex

set_option Elab.async false
set_option linter.all false
set_option maxRecDepth 100000
set_option maxHeartbeats 0
namespace K21
open PySem PySem.Spec PyProof.Rows L2 Gu Ex
abbrev R : PySem.W.OpenRow := PySem.W.OpenLaw.row PySem.Challenge.rw_exactroom_k21_whole_blocks_by_a_model
def dOf (a : Str × Option Str) (x q : Str) (st : Stmt) : He.DefD := ⟨a, x, q, defArgs st, defBody st, defScope st, [], []⟩
def dOfK (a : Str × Option Str) (x q : Str) (st : Stmt) (kw : List (Str × He.Dv)) : He.DefD := ⟨a, x, q, defArgs st, defBody st, defScope st, [], kw⟩
def fn : List He.DefD := [dOf ("is_integer", none) "is_integer" "is_integer" (top 10),
  dOf ("size_problem", none) "size_problem" "size_problem" (top 13),
  dOf ("check_sizes", none) "check_sizes" "check_sizes" (top 14),
  dOf ("is_cells", none) "is_cells" "is_cells" (top 11),
  dOf ("check_cells", none) "check_cells" "check_cells" (top 12),
  dOf ("Sizes", some "__init__") "__init__" "Sizes.__init__" (inClass (top 15) 4),
  dOf ("Sizes", some "__eq__") "__eq__" "Sizes.__eq__" (inClass (top 15) 5),
  dOf ("Sizes", some "has_level") "has_level" "Sizes.has_level" (inClass (top 15) 12),
  dOf ("Sizes", some "check_level") "check_level" "Sizes.check_level" (inClass (top 15) 13),
  dOf ("Sizes", some "size") "size" "Sizes.size" (inClass (top 15) 14),
  dOf ("Layout", some "__init__") "__init__" "Layout.__init__" (inClass (top 21) 0),
  dOf ("Layout", some "count_below") "count_below" "Layout.count_below" (inClass (top 21) 9),
  dOf ("Layout", some "index_of") "index_of" "Layout.index_of" (inClass (top 21) 10),
  dOf ("Layout", some "block_at") "block_at" "Layout.block_at" (inClass (top 21) 11),
  dOf ("Layout", some "first_taken") "first_taken" "Layout.first_taken" (inClass (top 21) 12),
  dOfK ("Layout", some "put") "put" "Layout.put" (inClass (top 21) 13) [("pinned", .bl false)],
  dOf ("Layout", some "take_out") "take_out" "Layout.take_out" (inClass (top 21) 14),
  dOf ("Layout", some "set_pinned") "set_pinned" "Layout.set_pinned" (inClass (top 21) 15),
  dOf ("Layout", some "blocks") "blocks" "Layout.blocks" (inClass (top 21) 7),
  dOf ("Layout", some "__len__") "__len__" "Layout.__len__" (inClass (top 21) 2),
  dOf ("Layout", some "__repr__") "__repr__" "Layout.__repr__" (inClass (top 21) 3),
  dOf ("InvalidAddress", some "__init__") "__init__" "InvalidAddress.__init__" (inClass (top 6) 0),
  dOf ("UnknownBlock", some "__init__") "__init__" "UnknownBlock.__init__" (inClass (top 7) 0),
  dOf ("Occupied", some "__init__") "__init__" "Occupied.__init__" (inClass (top 8) 0),
  dOf ("is_address", none) "is_address" "is_address" (top 17),
  dOf ("lies_below", none) "lies_below" "lies_below" (top 18),
  dOf ("is_region", none) "is_region" "is_region" (top 19),
  dOf ("_law_rng", none) "_law_rng" "_law_rng" (top 23),
  dOf ("_law_draw", none) "_law_draw" "_law_draw" (top 24),
  dOf ("_law_choice", none) "_law_choice" "_law_choice" (top 25),
  dOf ("_law_sizes", none) "_law_sizes" "_law_sizes" (top 26),
  dOf ("_law_length", none) "_law_length" "_law_length" (top 27),
  dOf ("_law_place", none) "_law_place" "_law_place" (top 28),
  dOf ("_law_first_taken", none) "_law_first_taken" "_law_first_taken" (top 29),
  dOf ("_law_put_called", none) "_law_put_called" "_law_put_called" (top 30),
  dOf ("_law_put_right", none) "_law_put_right" "_law_put_right" (top 31),
  dOf ("_law_changed_right", none) "_law_changed_right" "_law_changed_right" (top 32),
  dOf ("_law_block_due", none) "_law_block_due" "_law_block_due" (top 33),
  dOf ("_law_stands", none) "_law_stands" "_law_stands" (top 34),
  dOf ("_law_odd_told", none) "_law_odd_told" "_law_odd_told" (top 35),
  dOf ("_law_bools_right", none) "_law_bools_right" "_law_bools_right" (top 36),
  dOf ("law", none) "law" "law" (top 37)]
def fa : List He.Fa := [.glo "is_integer", .glo "size_problem", .glo "check_sizes", .glo "is_cells", .glo "check_cells", .glo "is_address", .glo "lies_below", .glo "is_region", .glo "_law_rng", .glo "_law_draw", .glo "_law_choice", .glo "_law_sizes", .glo "_law_length", .glo "_law_place", .glo "_law_first_taken", .glo "_law_put_called", .glo "_law_put_right", .glo "_law_changed_right", .glo "_law_block_due", .glo "_law_stands", .glo "_law_odd_told", .glo "_law_bools_right", .glo "law", .glo "Sizes", .glo "Layout", .glo "InvalidAddress", .glo "UnknownBlock", .glo "Occupied", .free "len", .free "isinstance", .free "int", .free "bool", .free "list", .free "range", .free "divmod", .free "abs", .free "max", .free "min", .free "enumerate", .free "all", .free "sum", .free "tuple", .free "sorted", .free "repr", .free "set", .free "dict", .free "any", .free "str", .free "LookupError", .free "RuntimeError", .free "ValueError", .cls "Sizes", .noat "Sizes" "size_list", .mkr "Sizes", .meth "Sizes" "has_level", .meth "Sizes" "check_level", .meth "Sizes" "size", .cls "Layout", .mkr "Layout", .noat "Layout" "size_table", .noat "Layout" "cell_count", .noat "Layout" "free_count", .noat "Layout" "block_list", .meth "Layout" "count_below", .meth "Layout" "index_of", .meth "Layout" "block_at", .meth "Layout" "first_taken", .meth "Layout" "put", .meth "Layout" "take_out", .meth "Layout" "set_pinned", .meth "Layout" "blocks", .meth "Layout" "__len__", .meth "Layout" "__repr__"]
def exB (K : PySem.W.Frag) : Bool := (rdB K (He.ga K "Sizes") && (cvB K (He.ga K "Sizes") "MAX_SIZE" 1000000000 && (cvB K (He.ga K "Sizes") "MAX_SIZES" 8 && (sysB K && (cvB K (He.ga K "Sizes") "MAX_CELLS" 1000000000000 && (eqB K (He.ga K "Sizes") && (neB K (He.ga K "Sizes") && (Ex.insB K (He.ga K "Sizes") && (Ex.insB K (He.ga K "Layout") && (errG "ValueError" K (cA K) "value" && (errG "LookupError" K (cU K) "value" && (errG "RuntimeError" K (cO K) "address" && (bOf (PySem.W.kitOne K (.ref (cA K)) (.type "ValueError")) true && (bOf (PySem.W.kitOne K (.ref (cU K)) (.type "LookupError")) true && (bOf (PySem.W.kitOne K (.ref (cO K)) (.type "RuntimeError")) true && (bOf (PySem.W.exmOne K (.ref (cA K)) (.ref (cU K))) false && (prB K (He.ga K "Sizes") "top" && (okAt K (pgA K (He.ga K "Sizes") "top") "Sizes.top" && (prB K (He.ga K "Layout") "sizes" && (okAt K (pgA K (He.ga K "Layout") "sizes") "Layout.sizes" && (prB K (He.ga K "Layout") "length" && (okAt K (pgA K (He.ga K "Layout") "length") "Layout.length" && true))))))))))))))))))))))
def v_top : He.FnW := some ("top", "Sizes.top", defArgs (inClass (top 15) 10), .stmts (defBody (inClass (top 15) 10)), defScope (inClass (top 15) 10), mainGlobals, [], builtinsNs)
def v_sizes : He.FnW := some ("sizes", "Layout.sizes", defArgs (inClass (top 21) 4), .stmts (defBody (inClass (top 21) 4)), defScope (inClass (top 21) 4), mainGlobals, [], builtinsNs)
def v_length : He.FnW := some ("length", "Layout.length", defArgs (inClass (top 21) 5), .stmts (defBody (inClass (top 21) 5)), defScope (inClass (top 21) 5), mainGlobals, [], builtinsNs)
abbrev AlE : Type := He.AlD × Bool × He.FnW × He.FnW × He.FnW
def ob0 (K : PySem.W.Frag) : AlE := (He.obsD fa fn K, exB K, fnAt K (pgA K (He.ga K "Sizes") "top"), fnAt K (pgA K (He.ga K "Layout") "sizes"), fnAt K (pgA K (He.ga K "Layout") "length"))
def vl0 : AlE := (He.valD fn, true, v_top, v_sizes, v_length)
def ob1 (g : Addr → Option Obj) : AlE := ob0 (He.frG g (cStatics :: sysModules :: He.asD g 5))
def hk : PySem.W.Hook where
  α := AlE
  obs := fun s => ob1 s.heap.get?
  val := fun _ => vl0
  says := fun _ h => ∃ K : PySem.W.Frag, K.In h ∧ ob0 K = vl0
  of := fun _ _ e => ⟨_, He.frG_in, e⟩
  keeps := fun _ _ _ ⟨K, hK, c⟩ k => ⟨K, PySem.W.Frag.In.keeps hK k, c⟩
def ob (s : PySem.W.SharedT) : AlE := ob1 (HandSHeadRun.getT s)
theorem ob_eq (s : PySem.W.SharedT) : ob s = hk.obs s.abs := by
  have e : HandSHeadRun.getT s = s.abs.heap.get? := funext (HandSHeadRun.getT_eq s)
  show ob1 (HandSHeadRun.getT s) = ob1 s.abs.heap.get?
  rw [e]
def loose : List Str := ("_wall" : Str) :: ("RoomError" : Str) :: ("InvalidSizes" : Str) :: ("InvalidLevel" : Str) :: ("InvalidNumber" : Str) :: ("InvalidAddress" : Str) :: ("UnknownBlock" : Str) :: ("Occupied" : Str) :: ("is_integer" : Str) :: ("is_cells" : Str) :: ("check_cells" : Str) :: ("size_problem" : Str) :: ("check_sizes" : Str) :: ("Sizes" : Str) :: ("is_address" : Str) :: ("lies_below" : Str) :: ("is_region" : Str) :: ("Layout" : Str) :: ("_law_rng" : Str) :: ("_law_draw" : Str) :: ("_law_choice" : Str) :: ("_law_sizes" : Str) :: ("_law_length" : Str) :: ("_law_place" : Str) :: ("_law_first_taken" : Str) :: ("_law_put_called" : Str) :: ("_law_put_right" : Str) :: ("_law_changed_right" : Str) :: ("_law_block_due" : Str) :: ("_law_stands" : Str) :: ("_law_odd_told" : Str) :: ("_law_bools_right" : Str) :: []
def kk (s : PySem.W.SharedT) : PySem.W.Frag := He.frG (HandSHeadRun.getT s) (cStatics :: sysModules :: He.asD (HandSHeadRun.getT s) 5)
noncomputable def ends (w : World) (os : OsState) : Option PySem.W.SharedT := HandSHeadRun.endF (HandSHeadRun.stepQ (HandSHeadRun.denQ HandSHeadRun.tabQ) R.prog w) 16000 R.prog w os
theorem in_parts {σ A B E F : Type} {o : Option σ} {a : σ → A} {b : σ → B} {c d : σ → Bool} {e : σ → E} {f : σ → Bool} {g : σ → F} {x1 : A} {x2 : B} {x5 : E} {x7 : F} (h1 : o.map a = some x1) (h2 : o.map b = some x2) (h3 : o.map c = some true) (h4 : o.map d = some true)
    (h5 : o.map e = some x5) (h6 : o.map f = some true) (h7 : o.map g = some x7) : o.map (fun s => (a s, b s, (((c s && d s), e s), f s, g s))) = some (x1, x2, ((true, x5), true, x7)) := by
  cases o with
  | none => cases h1
  | some s =>
    have g1 : a s = x1 := Option.some.inj h1
    have g2 : b s = x2 := Option.some.inj h2
    have g3 : c s = true := Option.some.inj h3
    have g4 : d s = true := Option.some.inj h4
    have g5 : e s = x5 := Option.some.inj h5
    have g6 : f s = true := Option.some.inj h6
    have g7 : g s = x7 := Option.some.inj h7
    show some (a s, b s, (((c s && d s), e s), f s, g s)) = _
    rw [g1, g2, g3, g4, g5, g6, g7]
    rfl
end K21

set_option Elab.async false
set_option linter.all false
set_option maxRecDepth 100000
set_option maxHeartbeats 0
namespace K21
open PySem PySem.Spec PyProof.Rows L2 Gu Ex PySem.W PySem.Calls
theorem r_looks (w : World) (os : OsState) : (ends w os).map (fun s => HandSHeadRun.looksF R.prog (boot_heap w.params) s.abs) = some true := by kernel_rfl
theorem r_seen (w : World) (os : OsState) : (ends w os).map (fun s => HandSHeadRun.seenQ (PySem.W.view R.prog [37]) loose (PySem.importedModules R.prog.main.body) (fun s => PySem.W.xlAt (PySem.W.view R.prog [37]) [] s && PySem.W.recOk R.toRowW.records s) s.abs) = some (PySem.W.openGood (PySem.W.view R.prog [37]) loose) := by kernel_rfl
end K21

set_option Elab.async false
set_option linter.all false
set_option maxRecDepth 100000
set_option maxHeartbeats 0
namespace K21
open PySem PySem.Spec PyProof.Rows L2 Gu Ex
theorem r_fa (w : World) (os : OsState) : (ends w os).map (fun s => fa.all fun f => f.ok (kk s)) = some true := by kernel_rfl
end K21

set_option Elab.async false
set_option linter.all false
set_option maxRecDepth 100000
set_option maxHeartbeats 0
namespace K21
open PySem PySem.Spec PyProof.Rows L2 Gu Ex
theorem r_fn (w : World) (os : OsState) : (ends w os).map (fun s => fn.all fun d => d.ok (kk s)) = some true := by kernel_rfl
end K21

set_option Elab.async false
set_option linter.all false
set_option maxRecDepth 100000
set_option maxHeartbeats 0
namespace K21
open PySem PySem.Spec PyProof.Rows L2 Gu Ex
theorem r_fw (w : World) (os : OsState) : (ends w os).map (fun s => fn.map fun d => He.fnW (kk s) d.at_) = some (fn.map He.DefD.val) := by kernel_rfl
end K21

set_option Elab.async false
set_option linter.all false
set_option maxRecDepth 100000
set_option maxHeartbeats 0
namespace K21
open PySem PySem.Spec PyProof.Rows L2 Gu Ex
theorem r_ex (w : World) (os : OsState) : (ends w os).map (fun s => exB (kk s)) = some true := by kernel_rfl
theorem r_pr (w : World) (os : OsState) : (ends w os).map (fun s => (fnAt (kk s) (pgA (kk s) (He.ga (kk s) "Sizes") "top"), fnAt (kk s) (pgA (kk s) (He.ga (kk s) "Layout") "sizes"), fnAt (kk s) (pgA (kk s) (He.ga (kk s) "Layout") "length"))) = some (v_top, v_sizes, v_length) := by kernel_rfl
end K21

set_option Elab.async false
set_option linter.all false
set_option maxRecDepth 100000
set_option maxHeartbeats 0
namespace K21
open PySem PySem.Spec PyProof.Rows L2 Gu Ex
theorem run (w : World) : HandSHeadRun.RunEq R (PySem.W.view R.prog [37]) hk ob 16000 loose w :=
  fun os => in_parts (r_looks w os) (r_seen w os) (r_fa w os) (r_fn w os) (r_fw w os) (r_ex w os) (r_pr w os)
section
variable {P : Program} {w : World} {K : PySem.W.Frag} {h : Heap} {mg : Str → Option Value} {base : Heap}
theorem tx (X : K.In h) (G : h.Ns mainGlobals mg) (c : He.SaysD fa fn K) (x : exB K = true) : Tx K mg := by
  obtain ⟨x1, x⟩ := He.ba x
  obtain ⟨x2, x⟩ := He.ba x
  obtain ⟨x3, x⟩ := He.ba x
  obtain ⟨x4, x⟩ := He.ba x
  obtain ⟨x5, x⟩ := He.ba x
  obtain ⟨xe_S, x⟩ := He.ba x
  obtain ⟨xn_S, x⟩ := He.ba x
  obtain ⟨xi_S, x⟩ := He.ba x
  obtain ⟨xi_L, x⟩ := He.ba x
  obtain ⟨xA, x⟩ := He.ba x
  obtain ⟨xU, x⟩ := He.ba x
  obtain ⟨xO, x⟩ := He.ba x
  obtain ⟨yA, x⟩ := He.ba x
  obtain ⟨yU, x⟩ := He.ba x
  obtain ⟨yO, x⟩ := He.ba x
  obtain ⟨yN, x⟩ := He.ba x
  obtain ⟨xp_top, x⟩ := He.ba x
  obtain ⟨xo_top, x⟩ := He.ba x
  obtain ⟨xp_sizes, x⟩ := He.ba x
  obtain ⟨xo_sizes, x⟩ := He.ba x
  obtain ⟨xp_length, x⟩ := He.ba x
  obtain ⟨xo_length, x⟩ := He.ba x
  have hsys : SysOk K := by
    unfold sysB at x4
    split at x4
    · rename_i o e
      exact ⟨o, e, of_decide_eq_true x4⟩
    · cases x4
  exact ⟨He.free_ok X G (c.fact 28 (f := .free "len") rfl),
    He.free_ok X G (c.fact 29 (f := .free "isinstance") rfl),
    He.free_ok X G (c.fact 30 (f := .free "int") rfl),
    He.free_ok X G (c.fact 31 (f := .free "bool") rfl),
    He.free_ok X G (c.fact 32 (f := .free "list") rfl),
    He.free_ok X G (c.fact 33 (f := .free "range") rfl),
    He.free_ok X G (c.fact 34 (f := .free "divmod") rfl),
    He.free_ok X G (c.fact 35 (f := .free "abs") rfl),
    He.free_ok X G (c.fact 36 (f := .free "max") rfl),
    He.free_ok X G (c.fact 37 (f := .free "min") rfl),
    He.free_ok X G (c.fact 38 (f := .free "enumerate") rfl),
    He.free_ok X G (c.fact 39 (f := .free "all") rfl),
    He.free_ok X G (c.fact 40 (f := .free "sum") rfl),
    He.free_ok X G (c.fact 41 (f := .free "tuple") rfl),
    He.free_ok X G (c.fact 42 (f := .free "sorted") rfl),
    He.free_ok X G (c.fact 43 (f := .free "repr") rfl),
    He.free_ok X G (c.fact 44 (f := .free "set") rfl),
    He.free_ok X G (c.fact 45 (f := .free "dict") rfl),
    He.free_ok X G (c.fact 46 (f := .free "any") rfl),
    He.glo_ok X G (c.fact 23 (f := .glo "Sizes") rfl),
    He.cls_ok (c.fact 51 (f := .cls "Sizes") rfl),
    He.noat_ok (c.fact 52 (f := .noat "Sizes" "size_list") rfl),
    rdB_ok x1,
    cvB_ok x2,
    cvB_ok x3,
    hsys,
    cvB_ok x5,
    He.glo_ok X G (c.fact 24 (f := .glo "Layout") rfl),
    He.cls_ok (c.fact 57 (f := .cls "Layout") rfl),
    He.noat_ok (c.fact 59 (f := .noat "Layout" "size_table") rfl),
    He.noat_ok (c.fact 60 (f := .noat "Layout" "cell_count") rfl),
    He.noat_ok (c.fact 61 (f := .noat "Layout" "free_count") rfl),
    He.noat_ok (c.fact 62 (f := .noat "Layout" "block_list") rfl),
    insB_ok (He.cls_ok (c.fact 51 (f := .cls "Sizes") rfl)) xi_S,
    insB_ok (He.cls_ok (c.fact 57 (f := .cls "Layout") rfl)) xi_L,
    He.free_ok X G (c.fact 47 (f := .free "str") rfl),
    He.free_ok X G (c.fact 48 (f := .free "LookupError") rfl),
    He.free_ok X G (c.fact 49 (f := .free "RuntimeError") rfl),
    He.free_ok X G (c.fact 50 (f := .free "ValueError") rfl),
    He.glo_ok X G (c.fact 25 (f := .glo "InvalidAddress") rfl),
    He.glo_ok X G (c.fact 26 (f := .glo "UnknownBlock") rfl),
    He.glo_ok X G (c.fact 27 (f := .glo "Occupied") rfl),
    errG_ok base_VE xA,
    errG_ok base_LE xU,
    errG_ok base_RE xO,
    bOf_ok yA,
    bOf_ok yU,
    bOf_ok yO,
    bOf_ok yN,
    neB_ok xn_S⟩
theorem df {x : Str} {ps : List Str} {sp : Sp} {k : Nat} {st : Stmt} {fd : FuncData} (X : K.In h) (G : h.Ns mainGlobals mg) (g : (He.Fa.glo x).ok K = true) (F : FnP K x x st (He.ga K x) fd)
    (hb : ∀ (kV doc pm : Value) (an : Option Addr) (cdv ct : Value) (us : List Value), us.length = ps.length → bindArgs (PySem.W.fnOf x x (defArgs st) (defBody st) (defScope st) .none kV doc pm an cdv ct) ⟨us, []⟩ = pure (ps.zip us))
    (ok : FnOk P w K mg base CX0 k (He.ga K x) fd ps sp) : Df P w K mg base k x ps sp := ⟨⟨fd, ok, F.bindsN hb⟩, He.glo_ok X G g, F.kp⟩
theorem dfG {x : Str} {ps : List Str} {sp : Sp} {k : Nat} {st : Stmt} {fd : FuncData} (X : K.In h) (G : h.Ns mainGlobals mg) (g : (He.Fa.glo x).ok K = true) (F : FnP K x x st (He.ga K x) fd)
    (hb : ∀ (kV doc pm : Value) (an : Option Addr) (cdv ct : Value) (us : List Value), us.length = ps.length → bindArgs (PySem.W.fnOf x x (defArgs st) (defBody st) (defScope st) .none kV doc pm an cdv ct) ⟨us, []⟩ = pure (ps.zip us))
    (ok : FnG P w K mg base CX0 k (He.ga K x) fd ps sp) : DfG P w K mg base k x ps sp := ⟨⟨fd, ok, F.bindsN hb⟩, He.glo_ok X G g, F.kp⟩
theorem dfX {x : Str} {ps : List Str} {sp : Sp} {k : Nat} {st : Stmt} {fd : FuncData} (X : K.In h) (G : h.Ns mainGlobals mg) (g : (He.Fa.glo x).ok K = true) (F : FnP K x x st (He.ga K x) fd)
    (hb : ∀ (kV doc pm : Value) (an : Option Addr) (cdv ct : Value) (us : List Value), us.length = ps.length → bindArgs (PySem.W.fnOf x x (defArgs st) (defBody st) (defScope st) .none kV doc pm an cdv ct) ⟨us, []⟩ = pure (ps.zip us))
    (ok : FnOk P w K mg base (L2.CX P w) k (He.ga K x) fd ps sp) : DfX P w K mg base k x ps sp := ⟨⟨fd, ok, F.bindsN hb⟩, He.glo_ok X G g, F.kp⟩
theorem dfK {x : Str} {ps ks : List Str} {j : List Nat} {sp : Sp} {k : Nat} {st : Stmt} {fd : FuncData} (X : K.In h) (G : h.Ns mainGlobals mg) (g : (He.Fa.glo x).ok K = true) (F : FnP K x x st (He.ga K x) fd)
    (hb : ∀ (kV doc pm : Value) (an : Option Addr) (cdv ct : Value) (ws : List Value), ws.length = ks.length → bindArgs (PySem.W.fnOf x x (defArgs st) (defBody st) (defScope st) .none kV doc pm an cdv ct) ⟨[], ks.zip ws⟩ = pure (ps.zip (j.filterMap fun i => ws[i]?)))
    (ok : FnOk P w K mg base CX0 k (He.ga K x) fd ps sp) : DfK P w K mg base k x ps ks j sp := by
  refine ⟨⟨fd, ok, fun s ws hl => ?_⟩, He.glo_ok X G g, F.kp⟩
  obtain ⟨oc, od, dV, kV, doc, pm, an, cdv, ct, osl, rfl, lk, hcd, hD, hK⟩ := F.ex
  rcases hD with ⟨_, rfl⟩ | ⟨e, _⟩
  · exact .of_eq (hb kV doc pm an cdv ct ws hl)
  · exact absurd rfl e
theorem facts {f : Addr} (X : K.In h) (G : h.Ns mainGlobals mg) (hfa : mg ("law" : Str) = some (.ref f)) (c0 : ob0 K = vl0) :
    ∃ fd : FuncData, (∀ (s : Shared) (v : Value), BindsTo s fd ⟨[v], []⟩ [("_law_script", v)]) ∧ ∀ base : Heap, K.In base → base.Ns mainGlobals mg → FnG P w K mg base CX0 13 f fd ["_law_script"] (spLaw K) := by
  have c : He.SaysD fa fn K := congrArg (fun z : AlE => z.1) c0
  have x : exB K = true := congrArg (fun z : AlE => z.2.1) c0
  have vt_top : fnAt K (pgA K (He.ga K "Sizes") "top") = v_top := congrArg (fun z : AlE => z.2.2.1) c0
  have vt_sizes : fnAt K (pgA K (He.ga K "Layout") "sizes") = v_sizes := congrArg (fun z : AlE => z.2.2.2.1) c0
  have vt_length : fnAt K (pgA K (He.ga K "Layout") "length") = v_length := congrArg (fun z : AlE => z.2.2.2.2) c0
  have T := tx X G c x
  obtain ⟨x1, x⟩ := He.ba x
  obtain ⟨x2, x⟩ := He.ba x
  obtain ⟨x3, x⟩ := He.ba x
  obtain ⟨x4, x⟩ := He.ba x
  obtain ⟨x5, x⟩ := He.ba x
  obtain ⟨xe_S, x⟩ := He.ba x
  obtain ⟨xn_S, x⟩ := He.ba x
  obtain ⟨xi_S, x⟩ := He.ba x
  obtain ⟨xi_L, x⟩ := He.ba x
  obtain ⟨xA, x⟩ := He.ba x
  obtain ⟨xU, x⟩ := He.ba x
  obtain ⟨xO, x⟩ := He.ba x
  obtain ⟨yA, x⟩ := He.ba x
  obtain ⟨yU, x⟩ := He.ba x
  obtain ⟨yO, x⟩ := He.ba x
  obtain ⟨yN, x⟩ := He.ba x
  obtain ⟨xp_top, x⟩ := He.ba x
  obtain ⟨xo_top, x⟩ := He.ba x
  obtain ⟨xp_sizes, x⟩ := He.ba x
  obtain ⟨xo_sizes, x⟩ := He.ba x
  obtain ⟨xp_length, x⟩ := He.ba x
  obtain ⟨xo_length, x⟩ := He.ba x
  obtain ⟨fdP_top, FP_top⟩ := fun_at vt_top xo_top
  obtain ⟨fdP_sizes, FP_sizes⟩ := fun_at vt_sizes xo_sizes
  obtain ⟨fdP_length, FP_length⟩ := fun_at vt_length xo_length
  obtain ⟨fd0, F0⟩ : ∃ fd, FnP K "is_integer" "is_integer" (top 10) (He.ga K "is_integer") fd := c.def_ 0 (d := dOf ("is_integer", none) "is_integer" "is_integer" (top 10)) rfl
  obtain ⟨fd1, F1⟩ : ∃ fd, FnP K "size_problem" "size_problem" (top 13) (He.ga K "size_problem") fd := c.def_ 1 (d := dOf ("size_problem", none) "size_problem" "size_problem" (top 13)) rfl
  obtain ⟨fd2, F2⟩ : ∃ fd, FnP K "check_sizes" "check_sizes" (top 14) (He.ga K "check_sizes") fd := c.def_ 2 (d := dOf ("check_sizes", none) "check_sizes" "check_sizes" (top 14)) rfl
  obtain ⟨fd3, F3⟩ : ∃ fd, FnP K "is_cells" "is_cells" (top 11) (He.ga K "is_cells") fd := c.def_ 3 (d := dOf ("is_cells", none) "is_cells" "is_cells" (top 11)) rfl
  obtain ⟨fd4, F4⟩ : ∃ fd, FnP K "check_cells" "check_cells" (top 12) (He.ga K "check_cells") fd := c.def_ 4 (d := dOf ("check_cells", none) "check_cells" "check_cells" (top 12)) rfl
  obtain ⟨fd5, F5⟩ : ∃ fd, FnP K "__init__" "Sizes.__init__" (inClass (top 15) 4) (He.ma K (He.ga K "Sizes") "__init__") fd := c.def_ 5 (d := dOf ("Sizes", some "__init__") "__init__" "Sizes.__init__" (inClass (top 15) 4)) rfl
  obtain ⟨fd6, F6⟩ : ∃ fd, FnP K "__eq__" "Sizes.__eq__" (inClass (top 15) 5) (He.ma K (He.ga K "Sizes") "__eq__") fd := c.def_ 6 (d := dOf ("Sizes", some "__eq__") "__eq__" "Sizes.__eq__" (inClass (top 15) 5)) rfl
  obtain ⟨fd7, F7⟩ : ∃ fd, FnP K "has_level" "Sizes.has_level" (inClass (top 15) 12) (He.ma K (He.ga K "Sizes") "has_level") fd := c.def_ 7 (d := dOf ("Sizes", some "has_level") "has_level" "Sizes.has_level" (inClass (top 15) 12)) rfl
  obtain ⟨fd8, F8⟩ : ∃ fd, FnP K "check_level" "Sizes.check_level" (inClass (top 15) 13) (He.ma K (He.ga K "Sizes") "check_level") fd := c.def_ 8 (d := dOf ("Sizes", some "check_level") "check_level" "Sizes.check_level" (inClass (top 15) 13)) rfl
  obtain ⟨fd9, F9⟩ : ∃ fd, FnP K "size" "Sizes.size" (inClass (top 15) 14) (He.ma K (He.ga K "Sizes") "size") fd := c.def_ 9 (d := dOf ("Sizes", some "size") "size" "Sizes.size" (inClass (top 15) 14)) rfl
  obtain ⟨fd10, F10⟩ : ∃ fd, FnP K "__init__" "Layout.__init__" (inClass (top 21) 0) (He.ma K (He.ga K "Layout") "__init__") fd := c.def_ 10 (d := dOf ("Layout", some "__init__") "__init__" "Layout.__init__" (inClass (top 21) 0)) rfl
  obtain ⟨fd11, F11⟩ : ∃ fd, FnP K "count_below" "Layout.count_below" (inClass (top 21) 9) (He.ma K (He.ga K "Layout") "count_below") fd := c.def_ 11 (d := dOf ("Layout", some "count_below") "count_below" "Layout.count_below" (inClass (top 21) 9)) rfl
  obtain ⟨fd12, F12⟩ : ∃ fd, FnP K "index_of" "Layout.index_of" (inClass (top 21) 10) (He.ma K (He.ga K "Layout") "index_of") fd := c.def_ 12 (d := dOf ("Layout", some "index_of") "index_of" "Layout.index_of" (inClass (top 21) 10)) rfl
  obtain ⟨fd13, F13⟩ : ∃ fd, FnP K "block_at" "Layout.block_at" (inClass (top 21) 11) (He.ma K (He.ga K "Layout") "block_at") fd := c.def_ 13 (d := dOf ("Layout", some "block_at") "block_at" "Layout.block_at" (inClass (top 21) 11)) rfl
  obtain ⟨fd14, F14⟩ : ∃ fd, FnP K "first_taken" "Layout.first_taken" (inClass (top 21) 12) (He.ma K (He.ga K "Layout") "first_taken") fd := c.def_ 14 (d := dOf ("Layout", some "first_taken") "first_taken" "Layout.first_taken" (inClass (top 21) 12)) rfl
  obtain ⟨fd15, F15⟩ : ∃ fd, FnK K "put" "Layout.put" (inClass (top 21) 13) [("pinned", .bl false)] (He.ma K (He.ga K "Layout") "put") fd := c.def_ 15 (d := dOfK ("Layout", some "put") "put" "Layout.put" (inClass (top 21) 13) [("pinned", .bl false)]) rfl
  obtain ⟨fd16, F16⟩ : ∃ fd, FnP K "take_out" "Layout.take_out" (inClass (top 21) 14) (He.ma K (He.ga K "Layout") "take_out") fd := c.def_ 16 (d := dOf ("Layout", some "take_out") "take_out" "Layout.take_out" (inClass (top 21) 14)) rfl
  obtain ⟨fd17, F17⟩ : ∃ fd, FnP K "set_pinned" "Layout.set_pinned" (inClass (top 21) 15) (He.ma K (He.ga K "Layout") "set_pinned") fd := c.def_ 17 (d := dOf ("Layout", some "set_pinned") "set_pinned" "Layout.set_pinned" (inClass (top 21) 15)) rfl
  obtain ⟨fd18, F18⟩ : ∃ fd, FnP K "blocks" "Layout.blocks" (inClass (top 21) 7) (He.ma K (He.ga K "Layout") "blocks") fd := c.def_ 18 (d := dOf ("Layout", some "blocks") "blocks" "Layout.blocks" (inClass (top 21) 7)) rfl
  obtain ⟨fd19, F19⟩ : ∃ fd, FnP K "__len__" "Layout.__len__" (inClass (top 21) 2) (He.ma K (He.ga K "Layout") "__len__") fd := c.def_ 19 (d := dOf ("Layout", some "__len__") "__len__" "Layout.__len__" (inClass (top 21) 2)) rfl
  obtain ⟨fd20, F20⟩ : ∃ fd, FnP K "__repr__" "Layout.__repr__" (inClass (top 21) 3) (He.ma K (He.ga K "Layout") "__repr__") fd := c.def_ 20 (d := dOf ("Layout", some "__repr__") "__repr__" "Layout.__repr__" (inClass (top 21) 3)) rfl
  obtain ⟨fd21, F21⟩ : ∃ fd, FnP K "__init__" "InvalidAddress.__init__" (inClass (top 6) 0) (He.ma K (He.ga K "InvalidAddress") "__init__") fd := c.def_ 21 (d := dOf ("InvalidAddress", some "__init__") "__init__" "InvalidAddress.__init__" (inClass (top 6) 0)) rfl
  obtain ⟨fd22, F22⟩ : ∃ fd, FnP K "__init__" "UnknownBlock.__init__" (inClass (top 7) 0) (He.ma K (He.ga K "UnknownBlock") "__init__") fd := c.def_ 22 (d := dOf ("UnknownBlock", some "__init__") "__init__" "UnknownBlock.__init__" (inClass (top 7) 0)) rfl
  obtain ⟨fd23, F23⟩ : ∃ fd, FnP K "__init__" "Occupied.__init__" (inClass (top 8) 0) (He.ma K (He.ga K "Occupied") "__init__") fd := c.def_ 23 (d := dOf ("Occupied", some "__init__") "__init__" "Occupied.__init__" (inClass (top 8) 0)) rfl
  obtain ⟨fd24, F24⟩ : ∃ fd, FnP K "is_address" "is_address" (top 17) (He.ga K "is_address") fd := c.def_ 24 (d := dOf ("is_address", none) "is_address" "is_address" (top 17)) rfl
  obtain ⟨fd25, F25⟩ : ∃ fd, FnP K "lies_below" "lies_below" (top 18) (He.ga K "lies_below") fd := c.def_ 25 (d := dOf ("lies_below", none) "lies_below" "lies_below" (top 18)) rfl
  obtain ⟨fd26, F26⟩ : ∃ fd, FnP K "is_region" "is_region" (top 19) (He.ga K "is_region") fd := c.def_ 26 (d := dOf ("is_region", none) "is_region" "is_region" (top 19)) rfl
  obtain ⟨fd27, F27⟩ : ∃ fd, FnP K "_law_rng" "_law_rng" (top 23) (He.ga K "_law_rng") fd := c.def_ 27 (d := dOf ("_law_rng", none) "_law_rng" "_law_rng" (top 23)) rfl
  obtain ⟨fd28, F28⟩ : ∃ fd, FnP K "_law_draw" "_law_draw" (top 24) (He.ga K "_law_draw") fd := c.def_ 28 (d := dOf ("_law_draw", none) "_law_draw" "_law_draw" (top 24)) rfl
  obtain ⟨fd29, F29⟩ : ∃ fd, FnP K "_law_choice" "_law_choice" (top 25) (He.ga K "_law_choice") fd := c.def_ 29 (d := dOf ("_law_choice", none) "_law_choice" "_law_choice" (top 25)) rfl
  obtain ⟨fd30, F30⟩ : ∃ fd, FnP K "_law_sizes" "_law_sizes" (top 26) (He.ga K "_law_sizes") fd := c.def_ 30 (d := dOf ("_law_sizes", none) "_law_sizes" "_law_sizes" (top 26)) rfl
  obtain ⟨fd31, F31⟩ : ∃ fd, FnP K "_law_length" "_law_length" (top 27) (He.ga K "_law_length") fd := c.def_ 31 (d := dOf ("_law_length", none) "_law_length" "_law_length" (top 27)) rfl
  obtain ⟨fd32, F32⟩ : ∃ fd, FnP K "_law_place" "_law_place" (top 28) (He.ga K "_law_place") fd := c.def_ 32 (d := dOf ("_law_place", none) "_law_place" "_law_place" (top 28)) rfl
  obtain ⟨fd33, F33⟩ : ∃ fd, FnP K "_law_first_taken" "_law_first_taken" (top 29) (He.ga K "_law_first_taken") fd := c.def_ 33 (d := dOf ("_law_first_taken", none) "_law_first_taken" "_law_first_taken" (top 29)) rfl
  obtain ⟨fd34, F34⟩ : ∃ fd, FnP K "_law_put_called" "_law_put_called" (top 30) (He.ga K "_law_put_called") fd := c.def_ 34 (d := dOf ("_law_put_called", none) "_law_put_called" "_law_put_called" (top 30)) rfl
  obtain ⟨fd35, F35⟩ : ∃ fd, FnP K "_law_put_right" "_law_put_right" (top 31) (He.ga K "_law_put_right") fd := c.def_ 35 (d := dOf ("_law_put_right", none) "_law_put_right" "_law_put_right" (top 31)) rfl
  obtain ⟨fd36, F36⟩ : ∃ fd, FnP K "_law_changed_right" "_law_changed_right" (top 32) (He.ga K "_law_changed_right") fd := c.def_ 36 (d := dOf ("_law_changed_right", none) "_law_changed_right" "_law_changed_right" (top 32)) rfl
  obtain ⟨fd37, F37⟩ : ∃ fd, FnP K "_law_block_due" "_law_block_due" (top 33) (He.ga K "_law_block_due") fd := c.def_ 37 (d := dOf ("_law_block_due", none) "_law_block_due" "_law_block_due" (top 33)) rfl
  obtain ⟨fd38, F38⟩ : ∃ fd, FnP K "_law_stands" "_law_stands" (top 34) (He.ga K "_law_stands") fd := c.def_ 38 (d := dOf ("_law_stands", none) "_law_stands" "_law_stands" (top 34)) rfl
  obtain ⟨fd39, F39⟩ : ∃ fd, FnP K "_law_odd_told" "_law_odd_told" (top 35) (He.ga K "_law_odd_told") fd := c.def_ 39 (d := dOf ("_law_odd_told", none) "_law_odd_told" "_law_odd_told" (top 35)) rfl
  obtain ⟨fd40, F40⟩ : ∃ fd, FnP K "_law_bools_right" "_law_bools_right" (top 36) (He.ga K "_law_bools_right") fd := c.def_ 40 (d := dOf ("_law_bools_right", none) "_law_bools_right" "_law_bools_right" (top 36)) rfl
  obtain ⟨fd41, F41⟩ : ∃ fd, FnP K "law" "law" (top 37) (He.ga K "law") fd := c.def_ 41 (d := dOf ("law", none) "law" "law" (top 37)) rfl
  have e := hfa.symm.trans (He.glo_ok X G (c.fact 22 (f := .glo "law") rfl))
  cases e
  have b := FunD.bindsA (ps := ["_law_script"]) F41 (fun _ _ _ _ _ _ us hl => match us, hl with | [_], _ => rfl)
  refine ⟨_, fun s v => b s [v] rfl, fun base _ _ => ?_⟩
  have D_is_integer := df (P := P) (w := w) (base := base) X G (c.fact 0 (f := .glo "is_integer") rfl) F0 (ps := ["value"]) (fun _ _ _ _ _ _ us hl => match us, hl with | [_], _ => rfl) (ok_is_integer T F0)
  have D_size_problem := df (P := P) (w := w) (base := base) X G (c.fact 1 (f := .glo "size_problem") rfl) F1 (ps := ["values", "position"]) (fun _ _ _ _ _ _ us hl => match us, hl with | [_, _], _ => rfl) (ok_size_problem T D_is_integer F1)
  have D_check_sizes := df (P := P) (w := w) (base := base) X G (c.fact 2 (f := .glo "check_sizes") rfl) F2 (ps := ["values"]) (fun _ _ _ _ _ _ us hl => match us, hl with | [_], _ => rfl) (ok_check_sizes T D_size_problem F2)
  have D_Sizes : Kf P w K mg base _ "Sizes" ["self", "values"] _ := ⟨⟨fd5, ok_init T D_check_sizes F5, F5.bindsN (fun _ _ _ _ _ _ us hl => match us, hl with | [_, _], _ => rfl)⟩, He.glo_ok X G (c.fact 23 (f := .glo "Sizes") rfl), He.mkr_ok (c.fact 53 (f := .mkr "Sizes") rfl)⟩
  have P_top : Pf P w K mg base 1 "Sizes" "top" (spTop K) := ⟨He.cls_ok (c.fact 51 (f := .cls "Sizes") rfl), _, _, fdP_top, prB_ok xp_top, ok_top T FP_top, FunD.bindsN FP_top (fun _ _ _ _ _ _ us hl => match us, hl with | [_], _ => rfl)⟩
  have E_Sizes : EqOf P w K mg base 1 "Sizes" (spSEq K) := ⟨⟨fd6, ok_seq T F6, F6.bindsN (fun _ _ _ _ _ _ us hl => match us, hl with | [_, _], _ => rfl)⟩, (eqB_ok xe_S).1, (eqB_ok xe_S).2⟩
  have M_has_level : Mf P w K mg base _ "Sizes" "has_level" ["self", "level"] _ := ⟨⟨fd7, ok_has T D_is_integer P_top F7, F7.bindsN (fun _ _ _ _ _ _ us hl => match us, hl with | [_, _], _ => rfl)⟩, He.cls_ok (c.fact 51 (f := .cls "Sizes") rfl), He.meth_ok (c.fact 54 (f := .meth "Sizes" "has_level") rfl)⟩
  have M_check_level : Mf P w K mg base _ "Sizes" "check_level" ["self", "level"] _ := ⟨⟨fd8, ok_check_level T M_has_level F8, F8.bindsN (fun _ _ _ _ _ _ us hl => match us, hl with | [_, _], _ => rfl)⟩, He.cls_ok (c.fact 51 (f := .cls "Sizes") rfl), He.meth_ok (c.fact 55 (f := .meth "Sizes" "check_level") rfl)⟩
  have M_size : Mf P w K mg base _ "Sizes" "size" ["self", "level"] _ := ⟨⟨fd9, ok_size T M_check_level F9, F9.bindsN (fun _ _ _ _ _ _ us hl => match us, hl with | [_, _], _ => rfl)⟩, He.cls_ok (c.fact 51 (f := .cls "Sizes") rfl), He.meth_ok (c.fact 56 (f := .meth "Sizes" "size") rfl)⟩
  have D_is_cells := df (P := P) (w := w) (base := base) X G (c.fact 3 (f := .glo "is_cells") rfl) F3 (ps := ["value"]) (fun _ _ _ _ _ _ us hl => match us, hl with | [_], _ => rfl) (ok_is_cells T D_is_integer F3)
  have D_check_cells := df (P := P) (w := w) (base := base) X G (c.fact 4 (f := .glo "check_cells") rfl) F4 (ps := ["value"]) (fun _ _ _ _ _ _ us hl => match us, hl with | [_], _ => rfl) (ok_check_cells T D_is_cells F4)
  have D_lies_below := df (P := P) (w := w) (base := base) X G (c.fact 6 (f := .glo "lies_below") rfl) F25 (ps := ["sizes", "level", "address", "end"]) (fun _ _ _ _ _ _ us hl => match us, hl with | [_, _, _, _], _ => rfl) (ok_below T M_size F25)
  have D_is_integerA := df (P := P) (w := w) (base := base) X G (c.fact 0 (f := .glo "is_integer") rfl) F0 (ps := ["value"]) (fun _ _ _ _ _ _ us hl => match us, hl with | [_], _ => rfl) (ok_is_integerA T F0)
  have D_is_addressA := df (P := P) (w := w) (base := base) X G (c.fact 5 (f := .glo "is_address") rfl) F24 (ps := ["value"]) (fun _ _ _ _ _ _ us hl => match us, hl with | [_], _ => rfl) (ok_is_addressA T D_is_integerA F24)
  have D_is_regionA := df (P := P) (w := w) (base := base) X G (c.fact 7 (f := .glo "is_region") rfl) F26 (ps := ["sizes", "length", "level", "address"]) (fun _ _ _ _ _ _ us hl => match us, hl with | [_, _, _, _], _ => rfl) (ok_is_regionA T D_check_cells M_has_level D_is_addressA D_lies_below F26)
  have MA : Ex.Ei P w K mg base "InvalidAddress" "value" := ⟨⟨fd21, ok_errA T F21, F21.bindsN (fun _ _ _ _ _ _ us hl => match us, hl with | [_, _], _ => rfl)⟩⟩
  have MU : Ex.Ei P w K mg base "UnknownBlock" "value" := ⟨⟨fd22, ok_errU T F22, F22.bindsN (fun _ _ _ _ _ _ us hl => match us, hl with | [_, _], _ => rfl)⟩⟩
  have MO : Ex.Ei P w K mg base "Occupied" "address" := ⟨⟨fd23, ok_errO T F23, F23.bindsN (fun _ _ _ _ _ _ us hl => match us, hl with | [_, _], _ => rfl)⟩⟩
  have D_Layout : Kf P w K mg base _ "Layout" ["self", "sizes", "length"] _ := ⟨⟨fd10, ok_new T D_check_cells F10, F10.bindsN (fun _ _ _ _ _ _ us hl => match us, hl with | [_, _, _], _ => rfl)⟩, He.glo_ok X G (c.fact 24 (f := .glo "Layout") rfl), He.mkr_ok (c.fact 58 (f := .mkr "Layout") rfl)⟩
  have P_sizes : Pf P w K mg base 1 "Layout" "sizes" (spSzs K) := ⟨He.cls_ok (c.fact 57 (f := .cls "Layout") rfl), _, _, fdP_sizes, prB_ok xp_sizes, ok_szs T FP_sizes, FunD.bindsN FP_sizes (fun _ _ _ _ _ _ us hl => match us, hl with | [_], _ => rfl)⟩
  have P_length : Pf P w K mg base 1 "Layout" "length" (spLng K) := ⟨He.cls_ok (c.fact 57 (f := .cls "Layout") rfl), _, _, fdP_length, prB_ok xp_length, ok_lng T FP_length, FunD.bindsN FP_length (fun _ _ _ _ _ _ us hl => match us, hl with | [_], _ => rfl)⟩
  have M_llen : Mf P w K mg base _ "Layout" "__len__" ["self"] _ := ⟨⟨fd19, ok_llen T F19, F19.bindsN (fun _ _ _ _ _ _ us hl => match us, hl with | [_], _ => rfl)⟩, He.cls_ok (c.fact 57 (f := .cls "Layout") rfl), He.meth_ok (c.fact 71 (f := .meth "Layout" "__len__") rfl)⟩
  have M_lrepr : MfG P w K mg base _ "Layout" "__repr__" ["self"] _ := ⟨⟨fd20, ok_lrepr T F20, F20.bindsN (fun _ _ _ _ _ _ us hl => match us, hl with | [_], _ => rfl)⟩, He.cls_ok (c.fact 57 (f := .cls "Layout") rfl), He.meth_ok (c.fact 72 (f := .meth "Layout" "__repr__") rfl)⟩
  have M_count_below : Mf P w K mg base _ "Layout" "count_below" ["self", "address"] _ := ⟨⟨fd11, ok_cb T F11, F11.bindsN (fun _ _ _ _ _ _ us hl => match us, hl with | [_, _], _ => rfl)⟩, He.cls_ok (c.fact 57 (f := .cls "Layout") rfl), He.meth_ok (c.fact 63 (f := .meth "Layout" "count_below") rfl)⟩
  have M_index_of : MfX P w K mg base _ "Layout" "index_of" ["self", "address"] _ := ⟨⟨fd12, ok_ix T D_is_integerA M_count_below MU F12, F12.bindsN (fun _ _ _ _ _ _ us hl => match us, hl with | [_, _], _ => rfl)⟩, He.cls_ok (c.fact 57 (f := .cls "Layout") rfl), He.meth_ok (c.fact 64 (f := .meth "Layout" "index_of") rfl)⟩
  have M_block_at : MfX P w K mg base _ "Layout" "block_at" ["self", "address"] _ := ⟨⟨fd13, ok_at T D_is_addressA M_count_below M_size MA F13, F13.bindsN (fun _ _ _ _ _ _ us hl => match us, hl with | [_, _], _ => rfl)⟩, He.cls_ok (c.fact 57 (f := .cls "Layout") rfl), He.meth_ok (c.fact 65 (f := .meth "Layout" "block_at") rfl)⟩
  have M_block_at_kw : MfXK P w K mg base 7 "Layout" "block_at" ["self", "address"] ["address"] [0] (spAt K) := ⟨⟨fd13, ok_at T D_is_addressA M_count_below M_size MA F13, bindsKw F13 (fun _ _ _ _ _ _ _ ws hl => match ws, hl with | [_], _ => rfl)⟩, He.cls_ok (c.fact 57 (f := .cls "Layout") rfl), He.meth_ok (c.fact 65 (f := .meth "Layout" "block_at") rfl)⟩
  have M_first_taken : Mf P w K mg base _ "Layout" "first_taken" ["self", "low", "high"] _ := ⟨⟨fd14, ok_first T M_block_at M_count_below F14, F14.bindsN (fun _ _ _ _ _ _ us hl => match us, hl with | [_, _, _], _ => rfl)⟩, He.cls_ok (c.fact 57 (f := .cls "Layout") rfl), He.meth_ok (c.fact 66 (f := .meth "Layout" "first_taken") rfl)⟩
  have M_put_d : MfXD P w K mg base 9 "Layout" "put" ["self", "level", "address", "pinned"] [.bl false] (spPut K) := by
    obtain ⟨ds, vd, bd⟩ := FunD.binds0 F15 (ps := ["self", "level", "address", "pinned"]) 3 (List.cons_ne_nil _ _) rfl (fun D doc pm an cdv ct us ks h1 h2 => match us, ks, h1, h2 with | [_, _, _], [_], _, _ => ⟨_, _, _, _, _, _, rfl, rfl, rfl⟩)
    exact ⟨⟨fd15, ds, ok_put T M_size D_is_regionA M_first_taken MA MO M_count_below F15, vd, bd⟩, He.cls_ok (c.fact 57 (f := .cls "Layout") rfl), He.meth_ok (c.fact 67 (f := .meth "Layout" "put") rfl)⟩
  have M_put_k : MfXK P w K mg base 9 "Layout" "put" ["self", "level", "address", "pinned"] ["pinned", "address", "level"] [2, 1, 0] (spPut K) := ⟨⟨fd15, ok_put T M_size D_is_regionA M_first_taken MA MO M_count_below F15, bindsKwD F15 (fun _ _ _ _ _ _ _ ws hl => match ws, hl with | [_, _, _], _ => rfl)⟩, He.cls_ok (c.fact 57 (f := .cls "Layout") rfl), He.meth_ok (c.fact 67 (f := .meth "Layout" "put") rfl)⟩
  have M_put_p : MfKX P w K mg base 9 "Layout" "put" ["self", "level", "address", "pinned"] 3 ["pinned"] (spPut K) := ⟨⟨fd15, ok_put T M_size D_is_regionA M_first_taken MA MO M_count_below F15, bindsK F15 (fun _ _ _ _ _ _ us ws hu hw => match us, ws, hu, hw with | [_, _, _], [_], _, _ => rfl)⟩, He.cls_ok (c.fact 57 (f := .cls "Layout") rfl), He.meth_ok (c.fact 67 (f := .meth "Layout" "put") rfl)⟩
  have M_take_out : MfX P w K mg base _ "Layout" "take_out" ["self", "address"] _ := ⟨⟨fd16, ok_take T M_index_of M_size F16, F16.bindsN (fun _ _ _ _ _ _ us hl => match us, hl with | [_, _], _ => rfl)⟩, He.cls_ok (c.fact 57 (f := .cls "Layout") rfl), He.meth_ok (c.fact 68 (f := .meth "Layout" "take_out") rfl)⟩
  have M_take_out_kw : MfXK P w K mg base 6 "Layout" "take_out" ["self", "address"] ["address"] [0] (spTake K) := ⟨⟨fd16, ok_take T M_index_of M_size F16, bindsKw F16 (fun _ _ _ _ _ _ _ ws hl => match ws, hl with | [_], _ => rfl)⟩, He.cls_ok (c.fact 57 (f := .cls "Layout") rfl), He.meth_ok (c.fact 68 (f := .meth "Layout" "take_out") rfl)⟩
  have M_set_pinned : MfX P w K mg base _ "Layout" "set_pinned" ["self", "address", "pinned"] _ := ⟨⟨fd17, ok_pin T M_index_of F17, F17.bindsN (fun _ _ _ _ _ _ us hl => match us, hl with | [_, _, _], _ => rfl)⟩, He.cls_ok (c.fact 57 (f := .cls "Layout") rfl), He.meth_ok (c.fact 69 (f := .meth "Layout" "set_pinned") rfl)⟩
  have M_set_pinned_kw : MfXK P w K mg base 5 "Layout" "set_pinned" ["self", "address", "pinned"] ["pinned", "address"] [1, 0] (spPin K) := ⟨⟨fd17, ok_pin T M_index_of F17, bindsKw F17 (fun _ _ _ _ _ _ _ ws hl => match ws, hl with | [_, _], _ => rfl)⟩, He.cls_ok (c.fact 57 (f := .cls "Layout") rfl), He.meth_ok (c.fact 69 (f := .meth "Layout" "set_pinned") rfl)⟩
  have M_blocks : Mf P w K mg base _ "Layout" "blocks" ["self"] _ := ⟨⟨fd18, ok_blk T F18, F18.bindsN (fun _ _ _ _ _ _ us hl => match us, hl with | [_], _ => rfl)⟩, He.cls_ok (c.fact 57 (f := .cls "Layout") rfl), He.meth_ok (c.fact 70 (f := .meth "Layout" "blocks") rfl)⟩
  have D__law_rng := df (P := P) (w := w) (base := base) X G (c.fact 8 (f := .glo "_law_rng") rfl) F27 (ps := ["_law_script", "_law_k"]) (fun _ _ _ _ _ _ us hl => match us, hl with | [_, _], _ => rfl) (ok_rng T F27)
  have D__law_draw := df (P := P) (w := w) (base := base) X G (c.fact 9 (f := .glo "_law_draw") rfl) F28 (ps := ["_law_rng_here", "_law_many"]) (fun _ _ _ _ _ _ us hl => match us, hl with | [_, _], _ => rfl) (ok_draw T F28)
  have D__law_choice := df (P := P) (w := w) (base := base) X G (c.fact 10 (f := .glo "_law_choice") rfl) F29 (ps := ["_law_rng_here", "_law_options"]) (fun _ _ _ _ _ _ us hl => match us, hl with | [_, _], _ => rfl) (ok_choice T D__law_draw F29)
  have D__law_sizes := df (P := P) (w := w) (base := base) X G (c.fact 11 (f := .glo "_law_sizes") rfl) F30 (ps := ["_law_rng_here", "_law_levels", "_law_greatest"]) (fun _ _ _ _ _ _ us hl => match us, hl with | [_, _, _], _ => rfl) (ok_sizes T D__law_draw F30)
  have D__law_length := df (P := P) (w := w) (base := base) X G (c.fact 12 (f := .glo "_law_length") rfl) F31 (ps := ["_law_rng_here", "_law_sizes_here"]) (fun _ _ _ _ _ _ us hl => match us, hl with | [_, _], _ => rfl) (ok_len_ T D__law_draw F31)
  have D__law_place := df (P := P) (w := w) (base := base) X G (c.fact 13 (f := .glo "_law_place") rfl) F32 (ps := ["_law_rng_here", "_law_world", "_law_rank"]) (fun _ _ _ _ _ _ us hl => match us, hl with | [_, _, _], _ => rfl) (ok_place T D__law_draw D__law_choice F32)
  have D__law_first_taken := df (P := P) (w := w) (base := base) X G (c.fact 14 (f := .glo "_law_first_taken") rfl) F33 (ps := ["_law_world", "_law_rank", "_law_spot"]) (fun _ _ _ _ _ _ us hl => match us, hl with | [_, _, _], _ => rfl) (ok_ft T F33)
  have D__law_put_called := dfX (P := P) (w := w) (base := base) X G (c.fact 15 (f := .glo "_law_put_called") rfl) F34 (ps := ["_law_rng_here", "_law_layout", "_law_rank", "_law_spot", "_law_fixed"]) (fun _ _ _ _ _ _ us hl => match us, hl with | [_, _, _, _, _], _ => rfl) (ok_pc T D__law_draw M_put_d M_put_k M_put_p F34)
  have D__law_put_right := dfG (P := P) (w := w) (base := base) X G (c.fact 16 (f := .glo "_law_put_right") rfl) F35 (ps := ["_law_rng_here", "_law_layout", "_law_world"]) (fun _ _ _ _ _ _ us hl => match us, hl with | [_, _, _], _ => rfl) (ok_putr T D__law_draw D__law_place D__law_first_taken D__law_put_called F35)
  have D__law_changed_right := dfG (P := P) (w := w) (base := base) X G (c.fact 17 (f := .glo "_law_changed_right") rfl) F36 (ps := ["_law_rng_here", "_law_layout", "_law_world"]) (fun _ _ _ _ _ _ us hl => match us, hl with | [_, _, _], _ => rfl) (ok_chr T D__law_draw D__law_choice M_take_out M_take_out_kw M_set_pinned M_set_pinned_kw F36)
  have D__law_block_due := df (P := P) (w := w) (base := base) X G (c.fact 18 (f := .glo "_law_block_due") rfl) F37 (ps := ["_law_world", "_law_spot"]) (fun _ _ _ _ _ _ us hl => match us, hl with | [_, _], _ => rfl) (ok_due T F37)
  have D__law_stands := dfG (P := P) (w := w) (base := base) X G (c.fact 19 (f := .glo "_law_stands") rfl) F38 (ps := ["_law_rng_here", "_law_layout", "_law_world"]) (fun _ _ _ _ _ _ us hl => match us, hl with | [_, _, _], _ => rfl) (ok_stands T D__law_draw M_blocks M_llen P_length M_lrepr M_block_at M_block_at_kw D__law_block_due F38)
  have D__law_odd_told := dfG (P := P) (w := w) (base := base) X G (c.fact 20 (f := .glo "_law_odd_told") rfl) F39 (ps := ["_law_layout", "_law_way", "_law_odd"]) (fun _ _ _ _ _ _ us hl => match us, hl with | [_, _, _], _ => rfl) (ok_odd T M_take_out M_set_pinned M_block_at M_put_d F39)
  have D__law_bools_right := dfG (P := P) (w := w) (base := base) X G (c.fact 21 (f := .glo "_law_bools_right") rfl) F40 (ps := []) (fun _ _ _ _ _ _ us hl => match us, hl with | [], _ => rfl) (ok_bools T D_Sizes D_Layout M_put_d M_put_p D__law_odd_told M_blocks F40)
  exact ok_law T D__law_rng D__law_draw D__law_sizes D__law_length D_Sizes D_Layout P_sizes E_Sizes D__law_stands D__law_put_right D__law_changed_right D__law_bools_right F41
end
end K21
open PySem PySem.W PySem.Calls PyProof.Rows
theorem PySem.Challenge.cw_exactroom_k21_whole_blocks_by_a_model_holds : PySem.Challenge.rw_exactroom_k21_whole_blocks_by_a_model.Holds := by
  w_on; o_law
  refine HandSHeadRun.head_any (r := OpenLaw.row PySem.Challenge.rw_exactroom_k21_whole_blocks_by_a_model) (q := view (OpenLaw.row PySem.Challenge.rw_exactroom_k21_whole_blocks_by_a_model).prog [37]) (H := K21.hk) (ob := K21.ob) (M := 16000)
    (loose := K21.loose) (d := HandSHeadRun.topDef (OpenLaw.row PySem.Challenge.rw_exactroom_k21_whole_blocks_by_a_model).prog 37) (kwd := []) K21.ob_eq
    (by kernel_rfl) (fun s => by kernel_rfl) K21.run (by kernel_rfl) (by kernel_rfl) (by kernel_rfl) (by rfl) (by first | assumption | decide +kernel) (by decide +kernel) ⟨rfl, rfl, rfl, rfl, rfl, by decide +kernel⟩ ?hw ?hc
  case hw => w_witness2
  case hc =>
    refine Gu.walkG (l := PySem.Challenge.rw_exactroom_k21_whole_blocks_by_a_model) (n := 63) (k := 13) (x := "_law_script") (CX := L2.CX0) rfl (by decide) (by kernel_rfl) ⟨⟨rfl, by decide, by decide⟩, rfl⟩ ?F (fun _ _ _ _ z => z)
    intro w mg fa h Y G hmg0
    obtain ⟨K, KX, c⟩ := Y
    have hmg : mg ("law" : PySem.Str) = some (.ref fa) := by
      have e : (HandSHeadRun.topDef (OpenLaw.row PySem.Challenge.rw_exactroom_k21_whole_blocks_by_a_model).prog 37).name = ("law" : PySem.Str) := by kernel_rfl
      rw [← e]
      exact hmg0
    obtain ⟨fd, hb, hF⟩ := K21.facts (P := (PySem.Challenge.rw_exactroom_k21_whole_blocks_by_a_model).prog) (w := w) KX G hmg c
    exact ⟨K, fd, K21.spLaw K, KX, hb, fun H a ns hl _ hS => ⟨a, ns, rfl, hS, hl, fun _ => rfl⟩, hF⟩

