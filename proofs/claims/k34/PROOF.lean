import PyProof.Rows.All
import Wide.All
import OpenK.AllK
import Wide.FinOn
import PyProof.ReprRoads
import HandS.ForMost
import HandS.ForExc
import HandS.Property
import HandS.ClsMeth
import HandS.Defaults
import HandS.IsInst
import HandS.Wide
import HandS.WideBits
import HandS.Ends
import HandS.HeadEnd
import HandS.Head0
import HandS.Head1
import HandS.Head2
import HandS.HeadHook1
import HandS.HeadHook2
import HandS.Flow
import HandS.Style
import PyProof.LongRange
import HandS.ExcInit
import HandS.ExcField
import HandS.ExcIs
import HandS.TryOnly
import HandS.OwnEq
import PyProof.Rows.SetFrom
import HandS.TupSets
import PyProof.InstNe
import HandS.More
import KE.KExcInit
import PyProof.ExcBaseAll.ArithmeticError
import PyProof.ExcBaseAll.LookupError
import PyProof.ExcBaseAll.RuntimeError
import HandS.TryMany
import HandS.EndTab
import HandS.Walk
import HandS.Comp
import KE.KStateDown
import Lean
import HandS.DictComp
import HandS.Iter
import KE.KNestM
import HandS.SortRule
import HandS.Deep
import HandS.Strs
import HandS.ListItems
import HandS.List
import PyProof.NeKinds
import PyProof.EqAt
import HandS.Lambda
import HandS.HotCalls
import KE.KTryMore
import HandS.ExcInitHot
import PyProof.MinMaxWalk
import PyProof.WalkInts
import PyProof.ConsumeWalk
import PyProof.Rows.CallKwBuiltin
import PySem.Challenge.RW_exactroom_k34_first_problem_of_moves
set_option Elab.async false
set_option linter.all false
set_option maxRecDepth 100000
set_option maxHeartbeats 4000000
/-! Own layer: defs that are called where no repr is under way (the guards are known to be none), so that repr of data can be walked. -/
namespace Gu
open PySem PySem.Spec PyProof.Rows L2
structure RoomG (k : Nat) (A : Around) : Prop where
  r : Room k A
  g : A.guards = some []
theorem RoomG.mono {j k : Nat} {A : Around} (x : RoomG k A) (h : j ≤ k) : RoomG j A := ⟨x.r.mono h, x.g⟩
theorem RoomG.down {k : Nat} {A : Around} (x : RoomG (k + 1) A) (env : Env) : RoomG k (A.deeper env) := ⟨x.r.deeper env, x.g⟩
structure FnG (P : Program) (w : World) (K : PySem.W.Frag) (mg : Str → Option Value) (base : Heap) (CX : CXT) (k : Nat) (f : Addr) (fd : FuncData) (ps : List Str) (sp : Sp) : Prop where
  len : ∀ vs H Q E, sp vs H Q E → vs.length = ps.length
  run : ∀ (A : Around) (outer : List Env) (s : Shared) (H : Hp) (args : Args) (us : List Value) (vs : List V) (Q : VK) (E : XK),
    RoomG k A → Env0 P w K mg base A outer s H → BindsTo s fd args (ps.zip us) → Vals vs us → sp vs H Q E →
    codeAny (model P w) A (.call (.ref f) args) (CR CX outer P w H s Q E) s
section
variable {P : Program} {w : World} {K : PySem.W.Frag} {mg : Str → Option Value} {base : Heap} {CX : CXT} {k : Nat} {f : Addr} {fd : FuncData} {ps : List Str} {sp : Sp}
theorem FnG.of (F : FnOk P w K mg base CX k f fd ps sp) : FnG P w K mg base CX k f fd ps sp :=
  ⟨F.len, fun A outer s H args us vs Q E hr => F.run A outer s H args us vs Q E hr.r⟩
/-- a def by its body -/
theorem okG {x qual : Str} {params : Arguments} {body : List Stmt} {scope : Scope} {dvs : List V} {kws : List (Str × V)} {N : List Str}
    (F : FunD K x qual params body scope dvs kws f fd) (S : FnScope N ps scope) (len : ∀ vs H Q E, sp vs H Q E → vs.length = ps.length)
    (hbody : ∀ (cdv : Value) (A : Around) (outer : List Env) (s : Shared) (H : Hp) (vs : List V) (Q : VK) (E : XK),
      RoomG k (A.deeper (envOfC qual scope s.heap.objs.size f cdv)) → sp vs H Q E →
      ∃ t, PSs (cxOf CX P w K mg base N qual scope f cdv A outer s H E) body t ∧ t { nx := fun _ H' => Q .non H', rt := Q } (start N vs) H) :
    FnG P w K mg base CX (k + 1) f fd ps sp := by
  obtain ⟨oc, od, dV, kV, doc, pm, an, cdv, ct, osl, rfl, lk, hcd, _, _⟩ := F.ex
  refine ⟨len, fun A outer s H args us vs Q E hr e0 hb rv hsp => ?_⟩
  have KX : K.In s.heap := e0.mod.kin.keeps fun b o e => (e0.bs b o e).1
  have hkinds : ∀ y ∈ ps.zip us, scope.names.lookup y.1 = some .local ∨
      (scope.names.lookup y.1 = some .cell ∧ ((cellsFrom (s.heap.objs.size + 1) scope.names []).lookup y.1).isSome = true) := by
    rintro ⟨n, v⟩ hy
    rcases S.par n (List.of_mem_zip hy).1 with q | q
    · exact .inl q
    · exact .inr ⟨q, PySem.W.cellsFrom_some _ _ _ (.inl q)⟩
  refine codeAny_call_function hr.r.depth (KX _ _ lk) rfl S.co S.gen rfl (PySem.W.codeRec_of KX hcd) (hb _ _ _ _ ?_)
  refine wpAny_newFunctionEnv_cells S.kind hkinds fun env he s1 x => ?_
  subst he
  refine ⟨(e0.mod.nolimit.keeps fun b o e => (e0.bs b o e).1).keeps x.toInCall.keep, codeAny_func ?_⟩
  obtain ⟨t, ht, hq⟩ := hbody cdv A outer s H vs Q E (hr.down _) hsp
  have I := inv_start (CX := CX) (E := E) (N := N) (qual := qual) (f := f) (cd := cdv) S hr.r.hd e0 (len _ _ _ _ hsp) rv x
  refine wpAny_mono (ht.run [] s1 (start N vs) H _ I hq) (fun fl s' hs => ?_) fun e s' hs => hs
  cases fl with
  | ret u =>
    obtain ⟨v, σ', H', J, rv', q⟩ := hs
    exact ⟨v, H', J.os, J.bare, J.base, J.hok, rv', q⟩
  | next =>
    obtain ⟨σ', H', J, q⟩ := hs
    exact ⟨V.non, H', J.os, J.bare, J.base, J.hok, rfl, q⟩
  | brk => exact hs.elim fun _ z => z.elim fun _ z => z.2.elim
  | cont => exact hs.elim fun _ z => z.elim fun _ z => z.2.elim
end
section
variable {X : Cx} {CX : CXT} {k : Nat} {f : Addr} {fd : FuncData} {ps : List Str} {sp : Sp} {dvs : List V} {ds : List Value} {E : XK} {x : Str} {p pos : Pos} {e : Expr} {es : List Expr} {t : TA}
theorem runG {pins : List (Addr × Obj)} {σ : L2.St} {H : Hp} {s : Shared} {Q : VK} {us : List Value} {vs : List V} (F : FnG X.prog X.w X.K X.mg X.base CX k f fd ps sp)
    (hr : RoomG k X.A) (hb : Binds X.K fd ps ds) (hd : Vals dvs ds) (hx : Passes CX X E) (I : Inv X pins σ H s) (r : Vals vs us) (h : sp (vs ++ dvs) H Q E) :
    wpAny (model X.prog X.w) X.A (call (.ref f) us) (EP X pins σ Q) X.xe s := by
  have r2 := r.append hd
  have hl : (us ++ ds).length = ps.length := r2.length.symm.trans (F.len _ _ _ _ h)
  refine wpAny_call (codeAny_mono (F.run X.A X.stack s H ⟨us, []⟩ _ _ Q E hr I.env0 (hb s us I.kIn hl) r2 h) fun r s' hq => ?_)
  match r, hq with
  | .error e, hq => exact hx pins σ H s e s' I hq
  | .ok (.ret u), hq => exact I.after hq
/-- f(e, ..) -/
theorem pe_callG (F : FnG X.prog X.w X.K X.mg X.base CX k f fd ps sp) (hr : RoomG k X.A) (hg : Gl X x) (hm : X.mg x = some (.ref f)) (hk : PySem.W.keepIn X.K (.ref f) = true)
    (hb : Binds X.K fd ps ds) (hd : Vals dvs ds) (hx : Passes CX X E) (ha : PA X (e :: es) t) (hdb : (x == ("__debug__" : Str)) = false := by decide)
    (he : starEach (e :: es) X.env = (false, eval e X.env) :: starEach es X.env := by rfl) (hpl : (backTo pos (starEach es X.env)).any (·.1) = false := by rfl) :
    PE X (.Call (.Name x p) (e :: es) [] pos) (tCall sp dvs E t) :=
  ⟨fun pins s σ H Q I h => wpAny_Call_Name_kw (ld_glob I hg hm (PySem.W.callWith_K (h₀ := X.base) I.ok.mod.kin hk
    (thn (ha.run pos pins s σ H _ I h) fun us s1 ⟨vs, H1, I1, r, q⟩ => ⟨I1.kIn, runG F hr hb hd hx I1 r q⟩) he hpl) hdb)⟩
/-- repr of a list or a tuple of data -/
def rReprD (K : PySem.W.Frag) : List V → Hp → VK → Prop := fun xs H Q => ∃ (a : Addr) (d : PyData), xs = [.ref a] ∧ Dp K H (.ref a) d ∧ d.showable = true ∧ d.hasDict = false ∧ d.depth ≤ 60 ∧ d.shown.length ≤ sizeLine ∧ Q (.str d.shown) H
theorem call_reprD (hr : RoomG k X.A) : CallR X (.builtin "repr") (rReprD X.K) := by
  intro pins s σ H xs us Q I r h
  obtain ⟨a, d, rfl, hd, hs, hn, hdep, hz, q⟩ := h
  obtain ⟨u, rfl, ru⟩ := vals1 r
  obtain rfl : u = Value.ref a := ru
  obtain ⟨as, rd⟩ := Dp.reads I d (.ref a) (.ref a) hd rfl
  have hu := hr.r.units
  exact repr_of_reads' rd hs (PyData.noDict_hsm hn) hr.g (by omega) (fun _ _ e => e) (fun h' u tk hk => ⟨.str d.shown, H, I.kept hk, ⟨u, rfl⟩, q⟩) hz
end
/-- the law's call, from its promise where no repr is under way -/
theorem law_go {P : Program} {w : World} {K : PySem.W.Frag} {mg mb : Str → Option Value} {CX : CXT} {k : Nat} {fa a : Addr} {fd : FuncData} {x : Str} {sp : Sp} {s₁ : Shared} {vs : List Value} {H : Hp}
    (KX : K.In s₁.heap) (hns : s₁.heap.Ns mainGlobals mg) (hb : s₁.heap.Ns builtinsNs mb) (hbb : ∀ x : Str, x ≠ "__name__" → mb x = bootBuiltins x) (hlim : s₁.heap.NoLimit) (hg : s₁.gens = #[])
    (ha : s₁.heap.get? a = some { cls := .type "list", data := .seq vs.toArray }) (hr : RoomG k callerA)
    (F : ∀ base : Heap, K.In base → base.Ns mainGlobals mg → FnG P w K mg base CX k fa fd [x] sp) (hbind : ∀ (s : Shared) (u : Value), BindsTo s fd ⟨[u], []⟩ [(x, u)])
    (hsp : sp [.ref a] H (fun v _ => v = .bl true) fun _ _ _ => False) (hCX : ∀ e s', CX [] H s₁ (fun _ _ _ => False) e s' → False)
    (hO : Only H) (hok : HOk P w H s₁.heap) (hA : ∀ b, H b ≠ none → b = a) (hK : H a ≠ none → K.lookup a = none) :
    codeAny (model P w) callerA (.call (.ref fa) ⟨[.ref a], []⟩) (fun r s' => r = .ok (.ret (.bool true)) ∧ OldK s₁.heap s'.heap ∧ s'.os = s₁.os ∧ AllBare s'.gens) s₁ := by
  have free : ∀ {b : Addr} {o : Obj}, s₁.heap.get? b = some o → (b = a → False) → (hidT s₁.heap H).get? b = some o := fun {b o} e n => hidT_get e (by
    cases q : H b with
    | none => rfl
    | some u => exact (n (hA b (by rw [q]; exact fun z => nomatch z))).elim)
  have nsK : ∀ {b : Addr} {m : Str → Option Value}, s₁.heap.Ns b m → (hidT s₁.heap H).Ns b m := fun {b m} ⟨o, es, ep, e, d, r⟩ => ⟨o, es, ep, free e (fun z => by
    rw [z, ha] at e
    have e' := Option.some.inj e
    rw [← e'] at d
    exact nomatch d), d, r⟩
  have hKb : K.In (hidT s₁.heap H) := fun b o e => hidT_get (KX b o e) (by
    cases q : H b with
    | none => rfl
    | some u =>
      have z : b = a := hA b (by rw [q]; exact fun z => nomatch z)
      rw [z] at e q
      rw [hK (by rw [q]; exact fun z => nomatch z)] at e
      exact nomatch e)
  obtain ⟨mc, l1, l2⟩ := hlim
  have e0 : Env0 P w K mg (hidT s₁.heap H) callerA [] s₁ H :=
    ⟨rfl, ⟨hKb, nsK hns, ⟨mb, nsK hb, hbb⟩, ⟨mc, nsK l1, l2⟩⟩, fun b o e => of_hidT e, Nat.le_of_eq (hidT_size _ _), trivial, fun b hb => absurd (show b ∈ ([] : List Addr) from hb) List.not_mem_nil, hok, .of_eq hg⟩
  refine codeAny_mono ((F _ hKb (nsK hns)).run callerA [] s₁ H ⟨[.ref a], []⟩ [.ref a] [.ref a] _ _ hr e0 (hbind s₁ (.ref a)) (.cons rfl .nil) hsp) fun r s' h => ?_
  match r, h with
  | .error e, h => exact (hCX e s' h).elim
  | .ok (.ret u), h =>
    obtain ⟨v, H', os, bare, un, hok', r', q⟩ := h
    obtain rfl : v = .bl true := q
    obtain rfl : u = Value.bool true := r'
    refine ⟨rfl, OldK.of_keep fun b o e => ?_, os, bare⟩
    cases q : H b with
    | none => exact un.keep b o e q (fun z => absurd (show b ∈ ([] : List Addr) from z) List.not_mem_nil) (fun z => absurd (show b ∈ ([] : List Addr) from z) List.not_mem_nil)
    | some u =>
      rcases hO b with z | ⟨ob, xs, z⟩
      · rw [q] at z
        exact nomatch z
      · obtain ⟨e1, _⟩ := hok b _ z
        obtain ⟨e2, _⟩ := hok' b _ (un.frzs b ob _ z)
        rw [e] at e1
        rw [Option.some.inj e1]
        exact e2
theorem law_callG {P : Program} {w : World} {K : PySem.W.Frag} {mg mb : Str → Option Value} {CX : CXT} {k : Nat} {fa a : Addr} {fd : FuncData} {x : Str} {sp : Sp} {s₁ : Shared} {vs : List Value} {ns : List Int}
    (KX : K.In s₁.heap) (hns : s₁.heap.Ns mainGlobals mg) (hb : s₁.heap.Ns builtinsNs mb) (hbb : ∀ x : Str, x ≠ "__name__" → mb x = bootBuiltins x) (hlim : s₁.heap.NoLimit) (hg : s₁.gens = #[])
    (ha : s₁.heap.get? a = some { cls := .type "list", data := .seq vs.toArray }) (hi : IntsAre vs ns) (hl : ns.length ≤ sizeLine) (hr : RoomG k callerA)
    (F : ∀ base : Heap, K.In base → base.Ns mainGlobals mg → FnG P w K mg base CX k fa fd [x] sp) (hbind : ∀ (s : Shared) (u : Value), BindsTo s fd ⟨[u], []⟩ [(x, u)])
    (hsp : ∀ H : Hp, Only H → SqL K H a (ns.map V.int) → sp [.ref a] H (fun v _ => v = .bl true) fun _ _ _ => False) (hCX : ∀ H e s', CX [] H s₁ (fun _ _ _ => False) e s' → False) :
    codeAny (model P w) callerA (.call (.ref fa) ⟨[.ref a], []⟩) (fun r s' => r = .ok (.ret (.bool true)) ∧ OldK s₁.heap s'.heap ∧ s'.os = s₁.os ∧ AllBare s'.gens) s₁ := by
  have rv := vals_ints hi
  have lenV := hi.length
  cases hk : K.lookup a with
  | some o =>
    have e := (KX a o hk).symm.trans ha
    obtain rfl := Option.some.inj e
    have hO : Only (fun _ => none) := fun _ => .inl rfl
    exact law_go (H := fun _ => none) KX hns hb hbb hlim hg ha hr F hbind
      (hsp _ hO (.inr ⟨_, vs.toArray, _, hk, rfl, rfl, rfl, by rw [List.size_toArray, lenV]; exact hl, by simpa using rv⟩)) (hCX _) hO
      (fun b u z => nomatch (show (none : Option HO) = some u from z)) (fun b z => (z rfl).elim) (fun z => (z rfl).elim)
  | none =>
    let H0 : Hp := fun b => if b = a then some (.frz { cls := .type "list", data := .seq vs.toArray } (.lst (ns.map V.int))) else none
    have at_ : H0 a = some (.frz { cls := .type "list", data := .seq vs.toArray } (.lst (ns.map V.int))) := if_pos rfl
    have off : ∀ b, b ≠ a → H0 b = none := fun b h => if_neg h
    have hO : Only H0 := fun b => by
      by_cases h : b = a
      · rw [h]
        exact .inr ⟨_, _, at_⟩
      · exact .inl (off b h)
    refine law_go (H := H0) KX hns hb hbb hlim hg ha hr F hbind (hsp _ hO (.inl (.inr ⟨_, at_⟩))) (hCX _) hO (fun b u z => ?_) (fun b z => ?_) (fun _ => hk)
    · by_cases h : b = a
      · rw [h, at_] at z
        obtain rfl := Option.some.inj z
        rw [h]
        exact ⟨ha, by rw [List.length_map]; exact hl, vs, _, rv, ha⟩
      · rw [off b h] at z
        exact nomatch z
    · by_cases h : b = a
      · exact h
      · exact (z (off b h)).elim
/-- the end of a law, over a head by facts -/
theorem walkG {l : PySem.W.OpenLaw} {n k : Nat} {q : Program} {loose : List Str} {XP : (Str → Option Value) → Heap → Prop} {YP : World → Heap → Prop} {d : DefRec} {CX : CXT} {x : Str}
    (hn : l.most = some n) (hn2 : n ≤ sizeLine) (hdf : d.params.defaults = []) (hr : RoomG k callerA)
    (F : ∀ (w : World) (mg : Str → Option Value) (fa : Addr) (h : Heap), YP w h → h.Ns mainGlobals mg → mg d.name = some (.ref fa) →
      ∃ (K : PySem.W.Frag) (fd : FuncData) (sp : Sp), K.In h ∧ (∀ (s : Shared) (u : Value), BindsTo s fd ⟨[u], []⟩ [(x, u)]) ∧
        (∀ (H : Hp) (a : Addr) (ns : List Int), ns.length ≤ n → Only H → SqL K H a (ns.map V.int) → sp [.ref a] H (fun v _ => v = .bl true) fun _ _ _ => False) ∧
        ∀ base : Heap, K.In base → base.Ns mainGlobals mg → FnG l.prog w K mg base CX k fa fd [x] sp)
    (hCX : ∀ (H : Hp) (s : Shared) (e : Value) (s' : Shared), CX [] H s (fun _ _ _ => False) e s' → False) :
    PySem.W.WalkO q loose XP YP l.row.toRowW d [] (fun f vs => PySem.call f vs) := by
  refine Att.attach_call hn hdf fun w s₀ s₁ mg mb fa o pm cd doc a vs ns G Y ho hd hcd hmg hobj hints hlen hg => ?_
  obtain ⟨K, fd, sp, KX, hb, hsp, hF⟩ := F w mg fa _ Y G.T.g hmg
  exact law_callG KX G.T.g G.T.b G.T.builtins G.T.nolimit hg hobj hints (Nat.le_trans hlen hn2) hr hF hb (fun H hO hS => hsp H a ns hlen hO hS) fun H e s' => hCX H s₁ e s'
end Gu

set_option Elab.async false
set_option linter.all false
set_option maxRecDepth 100000
set_option maxHeartbeats 4000000
/-! Own layer: defs, methods, makers and properties by their names. -/
namespace Ex
open PySem PySem.Spec PyProof.Rows L2 Gu
section
variable (P : Program) (w : World) (K : PySem.W.Frag) (mg : Str → Option Value) (base : Heap)
/-- the module's def x keeps sp -/
structure Df (k : Nat) (x : Str) (ps : List Str) (sp : Sp) : Prop where
  ex : ∃ fd, FnOk P w K mg base CX0 k (He.ga K x) fd ps sp ∧ Binds K fd ps []
  gl : mg x = some (.ref (He.ga K x))
  kp : PySem.W.keepIn K (.ref (He.ga K x)) = true
structure DfG (k : Nat) (x : Str) (ps : List Str) (sp : Sp) : Prop where
  ex : ∃ fd, FnG P w K mg base CX0 k (He.ga K x) fd ps sp ∧ Binds K fd ps []
  gl : mg x = some (.ref (He.ga K x))
  kp : PySem.W.keepIn K (.ref (He.ga K x)) = true
/-- .. called by keywords ks alone; j: the places of the parameters among the keywords -/
structure DfK (k : Nat) (x : Str) (ps ks : List Str) (j : List Nat) (sp : Sp) : Prop where
  ex : ∃ fd, FnOk P w K mg base CX0 k (He.ga K x) fd ps sp ∧ ∀ (s : Shared) (ws : List Value), ws.length = ks.length → BindsTo s fd ⟨[], ks.zip ws⟩ (ps.zip (j.filterMap fun i => ws[i]?))
  gl : mg x = some (.ref (He.ga K x))
  kp : PySem.W.keepIn K (.ref (He.ga K x)) = true
structure Mf (k : Nat) (c m : Str) (ps : List Str) (sp : Sp) : Prop where
  ex : ∃ fd, FnOk P w K mg base CX0 k (He.ma K (He.ga K c) m) fd ps sp ∧ Binds K fd ps []
  cl : Cls K (He.ga K c)
  me : Meth K (He.ga K c) m (He.ma K (He.ga K c) m)
structure Pf (k : Nat) (c m : Str) (sp : Sp) : Prop where
  cl : Cls K (He.ga K c)
  ex : ∃ (p g : Addr) (fd : FuncData), PropOf K (He.ga K c) m p g ∧ FnOk P w K mg base CX0 k g fd ["self"] sp ∧ Binds K fd ["self"] []
structure Kf (k : Nat) (c : Str) (ps : List Str) (sp : Sp) : Prop where
  ex : ∃ fd, FnOk P w K mg base CX0 k (He.ma K (He.ga K c) "__init__") fd ps sp ∧ Binds K fd ps []
  gl : mg c = some (.ref (He.ga K c))
  mkr : Mk K (He.ga K c) (He.ma K (He.ga K c) "__init__")
end
section
variable {X : Cx} {k j : Nat} {x c m : Str} {ps ks : List Str} {ji : List Nat} {sp : Sp} {p pos apos : Pos} {e o : Expr} {es : List Expr} {kws : List Keyword} {t tk : TA} {ta : TE}
theorem pcall (D : Df X.prog X.w X.K X.mg X.base k x ps sp) (hr : Room j X.A) (ha : PA X (e :: es) t) (hj : k ≤ j := by decide) (hg : Gl X x := by rfl) (hdb : (x == ("__debug__" : Str)) = false := by decide)
    (he : starEach (e :: es) X.env = (false, eval e X.env) :: starEach es X.env := by rfl) (hpl : (backTo pos (starEach es X.env)).any (·.1) = false := by rfl) :
    PE X (.Call (.Name x p) (e :: es) [] pos) (tCall sp [] E0 t) := by
  obtain ⟨fd, F, b⟩ := D.ex
  exact pe_call F (hr.mono hj) hg D.gl D.kp b .nil pass0 ha hdb he hpl
theorem pcallG (D : DfG X.prog X.w X.K X.mg X.base k x ps sp) (hr : RoomG j X.A) (ha : PA X (e :: es) t) (hj : k ≤ j := by decide) (hg : Gl X x := by rfl) (hdb : (x == ("__debug__" : Str)) = false := by decide)
    (he : starEach (e :: es) X.env = (false, eval e X.env) :: starEach es X.env := by rfl) (hpl : (backTo pos (starEach es X.env)).any (·.1) = false := by rfl) :
    PE X (.Call (.Name x p) (e :: es) [] pos) (tCall sp [] E0 t) := by
  obtain ⟨fd, F, b⟩ := D.ex
  exact pe_callG F (hr.mono hj) hg D.gl D.kp b .nil pass0 ha hdb he hpl
def tKw (sp : Sp) (n : Nat) (j : List Nat) (tk : TA) : TE := fun σ H Q => tk σ H fun zs H2 => zs.length = n ∧ sp (j.filterMap fun i => zs[i]?) H2 Q E0
theorem vals_pick {zs : List V} {ws : List Value} (r : Vals zs ws) : ∀ j : List Nat, Vals (j.filterMap fun i => zs[i]?) (j.filterMap fun i => ws[i]?)
  | [] => .nil
  | i :: j => by
    rw [List.filterMap_cons, List.filterMap_cons]
    cases e : zs[i]? with
    | none =>
      rw [r.none_of e]
      exact vals_pick r j
    | some z =>
      obtain ⟨u, hu, ru⟩ := r.get e
      rw [hu]
      exact .cons ru (vals_pick r j)
theorem pcallK (D : DfK X.prog X.w X.K X.mg X.base k x ps ks ji sp) (hr : Room j X.A) (hkw : PK X kws tk) (hj : k ≤ j := by decide) (hg : Gl X x := by rfl)
    (hall : (backToKw pos (keywordEach kws X.env)).all (·.1.isSome) = true := by rfl) (hks : (backToKw pos (keywordEach kws X.env)).filterMap (·.1) = ks := by rfl)
    (hdb : (x == ("__debug__" : Str)) = false := by decide)
    (hpl : ((backTo pos (starEach [] X.env)).any (·.1) || (backToKw pos (keywordEach kws X.env)).any (·.1.isNone)) = false := by rfl) :
    PE X (.Call (.Name x p) [] kws pos) (tKw sp ks.length ji tk) := by
  obtain ⟨fd, F, b⟩ := D.ex
  refine ⟨fun pins s σ H Q I h => wpAny_Call_Name_kw (ld_glob I hg D.gl ?_ hdb)⟩
  refine PySem.W.callWith_KW0 (h₀ := X.base) I.ok.mod.kin D.kp hall (thn (hkw.run pos pins s σ H _ I h) fun ws s2 ⟨zs, H2, I2, rz, l2, q2⟩ => ⟨I2.kIn, ?_⟩) hpl
  rw [hks]
  refine wpAny_call (codeAny_mono (F.run X.A X.stack s2 H2 ⟨[], ks.zip ws⟩ _ _ Q E0 (hr.mono hj) I2.env0 (b s2 ws (rz.length.symm.trans l2)) (vals_pick rz ji) q2) fun r s' hq => ?_)
  match r, hq with
  | .ok (.ret u), hq => exact I2.after hq
theorem pmeth {pl : Sem Bool} (D : Mf X.prog X.w X.K X.mg X.base k c m ps sp) (hr : Room j X.A) (he : PE X o ta) (ha : PA X (e :: es) t) (hj : k ≤ j := by decide)
    (hst : starEach (e :: es) X.env = (false, eval e X.env) :: starEach es X.env := by rfl) (hpl : (backTo pos (starEach es X.env)).any (·.1) = false := by rfl)
    (ht : eval (.Call (.Attribute o m apos) (e :: es) [] pos) X.env = (do
      let ov ← eval o X.env
      standAt apos.atName
      let (f, first) ← holding [ov] (getMethod ov m pl)
      callWith pos f first (backTo pos (starEach (e :: es) X.env)) (backToKw pos (keywordEach [] X.env))) := by rfl) :
    PE X (.Call (.Attribute o m apos) (e :: es) [] pos) (tMeth (He.ga X.K c) m sp [] E0 ta t) := by
  obtain ⟨fd, F, b⟩ := D.ex
  exact pe_meth he D.cl D.me F (hr.mono hj) b .nil pass0 ha hst hpl ht
theorem pmeth0 {pl : Sem Bool} (D : Mf X.prog X.w X.K X.mg X.base k c m ps sp) (hr : Room j X.A) (he : PE X o ta) (hj : k ≤ j := by decide)
    (ht : eval (.Call (.Attribute o m apos) [] [] pos) X.env = (do
      let ov ← eval o X.env
      standAt apos.atName
      let (f, first) ← holding [ov] (getMethod ov m pl)
      callWith pos f first (backTo pos (starEach [] X.env)) (backToKw pos (keywordEach [] X.env))) := by rfl) :
    PE X (.Call (.Attribute o m apos) [] [] pos) (tMeth (He.ga X.K c) m sp [] E0 ta tNil) := by
  obtain ⟨fd, F, b⟩ := D.ex
  exact pe_meth0 he D.cl D.me F (hr.mono hj) b .nil pass0 ht
theorem pprop (D : Pf X.prog X.w X.K X.mg X.base k c m sp) (hr : Room j X.A) (he : PE X o ta) (hj : k + 1 ≤ j := by decide) (hab : attributeBase o m X.env (eval o X.env) = eval o X.env := by rfl) :
    PE X (.Attribute o m pos) (tProp (He.ga X.K c) sp [] E0 ta) := by
  obtain ⟨p, g, fd, hp, F, b⟩ := D.ex
  exact pe_prop he D.cl hp F (hr.mono hj) b .nil pass0 hab
theorem pmake (D : Kf X.prog X.w X.K X.mg X.base k c ps sp) (hr : Room j X.A) (ha : PA X (e :: es) t) (hj : k + 1 ≤ j := by decide) (hg : Gl X c := by rfl) (hdb : (c == ("__debug__" : Str)) = false := by decide)
    (he : starEach (e :: es) X.env = (false, eval e X.env) :: starEach es X.env := by rfl) (hpl : (backTo pos (starEach es X.env)).any (·.1) = false := by rfl) :
    PE X (.Call (.Name c p) (e :: es) [] pos) (tMake (He.ga X.K c) sp [] E0 t) := by
  obtain ⟨fd, F, b⟩ := D.ex
  exact pe_make D.mkr F (hr.mono hj) hg D.gl b .nil pass0 ha hdb he hpl
end
end Ex

set_option Elab.async false
set_option linter.all false
set_option maxRecDepth 100000
set_option maxHeartbeats 4000000
/-! Own layer: range(a, b) of any whole numbers (walked by one or the other iterator of the machine). -/
namespace Ex
open PySem PySem.Spec PyProof.Rows L2 Gu
theorem turn_long {P : Program} {w : World} {K : PySem.W.Frag} {tg : Expr} (it : Addr) (lo : Int) (n : Nat) :
    Turn P w K tg (Itr lo n) [it] it (fun i h => IsLongIter h it (lo + (i : Nat) * 1) ((n : Int) - (i : Nat)) 1) where
  mem := List.mem_singleton.mpr rfl
  obj := fun i h st b hb => by
    obtain rfl := List.mem_singleton.mp hb
    exact ⟨_, st, fun v z => nomatch (show Data.fields _ = Data.cell v from z)⟩
  keep := fun i h h' st k => k it (List.mem_singleton.mpr rfl) _ st
  item := by
    rintro X rfl rfl rfl hc i pins s σ H E I hf st hg
    obtain ⟨f0, f1, f2, f3, f4, f5⟩ := hf it (List.mem_singleton.mpr rfl)
    refine (Walks.longrange (prog := X.prog) (w := X.w) (I.ok.hd hc) it lo 1 n).item i s _ _ hg st fun v h' tk hv st' kk => ?_
    obtain ⟨t, rfl⟩ := hv
    have J : Inv X pins σ H { s with heap := h', toks := tk } := I.turned (fun b o hb e => kk b o (fun z => hb (List.mem_singleton.mp z)) e) f0 f1 f3 f4 f5
    refine ⟨_, rfl, go_of (s := { s with heap := h', toks := tk }) (n := "longrange_iterator") st' rfl rfl (by decide) ⟨.int (lo + i), H, J, ⟨t, ?_⟩, ⟨rfl, rfl⟩, st', fun b hb => (hf b hb).1⟩⟩
    rw [Int.mul_one]
  done := by
    rintro X rfl rfl rfl hc i pins s σ H E I hf st hg
    obtain ⟨f0, f1, f2, f3, f4, f5⟩ := hf it (List.mem_singleton.mpr rfl)
    have hn : n ≤ i := hg
    exact wpAny_pyNext_long_end (I.ok.hd hc) st (by omega) fun h' eb => ⟨rfl, I.turned (t' := s.toks) (fun b o hb e => eb b o hb e) f0 f1 f3 f4 f5⟩
  self := fun _ _ _ _ _ st h => wpAny_pyIter_longiter st h
section
variable {X : Cx} {tg : Expr}
theorem range_any {pins : List (Addr × Obj)} {σ : L2.St} {H : Hp} {s : Shared} {R : It → Hp → Prop} {E : Value → Shared → Prop} {lo hi : Int} {t u v : Tok} {tk : Nat} (I : Inv X pins σ H s) (q : R (Itr lo (hi - lo).toNat) H) :
    wpAny (model X.prog X.w) X.A (pyIter (.ref s.heap.objs.size)) (PIE X pins σ tg R) E { s with heap := s.heap.push { cls := .type "range", data := .fields #[.int lo t, .int hi u, .int 1 v] }, toks := tk } := by
  have J : Inv X pins σ H { s with heap := s.heap.push { cls := .type "range", data := .fields #[.int lo t, .int hi u, .int 1 v] }, toks := tk } := I.kept fun b o e => Heap.get?_push_of_some _ e
  have e1 : lo + ((0 : Nat) : Int) * 1 = lo := by simp
  have e2 : (((hi - lo).toNat : Nat) : Int) - ((0 : Nat) : Int) = Builtin.Range.rangeSize lo hi 1 := by rw [rangeSize_one]; split <;> omega
  have fr : ∀ b ∈ [(s.heap.push { cls := .type "range", data := .fields #[.int lo t, .int hi u, .int 1 v] }).objs.size], _ := fun b hb => by
    obtain rfl := List.mem_singleton.mp hb
    exact J.fpOk (Nat.le_refl _) (J.hok.fresh (Nat.le_refl _))
  cases hs : Builtin.Range.small lo hi 1 with
  | true =>
    refine wpAny_pyIter_range (IsRange.new ..) hs ⟨_, [_], _, _, H, rfl, J.kept (t' := tk) fun b o e => Heap.get?_push_of_some _ e, turn_range _ lo (hi - lo).toNat, ?_, fr, q⟩
    show IsRangeIter _ _ (lo + ((0 : Nat) : Int) * 1) ((((hi - lo).toNat : Nat) : Int) - ((0 : Nat) : Int)) 1
    rw [e1, e2]
    exact Heap.get?_push_size _ rfl
  | false =>
    refine wpAny_pyIter_longrange (IsRange.new ..) hs ⟨_, [_], _, _, H, rfl, J.kept (t' := tk) fun b o e => Heap.get?_push_of_some _ e, turn_long _ lo (hi - lo).toNat, ?_, fr, q⟩
    show IsLongIter _ _ (lo + ((0 : Nat) : Int) * 1) ((((hi - lo).toNat : Nat) : Int) - ((0 : Nat) : Int)) 1
    rw [e1, e2]
    exact Heap.get?_push_size _ rfl
def iRngA (ta : TA) : TI := fun σ H R => ta σ H fun vs H1 => ∃ i j : Int, vs = [.int i, .int j] ∧ R (Itr i (j - i).toNat) H1
theorem pi_rangeA {a b : Expr} {ta : TA} {p pos : Pos} (hg : Gl X "range") (hm : X.mg "range" = none) (ha : PA X [a, b] ta) (hs : starEach [a, b] X.env = [(false, eval a X.env), (false, eval b X.env)] := by rfl)
    (hs2 : starEach [b] X.env = [(false, eval b X.env)] := by rfl) : PI X tg (.Call (.Name "range" p) [a, b] [] pos) (iRngA ta) := by
  refine ⟨fun pins s σ H R I h => Call_ (ld_blt I hg hm boot_range (PyProof.Rows.callWith_type1 (thn (ha.run pos pins s σ H _ I h) fun us s1 ⟨vs, H1, I1, r1, q1⟩ => ?_) (by rw [hs, hs2]) (by rw [hs2]; rfl)))⟩
  obtain ⟨i, j, rfl, q⟩ := q1
  obtain ⟨u, z, rfl, ⟨t, rfl⟩, ⟨t', rfl⟩⟩ := vals2 r1
  exact call_range_2 (range_any I1 q)
end
end Ex

set_option Elab.async false
set_option linter.all false
set_option maxRecDepth 100000
set_option maxHeartbeats 4000000
/-! Own layer: data of any depth, dicts among it, as repr shows it. -/
namespace Ex
open PySem PySem.Spec PyProof.Rows L2 Gu
mutual
inductive Dq (K : PySem.W.Frag) (H : Hp) : V → PyData → Prop
  | non : Dq K H .non .none
  | bl (b : Bool) : Dq K H (.bl b) (.bool b)
  | int (i : Int) : Dq K H (.int i) (.int i)
  | str (x : Str) : Dq K H (.str x) (.str x)
  | lst {a : Addr} {xs : List V} {ds : List PyData} : SqL K H a xs → DqAll K H xs ds → Dq K H (.ref a) (.list ds)
  | tup {a : Addr} {xs : List V} {ds : List PyData} : SqT K H a xs → DqAll K H xs ds → Dq K H (.ref a) (.tuple ds)
  | dct {a : Addr} {kvs : List (Key × V)} {ds : List (PyData × PyData)} : H a = some (.dK kvs) → DqAll K H (kvs.map fun p => kV p.1) (ds.map (·.1)) → DqAll K H (kvs.map (·.2)) (ds.map (·.2)) → Dq K H (.ref a) (.dict ds)
inductive DqAll (K : PySem.W.Frag) (H : Hp) : List V → List PyData → Prop
  | nil : DqAll K H [] []
  | cons {v : V} {vs : List V} {d : PyData} {ds : List PyData} : Dq K H v d → DqAll K H vs ds → DqAll K H (v :: vs) (d :: ds)
end
/-- the table of modules stands in the written part: no list lies there -/
def SysOk (K : PySem.W.Frag) : Prop := ∃ o, K.lookup sysModules = some o ∧ o.cls ≠ .type "list"
section
variable {X : Cx} {pins : List (Addr × Obj)} {σ : L2.St} {H : Hp} {s : Shared}
theorem key_rel {k : Key} {v : Value} (h : keyIs k v = true) : RelV (kV k) v := by
  rcases keyIs_shape h with ⟨i, t, rfl, rfl⟩ | ⟨x, t, rfl, rfl⟩
  · exact ⟨t, rfl⟩
  · exact ⟨t, rfl⟩
theorem not_sys {a : Addr} {o : Obj} (hs : SysOk X.K) (I : Inv X pins σ H s) (ho : s.heap.get? a = some o) (hc : o.cls = .type "list") : a ≠ sysModules := fun z => by
  obtain ⟨u, e, n⟩ := hs
  have h2 := I.kIn _ _ e
  rw [z, h2] at ho
  rw [Option.some.inj ho] at n
  exact n hc
theorem pairs_rel {es : List DictEntry} {vs : List (Key × Value)} (h : Pairs (mixKind X.prog X.w) es vs) : ∀ {kvs : List (Key × V)}, KV kvs vs → Vals (kvs.map fun p => kV p.1) (es.map (·.key)) ∧ Vals (kvs.map (·.2)) (es.map (·.val)) := by
  induction h with
  | nil =>
    intro kvs r
    cases r
    exact ⟨.nil, .nil⟩
  | @cons e kv es vs h1 h2 h3 ih =>
    intro kvs r
    cases r with
    | @cons p _ l _ r1 r2 =>
      obtain ⟨i1, i2⟩ := ih r2
      have k1 : RelV (kV p.1) e.key := by
        rw [r1.1]
        exact key_rel h1
      have k2 : RelV p.2 e.val := by
        rw [h2]
        exact r1.2
      exact ⟨.cons k1 i1, .cons k2 i2⟩
mutual
theorem Dq.reads (hs : SysOk X.K) (I : Inv X pins σ H s) : ∀ {v : V} {d : PyData}, Dq X.K H v d → ∀ u, RelV v u → ∃ as, Reads s.heap u d as ∧ sysModules ∉ as
  | _, _, .non, u, r => by
    cases r
    exact ⟨_, Reads.none, List.not_mem_nil⟩
  | _, _, .bl b, u, r => by
    cases r
    exact ⟨_, Reads.bool b, List.not_mem_nil⟩
  | _, _, .int i, u, r => by
    obtain ⟨t, rfl⟩ := r
    exact ⟨_, Reads.int i t, List.not_mem_nil⟩
  | _, _, .str x, u, r => by
    obtain ⟨t, rfl⟩ := r
    exact ⟨_, Reads.str x t, List.not_mem_nil⟩
  | _, _, .lst (a := a) hq ha, u, r => by
    cases r
    obtain ⟨its, rv, ⟨o, n, ho, hc, _, hd⟩, _⟩ := I.list hq
    obtain ⟨as, hr, na⟩ := Dq.readsAll hs I ha its rv
    refine ⟨_, Reads.list ho hc hd hr, fun hm => ?_⟩
    rcases List.mem_cons.mp hm with z | z
    · exact not_sys hs I ho hc z.symm
    · exact na z
  | _, _, .tup (a := a) hq ha, u, r => by
    cases r
    obtain ⟨its, rv, ⟨o, ho, hc, n, hd⟩, _⟩ := I.tuple hq
    obtain ⟨as, hr, na⟩ := Dq.readsAll hs I ha its rv
    exact ⟨_, Reads.tuple ho hc hd hr, na⟩
  | _, _, .dct (a := a) (kvs := kvs) hq h1 h2, u, r => by
    cases r
    obtain ⟨_, ns, vs, rk, o, es, ep, ho, hx, hd, _, hp, _⟩ := (show ObjOk X.prog X.w H s.heap a (.dK kvs) from I.hok a _ hq)
    obtain ⟨r1, r2⟩ := pairs_rel hp rk
    obtain ⟨as, q1, n1⟩ := Dq.readsAll hs I h1 _ r1
    obtain ⟨bs, q2, n2⟩ := Dq.readsAll hs I h2 _ r2
    refine ⟨_, Reads.dict ho hx.1 hd q1 q2, fun hm => ?_⟩
    rcases List.mem_append.mp hm with z | z
    · rcases List.mem_cons.mp z with z | z
      · rw [← z, beq_self_eq_true] at ns
        cases ns
      · exact n1 z
    · exact n2 z
theorem Dq.readsAll (hs : SysOk X.K) (I : Inv X pins σ H s) : ∀ {vs : List V} {ds : List PyData}, DqAll X.K H vs ds → ∀ us : List Value, Vals vs us → ∃ as, ReadsAll s.heap us ds as ∧ sysModules ∉ as
  | _, _, .nil, us, r => by
    cases r
    exact ⟨_, ReadsAll.nil, List.not_mem_nil⟩
  | _, _, .cons h1 h2, us, r => by
    cases r with
    | cons r1 r2 =>
      obtain ⟨as, q1, n1⟩ := Dq.reads hs I h1 _ r1
      obtain ⟨bs, q2, n2⟩ := Dq.readsAll hs I h2 _ r2
      refine ⟨_, ReadsAll.cons q1 q2, fun hm => ?_⟩
      rcases List.mem_append.mp hm with z | z
      · exact n1 z
      · exact n2 z
end
end
section
variable {X : Cx} {k : Nat}
/-- repr of any data -/
def rReprQ (K : PySem.W.Frag) : List V → Hp → VK → Prop := fun xs H Q => ∃ (v : V) (d : PyData), xs = [v] ∧ Dq K H v d ∧ d.showable = true ∧ d.depth ≤ 60 ∧ d.shown.length ≤ sizeLine ∧ Q (.str d.shown) H
theorem call_reprQ (hr : RoomG k X.A) (hs : SysOk X.K) : CallR X (.builtin "repr") (rReprQ X.K) := by
  intro pins s σ H xs us Q I r h
  obtain ⟨v, d, rfl, hd, hsh, hdep, hz, q⟩ := h
  obtain ⟨u, rfl, ru⟩ := vals1 r
  obtain ⟨as, rd, na⟩ := Dq.reads hs I hd u ru
  have hu := hr.r.units
  cases hd with
  | non =>
    cases ru
    exact PySem.P.repr_of_none ⟨.str _, H, I.tok _, ⟨_, rfl⟩, by simpa only [PyData.shown] using q⟩
  | bl b =>
    cases ru
    exact PySem.P.repr_of_bool ⟨.str _, H, I.tok _, ⟨_, rfl⟩, by simpa only [PyData.shown] using q⟩
  | int i =>
    obtain ⟨t, rfl⟩ := ru
    exact PySem.P.repr_of_int (by simpa [PyData.showable] using hsh) ⟨.str _, H, I.tok _, ⟨_, rfl⟩, by simpa only [PyData.shown] using q⟩
  | str x =>
    obtain ⟨t, rfl⟩ := ru
    exact PySem.P.repr_of_str ⟨.str _, H, I.tok _, ⟨_, rfl⟩, by simpa only [PyData.shown] using q⟩ (by simpa only [PyData.shown] using hz)
  | @lst a xs ds hq ha =>
    obtain rfl : u = Value.ref a := ru
    exact repr_of_reads' rd hsh (fun _ => na) hr.g (by omega) (fun _ _ e => e) (fun h' u tk hk => ⟨.str _, H, I.kept hk, ⟨u, rfl⟩, q⟩) hz
  | @tup a xs ds hq ha =>
    obtain rfl : u = Value.ref a := ru
    exact repr_of_reads' rd hsh (fun _ => na) hr.g (by omega) (fun _ _ e => e) (fun h' u tk hk => ⟨.str _, H, I.kept hk, ⟨u, rfl⟩, q⟩) hz
  | @dct a kvs ds hq h1 h2 =>
    obtain rfl : u = Value.ref a := ru
    exact repr_of_reads' rd hsh (fun _ => na) hr.g (by omega) (fun _ _ e => e) (fun h' u tk hk => ⟨.str _, H, I.kept hk, ⟨u, rfl⟩, q⟩) hz
/-- x is not True, x is not False, of any scalar -/
def rNotBA : R2 := fun x y H Q => ∃ b : Bool, y = .bl b ∧ ((∃ a : Bool, x = .bl a ∧ Q (.bl (!decide (a = b))) H) ∨ (∃ i : Int, x = .int i ∧ Q (.bl true) H))
theorem op_notBA : OpR X (compareOp .IsNot) rNotBA := by
  intro pins s σ H x y v u Q I rx ry h
  obtain ⟨b, rfl, h⟩ := h
  rcases h with ⟨a, rfl, q⟩ | ⟨i, rfl, q⟩
  · exact op_notBl pins s σ H _ _ v u Q I rx ry ⟨a, b, rfl, rfl, q⟩
  · cases (show u = Value.bool b from ry)
    obtain ⟨t, rfl⟩ := (show ∃ t, v = Value.int i t from rx)
    exact wpAny_isNot_other rfl (fun z => nomatch z) ⟨.bl true, H, I, rfl, q⟩
end
end Ex

set_option Elab.async false
set_option linter.all false
set_option maxRecDepth 100000
set_option maxHeartbeats 4000000
/-! Own layer: isinstance of a caught error that has a dict of its own; errors with fields, raised. -/
namespace Ex
open PySem PySem.Spec PySem.Calls PyProof.Rows L2 Gu
section
variable {prog : Program} {w : World} {A : Around} {E : Value → Shared → Prop} {s : Shared} {K : PySem.W.Frag} {x D : Addr} {ox od : Obj}
theorem class_of_exc {Q : Option Value → Shared → Prop} (c : ExcC K D) (X : K.In s.heap) (I : PySem.W.InstAt s.heap x ox D (some od)) (h : Q (some (.ref D)) { s with toks := s.toks + 1 }) :
    wpAny (model prog w) A (getAttr? (.ref x) "__class__") Q E s := by
  have found : PySem.W.findObj K D (some od) "__class__" = some (.bind (.builtin "getset_descriptor.__get__") (.builtin "object.__class__")) :=
    PySem.W.findObj_data (by obtain ⟨cd, e, _⟩ := PySem.W.any_some c.hd; rw [e]; rfl) c.ha c.hn c.ht
  obtain ⟨hp, g, d, t, os⟩ := s
  have lt := I.type (M := model prog w)
  have lg := PySem.W.looks_findIn (M := model prog w) X c.hg
  have lk := PySem.W.looks_findIn (M := model prog w) X c.hk
  have lf := PySem.W.looks_find (M := model prog w) X I found
  have other : (onTheHeap (Value.ref D) && Value.builtin "BaseException.__getattribute__" == Value.builtin "object.__getattribute__") = false := by
    rw [show (Value.builtin "BaseException.__getattribute__" == Value.builtin "object.__getattribute__") = false by decide +kernel]
    rfl
  unfold getAttr? getAttrBy? getAttrBy
  refine wpAny_bind (wpAny_mkText (wpAny_bind (wpAny_attempt (wpAny_holding (wpAny_bind (lt.at (wpAny_bind (lg.at ?own))))))))
  case own =>
    show wpAny _ _ (if (onTheHeap (Value.ref D) && Value.builtin "BaseException.__getattribute__" == Value.builtin "object.__getattribute__") = true then _ else _) _ _ _
    rw [other, if_neg Bool.false_ne_true]
    unfold getAttrByItsOwn hookBefore
    refine wpAny_bind ?_
    rw [if_pos (show onTheHeap (Value.ref D) = true from rfl)]
    refine lk.at (wpAny_bind (wpAny_attempt (wpAny_holding ?_)))
    unfold callGetattribute
    rw [show (false && onTheHeap (Value.builtin "BaseException.__getattribute__")) = false from rfl, if_neg Bool.false_ne_true]
    unfold boundAndCalled
    rw [PySem.F.excAttr_ValueError.ga.bind (.ref x)]
    refine wpAny_bind (wpAny_pure ?_)
    show wpAny _ _ (call (.builtin "BaseException.__getattribute__") [.ref x, .str "__class__" t]) _ _ _
    refine wpAny_call (codeAny_call_builtin PySem.F.excAttr_ValueError.ga.plain PySem.F.entry_bexc_ga
      (@PySem.W.check_slot (model prog w) _ _ ⟨hp, g, d, t + 1, os⟩ "BaseException.__getattribute__" "BaseException" "__getattribute__" (.ref x) [.str "__class__" t] [] _
        (by decide +kernel) (by decide +kernel) (lt.andThen (PySem.W.looks_subIn X c.hs)) (PySem.F.args_bexc_ga (.ref x) (.str "__class__" t)) ?_))
    unfold Builtin.«object.__getattribute__»
    refine wpAny_bind (wpAny_of_eq (a := ((Value.ref x : Value), [Value.str "__class__" t])) (by first | rfl | (simp only [slotArgs]; rfl)) (wpAny_bind (wpAny_pure (wpAny_bind (lt.at (wpAny_bind (lf.at ?_)))))))
    show wpAny _ _ (holding [Value.builtin "object.__class__"] (call (.builtin "getset_descriptor.__get__") [.builtin "object.__class__", .ref x, .ref D]) >>= ret) _ _ _
    refine wpAny_bind (wpAny_holding (wpAny_call (PySem.W.class_get (s := ⟨hp, g, d, t + 1, os⟩) (ox := ox) (od := some od) X I c.hm (wpAny_pure ?_))))
    show wpAny _ _ (handedOut (.ref D)) _ _ _
    rw [PySem.W.handedOut_of (v := .ref D) rfl]
    first
      | exact wpAny_pure (wpAny_pure h)
      | exact wpAny_pure h
      | exact wpAny_pure (wpAny_bind (wpAny_pure (wpAny_pure h)))
theorem kitx_exc (c : ExcC K D) : PySem.W.KitX K (.ref x) (.ref D) (fun h => PySem.W.InstAt h x ox D (some od)) where
  ty := fun _ _ _ I => I.type
  it := fun _ _ X _ => by
    obtain ⟨cd, e, _⟩ := PySem.W.any_some c.hd
    unfold PySem.W.clsIn at e
    split at e
    · rename_i ho
      exact fun A' Q' E' s' k q => by
        unfold isType loadHead
        exact wpAny_bind (wpAny_loadPart (k _ _ (X _ _ ho)) (wpAny_pure q))
    · cases e
  ne := fun h tp dd its n sl X htp => by
    obtain ⟨cd, e, _⟩ := PySem.W.any_some c.hd
    cases q : (Value.ref D == Value.ref tp) with
    | false => rfl
    | true =>
      have z : D = tp := Value.ref.inj (beq_iff_eq.mp q)
      rw [← z] at htp
      unfold PySem.W.clsIn at e
      split at e
      · rename_i ho
        have y := (X _ _ ho).symm.trans htp
        cases y
      · cases e
  ca := fun X I k => class_of_exc c X I k
end
section
variable {X : Cx} {a D : Addr} {oe : Obj} {d : Addr} {pn : List (Addr × Obj)}
/-- the caught error as the machine sees it -/
theorem inst_exc {pins : List (Addr × Obj)} {σ : L2.St} {H : Hp} {s : Shared} {fs : List (Str × V)} (I : Inv (X.suite a ((a, oe) :: pn)) pins σ H s) (hz : Zc (.ref D) (some d) oe) (hf : ∃ vs, oe.data = .fields vs) (hd : H d = some (.xd fs)) :
    ∃ od, PySem.W.InstAt s.heap a oe D (some od) := by
  obtain ⟨hget, _⟩ := I.pin (a, oe) (List.mem_append_left _ List.mem_cons_self)
  obtain ⟨vs, hv⟩ := hf
  obtain ⟨mA, hns, _⟩ := (show ObjOk X.prog X.w H s.heap d (.xd fs) from I.hok d _ hd)
  obtain ⟨od, ho, _⟩ := lookIn_ns hns
  exact ⟨od, hget, hz.1, by unfold PySem.W.notCls; rw [hv] <;> rfl, by rw [hz.2]; exact ho⟩
/-- isinstance(e, c) -/
def rIsX (K : PySem.W.Frag) (D a : Addr) (cls : Value) (d : Option Addr) : List V → Hp → VK → Prop := fun xs H Q => ∃ (c : V) (u : Value) (b : Bool) (dd : Addr) (fs : List (Str × V)), xs = [.ref a, c] ∧ cls = .ref D ∧ d = some dd ∧ ClsV c u ∧ H dd = some (.xd fs) ∧ PySem.W.kitOne K (.ref D) u = some b ∧ Q (.bl b) H
theorem call_isX {cls : Value} {d : Option Addr} (c : ExcC X.K D) (hz : Zc cls d oe) (hf : ∃ vs, oe.data = .fields vs) : CallR (X.suite a ((a, oe) :: pn)) (.builtin "isinstance") (rIsX X.K D a cls d) := by
  intro pins s σ H xs us Q I r h
  obtain ⟨cv, u, b, dd, fs, rfl, rfl, rfl, k, hd, e, q⟩ := h
  obtain ⟨u1, u2, rfl, r1, r2⟩ := vals2 r
  obtain rfl : u1 = Value.ref a := r1
  have e2 := k.eq r2
  subst e2
  obtain ⟨od, J⟩ := inst_exc I hz hf hd
  exact PySem.W.kia_one (kitx_exc c) I.kIn J e (fun z => nomatch z) fun tk => ⟨.bl b, H, I.tok tk, rfl, q⟩
/-- isinstance(e, (c1, c2, ..)) -/
def rIsXT (K : PySem.W.Frag) (D a : Addr) (cls : Value) (d : Option Addr) : List V → Hp → VK → Prop := fun xs H Q => ∃ (tp : Addr) (cs : List V) (us : List Value) (b : Bool) (dd : Addr) (fs : List (Str × V)), xs = [.ref a, .ref tp] ∧ cls = .ref D ∧ d = some dd ∧
  H tp = some (.tup cs) ∧ Paired ClsV cs us ∧ H dd = some (.xd fs) ∧ PySem.W.kitAny K (.ref D) us = some b ∧ Q (.bl b) H
theorem call_isXT {cls : Value} {d : Option Addr} (c : ExcC X.K D) (hz : Zc cls d oe) (hf : ∃ vs, oe.data = .fields vs) : CallR (X.suite a ((a, oe) :: pn)) (.builtin "isinstance") (rIsXT X.K D a cls d) := by
  intro pins s σ H xs us Q I r h
  obtain ⟨tp, cs, ws, b, dd, fs, rfl, rfl, rfl, hT, k, hd, e, q⟩ := h
  obtain ⟨u1, u2, rfl, r1, r2⟩ := vals2 r
  obtain rfl : u1 = Value.ref a := r1
  obtain rfl : u2 = Value.ref tp := r2
  obtain ⟨od, J⟩ := inst_exc I hz hf hd
  obtain ⟨_, its, rv, o, h1, h2, n, h3⟩ := (show ObjOk X.prog X.w H s.heap tp (.tup cs) from I.hok tp _ hT)
  have e3 := ClsV.all k rv
  subst e3
  obtain ⟨oc, odd, dt, sl⟩ := o
  simp only at h2 h3
  subst h2 h3
  exact PySem.W.kia_tup (kitx_exc c) I.kIn J h1 e (fun z => nomatch z) fun tk => ⟨.bl b, H, I.tok tk, rfl, q⟩
end
section
variable {X : Cx}
/-- repr of any data, also while an error is handled -/
theorem call_reprH (hg : X.A.guards = some []) (hu : X.A.units + 64 < cLine) (hs : SysOk X.K) : CallR X (.builtin "repr") (rReprQ X.K) := by
  intro pins s σ H xs us Q I r h
  obtain ⟨v, d, rfl, hd, hsh, hdep, hz, q⟩ := h
  obtain ⟨u, rfl, ru⟩ := vals1 r
  obtain ⟨as, rd, na⟩ := Dq.reads hs I hd u ru
  have viaRef : ∀ {a : Addr}, u = Value.ref a → wpAny (model X.prog X.w) X.A (call (.builtin "repr") [u]) (EP X pins σ Q) X.xe s := fun {a} e => by
    subst e
    exact repr_of_reads' rd hsh (fun _ => na) hg (by omega) (fun _ _ e => e) (fun h' u tk hk => ⟨.str _, H, I.kept hk, ⟨u, rfl⟩, q⟩) hz
  cases hd with
  | non =>
    cases ru
    exact PySem.P.repr_of_none ⟨.str _, H, I.tok _, ⟨_, rfl⟩, by simpa only [PyData.shown] using q⟩
  | bl b =>
    cases ru
    exact PySem.P.repr_of_bool ⟨.str _, H, I.tok _, ⟨_, rfl⟩, by simpa only [PyData.shown] using q⟩
  | int i =>
    obtain ⟨t, rfl⟩ := ru
    exact PySem.P.repr_of_int (by simpa [PyData.showable] using hsh) ⟨.str _, H, I.tok _, ⟨_, rfl⟩, by simpa only [PyData.shown] using q⟩
  | str x =>
    obtain ⟨t, rfl⟩ := ru
    exact PySem.P.repr_of_str ⟨.str _, H, I.tok _, ⟨_, rfl⟩, by simpa only [PyData.shown] using q⟩ (by simpa only [PyData.shown] using hz)
  | lst hq ha => exact viaRef ru
  | tup hq ha => exact viaRef ru
  | dct hq h1 h2 => exact viaRef ru
end
end Ex

set_option Elab.async false
set_option linter.all false
set_option maxRecDepth 100000
set_option maxHeartbeats 4000000
/-! Own layer: len(o) by an own __len__; what repr shows, within bounds; both law-free. -/
namespace Ex
open PySem PySem.Spec PySem.Calls PyProof.Rows L2 Gu
section
variable {X : Cx} {k j : Nat} {c : Str} {ps : List Str} {sp : Sp}
/-- len(o) by the class's own __len__ -/
def rLenO (C : Addr) (sp : Sp) : List V → Hp → VK → Prop := fun xs H Q => ∃ (a dx : Addr) (fs : List (Str × V)), xs = [.ref a] ∧ H a = some (.ins C dx fs) ∧ sp [.ref a] H (fun v H' => ∃ n : Nat, v = .int n ∧ n ≤ sizeLine ∧ Q (.int n) H') E0
theorem call_lenO (D : Mf X.prog X.w X.K X.mg X.base k c "__len__" ps sp) (hr : Room j X.A) (hj : k + 1 ≤ j := by decide) : CallR X (.builtin "len") (rLenO (He.ga X.K c) sp) := by
  intro pins s σ H xs us Q I r h
  obtain ⟨a, dx, fs, rfl, ha, hq⟩ := h
  obtain ⟨u, rfl, ru⟩ := vals1 r
  obtain rfl : u = Value.ref a := ru
  obtain ⟨fd, F, b⟩ := D.ex
  obtain ⟨mA, J, _⟩ := ins_get I.hok ha
  obtain ⟨od, J, _⟩ := J.look
  have rm : Room k X.A.in1 := (hr.mono hj).in1
  refine Calls.call_function_entry kind_len plain_len entry_len (args_len1 _) ?_
  unfold Builtin.«len»
  refine wpAny_bind (m := oneArg "len" _) (wpAny_pure ?_)
  refine wpAny_bind (m := callSpecial? (.ref a) (Str.ofString "__len__")) (PySem.W.special_fn (name := Str.ofString "__len__") (args := []) I.kIn J D.me.at_ (beq_iff_eq.mp D.me.fn) ?_)
  have e0 : Env0 X.prog X.w X.K X.mg X.base X.A.in1 X.stack s H := by
    have e := I.env0
    exact ⟨e.frames, e.mod, e.bs, e.bsz, e.funs, e.frf, e.hok, e.bare⟩
  have hl := F.len _ _ _ _ hq
  refine wpAny_call (codeAny_mono (F.run X.A.in1 X.stack s H ⟨[.ref a], []⟩ [.ref a] [.ref a] _ E0 rm e0 (by
    have := b s [.ref a] I.kIn (by simpa using hl)
    simpa using this) (.cons rfl .nil) hq) fun r s' hq' => ?_)
  match r, hq' with
  | .ok (.ret u), hq' =>
    obtain ⟨v, H', I', rv, n, rfl, hn, q⟩ := I.after hq'
    obtain ⟨t, rfl⟩ := rv
    have hs : sizeLine = 16777216 := sizeLine_eq
    refine wpAny_bind (wpAny_holding (wpAny_pure ?_))
    refine wpAny_bind (wpAny_letGo ?_)
    show wpAny _ _ (if ((n : Nat) : Int) < 0 then _ else _) _ _ _
    rw [if_neg (by omega)]
    show wpAny _ _ (if ((n : Nat) : Int) ≥ 2 ^ 63 then _ else _) _ _ _
    rw [if_neg (by omega)]
    exact wpAny_bind (wpAny_mkInt (wpAny_pure ⟨_, rfl, ⟨.int n, H', I'.tok _, ⟨_, rfl⟩, q⟩⟩))
end
theorem seqT {K : PySem.W.Frag} {H H' : Hp} {a : Addr} {xs : List V} (e : Same H H') (h : SqT K H a xs) : SqT K H' a xs := by
  rcases h with (h | ⟨o, h⟩) | h
  · exact .inl (.inl (e _ _ h))
  · exact .inl (.inr ⟨o, e _ _ h⟩)
  · exact .inr h
mutual
theorem dq_same {K : PySem.W.Frag} {H H' : Hp} (e : Same H H') : ∀ {v : V} {d : PyData}, Dq K H v d → Dq K H' v d
  | _, _, .non => .non
  | _, _, .bl b => .bl b
  | _, _, .int i => .int i
  | _, _, .str x => .str x
  | _, _, .lst hq ha => .lst (e.seq hq) (dqAll_same e ha)
  | _, _, .tup hq ha => .tup (seqT e hq) (dqAll_same e ha)
  | _, _, .dct hq h1 h2 => .dct (e _ _ hq) (dqAll_same e h1) (dqAll_same e h2)
theorem dqAll_same {K : PySem.W.Frag} {H H' : Hp} (e : Same H H') : ∀ {vs : List V} {ds : List PyData}, DqAll K H vs ds → DqAll K H' vs ds
  | _, _, .nil => .nil
  | _, _, .cons h1 h2 => .cons (dq_same e h1) (dqAll_same e h2)
end
/-- a value as repr shows it: nested at most n deep, at most m signs -/
structure Tq (K : PySem.W.Frag) (H : Hp) (v : V) (d : PyData) (n m : Nat) : Prop where
  dq : Dq K H v d
  sh : d.showable = true
  dp : d.depth ≤ n
  ln : d.shown.length ≤ m
structure TqAll (K : PySem.W.Frag) (H : Hp) (xs : List V) (ds : List PyData) (n m : Nat) : Prop where
  dq : DqAll K H xs ds
  sh : PyData.showableAll ds = true
  dp : PyData.depthAll ds ≤ n
  ln : ((PyData.shownAll ds).map (·.length)).sum + 2 * (PyData.shownAll ds).length ≤ xs.length * (m + 2)
section
variable {K : PySem.W.Frag} {H H' : Hp} {n m : Nat}
theorem Tq.same {v : V} {d : PyData} (t : Tq K H v d n m) (e : Same H H') : Tq K H' v d n m := ⟨dq_same e t.dq, t.sh, t.dp, t.ln⟩
theorem Tq.mono {v : V} {d : PyData} {n' m' : Nat} (t : Tq K H v d n m) (h1 : n ≤ n') (h2 : m ≤ m') : Tq K H v d n' m' := ⟨t.dq, t.sh, Nat.le_trans t.dp h1, Nat.le_trans t.ln h2⟩
theorem TqAll.same {xs : List V} {ds : List PyData} (t : TqAll K H xs ds n m) (e : Same H H') : TqAll K H' xs ds n m := ⟨dqAll_same e t.dq, t.sh, t.dp, t.ln⟩
theorem tq_all : ∀ {xs : List V}, (∀ v ∈ xs, ∃ d, Tq K H v d n m) → ∃ ds, TqAll K H xs ds n m
  | [], _ => ⟨[], .nil, rfl, Nat.zero_le _, Nat.zero_le _⟩
  | v :: xs, h => by
    obtain ⟨d, t⟩ := h v List.mem_cons_self
    obtain ⟨ds, a, b, c, e⟩ := tq_all (xs := xs) fun u hu => h u (List.mem_cons_of_mem _ hu)
    refine ⟨d :: ds, .cons t.dq a, ?_, ?_, ?_⟩
    · show (d.showable && PyData.showableAll ds) = true
      rw [t.sh, b]
      rfl
    · show max d.depth (PyData.depthAll ds) ≤ n
      have := t.dp
      omega
    · show (d.shown.length + ((PyData.shownAll ds).map (·.length)).sum) + 2 * ((PyData.shownAll ds).length + 1) ≤ (xs.length + 1) * (m + 2)
      have := t.ln
      rw [Nat.add_mul, Nat.one_mul]
      omega
theorem TqAll.lst {a : Addr} {xs : List V} {ds : List PyData} (t : TqAll K H xs ds n m) (h : H a = some (.lst xs)) : Tq K H (.ref a) (.list ds) (n + 1) (xs.length * (m + 2) + 3) := by
  refine ⟨.lst (SqL.of h) t.dq, t.sh, ?_, ?_⟩
  · show PyData.depthAll ds + 1 ≤ n + 1
    have := t.dp
    omega
  · have e := listText_len_le (PyData.shownAll ds)
    show (listText (PyData.shownAll ds)).length ≤ _
    have := t.ln
    omega
theorem TqAll.tup {a : Addr} {xs : List V} {ds : List PyData} (t : TqAll K H xs ds n m) (h : H a = some (.tup xs)) : Tq K H (.ref a) (.tuple ds) (n + 1) (xs.length * (m + 2) + 3) := by
  refine ⟨.tup (SqT.of h) t.dq, t.sh, ?_, ?_⟩
  · show PyData.depthAll ds + 1 ≤ n + 1
    have := t.dp
    omega
  · have e := tupleText_len_le (PyData.shownAll ds)
    show (tupleText (PyData.shownAll ds)).length ≤ _
    have := t.ln
    omega
theorem tq_non : Tq K H .non .none 0 41 := ⟨.non, rfl, Nat.le_refl _, by decide +kernel⟩
theorem tq_bl (b : Bool) : Tq K H (.bl b) (.bool b) 0 41 := ⟨.bl b, rfl, Nat.le_refl _, by cases b <;> decide +kernel⟩
theorem tq_int {i : Int} (h1 : -(10 ^ 39) ≤ i) (h2 : i ≤ 10 ^ 39) : Tq K H (.int i) (.int i) 0 41 := by
  have b39 : (10 : Int) ^ 39 = 1000000000000000000000000000000000000000 := by decide
  have e : i.natAbs < 10 ^ 40 := by
    have z : (10 : Nat) ^ 40 = 10000000000000000000000000000000000000000 := by decide
    omega
  have a : i.natAbs.log2 < 1920 := Nat.lt_of_lt_of_le (PySem.Flt.log2_lt_of (k := 200) (by decide) (Nat.lt_trans e (by decide))) (by decide)
  refine ⟨.int i, decide_eq_true a, Nat.le_refl _, ?_⟩
  have z := int_text_length_le10 (k := 40) (by decide) e
  show (Str.ofString (toString i)).length ≤ 41
  rw [PySem.ofString_length]
  exact z
theorem tq_text (z : String) (h : (reprText (Str.ofString z)).length ≤ 41) : Tq K H (.str (Str.ofString z)) (.str (Str.ofString z)) 0 41 := ⟨.str _, rfl, Nat.le_refl _, h⟩
theorem tq_dct {a : Addr} (h : H a = some (.dK [])) : Tq K H (.ref a) (.dict []) 1 41 := ⟨.dct h .nil .nil, rfl, by decide, by decide +kernel⟩
end
theorem code_lt {z : String} {c : Nat} (hc : c ∈ (Str.ofString z).cps.toList) : c < 1114112 := by
  have hc2 : c ∈ z.toList.map Char.toNat := by
    rw [← cpsOfBytes_string]
    simpa [Str.ofString] using hc
  obtain ⟨ch, _, rfl⟩ := List.mem_map.mp hc2
  have v : ch.val.toNat < 55296 ∨ (57343 < ch.val.toNat ∧ ch.val.toNat < 1114112) := ch.valid
  show ch.val.toNat < 1114112
  omega
/-- repr of such a value -/
theorem repr_tq {K : PySem.W.Frag} {H : Hp} {v : V} {d : PyData} {n m : Nat} {Q : VK} (t : Tq K H v d n m) (q : Q (.str d.shown) H) (hn : n ≤ 60 := by decide) (hm : m ≤ sizeLine := by decide) : rReprQ K [v] H Q :=
  ⟨v, d, rfl, t.dq, t.sh, Nat.le_trans t.dp hn, Nat.le_trans t.ln hm, q⟩
end Ex

set_option Elab.async false
set_option linter.all false
set_option maxRecDepth 100000
set_option maxHeartbeats 4000000
/-! Own layer: a == b by an own __eq__ that answers True or False; len(set(xs)) of ints that may be equal. -/
namespace Ex
open PySem PySem.Spec PySem.Calls PyProof.Rows L2 Gu
/-- a class's own == -/
structure EqOf (P : Program) (w : World) (K : PySem.W.Frag) (mg : Str → Option Value) (base : Heap) (k : Nat) (c : Str) (sp : Sp) : Prop where
  ex : ∃ fd, FnOk P w K mg base CX0 k (He.ma K (He.ga K c) "__eq__") fd ["self", "other"] sp ∧ Binds K fd ["self", "other"] []
  at_ : PySem.W.findIn K (.ref (He.ga K c)) "__eq__" = some (some (.ref (He.ma K (He.ga K c) "__eq__")))
  fn : PySem.W.isFn K (.ref (He.ma K (He.ga K c) "__eq__")) = true
/-- what isinstance asks of an own class, and that it knows itself -/
structure InsOk (K : PySem.W.Frag) (C : Addr) : Prop where
  cl : Cls K C
  ha : PySem.W.findIn K (.ref C) "__class__" = some (some (.builtin "object.__class__"))
  hn : PySem.W.specialIn K (.builtin "object.__class__") "__get__" = some (some (.builtin "getset_descriptor.__get__"))
  ht : PySem.W.takesIn K (.builtin "object.__class__") = some true
  hm : PySem.W.mroIn K C (.type "object") = some true
  ki : PySem.W.kitOne K (.ref C) (.ref C) = some true
def insB (K : PySem.W.Frag) (C : Addr) : Bool := He.eqO (PySem.W.findIn K (.ref C) "__class__") (some (some (.builtin "object.__class__"))) && (He.eqO (PySem.W.specialIn K (.builtin "object.__class__") "__get__") (some (some (.builtin "getset_descriptor.__get__"))) &&
  (decide (PySem.W.takesIn K (.builtin "object.__class__") = some true) && (decide (PySem.W.mroIn K C (.type "object") = some true) && decide (PySem.W.kitOne K (.ref C) (.ref C) = some true))))
theorem insB_ok {K : PySem.W.Frag} {C : Addr} (cl : Cls K C) (h : insB K C = true) : InsOk K C := by
  obtain ⟨h1, h⟩ := He.ba h
  obtain ⟨h2, h⟩ := He.ba h
  obtain ⟨h3, h⟩ := He.ba h
  obtain ⟨h4, h5⟩ := He.ba h
  exact ⟨cl, He.eqO_ok h1, He.eqO_ok h2, of_decide_eq_true h3, of_decide_eq_true h4, of_decide_eq_true h5⟩
theorem InsOk.ty {K : PySem.W.Frag} {C a dx : Addr} {fs : List (Str × V)} {H : Hp} (i : InsOk K C) (e : H a = some (.ins C dx fs)) : TyX K H (.ref a) (.ref C) := .base (.ins e i.cl i.ha i.hn i.ht i.hm)
/-- the facts of an own == by one Bool -/
def eqB (K : PySem.W.Frag) (C : Addr) : Bool := He.eqO (PySem.W.findIn K (.ref C) "__eq__") (some (some (.ref (He.ma K C "__eq__")))) && PySem.W.isFn K (.ref (He.ma K C "__eq__"))
theorem eqB_ok {K : PySem.W.Frag} {C : Addr} (h : eqB K C = true) : PySem.W.findIn K (.ref C) "__eq__" = some (some (.ref (He.ma K C "__eq__"))) ∧ PySem.W.isFn K (.ref (He.ma K C "__eq__")) = true := by
  obtain ⟨h1, h2⟩ := He.ba h
  exact ⟨He.eqO_ok h1, h2⟩
def rOwnEq (C : Addr) (sp : Sp) : R2 := fun x y H Q => ∃ a b dx dy fs gs, x = .ref a ∧ y = .ref b ∧ H a = some (.ins C dx fs) ∧ H b = some (.ins C dy gs) ∧ sp [.ref a, .ref b] H (fun v H' => (∃ t, v = .bl t) ∧ Q v H') E0
section
variable {X : Cx} {k j : Nat} {c : Str} {sp : Sp}
theorem op_own (D : EqOf X.prog X.w X.K X.mg X.base k c sp) (hr : Room j X.A) (hj : k ≤ j := by decide) : OpR X (compareOp .Eq) (rOwnEq (He.ga X.K c) sp) := by
  intro pins s σ H x y u v Q I rx ry ⟨a, b, dx, dy, fs, gs, ex, ey, ha, hb, hsp⟩
  subst ex ey
  obtain rfl : u = Value.ref a := rx
  obtain rfl : v = Value.ref b := ry
  obtain ⟨fd, F, bi⟩ := D.ex
  have hr' := hr.mono hj
  obtain ⟨mA, J, _⟩ := ins_get I.hok ha
  obtain ⟨mB, J', _⟩ := ins_get I.hok hb
  obtain ⟨od, J, _⟩ := J.look
  obtain ⟨od', J', _⟩ := J'.look
  obtain ⟨m, hF⟩ := I.fr
  show wpAny (model X.prog X.w) X.A (richCompare .Eq (.ref a) (.ref b)) (EP X pins σ Q) X.xe s
  refine PySem.W.cmp_K (op := .Eq) (tb := .ref (He.ga X.K c)) hr'.units0 hF I.ok.mod.kin J J'.type (by simp [PySem.W.notFirst]) D.at_ D.fn ?_
  have r2 : Vals [V.ref a, V.ref b] [Value.ref a, Value.ref b] := .cons rfl (.cons rfl .nil)
  have bb := bi s [.ref a, .ref b] I.kIn rfl
  refine wpAny_call (codeAny_mono (F.run X.A X.stack s H ⟨[.ref a, .ref b], []⟩ [.ref a, .ref b] [.ref a, .ref b] _ E0 hr' I.env0 (by simpa using bb) r2 hsp) fun r s' hq => ?_)
  match r, hq with
  | .ok (.ret w), hq =>
    obtain ⟨z, H', I', rz, ⟨t, ez⟩, q⟩ := I.after hq
    subst ez
    cases rz
    exact ⟨.bl t, H', I', rfl, q⟩
/-- how many different ones -/
def diff (ns : List Int) : Nat := (ns.foldl step_dedup []).length
theorem range_get (ns : List Int) : (List.range ns.length).map (fun i => ns.getD i 0) = ns := by
  apply List.ext_getElem?
  intro i
  by_cases h : i < ns.length
  · rw [List.getElem?_map, List.getElem?_range h, List.getElem?_eq_getElem h]
    simp [h]
  · rw [List.getElem?_eq_none (by rw [List.length_map, List.length_range]; omega), List.getElem?_eq_none (by omega)]
def tLenSetD (K : PySem.W.Frag) (ta : TE) : TE := fun σ H Q => ta σ H fun x H1 => ∃ (l : Addr) (ns : List Int), x = V.ref l ∧ SqL K H1 l (ns.map V.int) ∧ ns.length < 64 ∧ Q (.int (diff ns : Nat)) H1
theorem pe_lenSetD {a : Expr} {ta : TE} {p p2 q pos : Pos} (hc : X.calm = true) (hg : Gl X "len") (hm : X.mg "len" = none) (hg2 : Gl X "set") (hm2 : X.mg "set" = none) (ha : PE X a ta)
    (na : starEach [a] X.env = (false, eval a X.env) :: starEach [] X.env := by rfl) : PE X (.Call (.Name "len" p) [.Call (.Name "set" p2) [a] [] q] [] pos) (tLenSetD X.K ta) := by
  refine ⟨fun pins s σ H Q I h => Call_ (ld_blt I hg hm PySem.boot_len (PyProof.Rows.callWith_builtin1 (PyProof.Rows.args_cons (Call_ (ld_blt I hg2 hm2 PyProof.Rows.boot_set ?_)) rfl) rfl rfl))⟩
  refine PyProof.Rows.callWith_type1 (PyProof.Rows.args_cons (thn (ha.run pins s σ H _ I h) fun v s1 ⟨x, H1, I1, r1, l, ns, ex, hq, h1, q1⟩ => PyProof.Rows.args_nil ?_) na) na rfl
  subst ex
  obtain rfl : v = Value.ref l := r1
  obtain ⟨its, r, pl, hz⟩ := I1.list hq
  have hl : its.toArray.size = ns.length := by rw [List.size_toArray, ← r.length, List.length_map]
  refine call_set_list (I1.ok.hd hc) pl.isList (ns := ns) (by simpa using r.ints) (by unfold scanBound; omega) fun h' tk hS hk => PyProof.Rows.args_nil ?_
  have ed : (PyProof.Rows.firstMet (fun i => ns.getD i 0) its.toArray.size).length = diff ns := by
    unfold PyProof.Rows.firstMet diff
    rw [hl, range_get]
  have le : diff ns ≤ ns.length := by
    rw [← ed, ← hl]
    exact PyProof.Rows.firstMet_length_le _ _
  obtain ⟨o, es, ep, t, ho, hex, hd, _, _, _, hf, hn⟩ := hS
  rw [ed] at hn
  exact call_len_set ho hex hd hf (by rw [hn] <;> omega) ⟨.int (diff ns : Nat), H1, (I1.kept fun b o e => hk b o (Heap.lt_size e) e).tok _, ⟨_, by rw [hn]⟩, q1⟩
end
end Ex

set_option Elab.async false
set_option linter.all false
set_option maxRecDepth 100000
set_option maxHeartbeats 4000000
/-! Own layer: a != b by an own __eq__ and object's __ne__. -/
namespace HN
open PySem PySem.Spec PyProof.Rows PySem.SeqAt
section
variable {prog : Program} {w : World} {A : Around} {E : Value → Shared → Prop} {s : Shared} {K : PySem.W.Frag} {x C f : Addr} {b tb : Value} {ox : Obj} {od : Option Obj}
theorem objNe_entry {Q : Fin → Shared → Prop} (X : K.In s.heap) (I : PySem.W.InstAt s.heap x ox C od) (hs : PySem.W.findIn K (.ref C) "__eq__" = some (some (.ref f))) (hf : PySem.W.isFn K (.ref f) = true) (hu : A.units < cLine)
    (hcall : wpAny (model prog w) A (call (.ref f) [.ref x, b]) (fun v s' => ∃ t, v = .bool t ∧ Q (.done (.ret (.bool (!t)))) s') E s) :
    wpAny (model prog w) A (Builtin.«object.__ne__» ⟨[.ref x, b], []⟩) Q E s := by
  unfold Builtin.«object.__ne__»
  repeat (first
    | with_reducible refine wpAny_cRoomFor hu ?_
    | (refine wpAny_bind (m := callSpecialIfBound? (.ref x) (Str.ofString "__eq__") [b])
        (PySem.W.ifBound_K X I hs hf (wpAny_mono hcall (fun r s' hr => by
          obtain ⟨t, rfl, hq⟩ := hr
          repeat (first | exact hq | exact wpAny_pure hq | exact wpAny_truthy_bool hq | (refine wpAny_bind (m := truthy (.bool _)) (wpAny_truthy_bool ?_)) | wp_step)) fun _ _ e => e)))
    | wp_step)
theorem call_objNe {Q : Value → Shared → Prop} (X : K.In s.heap) (I : PySem.W.InstAt s.heap x ox C od) (hm : PySem.W.mroIn K C (.type "object") = some true) (hs : PySem.W.findIn K (.ref C) "__eq__" = some (some (.ref f))) (hf : PySem.W.isFn K (.ref f) = true) (hu : A.in1.units < cLine)
    (hcall : wpAny (model prog w) A.in1 (call (.ref f) [.ref x, b]) (fun v s' => ∃ t, v = .bool t ∧ Q (.bool (!t)) s') E s) :
    wpAny (model prog w) A (call (.builtin "object.__ne__") [.ref x, b]) Q E s :=
  wpAny_call (codeAny_call_builtin F.cmp_object.ne.plain F.cmpEntry_ne (PySem.W.check_slot F.cmpKind_ne F.cmpSplit_ne (I.type.andThen (PySem.W.looks_mroIn X hm)) (F.cmpArgs_ne _ _) (objNe_entry X I hs hf hu hcall)))
theorem ifBound_objNe {args : List Value} {Q : Option Value → Shared → Prop} {M : Model} (X : K.In s.heap) (I : PySem.W.InstAt s.heap x ox C od) (hs : PySem.W.findIn K (.ref C) "__ne__" = some (some (.builtin "object.__ne__")))
    (h : wpAny M A (call (.builtin "object.__ne__") (.ref x :: args)) (fun v => Q (some v)) E s) : wpAny M A (callSpecialIfBound? (.ref x) "__ne__" args) Q E s := by
  simp only [callSpecialIfBound?, bindSpecialIfBound?]
  refine wpAny_holding (wpAny_bind (wpAny_bind (wpAny_bind (I.type.here ((PySem.W.looks_findIn X hs).here ?_)))))
  refine wpAny_bind (wpAny_askSetting (wpAny_ite ?_))
  have fin : wpAny M A (call (.builtin "object.__ne__") ([.ref x] ++ args) >>= fun v => pure (some v)) Q E s := wpAny_bind (wpAny_mono h (fun v s' h' => wpAny_pure h') fun _ _ h' => h')
  split
  · exact wpAny_bind (wpAny_of_eq (F.cmp_object.ne.bind _) (wpAny_pure (by exact fin)))
  · exact wpAny_tryCatch (wpAny_bind (wpAny_of_eq (F.cmp_object.ne.bind _) (wpAny_pure (by exact fin))))
theorem ne_K {Q : Value → Shared → Prop} (hu : A.units < cLine) (hu1 : A.in1.units < cLine) (X : K.In s.heap) (I : PySem.W.InstAt s.heap x ox C od) (hb : PySem.W.Looks (model prog w) s.heap (typeOf b) (.ref C)) (hm : PySem.W.mroIn K C (.type "object") = some true)
    (hn : PySem.W.findIn K (.ref C) "__ne__" = some (some (.builtin "object.__ne__"))) (hs : PySem.W.findIn K (.ref C) "__eq__" = some (some (.ref f))) (hf : PySem.W.isFn K (.ref f) = true)
    (hcall : wpAny (model prog w) A.in1 (call (.ref f) [.ref x, b]) (fun v s' => ∃ t, v = .bool t ∧ Q (.bool (!t)) s') E s) : wpAny (model prog w) A (richCompare .NotEq (.ref x) b) Q E s := by
  have one : wpAny (model prog w) A (tryCompare (.ref x) "__ne__" b) (fun r s' => ∃ v, r = some v ∧ Q v s') E s := by
    unfold tryCompare
    refine wpAny_bind (ifBound_objNe X I hn (call_objNe X I hm hs hf hu1 (wpAny_mono hcall (fun v s' hv => ?_) fun _ _ e => e)))
    obtain ⟨t, rfl, q⟩ := hv
    exact ⟨t, rfl, wpAny_pure ⟨_, rfl, q⟩⟩
  simp only [richCompare, cmpInfo_NotEq, oneThing_ref]
  refine wpAny_holding (wpAny_bind (wpAny_cRoomFor hu ?_))
  refine wpAny_bind (I.type.here (wpAny_bind (hb.here ?_)))
  rw [show (Value.ref C != Value.ref C) = false from by simp]
  simp only [Bool.false_eq_true, if_false]
  refine wpAny_bind (wpAny_pure ?_)
  simp only [Bool.false_eq_true, if_false]
  refine wpAny_bind (wpAny_mono one (fun r s' z => ?_) fun _ _ e => e)
  obtain ⟨v, rfl, hq⟩ := z
  exact wpAny_pure hq
end
end HN
namespace Ex
open PySem PySem.Spec PySem.Calls PyProof.Rows L2 Gu
structure NeOk (K : PySem.W.Frag) (C : Addr) : Prop where
  ne : PySem.W.findIn K (.ref C) "__ne__" = some (some (.builtin "object.__ne__"))
  hm : PySem.W.mroIn K C (.type "object") = some true
def neB (K : PySem.W.Frag) (C : Addr) : Bool := He.eqO (PySem.W.findIn K (.ref C) "__ne__") (some (some (.builtin "object.__ne__"))) && decide (PySem.W.mroIn K C (.type "object") = some true)
theorem neB_ok {K : PySem.W.Frag} {C : Addr} (h : neB K C = true) : NeOk K C := by
  obtain ⟨h1, h2⟩ := He.ba h
  exact ⟨He.eqO_ok h1, of_decide_eq_true h2⟩
def rOwnNe (C : Addr) (sp : Sp) : R2 := fun x y H Q => ∃ a b dx dy fs gs, x = .ref a ∧ y = .ref b ∧ H a = some (.ins C dx fs) ∧ H b = some (.ins C dy gs) ∧ sp [.ref a, .ref b] H (fun v H' => ∃ t, v = .bl t ∧ Q (.bl (!t)) H') E0
section
variable {X : Cx} {k j : Nat} {c : Str} {sp : Sp}
theorem op_ownN (D : EqOf X.prog X.w X.K X.mg X.base k c sp) (N : NeOk X.K (He.ga X.K c)) (hr : Room j X.A) (hj : k + 1 ≤ j := by decide) : OpR X (compareOp .NotEq) (rOwnNe (He.ga X.K c) sp) := by
  intro pins s σ H x y u v Q I rx ry ⟨a, b, dx, dy, fs, gs, ex, ey, ha, hb, hsp⟩
  subst ex ey
  obtain rfl : u = Value.ref a := rx
  obtain rfl : v = Value.ref b := ry
  obtain ⟨fd, F, bi⟩ := D.ex
  have hr' := hr.mono hj
  obtain ⟨mA, J, _⟩ := ins_get I.hok ha
  obtain ⟨mB, J', _⟩ := ins_get I.hok hb
  obtain ⟨od, J, _⟩ := J.look
  obtain ⟨od', J', _⟩ := J'.look
  show wpAny (model X.prog X.w) X.A (richCompare .NotEq (.ref a) (.ref b)) (EP X pins σ Q) X.xe s
  refine HN.ne_K hr'.units0 hr'.in1.units0 I.kIn J J'.type N.hm N.ne D.at_ D.fn ?_
  have r2 : Vals [V.ref a, V.ref b] [Value.ref a, Value.ref b] := .cons rfl (.cons rfl .nil)
  have bb := bi s [.ref a, .ref b] I.kIn rfl
  refine wpAny_call (codeAny_mono (F.run X.A.in1 X.stack s H ⟨[.ref a, .ref b], []⟩ [.ref a, .ref b] [.ref a, .ref b] _ E0 hr'.in1 I.env0.in1 (by simpa using bb) r2 hsp) fun r s' hq => ?_)
  match r, hq with
  | .ok (.ret w), hq =>
    obtain ⟨z, H', I', rz, ⟨t, ez, q⟩⟩ := I.after hq
    subst ez
    cases rz
    exact ⟨t, rfl, .bl (!t), H', I', rfl, q⟩
end
end Ex

set_option Elab.async false
set_option linter.all false
set_option maxRecDepth 100000
set_option maxHeartbeats 4000000
/-! Own layer: errors with a field over any built-in base (ArithmeticError, LookupError, RuntimeError, ValueError), made and raised. -/
namespace Ex
open PySem PySem.Spec PySem.Calls PyProof.Rows L2 Gu
/-- own classes, then the mro of a built-in base -/
def refsB (tl : List Value) : List Value → Bool
  | .ref _ :: r => refsB tl r
  | l => l == tl
theorem refsB_two (tl : List Value) (l : List Value) (e : refsB tl l = true) : (∃ c r, l = .ref c :: r ∧ refsB tl r = true) ∨ l = tl := by
  cases l with
  | nil => exact .inr (beq_iff_eq.mp e)
  | cons v r => cases v with
    | ref c => exact .inl ⟨c, r, rfl, e⟩
    | _ => exact .inr (beq_iff_eq.mp e)
/-- a built-in base of errors -/
structure BaseE (B : String) (tl : List Value) : Prop where
  ex : ExcBaseFacts B (B ++ ".__new__") (B ++ ".__init__") tl
  pa : ∀ self : Value, refuseLoop self "__setattr__" tl = pure ()
  ob : tl.contains (.type "object") = true
  ne : tl.isEmpty = false
abbrev tailE (B : String) : List Value := [.type B, .type "Exception", .type "BaseException", .type "object"]
theorem base_AE : BaseE "ArithmeticError" (tailE "ArithmeticError") := ⟨F.excBase_ArithmeticError, F.store_ArithmeticError.passes, by decide +kernel, rfl⟩
theorem base_LE : BaseE "LookupError" (tailE "LookupError") := ⟨F.excBase_LookupError, F.store_LookupError.passes, by decide +kernel, rfl⟩
theorem base_RE : BaseE "RuntimeError" (tailE "RuntimeError") := ⟨F.excBase_RuntimeError, F.store_RuntimeError.passes, by decide +kernel, rfl⟩
theorem base_VE : BaseE "ValueError" (tailE "ValueError") := ⟨F.excBase_ValueError, F.store_ValueError.passes, by decide +kernel, rfl⟩
section
variable {B : String} {tl : List Value}
theorem BaseE.pass (b : BaseE B tl) (self : Value) : ∀ l, refsB tl l = true → refuseLoop self "__setattr__" l = pure ()
  | [], e => by
    have z : ([] : List Value) = tl := beq_iff_eq.mp e
    have n := b.ne
    rw [← z] at n
    cases n
  | v :: r, e => by
    rcases refsB_two tl _ e with ⟨c, r', q, h⟩ | q
    · cases q
      rw [refuseLoop_ref]
      exact b.pass self r h
    · rw [q]
      exact b.pa self
theorem BaseE.has (b : BaseE B tl) (Y : String) : ∀ l, refsB tl l = true → l.contains (.type Y) = tl.contains (.type Y)
  | [], e => by
    have z : ([] : List Value) = tl := beq_iff_eq.mp e
    rw [z]
  | v :: r, e => by
    rcases refsB_two tl _ e with ⟨c, r', q, h⟩ | q
    · cases q
      rw [List.contains_cons, b.has Y r h]
      rfl
    · rw [q]
theorem BaseE.some (b : BaseE B tl) {l : List Value} (e : refsB tl l = true) : l.isEmpty = false := by
  cases l with
  | cons _ _ => rfl
  | nil =>
    have z : ([] : List Value) = tl := beq_iff_eq.mp e
    have n := b.ne
    rw [← z] at n
    exact n
end
section
open Builtin Builtin.ObjectAttr
variable {prog : Program} {w : World} {A : Around} {R : Result → Shared → Prop} {hp : Heap} {g : Array GenState} {d : Drawn} {t : Nat} {os : OsState}
/-- the first field of an error is stored by object.__setattr__ -/
theorem first_field {B : String} {tl : List Value} (b : BaseE B tl) {K : W.Frag} {nm : Str} {tk : Tok} {v : Value} {x C : Addr} {fv : Array Value} {cd : ClassData}
    (KX : K.In hp) (hx : hp.get? x = some { cls := .ref C, data := .fields fv }) (hcd : W.clsIn K C = some cd) (mr : refsB tl cd.mro = true) (hdt : cd.hasDict = true) (no : W.findIn K (.ref C) nm = some none)
    (go : ∀ h' tk' dx, (∀ b o, b ≠ x → hp.get? b = some o → h'.get? b = some o) → hp.objs.size ≤ dx → dx ≠ x → h'.get? x = some { cls := .ref C, dict := some dx, data := .fields fv } →
      h'.Ns1 dx (fun y => if y = nm then some v else none) → R (.ok (.ret .none)) ⟨h', g, d, tk', os⟩) :
    codeAny (model prog w) A (.call (.builtin "object.__setattr__") ⟨[.ref x, .str nm tk, v], []⟩) R ⟨hp, g, d, t, os⟩ := by
  have IA : W.InstAt hp x { cls := .ref C, data := .fields fv } C none := ⟨hx, rfl, rfl, trivial⟩
  have so := F.store_object
  have nE := b.some mr
  have isO : cd.mro.contains (.type "object") = true := (b.has "object" _ mr).trans b.ob
  have far : x ≠ hp.objs.size := Nat.ne_of_lt (Heap.lt_size hx)
  have isI : W.Looks (model prog w) hp (isInstance (.ref x) (.type "object")) true := IA.type.andThen (W.looks_mroIn KX (by unfold W.mroIn; rw [hcd, Option.bind_some, if_neg (by rw [nE]; decide), isO]))
  refine codeAny_call_builtin so.slot.plain so.entry (@W.check_slot (model prog w) _ _ ⟨hp, g, d, t, os⟩ "object.__setattr__" "object" "__setattr__" (.ref x) [.str nm tk, v] [] _ so.kind so.split isI (so.args (.ref x) (.str nm tk) v) ?_)
  have lm : W.Looks (model prog w) hp (mroOf (.ref C)) cd.mro := (W.looks_clsIn KX hcd).andThen .now
  have ln : W.Looks (model prog w) hp (storeTaker? none) none := .now
  have lc : W.Looks (model prog w) hp (classData C) cd := W.looks_clsIn KX hcd
  rw [W.osa_eq, refuse_eq]
  refine wpAny_bind (wpAny_bind (IA.type.at (wpAny_bind (lm.at ?_))))
  rw [b.pass _ _ mr]
  refine wpAny_pure (wpAny_bind (IA.type.at (wpAny_bind ((W.looks_findIn KX no).at (wpAny_bind (ln.at ?_))))))
  show wpAny _ _ (storeInOwnDict (.ref x) (.ref C) (.str nm tk) nm v false) _ _ _
  obtain ⟨n1, n2, n3, n4, n5, hd, n7, n8, n9, n10, n11⟩ := cd
  dsimp only at hdt
  subst hdt
  unfold storeInOwnDict ownDictForStores
  repeat (first | with_reducible refine HandSPX.store_in_new ?_ ?_ | with_reducible refine wpAny_loadPart_at hx ?_ | with_reducible refine lc.at ?_ | wp_step)
  · exact ⟨_, #[], _, (Heap.get?_update_ne _ _ _ _ far.symm).trans (Heap.get?_push_at rfl rfl), rfl, fun e he => absurd he (by simp), fun _ => rfl⟩
  · intro h' tk' nn' sb
    have hx1 : (hp.push { cls := .type "dict", data := .dict #[] }).get? x = some { cls := .ref C, data := .fields fv } := Heap.get?_push_of_some _ hx
    exact go h' tk' hp.objs.size (fun c o hc ho => (sb.2 c (Nat.ne_of_lt (Heap.lt_size ho))).trans ((Heap.get?_update_ne _ _ _ _ hc).trans (Heap.get?_push_of_some _ ho))) (Nat.le_refl _) far.symm
      ((sb.2 x far).trans (Heap.get?_update_self _ hx1 rfl)) nn'
end
/-- what the written part says of an error's class over the base B -/
structure OexG (B : String) (tl : List Value) (K : PySem.W.Frag) (C : Addr) : Prop where
  base : BaseE B tl
  cls : ∃ nm q N bs bm sn sub ab col dd k0 k1 k2 k3 k5, K.lookup C = some (excClassObj nm q C N bs bm true sn sub ab col dd k0 k1 k2 k3 k5 (B ++ ".__new__")) ∧ refsB tl bm = true
  sa : PySem.W.findIn K (.ref C) "__setattr__" = some (some (.builtin "object.__setattr__"))
  exC : PySem.W.subIn K (.ref C) (.type "BaseException") = some true
  tyC : PySem.W.typeIn K (.ref C) = some (.type "type")
  kC : PySem.W.keepIn K (.ref C) = true
section
variable {X : Cx} {pins : List (Addr × Obj)} {σ : L2.St} {H : Hp} {s : Shared} {a C dx : Addr} {f : Str} {y : V} {u : Value} {Q : Unit → Shared → Prop} {E : Value → Shared → Prop} {A : Around} {B : String} {tl : List Value}
/-- self.f = y, the first one -/
theorem field_new (T : OexG B tl X.K C) (I : Inv X pins σ H s) (e : H a = some (exo a C none)) (no : PySem.W.findIn X.K (.ref C) f = some none) (ry : RelV y u)
    (go : ∀ dx s', H dx = none → dx ≠ a → Inv X pins σ (upd (upd H dx (exd dx [(f, y)])) a (exo a C (some dx))) s' → Q () s') : wpAny (model X.prog X.w) A (setAttr (.ref a) f u) Q E s := by
  obtain ⟨nm, q, N, bs, bm, sn, sub, ab, col, dd, k0, k1, k2, k3, k5, hC, mr⟩ := T.cls
  have hcl : PySem.W.clsIn X.K C = some { name := nm, bases := bs, mro := .ref C :: bm, ns := N, qualname := q, hasDict := true, slotNames := sn, subclasses := sub, abstract := ab, collection := col, hasDel := false } := by
    unfold PySem.W.clsIn
    rw [hC] <;> rfl
  obtain ⟨t1, at1⟩ := exo_at I.hok e
  obtain ⟨hp, g, dr, tk, os⟩ := s
  refine PySem.W.set_plain I.kIn (ox := { cls := .ref C, dict := none, data := .fields #[.ref t1, .none, .none, .none, .bool false, .none] }) (od := none) ⟨at1, rfl, rfl, trivial⟩ T.sa ?_
  refine first_field T.base I.kIn at1 hcl (show refsB tl (.ref C :: bm) = true from mr) rfl no (fun h' tk' dx k dn dne hx hn => ?_)
  have free : H dx = none := I.hok.fresh dn
  have far : ∀ {b : Addr} {o : Obj}, hp.get? b = some o → b ≠ dx := fun {b o} q => Nat.ne_of_lt (Nat.lt_of_lt_of_le (Heap.lt_size q) dn)
  have na : ∀ {b : Addr}, H b = none → b ≠ a := fun {b} n z => by
    rw [z, e] at n
    cases n
  have at2 : ∀ {b : Addr} {o : HO}, H b = some o → b ≠ a → upd (upd H dx (exd dx [(f, y)])) a (exo a C (some dx)) b = some o := fun {b o} q n => by
    rw [upd_ne n, upd_ne (ne_of_none q free)]
    exact q
  have U : Un X.fs [] H (upd (upd H dx (exd dx [(f, y)])) a (exo a C (some dx))) hp h' := {
    keep := fun b o q n _ _ => k b o (na n) q
    slot := fun b o q n _ _ => ⟨o.slots, k b o (na n) q⟩
    free := fun b o q n _ => (upd_ne (na n)).trans ((upd_ne (far q)).trans n)
    there := fun b o q _ => by
      by_cases hb : b = a
      · rw [hb]
        exact ⟨_, hx⟩
      · exact ⟨o, k b o hb q⟩
    tups := fun b xs q => at2 q (at_ne e q exo_tup)
    frzs := fun b o v q => at2 q (at_ne e q exo_frz)
    tbls := fun b ps q => ⟨#[], by rw [at2 q (at_ne e q exo_tbl)]; simp⟩ }
  refine go dx _ free dne (I.un (t' := tk') U fun b o q => ?_)
  by_cases hb : b = a
  · subst hb
    rw [upd_same] at q
    cases q
    exact exo_ok hx
  · rw [upd_ne hb] at q
    by_cases hd : b = dx
    · subst hd
      rw [upd_same] at q
      cases q
      exact exd_ok hn (relO_put (fs := []) ry fun g => True.intro)
    · rw [upd_ne hd] at q
      refine (I.hok b o q).stay (fun c v hc z => k c v ?_ z) (fun c hc => at2 hc (at_ne e hc exo_own)) (fun c xs hc => at2 hc (at_ne e hc exo_tup))
      rcases hc with hc | hc
      · rw [hc]
        exact hb
      · exact at_ne e hc exo_own
end
/-- self.f = e, the first field of an error -/
def tFst (B : String) (tl : List Value) (K : PySem.W.Frag) (f : Str) (to te : TE) : TS := fun D σ H => te σ H fun y H1 => to σ H1 fun x H2 => ∃ a C : Addr, x = .ref a ∧ OexG B tl K C ∧ PySem.W.findIn K (.ref C) f = some none ∧
  H2 a = some (exo a C none) ∧ ∀ dx, H2 dx = none → dx ≠ a → D.nx σ (upd (upd H2 dx (exd dx [(f, y)])) a (exo a C (some dx)))
section
variable {X : Cx} {o e : Expr} {es : List Expr} {to te : TE} {ta : TA} {f : Str} {p p' pos : Pos} {B : String} {tl : List Value}
theorem ps_fst (ho : PE X o to) (he : PE X e te) (hs : swapsWith e (some (.Attribute o f p')) pos.line X.env = pure false := by rfl) : PS X (.Assign [.Attribute o f p'] e pos) (tFst B tl X.K f to te) := by
  refine ⟨fun pins s σ H D I h => plainObj_wpAny_Assign_Attribute (thn (he.run pins s σ H _ I h) fun v s1 ⟨y, H1, I1, r1, q1⟩ => thn (ho.run pins s1 σ H1 _ I1 q1) fun u s2 ⟨x, H2, I2, r2, a, C, ex, T, no, ea, q⟩ => ?_) hs⟩
  subst ex
  obtain rfl : u = Value.ref a := r2
  exact field_new T I2 ea no r1 fun dx s' n ne J => ⟨σ, _, J, q dx n ne⟩
/-- C(e, ..) for a raise, C's own __init__ keeping sp -/
theorem pmk_oexG {CX : CXT} {x : Str} {C fI : Addr} {k : Nat} {fd : FuncData} {ps : List Str} {sp : Sp} {ds : List Value} {dvs : List V} (T : OexG B tl X.K C) (iC : PySem.W.findIn X.K (.ref C) "__init__" = some (some (.ref fI))) (tI : PySem.W.typeIn X.K (.ref fI) = some (.type "function"))
    (F1 : FnOk X.prog X.w X.K X.mg X.base CX k fI fd ps sp) (hr : Room (k + 1) X.A) (hb : Binds X.K fd ps ds) (hd : Vals dvs ds) (hx : Passes CX X (fun _ _ _ => False)) (hg : Gl X x) (hm : X.mg x = some (.ref C)) (ha : PA X (e :: es) ta)
    (hdb : (x == ("__debug__" : Str)) = false := by decide) (he : starEach (e :: es) X.env = (false, eval e X.env) :: starEach es X.env := by rfl) (hpl : (backTo pos (starEach es X.env)).any (·.1) = false := by rfl) :
    PMk X (.Call (.Name x p) (e :: es) [] pos) (tMkO C sp dvs ta) := by
  intro pins s σ H Q I h
  obtain ⟨nm, q, N, bs, bm, sn, sub, ab, col, dd, k0, k1, k2, k3, k5, hC, mr⟩ := T.cls
  refine wpAny_Call_Name_kw (ld_glob I hg hm (PySem.W.callWith_K (h₀ := X.base) I.ok.mod.kin T.kC (thn (ha.run pos pins s σ H _ I h) fun us s1 ⟨vs, H1, I1, r1, hz, q1⟩ => ⟨I1.kIn, ?_⟩) he hpl) hdb)
  show wpAny _ _ (call (.ref C) us) _ _ _
  obtain ⟨hp, g, dr, tk, os⟩ := s1
  generalize en : hp.objs.size + 1 = n
  have sz : hp.objs.size ≤ n := by omega
  have hq := q1 n (I1.hok.fresh sz)
  generalize ehp : (hp.push (PySem.W.kdv_tup us)).push (PySem.HandSPX.excO C hp.objs.size) = hp2
  have kk : ∀ b o, hp.get? b = some o → hp2.get? b = some o := fun b o e => by
    rw [← ehp]
    exact Heap.get?_push_of_some _ (Heap.get?_push_of_some _ e)
  have hget : hp2.get? n = some (PySem.HandSPX.excO C hp.objs.size) := by
    rw [← ehp, ← en]
    heap_get
  have I2 : Inv X pins σ (upd H1 n (exo n C none)) ⟨hp2, g, dr, tk, os⟩ := I1.laid (t' := tk) kk sz (exo_ok hget)
  have r2 : Vals (V.ref n :: (vs ++ dvs)) (Value.ref n :: (us ++ ds)) := .cons rfl (r1.append hd)
  have hl : (Value.ref n :: us ++ ds).length = ps.length := r2.length.symm.trans (F1.len _ _ _ _ hq)
  have few : us.length ≤ sizeLine := by
    rw [← Paired.length r1, sizeLine_eq]
    omega
  refine wpAny_call (PySem.HandSPX.call_own T.base.ex (fun Y => T.base.has Y bm mr) (I1.kIn _ _ hC) (PySem.W.looks_findIn I1.kIn iC) (fun self => PySem.W.bind_fn I1.kIn self tI) few ?_)
  rw [en, ehp]
  refine codeAny_mono (F1.run _ X.stack _ _ ⟨Value.ref n :: us, []⟩ (Value.ref n :: (us ++ ds)) _ _ (fun _ _ _ => False) (hr.make C us []) (I2.env0.make C us []) (hb _ (Value.ref n :: us) I2.kIn hl) r2 hq) fun r s' hq' => ?_
  match r, hq' with
  | .error er, hq' => exact hx pins σ _ _ er s' I2 hq'
  | .ok (.ret u), hq' =>
    obtain ⟨v, H2, os2, bare2, un2, hok2, rv, ev, d, fs, ea, ed, hd1, q2⟩ := hq'
    subst ev
    obtain ⟨h2, g2, d2, t2, os'⟩ := s'
    exact ⟨rv, mk_end (raises_own T.exC T.tyC) I1 sz kk un2 hok2 os2 bare2 ea ed hd1 q2⟩
end
end Ex

set_option Elab.async false
set_option linter.all false
set_option maxRecDepth 100000
set_option maxHeartbeats 4000000
/-! Own layer: several clauses 'except x as n' of one try, all with the same name n. -/
namespace Ex
open PySem PySem.Spec PySem.Calls PyProof.Rows L2 Gu
abbrev Suites : Type := List (Value × (Addr → Value → Option Addr → TS))
/-- what the clauses wish of an error of the body, one after the other: slot i is n's -/
def wAsAll (K : PySem.W.Frag) (i : Nat) (Wout : WX) (D : Ends) : Suites → WX
  | [] => Wout
  | (c, ts) :: r => wAs K c i ts (wAsAll K i Wout D r) D
inductive HdAs (X : Cx) (n : Str) : List ExceptHandler → Suites → Prop
  | nil : HdAs X n [] []
  | cons {x : Str} {c : Value} {ts : Addr → Value → Option Addr → TS} {b0 : Stmt} {su : List Stmt} {np p2 : Pos} {hs : List ExceptHandler} {l : Suites} (hc : Names X x c)
      (hsu : ∀ (a : Addr) (oe : Obj) (cls : Value) (d : Option Addr) (pn : List (Addr × Obj)), Zc cls d oe → (∃ vs, oe.data = .fields vs) → PSs (X.suite a ((a, oe) :: pn)) (b0 :: su) (ts a cls d)) (r : HdAs X n hs l) :
      HdAs X n (.ExceptHandler (some (.Name x np)) (some n) (b0 :: su) p2 :: hs) ((c, ts) :: l)
section
variable {X : Cx} {n : Str} {i : Nat} {body : List Stmt} {h0 : ExceptHandler} {hds : List ExceptHandler} {l : Suites} {pos : Pos} {tb : WX → TS} {Wout : WX}
theorem ps_try_asAll (hs : X.stack = X.env :: X.outer) (hf : X.env.frame = some X.env.locals) (hN : X.N.Nodup) (hi : X.N[i]? = some n) (hln : X.env.kindOf n = some .local) (tk : Takes X Wout)
    (hb : ∀ (W : WX) (pn : List (Addr × Obj)) (xe : Value → Shared → Prop), Takes (X.tr pn xe) W → PassesOwn (model X.prog X.w) X.A X.env xe → PSs (X.tr pn xe) body (tb W))
    (hh : HdAs X n (h0 :: hds) l) : PS X (.Try body (h0 :: hds) [] [] pos) (fun D σ H => tb (wAsAll X.K i Wout D l) D σ H) := by
  refine ⟨fun pins s σ H D I h => ?_⟩
  have ok := I.ok
  have fr : X.A.frames = some (X.env :: X.outer) := by
    rw [ok.frames, hs]
  refine wpAny_Try_except (wpAny_mono ((hb (wAsAll X.K i Wout D l) (X.pn ++ pins) (fun e s1 => wpAny (model X.prog X.w) X.A (noteFrame e X.env) (fun _ s2 => wpAny (model X.prog X.w) X.A (setFlight e none) (fun _ s3 =>
    wpAny (model X.prog X.w) X.A (handleBy e X.env (h0 :: hds)) (SP X pins D) X.xe s3) X.xe s2) X.xe s1) (fun u s' xx => ?_) PassesOwn.looking).run [] s σ H D (I.toTry _) h) (fun f s1 hsp => ?_) (fun e s1 he => he))
  · obtain ⟨a, B, sI, pins', σ1, H1, cls, d, rfl, J0, nb, up, sky, na, os, ag, w⟩ := xx
    have J : Inv X pins σ1 H1 sI := J0.ofTry ok
    rw [hs] at sky
    show wpAny (model X.prog X.w) X.A (noteFrame (.ref a) X.env) _ _ _
    refine Sky.land Zc.steady fr hf sky fun h3 fl up3 => ?_
    have J3 : Inv X pins σ1 H1 { s' with heap := h3 } := J.landed nb fl.1 (up.trans up3) os ag
    obtain ⟨o3, v3, he3, hz3, hd3⟩ := fl.there
    have nfr : a ∉ frs (X.env :: X.outer) := fun hm => by
      obtain ⟨_, o', e', hnf⟩ := fl.2.2.1.mem hm
      rw [he3] at e'
      cases e'
      exact hnf _ hd3
    have nL : a ≠ X.env.locals := fun z => nfr (List.mem_filterMap.mpr ⟨X.env, List.mem_cons_self, by rw [hf, z]⟩)
    have nF : a ∉ X.fs := fun hm => by
      obtain ⟨e, he, q⟩ := List.mem_filterMap.mp hm
      exact nfr (List.mem_filterMap.mpr ⟨e, List.mem_cons_of_mem _ he, q⟩)
    have S3 := J3.suite he3 hd3 na nL nF
    have go : ∀ {hs2 : List ExceptHandler} {l2 : Suites}, HdAs X n hs2 l2 → wAsAll X.K i Wout D l2 cls d σ1 H1 → wpAny (model X.prog X.w) X.A (handleBy (.ref a) X.env hs2) (SP X pins D) X.xe { s' with heap := h3 } := by
      intro hs2 l2 hk
      induction hk with
      | nil =>
        intro w
        refine wpAny_handleBy_nil ?_
        obtain ⟨_, _, _, oe, vs, Tb, oT, tsT, he, hz, hd, h1, hr⟩ := id fl
        unfold PySem.passOn
        refine wpAny_bind (wpAny_field he hd h1 ?_)
        rw [if_neg (show ¬ ((Value.ref Tb == Value.none) = true) from by simp)]
        have fin : wpAny (model X.prog X.w) X.A (setFlight (.ref a) X.env.frame) (fun _ s4 => wpAny (model X.prog X.w) X.A (throw (.ref a) : Sem Flow) (SP X pins D) X.xe s4) X.xe { s' with heap := h3 } := by
          rw [hf]
          exact HandSPX.setFlight_upZ fl fun h4 hh4 up4 => wpAny_throw (tk _ _ ⟨a, B, sI, pins, σ1, H1, cls, d, rfl, J, nb, (up.trans up3).trans up4, .inr (.inr (by rw [hs]; exact hh4)), na, os, ag, w⟩)
        first
          | exact wpAny_bind (wpAny_pure (wpAny_bind fin))
          | exact wpAny_bind fin
      | @cons x c ts b0 su np p2 hs3 l3 hc hsu r ih =>
        intro w
        obtain ⟨b, hb1, yes, no⟩ := w
        refine wpAny_handleBy_cons (codeAny_handlers_test ?_) (by intro q; cases q)
        have lt : PySem.W.Looks (model X.prog X.w) h3 (typeOf (.ref a)) cls := fun A Q E s k q => wpAny_typeOf_ref (k _ _ he3) (by rw [hz3.1]; exact q)
        have lm := PySem.W.exm_one (M := model X.prog X.w) J3.kIn lt hb1
        have name : ∀ {Q : Value → Shared → Prop} {E : Value → Shared → Prop}, Q c { s' with heap := h3 } → wpAny (model X.prog X.w) (X.A.mark (some (.ref a))) (eval (.Name x np) X.env) Q E { s' with heap := h3 } := fun {Q E} q => by
          obtain ⟨hg, hdbg, hm | ⟨hm, hv, hnn⟩⟩ := hc
          · exact ld_glob (X := X.suite a ((a, o3) :: (X.pn ++ pins))) S3 hg hm q hdbg
          · exact ld_blt (X := X.suite a ((a, o3) :: (X.pn ++ pins))) S3 hg hm hv q hnn hdbg
        refine name (lm.here ?_)
        cases b with
        | false =>
          show wpAny _ X.A (handleBy (.ref a) X.env hs3) _ _ _
          exact ih (no rfl)
        | true =>
          refine codeAny_handlers_suite_as (HandSPX.lands_againZ fl fun h4 fl4 up4 => ?_)
          have J4 : Inv X pins σ1 H1 { s' with heap := h4 } := J.landed nb fl4.1 ((up.trans up3).trans up4) os ag
          obtain ⟨o4, v4, he4, hz4, hd4⟩ := fl4.there
          have S4 := J4.suite he4 hd4 na nL nF
          refine store_ok (X := X.suite a ((a, o4) :: (X.pn ++ pins))) (v := .ref a) S4 hN hi (.inl hln) rfl (fun s5 S5 => ?_) (.inr hln)
          refine wpAny_mono ((hsu a o4 cls d (X.pn ++ pins) hz4 ⟨_, hd4⟩).run [] s5 _ H1 _ S5 (yes rfl a na)) (fun f s6 hsp => ?_) (fun _ _ z => False.elim z)
          have out : ∀ {σ6 : L2.St} {H6 : Hp} {Q : Shared → Prop}, Inv (X.suite a ((a, o4) :: (X.pn ++ pins))) [] σ6 H6 s6 → (∀ s7, Inv X pins (σ6.set i none) H6 s7 → Q s7) →
              wpAny (model X.prog X.w) X.A (do bindName X.env n .none; unbindBehindTheSuite X.env n p2) (fun _ s7 => Q s7) X.xe s6 := fun {σ6 H6 Q} S6 hq => gone_ok (S6.unsuite ok) hN hi hln hq
          match f, hsp with
          | .next, ⟨σ6, H6, S6, q6⟩ => exact out S6 fun s7 J7 => ⟨_, _, J7, q6⟩
          | .brk, ⟨σ6, H6, S6, q6⟩ => exact out S6 fun s7 J7 => ⟨_, _, J7, q6⟩
          | .cont, ⟨σ6, H6, S6, q6⟩ => exact out S6 fun s7 J7 => ⟨_, _, J7, q6⟩
          | .ret u, ⟨v6, σ6, H6, S6, r6, q6⟩ => exact out S6 fun s7 J7 => ⟨_, _, _, J7, r6, q6⟩
    exact go hh w
  · match f, hsp with
    | .next, ⟨σ1, H1, J1, q⟩ => exact wpAny_execs_nil ⟨σ1, H1, J1.ofTry ok, q⟩
    | .brk, ⟨σ1, H1, J1, q⟩ => exact ⟨σ1, H1, J1.ofTry ok, q⟩
    | .cont, ⟨σ1, H1, J1, q⟩ => exact ⟨σ1, H1, J1.ofTry ok, q⟩
    | .ret u, ⟨v, σ1, H1, J1, r, q⟩ => exact ⟨v, σ1, H1, J1.ofTry ok, r, q⟩
end
end Ex

set_option Elab.async false
set_option linter.all false
set_option maxRecDepth 100000
set_option maxHeartbeats 4000000
/-! Own layer: defs that make lambdas; the end of a law whose defs write the tables of their code objects, where no repr is under way. -/
namespace Gu
open PySem PySem.Spec PyProof.Rows L2
section
variable {P : Program} {w : World} {K : PySem.W.Frag} {mg : Str → Option Value} {base : Heap} {CX : CXT} {k : Nat} {f : Addr} {fd : FuncData} {ps : List Str} {sp : Sp}
/-- a def by its body, its code object known -/
theorem okGc {x qual : Str} {params : Arguments} {body : List Stmt} {scope : Scope} {dvs : List V} {kws : List (Str × V)} {N : List Str}
    (F : FunD K x qual params body scope dvs kws f fd) (S : FnScope N ps scope) (len : ∀ vs H Q E, sp vs H Q E → vs.length = ps.length)
    (hbody : ∀ (A : Around) (outer : List Env) (s : Shared) (H : Hp) (vs : List V) (Q : VK) (E : XK),
      RoomG k (A.deeper (envOfC qual scope s.heap.objs.size f fd.code)) → sp vs H Q E →
      ∃ t, PSs (cxOf CX P w K mg base N qual scope f fd.code A outer s H E) body t ∧ t { nx := fun _ H' => Q .non H', rt := Q } (start N vs) H) :
    FnG P w K mg base CX (k + 1) f fd ps sp := by
  obtain ⟨oc, od, dV, kV, doc, pm, an, cdv, ct, osl, rfl, lk, hcd, _, _⟩ := F.ex
  refine ⟨len, fun A outer s H args us vs Q E hr e0 hb rv hsp => ?_⟩
  have KX : K.In s.heap := e0.mod.kin.keeps fun b o e => (e0.bs b o e).1
  have kinds : ∀ y ∈ ps.zip us, scope.names.lookup y.1 = some .local ∨
      (scope.names.lookup y.1 = some .cell ∧ ((cellsFrom (s.heap.objs.size + 1) scope.names []).lookup y.1).isSome = true) := fun ⟨n, v⟩ hy => by
    rcases S.par n (List.of_mem_zip hy).1 with q | q
    · exact .inl q
    · exact .inr ⟨q, PySem.W.cellsFrom_some _ _ _ (.inl q)⟩
  refine codeAny_call_function hr.r.depth (KX _ _ lk) rfl S.co S.gen rfl (PySem.W.codeRec_of KX hcd) (hb _ _ _ _ ?_)
  refine wpAny_newFunctionEnv_cells S.kind kinds fun env he s1 x => ?_
  subst he
  refine ⟨(e0.mod.nolimit.keeps fun b o e => (e0.bs b o e).1).keeps x.toInCall.keep, codeAny_func ?_⟩
  obtain ⟨t, ht, hq⟩ := hbody A outer s H vs Q E (hr.down _) hsp
  have I := inv_start (CX := CX) (E := E) (N := N) (qual := qual) (f := f) (cd := cdv) S hr.r.hd e0 (len _ _ _ _ hsp) rv x
  refine wpAny_mono (ht.run [] s1 (start N vs) H _ I hq) (fun fl s' hs => ?_) fun e s' hs => hs
  match fl, hs with
  | .ret u, ⟨v, σ', H', J, rv', q⟩ => exact ⟨v, H', J.os, J.bare, J.base, J.hok, rv', q⟩
  | .next, ⟨σ', H', J, q⟩ => exact ⟨V.non, H', J.os, J.bare, J.base, J.hok, rfl, q⟩
  | .brk, ⟨_, _, z⟩ => exact z.2.elim
  | .cont, ⟨_, _, z⟩ => exact z.2.elim
end
/-- what stands in the heap before the law's call: the script, and the tables of the code objects cs -/
structure Tab0 (cs : List (Addr × Addr)) (H : Hp) : Prop where
  at_ : ∀ p ∈ cs, H p.2 = some (.tbl #[])
theorem law_goT {P : Program} {w : World} {K : PySem.W.Frag} {mg mb : Str → Option Value} {CX : CXT} {k : Nat} {fa a : Addr} {cs : List (Addr × Addr)} {fd : FuncData} {x : Str} {sp : Sp} {s₁ : Shared} {vs : List Value} {H : Hp}
    (KX : K.In s₁.heap) (hns : s₁.heap.Ns mainGlobals mg) (hb : s₁.heap.Ns builtinsNs mb) (hbb : ∀ x : Str, x ≠ "__name__" → mb x = bootBuiltins x) (hlim : s₁.heap.NoLimit) (hg : s₁.gens = #[])
    (tab : ∀ p ∈ cs, s₁.heap.get? p.2 = some { cls := .none, data := .fields #[] }) (cod : ∀ p ∈ cs, PySem.W.CodeHd s₁.heap p.1 p.2)
    (hbm : ∃ (bm : Addr) (ob : Obj), mg "__builtins__" = some (.ref bm) ∧ bm ≠ builtinsNs ∧ s₁.heap.get? bm = some ob ∧ ob.cls = .type "module" ∧ ob.dict = some builtinsNs ∧ ob.data = .plain)
    (ha : s₁.heap.get? a = some { cls := .type "list", data := .seq vs.toArray }) (hr : RoomG k callerA)
    (F : ∀ base : Heap, K.In base → base.Ns mainGlobals mg → (∀ p ∈ cs, LamX.TabB base mg p.1 p.2) → FnG P w K mg base CX k fa fd [x] sp) (hbind : ∀ (s : Shared) (u : Value), BindsTo s fd ⟨[u], []⟩ [(x, u)])
    (hsp : sp [.ref a] H (fun v _ => v = .bl true) fun _ _ _ => False) (hCX : ∀ e s', CX [] H s₁ (fun _ _ _ => False) e s' → False)
    (hT : Tab0 cs H) (hO : ∀ b, H b = none ∨ b ∈ cs.map (·.2) ∨ ∃ o xs, H b = some (.frz o (.lst xs))) (hok : HOk P w H s₁.heap) (hA : ∀ b, H b ≠ none → b = a ∨ b ∈ cs.map (·.2)) (hK : ∀ b, H b ≠ none → K.lookup b = none) :
    codeAny (model P w) callerA (.call (.ref fa) ⟨[.ref a], []⟩) (fun r s' => r = .ok (.ret (.bool true)) ∧ OldK s₁.heap s'.heap ∧ s'.os = s₁.os ∧ AllBare s'.gens) s₁ := by
  have isT : ∀ b : Addr, b ∈ cs.map (·.2) → s₁.heap.get? b = some { cls := .none, data := .fields #[] } := fun b hb => by
    obtain ⟨p, hp, e⟩ := List.mem_map.mp hb
    rw [← e]
    exact tab p hp
  have un : ∀ {b : Addr} {o : Obj}, s₁.heap.get? b = some o → (∀ zs n, o.data ≠ .seq zs n) → o.data ≠ .fields #[] → H b = none := fun {b o} e h1 h2 => by
    cases q : H b with
    | none => rfl
    | some u =>
      rcases hA b (by rw [q]; exact fun z => nomatch z) with z | z
      · rw [z, ha] at e
        exact (h1 _ _ (congrArg Obj.data (Option.some.inj e)).symm).elim
      · rw [isT b z] at e
        exact (h2 (congrArg Obj.data (Option.some.inj e)).symm).elim
  have nsK : ∀ {b : Addr} {m : Str → Option Value}, s₁.heap.Ns b m → (hidT s₁.heap H).Ns b m := fun {b m} ⟨o, es, ep, e, d, r⟩ =>
    ⟨o, es, ep, hidT_get e (un e (fun zs n z => by rw [d] at z; cases z) (fun z => by rw [d] at z; cases z)), d, r⟩
  have kb : K.In (hidT s₁.heap H) := fun b o e => hidT_get (KX b o e) (by
    cases q : H b with
    | none => rfl
    | some u =>
      rw [hK b (by rw [q]; exact fun z => nomatch z)] at e
      cases e)
  obtain ⟨mc, l1, l2⟩ := hlim
  have tb : ∀ p ∈ cs, LamX.TabB (hidT s₁.heap H) mg p.1 p.2 := fun p hp => by
    refine ⟨?_, ?_, fun z => ?_⟩
    · obtain ⟨o, us, file, tf, flags, tg, inF, text, tt, e1, r1, r2, r3, r4⟩ := cod p hp
      refine ⟨o, us, file, tf, flags, tg, inF, text, tt, hidT_get e1 (un e1 (fun zs n z => by rw [r2] at z; cases z) fun z => ?_), r1, r2, r3, r4⟩
      rw [r2] at z
      cases z
      simp at r3
    · obtain ⟨bm, ob, b1, b2, b3, b4, b5, b6⟩ := hbm
      refine ⟨bm, ob, b1, b2, fun q => ?_, fun q => ?_, hidT_get b3 (un b3 (fun zs n z => by rw [b6] at z; cases z) fun z => by rw [b6] at z; cases z), b4, b5, b6⟩
      · obtain ⟨o, es, ep, e, hd, _⟩ := hns
        rw [q, e] at b3
        cases b3
        rw [hd] at b6
        cases b6
      · rw [q, tab p hp] at b3
        cases b3
        cases b6
    · obtain ⟨o, es, ep, e, hd, _⟩ := hns
      rw [z, tab p hp] at e
      cases e
      cases hd
  have e0 : Env0 P w K mg (hidT s₁.heap H) callerA [] s₁ H :=
    ⟨rfl, ⟨kb, nsK hns, ⟨mb, nsK hb, hbb⟩, ⟨mc, nsK l1, l2⟩⟩, fun b o e => of_hidT e, Nat.le_of_eq (hidT_size _ _), trivial, fun b hb => absurd (show b ∈ ([] : List Addr) from hb) List.not_mem_nil, hok, .of_eq hg⟩
  refine codeAny_mono ((F _ kb (nsK hns) tb).run callerA [] s₁ H ⟨[.ref a], []⟩ [.ref a] [.ref a] _ _ hr e0 (hbind s₁ (.ref a)) (.cons rfl .nil) hsp) fun r s' h => ?_
  match r, h with
  | .error e, h => exact (hCX e s' h).elim
  | .ok (.ret u), h =>
    obtain ⟨v, H', os, bare, un', hok', r', q⟩ := h
    obtain rfl : v = .bl true := q
    obtain rfl : u = Value.bool true := r'
    have key : ∀ b o, b ∉ cs.map (·.2) → s₁.heap.get? b = some o → s'.heap.get? b = some o := fun b o nb e => by
      rcases hO b with z | z | ⟨ob, xs, z⟩
      · exact un'.keep b o e z (fun z => absurd (show b ∈ ([] : List Addr) from z) List.not_mem_nil) (fun z => absurd (show b ∈ ([] : List Addr) from z) List.not_mem_nil)
      · exact absurd z nb
      · obtain ⟨e1, _⟩ := hok b _ z
        obtain ⟨e2, _⟩ := hok' b _ (un'.frzs b ob _ z)
        rw [e] at e1
        rw [Option.some.inj e1]
        exact e2
    have more : ∀ p ∈ cs, ∃ m : Array Value, s'.heap.get? p.2 = some { cls := .none, data := .fields m } := fun p hp => by
      obtain ⟨m, z⟩ := un'.tbls p.2 #[] (hT.at_ p hp)
      exact ⟨_, hok' p.2 _ z⟩
    refine ⟨rfl, ⟨fun b o e => ?_, fun b o e => ?_⟩, os, bare⟩
    · by_cases hb : b ∈ cs.map (·.2)
      · obtain ⟨p, hp, ep⟩ := List.mem_map.mp hb
        obtain ⟨m, hm⟩ := more p hp
        rw [← ep] at e ⊢
        rw [tab p hp] at e
        cases e
        exact .inr (.inl ⟨((cod p hp).tab (tab p hp)).isCodeTable, rfl, #[], m, rfl, by rw [Array.empty_append]; exact hm⟩)
      · exact .inl (key b o hb e)
    · by_cases hb : b ∈ cs.map (·.2)
      · obtain ⟨p, hp, ep⟩ := List.mem_map.mp hb
        obtain ⟨m, hm⟩ := more p hp
        rw [← ep]
        exact ⟨_, hm⟩
      · exact ⟨o, key b o hb e⟩
theorem law_callTG {P : Program} {w : World} {K : PySem.W.Frag} {mg mb : Str → Option Value} {CX : CXT} {k : Nat} {fa a : Addr} {cs : List (Addr × Addr)} {fd : FuncData} {x : Str} {sp : Sp} {s₁ : Shared} {vs : List Value} {ns : List Int}
    (KX : K.In s₁.heap) (hns : s₁.heap.Ns mainGlobals mg) (hb : s₁.heap.Ns builtinsNs mb) (hbb : ∀ x : Str, x ≠ "__name__" → mb x = bootBuiltins x) (hlim : s₁.heap.NoLimit) (hg : s₁.gens = #[])
    (tab : ∀ p ∈ cs, s₁.heap.get? p.2 = some { cls := .none, data := .fields #[] }) (nT : ∀ p ∈ cs, K.lookup p.2 = none) (cod : ∀ p ∈ cs, PySem.W.CodeHd s₁.heap p.1 p.2)
    (hbm : ∃ (bm : Addr) (ob : Obj), mg "__builtins__" = some (.ref bm) ∧ bm ≠ builtinsNs ∧ s₁.heap.get? bm = some ob ∧ ob.cls = .type "module" ∧ ob.dict = some builtinsNs ∧ ob.data = .plain)
    (ha : s₁.heap.get? a = some { cls := .type "list", data := .seq vs.toArray }) (hi : IntsAre vs ns) (hl : ns.length ≤ sizeLine) (hr : RoomG k callerA)
    (F : ∀ base : Heap, K.In base → base.Ns mainGlobals mg → (∀ p ∈ cs, LamX.TabB base mg p.1 p.2) → FnG P w K mg base CX k fa fd [x] sp) (hbind : ∀ (s : Shared) (u : Value), BindsTo s fd ⟨[u], []⟩ [(x, u)])
    (hsp : ∀ H : Hp, Tab0 cs H → SqL K H a (ns.map V.int) → sp [.ref a] H (fun v _ => v = .bl true) fun _ _ _ => False) (hCX : ∀ H e s', CX [] H s₁ (fun _ _ _ => False) e s' → False) :
    codeAny (model P w) callerA (.call (.ref fa) ⟨[.ref a], []⟩) (fun r s' => r = .ok (.ret (.bool true)) ∧ OldK s₁.heap s'.heap ∧ s'.os = s₁.os ∧ AllBare s'.gens) s₁ := by
  have rv := vals_ints hi
  have lenV := hi.length
  have isT : ∀ b : Addr, b ∈ cs.map (·.2) → s₁.heap.get? b = some { cls := .none, data := .fields #[] } ∧ K.lookup b = none := fun b hb => by
    obtain ⟨p, hp, e⟩ := List.mem_map.mp hb
    rw [← e]
    exact ⟨tab p hp, nT p hp⟩
  have aT : a ∉ cs.map (·.2) := fun z => by
    have q := (isT a z).1
    rw [ha] at q
    cases congrArg Obj.data (Option.some.inj q)
  have memT : ∀ p ∈ cs, p.2 ∈ cs.map (·.2) := fun p hp => List.mem_map.mpr ⟨p, hp, rfl⟩
  let H0 : Option HO → Hp := fun z b => if b = a then z else if b ∈ cs.map (·.2) then some (.tbl #[]) else none
  have h_a : ∀ z, H0 z a = z := fun z => if_pos rfl
  have h_t : ∀ z b, b ∈ cs.map (·.2) → H0 z b = some (.tbl #[]) := fun z b hb => (if_neg fun e => aT (by rw [← e]; exact hb)).trans (if_pos hb)
  have h_n : ∀ z b, b ≠ a → b ∉ cs.map (·.2) → H0 z b = none := fun z b n hb => (if_neg n).trans (if_neg hb)
  have t0 : ∀ z, Tab0 cs (H0 z) := fun z => ⟨fun p hp => h_t z _ (memT p hp)⟩
  have two : ∀ z b, H0 z b ≠ none → b = a ∨ b ∈ cs.map (·.2) := fun z b h => by
    by_cases h1 : b = a
    · exact .inl h1
    · by_cases h2 : b ∈ cs.map (·.2)
      · exact .inr h2
      · exact (h (h_n z b h1 h2)).elim
  have tok : ∀ z b u, b ∈ cs.map (·.2) → H0 z b = some u → ObjOk P w (H0 z) s₁.heap b u := fun z b u hb e => by
    rw [h_t z b hb] at e
    cases e
    exact (isT b hb).1
  cases hk : K.lookup a with
  | some o =>
    have e := (KX a o hk).symm.trans ha
    obtain rfl := Option.some.inj e
    refine law_goT (H := H0 none) KX hns hb hbb hlim hg tab cod hbm ha hr F hbind (hsp _ (t0 _) (.inr ⟨_, vs.toArray, _, hk, rfl, rfl, rfl, by rw [List.size_toArray, lenV]; exact hl, by simpa using rv⟩)) (hCX _) (t0 _) (fun b => ?_) (fun b u z => ?_) (two _) (fun b z => ?_)
    · by_cases h2 : b ∈ cs.map (·.2)
      · exact .inr (.inl h2)
      · by_cases h1 : b = a
        · exact .inl (by rw [h1]; exact h_a none)
        · exact .inl (h_n _ b h1 h2)
    · rcases two _ b (by rw [z]; exact fun y => nomatch y) with h1 | h2
      · rw [h1, h_a] at z
        cases z
      · exact tok _ b u h2 z
    · rcases two _ b z with h1 | h2
      · rw [h1, h_a] at z
        exact (z rfl).elim
      · exact (isT b h2).2
  | none =>
    refine law_goT (H := H0 (some (.frz { cls := .type "list", data := .seq vs.toArray } (.lst (ns.map V.int))))) KX hns hb hbb hlim hg tab cod hbm ha hr F hbind (hsp _ (t0 _) (.inl (.inr ⟨_, h_a _⟩))) (hCX _) (t0 _) (fun b => ?_) (fun b u z => ?_) (two _) (fun b z => ?_)
    · by_cases h2 : b ∈ cs.map (·.2)
      · exact .inr (.inl h2)
      · by_cases h1 : b = a
        · exact .inr (.inr ⟨_, _, by rw [h1]; exact h_a _⟩)
        · exact .inl (h_n _ b h1 h2)
    · rcases two _ b (by rw [z]; exact fun y => nomatch y) with h1 | h2
      · rw [h1, h_a] at z
        obtain rfl := Option.some.inj z
        rw [h1]
        exact ⟨ha, by rw [List.length_map]; exact hl, vs, _, rv, ha⟩
      · exact tok _ b u h2 z
    · rcases two _ b z with h1 | h2
      · rw [h1]
        exact hk
      · exact (isT b h2).2
/-- the end of a law with tables, over a head by facts -/
theorem walkGT {l : PySem.W.OpenLaw} {n k : Nat} {q : Program} {loose : List Str} {XP : (Str → Option Value) → Heap → Prop} {YP : World → Heap → Prop} {d : DefRec} {CX : CXT} {x : Str}
    (hn : l.most = some n) (hn2 : n ≤ sizeLine) (hdf : d.params.defaults = []) (hr : RoomG k callerA)
    (F : ∀ (w : World) (mg : Str → Option Value) (fa : Addr) (h : Heap), YP w h → h.Ns mainGlobals mg → mg d.name = some (.ref fa) →
      ∃ (K : PySem.W.Frag) (fd : FuncData) (sp : Sp) (cs : List (Addr × Addr)), K.In h ∧ (∀ p ∈ cs, h.get? p.2 = some { cls := .none, data := .fields #[] }) ∧ (∀ p ∈ cs, K.lookup p.2 = none) ∧ (∀ p ∈ cs, PySem.W.CodeHd h p.1 p.2) ∧ (∀ (s : Shared) (u : Value), BindsTo s fd ⟨[u], []⟩ [(x, u)]) ∧
        (∀ (H : Hp) (a : Addr) (ns : List Int), ns.length ≤ n → Tab0 cs H → SqL K H a (ns.map V.int) → sp [.ref a] H (fun v _ => v = .bl true) fun _ _ _ => False) ∧
        ∀ base : Heap, K.In base → base.Ns mainGlobals mg → (∀ p ∈ cs, LamX.TabB base mg p.1 p.2) → FnG l.prog w K mg base CX k fa fd [x] sp)
    (hCX : ∀ (H : Hp) (s : Shared) (e : Value) (s' : Shared), CX [] H s (fun _ _ _ => False) e s' → False) :
    PySem.W.WalkO q loose XP YP l.row.toRowW d [] (fun f vs => PySem.call f vs) := by
  refine Att.attach_call hn hdf fun w s₀ s₁ mg mb fa o pm cd doc a vs ns G Y ho hd hcd hmg hobj hints hlen hg => ?_
  obtain ⟨K, fd, sp, cs, KX, h1, h2, h3, hb, hsp, hF⟩ := F w mg fa _ Y G.T.g hmg
  exact law_callTG KX G.T.g G.T.b G.T.builtins G.T.nolimit hg h1 h2 h3 G.T.bmain hobj hints (Nat.le_trans hlen hn2) hr hF hb (fun H hT hS => hsp H a ns hlen hT hS) fun H e s' => hCX H s₁ e s'
end Gu

set_option Elab.async false
set_option linter.all false
set_option maxRecDepth 100000
set_option maxHeartbeats 4000000
/-! Own layer: defs and methods that may raise, by their names: called where nothing is let out, in a def that lets errors out, in a try's body; by position and by keywords. -/
namespace Ex
open PySem PySem.Spec PySem.Calls PyProof.Rows L2 Gu
theorem passN {X : Cx} : Passes (L2.CX X.prog X.w) X E0 := fun _ _ _ _ _ _ _ ⟨_, _, _, _, _, _, _, _, _, _, _, _, z⟩ => z.elim
theorem passX {X : Cx} {E : XK} (tk : Takes X (fun cls d _ H => E cls d H)) : Passes (L2.CX X.prog X.w) X E := passes_call tk fun _ _ _ _ h => h
structure DfX (P : Program) (w : World) (K : PySem.W.Frag) (mg : Str → Option Value) (base : Heap) (k : Nat) (x : Str) (ps : List Str) (sp : Sp) : Prop where
  ex : ∃ fd, FnOk P w K mg base (L2.CX P w) k (He.ga K x) fd ps sp ∧ Binds K fd ps []
  gl : mg x = some (.ref (He.ga K x))
  kp : PySem.W.keepIn K (.ref (He.ga K x)) = true
structure MfX (P : Program) (w : World) (K : PySem.W.Frag) (mg : Str → Option Value) (base : Heap) (k : Nat) (c m : Str) (ps : List Str) (sp : Sp) : Prop where
  ex : ∃ fd, FnOk P w K mg base (L2.CX P w) k (He.ma K (He.ga K c) m) fd ps sp ∧ Binds K fd ps []
  cl : Cls K (He.ga K c)
  me : Meth K (He.ga K c) m (He.ma K (He.ga K c) m)
/-- .. called by the keywords ks alone behind self; j: the places of the other parameters among the keywords -/
structure MfXK (P : Program) (w : World) (K : PySem.W.Frag) (mg : Str → Option Value) (base : Heap) (k : Nat) (c m : Str) (ps ks : List Str) (j : List Nat) (sp : Sp) : Prop where
  ex : ∃ fd, FnOk P w K mg base (L2.CX P w) k (He.ma K (He.ga K c) m) fd ps sp ∧ ∀ (s : Shared) (u : Value) (ws : List Value), ws.length = ks.length → BindsTo s fd ⟨[u], ks.zip ws⟩ (ps.zip (u :: j.filterMap fun i => ws[i]?))
  cl : Cls K (He.ga K c)
  me : Meth K (He.ga K c) m (He.ma K (He.ga K c) m)
section
variable {X : Cx} {k j : Nat} {x c m : Str} {ps ks : List Str} {ji : List Nat} {sp : Sp} {p pos apos : Pos} {e o : Expr} {es : List Expr} {kws : List Keyword} {t tk : TA} {ta : TE} {E : XK} {W : WX}
theorem pcallX (D : DfX X.prog X.w X.K X.mg X.base k x ps sp) (hr : Room j X.A) (px : Passes (L2.CX X.prog X.w) X E) (ha : PA X (e :: es) t) (hj : k ≤ j := by decide) (hg : Gl X x := by rfl) (hdb : (x == ("__debug__" : Str)) = false := by decide)
    (he : starEach (e :: es) X.env = (false, eval e X.env) :: starEach es X.env := by rfl) (hpl : (backTo pos (starEach es X.env)).any (·.1) = false := by rfl) :
    PE X (.Call (.Name x p) (e :: es) [] pos) (tCall sp [] E t) := by
  obtain ⟨fd, F, b⟩ := D.ex
  exact pe_call F (hr.mono hj) hg D.gl D.kp b .nil px ha hdb he hpl
theorem pmethX {pl : Sem Bool} (D : MfX X.prog X.w X.K X.mg X.base k c m ps sp) (hr : Room j X.A) (px : Passes (L2.CX X.prog X.w) X E) (he : PE X o ta) (ha : PA X (e :: es) t) (hj : k ≤ j := by decide)
    (hst : starEach (e :: es) X.env = (false, eval e X.env) :: starEach es X.env := by rfl) (hpl : (backTo pos (starEach es X.env)).any (·.1) = false := by rfl)
    (ht : eval (.Call (.Attribute o m apos) (e :: es) [] pos) X.env = (do
      let ov ← eval o X.env
      standAt apos.atName
      let (f, first) ← holding [ov] (getMethod ov m pl)
      callWith pos f first (backTo pos (starEach (e :: es) X.env)) (backToKw pos (keywordEach [] X.env))) := by rfl) :
    PE X (.Call (.Attribute o m apos) (e :: es) [] pos) (tMeth (He.ga X.K c) m sp [] E ta t) := by
  obtain ⟨fd, F, b⟩ := D.ex
  exact pe_meth he D.cl D.me F (hr.mono hj) b .nil px ha hst hpl ht
/-- within a comprehension's block the reading names K by hand -/
theorem pmethXB {pl : Sem Bool} (K : PySem.W.Frag) (D : MfX X.prog X.w X.K X.mg X.base k c m ps sp) (hr : Room j X.A) (px : Passes (L2.CX X.prog X.w) X E) (he : PE X o ta) (ha : PA X (e :: es) t) (hj : k ≤ j := by decide) (hK : X.K = K := by rfl)
    (hst : starEach (e :: es) X.env = (false, eval e X.env) :: starEach es X.env := by rfl) (hpl : (backTo pos (starEach es X.env)).any (·.1) = false := by rfl)
    (ht : eval (.Call (.Attribute o m apos) (e :: es) [] pos) X.env = (do
      let ov ← eval o X.env
      standAt apos.atName
      let (f, first) ← holding [ov] (getMethod ov m pl)
      callWith pos f first (backTo pos (starEach (e :: es) X.env)) (backToKw pos (keywordEach [] X.env))) := by rfl) :
    PE X (.Call (.Attribute o m apos) (e :: es) [] pos) (tMeth (He.ga K c) m sp [] E ta t) := by
  subst hK
  exact pmethX D hr px he ha hj hst hpl ht
def tMethKw (C : Addr) (m : Str) (sp : Sp) (n : Nat) (j : List Nat) (E : XK) (ta : TE) (tk : TA) : TE := fun σ H Q => ta σ H fun x H1 => ∃ a dx fs, x = .ref a ∧ H1 a = some (.ins C dx fs) ∧ fs.lookup m = none ∧
  tk σ H1 fun zs H2 => zs.length = n ∧ sp (x :: j.filterMap fun i => zs[i]?) H2 Q E
theorem pmethXK {pl : Sem Bool} (D : MfXK X.prog X.w X.K X.mg X.base k c m ps ks ji sp) (hr : Room j X.A) (px : Passes (L2.CX X.prog X.w) X E) (he : PE X o ta) (hkw : PK X kws tk) (hj : k ≤ j := by decide)
    (hall : (backToKw pos (keywordEach kws X.env)).all (·.1.isSome) = true := by rfl) (hks : (backToKw pos (keywordEach kws X.env)).filterMap (·.1) = ks := by rfl)
    (hpl : ((backTo pos (starEach [] X.env)).any (·.1) || (backToKw pos (keywordEach kws X.env)).any (·.1.isNone)) = false := by rfl)
    (ht : eval (.Call (.Attribute o m apos) [] kws pos) X.env = (do
      let ov ← eval o X.env
      standAt apos.atName
      let (f, first) ← holding [ov] (getMethod ov m pl)
      callWith pos f first (backTo pos (starEach [] X.env)) (backToKw pos (keywordEach kws X.env))) := by rfl) :
    PE X (.Call (.Attribute o m apos) [] kws pos) (tMethKw (He.ga X.K c) m sp ks.length ji E ta tk) := by
  obtain ⟨fd, F, b⟩ := D.ex
  refine ⟨fun pins s σ H Q I h => PySem.W.methodCall_KW (pl := pl) (thn (he.run pins s σ H _ I h) fun u s1 ⟨x, H1, I1, rx, a, dx, fs, ex, ea, l, q⟩ => ?_) ht⟩
  subst ex
  obtain rfl : u = Value.ref a := rx
  refine getmeth_ok I1 ea D.cl D.me l (PySem.W.callWith_KW0 (first := [.ref a]) (h₀ := X.base) I.ok.mod.kin D.me.kp hall (thn (hkw.run pos pins s1 σ H1 _ I1 q) fun ws s2 ⟨zs, H2, I2, rz, hz, q2⟩ => ⟨I2.kIn, ?_⟩) hpl)
  rw [hks]
  have rv : Vals (V.ref a :: ji.filterMap fun i => zs[i]?) (Value.ref a :: ji.filterMap fun i => ws[i]?) := .cons rfl (vals_pick rz ji)
  refine wpAny_call (codeAny_mono (F.run X.A X.stack s2 H2 ⟨[Value.ref a] ++ [], ks.zip ws⟩ _ _ Q E (hr.mono hj) I2.env0 (b s2 (.ref a) ws (rz.length.symm.trans hz)) rv q2) fun r s' hq => ?_)
  match r, hq with
  | .error e, hq => exact px pins σ H2 s2 e s' I2 hq
  | .ok (.ret u), hq => exact I2.after hq
end
section
variable {X : Cx} {k j : Nat} {c m : Str} {ps : List Str} {sp : Sp} {pos apos : Pos} {e o : Expr} {es : List Expr} {t : TA} {ta : TE} {W : WX}
/-- o.m(e, ..) in a try's body -/
def tMethT (C : Addr) (m : Str) (sp : Sp) (E : L2.St → XK) (ta : TE) (t : TA) : TE := fun σ H Q => ta σ H fun x H1 => ∃ a dx fs, x = .ref a ∧ H1 a = some (.ins C dx fs) ∧ fs.lookup m = none ∧ t σ H1 fun vs H2 => sp (x :: vs) H2 Q (E σ)
theorem pmethT {pl : Sem Bool} (D : MfX X.prog X.w X.K X.mg X.base k c m ps sp) (hr : Room j X.A) (tk : Takes X W) (he : PE X o ta) (ha : PA X (e :: es) t) (hj : k ≤ j := by decide)
    (hst : starEach (e :: es) X.env = (false, eval e X.env) :: starEach es X.env := by rfl) (hpl : (backTo pos (starEach es X.env)).any (·.1) = false := by rfl)
    (ht : eval (.Call (.Attribute o m apos) (e :: es) [] pos) X.env = (do
      let ov ← eval o X.env
      standAt apos.atName
      let (f, first) ← holding [ov] (getMethod ov m pl)
      callWith pos f first (backTo pos (starEach (e :: es) X.env)) (backToKw pos (keywordEach [] X.env))) := by rfl) :
    PE X (.Call (.Attribute o m apos) (e :: es) [] pos) (tMethT (He.ga X.K c) m sp (WE W) ta t) := by
  obtain ⟨fd, F, b⟩ := D.ex
  refine ⟨fun pins s σ H Q I h => PySem.W.methodCall_KW (pl := pl) (thn (he.run pins s σ H _ I h) fun u s1 ⟨x, H1, I1, rx, a, dx, fs, ex, ea, l, q⟩ => ?_) ht⟩
  subst ex
  obtain rfl : u = Value.ref a := rx
  refine getmeth_ok I1 ea D.cl D.me l (PySem.W.callWith_K (first := [.ref a]) (h₀ := X.base) I.ok.mod.kin D.me.kp (thn (ha.run pos pins s1 σ H1 _ I1 q) fun us s2 ⟨vs, H2, I2, r, q2⟩ => ⟨I2.kIn, ?_⟩) hst hpl)
  exact run_fnS (E := WE W) (us := .ref a :: us) (vs := .ref a :: vs) F (hr.mono hj) b (passAt tk σ) I2 (.cons rfl r) q2
end
/-! ### facts of an error's class over any base -/
def oexGB (B : String) (K : PySem.W.Frag) (C : Addr) : Bool := match K.lookup C with
  | some ⟨.type "type", _, .cls cd, sl⟩ => (match cd.mro, sl.toList with
    | .ref c :: bm, [_, _, _, _, some (.builtin n), _] => (c == C && n == B ++ ".__new__") && ((!cd.hasDel && cd.hasDict) && refsB (tailE B) bm)
    | _, _ => false)
  | _ => false
theorem oexGB_ok {B : String} {K : PySem.W.Frag} {C : Addr} (h : oexGB B K C = true) :
    ∃ nm q N bs bm sn sub ab col dd k0 k1 k2 k3 k5, K.lookup C = some (excClassObj nm q C N bs bm true sn sub ab col dd k0 k1 k2 k3 k5 (B ++ ".__new__")) ∧ refsB (tailE B) bm = true := by
  unfold oexGB at h
  split at h
  · rename_i dd cd sl ho
    split at h
    · rename_i c bm k0 k1 k2 k3 n k5 hm hs
      obtain ⟨⟨h1, h2⟩, h3⟩ := (He.ba h).imp_left He.ba
      obtain ⟨h4, h5⟩ := He.ba h3
      obtain ⟨h6, h7⟩ := He.ba h4
      have e1 : c = C := beq_iff_eq.mp h1
      have e2 : n = B ++ ".__new__" := beq_iff_eq.mp h2
      have e3 : cd.hasDel = false := by simpa using h6
      subst e1 e2
      obtain ⟨nm, bs, mro, ns, qn, hd, sn, sub, ab, col, del⟩ := cd
      dsimp only at hm e3 h7
      subst hm e3 h7
      have e4 : sl = #[k0, k1, k2, k3, some (.builtin (B ++ ".__new__")), k5] := by
        obtain ⟨l⟩ := sl
        simp only at hs
        rw [hs]
      subst e4
      exact ⟨nm, qn, ns, bs, bm, sn, sub, ab, col, dd, k0, k1, k2, k3, k5, ho, h5⟩
    · cases h
  · cases h
def bOf (a : Option Bool) (b : Bool) : Bool := decide (a = some b)
theorem bOf_ok {a : Option Bool} {b : Bool} (h : bOf a b = true) : a = some b := of_decide_eq_true h
/-- what the rules ask of an error's class at C, over B, with the field n -/
def errG (B : String) (K : PySem.W.Frag) (C : Addr) (n : Str) : Bool := oexGB B K C && (He.eqO (PySem.W.findIn K (.ref C) "__setattr__") (some (some (.builtin "object.__setattr__"))) && (bOf (PySem.W.subIn K (.ref C) (.type "BaseException")) true &&
  (decide (PySem.W.typeIn K (.ref C) = some (.type "type")) && (PySem.W.keepIn K (.ref C) && (xfB K C && (He.eqO (PySem.W.findIn K (.ref C) "__class__") (some (some (.builtin "object.__class__"))) &&
  (He.eqO (PySem.W.specialIn K (.builtin "object.__class__") "__get__") (some (some (.builtin "getset_descriptor.__get__"))) && (bOf (PySem.W.takesIn K (.builtin "object.__class__")) true && (bOf (PySem.W.mroIn K C (.type "object")) true &&
  (He.eqO (PySem.W.findIn K (.ref C) n) (some none) && (He.eqO (PySem.W.findIn K (.ref C) "__init__") (some (some (.ref (He.ma K C "__init__")))) && (decide (PySem.W.typeIn K (.ref (He.ma K C "__init__")) = some (.type "function")) && bOf (PySem.W.exmOne K (.ref C) (.ref C)) true))))))))))))
structure ErrG (B : String) (K : PySem.W.Frag) (C : Addr) (n : Str) : Prop where
  ox : OexG B (tailE B) K C
  xf : XfC K C
  ec : ExcC K C
  no : PySem.W.findIn K (.ref C) n = some none
  ii : PySem.W.findIn K (.ref C) "__init__" = some (some (.ref (He.ma K C "__init__")))
  ti : PySem.W.typeIn K (.ref (He.ma K C "__init__")) = some (.type "function")
  em : PySem.W.exmOne K (.ref C) (.ref C) = some true
theorem errG_ok {B : String} {K : PySem.W.Frag} {C : Addr} {n : Str} (b : BaseE B (tailE B)) (h : errG B K C n = true) : ErrG B K C n := by
  obtain ⟨a1, h⟩ := He.ba h
  obtain ⟨a2, h⟩ := He.ba h
  obtain ⟨a3, h⟩ := He.ba h
  obtain ⟨a4, h⟩ := He.ba h
  obtain ⟨a5, h⟩ := He.ba h
  obtain ⟨a6, h⟩ := He.ba h
  obtain ⟨a7, h⟩ := He.ba h
  obtain ⟨a8, h⟩ := He.ba h
  obtain ⟨a9, h⟩ := He.ba h
  obtain ⟨a10, h⟩ := He.ba h
  obtain ⟨a11, h⟩ := He.ba h
  obtain ⟨a12, h⟩ := He.ba h
  obtain ⟨a13, a14⟩ := He.ba h
  have x := xfB_ok a6
  exact ⟨⟨b, oexGB_ok a1, He.eqO_ok a2, bOf_ok a3, of_decide_eq_true a4, a5⟩, x, ⟨x.ga, x.gg, x.exC, x.hdC, He.eqO_ok a7, He.eqO_ok a8, bOf_ok a9, bOf_ok a10⟩, He.eqO_ok a11, He.eqO_ok a12, of_decide_eq_true a13, bOf_ok a14⟩
/-- an error's __init__ with one field -/
def spErr (C : Addr) (n : Str) : Sp := fun vs H Q _ => ∃ (a : Addr) (v : V), vs = [.ref a, v] ∧ H a = some (exo a C none) ∧ ∀ dx, H dx = none → dx ≠ a → Q .non (upd (upd H dx (exd dx [(n, v)])) a (exo a C (some dx)))
/-- the error's maker, for a raise -/
structure Ei (P : Program) (w : World) (K : PySem.W.Frag) (mg : Str → Option Value) (base : Heap) (c n : Str) : Prop where
  ex : ∃ fd, FnOk P w K mg base CX0 1 (He.ma K (He.ga K c) "__init__") fd ["self", n] (spErr (He.ga K c) n) ∧ Binds K fd ["self", n] []
theorem heap_err {H : Hp} {a dx : Addr} {fs : List (Str × V)} {o1 o2 o3 : HO} (ha : H a = none) (hd : H dx = none) : Same H (upd (del (upd (upd (upd H a o1) dx o2) a o3) a) dx (.xd fs)) := fun b o e => by
  have nb : b ≠ a := ne_of_none e ha
  have nd : b ≠ dx := ne_of_none e hd
  rw [upd_ne nd, del_ne nb, upd_ne nb, upd_ne nd, upd_ne nb]
  exact e
/-- what is asked at a raise of C(v): that the def's own wish of errors holds of it -/
theorem raise_ok {K : PySem.W.Frag} {c n : Str} {v : V} {H : Hp} {E : XK} (q : ∀ d H', H d = none → Same H H' → H' d = some (.xd [(n, v)]) → E (.ref (He.ga K c)) (some d) H') :
    ∀ a, H a = none → spErr (He.ga K c) n (.ref a :: ([v] ++ [])) (upd H a (exo a (He.ga K c) none))
      (fun u H2 => u = .non ∧ ∃ (d : Addr) (fs : List (Str × V)), H2 a = some (exo a (He.ga K c) (some d)) ∧ H2 d = some (exd d fs) ∧ H d = none ∧ E (.ref (He.ga K c)) (some d) (upd (del H2 a) d (.xd fs))) (fun _ _ _ => False) := fun a ha => by
  refine ⟨a, v, rfl, upd_same, fun dx hdx ne => ⟨rfl, dx, [(n, v)], upd_same, ?_, ?_, ?_⟩⟩
  · rw [upd_ne ne, upd_same]
  · rw [upd_ne ne] at hdx
    exact hdx
  · rw [upd_ne ne] at hdx
    exact q dx _ hdx (heap_err ha hdx) upd_same
end Ex

set_option Elab.async false
set_option linter.all false
set_option maxRecDepth 100000
set_option maxHeartbeats 4000000
namespace K34
open PySem PySem.Spec PyProof.Rows L2 Gu Ex
def top (i : Nat) : Stmt := PySem.Challenge.pw_exactroom_k34_first_problem_of_moves.main.body.getD i (.Pass ⟨0, 0, 0, 0⟩)
abbrev FnP (K : PySem.W.Frag) (x qual : Str) (st : Stmt) (f : Addr) (fd : FuncData) : Prop := FunD K x qual (defArgs st) (defBody st) (defScope st) [] [] f fd
/-- what the top has left -/
structure Tx (K : PySem.W.Frag) (mg : Str → Option Value) : Prop where
  n_len : mg "len" = none
  n_isinstance : mg "isinstance" = none
  n_int : mg "int" = none
  n_bool : mg "bool" = none
  n_list : mg "list" = none
  n_range : mg "range" = none
  n_divmod : mg "divmod" = none
  n_abs : mg "abs" = none
  n_max : mg "max" = none
  n_min : mg "min" = none
  n_enumerate : mg "enumerate" = none
  n_all : mg "all" = none
  n_sum : mg "sum" = none
  n_tuple : mg "tuple" = none
  n_sorted : mg "sorted" = none
  n_repr : mg "repr" = none
  n_set : mg "set" = none
  n_dict : mg "dict" = none
  n_any : mg "any" = none
  g_Sizes : mg "Sizes" = some (.ref (He.ga K "Sizes"))
  cl : Cls K (He.ga K "Sizes")
  nSL : NoAttr K (He.ga K "Sizes") "size_list"
  rd : ClX.CRead K (He.ga K "Sizes") (.type "type")
  cS : ∃ u, ClX.CVal K (He.ga K "Sizes") (.type "type") "MAX_SIZE" (.int 1000000000) u
  cN : ∃ u, ClX.CVal K (He.ga K "Sizes") (.type "type") "MAX_SIZES" (.int 8) u
  sys : SysOk K
  cC : ∃ u, ClX.CVal K (He.ga K "Sizes") (.type "type") "MAX_CELLS" (.int 1000000000000) u
  g_Layout : mg "Layout" = some (.ref (He.ga K "Layout"))
  ly : Cls K (He.ga K "Layout")
  nST : NoAttr K (He.ga K "Layout") "size_table"
  nCC : NoAttr K (He.ga K "Layout") "cell_count"
  nFC : NoAttr K (He.ga K "Layout") "free_count"
  nBL : NoAttr K (He.ga K "Layout") "block_list"
  iS : InsOk K (He.ga K "Sizes")
  iL : InsOk K (He.ga K "Layout")
  g_InvalidAddress : mg "InvalidAddress" = some (.ref (He.ga K "InvalidAddress"))
  g_InvalidLevel : mg "InvalidLevel" = some (.ref (He.ga K "InvalidLevel"))
  g_InvalidNumbers : mg "InvalidNumbers" = some (.ref (He.ga K "InvalidNumbers"))
  g_InvalidRequests : mg "InvalidRequests" = some (.ref (He.ga K "InvalidRequests"))
  g_Occupied : mg "Occupied" = some (.ref (He.ga K "Occupied"))
  g_UnknownBlock : mg "UnknownBlock" = some (.ref (He.ga K "UnknownBlock"))
  g_InvalidMoves : mg "InvalidMoves" = some (.ref (He.ga K "InvalidMoves"))
  g_RoomError : mg "RoomError" = some (.ref (He.ga K "RoomError"))
  n_ValueError : mg "ValueError" = none
  eM : ErrG "ValueError" K (He.ga K "InvalidMoves") "position"
  ne : NeOk K (He.ga K "Sizes")
abbrev cM (K : PySem.W.Frag) : Addr := He.ga K "InvalidMoves"
/-- a list of sizes -/
structure Good (ns : List Int) : Prop where
  len : 1 ≤ ns.length ∧ ns.length ≤ 8
  one : ns[0]? = some 1
  rng : ∀ (i : Nat) x, ns[i]? = some x → 1 ≤ x ∧ x ≤ 1000000000
  up : ∀ (i : Nat) x y, ns[i]? = some x → ns[i + 1]? = some y → x < y ∧ y % x = 0
section
variable {P : Program} {w : World} {K : PySem.W.Frag} {mg : Str → Option Value} {base : Heap} {f : Addr} {fd : FuncData}
theorem bT {c : Prop} [Decidable c] (h : c) : V.bl (decide c) = V.bl true := congrArg V.bl (decide_eq_true h)
theorem bF {c : Prop} [Decidable c] (h : ¬ c) : V.bl (decide c) = V.bl false := congrArg V.bl (decide_eq_false h)
theorem ifT {c : Bool} {A B : Prop} (h : c = true) (x : A) : if c = true then A else B := by rw [h]; exact iteT x
theorem ifF {c : Bool} {A B : Prop} (h : c = false) (x : B) : if c = true then A else B := by rw [h]; exact iteF x
theorem vT {a b : Int} (h : a = b) : decide (V.int a = V.int b) = true := decide_eq_true (by rw [h])
theorem vF {a b : Int} (h : a ≠ b) : decide (V.int a = V.int b) = false := decide_eq_false fun z => h (V.int.inj z)
def spInt : Sp := fun vs H Q _ => ∃ i : Int, vs = [.int i] ∧ Q (.bl true) H
theorem sc_is_integer : FnScope ["value"] ["value"] (defScope (top 13)) := ⟨rfl, rfl, rfl, by decide +kernel, rfl, by decide +kernel, by decide +kernel⟩
theorem ok_is_integer (T : Tx K mg) (F : FnP K "is_integer" "is_integer" (top 13) f fd) : FnOk P w K mg base CX0 1 f fd ["value"] spInt := by
  refine F.ok sc_is_integer (fun vs H Q E h => ?_) (fun cdv A outer s H vs Q E hr h => ⟨_, PSs.nox (pss_one (ps_ret (pe_and (pe_callB call_isi (by rfl) T.n_isinstance (by decide +kernel) (pa_cons (pv 0) (pa_cons (pe_bltn (v := .ty "int") (by rfl) T.n_int (by decide +kernel) rfl) pa_nil))) (pe_one (pe_not (pe_callB call_isi (by rfl) T.n_isinstance (by decide +kernel) (pa_cons (pv 0) (pa_cons (pe_bltn (v := .ty "bool") (by rfl) T.n_bool (by decide +kernel) rfl) pa_nil)))))))), ?_⟩)
  · obtain ⟨i, rfl, _⟩ := h
    rfl
  · obtain ⟨i, rfl, q⟩ := h
    refine ⟨_, rfl, _, _, _, _, true, rfl, .ty "int", .base (.int i), kit_ty (by decide +kernel), _, rfl, iteT ?_⟩
    exact ⟨_, rfl, _, _, _, _, false, rfl, .ty "bool", .base (.int i), kit_ty (by decide +kernel), _, rfl, q⟩
/-- a good list at a, a place in it -/
def spProblem (K : PySem.W.Frag) : Sp := fun vs H Q _ => ∃ (a : Addr) (ns : List Int) (p : Nat), vs = [.ref a, .int p] ∧ SqL K H a (ns.map V.int) ∧ Good ns ∧ p < ns.length ∧ Q .non H
theorem at_map {ns : List Int} {p : Nat} {x : Int} (h : ns[p]? = some x) : atI (ns.map V.int) (p : Int) = some (.int x) := atI_nat (by rw [List.getElem?_map, h]; rfl)
theorem sc_size_problem : FnScope ["values", "position", "size", "before"] ["values", "position"] (defScope (top 16)) := ⟨rfl, rfl, rfl, by decide +kernel, rfl, by decide +kernel, by decide +kernel⟩
theorem ok_size_problem (T : Tx K mg) (D_is_integer : Df P w K mg base 1 "is_integer" ["value"] spInt) (F : FnP K "size_problem" "size_problem" (top 16) f fd) :
    FnOk P w K mg base CX0 2 f fd ["values", "position"] (spProblem K) := by
  refine F.ok sc_size_problem (fun vs H Q E h => ?_) (fun cdv A outer s H vs Q E hr h => ⟨_, PSs.nox (pss_cons (ps_set (i := 2) sc_size_problem.nd rfl (by first | exact Or.inl rfl | exact Or.inr rfl) (pe_ix ix_list (pv 0) (pv 1) (fun _ _ => rfl))) (pss_cons (ps_if (PW.pt (pw_or (pt_not (pt_val (pcall D_is_integer hr (pa_cons (pv 2) pa_nil)))) (pw_or1 (pt_not (pt_chain op_le op_le pe_int (pv 2) (ClX.pe_cval (pe_glob (v := .ref _) rfl T.g_Sizes rfl))))))) (pss_one (ps_ret pe_str)) pss_nil) (pss_cons (ps_if (pt_cmpR op_eq (pv 1) pe_int (nomark _)) (pss_one (ps_ret (pe_ifExp (pt_cmpR op_eq (pv 2) pe_int (nomark _)) pe_non pe_str))) pss_nil) (pss_cons (ps_set (i := 3) sc_size_problem.nd rfl (by first | exact Or.inl rfl | exact Or.inr rfl) (pe_ix ix_list (pv 0) (pe_op op_sub (pv 1) pe_int) (fun _ _ => rfl))) (pss_cons (ps_if (PW.pt (pw_or (pt_cmpR op_le (pv 2) (pv 3) (nomark _)) (pw_or1 (pt_cmpR op_ne (pe_op op_mod (pv 2) (pv 3)) pe_int (nomark _))))) (pss_one (ps_ret pe_str)) pss_nil) (pss_one (ps_ret pe_non))))))), ?_⟩)
  · obtain ⟨a, ns, p, rfl, _⟩ := h
    rfl
  · obtain ⟨a, ns, p, rfl, hS, g, hp, q⟩ := h
    have hx : ns[p]? = some ns[p] := List.getElem?_eq_getElem hp
    obtain ⟨b1, b2⟩ := g.rng p _ hx
    obtain ⟨u, cS⟩ := T.cS
    refine ⟨_, rfl, _, rfl, a, _, _, _, rfl, rfl, hS, at_map hx, ?_⟩
    refine ⟨_, rfl, _, rfl, true, rfl, iteF ?_⟩
    refine ⟨_, rfl, _, _, rfl, rfl, true, bT b1, iteT ?_⟩
    refine ⟨_, _, _, _, rfl, T.rd, cS, _, _, rfl, rfl, true, bT b2, iteF ?_⟩
    by_cases h0 : p = 0
    · subst h0
      have e1 : ns[0] = 1 := Option.some.inj (hx.symm.trans g.one)
      exact ⟨_, rfl, rfl, _, rfl, ifT (vT rfl) ⟨_, rfl, rfl, _, rfl, ifT (vT e1) q⟩⟩
    · refine ⟨_, rfl, rfl, _, rfl, ifF (vF (by omega)) ?_⟩
      have hp1 : p - 1 < ns.length := by omega
      have hy : ns[p - 1]? = some ns[p - 1] := List.getElem?_eq_getElem hp1
      have hx2 : ns[p - 1 + 1]? = some ns[p] := by rw [show p - 1 + 1 = p by omega]; exact hx
      obtain ⟨u1, u2⟩ := g.up (p - 1) _ _ hy hx2
      have u3 := (g.rng _ _ hy).1
      refine ⟨_, rfl, _, rfl, _, _, rfl, rfl, a, _, _, _, rfl, rfl, hS, (by rw [show ((p : Int) - 1) = ((p - 1 : Nat) : Int) by omega]; exact at_map hy), ?_⟩
      refine ⟨_, rfl, _, rfl, _, _, rfl, rfl, false, bF (by omega), iteF ?_⟩
      refine ⟨_, rfl, _, rfl, _, _, rfl, rfl, (by show (0 : Int) < _; omega), rfl, false, ?_, iteF q⟩
      exact congrArg V.bl (by rw [vT u2]; rfl)
/-- a good list -/
def spCheck (K : PySem.W.Frag) : Sp := fun vs H Q _ => ∃ (a : Addr) (ns : List Int), vs = [.ref a] ∧ SqL K H a (ns.map V.int) ∧ TyX K H (.ref a) (.type "list") ∧ Good ns ∧ Q .non H
theorem sc_check_sizes : FnScope ["values", "position", "problem"] ["values"] (defScope (top 17)) := ⟨rfl, rfl, rfl, by decide +kernel, rfl, by decide +kernel, by decide +kernel⟩
theorem ok_check_sizes (T : Tx K mg) (D_size_problem : Df P w K mg base 2 "size_problem" ["values", "position"] (spProblem K)) (F : FnP K "check_sizes" "check_sizes" (top 17) f fd) :
    FnOk P w K mg base CX0 3 f fd ["values"] (spCheck K) := by
  refine F.ok sc_check_sizes (fun vs H Q E h => ?_) (fun cdv A outer s H vs Q E hr h => ⟨_, PSs.nox (pss_cons (ps_if (pt_not (pt_val (pe_callB call_isi (by rfl) T.n_isinstance (by decide +kernel) (pa_cons (pv 0) (pa_cons (pe_bltn (v := .ty "list") (by rfl) T.n_list (by decide +kernel) rfl) pa_nil))))) (pss_one ps_never) pss_nil) (pss_cons (ps_for PassesOwn.never rfl (pi_range1 rfl T.n_range (pa_cons (pe_callB call_len_seq (by rfl) T.n_len (by decide +kernel) (pa_cons (pv 0) pa_nil)) pa_nil)) (pg_name (i := 1) sc_check_sizes.nd rfl (by first | exact Or.inl rfl | exact Or.inr rfl)) (pss_cons (ps_set (i := 2) sc_check_sizes.nd rfl (by first | exact Or.inl rfl | exact Or.inr rfl) (pcall D_size_problem hr (pa_cons (pv 0) (pa_cons (pv 1) pa_nil)))) (pss_one (ps_if (pt_cmpR op_notN (pv 2) pe_non (nomark _)) (pss_one ps_never) pss_nil)))) (pss_one (ps_if (pt_not (pt_chain op_le op_le pe_int (pe_callB call_len_seq (by rfl) T.n_len (by decide +kernel) (pa_cons (pv 0) pa_nil)) (ClX.pe_cval (pe_glob (v := .ref _) rfl T.g_Sizes rfl)))) (pss_one ps_never) pss_nil)))), ?_⟩)
  · obtain ⟨a, ns, rfl, _⟩ := h
    rfl
  · obtain ⟨a, ns, rfl, hS, ty, g, q⟩ := h
    obtain ⟨u, cN⟩ := T.cN
    obtain ⟨l1, l2⟩ := g.len
    refine ⟨_, rfl, _, _, _, _, true, rfl, .ty "list", ty, kit_ty (by decide +kernel), true, rfl, iteF ?_⟩
    refine ⟨_, rfl, a, _, rfl, .inl hS, _, rfl, (by simp only [List.length_map]; omega), (by simp only [List.length_map]; omega), ?_⟩
    refine for_range (fun i σ H' => H' = H ∧ ∃ x y, σ = [some (.ref a), x, y]) ⟨rfl, none, none, rfl⟩ ?_ ?_
    · rintro i σ H' hi ⟨rfl, x, y, rfl⟩
      have hi2 : i < ns.length := by simpa using hi
      refine ⟨_, rfl, _, rfl, a, ns, i, (by rw [Int.zero_add]; rfl), hS, g, hi2, ?_⟩
      exact ⟨_, rfl, rfl, false, rfl, iteF ⟨rfl, _, _, rfl⟩⟩
    · rintro σ H' ⟨rfl, x, y, rfl⟩
      refine ⟨_, rfl, a, _, rfl, .inl hS, _, _, rfl, rfl, true, bT (by simp only [List.length_map]; omega), iteT ?_⟩
      exact ⟨_, _, _, _, rfl, T.rd, cN, _, _, rfl, rfl, true, bT (by simp only [List.length_map]; omega), iteF q⟩
end
end K34

set_option Elab.async false
set_option linter.all false
set_option maxRecDepth 100000
set_option maxHeartbeats 0
namespace Ex
open PySem PySem.Spec PyProof.Rows L2 Gu
/-! ### facts of a class beyond those by names: constants, a property -/
def cvB (K : PySem.W.Frag) (C : Addr) (f : Str) (i : Int) : Bool := match PySem.W.findCls K (.ref C) (.type "type") f with
  | some (.val (.int j _)) => decide (j = i)
  | _ => false
theorem cvB_ok {K : PySem.W.Frag} {C : Addr} {f : Str} {i : Int} (h : cvB K C f i = true) : ∃ u, ClX.CVal K C (.type "type") f (.int i) u := by
  unfold cvB at h
  split at h
  · rename_i j t e
    have ej : j = i := of_decide_eq_true h
    exact ⟨_, e, t, by rw [ej]⟩
  · cases h
def rdB (K : PySem.W.Frag) (C : Addr) : Bool := PySem.W.readsIn K C (.type "type") && He.eqO (PySem.W.specialIn K (.ref C) "__getattribute__") (some (some (.builtin "type.__getattribute__")))
theorem rdB_ok {K : PySem.W.Frag} {C : Addr} (h : rdB K C = true) : ClX.CRead K C (.type "type") := by
  obtain ⟨h1, h2⟩ := He.ba h
  exact ⟨h1, He.eqO_ok h2⟩
def prA (K : PySem.W.Frag) (C : Addr) (f : Str) : Addr := match PySem.W.findIn K (.ref C) f with
  | some (some (.ref p)) => p
  | _ => 0
def pgA (K : PySem.W.Frag) (C : Addr) (f : Str) : Addr := match PySem.W.recIn K (prA K C f) "property" with
  | some (.ref g :: _) => g
  | _ => 0
def prB (K : PySem.W.Frag) (C : Addr) (f : Str) : Bool := He.eqO (PySem.W.findIn K (.ref C) f) (some (some (.ref (prA K C f)))) &&
  (He.eqO (PySem.W.specialIn K (.ref (prA K C f)) "__get__") (some (some (.builtin "property.__get__"))) && (decide (PySem.W.takesIn K (.ref (prA K C f)) = some true) &&
    (match PySem.W.recIn K (prA K C f) "property" with
    | some (.ref _ :: _) => true
    | _ => false)))
theorem prB_ok {K : PySem.W.Frag} {C : Addr} {f : Str} (h : prB K C f = true) : PropOf K C f (prA K C f) (pgA K C f) := by
  obtain ⟨h1, h⟩ := He.ba h
  obtain ⟨h2, h⟩ := He.ba h
  obtain ⟨h3, h4⟩ := He.ba h
  refine ⟨He.eqO_ok h1, He.eqO_ok h2, of_decide_eq_true h3, ?_⟩
  unfold pgA
  split at h4
  · rename_i g r e
    rw [e]
    exact ⟨r, rfl⟩
  · cases h4
/-- the def at an address -/
def fnAt (K : PySem.W.Frag) (a : Addr) : He.FnW := match K.lookup a with
  | some ⟨_, _, .func fd, _⟩ => some (fd.name, fd.qualname, fd.params, fd.body, fd.scope, fd.globals, fd.closure, fd.builtins)
  | _ => none
def okAt (K : PySem.W.Frag) (a : Addr) (qual : Str) : Bool := PySem.W.keepIn K (.ref a) && (match K.lookup a with
  | some ⟨_, _, .func fd, _⟩ => PySem.W.codeIn K fd.code qual && (He.dflB K fd.defaults [] && He.kwdB K fd.kwdefaults [])
  | _ => false)
theorem fun_at {K : PySem.W.Frag} {a : Addr} {name qual : Str} {params : Arguments} {body : List Stmt} {scope : Scope} (e : fnAt K a = some (name, qual, params, .stmts body, scope, mainGlobals, [], builtinsNs)) (c : okAt K a qual = true) :
    ∃ fd, FunD K name qual params body scope [] [] a fd := by
  obtain ⟨kp, c2⟩ := He.ba c
  unfold fnAt at e
  split at e
  · rename_i oc od fd sl q
    rw [q] at c2
    obtain ⟨k1, k2⟩ := He.ba c2
    obtain ⟨k3, k4⟩ := He.ba k2
    obtain ⟨n1, n2, n3, n4, n5, n6, n7, n8, n9, n10, n11, n12, n13, n14, n15⟩ := fd
    simp only [Option.some.injEq, Prod.mk.injEq] at e
    obtain ⟨rfl, rfl, rfl, rfl, rfl, rfl, rfl, rfl⟩ := e
    exact ⟨_, ⟨oc, od, n8, n9, n10, n11, n12, n13, n14, sl, rfl, q, k1, He.dflB_ok k3, He.kwdB_ok k4⟩, kp⟩
  · cases e
def sysB (K : PySem.W.Frag) : Bool := match K.lookup sysModules with
  | some o => decide (o.cls ≠ .type "list")
  | none => false
end Ex

set_option Elab.async false
set_option linter.all false
set_option maxRecDepth 100000
set_option maxHeartbeats 4000000
/-! Own layer: fields and methods within a comprehension's block; methods called with keywords; a dict's comprehension over a list. -/
namespace Ex
open PySem PySem.Spec PySem.Calls PyProof.Rows L2 Gu
section
variable {X : Cx} {k j : Nat} {c m : Str} {ps ks : List Str} {sp : Sp} {p pos apos : Pos} {e o : Expr} {es : List Expr} {kws : List Keyword} {t tk : TA} {ta : TE} {f : Str}
theorem pfldB (K : PySem.W.Frag) (he : PE X o ta) (hK : X.K = K := by rfl) (hb : attributeBase o f X.env (eval o X.env) = eval o X.env := by rfl) : PE X (.Attribute o f pos) (tFld K ta f) := by
  subst hK
  exact pe_fld he hb
theorem pmethB {pl : Sem Bool} (K : PySem.W.Frag) (D : Mf X.prog X.w X.K X.mg X.base k c m ps sp) (hr : Room j X.A) (he : PE X o ta) (ha : PA X (e :: es) t) (hj : k ≤ j := by decide) (hK : X.K = K := by rfl)
    (hst : starEach (e :: es) X.env = (false, eval e X.env) :: starEach es X.env := by rfl) (hpl : (backTo pos (starEach es X.env)).any (·.1) = false := by rfl)
    (ht : eval (.Call (.Attribute o m apos) (e :: es) [] pos) X.env = (do
      let ov ← eval o X.env
      standAt apos.atName
      let (f, first) ← holding [ov] (getMethod ov m pl)
      callWith pos f first (backTo pos (starEach (e :: es) X.env)) (backToKw pos (keywordEach [] X.env))) := by rfl) :
    PE X (.Call (.Attribute o m apos) (e :: es) [] pos) (tMeth (He.ga K c) m sp [] E0 ta t) := by
  subst hK
  exact pmeth D hr he ha hj hst hpl ht
/-- a method that is called with n values by position (self among them) and the keywords ks behind them -/
structure MfK (P : Program) (w : World) (K : PySem.W.Frag) (mg : Str → Option Value) (base : Heap) (k : Nat) (c m : Str) (ps : List Str) (n : Nat) (ks : List Str) (sp : Sp) : Prop where
  ex : ∃ fd, FnOk P w K mg base CX0 k (He.ma K (He.ga K c) m) fd ps sp ∧ ∀ (s : Shared) (us ws : List Value), us.length = n → ws.length = ks.length → K.In s.heap → BindsTo s fd ⟨us, ks.zip ws⟩ (ps.zip (us ++ ws))
  cl : Cls K (He.ga K c)
  me : Meth K (He.ga K c) m (He.ma K (He.ga K c) m)
def tMethK (C : Addr) (m : Str) (sp : Sp) (n q : Nat) (ta : TE) (t tk : TA) : TE := fun σ H Q => ta σ H fun x H1 => ∃ a dx fs, x = .ref a ∧ H1 a = some (.ins C dx fs) ∧ fs.lookup m = none ∧
  t σ H1 fun vs H2 => tk σ H2 fun zs H3 => vs.length + 1 = n ∧ zs.length = q ∧ sp (x :: vs ++ zs) H3 Q E0
theorem pmethK {pl : Sem Bool} {n : Nat} (D : MfK X.prog X.w X.K X.mg X.base k c m ps n ks sp) (hr : Room j X.A) (he : PE X o ta) (ha : PA X (e :: es) t) (hkw : PK X kws tk) (hj : k ≤ j := by decide)
    (hst : starEach (e :: es) X.env = (false, eval e X.env) :: starEach es X.env := by rfl)
    (hall : (backToKw pos (keywordEach kws X.env)).all (·.1.isSome) = true := by rfl) (hks : (backToKw pos (keywordEach kws X.env)).filterMap (·.1) = ks := by rfl)
    (hpl : ((backTo pos (starEach (e :: es) X.env)).any (·.1) || (backToKw pos (keywordEach kws X.env)).any (·.1.isNone)) = false := by rfl)
    (ht : eval (.Call (.Attribute o m apos) (e :: es) kws pos) X.env = (do
      let ov ← eval o X.env
      standAt apos.atName
      let (f, first) ← holding [ov] (getMethod ov m pl)
      callWith pos f first (backTo pos (starEach (e :: es) X.env)) (backToKw pos (keywordEach kws X.env))) := by rfl) :
    PE X (.Call (.Attribute o m apos) (e :: es) kws pos) (tMethK (He.ga X.K c) m sp n ks.length ta t tk) := by
  obtain ⟨fd, F, b⟩ := D.ex
  refine ⟨fun pins s σ H Q I h => ?_⟩
  refine PySem.W.methodCall_KW (pl := pl) (thn (he.run pins s σ H _ I h) fun u s1 ⟨x, H1, I1, rx, a, dx, fs, ex, ea, l, q⟩ => ?_) ht
  subst ex
  obtain rfl : u = Value.ref a := rx
  refine getmeth_ok I1 ea D.cl D.me l ?_
  refine PySem.W.callWith_KW (first := [.ref a]) (h₀ := X.base) I.ok.mod.kin D.me.kp hall (thn (ha.run pos pins s1 σ H1 _ I1 q) fun us s2 ⟨vs, H2, I2, r, q2⟩ => thn (hkw.run pos pins s2 σ H2 _ I2 q2) fun ws s3 ⟨zs, H3, I3, rz, hn, hz, q3⟩ => ⟨I3.kIn, ?_⟩) hpl hst
  rw [hks]
  have r2 : Vals (V.ref a :: vs) (Value.ref a :: us) := .cons rfl r
  have r3 : Vals (V.ref a :: vs ++ zs) (Value.ref a :: us ++ ws) := r2.append rz
  have l1 : (Value.ref a :: us).length = n := by
    rw [← r2.length]
    exact hn
  have l2 : ws.length = ks.length := by
    rw [← rz.length]
    exact hz
  refine wpAny_call (codeAny_mono (F.run X.A X.stack s3 H3 ⟨Value.ref a :: us, ks.zip ws⟩ _ _ Q E0 (hr.mono hj) I3.env0 (b s3 (Value.ref a :: us) ws l1 l2 I3.kIn) r3 q3) fun r s' hq => ?_)
  match r, hq with
  | .ok (.ret u), hq => exact I3.after hq
end
/-- a dict's comprehension over a list that stays -/
theorem dc_list {K : PySem.W.Frag} {a : Addr} {xs : List V} {g : TG} {tt : TT} {tk tv : TE} {vs : List Nat} {σ : L2.St} {H1 : Hp} {D : Addr} {Qd : Hp → Prop} (Pv : Nat → Hp → Prop) (h0 : Pv 0 (upd H1 D (.dK []))) (hl : ∀ i H, i ≤ xs.length → Pv i H → SqL K H a xs)
    (hs : ∀ i x H, xs[i]? = some x → Pv i H → g x (wipe σ vs) H fun σ2 H2 => wipe σ2 vs = wipe σ vs ∧ tt σ2 H2 fun b H3 =>
      if b = true then tk σ2 H3 fun y H4 => tv σ2 H4 fun z H5 => ∃ kvs k, y = kV k ∧ H5 D = some (.dK kvs) ∧ kvs.length < sizeLine ∧ Pv (i + 1) (upd H5 D (.dK (putK kvs k z))) else Pv (i + 1) H3) (hd : ∀ H, Pv xs.length H → Qd H) :
    ∃ W : Nat → Nat → Hp → Prop, (∃ m, W 0 m (upd H1 D (.dK []))) ∧ ∀ i m H, W i m H →
      ((Itl K a).stop i H ∧ Qd H) ∨ ((Itl K a).go i H ∧ ∃ Nx : Hp → Prop, (∀ H', Nx H' → ∃ m', m' < m ∧ W (i + 1) m' H') ∧ ∀ x H', (Itl K a).yld i H x H' → g x (wipe σ vs) H' fun σ2 H2 => wipe σ2 vs = wipe σ vs ∧ tt σ2 H2 fun b H3 =>
        if b = true then tk σ2 H3 fun y H4 => tv σ2 H4 fun z H5 => ∃ kvs k, y = kV k ∧ H5 D = some (.dK kvs) ∧ kvs.length < sizeLine ∧ Nx (upd H5 D (.dK (putK kvs k z))) else Nx H3) := by
  refine ⟨fun i m H => m = xs.length - i ∧ i ≤ xs.length ∧ Pv i H, ⟨xs.length, by simp, Nat.zero_le _, h0⟩, ?_⟩
  rintro i m H ⟨rfl, hi, p⟩
  have q := hl i H hi p
  by_cases hlt : i < xs.length
  · refine .inr ⟨⟨xs, xs[i], q, by simp [hlt]⟩, Pv (i + 1), fun H' p' => ⟨xs.length - (i + 1), by omega, rfl, hlt, p'⟩, fun x H' y => ?_⟩
    obtain ⟨e, y⟩ := y
    subst e
    exact hs i x _ (y xs q) p
  · have e : i = xs.length := by omega
    subst e
    exact .inl ⟨⟨xs, q, Nat.le_refl _⟩, hd H p⟩
end Ex

set_option Elab.async false
set_option linter.all false
set_option maxRecDepth 100000
set_option maxHeartbeats 4000000
/-! Own layer: a keyword-only default that is the empty tuple; a call with the keyword given. -/
namespace Ex
open PySem PySem.Spec PyProof.Rows L2 Gu
def tup0 (K : PySem.W.Frag) (z : Addr) : Bool := match K.lookup z with
  | some ⟨.type c, _, .seq its _, _⟩ => decide (c = "tuple") && decide (its.size = 0)
  | _ => false
theorem tup0_ok {K : PySem.W.Frag} {z : Addr} (h : tup0 K z = true) : ∃ (o : Obj) (n : Nat), K.lookup z = some o ∧ o.cls = .type "tuple" ∧ o.data = .seq #[] n := by
  unfold tup0 at h
  split at h
  · rename_i c d its n sl e
    obtain ⟨h1, h2⟩ := He.ba h
    have e1 := of_decide_eq_true h1
    have e2 := of_decide_eq_true h2
    have e3 : its = #[] := Array.eq_empty_of_size_eq_zero e2
    subst e1
    subst e3
    exact ⟨_, n, e, rfl, rfl⟩
  · cases h
def kwV (K : PySem.W.Frag) (k : Str) : Value → Bool
  | .ref D => (match PySem.W.nsIn K D k with
    | some (some (.ref z)) => tup0 K z
    | _ => false)
  | _ => false
def kwB (K : PySem.W.Frag) (f : Addr) (k : Str) : Bool := match K.lookup f with
  | some ⟨_, _, .func fd, _⟩ => kwV K k fd.kwdefaults
  | _ => false
section
variable {K : PySem.W.Frag} {x qual : Str} {params : Arguments} {body : List Stmt} {scope : Scope} {kws : List (Str × V)} {f : Addr} {fd : FuncData} {ps ks : List Str} {k : Str}
theorem kwB_ok (F : FunD K x qual params body scope [] [] f fd) (h : kwB K f k = true) : ∃ (z : Addr) (o : Obj) (n : Nat), FunD K x qual params body scope [] [(k, .ref z)] f fd ∧ K.lookup z = some o ∧ o.cls = .type "tuple" ∧ o.data = .seq #[] n := by
  obtain ⟨⟨oc, od, dV, kV, doc, pm, an, cdv, ct, osl, rfl, lk, hcd, hD, hK⟩, kp⟩ := F
  unfold kwB at h
  rw [lk] at h
  have h1 : kwV K k kV = true := h
  cases kV with
  | ref D =>
    have h2 : (match PySem.W.nsIn K D k with
      | some (some (.ref z)) => tup0 K z
      | _ => false) = true := h1
    split at h2
    · rename_i z e
      obtain ⟨o, n, a, b, c⟩ := tup0_ok h2
      refine ⟨z, o, n, ⟨⟨oc, od, dV, _, doc, pm, an, cdv, ct, osl, rfl, lk, hcd, hD, .inr ⟨D, rfl, fun q hq => ?_⟩⟩, kp⟩, a, b, c⟩
      cases List.mem_singleton.mp hq
      exact ⟨_, e, rfl⟩
    · cases h2
  | _ => cases h1
theorem bindsK {n : Nat} (F : FunD K x qual params body scope [] kws f fd)
    (h : ∀ (kV doc pm : Value) (an : Option Addr) (cdv ct : Value) (us ws : List Value), us.length = n → ws.length = ks.length → bindArgs (PySem.W.fnOf x qual params body scope .none kV doc pm an cdv ct) ⟨us, ks.zip ws⟩ = pure (ps.zip (us ++ ws)))
    (s : Shared) (us ws : List Value) (hu : us.length = n) (hw : ws.length = ks.length) (_ : K.In s.heap) : BindsTo s fd ⟨us, ks.zip ws⟩ (ps.zip (us ++ ws)) := by
  obtain ⟨oc, od, dV, kV, doc, pm, an, cdv, ct, osl, rfl, lk, hcd, hD, hK⟩ := F.ex
  rcases hD with ⟨_, rfl⟩ | ⟨e, _⟩
  · exact .of_eq (h kV doc pm an cdv ct us ws hu hw)
  · exact absurd rfl e
end
end Ex

set_option Elab.async false
set_option linter.all false
set_option maxRecDepth 100000
set_option maxHeartbeats 0
/-! Own layer: the tables of defs that hold lambdas, for an end. -/
namespace Ex
open PySem PySem.Spec PyProof.Rows L2 Gu
/-- keywords alone, behind self; keyword-only defaults may stand -/
theorem bindsKwD {K : PySem.W.Frag} {name qual : Str} {params : Arguments} {body : List Stmt} {scope : Scope} {kws : List (Str × V)} {f : Addr} {ps ks : List Str} {j : List Nat} {fd : FuncData} (F : FunD K name qual params body scope [] kws f fd)
    (hb : ∀ (kV doc pm : Value) (an : Option Addr) (cdv ct u : Value) (ws : List Value), ws.length = ks.length → bindArgs (PySem.W.fnOf name qual params body scope .none kV doc pm an cdv ct) ⟨[u], ks.zip ws⟩ = pure (ps.zip (u :: j.filterMap fun i => ws[i]?))) :
    ∀ (s : Shared) (u : Value) (ws : List Value), ws.length = ks.length → BindsTo s fd ⟨[u], ks.zip ws⟩ (ps.zip (u :: j.filterMap fun i => ws[i]?)) := by
  intro s u ws hl
  obtain ⟨oc, od, dV, kV, doc, pm, an, cdv, ct, osl, rfl, lk, hcd, hD, hK⟩ := F.ex
  rcases hD with ⟨_, rfl⟩ | ⟨e, _⟩
  · exact .of_eq (hb kV doc pm an cdv ct u ws hl)
  · exact absurd rfl e
/-! ### the tables of the defs' code objects -/
def cdA (K : PySem.W.Frag) (x : Str) : Addr := match PySem.W.tabIn K x with
  | some (c, _) => c
  | none => 0
def ptA (K : PySem.W.Frag) (x : Str) : Addr := match PySem.W.tabIn K x with
  | some (_, P) => P
  | none => 0
def tabB (K : PySem.W.Frag) (x : Str) : Bool := match PySem.W.tabIn K x with
  | some (c, P) => PySem.W.codeHdIn K c P && (K.lookup P).isNone
  | none => false
theorem tabB_ok {K : PySem.W.Frag} {x : Str} (h : tabB K x = true) : PySem.W.tabIn K x = some (cdA K x, ptA K x) ∧ PySem.W.codeHdIn K (cdA K x) (ptA K x) = true ∧ K.lookup (ptA K x) = none := by
  unfold tabB at h
  unfold cdA ptA
  split at h
  · rename_i c P e
    obtain ⟨h1, h2⟩ := He.ba h
    rw [e]
    exact ⟨rfl, h1, by simpa using h2⟩
  · cases h
theorem tab_code {K : PySem.W.Frag} {x name qual : Str} {c P : Addr} {params : Arguments} {body : List Stmt} {scope : Scope} {dvs : List V} {kws : List (Str × V)} {fd : FuncData} (h : PySem.W.tabIn K x = some (c, P)) (F : FunD K name qual params body scope dvs kws (He.ga K x) fd) : fd.code = .ref c := by
  obtain ⟨oc, od, dV, kV, doc, pm, an, cdv, ct, osl, rfl, lk, _⟩ := F.ex
  unfold PySem.W.tabIn at h
  split at h
  · rename_i f hf
    have e : He.ga K x = f := by
      unfold He.ga
      rw [hf]
    rw [← e, lk] at h
    dsimp only at h
    split at h
    · rename_i c2 hc
      split at h
      · split at h
        · cases h
          rfl
        · cases h
      · cases h
    · cases h
  · cases h
/-- the addresses of the written part, without the tables of xs -/
def pt0s (g : Addr → Option Obj) (n : Nat) (xs : List Str) : List Addr := xs.map fun x => ptA (He.frG g (cStatics :: sysModules :: He.asD g n)) x
def kkGs (g : Addr → Option Obj) (n : Nat) (xs : List Str) : PySem.W.Frag := He.frG g ((cStatics :: sysModules :: He.asD g n).filter fun a => !(pt0s g n xs).contains a)
/-- the code object of the def at a -/
def gcode (g : Addr → Option Obj) (a : Addr) : Addr := match g a with
  | some ⟨_, _, .func fd, _⟩ => (match fd.code with
    | .ref c => c
    | _ => 0)
  | _ => 0
/-- the code objects of the properties' getters: one step of K less is enough with them -/
def prCs (g : Addr → Option Obj) (n : Nat) (ps : List (Str × Str)) : List Addr := ps.map fun p => gcode g (pgA (He.frG g (cStatics :: sysModules :: He.asD g n)) (He.ga (He.frG g (cStatics :: sysModules :: He.asD g n)) p.1) p.2)
def kkP (g : Addr → Option Obj) (n : Nat) (ps : List (Str × Str)) : PySem.W.Frag := He.frG g ((cStatics :: sysModules :: He.asD g n) ++ prCs g n ps)
def kkPs (g : Addr → Option Obj) (n : Nat) (xs : List Str) (ps : List (Str × Str)) : PySem.W.Frag := He.frG g (((cStatics :: sysModules :: He.asD g n).filter fun a => !(pt0s g n xs).contains a) ++ prCs g n ps)
end Ex

set_option Elab.async false
set_option linter.all false
set_option maxRecDepth 100000
set_option maxHeartbeats 0
namespace Ex
open PySem PySem.Spec PyProof.Rows L2 Gu
def ecB (K : PySem.W.Frag) (C : Addr) : Bool := xfB K C && (He.eqO (PySem.W.findIn K (.ref C) "__class__") (some (some (.builtin "object.__class__"))) &&
  (He.eqO (PySem.W.specialIn K (.builtin "object.__class__") "__get__") (some (some (.builtin "getset_descriptor.__get__"))) && (bOf (PySem.W.takesIn K (.builtin "object.__class__")) true && bOf (PySem.W.mroIn K C (.type "object")) true)))
theorem ecB_ok {K : PySem.W.Frag} {C : Addr} (h : ecB K C = true) : ExcC K C ∧ XfC K C := by
  obtain ⟨a1, h⟩ := He.ba h
  obtain ⟨a2, h⟩ := He.ba h
  obtain ⟨a3, h⟩ := He.ba h
  obtain ⟨a4, a5⟩ := He.ba h
  have x := xfB_ok a1
  exact ⟨⟨x.ga, x.gg, x.exC, x.hdC, He.eqO_ok a2, He.eqO_ok a3, bOf_ok a4, bOf_ok a5⟩, x⟩
end Ex
namespace K34
open PySem PySem.Spec PyProof.Rows L2 Gu Ex
def kmB (K : PySem.W.Frag) : Bool := ecB K (cM K) && (He.eqO (PySem.W.findIn K (.ref (cM K)) "position") (some none) && (bOf (PySem.W.kitAny K (.ref (cM K)) [.ref (He.ga K "InvalidAddress"), .ref (He.ga K "InvalidLevel"), .ref (He.ga K "InvalidNumbers"), .ref (He.ga K "InvalidRequests"), .ref (He.ga K "Occupied"), .ref (He.ga K "UnknownBlock")]) false &&
  (bOf (PySem.W.kitOne K (.ref (cM K)) (.ref (He.ga K "RoomError"))) true && bOf (PySem.W.exmOne K (.ref (cM K)) (.ref (cM K))) true)))
def tabNs : List Str := ["_law_list_right", "_law_alone_right"]
def PtK (K : PySem.W.Frag) : Nat → Addr
  | 0 => ptA K "_law_list_right"
  | _ => ptA K "_law_alone_right"
def injB (K : PySem.W.Frag) : Bool := !decide (PtK K 0 = PtK K 1)
end K34

set_option Elab.async false
set_option linter.all false
set_option maxRecDepth 100000
set_option maxHeartbeats 0
namespace K34
open PySem PySem.Spec PyProof.Rows L2 Gu Ex
abbrev R : PySem.W.OpenRow := PySem.W.OpenLaw.row PySem.Challenge.rw_exactroom_k34_first_problem_of_moves
def dOf (a : Str × Option Str) (x q : Str) (st : Stmt) : He.DefD := ⟨a, x, q, defArgs st, defBody st, defScope st, [], []⟩
def dOfK (a : Str × Option Str) (x q : Str) (st : Stmt) (kw : List (Str × He.Dv)) : He.DefD := ⟨a, x, q, defArgs st, defBody st, defScope st, [], kw⟩
def fn : List He.DefD := [dOf ("is_integer", none) "is_integer" "is_integer" (top 13),
  dOf ("size_problem", none) "size_problem" "size_problem" (top 16),
  dOf ("check_sizes", none) "check_sizes" "check_sizes" (top 17),
  dOf ("is_cells", none) "is_cells" "is_cells" (top 14),
  dOf ("check_cells", none) "check_cells" "check_cells" (top 15),
  dOf ("Sizes", some "__init__") "__init__" "Sizes.__init__" (inClass (top 18) 4),
  dOf ("Sizes", some "has_level") "has_level" "Sizes.has_level" (inClass (top 18) 12),
  dOf ("Sizes", some "check_level") "check_level" "Sizes.check_level" (inClass (top 18) 13),
  dOf ("Sizes", some "size") "size" "Sizes.size" (inClass (top 18) 14),
  dOf ("Layout", some "__init__") "__init__" "Layout.__init__" (inClass (top 38) 0),
  dOf ("Layout", some "count_below") "count_below" "Layout.count_below" (inClass (top 38) 9),
  dOf ("Layout", some "index_of") "index_of" "Layout.index_of" (inClass (top 38) 10),
  dOf ("Layout", some "block_at") "block_at" "Layout.block_at" (inClass (top 38) 11),
  dOf ("Layout", some "first_taken") "first_taken" "Layout.first_taken" (inClass (top 38) 12),
  dOfK ("Layout", some "put") "put" "Layout.put" (inClass (top 38) 13) [("pinned", .bl false)],
  dOf ("Layout", some "take_out") "take_out" "Layout.take_out" (inClass (top 38) 14),
  dOf ("Layout", some "set_pinned") "set_pinned" "Layout.set_pinned" (inClass (top 38) 15),
  dOf ("Layout", some "unpinned_levels") "unpinned_levels" "Layout.unpinned_levels" (inClass (top 38) 19),
  dOf ("Layout", some "blocks") "blocks" "Layout.blocks" (inClass (top 38) 7),
  dOf ("Layout", some "clone") "clone" "Layout.clone" (inClass (top 38) 8),
  dOf ("InvalidMoves", some "__init__") "__init__" "InvalidMoves.__init__" (inClass (top 8) 0),
  dOf ("is_address", none) "is_address" "is_address" (top 20),
  dOf ("lies_below", none) "lies_below" "lies_below" (top 21),
  dOf ("is_region", none) "is_region" "is_region" (top 22),
  dOf ("is_move", none) "is_move" "is_move" (top 24),
  dOf ("first_misfit", none) "first_misfit" "first_misfit" (top 25),
  dOf ("places_after", none) "places_after" "places_after" (top 26),
  dOf ("first_clash", none) "first_clash" "first_clash" (top 27),
  dOf ("first_wrong_move", none) "first_wrong_move" "first_wrong_move" (top 28),
  dOf ("is_rearrangement", none) "is_rearrangement" "is_rearrangement" (top 30),
  dOf ("check_rearrangement", none) "check_rearrangement" "check_rearrangement" (top 29),
  dOf ("rearranged", none) "rearranged" "rearranged" (top 31),
  dOf ("cost", none) "cost" "cost" (top 32),
  dOf ("moved_level", none) "moved_level" "moved_level" (top 33),
  dOf ("check_moves", none) "check_moves" "check_moves" (top 34),
  dOf ("inverse", none) "inverse" "inverse" (top 35),
  dOf ("composed", none) "composed" "composed" (top 36),
  dOf ("_law_rng", none) "_law_rng" "_law_rng" (top 40),
  dOf ("_law_draw", none) "_law_draw" "_law_draw" (top 41),
  dOf ("_law_choice", none) "_law_choice" "_law_choice" (top 42),
  dOf ("_law_shuffled", none) "_law_shuffled" "_law_shuffled" (top 43),
  dOf ("_law_sizes", none) "_law_sizes" "_law_sizes" (top 44),
  dOf ("_law_has_space", none) "_law_has_space" "_law_has_space" (top 45),
  dOf ("_law_blocks", none) "_law_blocks" "_law_blocks" (top 46),
  dOf ("_law_runs", none) "_law_runs" "_law_runs" (top 47),
  dOf ("_law_free_runs", none) "_law_free_runs" "_law_free_runs" (top 48),
  dOf ("_law_place", none) "_law_place" "_law_place" (top 49),
  dOf ("_law_moves", none) "_law_moves" "_law_moves" (top 50),
  dOf ("_law_world", none) "_law_world" "_law_world" (top 51),
  dOf ("_law_made", none) "_law_made" "_law_made" (top 52),
  dOf ("_law_is_address", none) "_law_is_address" "_law_is_address" (top 53),
  dOf ("_law_is_move", none) "_law_is_move" "_law_is_move" (top 54),
  dOf ("_law_list_problem", none) "_law_list_problem" "_law_list_problem" (top 55),
  dOf ("_law_problem", none) "_law_problem" "_law_problem" (top 56),
  dOf ("_law_told", none) "_law_told" "_law_told" (top 57),
  dOf ("_law_is_due", none) "_law_is_due" "_law_is_due" (top 58),
  dOf ("_law_odd", none) "_law_odd" "_law_odd" (top 59),
  dOf ("_law_spoilt", none) "_law_spoilt" "_law_spoilt" (top 60),
  dOf ("_law_into_one", none) "_law_into_one" "_law_into_one" (top 61),
  dOf ("_law_list_right", none) "_law_list_right" "_law_list_right" (top 62),
  dOf ("_law_alone_right", none) "_law_alone_right" "_law_alone_right" (top 63),
  dOf ("_law_eight_right", none) "_law_eight_right" "_law_eight_right" (top 65),
  dOf ("_law_right", none) "_law_right" "_law_right" (top 64),
  dOf ("law", none) "law" "law" (top 66)]
def fa : List He.Fa := [.glo "is_integer", .glo "size_problem", .glo "check_sizes", .glo "is_cells", .glo "check_cells", .glo "is_address", .glo "lies_below", .glo "is_region", .glo "is_move", .glo "first_misfit", .glo "places_after", .glo "first_clash", .glo "first_wrong_move", .glo "is_rearrangement", .glo "check_rearrangement", .glo "rearranged", .glo "cost", .glo "moved_level", .glo "check_moves", .glo "inverse", .glo "composed", .glo "_law_rng", .glo "_law_draw", .glo "_law_choice", .glo "_law_shuffled", .glo "_law_sizes", .glo "_law_has_space", .glo "_law_blocks", .glo "_law_runs", .glo "_law_free_runs", .glo "_law_place", .glo "_law_moves", .glo "_law_world", .glo "_law_made", .glo "_law_is_address", .glo "_law_is_move", .glo "_law_list_problem", .glo "_law_problem", .glo "_law_told", .glo "_law_is_due", .glo "_law_odd", .glo "_law_spoilt", .glo "_law_into_one", .glo "_law_list_right", .glo "_law_alone_right", .glo "_law_eight_right", .glo "_law_right", .glo "law", .glo "Sizes", .glo "Layout", .glo "InvalidAddress", .glo "InvalidLevel", .glo "InvalidNumbers", .glo "InvalidRequests", .glo "Occupied", .glo "UnknownBlock", .glo "InvalidMoves", .glo "RoomError", .free "len", .free "isinstance", .free "int", .free "bool", .free "list", .free "range", .free "divmod", .free "abs", .free "max", .free "min", .free "enumerate", .free "all", .free "sum", .free "tuple", .free "sorted", .free "repr", .free "set", .free "dict", .free "any", .free "ValueError", .cls "Sizes", .noat "Sizes" "size_list", .mkr "Sizes", .meth "Sizes" "has_level", .meth "Sizes" "check_level", .meth "Sizes" "size", .cls "Layout", .mkr "Layout", .noat "Layout" "size_table", .noat "Layout" "cell_count", .noat "Layout" "free_count", .noat "Layout" "block_list", .meth "Layout" "count_below", .meth "Layout" "index_of", .meth "Layout" "block_at", .meth "Layout" "first_taken", .meth "Layout" "put", .meth "Layout" "take_out", .meth "Layout" "set_pinned", .meth "Layout" "unpinned_levels", .meth "Layout" "blocks", .meth "Layout" "clone"]
def exB (K : PySem.W.Frag) : Bool := (rdB K (He.ga K "Sizes") && (cvB K (He.ga K "Sizes") "MAX_SIZE" 1000000000 && (cvB K (He.ga K "Sizes") "MAX_SIZES" 8 && (sysB K && (cvB K (He.ga K "Sizes") "MAX_CELLS" 1000000000000 && (neB K (He.ga K "Sizes") && (Ex.insB K (He.ga K "Sizes") && (Ex.insB K (He.ga K "Layout") && (errG "ValueError" K (He.ga K "InvalidMoves") "position" && (kmB K && (tabB K "_law_list_right" && (tabB K "_law_alone_right" && (injB K && (prB K (He.ga K "Sizes") "top" && (okAt K (pgA K (He.ga K "Sizes") "top") "Sizes.top" && (prB K (He.ga K "Layout") "sizes" && (okAt K (pgA K (He.ga K "Layout") "sizes") "Layout.sizes" && (prB K (He.ga K "Layout") "length" && (okAt K (pgA K (He.ga K "Layout") "length") "Layout.length" && true)))))))))))))))))))
def v_top : He.FnW := some ("top", "Sizes.top", defArgs (inClass (top 18) 10), .stmts (defBody (inClass (top 18) 10)), defScope (inClass (top 18) 10), mainGlobals, [], builtinsNs)
def v_sizes : He.FnW := some ("sizes", "Layout.sizes", defArgs (inClass (top 38) 4), .stmts (defBody (inClass (top 38) 4)), defScope (inClass (top 38) 4), mainGlobals, [], builtinsNs)
def v_length : He.FnW := some ("length", "Layout.length", defArgs (inClass (top 38) 5), .stmts (defBody (inClass (top 38) 5)), defScope (inClass (top 38) 5), mainGlobals, [], builtinsNs)
abbrev AlE : Type := He.AlD × Bool × He.FnW × He.FnW × He.FnW
def ob0 (K : PySem.W.Frag) : AlE := (He.obsD fa fn K, exB K, fnAt K (pgA K (He.ga K "Sizes") "top"), fnAt K (pgA K (He.ga K "Layout") "sizes"), fnAt K (pgA K (He.ga K "Layout") "length"))
def vl0 : AlE := (He.valD fn, true, v_top, v_sizes, v_length)
def prNs : List (Str × Str) := [("Sizes", "top"), ("Layout", "sizes"), ("Layout", "length")]
def ob1 (g : Addr → Option Obj) : AlE × List (Option Obj) := (ob0 (kkPs g 4 tabNs prNs), tabNs.map fun x => g (ptA (kkPs g 4 tabNs prNs) x))
def hk : PySem.W.Hook where
  α := AlE × List (Option Obj)
  obs := fun s => ob1 s.heap.get?
  val := fun _ => (vl0, tabNs.map fun _ => some (PySem.W.tabObj #[]))
  says := fun _ h => ∃ K : PySem.W.Frag, K.In h ∧ ob0 K = vl0 ∧ ∀ x ∈ tabNs, h.get? (ptA K x) = some (PySem.W.tabObj #[])
  of := fun _ _ e => ⟨_, He.frG_in, (Prod.mk.inj e).1, List.map_inj_left.mp (Prod.mk.inj e).2⟩
  keeps := fun _ _ _ ⟨K, hK, c, t⟩ k => ⟨K, PySem.W.Frag.In.keeps hK k, c, fun x hx => k _ _ (t x hx)⟩
def ob (s : PySem.W.SharedT) : AlE × List (Option Obj) := ob1 (HandSHeadRun.getT s)
theorem ob_eq (s : PySem.W.SharedT) : ob s = hk.obs s.abs := by
  have e : HandSHeadRun.getT s = s.abs.heap.get? := funext (HandSHeadRun.getT_eq s)
  show ob1 (HandSHeadRun.getT s) = ob1 s.abs.heap.get?
  rw [e]
def loose : List Str := ("_wall" : Str) :: ("RoomError" : Str) :: ("InvalidSizes" : Str) :: ("InvalidLevel" : Str) :: ("InvalidNumber" : Str) :: ("InvalidNumbers" : Str) :: ("InvalidAddress" : Str) :: ("InvalidMoves" : Str) :: ("InvalidRequests" : Str) :: ("UnknownBlock" : Str) :: ("Occupied" : Str) :: ("is_integer" : Str) :: ("is_cells" : Str) :: ("check_cells" : Str) :: ("size_problem" : Str) :: ("check_sizes" : Str) :: ("Sizes" : Str) :: ("is_address" : Str) :: ("lies_below" : Str) :: ("is_region" : Str) :: ("is_move" : Str) :: ("first_misfit" : Str) :: ("places_after" : Str) :: ("first_clash" : Str) :: ("first_wrong_move" : Str) :: ("check_rearrangement" : Str) :: ("is_rearrangement" : Str) :: ("rearranged" : Str) :: ("cost" : Str) :: ("moved_level" : Str) :: ("check_moves" : Str) :: ("inverse" : Str) :: ("composed" : Str) :: ("Layout" : Str) :: ("_law_rng" : Str) :: ("_law_draw" : Str) :: ("_law_choice" : Str) :: ("_law_shuffled" : Str) :: ("_law_sizes" : Str) :: ("_law_has_space" : Str) :: ("_law_blocks" : Str) :: ("_law_runs" : Str) :: ("_law_free_runs" : Str) :: ("_law_place" : Str) :: ("_law_moves" : Str) :: ("_law_world" : Str) :: ("_law_made" : Str) :: ("_law_is_address" : Str) :: ("_law_is_move" : Str) :: ("_law_list_problem" : Str) :: ("_law_problem" : Str) :: ("_law_told" : Str) :: ("_law_is_due" : Str) :: ("_law_odd" : Str) :: ("_law_spoilt" : Str) :: ("_law_into_one" : Str) :: ("_law_list_right" : Str) :: ("_law_alone_right" : Str) :: ("_law_right" : Str) :: ("_law_eight_right" : Str) :: []
def kk (s : PySem.W.SharedT) : PySem.W.Frag := kkPs (HandSHeadRun.getT s) 4 tabNs prNs
noncomputable def ends (w : World) (os : OsState) : Option PySem.W.SharedT := HandSHeadRun.endF (HandSHeadRun.stepQ (HandSHeadRun.denQ HandSHeadRun.tabQ) R.prog w) 16000 R.prog w os
theorem in_parts {σ A B E F J : Type} {o : Option σ} {a : σ → A} {b : σ → B} {c d : σ → Bool} {e : σ → E} {f : σ → Bool} {g : σ → F} {t : σ → J} {x1 : A} {x2 : B} {x5 : E} {x7 : F} {x8 : J} (h1 : o.map a = some x1) (h2 : o.map b = some x2) (h3 : o.map c = some true) (h4 : o.map d = some true)
    (h5 : o.map e = some x5) (h6 : o.map f = some true) (h7 : o.map g = some x7) (h8 : o.map t = some x8) : o.map (fun s => (a s, b s, ((((c s && d s), e s), f s, g s), t s))) = some (x1, x2, (((true, x5), true, x7), x8)) := by
  cases o with
  | none => cases h1
  | some s =>
    have g1 : a s = x1 := Option.some.inj h1
    have g2 : b s = x2 := Option.some.inj h2
    have g3 : c s = true := Option.some.inj h3
    have g4 : d s = true := Option.some.inj h4
    have g5 : e s = x5 := Option.some.inj h5
    have g6 : f s = true := Option.some.inj h6
    have g7 : g s = x7 := Option.some.inj h7
    have g8 : t s = x8 := Option.some.inj h8
    show some (a s, b s, ((((c s && d s), e s), f s, g s), t s)) = _
    rw [g1, g2, g3, g4, g5, g6, g7, g8]
    rfl
end K34

set_option Elab.async false
set_option linter.all false
set_option maxRecDepth 100000
set_option maxHeartbeats 0
namespace K34
open PySem PySem.Spec PyProof.Rows L2 Gu Ex PySem.W PySem.Calls
theorem r_looks (w : World) (os : OsState) : (ends w os).map (fun s => HandSHeadRun.looksF R.prog (boot_heap w.params) s.abs) = some true := by kernel_rfl
theorem r_seen (w : World) (os : OsState) : (ends w os).map (fun s => HandSHeadRun.seenQ (PySem.W.view R.prog [66]) loose (PySem.importedModules R.prog.main.body) (fun s => PySem.W.xlAt (PySem.W.view R.prog [66]) [] s && PySem.W.recOk R.toRowW.records s) s.abs) = some (PySem.W.openGood (PySem.W.view R.prog [66]) loose) := by kernel_rfl
end K34

set_option Elab.async false
set_option linter.all false
set_option maxRecDepth 100000
set_option maxHeartbeats 0
namespace K34
open PySem PySem.Spec PyProof.Rows L2 Gu Ex
theorem r_fa (w : World) (os : OsState) : (ends w os).map (fun s => fa.all fun f => f.ok (kk s)) = some true := by kernel_rfl
end K34

set_option Elab.async false
set_option linter.all false
set_option maxRecDepth 100000
set_option maxHeartbeats 0
namespace K34
open PySem PySem.Spec PyProof.Rows L2 Gu Ex
theorem r_fn (w : World) (os : OsState) : (ends w os).map (fun s => fn.all fun d => d.ok (kk s)) = some true := by kernel_rfl
end K34

set_option Elab.async false
set_option linter.all false
set_option maxRecDepth 100000
set_option maxHeartbeats 0
namespace K34
open PySem PySem.Spec PyProof.Rows L2 Gu Ex
theorem r_fw (w : World) (os : OsState) : (ends w os).map (fun s => fn.map fun d => He.fnW (kk s) d.at_) = some (fn.map He.DefD.val) := by kernel_rfl
end K34

set_option Elab.async false
set_option linter.all false
set_option maxRecDepth 100000
set_option maxHeartbeats 0
namespace K34
open PySem PySem.Spec PyProof.Rows L2 Gu Ex
theorem r_ex (w : World) (os : OsState) : (ends w os).map (fun s => exB (kk s)) = some true := by kernel_rfl
theorem r_pr (w : World) (os : OsState) : (ends w os).map (fun s => (fnAt (kk s) (pgA (kk s) (He.ga (kk s) "Sizes") "top"), fnAt (kk s) (pgA (kk s) (He.ga (kk s) "Layout") "sizes"), fnAt (kk s) (pgA (kk s) (He.ga (kk s) "Layout") "length"))) = some (v_top, v_sizes, v_length) := by kernel_rfl
theorem r_tab (w : World) (os : OsState) : (ends w os).map (fun s => tabNs.map fun x => HandSHeadRun.getT s (ptA (kk s) x)) = some (tabNs.map fun _ => some (PySem.W.tabObj #[])) := by kernel_rfl
end K34

set_option Elab.async false
set_option linter.all false
set_option maxRecDepth 100000
set_option maxHeartbeats 4000000
namespace K34
open PySem PySem.Spec PyProof.Rows L2 Gu Ex
def szF (l : Addr) : List (Str × V) := [("size_list", V.ref l)]
theorem szF_get (l : Addr) : (szF l).lookup ("size_list" : Str) = some (.ref l) := by simp [szF, List.lookup]
theorem szF_no (l : Addr) {m : Str} (h : (m == ("size_list" : Str)) = false) : (szF l).lookup m = none := by simp [szF, List.lookup, h]
/-- at p an object of Sizes with the list ns -/
def SzAt (C : Addr) (H : Hp) (p : Addr) (ns : List Int) : Prop := ∃ dx l, H p = some (.ins C dx (szF l)) ∧ H l = some (.lst (ns.map V.int))
theorem putF_new (l : Addr) : putF "size_list" (V.ref l) [] = szF l := rfl
section
variable {P : Program} {w : World} {K : PySem.W.Frag} {mg : Str → Option Value} {base : Heap} {f : Addr} {fd : FuncData}
def spMade (K : PySem.W.Frag) : Sp := fun vs H Q _ => ∃ (x dx a : Addr) (ns : List Int), vs = [.ref x, .ref a] ∧ H x = some (.ins (He.ga K "Sizes") dx []) ∧ SqL K H a (ns.map V.int) ∧ TyX K H (.ref a) (.type "list") ∧ Good ns ∧
  ∀ l, H l = none → Q .non (upd (upd H l (.lst (ns.map V.int))) x (.ins (He.ga K "Sizes") dx (szF l)))
theorem sc_Sizes_init : FnScope ["self", "values"] ["self", "values"] (defScope (inClass (top 18) 4)) := ⟨rfl, rfl, rfl, by decide +kernel, rfl, by decide +kernel, by decide +kernel⟩
theorem ok_init (T : Tx K mg) (D_check_sizes : Df P w K mg base 3 "check_sizes" ["values"] (spCheck K)) (F : FnP K "__init__" "Sizes.__init__" (inClass (top 18) 4) f fd) :
    FnOk P w K mg base CX0 4 f fd ["self", "values"] (spMade K) := by
  refine F.ok sc_Sizes_init (fun vs H Q E h => ?_) (fun cdv A outer s H vs Q E hr h => ⟨_, PSs.nox (pss_cons (ps_expr (pcall D_check_sizes hr (pa_cons (pv 1) pa_nil))) (pss_one (ps_fld (pv 0) (pe_callTy call_list_of (by rfl) T.n_list (by decide +kernel) (pa_cons (pv 1) pa_nil)) rfl))), ?_⟩)
  · obtain ⟨x, dx, a, ns, rfl, _⟩ := h
    rfl
  · obtain ⟨x, dx, a, ns, rfl, hx, hS, ty, g, q⟩ := h
    refine ⟨_, rfl, a, ns, rfl, hS, ty, g, ?_⟩
    refine ⟨_, rfl, a, _, rfl, .inl hS, fun l hl => ?_⟩
    refine ⟨_, rfl, x, He.ga K "Sizes", dx, [], rfl, (by rw [upd_ne (ne_of_none hx hl)]; exact hx), T.cl, T.nSL, (by show 0 < 1000; decide), ?_⟩
    exact q l hl
def spTop (K : PySem.W.Frag) : Sp := fun vs H Q _ => ∃ (p : Addr) (ns : List Int), vs = [.ref p] ∧ SzAt (He.ga K "Sizes") H p ns ∧ Q (.int ((ns.length : Int) - 1)) H
theorem sc_top : FnScope ["self"] ["self"] (defScope (inClass (top 18) 10)) := ⟨rfl, rfl, rfl, by decide +kernel, rfl, by decide +kernel, by decide +kernel⟩
theorem ok_top (T : Tx K mg) (F : FnP K "top" "Sizes.top" (inClass (top 18) 10) f fd) : FnOk P w K mg base CX0 1 f fd ["self"] (spTop K) := by
  refine F.ok sc_top (fun vs H Q E h => ?_) (fun cdv A outer s H vs Q E hr h => ⟨_, PSs.nox (pss_one (ps_ret (pe_op op_sub (pe_callB call_len_seq (by rfl) T.n_len (by decide +kernel) (pa_cons (pe_fld (pv 0) rfl) pa_nil)) pe_int))), ?_⟩)
  · obtain ⟨p, ns, rfl, _⟩ := h
    rfl
  · obtain ⟨p, ns, rfl, ⟨dx, l, h1, h2⟩, q⟩ := h
    refine ⟨_, rfl, p, _, dx, _, _, rfl, h1, T.cl, T.nSL, szF_get l, l, _, rfl, .inl (SqL.of h2), _, _, rfl, rfl, ?_⟩
    rw [List.length_map]
    exact q
def spHas (K : PySem.W.Frag) : Sp := fun vs H Q _ => ∃ (p : Addr) (ns : List Int) (i : Nat), vs = [.ref p, .int i] ∧ SzAt (He.ga K "Sizes") H p ns ∧ i < ns.length ∧ Q (.bl true) H
theorem sc_has_level : FnScope ["self", "level"] ["self", "level"] (defScope (inClass (top 18) 12)) := ⟨rfl, rfl, rfl, by decide +kernel, rfl, by decide +kernel, by decide +kernel⟩
theorem ok_has (T : Tx K mg) (D_is_integer : Df P w K mg base 1 "is_integer" ["value"] spInt) (P_top : Pf P w K mg base 1 "Sizes" "top" (spTop K)) (F : FnP K "has_level" "Sizes.has_level" (inClass (top 18) 12) f fd) :
    FnOk P w K mg base CX0 3 f fd ["self", "level"] (spHas K) := by
  refine F.ok sc_has_level (fun vs H Q E h => ?_) (fun cdv A outer s H vs Q E hr h => ⟨_, PSs.nox (pss_one (ps_ret (pe_and (pcall D_is_integer hr (pa_cons (pv 1) pa_nil)) (pe_one (pe_chain op_le op_le pe_int (pv 1) (pprop P_top hr (pv 0))))))), ?_⟩)
  · obtain ⟨p, ns, i, rfl, _⟩ := h
    rfl
  · obtain ⟨p, ns, i, rfl, hz, hi, q⟩ := h
    obtain ⟨dx, l, h1, h2⟩ := id hz
    refine ⟨_, rfl, _, rfl, true, rfl, iteT ?_⟩
    refine ⟨_, rfl, _, _, rfl, rfl, true, bT (by omega), iteT ?_⟩
    refine ⟨_, rfl, p, dx, _, rfl, h1, p, ns, rfl, hz, _, _, rfl, rfl, ?_⟩
    have e : decide ((i : Int) ≤ (ns.length : Int) - 1) = true := decide_eq_true (by omega)
    show Q (.bl (decide ((i : Int) ≤ (ns.length : Int) - 1))) H
    rw [e]
    exact q
def spCheckL (K : PySem.W.Frag) : Sp := fun vs H Q _ => ∃ (p : Addr) (ns : List Int) (i : Nat), vs = [.ref p, .int i] ∧ SzAt (He.ga K "Sizes") H p ns ∧ i < ns.length ∧ Q .non H
theorem sc_check_level : FnScope ["self", "level"] ["self", "level"] (defScope (inClass (top 18) 13)) := ⟨rfl, rfl, rfl, by decide +kernel, rfl, by decide +kernel, by decide +kernel⟩
theorem ok_check_level (T : Tx K mg) (M_has_level : Mf P w K mg base 3 "Sizes" "has_level" ["self", "level"] (spHas K)) (F : FnP K "check_level" "Sizes.check_level" (inClass (top 18) 13) f fd) :
    FnOk P w K mg base CX0 4 f fd ["self", "level"] (spCheckL K) := by
  refine F.ok sc_check_level (fun vs H Q E h => ?_) (fun cdv A outer s H vs Q E hr h => ⟨_, PSs.nox (pss_one (ps_if (pt_not (pt_val (pmeth M_has_level hr (pv 0) (pa_cons (pv 1) pa_nil)))) (pss_one ps_never) pss_nil)), ?_⟩)
  · obtain ⟨p, ns, i, rfl, _⟩ := h
    rfl
  · obtain ⟨p, ns, i, rfl, hz, hi, q⟩ := h
    obtain ⟨dx, l, h1, h2⟩ := id hz
    exact ⟨_, rfl, p, dx, _, rfl, h1, szF_no l (by decide +kernel), _, rfl, p, ns, i, rfl, hz, hi, true, rfl, iteF q⟩
def spSize (K : PySem.W.Frag) : Sp := fun vs H Q _ => ∃ (p : Addr) (ns : List Int) (i : Nat) (x : Int), vs = [.ref p, .int i] ∧ SzAt (He.ga K "Sizes") H p ns ∧ ns[i]? = some x ∧ Q (.int x) H
theorem sc_size : FnScope ["self", "level"] ["self", "level"] (defScope (inClass (top 18) 14)) := ⟨rfl, rfl, rfl, by decide +kernel, rfl, by decide +kernel, by decide +kernel⟩
theorem ok_size (T : Tx K mg) (M_check_level : Mf P w K mg base 4 "Sizes" "check_level" ["self", "level"] (spCheckL K)) (F : FnP K "size" "Sizes.size" (inClass (top 18) 14) f fd) :
    FnOk P w K mg base CX0 5 f fd ["self", "level"] (spSize K) := by
  refine F.ok sc_size (fun vs H Q E h => ?_) (fun cdv A outer s H vs Q E hr h => ⟨_, PSs.nox (pss_cons (ps_expr (pmeth M_check_level hr (pv 0) (pa_cons (pv 1) pa_nil))) (pss_one (ps_ret (pe_ix ix_list (pe_fld (pv 0) rfl) (pv 1) (fun _ _ => rfl))))), ?_⟩)
  · obtain ⟨p, ns, i, x, rfl, _⟩ := h
    rfl
  · obtain ⟨p, ns, i, x, rfl, hz, hx, q⟩ := h
    obtain ⟨dx, l, h1, h2⟩ := id hz
    refine ⟨_, rfl, p, dx, _, rfl, h1, szF_no l (by decide +kernel), _, rfl, p, ns, i, rfl, hz, (List.getElem?_eq_some_iff.mp hx).1, ?_⟩
    exact ⟨_, rfl, p, _, dx, _, _, rfl, h1, T.cl, T.nSL, szF_get l, _, rfl, l, _, _, _, rfl, rfl, SqL.of h2, at_map hx, q⟩
def spAddr : Sp := fun vs H Q _ => ∃ i : Int, vs = [.int i] ∧ 0 ≤ i ∧ Q (.bl true) H
theorem sc_is_address : FnScope ["value"] ["value"] (defScope (top 20)) := ⟨rfl, rfl, rfl, by decide +kernel, rfl, by decide +kernel, by decide +kernel⟩
theorem ok_is_address (T : Tx K mg) (D_is_integer : Df P w K mg base 1 "is_integer" ["value"] spInt) (F : FnP K "is_address" "is_address" (top 20) f fd) : FnOk P w K mg base CX0 2 f fd ["value"] spAddr := by
  refine F.ok sc_is_address (fun vs H Q E h => ?_) (fun cdv A outer s H vs Q E hr h => ⟨_, PSs.nox (pss_one (ps_ret (pe_and (pcall D_is_integer hr (pa_cons (pv 0) pa_nil)) (pe_one (pe_cmpR op_ge (pv 0) pe_int (nomark _)))))), ?_⟩)
  · obtain ⟨i, rfl, _⟩ := h
    rfl
  · obtain ⟨i, rfl, hi, q⟩ := h
    refine ⟨_, rfl, _, rfl, true, rfl, iteT ⟨_, rfl, _, _, rfl, rfl, ?_⟩⟩
    have e : decide ((0 : Int) ≤ i) = true := decide_eq_true hi
    show Q (.bl (decide ((0 : Int) ≤ i))) H
    rw [e]
    exact q
def spRange : Sp := fun vs H Q _ => ∃ a b : Int, vs = [.int a, .int b] ∧ 0 ≤ a ∧ a ≤ b ∧ Q .non H
/-- the least multiple of s from a on -/
def nextI (s a : Int) : Int := -(-a / s) * s
def spNext : Sp := fun vs H Q _ => ∃ s a : Int, vs = [.int s, .int a] ∧ 1 ≤ s ∧ s ≤ 1000000000 ∧ Q (.int (nextI s a)) H
theorem div_ok {i s : Int} (h1 : 1 ≤ s) (h2 : s ≤ 1000000000) : CDivW i s := wide_div (b := 64) (by omega) (by omega) (by decide) (by decide)
def spStart (K : PySem.W.Frag) : Sp := fun vs H Q _ => ∃ (p : Addr) (ns : List Int) (i : Nat) (x a : Int), vs = [.ref p, .int i, .int a] ∧ SzAt (He.ga K "Sizes") H p ns ∧ ns[i]? = some x ∧ 1 ≤ x ∧ 0 ≤ a ∧ Q (.int (a - a % x)) H
/-- what count_regions reckons -/
def cntI (s lo hi : Int) : Int := if ((hi - hi % s) - nextI s lo) / s > 0 then ((hi - hi % s) - nextI s lo) / s else 0
def spCount (K : PySem.W.Frag) : Sp := fun vs H Q _ => ∃ (p : Addr) (ns : List Int) (i : Nat) (x a b : Int), vs = [.ref p, .int i, .int a, .int b] ∧ SzAt (He.ga K "Sizes") H p ns ∧ ns[i]? = some x ∧ 1 ≤ x ∧ x ≤ 1000000000 ∧ 0 ≤ a ∧ a ≤ b ∧ Q (.int (cntI x a b)) H
end
end K34

set_option linter.all false
/-! The mathematics of counted regions. -/
namespace M15
theorem div_is {x s q r : Int} (h : x = s * q + r) (h0 : 0 ≤ r) (h1 : r < s) : x / s = q := by
  have e : r + s * q = x := by rw [h, Int.add_comm]
  exact ((Int.ediv_emod_unique (by omega)).mpr ⟨e, h0, h1⟩).1
/-- the number of multiples below x, rounded up -/
def C (s x : Int) : Int := (x + s - 1) / s
theorem parts (s x : Int) (h : 1 ≤ s) : x = s * (x / s) + x % s ∧ 0 ≤ x % s ∧ x % s < s :=
  ⟨(Int.mul_ediv_add_emod x s).symm, Int.emod_nonneg _ (by omega), Int.emod_lt_of_pos _ (by omega)⟩
theorem C_of {s x q r : Int} (hs : 1 ≤ s) (h : x = s * q + r) (h0 : 0 ≤ r) (h1 : r < s) : C s x = if r = 0 then q else q + 1 := by
  unfold C
  by_cases z : r = 0
  · rw [if_pos z]
    exact div_is (r := s - 1) (by omega) (by omega) (by omega)
  · rw [if_neg z]
    refine div_is (r := r - 1) ?_ (by omega) (by omega)
    have e : s * (q + 1) = s * q + s := by rw [Int.mul_add, Int.mul_one]
    omega
theorem C_step {s x : Int} (hs : 1 ≤ s) : C s (x + 1) = C s x + (if x % s = 0 then 1 else 0) := by
  obtain ⟨e, h0, h1⟩ := parts s x hs
  have a : C s (x + 1) = x / s + 1 := by
    unfold C
    have e2 : s * (x / s + 1) = s * (x / s) + s := by rw [Int.mul_add, Int.mul_one]
    exact div_is (r := x % s) (by omega) h0 h1
  rw [a, C_of hs e h0 h1]
  by_cases z : x % s = 0
  · rw [if_pos z, if_pos z]
  · rw [if_neg z, if_neg z]
    omega
theorem C_mono {s : Int} (hs : 1 ≤ s) (x : Int) (n : Nat) : C s x ≤ C s (x + n) := by
  induction n with
  | zero => simp
  | succ n ih =>
    have e := C_step (s := s) (x := x + n) hs
    rw [show x + ((n + 1 : Nat) : Int) = x + n + 1 by omega, e]
    split <;> omega
theorem C_le {s : Int} (hs : 1 ≤ s) {x y : Int} (h : x ≤ y) : C s x ≤ C s y := by
  have e := C_mono hs x (y - x).toNat
  rw [show x + (((y - x).toNat : Nat) : Int) = y by omega] at e
  exact e
/-- how many of the first n addresses from b on begin a region that ends by e -/
def cnt (s b e : Int) : Nat → Nat
  | 0 => 0
  | n + 1 => cnt s b e n + if (b + n) % s = 0 ∧ b + n + s ≤ e then 1 else 0
theorem cnt_is {s b e : Int} (hs : 1 ≤ s) : ∀ n : Nat, ((cnt s b e n : Nat) : Int) = if C s (min (b + n) (e - s + 1)) > C s b then C s (min (b + n) (e - s + 1)) - C s b else 0
  | 0 => by
    have h : C s (min (b + (0 : Nat)) (e - s + 1)) ≤ C s b := C_le hs (by omega)
    rw [if_neg (by omega)]
    rfl
  | n + 1 => by
    have ih := cnt_is (s := s) (b := b) (e := e) hs n
    show (((cnt s b e n + if (b + n) % s = 0 ∧ b + n + s ≤ e then 1 else 0 : Nat)) : Int) = _
    by_cases hb : b + n + s ≤ e
    · rw [show min (b + ((n + 1 : Nat) : Int)) (e - s + 1) = b + n + 1 by omega, C_step hs]
      rw [show min (b + (n : Int)) (e - s + 1) = b + n by omega] at ih
      have m := C_mono hs b n
      by_cases z : (b + n) % s = 0
      · rw [if_pos ⟨z, hb⟩, if_pos z]
        split at ih <;> split <;> omega
      · rw [if_neg (fun q => z q.1), if_neg z]
        split at ih <;> split <;> omega
    · rw [if_neg (fun q => hb q.2)]
      rw [show min (b + ((n + 1 : Nat) : Int)) (e - s + 1) = e - s + 1 by omega]
      rw [show min (b + (n : Int)) (e - s + 1) = e - s + 1 by omega] at ih
      omega
/-- the greatest of 0 and the difference -/
def cntM (s b e : Int) : Int := if e / s - C s b > 0 then e / s - C s b else 0
theorem C_end {s e : Int} : C s (e - s + 1) = e / s := by
  unfold C
  rw [show e - s + 1 + s - 1 = e by omega]
theorem cnt_all {s b e : Int} (hs : 1 ≤ s) (hb : b ≤ e) : ((cnt s b e (e - b).toNat : Nat) : Int) = cntM s b e := by
  rw [cnt_is hs, show min (b + (((e - b).toNat : Nat) : Int)) (e - s + 1) = e - s + 1 by omega, C_end]
  unfold cntM
  split <;> split <;> omega
theorem up_is {s a : Int} (hs : 1 ≤ s) : -(-a / s) = C s a := by
  obtain ⟨e, h0, h1⟩ := parts s a hs
  rw [C_of hs e h0 h1]
  by_cases z : a % s = 0
  · rw [if_pos z]
    have : -a / s = -(a / s) := div_is (r := 0) (by rw [Int.mul_neg]; omega) (by omega) (by omega)
    omega
  · rw [if_neg z]
    have e2 : s * (-(a / s) - 1) = -(s * (a / s)) - s := by rw [Int.mul_sub, Int.mul_neg, Int.mul_one]
    have : -a / s = -(a / s) - 1 := div_is (r := s - a % s) (by omega) (by omega) (by omega)
    omega
theorem quot_is {s a e : Int} (hs : 1 ≤ s) : ((e - e % s) - -(-a / s) * s) / s = e / s - C s a := by
  obtain ⟨h, h0, h1⟩ := parts s e hs
  rw [up_is hs]
  refine div_is (r := 0) ?_ (by omega) (by omega)
  have x1 : C s a * s = s * C s a := Int.mul_comm _ _
  have x2 : s * (e / s - C s a) = s * (e / s) - s * C s a := Int.mul_sub _ _ _
  omega
/-- a region across the cut -/
theorem across {s b c e : Int} (hs : 1 ≤ s) (h1 : b ≤ c) (h2 : c ≤ e) :
    cntM s b c + cntM s c e + (if b ≤ c - c % s ∧ c - c % s < c ∧ c - c % s + s ≤ e ∧ c % s ≠ 0 then 1 else 0) = cntM s b e := by
  obtain ⟨ec, c0, c1⟩ := parts s c hs
  obtain ⟨ee, e0, e1⟩ := parts s e hs
  obtain ⟨eb, b0, b1⟩ := parts s b hs
  have hCc := C_of hs ec c0 c1
  have hCb := C_of hs eb b0 b1
  have m1 : C s b ≤ C s c := C_le hs h1
  have m2 : c / s ≤ e / s := Int.ediv_le_ediv (by omega) h2
  have m3 : b / s ≤ c / s := Int.ediv_le_ediv (by omega) h1
  unfold cntM
  -- quotients: qb qc qe
  generalize hqb : b / s = qb at *
  generalize hqc : c / s = qc at *
  generalize hqe : e / s = qe at *
  have k1 : b ≤ c - c % s ↔ C s b ≤ qc := by
    have t : c - c % s = s * qc := by omega
    rw [t, hCb]
    constructor
    · intro h
      by_cases z : b % s = 0
      · rw [if_pos z]
        exact m3
      · rw [if_neg z]
        refine Int.not_lt.mp fun hn => ?_
        have : qc = qb := by omega
        rw [this] at h
        omega
    · intro h
      by_cases z : b % s = 0
      · rw [if_pos z] at h
        have := Int.mul_le_mul_of_nonneg_left h (show (0 : Int) ≤ s by omega)
        omega
      · rw [if_neg z] at h
        have := Int.mul_le_mul_of_nonneg_left h (show (0 : Int) ≤ s by omega)
        rw [Int.mul_add, Int.mul_one] at this
        omega
  have k2 : c - c % s + s ≤ e ↔ qc + 1 ≤ qe := by
    have t : c - c % s + s = s * (qc + 1) := by rw [Int.mul_add, Int.mul_one]; omega
    rw [t]
    constructor
    · intro h
      refine Int.not_lt.mp fun hn => ?_
      have := Int.mul_le_mul_of_nonneg_left (show qe ≤ qc by omega) (show (0 : Int) ≤ s by omega)
      have : s * (qc + 1) = s * qc + s := by rw [Int.mul_add, Int.mul_one]
      omega
    · intro h
      have := Int.mul_le_mul_of_nonneg_left h (show (0 : Int) ≤ s by omega)
      omega
  have hI : (if b ≤ c - c % s ∧ c - c % s < c ∧ c - c % s + s ≤ e ∧ c % s ≠ 0 then (1 : Int) else 0) = if c % s ≠ 0 ∧ C s b ≤ qc ∧ qc + 1 ≤ qe then 1 else 0 := by
    by_cases y : c % s ≠ 0 ∧ C s b ≤ qc ∧ qc + 1 ≤ qe
    · rw [if_pos y, if_pos ⟨k1.mpr y.2.1, by omega, k2.mpr y.2.2, y.1⟩]
    · rw [if_neg y, if_neg fun q => y ⟨q.2.2.2, k1.mp q.1, k2.mp q.2.2.1⟩]
  rw [hI]
  have hc3 : C s c = qc ∧ c % s = 0 ∨ C s c = qc + 1 ∧ c % s ≠ 0 := by
    by_cases z : c % s = 0
    · rw [if_pos z] at hCc
      exact .inl ⟨hCc, z⟩
    · rw [if_neg z] at hCc
      exact .inr ⟨hCc, z⟩
  clear hCc hCb k1 k2 hI
  generalize C s b = cb at *
  generalize C s c = cc at *
  rcases hc3 with ⟨rfl, z⟩ | ⟨rfl, z⟩
  · rw [if_neg (c := c % s ≠ 0 ∧ cb ≤ cc ∧ cc + 1 ≤ qe) fun q => q.1 z]
    split <;> split <;> split <;> omega
  · by_cases y : cb ≤ qc ∧ qc + 1 ≤ qe
    · rw [if_pos (c := c % s ≠ 0 ∧ cb ≤ qc ∧ qc + 1 ≤ qe) ⟨z, y.1, y.2⟩]
      split <;> split <;> split <;> omega
    · rw [if_neg (c := c % s ≠ 0 ∧ cb ≤ qc ∧ qc + 1 ≤ qe) fun q => y q.2]
      split <;> split <;> split <;> omega
end M15

set_option Elab.async false
set_option linter.all false
set_option maxRecDepth 100000
set_option maxHeartbeats 4000000
namespace K34
open PySem PySem.Spec PyProof.Rows L2 Gu Ex
/-- the drawing list at r -/
def Rng (H : Hp) (r : Addr) : Prop := ∃ a b : Int, H r = some (.lst [.int a, .int b]) ∧ 0 ≤ a ∧ 0 ≤ b ∧ b < 2147483587
/-- only the drawing list at r may have changed -/
def Stp (r : Addr) (H H' : Hp) : Prop := Rng H' r ∧ ∀ b o, b ≠ r → H b = some o → H' b = some o
theorem Stp.trans {r : Addr} {H H1 H2 : Hp} (a : Stp r H H1) (b : Stp r H1 H2) : Stp r H H2 := ⟨b.1, fun c o n e => b.2 c o n (a.2 c o n e)⟩
theorem Stp.refl {r : Addr} {H : Hp} (h : Rng H r) : Stp r H H := ⟨h, fun _ _ _ e => e⟩
/-- the ways of a choice come together: what holds of every value -/
theorem join {α : Type} {G : Prop} (Pc : α → Prop) {R : α → Prop} (h1 : (∀ c, Pc c → R c) → G) (h2 : ∀ c, Pc c → R c) : G := h1 h2
theorem Rng.ne {H : Hp} {r p : Addr} (h : Rng H r) (hp : H p = none) : r ≠ p := fun z => by
  obtain ⟨_, _, e, _⟩ := h
  rw [z, hp] at e
  cases e
theorem Stp.new {r p : Addr} {H H1 : Hp} {o : HO} (a : Stp r H H1) (hp : H1 p = none) : Stp r H (upd H1 p o) := by
  obtain ⟨⟨x, y, e, z⟩, k⟩ := a
  refine ⟨⟨x, y, ?_, z⟩, fun b u n e2 => ?_⟩
  · rw [upd_ne (ne_of_none e hp)]
    exact e
  · rw [upd_ne (ne_of_none (k b u n e2) hp)]
    exact k b u n e2
theorem Stp.free {r p : Addr} {H H1 : Hp} (a : Stp r H H1) (h : H1 p = none) : H p = none := by
  cases e : H p with
  | none => rfl
  | some o =>
    have n : p ≠ r := fun z => (a.1.ne h) z.symm
    rw [a.2 p o n e] at h
    cases h
section
variable {P : Program} {w : World} {K : PySem.W.Frag} {mg : Str → Option Value} {base : Heap} {f : Addr} {fd : FuncData}
def spRng (K : PySem.W.Frag) : Sp := fun vs H Q _ => ∃ (a : Addr) (ns : List Int) (k : Nat), vs = [.ref a, .int k] ∧ SqL K H a (ns.map V.int) ∧ k ≤ 63 ∧ ∀ p H', H p = none → Same H H' → Rng H' p → Q (.ref p) H'
theorem sc__law_rng : FnScope ["_law_script", "_law_k", "_law_cell"] ["_law_script", "_law_k"] (defScope (top 40)) := ⟨rfl, rfl, rfl, by decide +kernel, rfl, by decide +kernel, by decide +kernel⟩
theorem ok_rng (T : Tx K mg) (F : FnP K "_law_rng" "_law_rng" (top 40) f fd) : FnOk P w K mg base CX0 1 f fd ["_law_script", "_law_k"] (spRng K) := by
  refine F.ok sc__law_rng (fun vs H Q E h => ?_) (fun cdv A outer s H vs Q E hr h => ⟨_, PSs.nox (pss_cons (ps_set (i := 2) sc__law_rng.nd rfl (by first | exact Or.inl rfl | exact Or.inr rfl) (pe_ifExp (pt_cmpR op_lt (pv 1) (pe_callB call_len_seq (by rfl) T.n_len (by decide +kernel) (pa_cons (pv 0) pa_nil)) (nomark _)) (pe_callB call_abs (by rfl) T.n_abs (by decide +kernel) (pa_cons (pe_ix ix_list (pv 0) (pv 1) (fun _ _ => rfl)) pa_nil)) pe_int)) (pss_one (ps_ret (pe_lst (pa_cons (pe_callB (call_max2 rfl) (by rfl) T.n_max (by decide +kernel) (pa_cons pe_int (pa_cons (pe_op op_sub (pv 2) (pe_op op_pow pe_int pe_int)) pa_nil))) (pa_cons (pe_op op_add (pe_op op_mod (pe_op op_pow (pe_op op_add (pe_op op_add (pe_op op_mod (pv 2) pe_int) (pe_op op_mul pe_int (pv 1))) pe_int) pe_int) pe_int) pe_int) pa_nil)))))), ?_⟩)
  · obtain ⟨a, ns, k, rfl, _⟩ := h
    rfl
  · obtain ⟨a, ns, k, rfl, hS, hk, q⟩ := h
    refine join (fun c : Int => 0 ≤ c) (R := ?R) (fun tail => ?main) ?tl
    case main =>
      refine ⟨_, rfl, _, rfl, a, _, rfl, .inl hS, _, _, rfl, rfl, _, rfl, ?_⟩
      by_cases hl : (k : Int) < (((ns.map V.int).length : Nat) : Int)
      · have hk2 : k < ns.length := by rw [List.length_map] at hl; omega
        refine ifT (decide_eq_true hl) ?_
        refine ⟨_, rfl, _, rfl, a, _, _, _, rfl, rfl, hS, at_map (List.getElem?_eq_getElem hk2), _, rfl, ?_⟩
        obtain ⟨c, hc, ec⟩ : ∃ c : Int, 0 ≤ c ∧ (if ns[k] < 0 then -ns[k] else ns[k]) = c := ⟨if ns[k] < 0 then -ns[k] else ns[k], by split <;> omega, rfl⟩
        rw [ec]
        exact tail c hc
      · refine ifF (decide_eq_false hl) ?_
        exact tail 0 (by decide)
    case tl =>
      intro c hc
      have c0 := Int.emod_nonneg c (show (2147483543 : Int) ≠ 0 by decide)
      have c1 := Int.emod_lt_of_pos c (show (0 : Int) < 2147483543 by decide)
      refine ⟨_, rfl, _, _, rfl, rfl, ⟨by decide, by decide, by decide⟩, _, _, rfl, rfl, _, _, rfl, ?_⟩
      refine ⟨_, rfl, _, _, rfl, rfl, (by show (0 : Int) < 2147483543; decide), _, rfl, _, _, rfl, rfl, .inl ⟨by decide, by decide⟩, _, _, rfl, rfl, _, _, rfl, rfl, _, _, rfl, rfl, ⟨by decide, by decide, by omega⟩, _, _, rfl, rfl, (by show (0 : Int) < 2147483497; decide), _, _, rfl, rfl, ?_⟩
      refine ⟨(by show 2 ≤ sizeLine; decide), fun p hp => q p _ hp (fun b o e => by rw [upd_ne (ne_of_none e hp)]; exact e) ⟨_, _, upd_same, ?_, ?_, ?_⟩⟩
      · split <;> omega
      · have := Int.emod_nonneg ((c % 2147483543 + 101 * (k : Int) + 7) ^ (2 : Int).toNat) (show (2147483497 : Int) ≠ 0 by decide)
        omega
      · have := Int.emod_lt_of_pos ((c % 2147483543 + 101 * (k : Int) + 7) ^ (2 : Int).toNat) (show (0 : Int) < 2147483497 by decide)
        omega
def spDraw : Sp := fun vs H Q _ => ∃ (r : Addr) (m : Int), vs = [.ref r, .int m] ∧ Rng H r ∧ 1 ≤ m ∧ m ≤ 10 ^ 40 ∧ ∀ d H', 0 ≤ d → d < m → Stp r H H' → Q (.int d) H'
theorem sc__law_draw : FnScope ["_law_rng_here", "_law_many", "_law_mixed", "_law_digit"] ["_law_rng_here", "_law_many"] (defScope (top 41)) := ⟨rfl, rfl, rfl, by decide +kernel, rfl, by decide +kernel, by decide +kernel⟩
theorem ok_draw (T : Tx K mg) (F : FnP K "_law_draw" "_law_draw" (top 41) f fd) : FnOk P w K mg base CX0 1 f fd ["_law_rng_here", "_law_many"] spDraw := by
  refine F.ok sc__law_draw (fun vs H Q E h => ?_) (fun cdv A outer s H vs Q E hr h => ⟨_, PSs.nox (pss_cons (ps_if (pt_cmpR op_gt (pe_ix ix_list (pv 0) pe_int (fun _ _ => rfl)) pe_int (nomark _)) (pss_cons (ps_asg (pe_callB call_divmodW (by rfl) T.n_divmod (by decide +kernel) (pa_cons (pe_ix ix_list (pv 0) pe_int (fun _ _ => rfl)) (pa_cons (pv 1) pa_nil))) (pg_tup (by rfl) (pgs_cons (pg_sub (pv 0) pe_int set_list) (pgs_cons (pg_name (i := 3) sc__law_draw.nd rfl (by first | exact Or.inl rfl | exact Or.inr rfl)) pgs_nil)))) (pss_one (ps_ret (pv 3)))) pss_nil) (pss_cons (ps_asg (pe_op op_mod (pe_op op_add (pe_op op_mul (pe_ix ix_list (pv 0) pe_int (fun _ _ => rfl)) pe_int) pe_int) pe_int) (pg_sub (pv 0) pe_int set_list)) (pss_cons (ps_set (i := 2) sc__law_draw.nd rfl (by first | exact Or.inl rfl | exact Or.inr rfl) (pe_op op_fdivW (pe_op op_mod (pe_op op_mul (pe_ix ix_list (pv 0) pe_int (fun _ _ => rfl)) (pe_ix ix_list (pv 0) pe_int (fun _ _ => rfl))) pe_int) pe_int)) (pss_one (ps_ret (pe_ifExp (pt_cmpR op_lt (pv 1) (pe_op op_pow pe_int pe_int) (nomark _)) (pe_op op_mod (pv 2) (pv 1)) (pe_op op_mod (pe_op op_mul (pe_op op_add (pe_op op_mul (pv 2) pe_int) (pe_ix ix_list (pv 0) pe_int (fun _ _ => rfl))) pe_int) (pv 1)))))))), ?_⟩)
  · obtain ⟨r, m, rfl, _⟩ := h
    rfl
  · obtain ⟨r, m, rfl, ⟨a, b, hR, ha, hb, hb2⟩, m1, m2, q⟩ := h
    have mb : m.natAbs < 2 ^ 200 := by
      have : (10 : Int) ^ 40 < 2 ^ 200 := by decide
      have e : ((2 : Nat) ^ 200 : Nat) = ((2 : Int) ^ 200).natAbs := by decide
      omega
    refine ⟨_, rfl, r, _, _, _, rfl, rfl, SqL.of hR, rfl, _, _, rfl, rfl, _, rfl, ?_⟩
    by_cases h0 : 0 < a
    · refine ifT (decide_eq_true h0) ?_
      refine ⟨_, rfl, r, _, _, _, rfl, rfl, SqL.of hR, rfl, _, rfl, _, _, rfl, ⟨by omega, PyProof.noPylong_of_log2 (Nat.lt_of_lt_of_le (PySem.Flt.log2_lt_of (by decide) mb) (by decide))⟩, fun p hp => ?_⟩
      have nrp : r ≠ p := ne_of_none hR hp
      have hR2 : (upd H p (.tup [.int (a / m), .int (a % m)])) r = some (.lst [.int a, .int b]) := by rw [upd_ne nrp]; exact hR
      refine ⟨p, _, rfl, .inl (.inl upd_same), rfl, _, _, rfl, _, rfl, r, _, _, 0, rfl, rfl, hR2, rfl, _, _, rfl, rfl, ?_⟩
      refine ⟨_, rfl, q _ _ (Int.emod_nonneg _ (by omega)) (Int.emod_lt_of_pos _ (by omega)) ⟨⟨a / m, b, upd_same, Int.ediv_nonneg (by omega) (by omega), hb, hb2⟩, fun c o n e => ?_⟩⟩
      rw [upd_ne n, upd_ne (ne_of_none e hp)]
      exact e
    · refine ifF (decide_eq_false h0) ?_
      have b0 := Int.emod_nonneg (b * 48271 + 10007) (show (2147483587 : Int) ≠ 0 by decide)
      have b1 := Int.emod_lt_of_pos (b * 48271 + 10007) (show (0 : Int) < 2147483587 by decide)
      refine ⟨_, rfl, r, _, _, _, rfl, rfl, SqL.of hR, rfl, _, _, rfl, rfl, .inr ⟨by decide, by decide⟩, _, _, rfl, rfl, _, _, rfl, rfl, (by show (0 : Int) < 2147483587; decide), _, rfl, r, _, _, 1, rfl, rfl, hR, rfl, ?_⟩
      dsimp only
      generalize hB : (b * 48271 + 10007) % 2147483587 = B at *
      have hR2 : (upd H r (.lst [.int a, .int B])) r = some (.lst [.int a, .int B]) := upd_same
      have st : Stp r H (upd H r (.lst [.int a, .int B])) := ⟨⟨a, B, upd_same, ha, b0, b1⟩, fun c o n e => by rw [upd_ne n]; exact e⟩
      refine ⟨_, rfl, r, _, _, _, rfl, rfl, SqL.of hR2, rfl, _, rfl, r, _, _, _, rfl, rfl, SqL.of hR2, rfl, _, _, rfl, rfl, .inl ⟨by omega, by omega⟩, _, _, rfl, rfl, (by show (0 : Int) < 2147483549; decide), _, _, rfl, rfl, wide_div (b := 64) (by decide) (by decide) (by decide) (by decide), ?_⟩
      refine ⟨_, rfl, _, _, rfl, rfl, ⟨by decide, by decide, by decide⟩, _, _, rfl, rfl, _, rfl, ite2 (fun _ => ?_) (fun _ => ?_)⟩
      · exact ⟨_, rfl, _, rfl, _, _, rfl, rfl, (by show (0 : Int) < m; omega), q _ _ (Int.emod_nonneg _ (by omega)) (Int.emod_lt_of_pos _ (by omega)) st⟩
      · refine ⟨_, rfl, _, _, rfl, rfl, .inr ⟨by decide, by decide⟩, _, rfl, r, _, _, _, rfl, rfl, SqL.of hR2, rfl, _, _, rfl, rfl, _, _, rfl, rfl, .inr ⟨by decide, by decide⟩, _, rfl, _, _, rfl, rfl, (by show (0 : Int) < m; omega), ?_⟩
        exact q _ _ (Int.emod_nonneg _ (by omega)) (Int.emod_lt_of_pos _ (by omega)) st
end
end K34

set_option Elab.async false
set_option linter.all false
set_option maxRecDepth 100000
set_option maxHeartbeats 4000000
namespace K34
open PySem PySem.Spec PyProof.Rows L2 Gu Ex
section
variable {P : Program} {w : World} {K : PySem.W.Frag} {mg : Str → Option Value} {base : Heap} {f : Addr} {fd : FuncData}
theorem at_of {xs : List V} {d : Int} (h0 : 0 ≤ d) (h1 : d < xs.length) : ∃ v, atI xs d = some v ∧ v ∈ xs := by
  obtain ⟨n, rfl⟩ := Int.eq_ofNat_of_zero_le h0
  have hn : n < xs.length := by omega
  exact ⟨xs[n], atI_nat (List.getElem?_eq_getElem hn), List.getElem_mem hn⟩
def spChoice : Sp := fun vs H Q _ => ∃ (r o : Addr) (xs : List V), vs = [.ref r, .ref o] ∧ Rng H r ∧ H o = some (.lst xs) ∧ o ≠ r ∧ 1 ≤ xs.length ∧ xs.length ≤ 1000 ∧ ∀ v H', v ∈ xs → Stp r H H' → Q v H'
theorem sc__law_choice : FnScope ["_law_rng_here", "_law_options"] ["_law_rng_here", "_law_options"] (defScope (top 42)) := ⟨rfl, rfl, rfl, by decide +kernel, rfl, by decide +kernel, by decide +kernel⟩
theorem ok_choice (T : Tx K mg) (D__law_draw : Df P w K mg base 1 "_law_draw" ["_law_rng_here", "_law_many"] spDraw) (F : FnP K "_law_choice" "_law_choice" (top 42) f fd) : FnOk P w K mg base CX0 2 f fd ["_law_rng_here", "_law_options"] spChoice := by
  refine F.ok sc__law_choice (fun vs H Q E h => ?_) (fun cdv A outer s H vs Q E hr h => ⟨_, PSs.nox (pss_one (ps_ret (pe_ix ix_list (pv 1) (pcall D__law_draw hr (pa_cons (pv 0) (pa_cons (pe_callB call_len_seq (by rfl) T.n_len (by decide +kernel) (pa_cons (pv 1) pa_nil)) pa_nil))) (fun _ _ => rfl)))), ?_⟩)
  · obtain ⟨r, o, xs, rfl, _⟩ := h
    rfl
  · obtain ⟨r, o, xs, rfl, hR, hO, ne, l1, l2, q⟩ := h
    refine ⟨_, rfl, _, rfl, _, rfl, o, _, rfl, .inl (SqL.of hO), r, _, rfl, hR, by omega, ?_, fun d H1 d0 d1 st => ?_⟩
    · have : (1000 : Int) ≤ 10 ^ 40 := by decide
      omega
    · obtain ⟨v, hv, hm⟩ := at_of d0 d1
      exact ⟨o, _, _, v, rfl, rfl, SqL.of (st.2 o _ ne hO), hv, q v H1 hm st⟩
theorem good_one : Good [1] := ⟨⟨by decide, by decide⟩, rfl, fun i x h => by
    cases i with
    | zero => cases h; decide
    | succ i => simp at h, fun i x y h1 h2 => by
    cases i with
    | zero => simp at h2
    | succ i => simp at h1⟩
theorem good_more {ns : List Int} {x k : Int} (g : Good ns) (hl : ns.length < 8) (hx : ns[ns.length - 1]? = some x) (hk : 2 ≤ k) (hm : x * k ≤ 1000000000) : Good (ns ++ [x * k]) := by
  have l := g.len
  have xr := g.rng _ _ hx
  have gt : x < x * k := by
    have := Int.mul_le_mul_of_nonneg_left hk (show (0 : Int) ≤ x by omega)
    omega
  refine ⟨⟨by rw [List.length_append, List.length_singleton]; omega, by rw [List.length_append, List.length_singleton]; omega⟩, ?_, fun i y h => ?_, fun i y z h1 h2 => ?_⟩
  · rw [List.getElem?_append_left (by omega)]
    exact g.one
  · by_cases hi : i < ns.length
    · rw [List.getElem?_append_left hi] at h
      exact g.rng i y h
    · rw [List.getElem?_append_right (by omega)] at h
      have hi2 : i - ns.length = 0 := by
        cases e : i - ns.length with
        | zero => rfl
        | succ n => rw [e] at h; simp at h
      rw [hi2] at h
      have e : x * k = y := Option.some.inj h
      omega
  · by_cases hi : i + 1 < ns.length
    · rw [List.getElem?_append_left hi] at h2
      rw [List.getElem?_append_left (by omega)] at h1
      exact g.up i y z h1 h2
    · by_cases hi2 : i + 1 = ns.length
      · rw [List.getElem?_append_left (by omega)] at h1
        rw [List.getElem?_append_right (by omega), hi2, Nat.sub_self] at h2
        have e : x * k = z := Option.some.inj h2
        rw [show i = ns.length - 1 by omega, hx] at h1
        have e2 : x = y := Option.some.inj h1
        rw [← e, ← e2]
        exact ⟨gt, Int.mul_emod_right x k⟩
      · rw [List.getElem?_append_right (by omega)] at h2
        cases e : i + 1 - ns.length with
        | zero => omega
        | succ n => rw [e] at h2; simp at h2
def spSizes : Sp := fun vs H Q _ => ∃ (r : Addr) (lv gr : Int), vs = [.ref r, .int lv, .int gr] ∧ Rng H r ∧ 1 ≤ lv ∧ lv ≤ 8 ∧ 2 ≤ gr ∧ gr ≤ 1000000 ∧
  ∀ l ns H', Good ns → H l = none → H' l = some (.lst (ns.map V.int)) → Stp r H H' → Q (.ref l) H'
theorem at_last (ys : List Int) (x : Int) : atI ((ys ++ [x]).map V.int) (-1) = some (.int x) := by
  rw [List.map_append]
  exact atI_last _ _
theorem last_of : ∀ {ns : List Int}, 1 ≤ ns.length → ∃ ys x, ns = ys ++ [x]
  | [], h => absurd h (by decide)
  | [x], _ => ⟨[], x, rfl⟩
  | a :: b :: r, _ => by
    obtain ⟨ys, x, e⟩ := last_of (ns := b :: r) (by simp)
    exact ⟨a :: ys, x, by rw [e]; rfl⟩
theorem last_get (ys : List Int) (x : Int) : (ys ++ [x])[(ys ++ [x]).length - 1]? = some x := by
  rw [List.length_append, List.length_singleton, Nat.add_sub_cancel, List.getElem?_append_right (Nat.le_refl _), Nat.sub_self]
  rfl
theorem sc__law_sizes : FnScope ["_law_rng_here", "_law_levels", "_law_greatest", "_law_result", "_law_k", "_law_factor"] ["_law_rng_here", "_law_levels", "_law_greatest"] (defScope (top 44)) := ⟨rfl, rfl, rfl, by decide +kernel, rfl, by decide +kernel, by decide +kernel⟩
theorem ok_sizes (T : Tx K mg) (D__law_draw : Df P w K mg base 1 "_law_draw" ["_law_rng_here", "_law_many"] spDraw) (F : FnP K "_law_sizes" "_law_sizes" (top 44) f fd) :
    FnOk P w K mg base CX0 2 f fd ["_law_rng_here", "_law_levels", "_law_greatest"] spSizes := by
  refine F.ok sc__law_sizes (fun vs H Q E h => ?_) (fun cdv A outer s H vs Q E hr h => ⟨_, PSs.nox (pss_cons (ps_set (i := 3) sc__law_sizes.nd rfl (by first | exact Or.inl rfl | exact Or.inr rfl) (pe_lst (pa_cons pe_int pa_nil))) (pss_cons (ps_for PassesOwn.never rfl (pi_range1 rfl T.n_range (pa_cons (pcall D__law_draw hr (pa_cons (pv 0) (pa_cons (pv 1) pa_nil))) pa_nil)) (pg_name (i := 4) sc__law_sizes.nd rfl (by first | exact Or.inl rfl | exact Or.inr rfl)) (pss_cons (ps_set (i := 5) sc__law_sizes.nd rfl (by first | exact Or.inl rfl | exact Or.inr rfl) (pe_ix ix_list (pe_lst (pa_cons pe_int (pa_cons pe_int (pa_cons pe_int (pa_cons pe_int (pa_cons (pe_op op_add pe_int (pcall D__law_draw hr (pa_cons (pv 0) (pa_cons (pe_op op_sub (pv 2) pe_int) pa_nil)))) pa_nil)))))) (pcall D__law_draw hr (pa_cons (pv 0) (pa_cons pe_int pa_nil))) (fun _ _ => rfl))) (pss_one (ps_if (PW.pt (pw_and (pt_cmpR op_le (pe_op op_mul (pe_ix ix_list (pv 3) (pe_un un_neg pe_int) (fun _ _ => rfl)) (pv 5)) (pe_op op_pow pe_int pe_int) (nomark _)) (pw_and1 (pt_cmpR op_le (pv 5) (pv 2) (nomark _))))) (pss_one (ps_expr (pe_bm PySem.F.plainAttrs_list PySem.F.slot_list_append PySem.F.type_list_append mt_append (pv 3) (pa_cons (pe_op op_mul (pe_ix ix_list (pv 3) (pe_un un_neg pe_int) (fun _ _ => rfl)) (pv 5)) pa_nil)))) pss_nil)))) (pss_one (ps_ret (pv 3))))), ?_⟩)
  · obtain ⟨r, lv, gr, rfl, _⟩ := h
    rfl
  · obtain ⟨r, lv, gr, rfl, hR, l1, l2, g1, g2, q⟩ := h
    have big : (10 : Int) ^ 40 = 10000000000000000000000000000000000000000 := by decide
    refine ⟨(by show 1 ≤ sizeLine; decide), fun l hl => ?_⟩
    have nrl : r ≠ l := hR.ne hl
    have s0 : Stp r H (upd H l (.lst [.int 1])) := (Stp.refl hR).new hl
    refine ⟨_, rfl, _, rfl, r, lv, rfl, s0.1, l1, by omega, fun d H1 d0 d1 s1 => ?_⟩
    refine ⟨d, rfl, by omega, by omega, ?_⟩
    have s01 := s0.trans s1
    refine for_range (fun i σ H' => ∃ ns x y, σ = [some (.ref r), some (.int lv), some (.int gr), some (.ref l), x, y] ∧ Good ns ∧ ns.length ≤ i + 1 ∧ H' l = some (.lst (ns.map V.int)) ∧ Stp r H H') ⟨[1], none, none, rfl, good_one, by simp, s1.2 l _ nrl.symm upd_same, s01⟩ ?_ ?_
    · rintro i σ H' hi ⟨ns, x, y, rfl, g, hlen, hL, st⟩
      have hi8 : i < 8 := by omega
      obtain ⟨ys, z, rfl⟩ := last_of g.len.1
      have zr := g.rng _ _ (last_get ys z)
      refine ⟨_, rfl, _, rfl, _, _, rfl, rfl, r, gr - 1, rfl, st.1, by omega, by omega, fun d1 H1 a0 a1 t1 => ?_⟩
      have st1 := st.trans t1
      have hL1 : H1 l = some (.lst ((ys ++ [z]).map V.int)) := t1.2 l _ nrl.symm hL
      refine ⟨_, _, rfl, rfl, (by show 5 ≤ sizeLine; decide), fun t ht => ?_⟩
      have st2 := st1.new (o := .lst [.int 2, .int 2, .int 3, .int 4, .int (2 + d1)]) ht
      have nrt : r ≠ t := st1.1.ne ht
      have hL2 : (upd H1 t (.lst [.int 2, .int 2, .int 3, .int 4, .int (2 + d1)])) l = some (.lst ((ys ++ [z]).map V.int)) := by rw [upd_ne (ne_of_none hL1 ht)]; exact hL1
      refine ⟨_, rfl, r, 5, rfl, st2.1, by decide, by omega, fun d2 H3 b0 b1 t3 => ?_⟩
      have st3 := st2.trans t3
      have hL3 : H3 l = some (.lst ((ys ++ [z]).map V.int)) := t3.2 l _ nrl.symm hL2
      obtain ⟨v, hv, hm⟩ := at_of (xs := [.int 2, .int 2, .int 3, .int 4, .int (2 + d1)]) b0 b1
      obtain ⟨k, rfl, k2⟩ : ∃ k : Int, v = .int k ∧ 2 ≤ k := by
        simp only [List.mem_cons, List.not_mem_nil, or_false] at hm
        rcases hm with rfl | rfl | rfl | rfl | rfl
        · exact ⟨_, rfl, by omega⟩
        · exact ⟨_, rfl, by omega⟩
        · exact ⟨_, rfl, by omega⟩
        · exact ⟨_, rfl, by omega⟩
        · exact ⟨_, rfl, by omega⟩
      refine ⟨t, _, _, _, rfl, rfl, SqL.of (t3.2 t _ nrt.symm upd_same), hv, ?_⟩
      refine ⟨_, rfl, _, rfl, l, _, _, _, rfl, rfl, SqL.of hL3, at_last ys z, _, rfl, _, _, rfl, rfl, .inl ⟨by omega, by omega⟩, _, _, rfl, rfl, ⟨by decide, by decide, by decide⟩, _, _, rfl, rfl, _, rfl, ?_⟩
      by_cases hc : z * k ≤ 10 ^ (9 : Int).toNat
      · refine ifT (decide_eq_true hc) ?_
        refine ⟨_, rfl, _, rfl, _, _, rfl, rfl, _, rfl, ite2 (fun hk => ?_) (fun _ => ?_)⟩
        · refine ⟨_, rfl, .inl ⟨rfl, _, SqL.of hL3⟩, _, rfl, _, rfl, l, _, _, _, rfl, rfl, SqL.of hL3, at_last ys z, _, rfl, _, _, rfl, rfl, .inl ⟨by omega, by omega⟩, l, _, _, rfl, rfl, hL3, ?_, ?_⟩
          · exact small1000 (by rw [List.length_map]; omega)
          · have hc2 : z * k ≤ 1000000000 := hc
            refine ⟨(ys ++ [z]) ++ [z * k], _, _, rfl, good_more g (by omega) (last_get ys z) k2 hc2, by rw [List.length_append (bs := [z * k]), List.length_singleton]; omega, ?_, ?_⟩
            · rw [upd_same, List.map_append (l₂ := [z * k])]
              rfl
            · obtain ⟨⟨x1, x2, e1, e2⟩, kk⟩ := st3
              refine ⟨⟨x1, x2, by rw [upd_ne nrl]; exact e1, e2⟩, fun b o n e => ?_⟩
              rw [upd_ne (ne_of_none e hl)]
              exact kk b o n e
        · exact ⟨_, _, _, rfl, g, by omega, hL3, st3⟩
      · exact ifF (decide_eq_false hc) ⟨_, _, _, rfl, g, by omega, hL3, st3⟩
    · rintro σ H' ⟨ns, x, y, rfl, g, hlen, hL, st⟩
      exact ⟨_, rfl, q l ns H' g hl hL st⟩
end
end K34

set_option Elab.async false
set_option linter.all false
set_option maxRecDepth 100000
set_option maxHeartbeats 4000000
/-! Own layer: range(a, b, c) of any whole numbers a, b and a step from 1 to 2^30; a comprehension over it. -/
namespace Ex
open PySem PySem.Spec PyProof.Rows L2 Gu
theorem turn_longC {P : Program} {w : World} {K : PySem.W.Frag} {tg : Expr} (it : Addr) (lo c : Int) (n : Nat) :
    Turn P w K tg (Itc lo c n) [it] it (fun i h => IsLongIter h it (lo + (i : Nat) * c) ((n : Int) - (i : Nat)) c) where
  mem := List.mem_singleton.mpr rfl
  obj := fun i h st b hb => by
    obtain rfl := List.mem_singleton.mp hb
    exact ⟨_, st, fun v z => nomatch (show Data.fields _ = Data.cell v from z)⟩
  keep := fun i h h' st k => k it (List.mem_singleton.mpr rfl) _ st
  item := by
    rintro X rfl rfl rfl hc i pins s σ H E I hf st hg
    obtain ⟨f0, f1, f2, f3, f4, f5⟩ := hf it (List.mem_singleton.mpr rfl)
    refine (Walks.longrange (prog := X.prog) (w := X.w) (I.ok.hd hc) it lo c n).item i s _ _ hg st fun v h' tk hv st' kk => ?_
    obtain ⟨t, rfl⟩ := hv
    have J : Inv X pins σ H { s with heap := h', toks := tk } := I.turned (fun b o hb e => kk b o (fun z => hb (List.mem_singleton.mp z)) e) f0 f1 f3 f4 f5
    exact ⟨_, rfl, go_of (s := { s with heap := h', toks := tk }) (n := "longrange_iterator") st' rfl rfl (by decide) ⟨.int (lo + (i : Nat) * c), H, J, ⟨t, rfl⟩, ⟨rfl, rfl⟩, st', fun b hb => (hf b hb).1⟩⟩
  done := by
    rintro X rfl rfl rfl hc i pins s σ H E I hf st hg
    obtain ⟨f0, f1, f2, f3, f4, f5⟩ := hf it (List.mem_singleton.mpr rfl)
    have hn : n ≤ i := hg
    exact wpAny_pyNext_long_end (I.ok.hd hc) st (by omega) fun h' eb => ⟨rfl, I.turned (t' := s.toks) (fun b o hb e => eb b o hb e) f0 f1 f3 f4 f5⟩
  self := fun _ _ _ _ _ st h => wpAny_pyIter_longiter st h
section
variable {X : Cx} {tg : Expr}
theorem range_anyC {pins : List (Addr × Obj)} {σ : L2.St} {H : Hp} {s : Shared} {R : It → Hp → Prop} {E : Value → Shared → Prop} {lo hi c : Int} {t u v : Tok} {tk : Nat} (I : Inv X pins σ H s) (q : R (Itc lo c (Builtin.Range.rangeSize lo hi c).toNat) H) :
    wpAny (model X.prog X.w) X.A (pyIter (.ref s.heap.objs.size)) (PIE X pins σ tg R) E { s with heap := s.heap.push { cls := .type "range", data := .fields #[.int lo t, .int hi u, .int c v] }, toks := tk } := by
  have J : Inv X pins σ H { s with heap := s.heap.push { cls := .type "range", data := .fields #[.int lo t, .int hi u, .int c v] }, toks := tk } := I.kept fun b o e => Heap.get?_push_of_some _ e
  have e1 : lo + ((0 : Nat) : Int) * c = lo := by simp
  have e2 : (((Builtin.Range.rangeSize lo hi c).toNat : Nat) : Int) - ((0 : Nat) : Int) = Builtin.Range.rangeSize lo hi c := by
    rw [← rangeSize_toNat]
    simp
  have fr : ∀ b ∈ [(s.heap.push { cls := .type "range", data := .fields #[.int lo t, .int hi u, .int c v] }).objs.size], _ := fun b hb => by
    obtain rfl := List.mem_singleton.mp hb
    exact J.fpOk (Nat.le_refl _) (J.hok.fresh (Nat.le_refl _))
  cases hs : Builtin.Range.small lo hi c with
  | true =>
    refine wpAny_pyIter_range (IsRange.new ..) hs ⟨_, [_], _, _, H, rfl, J.kept (t' := tk) fun b o e => Heap.get?_push_of_some _ e, turn_rangeC _ lo c (Builtin.Range.rangeSize lo hi c).toNat, ?_, fr, q⟩
    show IsRangeIter _ _ (lo + ((0 : Nat) : Int) * c) ((((Builtin.Range.rangeSize lo hi c).toNat : Nat) : Int) - ((0 : Nat) : Int)) c
    rw [e1, e2]
    exact Heap.get?_push_size _ rfl
  | false =>
    refine wpAny_pyIter_longrange (IsRange.new ..) hs ⟨_, [_], _, _, H, rfl, J.kept (t' := tk) fun b o e => Heap.get?_push_of_some _ e, turn_longC _ lo c (Builtin.Range.rangeSize lo hi c).toNat, ?_, fr, q⟩
    show IsLongIter _ _ (lo + ((0 : Nat) : Int) * c) ((((Builtin.Range.rangeSize lo hi c).toNat : Nat) : Int) - ((0 : Nat) : Int)) c
    rw [e1, e2]
    exact Heap.get?_push_size _ rfl
/-- how many turns range(i, j, c) has -/
def stepsN (i j c : Int) : Nat := (Builtin.Range.rangeSize i j c).toNat
def iRngS (ta : TA) : TI := fun σ H R => ta σ H fun vs H1 => ∃ i j c : Int, vs = [.int i, .int j, .int c] ∧ 1 ≤ c ∧ c < 1073741824 ∧ R (Itc i c (stepsN i j c)) H1
theorem pi_rangeS {a b c : Expr} {ta : TA} {p pos : Pos} (hg : Gl X "range") (hm : X.mg "range" = none) (ha : PA X [a, b, c] ta)
    (hs : starEach [a, b, c] X.env = (false, eval a X.env) :: starEach [b, c] X.env := by rfl) (hpl : (backTo pos (starEach [b, c] X.env)).any (·.1) = false := by rfl) :
    PI X tg (.Call (.Name "range" p) [a, b, c] [] pos) (iRngS ta) := by
  refine ⟨fun pins s σ H R I h => ?_⟩
  refine Call_ (ld_blt I hg hm boot_range (PyProof.Rows.callWith_type1 (thn (ha.run pos pins s σ H _ I h) fun us s1 ⟨vs, H1, I1, r1, q1⟩ => ?_) hs hpl))
  obtain ⟨i, j, k, e, c0, c1, q⟩ := q1
  subst e
  cases r1 with
  | cons r rr =>
    cases rr with
    | cons r' rr =>
      cases rr with
      | cons r'' rr =>
        cases rr
        obtain ⟨t, rfl⟩ := r
        obtain ⟨t', rfl⟩ := r'
        obtain ⟨t'', rfl⟩ := r''
        exact call_range_3 (by omega) (range_anyC (tk := s1.toks) I1 q) (.inl (PyProof.noPylong_small (by omega)))
end
theorem steps_le {i j c : Int} (hc : 1 ≤ c) (h : j - i ≤ 100) : stepsN i j c ≤ 100 := by
  unfold stepsN Builtin.Range.rangeSize
  rw [if_pos (by omega)]
  split
  · have h1 := Int.ediv_le_self c (show (0 : Int) ≤ j - i - 1 by omega)
    omega
  · decide
/-- the turns reach every step below the end, and no other -/
theorem steps_lt {i j c : Int} (hc : 1 ≤ c) (n : Nat) : n < stepsN i j c ↔ i + (n : Int) * c < j := by
  unfold stepsN Builtin.Range.rangeSize
  rw [if_pos (by omega)]
  by_cases hij : i < j
  · rw [if_pos hij]
    have d0 : 0 ≤ (j - i - 1) / c := Int.ediv_nonneg (by omega) (by omega)
    have e1 := Int.mul_ediv_add_emod (j - i - 1) c
    have e2 := Int.emod_nonneg (j - i - 1) (show c ≠ 0 by omega)
    have e3 := Int.emod_lt_of_pos (j - i - 1) (show 0 < c by omega)
    generalize (j - i - 1) / c = q at *
    constructor
    · intro h
      have h2 : (n : Int) ≤ q := by omega
      have h3 := Int.mul_le_mul_of_nonneg_left h2 (show 0 ≤ c by omega)
      have h4 : (n : Int) * c = c * n := Int.mul_comm _ _
      omega
    · intro h
      have h4 : (n : Int) * c = c * n := Int.mul_comm _ _
      have h2 : (n : Int) ≤ q := by
        refine Int.not_lt.mp fun z => ?_
        have h3 := Int.mul_le_mul_of_nonneg_left (show q + 1 ≤ (n : Int) by omega) (show 0 ≤ c by omega)
        rw [Int.mul_add, Int.mul_one] at h3
        omega
      omega
  · rw [if_neg hij]
    have : 0 ≤ (n : Int) * c := Int.mul_nonneg (by omega) (by omega)
    constructor
    · intro h
      have : n < (0 : Int).toNat := h
      exact absurd this (Nat.not_lt_zero _)
    · intro h
      omega
/-- a comprehension over such a range -/
theorem lc_rangeC {lo c : Int} {n : Nat} {g : TG} {tt : TT} {te : TE} {vs : List Nat} {σ : L2.St} {H1 : Hp} {D : Addr} {Qd : Hp → Prop} (Pv : Nat → Hp → Prop) (h0 : Pv 0 (upd H1 D (.lst [])))
    (hs : ∀ i H, i < n → Pv i H → g (.int (lo + (i : Nat) * c)) (wipe σ vs) H fun σ2 H2 => wipe σ2 vs = wipe σ vs ∧ tt σ2 H2 fun b H3 =>
      if b = true then te σ2 H3 fun y H4 => ∃ acc, H4 D = some (.lst acc) ∧ acc.length < sizeLine ∧ Pv (i + 1) (upd H4 D (.lst (acc ++ [y]))) else Pv (i + 1) H3) (hd : ∀ H, Pv n H → Qd H) :
    ∃ W : Nat → Nat → Hp → Prop, (∃ m, W 0 m (upd H1 D (.lst []))) ∧ ∀ i m H, W i m H →
      ((Itc lo c n).stop i H ∧ Qd H) ∨ ((Itc lo c n).go i H ∧ ∃ Nx : Hp → Prop, (∀ H', Nx H' → ∃ m', m' < m ∧ W (i + 1) m' H') ∧ ∀ x H', (Itc lo c n).yld i H x H' → g x (wipe σ vs) H' fun σ2 H2 => wipe σ2 vs = wipe σ vs ∧ tt σ2 H2 fun b H3 =>
        if b = true then te σ2 H3 fun y H4 => ∃ acc, H4 D = some (.lst acc) ∧ acc.length < sizeLine ∧ Nx (upd H4 D (.lst (acc ++ [y]))) else Nx H3) := by
  refine ⟨fun i m H => m = n - i ∧ i ≤ n ∧ Pv i H, ⟨n, by simp, Nat.zero_le _, h0⟩, ?_⟩
  rintro i m H ⟨rfl, hi, p⟩
  by_cases hlt : i < n
  · refine .inr ⟨hlt, Pv (i + 1), fun H' p' => ⟨n - (i + 1), by omega, rfl, hlt, p'⟩, fun x H' y => ?_⟩
    obtain ⟨e, y⟩ := y
    subst e y
    exact hs i _ hlt p
  · have e : i = n := by omega
    subst e
    exact .inl ⟨Nat.le_refl _, hd H p⟩
end Ex

set_option Elab.async false
set_option linter.all false
/-! The mathematics of maximal regions: sizes that divide each other, a range from lo to hi. -/
namespace M16
structure Ch (s : Nat → Int) (m : Nat) : Prop where
  m1 : 1 ≤ m
  one : s 0 = 1
  pos : ∀ k, k < m → 1 ≤ s k
  dv : ∀ k, k + 1 < m → s k ∣ s (k + 1)
theorem Ch.dvd {s : Nat → Int} {m : Nat} (c : Ch s m) {j : Nat} : ∀ {k : Nat}, j ≤ k → k < m → s j ∣ s k
  | 0, h, _ => by
    rw [show j = 0 by omega]
    exact Int.dvd_refl _
  | k + 1, h, hk => by
    by_cases e : j = k + 1
    · rw [e]
      exact Int.dvd_refl _
    · exact Int.dvd_trans (Ch.dvd c (show j ≤ k by omega) (by omega)) (c.dv k hk)
theorem gap {z q e : Int} (h1 : z ∣ q) (h2 : z ∣ e) (h : q < e) : q + z ≤ e := by
  have := Int.le_of_dvd (by omega) (Int.dvd_sub h2 h1)
  omega
theorem mod0 {z x : Int} (h : z ∣ x) : x % z = 0 := Int.emod_eq_zero_of_dvd h
theorem dvd0 {z x : Int} (h : x % z = 0) : z ∣ x := Int.dvd_of_emod_eq_zero h
theorem fl_dvd (z x : Int) : z ∣ x - x % z := ⟨x / z, by have := Int.mul_ediv_add_emod x z; omega⟩
theorem fl_le {z : Int} (x : Int) (hz : 1 ≤ z) : x - x % z ≤ x := by
  have := Int.emod_nonneg x (show z ≠ 0 by omega)
  omega
theorem fl_lt {z : Int} (x : Int) (hz : 1 ≤ z) : x < x - x % z + z := by
  have := Int.emod_lt_of_pos x (show 0 < z by omega)
  omega
theorem fl_eq {z q x : Int} (hz : 1 ≤ z) (h : z ∣ q) (h1 : q ≤ x) (h2 : x < q + z) : x - x % z = q := by
  have a := fl_le x hz
  have b := fl_lt x hz
  have d := fl_dvd z x
  rcases Int.lt_trichotomy (x - x % z) q with e | e | e
  · have := gap d h e
    omega
  · exact e
  · have := gap h d e
    omega
theorem fl_ge {z q x : Int} (hz : 1 ≤ z) (h : z ∣ q) (h1 : q ≤ x) : q ≤ x - x % z := by
  have b := fl_lt x hz
  refine Int.not_lt.mp fun e => ?_
  have := gap (fl_dvd z x) h e
  omega
/-- the least multiple from a on -/
def nx (z a : Int) : Int := -(-a / z) * z
theorem nx_is (z a : Int) : nx z a = a + (-a) % z := by
  have e := Int.mul_ediv_add_emod (-a) z
  have h : nx z a = -(z * (-a / z)) := by
    unfold nx
    rw [Int.neg_mul, Int.mul_comm]
  omega
theorem nx_dvd (z a : Int) : z ∣ nx z a := ⟨-(-a / z), by unfold nx; rw [Int.mul_comm]⟩
theorem nx_ge {z : Int} (a : Int) (hz : 1 ≤ z) : a ≤ nx z a := by
  have := Int.emod_nonneg (-a) (show z ≠ 0 by omega)
  rw [nx_is]
  omega
theorem nx_lt {z : Int} (a : Int) (hz : 1 ≤ z) : nx z a < a + z := by
  have := Int.emod_lt_of_pos (-a) (show 0 < z by omega)
  rw [nx_is]
  omega
theorem nx_least {z a q : Int} (hz : 1 ≤ z) (h : z ∣ q) (ha : a ≤ q) : nx z a ≤ q := by
  refine Int.not_lt.mp fun e => ?_
  have := gap h (nx_dvd z a) e
  have := nx_lt a hz
  omega
theorem nx_self {z a : Int} (hz : 1 ≤ z) (h : z ∣ a) : nx z a = a := by
  have := nx_ge a hz
  have := nx_least hz h (Int.le_refl a)
  omega
/-- count_regions is positive just if the first region ends by b -/
theorem cnt_pos {z a b : Int} (hz : 1 ≤ z) : 0 < ((b - b % z) - nx z a) / z ↔ nx z a + z ≤ b := by
  have h : (1 : Int) ≤ ((b - b % z) - nx z a) / z ↔ 1 * z ≤ (b - b % z) - nx z a := Int.le_ediv_iff_mul_le (by omega)
  rw [Int.one_mul] at h
  have l := fl_le b hz
  constructor
  · intro k
    have := h.mp (by omega)
    omega
  · intro k
    have d : z ∣ nx z a + z := Int.dvd_add (nx_dvd z a) (Int.dvd_refl z)
    have := fl_ge hz d k
    have := h.mpr (by omega)
    omega
section
variable (s : Nat → Int) (m : Nat) (hi : Int)
def Lies (a : Int) (k : Nat) : Prop := a % s k = 0 ∧ a + s k ≤ hi
instance (a : Int) (k : Nat) : Decidable (Lies s hi a k) := inferInstanceAs (Decidable (a % s k = 0 ∧ a + s k ≤ hi))
/-- the highest level of a region at a, sought from n down -/
def lev (a : Int) : Nat → Nat
  | 0 => 0
  | n + 1 => if Lies s hi a (n + 1) then n + 1 else lev a n
def L (a : Int) : Nat := lev s hi a (m - 1)
def en (a : Int) : Int := if L s m hi a + 1 < m ∧ nx (s (L s m hi a + 1)) a + s (L s m hi a + 1) ≤ hi then nx (s (L s m hi a + 1)) a else hi - hi % s (L s m hi a)
/-- no region that lies in the range goes across a -/
def B (lo a : Int) : Prop := ∀ j, j < m → a % s j ≠ 0 → ¬ (lo ≤ a - a % s j ∧ a - a % s j + s j ≤ hi)
abbrev Run : Type := Nat × Int × Int
def run (a : Int) : Run := (L s m hi a, a, (en s m hi a - a) / s (L s m hi a))
def lay : Nat → Int → List Run
  | 0, _ => []
  | n + 1, a => if a < hi then run s m hi a :: lay n (en s m hi a) else []
def R (a : Int) : List Run := lay s m hi (hi - a).toNat a
end
section
variable {s : Nat → Int} {m : Nat} {hi a lo : Int}
theorem lev_le : ∀ n, lev s hi a n ≤ n
  | 0 => Nat.le_refl _
  | n + 1 => by
    show (if Lies s hi a (n + 1) then n + 1 else lev s hi a n) ≤ n + 1
    split
    · exact Nat.le_refl _
    · have := lev_le n
      omega
theorem lev_lies (h0 : Lies s hi a 0) : ∀ n, Lies s hi a (lev s hi a n)
  | 0 => h0
  | n + 1 => by
    show Lies s hi a (if Lies s hi a (n + 1) then n + 1 else lev s hi a n)
    split
    · assumption
    · exact lev_lies h0 n
theorem lev_max : ∀ n j, j ≤ n → lev s hi a n < j → ¬ Lies s hi a j
  | 0, j, h, h2 => by
    have : lev s hi a 0 = 0 := rfl
    omega
  | n + 1, j, h, h2 => by
    have e : lev s hi a (n + 1) = if Lies s hi a (n + 1) then n + 1 else lev s hi a n := rfl
    by_cases hl : Lies s hi a (n + 1)
    · rw [e, if_pos hl] at h2
      omega
    · rw [e, if_neg hl] at h2
      by_cases ej : j = n + 1
      · rw [ej]
        exact hl
      · exact lev_max n j (by omega) h2
theorem lies0 (c : Ch s m) (h : a < hi) : Lies s hi a 0 := by
  unfold Lies
  rw [c.one]
  exact ⟨Int.emod_one a, by omega⟩
theorem L_lt (c : Ch s m) : L s m hi a < m := by
  have := lev_le (s := s) (hi := hi) (a := a) (m - 1)
  have := c.m1
  show lev s hi a (m - 1) < m
  omega
theorem L_lies (c : Ch s m) (h : a < hi) : Lies s hi a (L s m hi a) := lev_lies (lies0 c h) _
theorem L_max (c : Ch s m) {j : Nat} (hj : j < m) (h : L s m hi a < j) : ¬ Lies s hi a j := lev_max (m - 1) j (by omega) h
theorem lies_down (c : Ch s m) {j k : Nat} (h : j ≤ k) (hk : k < m) (x : Lies s hi a k) : Lies s hi a j := by
  have d := c.dvd h hk
  have p := c.pos k hk
  have l := Int.le_of_dvd (by omega) d
  exact ⟨mod0 (Int.dvd_trans d (dvd0 x.1)), by have := x.2; omega⟩
theorem en1 (c1 : L s m hi a + 1 < m ∧ nx (s (L s m hi a + 1)) a + s (L s m hi a + 1) ≤ hi) : en s m hi a = nx (s (L s m hi a + 1)) a := if_pos c1
theorem en2 (c2 : ¬ (L s m hi a + 1 < m ∧ nx (s (L s m hi a + 1)) a + s (L s m hi a + 1) ≤ hi)) : en s m hi a = hi - hi % s (L s m hi a) := if_neg c2
theorem en_gt (c : Ch s m) (h : a < hi) : a < en s m hi a := by
  have hl := L_lies c h
  have hm := L_lt (a := a) (hi := hi) c
  by_cases c1 : L s m hi a + 1 < m ∧ nx (s (L s m hi a + 1)) a + s (L s m hi a + 1) ≤ hi
  · rw [en1 c1]
    have z := c.pos _ c1.1
    have g := nx_ge a z
    refine Int.not_le.mp fun hle => ?_
    have e : a = nx (s (L s m hi a + 1)) a := by omega
    refine L_max c c1.1 (Nat.lt_succ_self _) ⟨mod0 ?_, ?_⟩
    · have d := nx_dvd (s (L s m hi a + 1)) a
      rw [← e] at d
      exact d
    · have := c1.2
      rw [← e] at this
      exact this
  · rw [en2 c1]
    have z := c.pos _ hm
    have := fl_ge (x := hi) z (Int.dvd_add (dvd0 hl.1) (Int.dvd_refl _)) hl.2
    omega
theorem en_le (c : Ch s m) : en s m hi a ≤ hi := by
  by_cases c1 : L s m hi a + 1 < m ∧ nx (s (L s m hi a + 1)) a + s (L s m hi a + 1) ≤ hi
  · rw [en1 c1]
    have := c.pos _ c1.1
    have := c1.2
    omega
  · rw [en2 c1]
    exact fl_le hi (c.pos _ (L_lt c))
theorem en_dvd (c : Ch s m) : s (L s m hi a) ∣ en s m hi a := by
  by_cases c1 : L s m hi a + 1 < m ∧ nx (s (L s m hi a + 1)) a + s (L s m hi a + 1) ≤ hi
  · rw [en1 c1]
    exact Int.dvd_trans (c.dv _ c1.1) (nx_dvd _ _)
  · rw [en2 c1]
    exact fl_dvd _ _
/-- one way up, the other down -/
theorem up (c : Ch s m) (c1 : L s m hi a + 1 < m ∧ nx (s (L s m hi a + 1)) a + s (L s m hi a + 1) ≤ hi) : en s m hi a < hi ∧ L s m hi a < L s m hi (en s m hi a) := by
  have z := c.pos _ c1.1
  have e := en1 c1
  have h2 := c1.2
  rw [← e] at h2
  refine ⟨by omega, Nat.lt_of_not_le fun hle => ?_⟩
  refine L_max (a := en s m hi a) c c1.1 (by omega) ⟨mod0 ?_, h2⟩
  rw [e]
  exact nx_dvd _ _
def NoHi (s : Nat → Int) (m : Nat) (hi a : Int) : Prop := ¬ (L s m hi a + 1 < m ∧ nx (s (L s m hi a + 1)) a + s (L s m hi a + 1) ≤ hi)
theorem down (c : Ch s m) (c2 : NoHi s m hi a) (h : en s m hi a < hi) : L s m hi (en s m hi a) < L s m hi a ∧ NoHi s m hi (en s m hi a) := by
  have e := en2 c2
  have hm := L_lt (a := a) (hi := hi) c
  have z := c.pos _ hm
  have l := fl_lt hi z
  have dk : s (L s m hi a) ∣ en s m hi a := en_dvd c
  have lt : L s m hi (en s m hi a) < L s m hi a := Nat.lt_of_not_le fun hle => by
    have x := lies_down c hle (L_lt c) (L_lies c h)
    have := x.2
    omega
  refine ⟨lt, fun c1 => ?_⟩
  have d := Int.dvd_trans (c.dvd (show L s m hi (en s m hi a) + 1 ≤ L s m hi a by omega) hm) dk
  have n := nx_self (c.pos _ c1.1) d
  have k := c1.2
  rw [n] at k
  exact L_max (a := en s m hi a) c c1.1 (Nat.lt_succ_self _) ⟨mod0 d, k⟩
theorem other (c : Ch s m) (h : en s m hi a < hi) : L s m hi a ≠ L s m hi (en s m hi a) := by
  by_cases c1 : L s m hi a + 1 < m ∧ nx (s (L s m hi a + 1)) a + s (L s m hi a + 1) ≤ hi
  · have := (up c c1).2
    omega
  · have := (down c c1 h).1
    omega
theorem B_lo (c : Ch s m) : B s m hi lo lo := fun j hj n h => by
  have := Int.emod_nonneg lo (show s j ≠ 0 by have := c.pos j hj; omega)
  omega
theorem B_next (c : Ch s m) (h : a < hi) (b : B s m hi lo a) : B s m hi lo (en s m hi a) := fun j hj n ⟨h1, h2⟩ => by
  have hm := L_lt (a := a) (hi := hi) c
  have zj := c.pos j hj
  have q0 := fl_dvd (s j) (en s m hi a)
  have q1 := fl_le (en s m hi a) zj
  have q2 := fl_lt (en s m hi a) zj
  have gt := en_gt c h
  have nq : en s m hi a - en s m hi a % s j < en s m hi a := by
    have := Int.emod_nonneg (en s m hi a) (show s j ≠ 0 by omega)
    omega
  generalize en s m hi a - en s m hi a % s j = q at *
  have hk : L s m hi a < j := Nat.lt_of_not_le fun hle => n (mod0 (Int.dvd_trans (c.dvd hle hm) (en_dvd c)))
  have k1 : L s m hi a + 1 < m := by omega
  have z1 := c.pos _ k1
  have dq : s (L s m hi a + 1) ∣ q := Int.dvd_trans (c.dvd (by omega) hj) q0
  have lz : s (L s m hi a + 1) ≤ s j := Int.le_of_dvd (by omega) (c.dvd (by omega) hj)
  have qa : q < a := by
    by_cases c1 : L s m hi a + 1 < m ∧ nx (s (L s m hi a + 1)) a + s (L s m hi a + 1) ≤ hi
    · have e := en1 c1
      have l := nx_lt a z1
      have d := nx_dvd (s (L s m hi a + 1)) a
      rw [← e] at l d
      have := gap dq d nq
      omega
    · refine Int.not_le.mp fun ha => c1 ⟨k1, ?_⟩
      have := nx_least z1 dq ha
      omega
  have f := fl_eq zj q0 (show q ≤ a by omega) (by omega)
  refine b j hj ?_ ?_
  · omega
  · rw [f]
    exact ⟨h1, h2⟩
/-- no higher region around an address of the run lies in the range -/
theorem no_high (c : Ch s m) (h : a < hi) (b : B s m hi lo a) (k1 : L s m hi a + 1 < m) {x : Int} (x1 : a ≤ x) (x2 : x < en s m hi a) :
    ¬ (lo ≤ x - x % s (L s m hi a + 1) ∧ x - x % s (L s m hi a + 1) + s (L s m hi a + 1) ≤ hi) := fun ⟨h1, h2⟩ => by
  have z1 := c.pos _ k1
  have q0 := fl_dvd (s (L s m hi a + 1)) x
  have q1 := fl_le x z1
  have q2 := fl_lt x z1
  generalize x - x % s (L s m hi a + 1) = q at *
  by_cases qa : q < a
  · have f := fl_eq z1 q0 (show q ≤ a by omega) (by omega)
    refine b _ k1 ?_ ?_
    · omega
    · rw [f]
      exact ⟨h1, h2⟩
  · have n := nx_least z1 q0 (show a ≤ q by omega)
    by_cases c1 : L s m hi a + 1 < m ∧ nx (s (L s m hi a + 1)) a + s (L s m hi a + 1) ≤ hi
    · rw [en1 c1] at x2
      omega
    · exact c1 ⟨k1, by omega⟩
theorem top_in (c : Ch s m) (h : a < hi) {x : Int} (x1 : a ≤ x) (x2 : x < en s m hi a) : a ≤ x - x % s (L s m hi a) ∧ x - x % s (L s m hi a) + s (L s m hi a) ≤ en s m hi a := by
  have z := c.pos _ (L_lt (a := a) (hi := hi) c)
  have l := fl_le x z
  refine ⟨fl_ge z (dvd0 (L_lies c h).1) x1, gap (fl_dvd _ _) (en_dvd c) (by omega)⟩
theorem top_max (c : Ch s m) (h : a < hi) (b : B s m hi lo a) {x : Int} (x1 : a ≤ x) (x2 : x < en s m hi a) {j : Nat} (hj : j < m) (h1 : lo ≤ x - x % s j) (h2 : x - x % s j + s j ≤ hi) : j ≤ L s m hi a := by
  refine Nat.le_of_not_lt fun hlt => ?_
  have k1 : L s m hi a + 1 < m := by omega
  have z1 := c.pos _ k1
  have zj := c.pos j hj
  have d := c.dvd (show L s m hi a + 1 ≤ j by omega) hj
  have g1 := fl_ge (x := x) z1 (Int.dvd_trans d (fl_dvd (s j) x)) (fl_le x zj)
  have g2 := gap (fl_dvd (s (L s m hi a + 1)) x) (Int.dvd_add (Int.dvd_trans d (fl_dvd (s j) x)) d) (show x - x % s (L s m hi a + 1) < x - x % s j + s j by
    have := fl_le x z1
    have := fl_lt x zj
    omega)
  exact no_high c h b k1 x1 x2 ⟨by omega, by omega⟩
theorem lay_eq (c : Ch s m) : ∀ n n' a, (hi - a).toNat ≤ n → (hi - a).toNat ≤ n' → lay s m hi n a = lay s m hi n' a
  | 0, 0, _, _, _ => rfl
  | 0, n' + 1, a, h, _ => by
    show ([] : List Run) = if a < hi then run s m hi a :: lay s m hi n' (en s m hi a) else []
    rw [if_neg (by omega)]
  | n + 1, 0, a, _, h => by
    show (if a < hi then run s m hi a :: lay s m hi n (en s m hi a) else []) = []
    rw [if_neg (by omega)]
  | n + 1, n' + 1, a, h, h' => by
    show (if a < hi then run s m hi a :: lay s m hi n (en s m hi a) else []) = if a < hi then run s m hi a :: lay s m hi n' (en s m hi a) else []
    by_cases e : a < hi
    · have g := en_gt c e
      rw [if_pos e, if_pos e, lay_eq c n n' (en s m hi a) (by omega) (by omega)]
    · rw [if_neg e, if_neg e]
theorem R_end (h : ¬ a < hi) : R s m hi a = [] := by
  unfold R
  rw [show (hi - a).toNat = 0 by omega]
  rfl
theorem R_step (c : Ch s m) (h : a < hi) : R s m hi a = run s m hi a :: R s m hi (en s m hi a) := by
  unfold R
  obtain ⟨n, e⟩ : ∃ n, (hi - a).toNat = n + 1 := ⟨(hi - a).toNat - 1, by omega⟩
  rw [e]
  show (if a < hi then run s m hi a :: lay s m hi n (en s m hi a) else []) = _
  have g := en_gt c h
  rw [if_pos h, lay_eq c n (hi - en s m hi a).toNat (en s m hi a) (by omega) (Nat.le_refl _)]
theorem R_down (c : Ch s m) : ∀ (n : Nat) (a : Int), (hi - a).toNat ≤ n → a < hi → NoHi s m hi a → (R s m hi a).length ≤ L s m hi a + 1
  | 0, a, h, h2, _ => by omega
  | n + 1, a, h, h2, c2 => by
    rw [R_step c h2, List.length_cons]
    by_cases e : en s m hi a < hi
    · obtain ⟨d1, d2⟩ := down c c2 e
      have g := en_gt c h2
      have := R_down c n (en s m hi a) (by omega) e d2
      omega
    · rw [R_end e]
      simp
theorem R_len (c : Ch s m) : ∀ (n : Nat) (a : Int), (hi - a).toNat ≤ n → a < hi → (R s m hi a).length + L s m hi a ≤ 2 * m
  | 0, a, h, h2 => by omega
  | n + 1, a, h, h2 => by
    have l := L_lt (a := a) (hi := hi) c
    by_cases c1 : L s m hi a + 1 < m ∧ nx (s (L s m hi a + 1)) a + s (L s m hi a + 1) ≤ hi
    · obtain ⟨u1, u2⟩ := up c c1
      have g := en_gt c h2
      have := R_len c n (en s m hi a) (by omega) u1
      rw [R_step c h2, List.length_cons]
      omega
    · have := R_down c (n + 1) a h h2 c1
      omega
theorem R_short (c : Ch s m) (h8 : m ≤ 8) : (R s m hi a).length ≤ 16 := by
  by_cases h : a < hi
  · have := R_len c _ a (Nat.le_refl _) h
    omega
  · rw [R_end h]
    simp
/-- a place between two runs -/
structure Mid (s : Nat → Int) (m : Nat) (hi lo a : Int) (done : List Run) : Prop where
  eq : R s m hi lo = done ++ R s m hi a
  lo_le : lo ≤ a
  le_hi : a ≤ hi
  bd : B s m hi lo a
  last : a < hi → ∀ t, done.getLast? = some t → t.1 ≠ L s m hi a
theorem mid0 (c : Ch s m) (h : lo ≤ hi) : Mid s m hi lo lo [] := ⟨rfl, Int.le_refl _, h, B_lo c, fun _ t e => by cases e⟩
theorem Mid.next {done : List Run} (c : Ch s m) (M : Mid s m hi lo a done) (h : a < hi) : Mid s m hi lo (en s m hi a) (done ++ [run s m hi a]) := by
  have g := en_gt c h
  have l := M.lo_le
  refine ⟨?_, by omega, en_le c, B_next c h M.bd, fun h2 t e => ?_⟩
  · rw [M.eq, R_step c h, List.append_assoc]
    rfl
  · rw [List.getLast?_concat] at e
    cases e
    exact other c h2
/-- the number of cells of a run -/
theorem run_cells (c : Ch s m) (h : a < hi) : (en s m hi a - a) / s (L s m hi a) * s (L s m hi a) = en s m hi a - a := Int.ediv_mul_cancel (Int.dvd_sub (en_dvd c) (dvd0 (L_lies c h).1))
theorem run_one (c : Ch s m) (h : a < hi) : 1 ≤ (en s m hi a - a) / s (L s m hi a) := by
  have z := c.pos _ (L_lt (a := a) (hi := hi) c)
  have g := gap (dvd0 (L_lies c h).1) (en_dvd c) (en_gt c h)
  exact (Int.le_ediv_iff_mul_le (by omega)).mpr (by omega)
/-- multiples of z below y, from 0 on -/
def cd (z y : Int) : Int := (y + z - 1) / z
theorem cd_zero {z : Int} (hz : 1 ≤ z) : cd z 0 = 0 := by
  unfold cd
  exact Int.ediv_eq_zero_of_lt (by omega) (by omega)
theorem cd_mul {z y : Int} (hz : 1 ≤ z) (h : z ∣ y) : cd z y = y / z := by
  obtain ⟨q, rfl⟩ := h
  unfold cd
  rw [show z * q + z - 1 = (z - 1) + z * q by omega, Int.add_mul_ediv_left _ _ (by omega), Int.mul_ediv_cancel_left _ (by omega), Int.ediv_eq_zero_of_lt (by omega) (by omega)]
  omega
theorem cd_next {z y : Int} (hz : 1 ≤ z) (h : z ∣ y) : cd z (y + 1) = y / z + 1 := by
  obtain ⟨q, rfl⟩ := h
  unfold cd
  rw [show z * q + 1 + z - 1 = z * (q + 1) by rw [Int.mul_add]; omega, Int.mul_ediv_cancel_left _ (by omega), Int.mul_ediv_cancel_left _ (by omega)]
theorem cd_stay {z y : Int} (hz : 1 ≤ z) (h : ¬ z ∣ y) : cd z (y + 1) = cd z y := by
  unfold cd
  have e := Int.mul_ediv_add_emod y z
  have e1 := Int.emod_nonneg y (show z ≠ 0 by omega)
  have e2 := Int.emod_lt_of_pos y (show 0 < z by omega)
  have n : y % z ≠ 0 := fun q => h (dvd0 q)
  have a1 : (y + 1 + z - 1) / z = y / z + 1 := by
    rw [show y + 1 + z - 1 = (y % z) + z * (y / z + 1) by rw [Int.mul_add]; omega, Int.add_mul_ediv_left _ _ (by omega), Int.ediv_eq_zero_of_lt e1 e2]
    omega
  have a2 : (y + z - 1) / z = y / z + 1 := by
    rw [show y + z - 1 = (y % z - 1) + z * (y / z + 1) by rw [Int.mul_add]; omega, Int.add_mul_ediv_left _ _ (by omega), Int.ediv_eq_zero_of_lt (by omega) (by omega)]
    omega
  rw [a1, a2]
end
end M16

set_option Elab.async false
set_option linter.all false
set_option maxRecDepth 100000
set_option maxHeartbeats 4000000
namespace K34
open PySem PySem.Spec PyProof.Rows L2 Gu Ex
theorem same_upd {H : Hp} {p : Addr} {o : HO} (h : H p = none) : Same H (upd H p o) := fun b x e => by
  rw [upd_ne (ne_of_none e h)]
  exact e
theorem SzAt.same {C p : Addr} {H H' : Hp} {ns : List Int} (h : SzAt C H p ns) (s : Same H H') : SzAt C H' p ns := by
  obtain ⟨dx, l, a, b⟩ := h
  exact ⟨dx, l, s _ _ a, s _ _ b⟩
def sz (ns : List Int) (k : Nat) : Int := ns.getD k 0
theorem sz_at {ns : List Int} {k : Nat} (h : k < ns.length) : ns[k]? = some (sz ns k) := by
  unfold sz
  rw [List.getD_eq_getElem?_getD, List.getElem?_eq_getElem h]
  rfl
theorem chain {ns : List Int} (g : Good ns) : M16.Ch (sz ns) ns.length := by
  refine ⟨g.len.1, ?_, fun k h => (g.rng k _ (sz_at h)).1, fun k h => Int.dvd_of_emod_eq_zero (g.up k _ _ (sz_at (by omega)) (sz_at h)).2⟩
  have := (sz_at (ns := ns) (k := 0) (by have := g.len.1; omega)).symm.trans g.one
  exact Option.some.inj this
theorem sz_le {ns : List Int} (g : Good ns) {k : Nat} (h : k < ns.length) : sz ns k ≤ 1000000000 := (g.rng k _ (sz_at h)).2
theorem at_sz {ns : List Int} {k : Nat} (h : k < ns.length) : atI (ns.map V.int) (k : Int) = some (.int (sz ns k)) := at_map (sz_at h)
/-- objects at these addresses, told by f -/
inductive Refs {α : Type} (f : α → List V) (H : Hp) : List Addr → List α → Prop
  | nil : Refs f H [] []
  | cons {p : Addr} {ps : List Addr} {t : α} {ts : List α} : H p = some (.tup (f t)) → Refs f H ps ts → Refs f H (p :: ps) (t :: ts)
section
variable {α : Type} {f : α → List V} {H H' : Hp} {ps qs : List Addr} {ts us : List α}
theorem Refs.mono (h : Refs f H ps ts) (k : ∀ p xs, H p = some (.tup xs) → H' p = some (.tup xs)) : Refs f H' ps ts := by
  induction h with
  | nil => exact .nil
  | cons a _ ih => exact .cons (k _ _ a) ih
theorem Refs.same (h : Refs f H ps ts) (k : Same H H') : Refs f H' ps ts := h.mono fun p xs e => k p _ e
theorem Refs.app (h : Refs f H ps ts) (h2 : Refs f H qs us) : Refs f H (ps ++ qs) (ts ++ us) := by
  induction h with
  | nil => exact h2
  | cons b _ ih => exact .cons b ih
theorem Refs.one {p : Addr} {t : α} (h : H p = some (.tup (f t))) : Refs f H [p] [t] := .cons h .nil
theorem Refs.len (h : Refs f H ps ts) : ps.length = ts.length := by
  induction h with
  | nil => rfl
  | cons _ _ ih => rw [List.length_cons, List.length_cons, ih]
theorem Refs.get (h : Refs f H ps ts) : ∀ {i : Nat} {p : Addr}, ps[i]? = some p → ∃ t, ts[i]? = some t ∧ H p = some (.tup (f t)) := by
  induction h with
  | nil => intro i p e; cases e
  | cons a _ ih =>
    intro i p e
    cases i with
    | zero =>
      cases e
      exact ⟨_, rfl, a⟩
    | succ i => exact ih e
theorem Refs.at_ (h : Refs f H ps ts) {i : Nat} {t : α} (ht : ts[i]? = some t) : ∃ p, ps[i]? = some p ∧ H p = some (.tup (f t)) := by
  have hi : i < ts.length := (List.getElem?_eq_some_iff.mp ht).1
  have hi2 : i < ps.length := by rw [h.len]; exact hi
  obtain ⟨u, e1, e2⟩ := h.get (List.getElem?_eq_getElem hi2)
  rw [ht] at e1
  cases e1
  exact ⟨_, List.getElem?_eq_getElem hi2, e2⟩
theorem Refs.take (h : Refs f H ps ts) : ∀ n, Refs f H (ps.take n) (ts.take n) := by
  induction h with
  | nil => intro n; simp; exact .nil
  | cons a _ ih =>
    intro n
    cases n with
    | zero => exact .nil
    | succ n => exact .cons a (ih n)
theorem Refs.drop (h : Refs f H ps ts) : ∀ n, Refs f H (ps.drop n) (ts.drop n) := by
  induction h with
  | nil => intro n; simp; exact .nil
  | cons a b ih =>
    intro n
    cases n with
    | zero => exact .cons a b
    | succ n => exact ih n
theorem Refs.map_at {i : Nat} {p : Addr} (h : ps[i]? = some p) : atI (ps.map V.ref) (i : Int) = some (.ref p) := atI_nat (by rw [List.getElem?_map, h]; rfl)
end
section
variable {P : Program} {w : World} {K : PySem.W.Frag} {mg : Str → Option Value} {base : Heap} {f : Addr} {fd : FuncData}
def spCells : Sp := fun vs H Q _ => ∃ i : Int, vs = [.int i] ∧ 1 ≤ i ∧ i ≤ 1000000000000 ∧ Q (.bl true) H
theorem sc_is_cells : FnScope ["value"] ["value"] (defScope (top 14)) := ⟨rfl, rfl, rfl, by decide +kernel, rfl, by decide +kernel, by decide +kernel⟩
theorem ok_is_cells (T : Tx K mg) (D_is_integer : Df P w K mg base 1 "is_integer" ["value"] spInt) (F : FnP K "is_cells" "is_cells" (top 14) f fd) : FnOk P w K mg base CX0 2 f fd ["value"] spCells := by
  refine F.ok sc_is_cells (fun vs H Q E h => ?_) (fun cdv A outer s H vs Q E hr h => ⟨_, PSs.nox (pss_one (ps_ret (pe_and (pcall D_is_integer hr (pa_cons (pv 0) pa_nil)) (pe_one (pe_chain op_le op_le pe_int (pv 0) (ClX.pe_cval (pe_glob (v := .ref _) rfl T.g_Sizes rfl))))))), ?_⟩)
  · obtain ⟨i, rfl, _⟩ := h
    rfl
  · obtain ⟨i, rfl, h1, h2, q⟩ := h
    obtain ⟨u, cC⟩ := T.cC
    refine ⟨_, rfl, _, rfl, true, rfl, iteT ⟨_, rfl, _, _, rfl, rfl, _, rfl, ifT (decide_eq_true h1) ⟨_, _, _, _, rfl, T.rd, cC, _, _, rfl, rfl, ?_⟩⟩⟩
    have e : decide (i ≤ 1000000000000) = true := decide_eq_true h2
    show Q (.bl (decide (i ≤ 1000000000000))) H
    rw [e]
    exact q
def spCellsC : Sp := fun vs H Q _ => ∃ i : Int, vs = [.int i] ∧ 1 ≤ i ∧ i ≤ 1000000000000 ∧ Q .non H
theorem sc_check_cells : FnScope ["value"] ["value"] (defScope (top 15)) := ⟨rfl, rfl, rfl, by decide +kernel, rfl, by decide +kernel, by decide +kernel⟩
theorem ok_check_cells (T : Tx K mg) (D_is_cells : Df P w K mg base 2 "is_cells" ["value"] spCells) (F : FnP K "check_cells" "check_cells" (top 15) f fd) : FnOk P w K mg base CX0 3 f fd ["value"] spCellsC := by
  refine F.ok sc_check_cells (fun vs H Q E h => ?_) (fun cdv A outer s H vs Q E hr h => ⟨_, PSs.nox (pss_one (ps_if (pt_not (pt_val (pcall D_is_cells hr (pa_cons (pv 0) pa_nil)))) (pss_one ps_never) pss_nil)), ?_⟩)
  · obtain ⟨i, rfl, _⟩ := h
    rfl
  · obtain ⟨i, rfl, h1, h2, q⟩ := h
    exact ⟨_, rfl, _, rfl, h1, h2, true, rfl, iteF q⟩
def spWhole (K : PySem.W.Frag) : Sp := fun vs H Q _ => ∃ (p : Addr) (ns : List Int) (i : Nat) (x c : Int), vs = [.ref p, .int c, .int i] ∧ SzAt (He.ga K "Sizes") H p ns ∧ ns[i]? = some x ∧ 1 ≤ x ∧ 1 ≤ c ∧ c ≤ 1000000000000 ∧ Q (.int (c - c % x)) H
def spBelow (K : PySem.W.Frag) : Sp := fun vs H Q _ => ∃ (p : Addr) (ns : List Int) (i : Nat) (x a e : Int), vs = [.ref p, .int i, .int a, .int e] ∧ SzAt (He.ga K "Sizes") H p ns ∧ ns[i]? = some x ∧ 1 ≤ x ∧ Q (.bl (decide (a % x = 0 ∧ a + x ≤ e))) H
theorem sc_lies_below : FnScope ["sizes", "level", "address", "end", "size"] ["sizes", "level", "address", "end"] (defScope (top 21)) := ⟨rfl, rfl, rfl, by decide +kernel, rfl, by decide +kernel, by decide +kernel⟩
theorem ok_below (T : Tx K mg) (M_size : Mf P w K mg base 5 "Sizes" "size" ["self", "level"] (spSize K)) (F : FnP K "lies_below" "lies_below" (top 21) f fd) : FnOk P w K mg base CX0 6 f fd ["sizes", "level", "address", "end"] (spBelow K) := by
  refine F.ok sc_lies_below (fun vs H Q E h => ?_) (fun cdv A outer s H vs Q E hr h => ⟨_, PSs.nox (pss_cons (ps_set (i := 4) sc_lies_below.nd rfl (by first | exact Or.inl rfl | exact Or.inr rfl) (pmeth M_size hr (pv 0) (pa_cons (pv 1) pa_nil))) (pss_one (ps_ret (pe_and (pe_cmpR op_eq (pe_op op_mod (pv 2) (pv 4)) pe_int (nomark _)) (pe_one (pe_cmpR op_le (pe_op op_add (pv 2) (pv 4)) (pv 3) (nomark _))))))), ?_⟩)
  · obtain ⟨p, ns, i, x, a, e, rfl, _⟩ := h
    rfl
  · obtain ⟨p, ns, i, x, a, e, rfl, hz, hx, x1, q⟩ := h
    obtain ⟨dx, l, h1, h2⟩ := id hz
    refine ⟨_, rfl, p, dx, _, rfl, h1, szF_no l (by decide +kernel), _, rfl, p, ns, i, x, rfl, hz, hx, ?_⟩
    refine ⟨_, rfl, _, rfl, _, _, rfl, rfl, (by show (0 : Int) < x; omega), rfl, _, rfl, ?_⟩
    by_cases hm : a % x = 0
    · refine ifT (vT hm) ⟨_, rfl, _, rfl, _, _, rfl, rfl, _, rfl, _, _, rfl, rfl, ?_⟩
      have e2 : decide (a % x = 0 ∧ a + x ≤ e) = decide (a + x ≤ e) := by
        by_cases z : a + x ≤ e
        · rw [decide_eq_true z, decide_eq_true ⟨hm, z⟩]
        · rw [decide_eq_false z, decide_eq_false fun y => z y.2]
      rw [e2] at q
      exact q
    · have e2 : decide (a % x = 0 ∧ a + x ≤ e) = false := decide_eq_false fun y => hm y.1
      rw [e2] at q
      exact ifF (vF hm) q
/-- a right region -/
def spRegion (K : PySem.W.Frag) : Sp := fun vs H Q _ => ∃ (p : Addr) (ns : List Int) (i : Nat) (n a : Int), vs = [.ref p, .int n, .int i, .int a] ∧ SzAt (He.ga K "Sizes") H p ns ∧ Good ns ∧ i < ns.length ∧ 1 ≤ n ∧ n ≤ 1000000000000 ∧ 0 ≤ a ∧ a % sz ns i = 0 ∧ a + sz ns i ≤ n ∧ Q (.bl true) H
theorem sc_is_region : FnScope ["sizes", "length", "level", "address"] ["sizes", "length", "level", "address"] (defScope (top 22)) := ⟨rfl, rfl, rfl, by decide +kernel, rfl, by decide +kernel, by decide +kernel⟩
theorem ok_is_region (T : Tx K mg) (D_check_cells : Df P w K mg base 3 "check_cells" ["value"] spCellsC) (M_has_level : Mf P w K mg base 3 "Sizes" "has_level" ["self", "level"] (spHas K)) (D_is_address : Df P w K mg base 2 "is_address" ["value"] spAddr)
    (D_lies_below : Df P w K mg base 6 "lies_below" ["sizes", "level", "address", "end"] (spBelow K)) (F : FnP K "is_region" "is_region" (top 22) f fd) : FnOk P w K mg base CX0 7 f fd ["sizes", "length", "level", "address"] (spRegion K) := by
  refine F.ok sc_is_region (fun vs H Q E h => ?_) (fun cdv A outer s H vs Q E hr h => ⟨_, PSs.nox (pss_cons (ps_expr (pcall D_check_cells hr (pa_cons (pv 1) pa_nil))) (pss_one (ps_ret (pe_and (pmeth M_has_level hr (pv 0) (pa_cons (pv 2) pa_nil)) (pe_and (pcall D_is_address hr (pa_cons (pv 3) pa_nil)) (pe_one (pcall D_lies_below hr (pa_cons (pv 0) (pa_cons (pv 2) (pa_cons (pv 3) (pa_cons (pv 1) pa_nil))))))))))), ?_⟩)
  · obtain ⟨p, ns, i, n, a, rfl, _⟩ := h
    rfl
  · obtain ⟨p, ns, i, n, a, rfl, hz, g, hi, n1, n2, a0, a1, a2, q⟩ := h
    obtain ⟨dx, l, h1, h2⟩ := id hz
    refine ⟨_, rfl, n, rfl, n1, n2, ?_⟩
    refine ⟨_, rfl, p, dx, _, rfl, h1, szF_no l (by decide +kernel), _, rfl, p, ns, i, rfl, hz, hi, true, rfl, iteT ⟨_, rfl, a, rfl, a0, true, rfl, iteT ?_⟩⟩
    refine ⟨_, rfl, _, rfl, _, rfl, _, rfl, p, ns, i, _, a, n, rfl, hz, sz_at hi, (chain g).pos i hi, ?_⟩
    rw [decide_eq_true (show a % sz ns i = 0 ∧ a + sz ns i ≤ n from ⟨a1, a2⟩)]
    exact q
end
end K34

set_option Elab.async false
set_option linter.all false
set_option maxRecDepth 100000
set_option maxHeartbeats 4000000
namespace K34
open PySem PySem.Spec PyProof.Rows L2 Gu Ex
def layF (zp : Addr) (n fr : Int) (bl : Addr) : List (Str × V) := [("size_table", .ref zp), ("cell_count", .int n), ("free_count", .int fr), ("block_list", .ref bl)]
section
variable (zp bl : Addr) (n fr : Int)
theorem lay_st : (layF zp n fr bl).lookup ("size_table" : Str) = some (.ref zp) := by simp [layF, List.lookup]
theorem lay_cc : (layF zp n fr bl).lookup ("cell_count" : Str) = some (.int n) := by
  have e : (("cell_count" : Str) == ("size_table" : Str)) = false := by decide +kernel
  simp [layF, List.lookup, e]
theorem lay_fc : (layF zp n fr bl).lookup ("free_count" : Str) = some (.int fr) := by
  have e : (("free_count" : Str) == ("size_table" : Str)) = false := by decide +kernel
  have e2 : (("free_count" : Str) == ("cell_count" : Str)) = false := by decide +kernel
  simp [layF, List.lookup, e, e2]
theorem lay_bl : (layF zp n fr bl).lookup ("block_list" : Str) = some (.ref bl) := by
  have e : (("block_list" : Str) == ("size_table" : Str)) = false := by decide +kernel
  have e2 : (("block_list" : Str) == ("cell_count" : Str)) = false := by decide +kernel
  have e3 : (("block_list" : Str) == ("free_count" : Str)) = false := by decide +kernel
  simp [layF, List.lookup, e, e2, e3]
theorem lay_no {m : Str} (h1 : (m == ("size_table" : Str)) = false) (h2 : (m == ("cell_count" : Str)) = false) (h3 : (m == ("free_count" : Str)) = false) (h4 : (m == ("block_list" : Str)) = false) : (layF zp n fr bl).lookup m = none := by
  simp [layF, List.lookup, h1, h2, h3, h4]
theorem lay_put (z : Int) : putF "free_count" (.int z) (layF zp n fr bl) = layF zp n z bl := by
  have e : (("size_table" : Str) = ("free_count" : Str)) = False := by
    simp only [eq_iff_iff, iff_false]
    decide +kernel
  have e2 : (("cell_count" : Str) = ("free_count" : Str)) = False := by
    simp only [eq_iff_iff, iff_false]
    decide +kernel
  simp [layF, putF, e, e2]
end
/-- a block: address, level, is it pinned -/
abbrev Blk : Type := Int × Nat × Bool
def blkV (b : Blk) : List V := [.int b.1, .int (b.2.1 : Nat), .bl b.2.2]
def bEnd (ns : List Int) (b : Blk) : Int := b.1 + sz ns b.2.1
structure Wf (ns : List Int) (n : Int) (bs : List Blk) : Prop where
  ok : ∀ b ∈ bs, b.2.1 < ns.length ∧ 0 ≤ b.1 ∧ sz ns b.2.1 ∣ b.1 ∧ bEnd ns b ≤ n
  so : bs.Pairwise fun b c => bEnd ns b ≤ c.1
def tot (ns : List Int) (bs : List Blk) : Int := (bs.map fun b => sz ns b.2.1).sum
structure Ly (K : PySem.W.Frag) (H : Hp) (y zp bl dx : Addr) (ps : List Addr) (ns : List Int) (n : Int) (bs : List Blk) : Prop where
  at_ : H y = some (.ins (He.ga K "Layout") dx (layF zp n (n - tot ns bs) bl))
  szs : SzAt (He.ga K "Sizes") H zp ns
  lst : H bl = some (.lst (ps.map V.ref))
  rf : Refs blkV H ps bs
  wf : Wf ns n bs
  gd : Good ns
  n1 : 1 ≤ n
  n2 : n ≤ 1000000000000
  ln : bs.length ≤ 1000
  ap : ∃ dz l, H zp = some (.ins (He.ga K "Sizes") dz (szF l)) ∧ H l = some (.lst (ns.map V.int)) ∧ l ≠ bl
section
variable {K : PySem.W.Frag} {H H' : Hp} {y zp bl dx : Addr} {ps : List Addr} {ns : List Int} {n : Int} {bs : List Blk}
theorem Ly.same (h : Ly K H y zp bl dx ps ns n bs) (s : Same H H') : Ly K H' y zp bl dx ps ns n bs := ⟨s _ _ h.at_, h.szs.same s, s _ _ h.lst, h.rf.same s, h.wf, h.gd, h.n1, h.n2, h.ln, h.ap.elim fun dz z => z.elim fun l z => ⟨dz, l, s _ _ z.1, s _ _ z.2.1, z.2.2⟩⟩
theorem Wf.pos (w : Wf ns n bs) (g : Good ns) {b : Blk} (h : b ∈ bs) : 1 ≤ sz ns b.2.1 := (chain g).pos _ (w.ok b h).1
/-- the addresses rise -/
theorem Wf.lt (w : Wf ns n bs) (g : Good ns) {i j : Nat} {b c : Blk} (hi : bs[i]? = some b) (hj : bs[j]? = some c) (h : i < j) : bEnd ns b ≤ c.1 ∧ b.1 < c.1 := by
  obtain ⟨h1, e1⟩ := List.getElem?_eq_some_iff.mp hi
  obtain ⟨h2, e2⟩ := List.getElem?_eq_some_iff.mp hj
  have p := List.pairwise_iff_getElem.mp w.so i j h1 h2 h
  rw [e1, e2] at p
  have z := w.pos g (List.mem_of_getElem? hi)
  unfold bEnd at p
  exact ⟨p, by omega⟩
/-- the layout's own objects lie apart from the sizes -/
theorem Ly.far (L : Ly K H y zp bl dx ps ns n bs) : ∃ dz l, H zp = some (.ins (He.ga K "Sizes") dz (szF l)) ∧ H l = some (.lst (ns.map V.int)) ∧ zp ≠ y ∧ zp ≠ bl ∧ l ≠ bl ∧ l ≠ y ∧ y ≠ bl := by
  obtain ⟨dz, l, z1, z2, nb⟩ := L.ap
  refine ⟨dz, l, z1, z2, fun e => ?_, fun e => ?_, nb, fun e => ?_, fun e => ?_⟩
  · rw [e, L.at_] at z1
    have z3 := congrArg List.length (HO.ins.inj (Option.some.inj z1)).2.2
    cases z3
  · rw [e, L.lst] at z1
    cases z1
  · rw [e, L.at_] at z2
    cases z2
  · have a := L.at_
    rw [e, L.lst] at a
    cases a
/-- how many blocks start below a -/
def Below (bs : List Blk) (a : Int) (i : Nat) : Prop := i ≤ bs.length ∧ ∀ j b, bs[j]? = some b → (j < i ↔ b.1 < a)
end
section
variable {P : Program} {w : World} {K : PySem.W.Frag} {mg : Str → Option Value} {base : Heap} {f : Addr} {fd : FuncData}
def spNew (K : PySem.W.Frag) : Sp := fun vs H Q _ => ∃ (y zp dx : Addr) (ns : List Int) (n : Int), vs = [.ref y, .ref zp, .int n] ∧ H y = some (.ins (He.ga K "Layout") dx []) ∧ SzAt (He.ga K "Sizes") H zp ns ∧ Good ns ∧ 1 ≤ n ∧ n ≤ 1000000000000 ∧
  ∀ bl H', H bl = none → (∀ c o, c ≠ y → H c = some o → H' c = some o) → Ly K H' y zp bl dx [] ns n [] → Q .non H'
theorem sc_Layout_init : FnScope ["self", "sizes", "length"] ["self", "sizes", "length"] (defScope (inClass (top 38) 0)) := ⟨rfl, rfl, rfl, by decide +kernel, rfl, by decide +kernel, by decide +kernel⟩
theorem ok_new (T : Tx K mg) (D_check_cells : Df P w K mg base 3 "check_cells" ["value"] spCellsC) (F : FnP K "__init__" "Layout.__init__" (inClass (top 38) 0) f fd) : FnOk P w K mg base CX0 4 f fd ["self", "sizes", "length"] (spNew K) := by
  refine F.ok sc_Layout_init (fun vs H Q E h => ?_) (fun cdv A outer s H vs Q E hr h => ⟨_, PSs.nox (pss_cons (ps_expr (pcall D_check_cells hr (pa_cons (pv 2) pa_nil))) (pss_cons (ps_fld (pv 0) (pv 1) rfl) (pss_cons (ps_fld (pv 0) (pv 2) rfl) (pss_cons (ps_fld (pv 0) (pv 2) rfl) (pss_one (ps_fld (pv 0) (pe_lst pa_nil) rfl)))))), ?_⟩)
  · obtain ⟨y, zp, dx, ns, n, rfl, _⟩ := h
    rfl
  · obtain ⟨y, zp, dx, ns, n, rfl, hy, hz, g, n1, n2, q⟩ := h
    have few : ∀ k, k < 10 → k < 1000 := fun k h => by omega
    refine ⟨_, rfl, n, rfl, n1, n2, ?_⟩
    refine ⟨_, rfl, _, rfl, y, _, dx, _, rfl, hy, T.ly, T.nST, (by show 0 < 1000; decide), ?_⟩
    refine ⟨_, rfl, _, rfl, y, _, dx, _, rfl, upd_same, T.ly, T.nCC, (by show 1 < 1000; decide), ?_⟩
    refine ⟨_, rfl, _, rfl, y, _, dx, _, rfl, upd_same, T.ly, T.nFC, (by show 2 < 1000; decide), ?_⟩
    refine ⟨Nat.zero_le _, fun bl hbl => ⟨_, rfl, y, _, dx, _, rfl, (by rw [upd_ne (ne_of_none (o := .ins (He.ga K "Layout") dx (putF "free_count" (.int n) (putF "cell_count" (.int n) (putF "size_table" (.ref zp) []))))  upd_same hbl)]; exact upd_same), T.ly, T.nBL, (by show 3 < 1000; decide), ?_⟩⟩
    have nyb : y ≠ bl := ne_of_none (o := .ins (He.ga K "Layout") dx (putF "free_count" (.int n) (putF "cell_count" (.int n) (putF "size_table" (.ref zp) [])))) upd_same hbl
    have nb : H bl = none := by
      rw [upd_ne nyb.symm, upd_ne nyb.symm, upd_ne nyb.symm] at hbl
      exact hbl
    have keep : ∀ {c : Addr} {o : HO}, c ≠ y → H c = some o → (upd (upd (upd (upd (upd H y (.ins (He.ga K "Layout") dx (putF "size_table" (.ref zp) []))) y (.ins (He.ga K "Layout") dx (putF "cell_count" (.int n) (putF "size_table" (.ref zp) [])))) y (.ins (He.ga K "Layout") dx (putF "free_count" (.int n) (putF "cell_count" (.int n) (putF "size_table" (.ref zp) []))))) bl (.lst [])) y (.ins (He.ga K "Layout") dx (putF "block_list" (.ref bl) (putF "free_count" (.int n) (putF "cell_count" (.int n) (putF "size_table" (.ref zp) [])))))) c = some o := fun {c o} hc e => by
      rw [upd_ne hc, upd_ne (ne_of_none e nb), upd_ne hc, upd_ne hc, upd_ne hc]
      exact e
    obtain ⟨dz, l, z1, z2⟩ := id hz
    have ny1 : zp ≠ y := fun e => by
      rw [e, hy] at z1
      have z3 := (HO.ins.inj (Option.some.inj z1)).2.2
      cases z3
    have ny2 : l ≠ y := fun e => by
      rw [e, hy] at z2
      cases z2
    refine q bl _ nb (fun c o hc e => keep hc e) ⟨?_, ⟨dz, l, keep ny1 z1, keep ny2 z2⟩, ?_, .nil, ⟨fun b hb => absurd hb List.not_mem_nil, .nil⟩, g, n1, n2, Nat.zero_le _, ⟨dz, l, keep ny1 z1, keep ny2 z2, ne_of_none z2 nb⟩⟩
    · rw [upd_same]
      have e : n - tot ns [] = n := by simp [tot]
      rw [e]
      rfl
    · rw [upd_ne nyb.symm, upd_same]
      rfl
def spCB (K : PySem.W.Frag) : Sp := fun vs H Q _ => ∃ (y zp bl dx : Addr) (ps : List Addr) (ns : List Int) (n a : Int) (bs : List Blk), vs = [.ref y, .int a] ∧ Ly K H y zp bl dx ps ns n bs ∧ ∀ i : Nat, Below bs a i → Q (.int i) H
theorem sc_count_below : FnScope ["self", "address", "low", "high", "middle"] ["self", "address"] (defScope (inClass (top 38) 9)) := ⟨rfl, rfl, rfl, by decide +kernel, rfl, by decide +kernel, by decide +kernel⟩
theorem ok_cb (T : Tx K mg) (F : FnP K "count_below" "Layout.count_below" (inClass (top 38) 9) f fd) : FnOk P w K mg base CX0 1 f fd ["self", "address"] (spCB K) := by
  refine F.ok sc_count_below (fun vs H Q E h => ?_) (fun cdv A outer s H vs Q E hr h => ⟨_, PSs.nox (pss_cons (ps_set (i := 2) sc_count_below.nd rfl (by first | exact Or.inl rfl | exact Or.inr rfl) pe_int) (pss_cons (ps_set (i := 3) sc_count_below.nd rfl (by first | exact Or.inl rfl | exact Or.inr rfl) (pe_callB call_len_seq (by rfl) T.n_len (by decide +kernel) (pa_cons (pe_fld (pv 0) rfl) pa_nil))) (pss_cons (ps_while PassesOwn.never (pt_cmpR op_lt (pv 2) (pv 3) (nomark _)) (pss_cons (ps_set (i := 4) sc_count_below.nd rfl (by first | exact Or.inl rfl | exact Or.inr rfl) (pe_op op_fdivW (pe_op op_add (pv 2) (pv 3)) pe_int)) (pss_one (ps_if (pt_cmpR op_lt (pe_ix ix_tup (pe_ix ix_list (pe_fld (pv 0) rfl) (pv 4) (fun _ _ => rfl)) pe_int (fun _ _ => rfl)) (pv 1) (nomark _)) (pss_one (ps_set (i := 2) sc_count_below.nd rfl (by first | exact Or.inl rfl | exact Or.inr rfl) (pe_op op_add (pv 4) pe_int))) (pss_one (ps_set (i := 3) sc_count_below.nd rfl (by first | exact Or.inl rfl | exact Or.inr rfl) (pv 4))))))) (pss_one (ps_ret (pv 2)))))), ?_⟩)
  · obtain ⟨y, zp, bl, dx, ps, ns, n, a, bs, rfl, _⟩ := h
    rfl
  · obtain ⟨y, zp, bl, dx, ps, ns, n, a, bs, rfl, L, q⟩ := h
    have pl := L.rf.len
    have sl : sizeLine = 16777216 := sizeLine_eq
    refine ⟨_, rfl, y, _, dx, _, _, rfl, L.at_, T.ly, T.nBL, lay_bl .., bl, _, rfl, .inl (SqL.of L.lst), ?_⟩
    refine ⟨fun m σ G => ∃ (lo hi : Nat) (x : Option V), m = hi - lo ∧ G = H ∧ σ = [some (.ref y), some (.int a), some (.int (lo : Nat)), some (.int (hi : Nat)), x] ∧ lo ≤ hi ∧ hi ≤ bs.length ∧ (∀ j b, bs[j]? = some b → j < lo → b.1 < a) ∧ (∀ j b, bs[j]? = some b → hi ≤ j → a ≤ b.1),
      ⟨_, 0, bs.length, none, rfl, rfl, (by rw [List.length_map, pl]; rfl), Nat.zero_le _, Nat.le_refl _, fun j b _ h => absurd h (Nat.not_lt_zero _), fun j b hb h => by
        have := (List.getElem?_eq_some_iff.mp hb).1
        omega⟩, ?_⟩
    rintro m σ G ⟨lo, hi, x, rfl, rfl, rfl, h1, h2, h3, h4⟩
    refine ⟨_, rfl, _, rfl, _, _, rfl, rfl, _, rfl, ?_⟩
    by_cases hc : (lo : Int) < (hi : Int)
    · refine ifT (decide_eq_true hc) ?_
      have em : ((lo : Int) + (hi : Int)) / 2 = (((lo + hi) / 2 : Nat) : Int) := by omega
      have mlt : (lo + hi) / 2 < bs.length := by omega
      obtain ⟨b, hb⟩ : ∃ b, bs[(lo + hi) / 2]? = some b := ⟨_, List.getElem?_eq_getElem mlt⟩
      obtain ⟨p, hp, hT⟩ := L.rf.at_ hb
      refine ⟨fun σ' G' => ∃ (lo' hi' : Nat) (x : Option V), hi' - lo' < hi - lo ∧ G' = G ∧ σ' = [some (.ref y), some (.int a), some (.int (lo' : Nat)), some (.int (hi' : Nat)), x] ∧ lo' ≤ hi' ∧ hi' ≤ bs.length ∧ (∀ j b, bs[j]? = some b → j < lo' → b.1 < a) ∧ (∀ j b, bs[j]? = some b → hi' ≤ j → a ≤ b.1),
        fun σ' G' ⟨lo', hi', x, hl, r⟩ => ⟨hi' - lo', hl, lo', hi', x, rfl, r⟩, ?_⟩
      refine ⟨_, rfl, _, rfl, _, _, rfl, rfl, _, _, rfl, rfl, wide_div (b := 64) (by decide) (by decide) (by decide) (by decide), ?_⟩
      refine ⟨_, rfl, y, _, dx, _, _, rfl, L.at_, T.ly, T.nBL, lay_bl .., _, rfl, bl, _, _, _, rfl, rfl, SqL.of L.lst, (by rw [em]; exact Refs.map_at hp), p, _, _, _, rfl, rfl, SqT.of hT, rfl, _, rfl, _, _, rfl, rfl, _, rfl, ?_⟩
      by_cases hb2 : b.1 < a
      · refine ifT (decide_eq_true hb2) ⟨_, rfl, _, _, rfl, rfl, (lo + hi) / 2 + 1, hi, some (.int (((lo : Int) + (hi : Int)) / 2)), by omega, rfl, ?_, by omega, h2, fun j c hj hlt => ?_, h4⟩
        · show [some (V.ref y), some (V.int a), some (V.int (((lo : Int) + (hi : Int)) / 2 + 1)), some (V.int hi), some (V.int (((lo : Int) + (hi : Int)) / 2))] = _
          rw [em]
          rfl
        · by_cases e : j = (lo + hi) / 2
          · rw [e, hb] at hj
            cases hj
            exact hb2
          · have := (L.wf.lt L.gd hj hb (by omega)).2
            omega
      · refine ifF (decide_eq_false hb2) ⟨_, rfl, lo, (lo + hi) / 2, some (.int (((lo : Int) + (hi : Int)) / 2)), by omega, rfl, ?_, by omega, by omega, h3, fun j c hj hle => ?_⟩
        · show [some (V.ref y), some (V.int a), some (V.int lo), some (V.int (((lo : Int) + (hi : Int)) / 2)), some (V.int (((lo : Int) + (hi : Int)) / 2))] = _
          rw [em]
        · by_cases e : j = (lo + hi) / 2
          · rw [e, hb] at hj
            cases hj
            omega
          · have := (L.wf.lt L.gd hb hj (by omega)).2
            omega
    · refine ifF (decide_eq_false hc) ⟨_, rfl, q lo ⟨by omega, fun j b hb => ⟨h3 j b hb, fun hlt => ?_⟩⟩⟩
      have := h4 j b hb
      omega
end
end K34

set_option Elab.async false
set_option linter.all false
set_option maxRecDepth 100000
set_option maxHeartbeats 4000000
namespace K34
open PySem PySem.Spec PyProof.Rows L2 Gu Ex
theorem lay_nm {zp bl : Addr} {n fr : Int} {m : Str} (h : (m == ("size_table" : Str) || (m == ("cell_count" : Str) || (m == ("free_count" : Str) || m == ("block_list" : Str)))) = false) : (layF zp n fr bl).lookup m = none := by
  obtain ⟨h1, h⟩ := Bool.or_eq_false_iff.mp h
  obtain ⟨h2, h⟩ := Bool.or_eq_false_iff.mp h
  obtain ⟨h3, h4⟩ := Bool.or_eq_false_iff.mp h
  exact lay_no zp bl n fr h1 h2 h3 h4
section
variable {ns : List Int} {n : Int} {bs : List Blk}
/-- the place of a block that starts at a -/
theorem Below.at_ {a : Int} {i j : Nat} {b : Blk} (w : Wf ns n bs) (g : Good ns) (h : Below bs a i) (hj : bs[j]? = some b) (e : b.1 = a) : i = j := by
  have h1 := (h.2 j b hj)
  by_cases hij : i < j
  · have hi : i < bs.length := by
      have := (List.getElem?_eq_some_iff.mp hj).1
      omega
    have h2 := h.2 i _ (List.getElem?_eq_getElem hi)
    have h3 := (w.lt g (List.getElem?_eq_getElem hi) hj hij).2
    omega
  · omega
/-- the block that may contain a -/
theorem Below.holds {a : Int} {i : Nat} {c : Blk} (w : Wf ns n bs) (g : Good ns) (h : Below bs (a + 1) i) (hc : c ∈ bs) (h1 : c.1 ≤ a) (h2 : a < bEnd ns c) : 0 < i ∧ bs[i - 1]? = some c := by
  obtain ⟨j, hj, rfl⟩ := List.getElem_of_mem hc
  have ej := List.getElem?_eq_getElem hj
  have k := (h.2 j _ ej).mpr (by omega)
  refine ⟨by omega, ?_⟩
  have l := h.1
  by_cases e : j = i - 1
  · rw [← e]
    exact ej
  · have hi : i - 1 < bs.length := by omega
    have p := (w.lt g ej (List.getElem?_eq_getElem hi) (by omega)).1
    have k2 := (h.2 (i - 1) _ (List.getElem?_eq_getElem hi)).mp (by omega)
    omega
end
section
variable {P : Program} {w : World} {K : PySem.W.Frag} {mg : Str → Option Value} {base : Heap} {f : Addr} {fd : FuncData}
def spIx (K : PySem.W.Frag) : Sp := fun vs H Q _ => ∃ (y zp bl dx : Addr) (ps : List Addr) (ns : List Int) (n a : Int) (bs : List Blk) (j : Nat) (b : Blk), vs = [.ref y, .int a] ∧ Ly K H y zp bl dx ps ns n bs ∧ bs[j]? = some b ∧ b.1 = a ∧ Q (.int j) H
theorem sc_index_of : FnScope ["self", "address", "index"] ["self", "address"] (defScope (inClass (top 38) 10)) := ⟨rfl, rfl, rfl, by decide +kernel, rfl, by decide +kernel, by decide +kernel⟩
theorem ok_ix (T : Tx K mg) (D_is_integer : Df P w K mg base 1 "is_integer" ["value"] spInt) (M_count_below : Mf P w K mg base 1 "Layout" "count_below" ["self", "address"] (spCB K)) (F : FnP K "index_of" "Layout.index_of" (inClass (top 38) 10) f fd) :
    FnOk P w K mg base CX0 2 f fd ["self", "address"] (spIx K) := by
  refine F.ok sc_index_of (fun vs H Q E h => ?_) (fun cdv A outer s H vs Q E hr h => ⟨_, PSs.nox (pss_cons (ps_if (pt_val (pcall D_is_integer hr (pa_cons (pv 1) pa_nil))) (pss_cons (ps_set (i := 2) sc_index_of.nd rfl (by first | exact Or.inl rfl | exact Or.inr rfl) (pmeth M_count_below hr (pv 0) (pa_cons (pv 1) pa_nil))) (pss_one (ps_if (PW.pt (pw_and (pt_cmpR op_lt (pv 2) (pe_callB call_len_seq (by rfl) T.n_len (by decide +kernel) (pa_cons (pe_fld (pv 0) rfl) pa_nil)) (nomark _)) (pw_and1 (pt_cmpR op_eq (pe_ix ix_tup (pe_ix ix_list (pe_fld (pv 0) rfl) (pv 2) (fun _ _ => rfl)) pe_int (fun _ _ => rfl)) (pv 1) (nomark _))))) (pss_one (ps_ret (pv 2))) pss_nil))) pss_nil) (pss_one ps_never)), ?_⟩)
  · obtain ⟨y, zp, bl, dx, ps, ns, n, a, bs, j, b, rfl, _⟩ := h
    rfl
  · obtain ⟨y, zp, bl, dx, ps, ns, n, a, bs, j, b, rfl, L, hj, hb, q⟩ := h
    refine ⟨_, rfl, a, rfl, true, rfl, iteT ?_⟩
    refine ⟨_, rfl, y, dx, _, rfl, L.at_, lay_nm (by decide +kernel), _, rfl, y, zp, bl, dx, ps, ns, n, a, bs, rfl, L, fun i hi => ?_⟩
    obtain rfl := hi.at_ L.wf L.gd hj hb
    obtain ⟨p, hp, hT⟩ := L.rf.at_ hj
    have jl := (List.getElem?_eq_some_iff.mp hj).1
    have pl := L.rf.len
    refine ⟨_, rfl, _, rfl, y, _, dx, _, _, rfl, L.at_, T.ly, T.nBL, lay_bl .., bl, _, rfl, .inl (SqL.of L.lst), _, _, rfl, rfl, _, rfl, ifT (decide_eq_true (by rw [List.length_map]; omega)) ?_⟩
    exact ⟨_, rfl, y, _, dx, _, _, rfl, L.at_, T.ly, T.nBL, lay_bl .., _, rfl, bl, _, _, _, rfl, rfl, SqL.of L.lst, Refs.map_at hp, p, _, _, _, rfl, rfl, SqT.of hT, rfl, _, rfl, rfl, _, rfl, ifT (vT hb) ⟨_, rfl, q⟩⟩
def spAt (K : PySem.W.Frag) : Sp := fun vs H Q _ => ∃ (y zp bl dx : Addr) (ps : List Addr) (ns : List Int) (n a : Int) (bs : List Blk), vs = [.ref y, .int a] ∧ Ly K H y zp bl dx ps ns n bs ∧ 0 ≤ a ∧ a < n ∧
  ((∀ b ∈ bs, ¬ (b.1 ≤ a ∧ a < bEnd ns b)) → Q .non H) ∧ (∀ b ∈ bs, b.1 ≤ a → a < bEnd ns b → ∀ t, H t = none → Q (.ref t) (upd H t (.tup (blkV b))))
theorem sc_block_at : FnScope ["self", "address", "index", "start", "level", "is_pinned"] ["self", "address"] (defScope (inClass (top 38) 11)) := ⟨rfl, rfl, rfl, by decide +kernel, rfl, by decide +kernel, by decide +kernel⟩
theorem ok_at (T : Tx K mg) (D_is_address : Df P w K mg base 2 "is_address" ["value"] spAddr) (M_count_below : Mf P w K mg base 1 "Layout" "count_below" ["self", "address"] (spCB K)) (M_size : Mf P w K mg base 5 "Sizes" "size" ["self", "level"] (spSize K))
    (F : FnP K "block_at" "Layout.block_at" (inClass (top 38) 11) f fd) : FnOk P w K mg base CX0 6 f fd ["self", "address"] (spAt K) := by
  refine F.ok sc_block_at (fun vs H Q E h => ?_) (fun cdv A outer s H vs Q E hr h => ⟨_, PSs.nox (pss_cons (ps_if (PW.pt (pw_or (pt_not (pt_val (pcall D_is_address hr (pa_cons (pv 1) pa_nil)))) (pw_or1 (pt_cmpR op_ge (pv 1) (pe_fld (pv 0) rfl) (nomark _))))) (pss_one ps_never) pss_nil) (pss_cons (ps_set (i := 2) sc_block_at.nd rfl (by first | exact Or.inl rfl | exact Or.inr rfl) (pe_op op_sub (pmeth M_count_below hr (pv 0) (pa_cons (pe_op op_add (pv 1) pe_int) pa_nil)) pe_int)) (pss_cons (ps_if (pt_cmpR op_lt (pv 2) pe_int (nomark _)) (pss_one (ps_ret pe_non)) pss_nil) (pss_cons (ps_asg (pe_ix ix_list (pe_fld (pv 0) rfl) (pv 2) (fun _ _ => rfl)) (pg_tup (by rfl) (pgs_cons (pg_name (i := 3) sc_block_at.nd rfl (by first | exact Or.inl rfl | exact Or.inr rfl)) (pgs_cons (pg_name (i := 4) sc_block_at.nd rfl (by first | exact Or.inl rfl | exact Or.inr rfl)) (pgs_cons (pg_name (i := 5) sc_block_at.nd rfl (by first | exact Or.inl rfl | exact Or.inr rfl)) pgs_nil))))) (pss_one (ps_ret (pe_ifExp (pt_cmpR op_lt (pv 1) (pe_op op_add (pv 3) (pmeth M_size hr (pe_fld (pv 0) rfl) (pa_cons (pv 4) pa_nil))) (nomark _)) (pe_tup (pa_cons (pv 3) (pa_cons (pv 4) (pa_cons (pv 5) pa_nil)))) pe_non))))))), ?_⟩)
  · obtain ⟨y, zp, bl, dx, ps, ns, n, a, bs, rfl, _⟩ := h
    rfl
  · obtain ⟨y, zp, bl, dx, ps, ns, n, a, bs, rfl, L, a0, a1, q1, q2⟩ := h
    refine ⟨_, rfl, a, rfl, a0, true, rfl, iteF ⟨_, rfl, _, rfl, y, _, dx, _, _, rfl, L.at_, T.ly, T.nCC, lay_cc .., _, _, rfl, rfl, _, rfl, ifF (decide_eq_false (by omega)) ?_⟩⟩
    refine ⟨_, rfl, y, dx, _, rfl, L.at_, lay_nm (by decide +kernel), _, rfl, _, _, rfl, rfl, y, zp, bl, dx, ps, ns, n, a + 1, bs, rfl, L, fun i hi => ⟨_, _, rfl, rfl, ?_⟩⟩
    refine ⟨_, rfl, _, _, rfl, rfl, _, rfl, ?_⟩
    by_cases h0 : ((i : Int) - 1) < 0
    · refine ifT (decide_eq_true h0) (q1 fun b hb hh => ?_)
      have := (hi.holds L.wf L.gd hb hh.1 hh.2).1
      omega
    · refine ifF (decide_eq_false h0) ?_
      have e : ((i : Int) - 1) = ((i - 1 : Nat) : Int) := by omega
      have il : i - 1 < bs.length := by have := hi.1; omega
      obtain ⟨b, hb⟩ : ∃ b, bs[i - 1]? = some b := ⟨_, List.getElem?_eq_getElem il⟩
      have bm := List.mem_of_getElem? hb
      obtain ⟨p, hp, hT⟩ := L.rf.at_ hb
      have b1 := (hi.2 _ _ hb).mp (by omega)
      have bk := (L.wf.ok b bm).1
      obtain ⟨dz, l, z1, z2⟩ := id L.szs
      have hT' : H p = some (.tup [.int b.1, .int (b.2.1 : Nat), .bl b.2.2]) := hT
      refine ⟨_, rfl, y, _, dx, _, _, rfl, L.at_, T.ly, T.nBL, lay_bl .., _, rfl, bl, _, _, _, rfl, rfl, SqL.of L.lst, (by rw [e]; exact Refs.map_at hp), p, _, rfl, .inl (.inl hT'), rfl, _, _, rfl, _, _, rfl, _, _, rfl, rfl, ?_⟩
      refine ⟨_, rfl, _, rfl, _, rfl, y, _, dx, _, _, rfl, L.at_, T.ly, T.nST, lay_st .., zp, dz, _, rfl, z1, szF_no l (by decide +kernel), _, rfl, zp, ns, b.2.1, _, rfl, L.szs, sz_at bk, _, _, rfl, rfl, _, _, rfl, rfl, _, rfl, ?_⟩
      by_cases hc : a < b.1 + sz ns b.2.1
      · exact ifT (decide_eq_true hc) ⟨_, rfl, _, rfl, _, rfl, (by show 3 ≤ sizeLine; decide), fun t ht => q2 b bm (by omega) hc t ht⟩
      · refine ifF (decide_eq_false hc) (q1 fun c hcm hh => ?_)
        have e2 := (hi.holds L.wf L.gd hcm hh.1 hh.2).2
        rw [hb] at e2
        cases e2
        exact hc hh.2
/-- a range without a block -/
def FreeR (ns : List Int) (bs : List Blk) (lo hi : Int) : Prop := ∀ b ∈ bs, bEnd ns b ≤ lo ∨ hi ≤ b.1
def spFirst (K : PySem.W.Frag) : Sp := fun vs H Q _ => ∃ (y zp bl dx : Addr) (ps : List Addr) (ns : List Int) (n lo hi : Int) (bs : List Blk), vs = [.ref y, .int lo, .int hi] ∧ Ly K H y zp bl dx ps ns n bs ∧ 0 ≤ lo ∧ lo < hi ∧ hi ≤ n ∧ FreeR ns bs lo hi ∧ Q .non H
theorem sc_first_taken : FnScope ["self", "low", "high", "index"] ["self", "low", "high"] (defScope (inClass (top 38) 12)) := ⟨rfl, rfl, rfl, by decide +kernel, rfl, by decide +kernel, by decide +kernel⟩
theorem ok_first (T : Tx K mg) (M_block_at : Mf P w K mg base 6 "Layout" "block_at" ["self", "address"] (spAt K)) (M_count_below : Mf P w K mg base 1 "Layout" "count_below" ["self", "address"] (spCB K)) (F : FnP K "first_taken" "Layout.first_taken" (inClass (top 38) 12) f fd) :
    FnOk P w K mg base CX0 7 f fd ["self", "low", "high"] (spFirst K) := by
  refine F.ok sc_first_taken (fun vs H Q E h => ?_) (fun cdv A outer s H vs Q E hr h => ⟨_, PSs.nox (pss_cons (ps_if (pt_cmpR op_notN (pmeth M_block_at hr (pv 0) (pa_cons (pv 1) pa_nil)) pe_non (nomark _)) (pss_one (ps_ret (pv 1))) pss_nil) (pss_cons (ps_set (i := 3) sc_first_taken.nd rfl (by first | exact Or.inl rfl | exact Or.inr rfl) (pmeth M_count_below hr (pv 0) (pa_cons (pv 1) pa_nil))) (pss_cons (ps_if (PW.pt (pw_and (pt_cmpR op_lt (pv 3) (pe_callB call_len_seq (by rfl) T.n_len (by decide +kernel) (pa_cons (pe_fld (pv 0) rfl) pa_nil)) (nomark _)) (pw_and1 (pt_cmpR op_lt (pe_ix ix_tup (pe_ix ix_list (pe_fld (pv 0) rfl) (pv 3) (fun _ _ => rfl)) pe_int (fun _ _ => rfl)) (pv 2) (nomark _))))) (pss_one (ps_ret (pe_ix ix_tup (pe_ix ix_list (pe_fld (pv 0) rfl) (pv 3) (fun _ _ => rfl)) pe_int (fun _ _ => rfl)))) pss_nil) (pss_one (ps_ret pe_non))))), ?_⟩)
  · obtain ⟨y, zp, bl, dx, ps, ns, n, lo, hi, bs, rfl, _⟩ := h
    rfl
  · obtain ⟨y, zp, bl, dx, ps, ns, n, lo, hi, bs, rfl, L, l0, l1, l2, fr, q⟩ := h
    refine ⟨_, rfl, y, dx, _, rfl, L.at_, lay_nm (by decide +kernel), _, rfl, y, zp, bl, dx, ps, ns, n, lo, bs, rfl, L, l0, by omega, fun _ => ?_, fun b hb h1 h2 => ?_⟩
    · refine ⟨rfl, _, rfl, iteF ?_⟩
      refine ⟨_, rfl, y, dx, _, rfl, L.at_, lay_nm (by decide +kernel), _, rfl, y, zp, bl, dx, ps, ns, n, lo, bs, rfl, L, fun i hb0 => ?_⟩
      have pl := L.rf.len
      refine ⟨_, rfl, _, rfl, y, _, dx, _, _, rfl, L.at_, T.ly, T.nBL, lay_bl .., bl, _, rfl, .inl (SqL.of L.lst), _, _, rfl, rfl, _, rfl, ?_⟩
      by_cases hc : ((i : Nat) : Int) < (((ps.map V.ref).length : Nat) : Int)
      · have il : i < bs.length := by rw [List.length_map] at hc; omega
        obtain ⟨b, hb⟩ : ∃ b, bs[i]? = some b := ⟨_, List.getElem?_eq_getElem il⟩
        obtain ⟨p, hp, hT⟩ := L.rf.at_ hb
        have bm := List.mem_of_getElem? hb
        have z := L.wf.pos L.gd bm
        have nb : ¬ b.1 < hi := by
          have k := (hb0.2 i b hb)
          have r := fr b bm
          unfold bEnd at r
          omega
        refine ifT (decide_eq_true hc) ⟨_, rfl, y, _, dx, _, _, rfl, L.at_, T.ly, T.nBL, lay_bl .., _, rfl, bl, _, _, _, rfl, rfl, SqL.of L.lst, Refs.map_at hp, p, _, _, _, rfl, rfl, SqT.of hT, rfl, _, rfl, _, _, rfl, rfl, _, rfl, ifF (decide_eq_false nb) q⟩
      · exact ifF (decide_eq_false hc) q
    · exact absurd (fr b hb) (by unfold bEnd at *; omega)
end
end K34

set_option Elab.async false
set_option linter.all false
set_option maxRecDepth 100000
set_option maxHeartbeats 4000000
namespace K34
open PySem PySem.Spec PyProof.Rows L2 Gu Ex
abbrev FnK (K : PySem.W.Frag) (x qual : Str) (st : Stmt) (kws : List (Str × V)) (f : Addr) (fd : FuncData) : Prop := FunD K x qual (defArgs st) (defBody st) (defScope st) [] kws f fd
section
variable {ns : List Int} {n : Int} {bs : List Blk}
theorem mem_take_at {i : Nat} {c : Blk} (h : c ∈ bs.take i) : ∃ j, j < i ∧ bs[j]? = some c := by
  obtain ⟨j, hj, e⟩ := List.getElem_of_mem h
  rw [List.length_take] at hj
  refine ⟨j, by omega, ?_⟩
  rw [List.getElem_take] at e
  rw [← e]
  exact List.getElem?_eq_getElem (by omega)
theorem mem_drop_at {i : Nat} {c : Blk} (h : c ∈ bs.drop i) : ∃ j, i ≤ j ∧ bs[j]? = some c := by
  obtain ⟨j, hj, e⟩ := List.getElem_of_mem h
  rw [List.length_drop] at hj
  refine ⟨i + j, by omega, ?_⟩
  rw [List.getElem_drop] at e
  rw [← e]
  exact List.getElem?_eq_getElem (by omega)
/-- a block put in at its place -/
def insB (bs : List Blk) (i : Nat) (b : Blk) : List Blk := bs.take i ++ [b] ++ bs.drop i
theorem ins_wf {i : Nat} {b : Blk} (w : Wf ns n bs) (g : Good ns) (h : Below bs b.1 i) (k : b.2.1 < ns.length) (h0 : 0 ≤ b.1) (hd : sz ns b.2.1 ∣ b.1) (he : bEnd ns b ≤ n) (fr : FreeR ns bs b.1 (bEnd ns b)) : Wf ns n (insB bs i b) := by
  have z := (chain g).pos _ k
  have left : ∀ c ∈ bs.take i, bEnd ns c ≤ b.1 := fun c hc => by
    obtain ⟨j, hj, e⟩ := mem_take_at hc
    have h1 := (h.2 j c e).mp hj
    have r := fr c (List.mem_of_getElem? e)
    unfold bEnd at *
    omega
  have right : ∀ c ∈ bs.drop i, bEnd ns b ≤ c.1 := fun c hc => by
    obtain ⟨j, hj, e⟩ := mem_drop_at hc
    have h1 := h.2 j c e
    have r := fr c (List.mem_of_getElem? e)
    have zc := w.pos g (List.mem_of_getElem? e)
    unfold bEnd at *
    omega
  refine ⟨fun c hc => ?_, ?_⟩
  · unfold insB at hc
    rcases List.mem_append.mp hc with hc | hc
    · rcases List.mem_append.mp hc with hc | hc
      · exact w.ok c (List.mem_of_mem_take hc)
      · rw [List.mem_singleton.mp hc]
        exact ⟨k, h0, hd, he⟩
    · exact w.ok c (List.mem_of_mem_drop hc)
  · unfold insB
    rw [List.append_assoc]
    refine List.pairwise_append.mpr ⟨w.so.sublist (List.take_sublist _ _), ?_, fun c hc d hd => ?_⟩
    · refine List.pairwise_append.mpr ⟨List.pairwise_singleton _ _, w.so.sublist (List.drop_sublist _ _), fun c hc d hd => ?_⟩
      rw [List.mem_singleton.mp hc]
      exact right d hd
    · rcases List.mem_append.mp hd with hd | hd
      · rw [List.mem_singleton.mp hd]
        exact left c hc
      · have a1 := left c hc
        have a2 := right d hd
        unfold bEnd at *
        omega
theorem tot_app (xs ys : List Blk) : tot ns (xs ++ ys) = tot ns xs + tot ns ys := by
  unfold tot
  rw [List.map_append, List.sum_append]
theorem tot_one (b : Blk) : tot ns [b] = sz ns b.2.1 := by simp [tot]
theorem tot_ins (bs : List Blk) (i : Nat) (b : Blk) : tot ns (insB bs i b) = tot ns bs + sz ns b.2.1 := by
  unfold insB
  have e := congrArg (tot ns) (List.take_append_drop i bs)
  rw [tot_app] at e
  rw [tot_app, tot_app, tot_one]
  omega
theorem tot_era {j : Nat} {b : Blk} (h : bs[j]? = some b) : tot ns (bs.eraseIdx j) = tot ns bs - sz ns b.2.1 := by
  have e := congrArg (tot ns) (List.take_append_drop j bs)
  obtain ⟨hj, eb⟩ := List.getElem?_eq_some_iff.mp h
  rw [List.eraseIdx_eq_take_drop_succ, tot_app]
  rw [List.drop_eq_getElem_cons hj, tot_app, ← List.singleton_append, tot_app, tot_one, eb] at e
  omega
theorem era_wf {j : Nat} (w : Wf ns n bs) : Wf ns n (bs.eraseIdx j) := ⟨fun b hb => w.ok b (List.mem_of_mem_eraseIdx hb), w.so.sublist (List.eraseIdx_sublist _ _)⟩
/-- a block with another pin -/
def pinB (bs : List Blk) (j : Nat) (b : Blk) (p : Bool) : List Blk := bs.set j (b.1, b.2.1, p)
theorem pin_wf {j : Nat} {b : Blk} {p : Bool} (w : Wf ns n bs) (h : bs[j]? = some b) : Wf ns n (pinB bs j b p) := by
  obtain ⟨hj, eb⟩ := List.getElem?_eq_some_iff.mp h
  refine ⟨fun c hc => ?_, ?_⟩
  · rcases List.mem_or_eq_of_mem_set hc with z | z
    · exact w.ok c z
    · rw [z]
      exact w.ok b (List.mem_of_getElem? h)
  · refine List.pairwise_iff_getElem.mpr fun i k hi hk hik => ?_
    unfold pinB at hi hk ⊢
    rw [List.length_set] at hi hk
    have p0 := List.pairwise_iff_getElem.mp w.so i k hi hk hik
    rw [List.getElem_set, List.getElem_set]
    split
    · rename_i e
      subst e
      rw [if_neg (by omega)]
      rw [eb] at p0
      exact p0
    · split
      · rename_i e
        subst e
        rw [eb] at p0
        exact p0
      · exact p0
theorem tot_pin {j : Nat} {b : Blk} {p : Bool} (h : bs[j]? = some b) : tot ns (pinB bs j b p) = tot ns bs := by
  obtain ⟨hj, eb⟩ := List.getElem?_eq_some_iff.mp h
  unfold pinB tot
  rw [List.map_set]
  congr 1
  have e : sz ns b.2.1 = (bs.map fun b => sz ns b.2.1)[j]'(by rw [List.length_map]; exact hj) := by rw [List.getElem_map, eb]
  show (bs.map fun b => sz ns b.2.1).set j (sz ns b.2.1) = _
  rw [e, List.set_getElem_self]
end
/-- all but the layout's own two objects stay -/
def But2 (y bl : Addr) (H H' : Hp) : Prop := ∀ c o, c ≠ y → c ≠ bl → H c = some o → H' c = some o
theorem Refs.ins {α : Type} {f : α → List V} {H : Hp} {ps : List Addr} {ts : List α} {p : Addr} {t : α} (h : Refs f H ps ts) (i : Nat) (hp : H p = some (.tup (f t))) : Refs f H (ps.take i ++ [p] ++ ps.drop i) (ts.take i ++ [t] ++ ts.drop i) := ((h.take i).app (.one hp)).app (h.drop i)
theorem Refs.era {α : Type} {f : α → List V} {H : Hp} {ps : List Addr} {ts : List α} (h : Refs f H ps ts) (j : Nat) : Refs f H (ps.eraseIdx j) (ts.eraseIdx j) := by
  rw [List.eraseIdx_eq_take_drop_succ, List.eraseIdx_eq_take_drop_succ]
  exact (h.take j).app (h.drop (j + 1))
theorem Refs.set {α : Type} {f : α → List V} {H : Hp} {p : Addr} {t : α} (hp : H p = some (.tup (f t))) : ∀ {ps : List Addr} {ts : List α}, Refs f H ps ts → ∀ j, Refs f H (ps.set j p) (ts.set j t)
  | _, _, .nil, _ => .nil
  | _, _, .cons a b, 0 => .cons hp b
  | _, _, .cons a b, j + 1 => .cons a (Refs.set hp b j)
section
variable {P : Program} {w : World} {K : PySem.W.Frag} {mg : Str → Option Value} {base : Heap} {f : Addr} {fd : FuncData}
def spPut (K : PySem.W.Frag) : Sp := fun vs H Q _ => ∃ (y zp bl dx : Addr) (ps : List Addr) (ns : List Int) (n a : Int) (bs : List Blk) (k : Nat) (p : Bool), vs = [.ref y, .int k, .int a, .bl p] ∧ Ly K H y zp bl dx ps ns n bs ∧ bs.length < 900 ∧ k < ns.length ∧ 0 ≤ a ∧ a % sz ns k = 0 ∧ a + sz ns k ≤ n ∧ FreeR ns bs a (a + sz ns k) ∧
  ∀ i ps' H', Below bs a i → Ly K H' y zp bl dx ps' ns n (insB bs i (a, k, p)) → But2 y bl H H' → Q .non H'
theorem sc_put : FnScope ["self", "level", "address", "pinned", "size", "taken"] ["self", "level", "address", "pinned"] (defScope (inClass (top 38) 13)) := ⟨rfl, rfl, rfl, by decide +kernel, rfl, by decide +kernel, by decide +kernel⟩
theorem ok_put (T : Tx K mg) (M_size : Mf P w K mg base 5 "Sizes" "size" ["self", "level"] (spSize K)) (D_is_region : Df P w K mg base 7 "is_region" ["sizes", "length", "level", "address"] (spRegion K)) (M_first_taken : Mf P w K mg base 7 "Layout" "first_taken" ["self", "low", "high"] (spFirst K))
    (M_count_below : Mf P w K mg base 1 "Layout" "count_below" ["self", "address"] (spCB K)) (F : FnK K "put" "Layout.put" (inClass (top 38) 13) [("pinned", .bl false)] f fd) : FnOk P w K mg base CX0 8 f fd ["self", "level", "address", "pinned"] (spPut K) := by
  refine F.ok sc_put (fun vs H Q E h => ?_) (fun cdv A outer s H vs Q E hr h => ⟨_, PSs.nox (pss_cons (ps_set (i := 4) sc_put.nd rfl (by first | exact Or.inl rfl | exact Or.inr rfl) (pmeth M_size hr (pe_fld (pv 0) rfl) (pa_cons (pv 1) pa_nil))) (pss_cons (ps_if (pt_not (pt_val (pcall D_is_region hr (pa_cons (pe_fld (pv 0) rfl) (pa_cons (pe_fld (pv 0) rfl) (pa_cons (pv 1) (pa_cons (pv 2) pa_nil))))))) (pss_one ps_never) pss_nil) (pss_cons (ps_set (i := 5) sc_put.nd rfl (by first | exact Or.inl rfl | exact Or.inr rfl) (pmeth M_first_taken hr (pv 0) (pa_cons (pv 2) (pa_cons (pe_op op_add (pv 2) (pv 4)) pa_nil)))) (pss_cons (ps_if (pt_cmpR op_notN (pv 5) pe_non (nomark _)) (pss_one ps_never) pss_nil) (pss_cons (ps_expr (pe_bm PySem.F.plainAttrs_list PySem.F.slot_list_insert PySem.F.type_list_insert mt_insert (pe_fld (pv 0) rfl) (pa_cons (pmeth M_count_below hr (pv 0) (pa_cons (pv 2) pa_nil)) (pa_cons (pe_tup (pa_cons (pv 2) (pa_cons (pv 1) (pa_cons (pv 3) pa_nil)))) pa_nil)))) (pss_one (ps_fldaug (pv 0) (pv 4) in_sub))))))), ?_⟩)
  · obtain ⟨y, zp, bl, dx, ps, ns, n, a, bs, k, p, rfl, _⟩ := h
    rfl
  · obtain ⟨y, zp, bl, dx, ps, ns, n, a, bs, k, p, rfl, L, l900, hk, a0, a1, a2, fr, q⟩ := h
    obtain ⟨dz, l, zz, zl, zy, zb, lb, ly, nyb⟩ := L.far
    have z := (chain L.gd).pos _ hk
    have pl := L.rf.len
    have sl : sizeLine = 16777216 := sizeLine_eq
    refine ⟨_, rfl, y, _, dx, _, _, rfl, L.at_, T.ly, T.nST, lay_st .., zp, dz, _, rfl, zz, szF_no l (by decide +kernel), _, rfl, zp, ns, k, _, rfl, L.szs, sz_at hk, ?_⟩
    refine ⟨_, rfl, y, _, dx, _, _, rfl, L.at_, T.ly, T.nST, lay_st .., _, rfl, y, _, dx, _, _, rfl, L.at_, T.ly, T.nCC, lay_cc .., _, rfl, _, rfl, zp, ns, k, n, a, rfl, L.szs, L.gd, hk, L.n1, L.n2, a0, a1, a2, true, rfl, iteF ?_⟩
    refine ⟨_, rfl, y, dx, _, rfl, L.at_, lay_nm (by decide +kernel), _, rfl, _, rfl, _, rfl, _, _, rfl, rfl, y, zp, bl, dx, ps, ns, n, a, a + sz ns k, bs, rfl, L, a0, by omega, a2, fr, ?_⟩
    refine ⟨_, rfl, rfl, _, rfl, iteF ?_⟩
    refine ⟨_, rfl, y, _, dx, _, _, rfl, L.at_, T.ly, T.nBL, lay_bl .., .inl ⟨rfl, _, SqL.of L.lst⟩, _, rfl, y, dx, _, rfl, L.at_, lay_nm (by decide +kernel), _, rfl, y, zp, bl, dx, ps, ns, n, a, bs, rfl, L, fun i hi => ?_⟩
    refine ⟨_, rfl, _, rfl, _, rfl, (by show 3 ≤ sizeLine; decide), fun t ht => ?_⟩
    have ntb : bl ≠ t := ne_of_none L.lst ht
    have nty : y ≠ t := ne_of_none L.at_ ht
    refine ⟨bl, _, i, _, rfl, rfl, (by rw [upd_ne ntb]; exact L.lst), (by rw [List.length_map]; omega), by omega, (by have := hi.1; have := L.ln; omega), ?_⟩
    have keep : ∀ {c : Addr} {o : HO} {u v : HO}, c ≠ y → c ≠ bl → H c = some o → (upd (upd (upd H t (.tup (blkV (a, k, p)))) bl u) y v) c = some o := fun {c o u v} c1 c2 e => by
      rw [upd_ne c1, upd_ne c2, upd_ne (ne_of_none e ht)]
      exact e
    refine ⟨_, rfl, y, _, dx, _, _, rfl, (by rw [upd_ne nyb, upd_ne nty]; exact L.at_), T.ly, T.nFC, lay_fc .., _, rfl, _, _, rfl, rfl, dx, _, (by rw [upd_ne nyb, upd_ne nty]; exact L.at_), (by show 4 < 1000; decide), ?_⟩
    refine q i (ps.take i ++ [t] ++ ps.drop i) _ hi ⟨?_, ?_, ?_, ?_, ins_wf L.wf L.gd hi hk a0 (M16.dvd0 a1) a2 fr, L.gd, L.n1, L.n2, ?_, ⟨dz, l, keep zy zb zz, keep ly lb zl, lb⟩⟩ fun c o c1 c2 e => keep c1 c2 e
    · rw [upd_same, lay_put, tot_ins]
      have e : n - tot ns bs - sz ns k = n - (tot ns bs + sz ns k) := by omega
      exact congrArg (fun z => some (HO.ins (He.ga K "Layout") dx (layF zp n z bl))) e
    · exact ⟨dz, l, keep zy zb zz, keep ly lb zl⟩
    · rw [upd_ne nyb.symm, upd_same, List.map_append, List.map_append, List.map_take, List.map_drop]
      rfl
    · refine Refs.ins (L.rf.mono fun c xs e => ?_) i ?_
      · exact keep (fun z => by rw [z, L.at_] at e; cases e) (fun z => by rw [z, L.lst] at e; cases e) e
      · rw [upd_ne nty.symm, upd_ne ntb.symm, upd_same]
        rfl
    · unfold insB
      rw [List.length_append, List.length_append, List.length_take, List.length_drop, List.length_singleton]
      omega
theorem era_map (ps : List Addr) (j : Nat) : (ps.map V.ref).eraseIdx j = (ps.eraseIdx j).map V.ref := by
  rw [List.eraseIdx_eq_take_drop_succ, List.eraseIdx_eq_take_drop_succ, List.map_append, List.map_take, List.map_drop]
theorem ix_nat {k n : Nat} (h : k < n) : ixN n (k : Int) = some k := by
  unfold ixN
  rw [if_pos (by omega), if_pos (by omega), Int.toNat_natCast]
def spTake (K : PySem.W.Frag) : Sp := fun vs H Q _ => ∃ (y zp bl dx : Addr) (ps : List Addr) (ns : List Int) (n a : Int) (bs : List Blk) (j : Nat) (b : Blk), vs = [.ref y, .int a] ∧ Ly K H y zp bl dx ps ns n bs ∧ bs[j]? = some b ∧ b.1 = a ∧
  ∀ t ps' H', H t = none → Ly K H' y zp bl dx ps' ns n (bs.eraseIdx j) → H' t = some (.tup [.int (b.2.1 : Nat), .bl b.2.2]) → But2 y bl H H' → Q (.ref t) H'
theorem sc_take_out : FnScope ["self", "address", "start", "level", "is_pinned"] ["self", "address"] (defScope (inClass (top 38) 14)) := ⟨rfl, rfl, rfl, by decide +kernel, rfl, by decide +kernel, by decide +kernel⟩
theorem ok_take (T : Tx K mg) (M_index_of : Mf P w K mg base 2 "Layout" "index_of" ["self", "address"] (spIx K)) (M_size : Mf P w K mg base 5 "Sizes" "size" ["self", "level"] (spSize K)) (F : FnP K "take_out" "Layout.take_out" (inClass (top 38) 14) f fd) :
    FnOk P w K mg base CX0 6 f fd ["self", "address"] (spTake K) := by
  refine F.ok sc_take_out (fun vs H Q E h => ?_) (fun cdv A outer s H vs Q E hr h => ⟨_, PSs.nox (pss_cons (ps_asg (pe_bm PySem.F.plainAttrs_list PySem.F.slot_list_pop PySem.F.type_list_pop mt_popAt (pe_fld (pv 0) rfl) (pa_cons (pmeth M_index_of hr (pv 0) (pa_cons (pv 1) pa_nil)) pa_nil)) (pg_tup (by rfl) (pgs_cons (pg_name (i := 2) sc_take_out.nd rfl (by first | exact Or.inl rfl | exact Or.inr rfl)) (pgs_cons (pg_name (i := 3) sc_take_out.nd rfl (by first | exact Or.inl rfl | exact Or.inr rfl)) (pgs_cons (pg_name (i := 4) sc_take_out.nd rfl (by first | exact Or.inl rfl | exact Or.inr rfl)) pgs_nil))))) (pss_cons (ps_fldaug (pv 0) (pmeth M_size hr (pe_fld (pv 0) rfl) (pa_cons (pv 3) pa_nil)) in_add) (pss_one (ps_ret (pe_tup (pa_cons (pv 3) (pa_cons (pv 4) pa_nil))))))), ?_⟩)
  · obtain ⟨y, zp, bl, dx, ps, ns, n, a, bs, j, b, rfl, _⟩ := h
    rfl
  · obtain ⟨y, zp, bl, dx, ps, ns, n, a, bs, j, b, rfl, L, hj, hb, q⟩ := h
    obtain ⟨dz, l, zz, zl, zy, zb, lb, ly, nyb⟩ := L.far
    have pl := L.rf.len
    have bn := L.ln
    have jl := (List.getElem?_eq_some_iff.mp hj).1
    have hk := (L.wf.ok b (List.mem_of_getElem? hj)).1
    obtain ⟨p, hp, hT⟩ := L.rf.at_ hj
    have hT' : H p = some (.tup [.int b.1, .int (b.2.1 : Nat), .bl b.2.2]) := hT
    refine ⟨_, rfl, y, _, dx, _, _, rfl, L.at_, T.ly, T.nBL, lay_bl .., .inl ⟨rfl, _, SqL.of L.lst⟩, _, rfl, y, dx, _, rfl, L.at_, lay_nm (by decide +kernel), _, rfl, y, zp, bl, dx, ps, ns, n, a, bs, j, b, rfl, L, hj, hb, ?_⟩
    refine ⟨bl, _, j, j, .ref p, rfl, rfl, L.lst, by omega, by omega, (by rw [List.length_map]; exact (seqIndex_at (by omega) (by omega)).trans (by rw [Int.toNat_natCast])), (by rw [List.getElem?_map, hp]; rfl), ?_⟩
    have keep0 : ∀ {c : Addr} {o : HO} {u : HO}, c ≠ bl → H c = some o → (upd H bl u) c = some o := fun {c o u} c2 e => by
      rw [upd_ne c2]
      exact e
    have pb : p ≠ bl := fun z => by rw [z, L.lst] at hT'; cases hT'
    have py : p ≠ y := fun z => by rw [z, L.at_] at hT'; cases hT'
    refine ⟨p, _, rfl, .inl (.inl (keep0 pb hT')), rfl, _, _, rfl, _, _, rfl, _, _, rfl, rfl, ?_⟩
    refine ⟨_, rfl, y, _, dx, _, _, rfl, keep0 nyb L.at_, T.ly, T.nFC, lay_fc .., _, rfl, y, _, dx, _, _, rfl, keep0 nyb L.at_, T.ly, T.nST, lay_st .., zp, dz, _, rfl, keep0 zb zz, szF_no l (by decide +kernel), _, rfl, zp, ns, b.2.1, _, rfl, ⟨dz, l, keep0 zb zz, keep0 lb zl⟩, sz_at hk, _, _, rfl, rfl, dx, _, keep0 nyb L.at_, (by show 4 < 1000; decide), ?_⟩
    refine ⟨_, rfl, _, rfl, (by show 2 ≤ sizeLine; decide), fun t ht => ?_⟩
    have keep : ∀ {c : Addr} {o : HO} {u v v' : HO}, c ≠ y → c ≠ bl → H c = some o → (upd (upd (upd H bl u) y v) t v') c = some o ∨ c = t := fun {c o u v v'} c1 c2 e => by
      by_cases ct : c = t
      · exact .inr ct
      · rw [upd_ne ct, upd_ne c1, upd_ne c2]
        exact .inl e
    have ty : t ≠ y := fun z => by
      rw [z, upd_same] at ht
      cases ht
    have tb : t ≠ bl := fun z => by
      rw [z, upd_ne nyb.symm, upd_same] at ht
      cases ht
    have tn : H t = none := by
      rw [upd_ne ty, upd_ne tb] at ht
      exact ht
    have kp : ∀ {c : Addr} {o : HO} {u v v' : HO}, c ≠ y → c ≠ bl → H c = some o → (upd (upd (upd H bl u) y v) t v') c = some o := fun {c o u v v'} c1 c2 e => by
      rw [upd_ne (ne_of_none e tn), upd_ne c1, upd_ne c2]
      exact e
    refine q t (ps.eraseIdx j) _ tn ⟨?_, ⟨dz, l, kp zy zb zz, kp ly lb zl⟩, ?_, (L.rf.mono fun c xs e => ?_).era j, era_wf L.wf, L.gd, L.n1, L.n2, ?_, ⟨dz, l, kp zy zb zz, kp ly lb zl, lb⟩⟩ upd_same fun c o c1 c2 e => kp c1 c2 e
    · rw [upd_ne ty.symm, upd_same, lay_put, tot_era hj]
      have e : n - tot ns bs + sz ns b.2.1 = n - (tot ns bs - sz ns b.2.1) := by omega
      exact congrArg (fun z => some (HO.ins (He.ga K "Layout") dx (layF zp n z bl))) e
    · rw [upd_ne tb.symm, upd_ne nyb.symm, upd_same, era_map]
    · exact kp (fun z => by rw [z, L.at_] at e; cases e) (fun z => by rw [z, L.lst] at e; cases e) e
    · have := List.length_eraseIdx_le bs j
      omega
def spPin (K : PySem.W.Frag) : Sp := fun vs H Q _ => ∃ (y zp bl dx : Addr) (ps : List Addr) (ns : List Int) (n a : Int) (bs : List Blk) (j : Nat) (b : Blk) (p : Bool), vs = [.ref y, .int a, .bl p] ∧ Ly K H y zp bl dx ps ns n bs ∧ bs[j]? = some b ∧ b.1 = a ∧
  ∀ ps' H', Ly K H' y zp bl dx ps' ns n (pinB bs j b p) → But2 y bl H H' → Q .non H'
theorem sc_set_pinned : FnScope ["self", "address", "pinned", "index", "start", "level", "was_pinned"] ["self", "address", "pinned"] (defScope (inClass (top 38) 15)) := ⟨rfl, rfl, rfl, by decide +kernel, rfl, by decide +kernel, by decide +kernel⟩
theorem ok_pin (T : Tx K mg) (M_index_of : Mf P w K mg base 2 "Layout" "index_of" ["self", "address"] (spIx K)) (F : FnP K "set_pinned" "Layout.set_pinned" (inClass (top 38) 15) f fd) :
    FnOk P w K mg base CX0 3 f fd ["self", "address", "pinned"] (spPin K) := by
  refine F.ok sc_set_pinned (fun vs H Q E h => ?_) (fun cdv A outer s H vs Q E hr h => ⟨_, PSs.nox (pss_cons (ps_set (i := 3) sc_set_pinned.nd rfl (by first | exact Or.inl rfl | exact Or.inr rfl) (pmeth M_index_of hr (pv 0) (pa_cons (pv 1) pa_nil))) (pss_cons (ps_asg (pe_ix ix_list (pe_fld (pv 0) rfl) (pv 3) (fun _ _ => rfl)) (pg_tup (by rfl) (pgs_cons (pg_name (i := 4) sc_set_pinned.nd rfl (by first | exact Or.inl rfl | exact Or.inr rfl)) (pgs_cons (pg_name (i := 5) sc_set_pinned.nd rfl (by first | exact Or.inl rfl | exact Or.inr rfl)) (pgs_cons (pg_name (i := 6) sc_set_pinned.nd rfl (by first | exact Or.inl rfl | exact Or.inr rfl)) pgs_nil))))) (pss_one (ps_asg (pe_tup (pa_cons (pv 4) (pa_cons (pv 5) (pa_cons (pv 2) pa_nil)))) (pg_sub (pe_fld (pv 0) rfl) (pv 3) set_list))))), ?_⟩)
  · obtain ⟨y, zp, bl, dx, ps, ns, n, a, bs, j, b, p, rfl, _⟩ := h
    rfl
  · obtain ⟨y, zp, bl, dx, ps, ns, n, a, bs, j, b, pp, rfl, L, hj, hb, q⟩ := h
    obtain ⟨dz, l, zz, zl, zy, zb, lb, ly, nyb⟩ := L.far
    have pl := L.rf.len
    have bn := L.ln
    have jl := (List.getElem?_eq_some_iff.mp hj).1
    obtain ⟨p, hp, hT⟩ := L.rf.at_ hj
    have hT' : H p = some (.tup [.int b.1, .int (b.2.1 : Nat), .bl b.2.2]) := hT
    refine ⟨_, rfl, y, dx, _, rfl, L.at_, lay_nm (by decide +kernel), _, rfl, y, zp, bl, dx, ps, ns, n, a, bs, j, b, rfl, L, hj, hb, ?_⟩
    refine ⟨_, rfl, y, _, dx, _, _, rfl, L.at_, T.ly, T.nBL, lay_bl .., _, rfl, bl, _, _, _, rfl, rfl, SqL.of L.lst, Refs.map_at hp, p, _, rfl, .inl (.inl hT'), rfl, _, _, rfl, _, _, rfl, _, _, rfl, rfl, ?_⟩
    refine ⟨_, rfl, _, rfl, _, rfl, (by show 3 ≤ sizeLine; decide), fun t ht => ?_⟩
    have sm := same_upd (o := .tup [.int b.1, .int (b.2.1 : Nat), .bl pp]) ht
    have ntb : bl ≠ t := ne_of_none L.lst ht
    have kp : ∀ {c : Addr} {o : HO} {u : HO}, c ≠ bl → H c = some o → (upd (upd H t (.tup [.int b.1, .int (b.2.1 : Nat), .bl pp])) bl u) c = some o := fun {c o u} c2 e => by
      rw [upd_ne c2]
      exact sm _ _ e
    refine ⟨_, rfl, y, _, dx, _, _, rfl, sm _ _ L.at_, T.ly, T.nBL, lay_bl .., _, rfl, bl, _, _, j, rfl, rfl, sm _ _ L.lst, ?_, ?_⟩
    · rw [List.length_map]
      exact ix_nat (by omega)
    · refine q (ps.set j t) _ ⟨?_, ⟨dz, l, kp zb zz, kp lb zl⟩, ?_, Refs.set (t := (b.1, b.2.1, pp)) ?_ (L.rf.mono fun c xs e => ?_) j, pin_wf L.wf hj, L.gd, L.n1, L.n2, ?_, ⟨dz, l, kp zb zz, kp lb zl, lb⟩⟩ fun c o _ c2 e => kp c2 e
      · rw [tot_pin hj]
        exact kp nyb L.at_
      · rw [upd_same, List.map_set]
      · rw [upd_ne ntb.symm, upd_same]
        rfl
      · exact kp (fun z => by rw [z, L.lst] at e; cases e) e
      · unfold pinB
        rw [List.length_set]
        exact bn
end
end K34

set_option Elab.async false
set_option linter.all false
set_option maxRecDepth 100000
set_option maxHeartbeats 4000000
namespace K34
open PySem PySem.Spec PyProof.Rows L2 Gu Ex
def prV (p : Int × Int) : List V := [.int p.1, .int p.2]
def gapsI (n : Int) : Int → List (Int × Int) → List (Int × Int)
  | low, [] => if low < n then [(low, n)] else []
  | low, (s, e) :: r => (if low < s then [(low, s)] else []) ++ gapsI n e r
def rngB (ns : List Int) (b : Blk) : Int × Int := (b.1, bEnd ns b)
theorem drop_at {α : Type} {rs : List α} {i : Nat} {t : α} (h : rs[i]? = some t) : rs.drop i = t :: rs.drop (i + 1) := by
  obtain ⟨hi, e⟩ := List.getElem?_eq_some_iff.mp h
  rw [List.drop_eq_getElem_cons hi, e]
theorem take_at {α : Type} {rs : List α} {i : Nat} {t : α} (h : rs[i]? = some t) : rs.take (i + 1) = rs.take i ++ [t] := by
  rw [List.take_add_one, h]
  rfl
/-- appending a new tuple to a new list -/
theorem Refs.more {α : Type} {f : α → List V} {H : Hp} {ps : List Addr} {ts : List α} {M t : Addr} {u : α} {xs : List V} (h : Refs f H ps ts) (hM : H M = some (.lst xs)) (ht : H t = none) : Refs f (upd (upd H t (.tup (f u))) M (.lst (xs ++ [.ref t]))) (ps ++ [t]) (ts ++ [u]) := by
  have nM : M ≠ t := ne_of_none hM ht
  refine (h.mono fun b ys e => ?_).app (.one ?_)
  · rw [upd_ne (fun z => by rw [z, hM] at e; cases e), upd_ne (ne_of_none e ht)]
    exact e
  · rw [upd_ne nM.symm, upd_same]
theorem ref_of {ps : List Addr} {i : Nat} {x : V} (h : (ps.map V.ref)[i]? = some x) : ∃ p, ps[i]? = some p ∧ x = .ref p := by
  rw [List.getElem?_map] at h
  cases e : ps[i]? with
  | none => rw [e] at h; cases h
  | some p => rw [e] at h; exact ⟨p, rfl, (Option.some.inj h).symm⟩
section
variable {P : Program} {w : World} {K : PySem.W.Frag} {mg : Str → Option Value} {base : Heap} {f : Addr} {fd : FuncData}
def spGaps : Sp := fun vs H Q _ => ∃ (L : Addr) (n : Int) (ps : List Addr) (rs : List (Int × Int)), vs = [.ref L, .int n] ∧ H L = some (.lst (ps.map V.ref)) ∧ Refs prV H ps rs ∧ rs.length ≤ 1000 ∧
  ∀ M qs H', H M = none → Same H H' → H' M = some (.lst (qs.map V.ref)) → Refs prV H' qs (gapsI n 0 rs) → Q (.ref M) H'
def spRanges (K : PySem.W.Frag) : Sp := fun vs H Q _ => ∃ (y zp bl dx : Addr) (ps : List Addr) (ns : List Int) (n : Int) (bs : List Blk) (M : Addr) (qs : List Addr) (cs : List Blk), vs = [.ref y, .ref M] ∧ Ly K H y zp bl dx ps ns n bs ∧ H M = some (.lst (qs.map V.ref)) ∧ Refs blkV H qs cs ∧ cs.length ≤ 1000 ∧ (∀ b ∈ cs, b.2.1 < ns.length) ∧
  ∀ D rs H', H D = none → Same H H' → H' D = some (.lst (rs.map V.ref)) → Refs prV H' rs (cs.map (rngB ns)) → Q (.ref D) H'
end
end K34

set_option Elab.async false
set_option linter.all false
set_option maxRecDepth 100000
set_option maxHeartbeats 4000000
namespace K34
open PySem PySem.Spec PyProof.Rows L2 Gu Ex
theorem filter_at {bs : List Blk} {i : Nat} {b : Blk} (p : Blk → Bool) (h : bs[i]? = some b) : (bs.take (i + 1)).filter p = (bs.take i).filter p ++ (if p b = true then [b] else []) := by
  rw [take_at h, List.filter_append, List.filter_cons, List.filter_nil]
/-- the gaps are right ranges -/
theorem gaps_ok {n : Int} : ∀ {rs : List (Int × Int)} {low : Int}, 0 ≤ low → (∀ r ∈ rs, 0 ≤ r.2) → ∀ g ∈ gapsI n low rs, 0 ≤ g.1 ∧ g.1 ≤ g.2
  | [], low, h, _, g, hg => by
    have hg2 : g ∈ (if low < n then [(low, n)] else []) := hg
    split at hg2
    · rw [List.mem_singleton.mp hg2]
      exact ⟨h, by show low ≤ n; omega⟩
    · cases hg2
  | (s, e) :: r, low, h, hr, g, hg => by
    rcases List.mem_append.mp (show g ∈ (if low < s then [(low, s)] else []) ++ gapsI n e r from hg) with z | z
    · split at z
      · rw [List.mem_singleton.mp z]
        exact ⟨h, by show low ≤ s; omega⟩
      · cases z
    · exact gaps_ok (hr (s, e) List.mem_cons_self) (fun x hx => hr x (List.mem_cons_of_mem _ hx)) g z
/-- the clear cells, as reckoned -/
def pinR (ns : List Int) (bs : List Blk) : List (Int × Int) := (bs.filter fun b => b.2.2).map (rngB ns)
def regI (ns : List Int) (k : Nat) (gs : List (Int × Int)) : Int := (gs.map fun g => cntI (sz ns k) g.1 g.2).sum
def clrI (ns : List Int) (n : Int) (bs : List Blk) (k : Nat) : Int := regI ns k (gapsI n 0 (pinR ns bs)) * sz ns k
theorem gaps_len {n : Int} : ∀ (rs : List (Int × Int)) (low : Int), (gapsI n low rs).length ≤ rs.length + 1
  | [], low => by
    show (if low < n then [(low, n)] else []).length ≤ 1
    split <;> simp
  | (s, e) :: r, low => by
    show ((if low < s then [(low, s)] else []) ++ gapsI n e r).length ≤ r.length + 1 + 1
    have := gaps_len (n := n) r e
    rw [List.length_append]
    split
    · rw [List.length_singleton]
      omega
    · rw [List.length_nil]
      omega
section
variable {P : Program} {w : World} {K : PySem.W.Frag} {mg : Str → Option Value} {base : Heap} {f : Addr} {fd : FuncData}
def spPinned (K : PySem.W.Frag) : Sp := fun vs H Q _ => ∃ (y zp bl dx : Addr) (ps : List Addr) (ns : List Int) (n : Int) (bs : List Blk), vs = [.ref y] ∧ Ly K H y zp bl dx ps ns n bs ∧
  ∀ D rs H', H D = none → Same H H' → H' D = some (.lst (rs.map V.ref)) → Refs prV H' rs (pinR ns bs) → Q (.ref D) H'
def spRegIn (K : PySem.W.Frag) : Sp := fun vs H Q _ => ∃ (y zp bl dx : Addr) (ps : List Addr) (ns : List Int) (n : Int) (bs : List Blk) (M : Addr) (qs : List Addr) (gs : List (Int × Int)) (k : Nat), vs = [.ref y, .ref M, .int k] ∧ Ly K H y zp bl dx ps ns n bs ∧ H M = some (.lst (qs.map V.ref)) ∧ Refs prV H qs gs ∧ gs.length ≤ 2000 ∧ (∀ g ∈ gs, 0 ≤ g.1 ∧ g.1 ≤ g.2) ∧ k < ns.length ∧
  ∀ H', Same H H' → Q (.int (regI ns k gs)) H'
def spClear (K : PySem.W.Frag) : Sp := fun vs H Q _ => ∃ (y zp bl dx : Addr) (ps : List Addr) (ns : List Int) (n : Int) (bs : List Blk) (k : Nat), vs = [.ref y, .int k] ∧ Ly K H y zp bl dx ps ns n bs ∧ k < ns.length ∧ ∀ H', Same H H' → Q (.int (clrI ns n bs k)) H'
end
end K34

set_option Elab.async false
set_option linter.all false
set_option maxRecDepth 100000
set_option maxHeartbeats 4000000
namespace K34
open PySem PySem.Spec PyProof.Rows L2 Gu Ex
def unpB (bs : List Blk) : List Blk := bs.filter fun b => !b.2.2
def lvK (cs : List Blk) : List (Key × V) := cs.map fun b => (Sum.inl b.1, V.int (b.2.1 : Nat))
theorem lvK_none {a : Int} : ∀ {cs : List Blk}, (∀ c ∈ cs, c.1 ≠ a) → valV (lvK cs) (Sum.inl a) = none
  | [], _ => rfl
  | c :: cs, h => by
    show valV ((Sum.inl c.1, V.int (c.2.1 : Nat)) :: lvK cs) (Sum.inl a) = none
    rw [valV_neg (fun e => h c List.mem_cons_self (Sum.inl.inj e))]
    exact lvK_none fun d hd => h d (List.mem_cons_of_mem _ hd)
theorem lvK_get : ∀ {cs : List Blk} {b : Blk}, cs.Pairwise (fun b c => b.1 < c.1) → b ∈ cs → valV (lvK cs) (Sum.inl b.1) = some (.int (b.2.1 : Nat))
  | c :: cs, b, hp, hb => by
    show valV ((Sum.inl c.1, V.int (c.2.1 : Nat)) :: lvK cs) (Sum.inl b.1) = _
    have hp2 := List.pairwise_cons.mp hp
    rcases List.mem_cons.mp hb with e | e
    · subst e
      exact valV_pos rfl
    · rw [valV_neg (fun z => by
        have h1 := hp2.1 b e
        have h2 : c.1 = b.1 := Sum.inl.inj z
        omega)]
      exact lvK_get hp2.2 e
theorem Wf.rise {ns : List Int} {n : Int} {bs : List Blk} (w : Wf ns n bs) (g : Good ns) : bs.Pairwise (fun b c => b.1 < c.1) := by
  refine List.pairwise_iff_getElem.mpr fun i j hi hj hij => ?_
  exact (w.lt g (List.getElem?_eq_getElem hi) (List.getElem?_eq_getElem hj) hij).2
/-- the cells of the unpinned blocks of level k or higher -/
def lseI (ns : List Int) (bs : List Blk) (k : Nat) : Int := (((unpB bs).filter fun b => decide (k ≤ b.2.1)).map fun b => sz ns b.2.1).sum
section
variable {P : Program} {w : World} {K : PySem.W.Frag} {mg : Str → Option Value} {base : Heap} {f : Addr} {fd : FuncData}
def spLevels (K : PySem.W.Frag) : Sp := fun vs H Q _ => ∃ (y zp bl dx : Addr) (ps : List Addr) (ns : List Int) (n : Int) (bs : List Blk), vs = [.ref y] ∧ Ly K H y zp bl dx ps ns n bs ∧ ∀ D H', H D = none → Same H H' → H' D = some (.dK (lvK (unpB bs))) → Q (.ref D) H'
theorem sc_unpinned_levels : FnScope ["self", "address", "level", "is_pinned"] ["self"] (defScope (inClass (top 38) 19)) := ⟨rfl, rfl, rfl, by decide +kernel, rfl, by decide +kernel, by decide +kernel⟩
theorem ok_levels (T : Tx K mg) (F : FnP K "unpinned_levels" "Layout.unpinned_levels" (inClass (top 38) 19) f fd) : FnOk P w K mg base CX0 1 f fd ["self"] (spLevels K) := by
  refine F.ok sc_unpinned_levels (fun vs H Q E h => ?_) (fun cdv A outer s H vs Q E hr h => ⟨_, PSs.nox (pss_one (ps_ret (pe_dc (own := [("address", 1), ("level", 2), ("is_pinned", 3)]) (g := gTup K 3 (gCons (gName 1) (gCons (gName 2) (gCons (gName 3) gNil)))) rfl sc_unpinned_levels.nd (pi_list (pe_fld (pv 0) rfl)) (blkOk_by (own := [("address", 1), ("level", 2), ("is_pinned", 3)]) (N := ["self", "address", "level", "is_pinned"]) (sc := defScope (inClass (top 38) 19)) (by decide +kernel)) (fun _ _ _ _ _ => pg_tup rfl (pgs_cons (pg_name (i := 1) sc_unpinned_levels.nd rfl (Or.inl rfl)) (pgs_cons (pg_name (i := 2) sc_unpinned_levels.nd rfl (Or.inl rfl)) (pgs_cons (pg_name (i := 3) sc_unpinned_levels.nd rfl (Or.inl rfl)) pgs_nil)))) (fun _ _ _ _ _ => (pts_one (pt_not (pt_val (pv 3))))) (fun _ _ _ _ _ => (pv 1)) (fun _ _ _ _ _ => (pv 2))))), ?_⟩)
  · obtain ⟨y, zp, bl, dx, ps, ns, n, bs, rfl, _⟩ := h
    rfl
  · obtain ⟨y, zp, bl, dx, ps, ns, n, bs, rfl, L, q⟩ := h
    have sl : sizeLine = 16777216 := sizeLine_eq
    have pl := L.rf.len
    have bn := L.ln
    refine ⟨_, rfl, y, _, dx, _, _, rfl, L.at_, T.ly, T.nBL, lay_bl .., bl, rfl, ⟨_, SqL.of L.lst⟩, fun D hD => ?_⟩
    refine dc_list (K := K) (a := bl) (xs := ps.map V.ref) (fun i G => G D = some (.dK (lvK ((bs.take i).filter fun b => !b.2.2))) ∧ Same H G) ⟨upd_same, same_upd hD⟩ (fun i G _ ⟨_, sm⟩ => SqL.of (sm _ _ L.lst)) ?_ ?_
    · rintro i x G hx ⟨hG, sm⟩
      obtain ⟨p, hp, rfl⟩ := ref_of hx
      obtain ⟨b, hb, hT⟩ := (L.rf.same sm).get hp
      have il : i < bs.length := (List.getElem?_eq_some_iff.mp hb).1
      have hT' : G p = some (.tup [.int b.1, .int (b.2.1 : Nat), .bl b.2.2]) := hT
      have fa := filter_at (fun b => !b.2.2) hb
      have fl := List.length_filter_le (fun b : Blk => !b.2.2) (bs.take i)
      rw [List.length_take] at fl
      refine ⟨p, _, rfl, .inl (.inl hT'), rfl, _, _, rfl, _, _, rfl, _, _, rfl, rfl, rfl, ?_⟩
      refine ⟨_, rfl, _, rfl, ?_⟩
      cases hq : b.2.2 with
      | true =>
        rw [hq] at fa
        refine iteF ⟨?_, sm⟩
        rw [fa]
        simpa using hG
      | false =>
        rw [hq] at fa
        have no : valV (lvK ((bs.take i).filter fun b => !b.2.2)) (Sum.inl b.1) = none := lvK_none fun c hc => by
          obtain ⟨j, hj, ej⟩ := mem_take_at (List.mem_filter.mp hc).1
          have := (L.wf.lt L.gd ej hb hj).2
          omega
        refine iteT ⟨_, rfl, _, rfl, _, Sum.inl b.1, rfl, hG, (by unfold lvK; rw [List.length_map]; omega), ?_, fun c o e => ?_⟩
        · rw [upd_same, putK_new _ no, fa]
          show _ = some (HO.dK (lvK (((bs.take i).filter fun b => !b.2.2) ++ [b])))
          unfold lvK
          rw [List.map_append]
          rfl
        · rw [upd_ne (ne_of_none e hD)]
          exact sm c o e
    · rintro G ⟨hG, sm⟩
      rw [List.length_map, pl, List.take_length] at hG
      exact q D G hD sm hG
def spLoose (K : PySem.W.Frag) : Sp := fun vs H Q _ => ∃ (y zp bl dx : Addr) (ps : List Addr) (ns : List Int) (n : Int) (bs : List Blk) (k : Nat), vs = [.ref y, .int k] ∧ Ly K H y zp bl dx ps ns n bs ∧ k < ns.length ∧ ∀ H', Same H H' → Q (.int (lseI ns bs k)) H'
end
end K34

set_option Elab.async false
set_option linter.all false
set_option maxRecDepth 100000
set_option maxHeartbeats 4000000
namespace K34
open PySem PySem.Spec PyProof.Rows L2 Gu Ex
/-- a list of blocks at a -/
structure Bl (ns : List Int) (H : Hp) (a : Addr) (ps : List Addr) (bs : List Blk) : Prop where
  at_ : H a = some (.lst (ps.map V.ref))
  rf : Refs blkV H ps bs
  lv : ∀ b ∈ bs, b.2.1 < ns.length
  ln : bs.length ≤ 1000
theorem Bl.same {ns : List Int} {H H' : Hp} {a : Addr} {ps : List Addr} {bs : List Blk} (h : Bl ns H a ps bs) (s : Same H H') : Bl ns H' a ps bs := ⟨s _ _ h.at_, h.rf.same s, h.lv, h.ln⟩
def hitB (ns : List Int) (lo hi : Int) (b : Blk) : Bool := b.2.2 && (decide (b.1 < hi) && decide (lo < bEnd ns b))
def clearB (ns : List Int) (bs : List Blk) (lo hi : Int) : Bool := bs.all fun b => !hitB ns lo hi b
theorem all_at {bs : List Blk} {p : Blk → Bool} {i : Nat} {b : Blk} (h : bs[i]? = some b) (k : (bs.take i).all p = true) (hp : p b = true) : (bs.take (i + 1)).all p = true := by
  rw [take_at h, List.all_append, k]
  simp [hp]
theorem all_no {bs : List Blk} {p : Blk → Bool} {b : Blk} (h : b ∈ bs) (hp : p b = false) : bs.all p = false := by
  cases e : bs.all p with
  | false => rfl
  | true =>
    have := List.all_eq_true.mp e b h
    rw [hp] at this
    cases this
end K34

set_option Elab.async false
set_option linter.all false
set_option maxRecDepth 100000
set_option maxHeartbeats 4000000
namespace K34
open PySem PySem.Spec PyProof.Rows L2 Gu Ex
def offB (ns : List Int) (lo hi : Int) (b : Blk) : Bool := decide (hi ≤ b.1) || decide (bEnd ns b ≤ lo)
def spaceB (ns : List Int) (n : Int) (bs : List Blk) (k : Nat) (a : Int) : Bool := decide (sz ns k ∣ a) && (decide (a + sz ns k ≤ n) && bs.all (offB ns a (a + sz ns k)))
section
variable {P : Program} {w : World} {K : PySem.W.Frag} {mg : Str → Option Value} {base : Heap} {f : Addr} {fd : FuncData}
def spSpace : Sp := fun vs H Q _ => ∃ (s a : Addr) (ns : List Int) (n : Int) (ps : List Addr) (bs : List Blk) (k : Nat) (ad : Int), vs = [.ref s, .int n, .ref a, .int k, .int ad] ∧ H s = some (.lst (ns.map V.int)) ∧ Bl ns H a ps bs ∧ Good ns ∧ k < ns.length ∧ 0 ≤ ad ∧ ad ≤ 2000000000000 ∧ ∀ H', Same H H' → Q (.bl (spaceB ns n bs k ad)) H'
theorem sc__law_has_space : FnScope ["_law_sizes_here", "_law_length", "_law_blocks_here", "_law_level", "_law_address", "_law_end", "_law_one"] ["_law_sizes_here", "_law_length", "_law_blocks_here", "_law_level", "_law_address"] (defScope (top 45)) := ⟨rfl, rfl, rfl, by decide +kernel, rfl, by decide +kernel, by decide +kernel⟩
theorem ok_space (T : Tx K mg) (F : FnP K "_law_has_space" "_law_has_space" (top 45) f fd) : FnOk P w K mg base CX0 1 f fd ["_law_sizes_here", "_law_length", "_law_blocks_here", "_law_level", "_law_address"] spSpace := by
  refine F.ok sc__law_has_space (fun vs H Q E h => ?_) (fun cdv A outer s H vs Q E hr h => ⟨_, PSs.nox (pss_cons (ps_set (i := 5) sc__law_has_space.nd rfl (by first | exact Or.inl rfl | exact Or.inr rfl) (pe_op op_add (pv 4) (pe_ix ix_list (pv 0) (pv 3) (fun _ _ => rfl)))) (pss_cons (ps_if (PW.pt (pw_or (pt_cmpR op_ne (pe_op op_mod (pv 4) (pe_ix ix_list (pv 0) (pv 3) (fun _ _ => rfl))) pe_int (nomark _)) (pw_or1 (pt_cmpR op_gt (pv 5) (pv 1) (nomark _))))) (pss_one (ps_ret pe_bl)) pss_nil) (pss_one (ps_ret (pe_callB (cr_all rfl) (by rfl) T.n_all (by decide +kernel) (pa_cons (pe_lc (own := [("_law_one", 6)]) (g := gName 6) rfl sc__law_has_space.nd (pi_list (pv 2)) (blkOk_by (own := [("_law_one", 6)]) (N := ["_law_sizes_here", "_law_length", "_law_blocks_here", "_law_level", "_law_address", "_law_end", "_law_one"]) (sc := defScope (top 45)) (by decide +kernel)) (fun _ _ _ _ _ => pg_name (i := 6) sc__law_has_space.nd rfl (Or.inl rfl)) (fun _ _ _ _ _ => pts_nil) (fun _ _ _ _ _ => (pe_or (pe_cmpR op_ge (pe_ix (r := rIxT K) ix_tup (pv 6) pe_int (fun _ _ => rfl)) (pv 5) (nomark _)) (pe_one (pe_cmpR op_le (pe_op op_add (pe_ix (r := rIxT K) ix_tup (pv 6) pe_int (fun _ _ => rfl)) (pe_ix (r := rIxL K) ix_list (pv 0) (pe_ix (r := rIxT K) ix_tup (pv 6) pe_int (fun _ _ => rfl)) (fun _ _ => rfl))) (pv 4) (nomark _)))))) pa_nil)))))), ?_⟩)
  · obtain ⟨s, a, ns, n, ps, bs, k, ad, rfl, _⟩ := h
    rfl
  · obtain ⟨s, a, ns, n, ps, bs, k, ad, rfl, hs, B, g, hk, a0, a1, q⟩ := h
    have pl := B.rf.len
    have bn := B.ln
    have sl : sizeLine = 16777216 := sizeLine_eq
    have z1 := (chain g).pos k hk
    refine ⟨_, rfl, _, rfl, _, rfl, s, _, _, _, rfl, rfl, SqL.of hs, at_sz hk, _, _, rfl, rfl, ?_⟩
    refine ⟨_, rfl, _, rfl, _, rfl, s, _, _, _, rfl, rfl, SqL.of hs, at_sz hk, _, _, rfl, rfl, by omega, ?_⟩
    by_cases hd : ad % sz ns k = 0
    case neg =>
      refine ⟨rfl, _, rfl, ifT (by rw [vF hd]; rfl) ?_⟩
      have e : spaceB ns n bs k ad = false := by
        unfold spaceB
        rw [decide_eq_false (fun z => hd (Int.emod_eq_zero_of_dvd z))]
        rfl
      have q' := q H (fun _ _ e => e)
      rw [e] at q'
      exact q'
    refine ⟨rfl, _, rfl, ifF (by rw [vT hd]; rfl) ?_⟩
    refine ⟨_, rfl, _, rfl, _, _, rfl, rfl, _, rfl, ?_⟩
    by_cases hl : n < ad + sz ns k
    · refine ifT (decide_eq_true hl) ?_
      have e : spaceB ns n bs k ad = false := by
        unfold spaceB
        rw [decide_eq_false (show ¬ ad + sz ns k ≤ n by omega), Bool.false_and, Bool.and_false]
      have q' := q H (fun _ _ e => e)
      rw [e] at q'
      exact q'
    refine ifF (decide_eq_false hl) ?_
    have e : spaceB ns n bs k ad = bs.all (offB ns ad (ad + sz ns k)) := by
      unfold spaceB
      rw [decide_eq_true (show ad + sz ns k ≤ n by omega), decide_eq_true (Int.dvd_of_emod_eq_zero hd)]
      rfl
    rw [e] at q
    refine ⟨_, rfl, a, rfl, ⟨_, SqL.of B.at_⟩, fun D hD => ?_⟩
    refine lc_list (K := K) (a := a) (xs := ps.map V.ref) (fun i G => G D = some (.lst (((bs.take i).map (offB ns ad (ad + sz ns k))).map V.bl)) ∧ Same H G) ⟨upd_same, same_upd hD⟩ (fun i G _ ⟨_, sm⟩ => SqL.of (sm _ _ B.at_)) ?_ ?_
    · rintro i x G hx ⟨hG, sm⟩
      obtain ⟨p, hp, rfl⟩ := ref_of hx
      obtain ⟨b, hb, hT⟩ := (B.rf.same sm).get hp
      have hT' : G p = some (.tup [.int b.1, .int (b.2.1 : Nat), .bl b.2.2]) := hT
      have bk := B.lv b (List.mem_of_getElem? hb)
      have il : i < bs.length := (List.getElem?_eq_some_iff.mp hb).1
      have fin : ∀ v : Bool, v = offB ns ad (ad + sz ns k) b → ∃ xs, G D = some (.lst xs) ∧ xs.length < sizeLine ∧ (upd G D (.lst (xs ++ [.bl v]))) D = some (.lst (((bs.take (i + 1)).map (offB ns ad (ad + sz ns k))).map V.bl)) ∧ Same H (upd G D (.lst (xs ++ [.bl v]))) := by
        rintro v rfl
        refine ⟨_, hG, (by rw [List.length_map, List.length_map, List.length_take]; omega), ?_, fun c o e => ?_⟩
        · rw [upd_same, take_at hb, List.map_append, List.map_append]
          rfl
        · rw [upd_ne (ne_of_none e hD)]
          exact sm c o e
      refine ⟨rfl, _, rfl, p, _, _, _, rfl, rfl, .inl (.inl hT'), rfl, _, rfl, _, _, rfl, rfl, _, rfl, ?_⟩
      by_cases h1 : ad + sz ns k ≤ b.1
      · refine ifT (decide_eq_true h1) ?_
        exact fin true (by unfold offB; rw [decide_eq_true h1]; rfl)
      · refine ifF (decide_eq_false h1) ?_
        refine ⟨_, rfl, p, _, _, _, rfl, rfl, .inl (.inl hT'), rfl, _, rfl, _, rfl, p, _, _, _, rfl, rfl, .inl (.inl hT'), rfl, s, _, _, _, rfl, rfl, SqL.of (sm _ _ hs), at_sz bk, _, _, rfl, rfl, _, rfl, _, _, rfl, rfl, ?_⟩
        exact fin _ (by unfold offB; rw [decide_eq_false h1]; rfl)
    · rintro G ⟨hG, sm⟩
      rw [List.length_map, pl, List.take_length] at hG
      refine ⟨D, _, rfl, SqL.of hG, ?_⟩
      rw [List.all_map]
      exact q G sm
end
end K34

set_option Elab.async false
set_option linter.all false
set_option maxRecDepth 100000
set_option maxHeartbeats 4000000
/-! sorted of tuples (int, int, bool) with distinct first parts -/
namespace SrtO
open PySem PyProof.Rows Srt
section
variable {prog : Program} {w : World} {A : Around} {E : Value → Shared → Prop} {s : Shared}
def IsTrip (h : Heap) (v : Value) (x : Int) : Prop := ∃ a o t y u b n, v = .ref a ∧ h.get? a = some o ∧ o.cls = .type "tuple" ∧ o.data = .seq #[.int x t, .int y u, .bool b] n
theorem IsTrip.keeps {h h' : Heap} {v : Value} {x : Int} (p : IsTrip h v x) (k : ∀ b o, h.get? b = some o → o.cls = .type "tuple" → h'.get? b = some o) : IsTrip h' v x := by
  obtain ⟨a, o, t, y, u, b, n, e, ho, hc, hd⟩ := p
  exact ⟨a, o, t, y, u, b, n, e, k _ _ ho hc, hc, hd⟩
abbrev ltI (k : Value → Int) (v u : Value) : Bool := decide (k v < k u)
theorem swo_int {α : Type} (k : α → Int) : Swo (fun v u => decide (k v < k u)) := by
  refine ⟨fun x y h => ?_, fun x y z h1 h2 => ?_⟩
  · have a := of_decide_eq_true h
    exact decide_eq_false (by omega)
  · have a := of_decide_eq_false h1
    have b := of_decide_eq_false h2
    exact decide_eq_false (by omega)
theorem trip_cmp {vs : List Value} {k : Value → Int} (hp : ∀ v ∈ vs, IsTrip s.heap v (k v)) (hd : ∀ v ∈ vs, ∀ u ∈ vs, k v = k u → v = u) : Cmp prog w A s (tuples' true) (fun p => p.1 ∈ vs) (lt2 (ltI k)) := by
  intro p q hm hm'
  show wpAny (model prog w) A (keyLt' (tuples' true) p.1 q.1) (fun r s' => s' = s ∧ r = decide (k p.1 < k q.1)) (fun _ _ => False) s
  have h1 := hp _ hm
  have h2 := hp _ hm'
  by_cases ek : k p.1 = k q.1
  · have ev := hd _ hm _ hm' ek
    rw [← ev]
    rw [decide_eq_false (Int.lt_irrefl _)]
    generalize k p.1 = x at h1
    obtain ⟨a, o, t, y, u, b, n, e, ho, hc, hdd⟩ := h1
    rw [e]
    refine PySem.W.kat_lt ho hdd ho hdd ?_
    show PySem.W.KatLex prog w A true (decide (3 < 3)) _ [(.int x t, .int x t), (.int y u, .int y u), (.bool b, .bool b)] 0 s
    refine PySem.W.kat_cons (SeqAt.EqAt.int_int x t x t prog w _ _ ?_)
    refine PySem.W.kat_go (fun _ => ?_) (fun e1 => absurd e1 (by simp))
    refine PySem.W.kat_yes (PySem.W.kat_cons (SeqAt.EqAt.int_int y u y u prog w _ _ ?_))
    refine PySem.W.kat_go (fun _ => ?_) (fun e1 => absurd e1 (by simp))
    refine PySem.W.kat_yes (PySem.W.kat_cons (SeqAt.EqAt.bool_bool b b prog w _ _ ?_))
    refine PySem.W.kat_go (fun _ => ?_) (fun e1 => absurd e1 (by simp))
    exact PySem.W.kat_yes (PySem.W.kat_nil ⟨rfl, rfl⟩)
  · generalize k p.1 = x at h1 ek
    generalize k q.1 = x' at h2 ek
    obtain ⟨a, o, t, y, u, b, n, e, ho, hc, hdd⟩ := h1
    obtain ⟨a', o', t', y', u', b', n', e', ho', hc', hdd'⟩ := h2
    rw [e, e']
    refine PySem.W.kat_lt ho hdd ho' hdd' ?_
    show PySem.W.KatLex prog w A true (decide (3 < 3)) _ [(.int x t, .int x' t'), (.int y u, .int y' u'), (.bool b, .bool b')] 0 s
    refine PySem.W.kat_cons (SeqAt.EqAt.int_int x t x' t' prog w _ _ ?_)
    refine PySem.W.kat_go (fun e1 => absurd (by simpa using e1) ek) (fun e1 => ?_)
    exact PySem.W.kat_no (oneLt_int ⟨rfl, rfl⟩)
theorem firsts3 {h : Heap} : ∀ {vs : List Value}, (∀ v ∈ vs, ∃ x, IsTrip h v x) → ∃ fs : List Value, PySem.W.KatTups h vs fs ∧ fs.length = vs.length ∧ ∀ f ∈ fs, ∃ x t, f = Value.int x t
  | [], _ => ⟨[], PySem.W.KatTups.nil, rfl, fun _ hm => by simp at hm⟩
  | v :: vs, hp => by
    obtain ⟨fs, h1, h2, h3⟩ := firsts3 (vs := vs) fun v' hm => hp v' (List.mem_cons_of_mem _ hm)
    obtain ⟨x, a, o, t, y, u, b, n, e, ho, hc, hd⟩ := hp v (List.mem_cons_self ..)
    subst e
    refine ⟨.int x t :: fs, PySem.W.KatTups.cons ho hc hd rfl h1, by rw [List.length_cons, List.length_cons, h2], fun f hm => ?_⟩
    rcases List.mem_cons.mp hm with rfl | hm
    · exact ⟨x, t, rfl⟩
    · exact h3 f hm
theorem trips_sortable {a : Addr} {vs : List Value} {k : Value → Int} (h0 : 0 < vs.length) (hp : ∀ v ∈ vs, IsTrip s.heap v (k v)) (hd : ∀ v ∈ vs, ∀ u ∈ vs, k v = k u → v = u) (ha : ∀ o, s.heap.get? a = some o → o.cls ≠ .type "tuple") : SortableO prog w A s a vs (ltI k) := by
  intro h' keep
  have hp' : ∀ v ∈ vs, IsTrip h' v (k v) := fun v hm => (hp v hm).keeps fun b o e c => keep b o (fun z => by subst z; exact ha o e c) e
  obtain ⟨fs, h1, h2, h3⟩ := firsts3 fun v hm => ⟨_, hp' v hm⟩
  refine ⟨tuples' true, fun Q E hq => ?_, trip_cmp hp' hd⟩
  refine PySem.W.kat_kind (T := .type "int") h1 (by omega) (fun f hm => ?_) (by rfl) ?_
  · obtain ⟨x, t, rfl⟩ := h3 f hm
    exact PySem.W.Looks.now
  · have e : (Value.type "int" != Value.type "tuple") = true := by first | decide +kernel | rfl | decide
    rw [e]
    exact hq
theorem sorted_trips {l : Addr} {vs : List Value} {k : Value → Int} {Q : Value → Shared → Prop} (hl : s.heap.IsList l vs.toArray) (hz : vs.length ≤ sizeLine) (hp : ∀ v ∈ vs, IsTrip s.heap v (k v)) (hdi : ∀ v ∈ vs, ∀ u ∈ vs, k v = k u → v = u)
    (h : ∀ (h' : Heap) (d : Addr) (out : List Value), Srtd (ltI k) out → Stb (ltI k) out vs → (∀ b o, s.heap.get? b = some o → h'.get? b = some o) → s.heap.objs.size ≤ d → (∃ n, h'.get? d = some (seqObj "list" out.toArray n)) → Q (.ref d) { s with heap := h' }) :
    wpAny (model prog w) A (call (.builtin "sorted") [.ref l]) Q E s := by
  refine sorted_ord (swo_int k) hl hz (fun h2 h₁ a ha kk => ?_) fun out hs hb => ?_
  · refine trips_sortable (s := { s with heap := h₁ }) (by omega) (fun v hm => (hp v hm).keeps fun b o e _ => (kk b o e).2) hdi fun o e => ?_
    have e' : some o = some (seqObj "list" vs.toArray 0) := e.symm.trans ha
    cases e'
    intro c
    exact absurd (Value.type.inj c) (by decide)
  · exact h _ _ out hs hb (fun b o e => sortedAll_old e) (Nat.le_succ _) (sortedAll_at s.heap vs out.toArray)
end
end SrtO
namespace L2
open PySem PySem.Spec PyProof.Rows
theorem vals3S {a b c : V} {us : List Value} (r : Vals [a, b, c] us) : ∃ u v w, us = [u, v, w] ∧ RelV a u ∧ RelV b v ∧ RelV c w := by
  cases r with
  | cons h1 r => cases r with
    | cons h2 r => cases r with
      | cons h3 r => cases r with
        | nil => exact ⟨_, _, _, rfl, h1, h2, h3⟩
def rSortedB (K : PySem.W.Frag) : List V → Hp → VK → Prop := fun vs H Q => ∃ (a : Addr) (xs : List V) (k : V → Int), vs = [V.ref a] ∧ SqL K H a xs ∧ (∀ x ∈ xs, ∃ t j b, x = V.ref t ∧ H t = some (.tup [.int (k x), .int j, .bl b])) ∧ (∀ x ∈ xs, ∀ y ∈ xs, k x = k y → x = y) ∧
  ∀ ys p, ys.Pairwise (fun x y => k x ≤ k y) → ys.Perm xs → H p = none → Q (.ref p) (upd H p (.lst ys))
section
variable {X : Cx}
theorem cr_sortedB : CallR X (.builtin "sorted") (rSortedB X.K) := by
  intro pins s σ H vs us Q I r h
  obtain ⟨a, xs, k, rfl, hs, hx, hdi, q⟩ := h
  obtain ⟨its, rv, hl, hz⟩ := I.list hs
  obtain ⟨u, rfl, ru⟩ := vals1 r
  obtain rfl : u = Value.ref a := ru
  obtain ⟨e1, e2⟩ := refs_back rv fun x m => by
    obtain ⟨t, _, _, e, _⟩ := hx x m
    exact ⟨t, e⟩
  have mem : ∀ v ∈ its, backV v ∈ xs := fun v hv => by rw [e1]; exact List.mem_map.mpr ⟨_, hv, rfl⟩
  refine SrtO.sorted_trips (k := fun u => k (backV u)) hl.isList (by rw [← rv.length]; exact hz) (fun v hv => ?_) (fun v hv u hu e => ?_) fun h' d out h1 h2 kp hd hn => ?_
  · obtain ⟨t, rfl⟩ := e2 v hv
    have hm : V.ref t ∈ xs := mem _ hv
    obtain ⟨t', j, b, e, ht⟩ := hx _ hm
    cases e
    obtain ⟨_, its2, r2, o, ho, hc, n, hd⟩ := I.hok _ _ ht
    obtain ⟨u1, u2, u3, rfl, ri, rj, rb⟩ := vals3S r2
    obtain ⟨t1, rfl⟩ := ri
    obtain ⟨t2, rfl⟩ := rj
    have e3 : u3 = .bool b := rb
    subst e3
    exact ⟨t, o, t1, j, t2, b, n, rfl, ho, hc, hd⟩
  · have z := hdi _ (mem v hv) _ (mem u hu) e
    obtain ⟨t, rfl⟩ := e2 v hv
    obtain ⟨t', rfl⟩ := e2 u hu
    have z2 : V.ref t = V.ref t' := z
    rw [V.ref.inj z2]
  · have h3 : ∀ u ∈ out, ∃ a, u = Value.ref a := fun u hu => e2 u (h2.perm.mem_iff.mp hu)
    obtain ⟨n, hn⟩ := hn
    have hb : (out.map backV).Perm xs := by
      rw [e1]
      exact h2.perm.map backV
    refine ⟨.ref d, upd H d (.lst (out.map backV)), I.laid (t' := s.toks) kp hd ⟨?_, out, n, vals_back h3, hn⟩, rfl, q _ d (List.pairwise_map.mpr (h1.imp fun {x y} e => ?_)) hb (I.hok.fresh hd)⟩
    · rw [hb.length_eq]
      exact hz
    · have z := of_decide_eq_false e
      exact Int.not_lt.mp z
end
end L2

set_option Elab.async false
set_option linter.all false
set_option maxRecDepth 100000
set_option maxHeartbeats 4000000
namespace K34
open PySem PySem.Spec PyProof.Rows L2 Gu Ex
/-- the block at an address -/
def bkA (G : Hp) (t : Addr) : Blk := match G t with
  | some (.tup [.int a, .int l, .bl p]) => (a, l.toNat, p)
  | _ => (0, 0, false)
def keyV (G : Hp) : V → Int
  | .ref t => (bkA G t).1
  | _ => 0
theorem bkA_of {G : Hp} {t : Addr} {b : Blk} (h : G t = some (.tup (blkV b))) : bkA G t = b := by
  unfold bkA
  rw [h]
  obtain ⟨a, l, p⟩ := b
  show (a, ((l : Nat) : Int).toNat, p) = (a, l, p)
  rw [Int.toNat_natCast]
theorem Refs.bk {G : Hp} {qs : List Addr} {bs : List Blk} (h : Refs blkV G qs bs) : bs = qs.map (bkA G) ∧ ∀ t ∈ qs, G t = some (.tup (blkV (bkA G t))) := by
  induction h with
  | nil => exact ⟨rfl, fun _ m => nomatch m⟩
  | cons e _ ih =>
    have e2 := bkA_of e
    refine ⟨by rw [List.map_cons, e2, ih.1], fun t ht => ?_⟩
    rcases List.mem_cons.mp ht with z | z
    · rw [z, e2]; exact e
    · exact ih.2 t z
theorem Refs.of_bk {G : Hp} : ∀ {qs : List Addr}, (∀ t ∈ qs, G t = some (.tup (blkV (bkA G t)))) → Refs blkV G qs (qs.map (bkA G))
  | [], _ => .nil
  | t :: qs, h => .cons (h t List.mem_cons_self) (Refs.of_bk fun u hu => h u (List.mem_cons_of_mem _ hu))
def Dj (ns : List Int) (b c : Blk) : Prop := bEnd ns b ≤ c.1 ∨ bEnd ns c ≤ b.1
/-- blocks as they are put, in any order -/
structure Un (ns : List Int) (n : Int) (bs : List Blk) : Prop where
  ok : ∀ b ∈ bs, b.2.1 < ns.length ∧ 0 ≤ b.1 ∧ sz ns b.2.1 ∣ b.1 ∧ bEnd ns b ≤ n
  dj : bs.Pairwise (Dj ns)
theorem Wf.un {ns : List Int} {n : Int} {bs : List Blk} (w : Wf ns n bs) : Un ns n bs := ⟨w.ok, w.so.imp fun h => .inl h⟩
theorem Un.snoc {ns : List Int} {n : Int} {bs : List Blk} {k : Nat} {a : Int} {p : Bool} (u : Un ns n bs) (hk : k < ns.length) (a0 : 0 ≤ a) (h : spaceB ns n bs k a = true) : Un ns n (bs ++ [(a, k, p)]) := by
  unfold spaceB at h
  rw [Bool.and_eq_true, Bool.and_eq_true] at h
  obtain ⟨h1, h2, h3⟩ := h
  have d1 := of_decide_eq_true h1
  have d2 := of_decide_eq_true h2
  refine ⟨fun b hb => ?_, List.pairwise_append.mpr ⟨u.dj, List.pairwise_singleton _ _, fun b hb c hc => ?_⟩⟩
  · rcases List.mem_append.mp hb with e | e
    · exact u.ok b e
    · rw [List.mem_singleton.mp e]
      exact ⟨hk, a0, d1, d2⟩
  · rw [List.mem_singleton.mp hc]
    have := List.all_eq_true.mp h3 b hb
    unfold offB at this
    rw [Bool.or_eq_true] at this
    rcases this with z | z
    · exact .inr (of_decide_eq_true z)
    · exact .inl (of_decide_eq_true z)
section
variable {ns : List Int} {n : Int} {bs : List Blk} {G : Hp} {qs : List Addr}
theorem Un.perm {cs : List Blk} (u : Un ns n bs) (p : cs.Perm bs) : Un ns n cs := ⟨fun b hb => u.ok b (p.mem_iff.mp hb), (p.pairwise_iff (fun h => h.symm)).mpr u.dj⟩
theorem Un.wf (u : Un ns n bs) (g : Good ns) (s : bs.Pairwise (fun b c => b.1 ≤ c.1)) : Wf ns n bs := by
  refine ⟨u.ok, List.pairwise_iff_getElem.mpr fun i j hi hj hij => ?_⟩
  have h1 := List.pairwise_iff_getElem.mp u.dj i j hi hj hij
  have h2 := List.pairwise_iff_getElem.mp s i j hi hj hij
  have h3 := (chain g).pos _ (u.ok _ (List.getElem_mem hj)).1
  rcases h1 with h | h
  · exact h
  · unfold bEnd at h
    omega
/-- what sorted wants -/
theorem Un.keys (u : Un ns n bs) (g : Good ns) (rf : Refs blkV G qs bs) : (∀ x ∈ qs.map V.ref, ∃ t j b, x = V.ref t ∧ G t = some (.tup [.int (keyV G x), .int j, .bl b])) ∧ ∀ x ∈ qs.map V.ref, ∀ y ∈ qs.map V.ref, keyV G x = keyV G y → x = y := by
  obtain ⟨e, h⟩ := rf.bk
  refine ⟨fun x hx => ?_, fun x hx y hy hk => ?_⟩
  · obtain ⟨t, ht, rfl⟩ := List.mem_map.mp hx
    exact ⟨t, _, _, rfl, h t ht⟩
  · obtain ⟨t, ht, rfl⟩ := List.mem_map.mp hx
    obtain ⟨t2, ht2, rfl⟩ := List.mem_map.mp hy
    obtain ⟨i, hi, ei⟩ := List.mem_iff_getElem.mp ht
    obtain ⟨j, hj, ej⟩ := List.mem_iff_getElem.mp ht2
    by_cases ij : i = j
    · subst ij
      rw [ei] at ej
      rw [ej]
    · exfalso
      have hk2 : (bkA G t).1 = (bkA G t2).1 := hk
      have pw := List.pairwise_iff_getElem.mp u.dj
      have li : i < bs.length := by rw [e, List.length_map]; exact hi
      have lj : j < bs.length := by rw [e, List.length_map]; exact hj
      have bi : bs[i] = bkA G t := by
        have : bs[i]? = some (bkA G t) := by rw [e, List.getElem?_map, List.getElem?_eq_getElem hi, ei]; rfl
        rw [List.getElem?_eq_getElem li] at this
        exact Option.some.inj this
      have bj : bs[j] = bkA G t2 := by
        have : bs[j]? = some (bkA G t2) := by rw [e, List.getElem?_map, List.getElem?_eq_getElem hj, ej]; rfl
        rw [List.getElem?_eq_getElem lj] at this
        exact Option.some.inj this
      have p1 := (chain g).pos _ (u.ok _ (List.getElem_mem li)).1
      have p2 := (chain g).pos _ (u.ok _ (List.getElem_mem lj)).1
      have dd : Dj ns bs[i] bs[j] := by
        rcases Nat.lt_or_gt_of_ne ij with l | l
        · exact pw i j li lj l
        · exact (pw j i lj li l).symm
      have hk3 : bs[i].1 = bs[j].1 := by rw [bi, bj]; exact hk2
      unfold Dj bEnd at dd
      omega
def unR : V → Addr
  | .ref t => t
  | _ => 0
theorem map_unR (qs : List Addr) : (qs.map V.ref).map unR = qs := by
  induction qs with
  | nil => rfl
  | cons t qs ih => rw [List.map_cons, List.map_cons, ih]; rfl
theorem refs_of : ∀ {zs : List V}, (∀ v ∈ zs, ∃ t, v = V.ref t) → ∃ qs : List Addr, zs = qs.map V.ref
  | [], _ => ⟨[], rfl⟩
  | v :: zs, h => by
    obtain ⟨t, rfl⟩ := h v List.mem_cons_self
    obtain ⟨qs, rfl⟩ := refs_of (zs := zs) fun u hu => h u (List.mem_cons_of_mem _ hu)
    exact ⟨t :: qs, rfl⟩
theorem Un.sorted (u : Un ns n bs) (g : Good ns) (rf : Refs blkV G qs bs) {zs : List V} (hs : zs.Pairwise (fun x y => keyV G x ≤ keyV G y)) (hp : zs.Perm (qs.map V.ref)) : ∃ qs' bs', zs = qs'.map V.ref ∧ Refs blkV G qs' bs' ∧ bs'.Perm bs ∧ Wf ns n bs' := by
  obtain ⟨e, h⟩ := rf.bk
  obtain ⟨qs', hq, hz⟩ : ∃ qs' : List Addr, qs'.Perm qs ∧ zs = qs'.map V.ref := by
    obtain ⟨qs', rfl⟩ := refs_of (zs := zs) fun v hv => by
      obtain ⟨t, _, rfl⟩ := List.mem_map.mp (hp.mem_iff.mp hv)
      exact ⟨t, rfl⟩
    have := hp.map unR
    rw [map_unR, map_unR] at this
    exact ⟨qs', this, rfl⟩
  subst hz
  have rf' := Refs.of_bk (G := G) (qs := qs') fun t ht => h t (hq.mem_iff.mp ht)
  have pm : (qs'.map (bkA G)).Perm bs := by rw [e]; exact hq.map _
  refine ⟨qs', _, rfl, rf', pm, (u.perm pm).wf g ?_⟩
  have hs' : qs'.Pairwise (fun x y => (bkA G x).1 ≤ (bkA G y).1) := (List.pairwise_map (f := V.ref) (R := fun x y => keyV G x ≤ keyV G y)).mp hs
  exact List.pairwise_map.mpr hs'
/-- sorted lists of the same blocks are one -/
theorem uniqB : ∀ {l m : List Blk}, l.Pairwise (fun b c => b.1 < c.1) → m.Pairwise (fun b c => b.1 < c.1) → l.Perm m → l = m
  | [], m, _, _, h => (List.Perm.eq_nil h.symm).symm
  | x :: l, [], _, _, h => absurd h.length_eq (by simp)
  | x :: l, y :: m, hl, hm, h => by
    have pl := List.pairwise_cons.mp hl
    have pm := List.pairwise_cons.mp hm
    have e : x = y := by
      rcases List.mem_cons.mp (h.mem_iff.mp (List.mem_cons_self (a := x) (l := l))) with e | e
      · exact e
      · rcases List.mem_cons.mp (h.mem_iff.mpr (List.mem_cons_self (a := y) (l := m))) with e2 | e2
        · exact e2.symm
        · have := pm.1 x e
          have := pl.1 y e2
          omega
    subst e
    rw [uniqB pl.2 pm.2 (List.Perm.cons_inv h)]
end
theorem dn_iff {s e i : Int} (hs : 1 ≤ s) : i < e / s ↔ i * s + s ≤ e := by
  have h : i + 1 ≤ e / s ↔ (i + 1) * s ≤ e := Int.le_ediv_iff_mul_le (by omega)
  rw [Int.add_mul, Int.one_mul] at h
  omega
theorem join2 {α β : Type} {G : Prop} (Pc : α → β → Prop) {R : α → β → Prop} (h1 : (∀ c d, Pc c d → R c d) → G) (h2 : ∀ c d, Pc c d → R c d) : G := h1 h2
section
variable {P : Program} {w : World} {K : PySem.W.Frag} {mg : Str → Option Value} {base : Heap} {f : Addr} {fd : FuncData}
def spBlocks : Sp := fun vs H Q _ => ∃ (r s : Addr) (ns : List Int) (n many one : Int), vs = [.ref r, .ref s, .int n, .int many, .int one] ∧ Rng H r ∧ H s = some (.lst (ns.map V.int)) ∧ s ≠ r ∧ Good ns ∧ 1 ≤ n ∧ n ≤ 1000000000000 ∧ 0 ≤ many ∧ many ≤ 100 ∧ 0 ≤ one ∧ one ≤ 100 ∧
  ∀ a qs bs H', H a = none → Stp r H H' → H' a = some (.lst (qs.map V.ref)) → Refs blkV H' qs bs → Wf ns n bs → (bs.length : Int) ≤ many → Q (.ref a) H'
theorem sc__law_blocks : FnScope ["_law_rng_here", "_law_sizes_here", "_law_length", "_law_many", "_law_one_in", "_law_result", "_law_k", "_law_level", "_law_address", "_law_is_pinned"] ["_law_rng_here", "_law_sizes_here", "_law_length", "_law_many", "_law_one_in"] (defScope (top 46)) := ⟨rfl, rfl, rfl, by decide +kernel, rfl, by decide +kernel, by decide +kernel⟩
theorem ok_blocks (T : Tx K mg) (D__law_draw : Df P w K mg base 1 "_law_draw" ["_law_rng_here", "_law_many"] spDraw) (D__law_has_space : Df P w K mg base 1 "_law_has_space" ["_law_sizes_here", "_law_length", "_law_blocks_here", "_law_level", "_law_address"] spSpace)
    (F : FnP K "_law_blocks" "_law_blocks" (top 46) f fd) : FnOk P w K mg base CX0 2 f fd ["_law_rng_here", "_law_sizes_here", "_law_length", "_law_many", "_law_one_in"] spBlocks := by
  refine F.ok sc__law_blocks (fun vs H Q E h => ?_) (fun cdv A outer s H vs Q E hr h => ⟨_, PSs.nox (pss_cons (ps_set (i := 5) sc__law_blocks.nd rfl (by first | exact Or.inl rfl | exact Or.inr rfl) (pe_lst pa_nil)) (pss_cons (ps_for PassesOwn.never rfl (pi_range1 rfl T.n_range (pa_cons (pcall D__law_draw hr (pa_cons (pv 0) (pa_cons (pe_op op_add (pv 3) pe_int) pa_nil))) pa_nil)) (pg_name (i := 6) sc__law_blocks.nd rfl (by first | exact Or.inl rfl | exact Or.inr rfl)) (pss_cons (ps_set (i := 7) sc__law_blocks.nd rfl (by first | exact Or.inl rfl | exact Or.inr rfl) (pcall D__law_draw hr (pa_cons (pv 0) (pa_cons (pe_callB call_len_seq (by rfl) T.n_len (by decide +kernel) (pa_cons (pv 1) pa_nil)) pa_nil)))) (pss_one (ps_if (pt_cmpR op_le (pe_ix ix_list (pv 1) (pv 7) (fun _ _ => rfl)) (pv 2) (nomark _)) (pss_cons (ps_set (i := 8) sc__law_blocks.nd rfl (by first | exact Or.inl rfl | exact Or.inr rfl) (pe_op op_mul (pcall D__law_draw hr (pa_cons (pv 0) (pa_cons (pe_op op_fdivW (pv 2) (pe_ix ix_list (pv 1) (pv 7) (fun _ _ => rfl))) pa_nil))) (pe_ix ix_list (pv 1) (pv 7) (fun _ _ => rfl)))) (pss_cons (ps_set (i := 9) sc__law_blocks.nd rfl (by first | exact Or.inl rfl | exact Or.inr rfl) (pe_and (pe_cmpR op_gt (pv 4) pe_int (nomark _)) (pe_one (pe_cmpR op_eq (pcall D__law_draw hr (pa_cons (pv 0) (pa_cons (pe_callB (call_max2 rfl) (by rfl) T.n_max (by decide +kernel) (pa_cons pe_int (pa_cons (pv 4) pa_nil))) pa_nil))) pe_int (nomark _))))) (pss_one (ps_if (pt_val (pcall D__law_has_space hr (pa_cons (pv 1) (pa_cons (pv 2) (pa_cons (pv 5) (pa_cons (pv 7) (pa_cons (pv 8) pa_nil))))))) (pss_one (ps_expr (pe_bm PySem.F.plainAttrs_list PySem.F.slot_list_append PySem.F.type_list_append mt_append (pv 5) (pa_cons (pe_tup (pa_cons (pv 8) (pa_cons (pv 7) (pa_cons (pv 9) pa_nil)))) pa_nil)))) pss_nil)))) pss_nil)))) (pss_one (ps_ret (pe_callB cr_sortedB (by rfl) T.n_sorted (by decide +kernel) (pa_cons (pv 5) pa_nil)))))), ?_⟩)
  · obtain ⟨r, s, ns, n, many, one, rfl, _⟩ := h
    rfl
  · obtain ⟨r, s, ns, n, many, one, rfl, hR, hs, nsr, g, n1, n2, m1, m2, o1, o2, q⟩ := h
    have sl : sizeLine = 16777216 := sizeLine_eq
    have big : (10 : Int) ^ 40 = 10000000000000000000000000000000000000000 := by decide
    have g8 := g.len
    refine ⟨Nat.zero_le _, fun R hRn => ?_⟩
    have nrR : R ≠ r := (hR.ne hRn).symm
    have s0 : Stp r H (upd H R (.lst [])) := (Stp.refl hR).new hRn
    have hR0 : (upd H R (.lst [])) R = some (.lst []) := upd_same
    generalize upd H R (.lst []) = H0 at s0 hR0
    refine ⟨_, rfl, _, rfl, _, _, rfl, rfl, r, many + 1, rfl, s0.1, by omega, by omega, fun d H1 d0 d1 s1 => ?_⟩
    refine ⟨d, rfl, by omega, by omega, ?_⟩
    have two : 3 ≤ sizeLine := by decide
    refine for_range (fun i σ G => ∃ (x6 x7 x8 x9 : Option V) (qs : List Addr) (bs : List Blk), σ = [some (.ref r), some (.ref s), some (.int n), some (.int many), some (.int one), some (.ref R), x6, x7, x8, x9] ∧ Stp r H G ∧ G R = some (.lst (qs.map V.ref)) ∧ Refs blkV G qs bs ∧ Un ns n bs ∧ bs.length ≤ i)
      ⟨none, none, none, none, [], [], rfl, s0.trans s1, s1.2 _ _ nrR hR0, .nil, ⟨fun _ m => (nomatch m), .nil⟩, Nat.le_refl _⟩ ?_ ?_
    · rintro i σ G hi ⟨x6, x7, x8, x9, qs, bs, rfl, st, hG, rf, un, bl⟩
      have hi2 : i < 101 := by omega
      have hsG : G s = some (.lst (ns.map V.int)) := st.2 _ _ nsr hs
      refine ⟨_, rfl, _, rfl, s, _, rfl, .inl (SqL.of hsG), r, _, rfl, st.1, (by rw [List.length_map]; omega), (by rw [List.length_map]; omega), fun d7 G1 a0 a1 t1 => ?_⟩
      rw [List.length_map] at a1
      obtain ⟨k, rfl⟩ : ∃ k : Nat, d7 = (k : Int) := ⟨d7.toNat, by omega⟩
      have hk : k < ns.length := by omega
      have st1 := st.trans t1
      have mv : ∀ {G G' : Hp}, Stp r G G' → Refs blkV G qs bs → Rng G r → Refs blkV G' qs bs := fun {G G'} t rf rg => rf.mono fun p xs e => t.2 p _ (fun z => by
        obtain ⟨_, _, e2, _⟩ := rg
        rw [z, e2] at e
        cases e) e
      have rf1 := mv t1 rf st.1
      have hG1 := t1.2 _ _ nrR hG
      have hs1 := st1.2 _ _ nsr hs
      have z1 := (chain g).pos k hk
      have z2 := sz_le g hk
      refine ⟨_, rfl, _, rfl, s, _, _, _, rfl, rfl, SqL.of hs1, at_sz hk, _, rfl, _, _, rfl, rfl, _, rfl, ?_⟩
      by_cases hc : sz ns k ≤ n
      case neg =>
        exact ifF (decide_eq_false hc) ⟨_, _, _, _, qs, bs, rfl, st1, hG1, rf1, un, by omega⟩
      refine ifT (decide_eq_true hc) ?_
      have j1 : 1 ≤ n / sz ns k := (Int.le_ediv_iff_mul_le (by omega)).mpr (by omega)
      have j2 : n / sz ns k ≤ 1000000000000 := Int.le_trans (Int.ediv_le_self _ (by omega)) n2
      refine ⟨_, rfl, _, rfl, _, rfl, _, rfl, s, _, _, _, rfl, rfl, SqL.of hs1, at_sz hk, _, _, rfl, rfl, wide_div (b := 30) (by omega) (by omega) (by decide) (by decide), r, _, rfl, st1.1, j1, by omega, fun d8 G2 b0 b1 t2 => ?_⟩
      have st2 := st1.trans t2
      have hs2 := st2.2 _ _ nsr hs
      refine ⟨_, rfl, _, rfl, s, _, _, _, rfl, rfl, SqL.of hs2, at_sz hk, _, _, rfl, rfl, .inr ⟨by omega, by omega⟩, ?_⟩
      have ad0 : 0 ≤ d8 * sz ns k := Int.mul_nonneg b0 (by omega)
      have ad1 : d8 * sz ns k ≤ 1000000000000 := by
        have h1 := (dn_iff (s := sz ns k) (e := n) (i := d8) z1).mp b1
        omega
      have rf2 := mv t2 rf1 st1.1
      have hG2 := t2.2 _ _ nrR hG1
      refine join2 (fun (_ : Bool) (G3 : Hp) => Stp r G2 G3) (R := ?R) (fun tail => ?main) ?tl
      case main =>
        by_cases o0 : 0 < one
        · refine ⟨_, rfl, _, _, rfl, rfl, true, bT (by omega), iteT ?_⟩
          have mx : 1 ≤ (if one > 1 then one else 1) ∧ (if one > 1 then one else 1) ≤ 100 := by
            split <;> omega
          refine ⟨_, rfl, _, rfl, _, _, rfl, r, _, rfl, st2.1, mx.1, by omega, fun d9 G3 c0 c1 t3 => ⟨rfl, ?_⟩⟩
          generalize decide (V.int d9 = V.int 0) = p
          exact tail p G3 t3
        · refine ⟨_, rfl, _, _, rfl, rfl, false, bF (by omega), iteF ?_⟩
          exact tail false G2 (Stp.refl st2.1)
      case tl =>
      intro p G3 t3
      have st3 := st2.trans t3
      have hs3 := st3.2 _ _ nsr hs
      have rf3 := mv t3 rf2 st2.1
      have hG3 := t3.2 _ _ nrR hG2
      refine ⟨_, rfl, _, rfl, _, rfl, _, rfl, _, rfl, s, R, ns, n, qs, bs, k, _, rfl, hs3, ⟨hG3, rf3, fun b hb => (un.ok b hb).1, by omega⟩, g, hk, ad0, by omega, fun G4 s4 => ?_⟩
      have st4 : Stp r H G4 := ⟨by
        obtain ⟨x, y, e, z⟩ := st3.1
        exact ⟨x, y, s4 _ _ e, z⟩, fun b o nb e => s4 _ _ (st3.2 b o nb e)⟩
      have rf4 := rf3.same s4
      have hG4 := s4 _ _ hG3
      refine ⟨_, rfl, ?_⟩
      cases hsp : spaceB ns n bs k (d8 * sz ns k) with
      | false => exact iteF ⟨_, _, _, _, qs, bs, rfl, st4, hG4, rf4, un, by omega⟩
      | true =>
        have ql := rf.len
        refine iteT ⟨_, rfl, .inl ⟨rfl, _, SqL.of hG4⟩, _, rfl, _, rfl, _, rfl, two, fun u hu => ?_⟩
        have nM : R ≠ u := ne_of_none hG4 hu
        refine ⟨R, _, _, rfl, rfl, (by rw [upd_ne nM]; exact hG4), (by rw [List.length_map]; omega), ?_⟩
        refine ⟨_, _, _, _, qs ++ [u], bs ++ [(d8 * sz ns k, k, _)], rfl, ?_, ?_, Refs.more (u := (d8 * sz ns k, k, _)) rf4 hG4 hu, un.snoc hk ad0 hsp, (by rw [List.length_append, List.length_singleton]; omega)⟩
        · refine ⟨?_, fun b o nb e => ?_⟩
          · obtain ⟨x, y, e, z⟩ := st4.1
            exact ⟨x, y, by rw [upd_ne nrR.symm, upd_ne (ne_of_none e hu)]; exact e, z⟩
          · rw [upd_ne (ne_of_none e hRn), upd_ne (ne_of_none (st4.2 b o nb e) hu)]
            exact st4.2 b o nb e
        · rw [upd_same, List.map_append]
          rfl
    · rintro σ G ⟨x6, x7, x8, x9, qs, bs, rfl, st, hG, rf, un, bl⟩
      obtain ⟨k1, k2⟩ := un.keys g rf
      refine ⟨_, rfl, R, _, keyV G, rfl, SqL.of hG, k1, k2, fun zs p hs' hp hpn => ?_⟩
      obtain ⟨qs', bs', rfl, rf', pm, wf⟩ := un.sorted g rf hs' hp
      refine q p qs' bs' _ (st.free hpn) (st.new hpn) upd_same (rf'.same (same_upd hpn)) wf ?_
      rw [pm.length_eq]
      omega
end
end K34

set_option Elab.async false
set_option linter.all false
set_option maxRecDepth 100000
set_option maxHeartbeats 4000000
namespace K34
open PySem PySem.Spec PyProof.Rows L2 Gu Ex
def blkD (b : Blk) : PyData := .tuple [.int b.1, .int (b.2.1 : Nat), .bool b.2.2]
theorem Refs.dp {K : PySem.W.Frag} {H : Hp} {qs : List Addr} {bs : List Blk} (h : Refs blkV H qs bs) : DpAll K H (qs.map V.ref) (bs.map blkD) := by
  induction h with
  | nil => exact .nil
  | cons e _ ih => exact .cons (.tup (SqT.of e) (.cons (.int _) (.cons (.int _) (.cons (.bl _) .nil)))) ih
theorem lay_blk : ∀ bs : List Blk, PyData.canLayAll0 (bs.map blkD) = true
  | [] => rfl
  | b :: r => by
    have e : (blkD b).canLay0 = true := rfl
    simp only [List.map_cons, PyData.canLayAll0, e, lay_blk r, Bool.and_self]
theorem dep_blk : ∀ bs : List Blk, PyData.depthAll (bs.map blkD) ≤ 1
  | [] => Nat.zero_le _
  | b :: r => by
    have e : (blkD b).depth = 1 := rfl
    simp only [List.map_cons, PyData.depthAll, e]
    have := dep_blk r
    omega
theorem shaped_blk (bs : List Blk) : SeqAt.shaped (.list (bs.map blkD)) = true := by
  have c : (PyData.list (bs.map blkD)).canLay0 = true := lay_blk bs
  have e : (PyData.list (bs.map blkD)).depth ≤ 2 := by
    show PyData.depthAll (bs.map blkD) + 1 ≤ 2
    have := dep_blk bs
    omega
  unfold SeqAt.shaped
  rw [c]
  simp
  omega
theorem trues_len (i : Nat) : (List.map V.bl (List.replicate i true)).length = i := by simp
theorem trues_more (i : Nat) : List.map V.bl (List.replicate i true) ++ [V.bl true] = List.map V.bl (List.replicate (i + 1) true) := by
  rw [List.replicate_succ', List.map_append]
  rfl
theorem all_trues (i : Nat) : (List.replicate i true).all id = true := by
  rw [List.all_replicate]
  split <;> rfl

theorem eqv_ints : ∀ ns ms : List Int, PyData.eqvAll (ns.map PyData.int) (ms.map PyData.int) = decide (ns = ms)
  | [], [] => rfl
  | [], _ :: _ => rfl
  | _ :: _, [] => rfl
  | n :: ns, m :: ms => by
    show ((n == m) && PyData.eqvAll (ns.map PyData.int) (ms.map PyData.int)) = _
    rw [eqv_ints ns ms]
    by_cases h : n = m
    · subst h
      simp
    · simp [h]
theorem eqv_blk (b c : Blk) : PyData.eqv (blkD b) (blkD c) = decide (b = c) := by
  obtain ⟨a, k, p⟩ := b
  obtain ⟨a2, k2, p2⟩ := c
  show ((a == a2) && (((k : Int) == (k2 : Int)) && ((p == p2) && true))) = _
  by_cases h1 : a = a2
  · by_cases h2 : k = k2
    · by_cases h3 : p = p2
      · subst h1 h2 h3
        simp
      · simp [h1, h2, h3]
    · have h2' : ¬ (k : Int) = (k2 : Int) := by omega
      simp [h1, h2, h2']
  · simp [h1]
theorem eqv_blks : ∀ bs cs : List Blk, PyData.eqvAll (bs.map blkD) (cs.map blkD) = decide (bs = cs)
  | [], [] => rfl
  | [], _ :: _ => rfl
  | _ :: _, [] => rfl
  | b :: bs, c :: cs => by
    show (PyData.eqv (blkD b) (blkD c) && PyData.eqvAll (bs.map blkD) (cs.map blkD)) = _
    rw [eqv_blks bs cs, eqv_blk]
    by_cases h : b = c
    · subst h
      simp
    · simp [h]
theorem dp_ints {K : PySem.W.Frag} {H : Hp} : ∀ ns : List Int, DpAll K H (ns.map V.int) (ns.map PyData.int)
  | [] => .nil
  | n :: r => .cons (.int n) (dp_ints r)
theorem flat : ∀ ns : List Int, PyData.depthAll (ns.map PyData.int) = 0
  | [] => rfl
  | n :: r => by
    show max 0 (PyData.depthAll (r.map PyData.int)) = 0
    rw [flat r]
    rfl
theorem can_lay : ∀ ns : List Int, PyData.canLayAll0 (ns.map PyData.int) = true
  | [] => rfl
  | n :: r => by simp only [List.map_cons, PyData.canLayAll0, PyData.canLay0, can_lay r, Bool.and_self]
theorem shaped_ints (ns : List Int) : SeqAt.shaped (.list (ns.map PyData.int)) = true := by
  have e : (PyData.list (ns.map PyData.int)).depth = 1 := by
    show PyData.depthAll (ns.map PyData.int) + 1 = 1
    rw [flat]
  have c : (PyData.list (ns.map PyData.int)).canLay0 = true := can_lay ns
  unfold SeqAt.shaped
  rw [c, e]
  rfl
section
variable {P : Program} {w : World} {K : PySem.W.Frag} {mg : Str → Option Value} {base : Heap} {f : Addr} {fd : FuncData}
def spBlk (K : PySem.W.Frag) : Sp := fun vs H Q _ => ∃ (y zp bl dx : Addr) (ps : List Addr) (ns : List Int) (n : Int) (bs : List Blk), vs = [.ref y] ∧ Ly K H y zp bl dx ps ns n bs ∧ ∀ l, H l = none → Q (.ref l) (upd H l (.lst (ps.map V.ref)))
theorem sc_blocks : FnScope ["self"] ["self"] (defScope (inClass (top 38) 7)) := ⟨rfl, rfl, rfl, by decide +kernel, rfl, by decide +kernel, by decide +kernel⟩
theorem ok_blk (T : Tx K mg) (F : FnP K "blocks" "Layout.blocks" (inClass (top 38) 7) f fd) : FnOk P w K mg base CX0 1 f fd ["self"] (spBlk K) := by
  refine F.ok sc_blocks (fun vs H Q E h => ?_) (fun cdv A outer s H vs Q E hr h => ⟨_, PSs.nox (pss_one (ps_ret (pe_callTy call_list_of (by rfl) T.n_list (by decide +kernel) (pa_cons (pe_fld (pv 0) rfl) pa_nil)))), ?_⟩)
  · obtain ⟨y, zp, bl, dx, ps, ns, n, bs, rfl, _⟩ := h
    rfl
  · obtain ⟨y, zp, bl, dx, ps, ns, n, bs, rfl, L, q⟩ := h
    exact ⟨_, rfl, y, _, dx, _, _, rfl, L.at_, T.ly, T.nBL, lay_bl .., bl, _, rfl, .inl (SqL.of L.lst), q⟩
def spSEq (K : PySem.W.Frag) : Sp := fun vs H Q _ => ∃ (p q : Addr) (ns ms : List Int), vs = [.ref p, .ref q] ∧ SzAt (He.ga K "Sizes") H p ns ∧ SzAt (He.ga K "Sizes") H q ms ∧ Q (.bl (decide (ns = ms))) H
theorem sc_Sizes_eq : FnScope ["self", "other"] ["self", "other"] (defScope (inClass (top 18) 5)) := ⟨rfl, rfl, rfl, by decide +kernel, rfl, by decide +kernel, by decide +kernel⟩
theorem ok_seq (T : Tx K mg) (F : FnP K "__eq__" "Sizes.__eq__" (inClass (top 18) 5) f fd) : FnOk P w K mg base CX0 1 f fd ["self", "other"] (spSEq K) := by
  refine F.ok sc_Sizes_eq (fun vs H Q E h => ?_) (fun cdv A outer s H vs Q E hr h => ⟨_, PSs.nox (pss_one (ps_ret (pe_and (pe_callB call_isi (by rfl) T.n_isinstance (by decide +kernel) (pa_cons (pv 1) (pa_cons (pe_glob (v := .ref _) rfl T.g_Sizes rfl) pa_nil))) (pe_one (pe_cmpR (op_eqD hr.units) (pe_fld (pv 0) rfl) (pe_fld (pv 1) rfl) (nomark _)))))), ?_⟩)
  · obtain ⟨p, q, ns, ms, rfl, _⟩ := h
    rfl
  · obtain ⟨p, r, ns, ms, rfl, ⟨dx, l, h1, h2⟩, ⟨dy, m, k1, k2⟩, q⟩ := h
    refine ⟨_, rfl, _, _, _, _, true, rfl, .own _, T.iS.ty k1, T.iS.ki, _, rfl, iteT ?_⟩
    refine ⟨_, rfl, p, _, dx, _, _, rfl, h1, T.cl, T.nSL, szF_get l, _, rfl, r, _, dy, _, _, rfl, k1, T.cl, T.nSL, szF_get m, _, _, .lst (SqL.of h2) (dp_ints ns), .lst (SqL.of k2) (dp_ints ms), shaped_ints _, shaped_ints _, ?_⟩
    show Q (.bl (PyData.eqvAll (ns.map PyData.int) (ms.map PyData.int))) H
    rw [eqv_ints]
    exact q
def spLen (K : PySem.W.Frag) : Sp := fun vs H Q _ => ∃ (p : Addr) (ns : List Int), vs = [.ref p] ∧ SzAt (He.ga K "Sizes") H p ns ∧ Q (.int (ns.length : Nat)) H
theorem sc_Sizes_len : FnScope ["self"] ["self"] (defScope (inClass (top 18) 6)) := ⟨rfl, rfl, rfl, by decide +kernel, rfl, by decide +kernel, by decide +kernel⟩
theorem ok_len (T : Tx K mg) (F : FnP K "__len__" "Sizes.__len__" (inClass (top 18) 6) f fd) : FnOk P w K mg base CX0 1 f fd ["self"] (spLen K) := by
  refine F.ok sc_Sizes_len (fun vs H Q E h => ?_) (fun cdv A outer s H vs Q E hr h => ⟨_, PSs.nox (pss_one (ps_ret (pe_callB call_len_seq (by rfl) T.n_len (by decide +kernel) (pa_cons (pe_fld (pv 0) rfl) pa_nil)))), ?_⟩)
  · obtain ⟨p, ns, rfl, _⟩ := h
    rfl
  · obtain ⟨p, ns, rfl, ⟨dx, l, h1, h2⟩, q⟩ := h
    refine ⟨_, rfl, p, _, dx, _, _, rfl, h1, T.cl, T.nSL, szF_get l, l, _, rfl, .inl (SqL.of h2), ?_⟩
    rw [List.length_map]
    exact q
def spLEq (K : PySem.W.Frag) : Sp := fun vs H Q _ => ∃ (y zp bl dx y2 zp2 bl2 dx2 : Addr) (ps ps2 : List Addr) (ns ns2 : List Int) (n n2 : Int) (bs bs2 : List Blk), vs = [.ref y, .ref y2] ∧ Ly K H y zp bl dx ps ns n bs ∧ Ly K H y2 zp2 bl2 dx2 ps2 ns2 n2 bs2 ∧
  ns = ns2 ∧ n = n2 ∧ Q (.bl (decide (bs = bs2))) H
theorem sc_Layout_eq : FnScope ["self", "other"] ["self", "other"] (defScope (inClass (top 38) 1)) := ⟨rfl, rfl, rfl, by decide +kernel, rfl, by decide +kernel, by decide +kernel⟩
theorem ok_leq (T : Tx K mg) (E_Sizes : EqOf P w K mg base 1 "Sizes" (spSEq K)) (F : FnP K "__eq__" "Layout.__eq__" (inClass (top 38) 1) f fd) : FnOk P w K mg base CX0 2 f fd ["self", "other"] (spLEq K) := by
  refine F.ok sc_Layout_eq (fun vs H Q E h => ?_) (fun cdv A outer s H vs Q E hr h => ⟨_, PSs.nox (pss_one (ps_ret (pe_and (pe_callB call_isi (by rfl) T.n_isinstance (by decide +kernel) (pa_cons (pv 1) (pa_cons (pe_glob (v := .ref _) rfl T.g_Layout rfl) pa_nil))) (pe_and (pe_cmpR (op_own E_Sizes hr) (pe_fld (pv 0) rfl) (pe_fld (pv 1) rfl) (nomark _)) (pe_and (pe_cmpR op_eq (pe_fld (pv 0) rfl) (pe_fld (pv 1) rfl) (nomark _)) (pe_one (pe_cmpR (op_eqD hr.units) (pe_fld (pv 0) rfl) (pe_fld (pv 1) rfl) (nomark _)))))))), ?_⟩)
  · obtain ⟨y, zp, bl, dx, y2, zp2, bl2, dx2, ps, ps2, ns, ns2, n, n2, bs, bs2, rfl, _⟩ := h
    rfl
  · obtain ⟨y, zp, bl, dx, y2, zp2, bl2, dx2, ps, ps2, ns, ns2, n, n2, bs, bs2, rfl, L, L2, rfl, rfl, q⟩ := h
    obtain ⟨dz, l, z1, z2⟩ := id L.szs
    obtain ⟨dz2, l2, z3, z4⟩ := id L2.szs
    refine ⟨_, rfl, _, _, _, _, true, rfl, .own _, T.iL.ty L2.at_, T.iL.ki, _, rfl, iteT ?_⟩
    refine ⟨_, rfl, y, _, dx, _, _, rfl, L.at_, T.ly, T.nST, lay_st .., _, rfl, y2, _, dx2, _, _, rfl, L2.at_, T.ly, T.nST, lay_st .., zp, zp2, dz, dz2, _, _, rfl, rfl, z1, z3, zp, zp2, ns, ns, rfl, L.szs, L2.szs, ⟨_, rfl⟩, _, rfl, ifT (decide_eq_true rfl) ?_⟩
    refine ⟨_, rfl, y, _, dx, _, _, rfl, L.at_, T.ly, T.nCC, lay_cc .., _, rfl, y2, _, dx2, _, _, rfl, L2.at_, T.ly, T.nCC, lay_cc .., rfl, _, rfl, ifT (decide_eq_true rfl) ?_⟩
    refine ⟨_, rfl, y, _, dx, _, _, rfl, L.at_, T.ly, T.nBL, lay_bl .., _, rfl, y2, _, dx2, _, _, rfl, L2.at_, T.ly, T.nBL, lay_bl .., _, _, .lst (SqL.of L.lst) L.rf.dp, .lst (SqL.of L2.lst) L2.rf.dp, shaped_blk _, shaped_blk _, ?_⟩
    show Q (.bl (PyData.eqvAll (bs.map blkD) (bs2.map blkD))) H
    rw [eqv_blks]
    exact q
def spFree (K : PySem.W.Frag) : Sp := fun vs H Q _ => ∃ (y zp bl dx : Addr) (ps : List Addr) (ns : List Int) (n : Int) (bs : List Blk), vs = [.ref y] ∧ Ly K H y zp bl dx ps ns n bs ∧ Q (.int (n - tot ns bs)) H
theorem sc_free : FnScope ["self"] ["self"] (defScope (inClass (top 38) 6)) := ⟨rfl, rfl, rfl, by decide +kernel, rfl, by decide +kernel, by decide +kernel⟩
theorem ok_free (T : Tx K mg) (F : FnP K "free" "Layout.free" (inClass (top 38) 6) f fd) : FnOk P w K mg base CX0 1 f fd ["self"] (spFree K) := by
  refine F.ok sc_free (fun vs H Q E h => ?_) (fun cdv A outer s H vs Q E hr h => ⟨_, PSs.nox (pss_one (ps_ret (pe_fld (pv 0) rfl))), ?_⟩)
  · obtain ⟨y, zp, bl, dx, ps, ns, n, bs, rfl, _⟩ := h
    rfl
  · obtain ⟨y, zp, bl, dx, ps, ns, n, bs, rfl, L, q⟩ := h
    exact ⟨_, rfl, y, _, dx, _, _, rfl, L.at_, T.ly, T.nFC, lay_fc .., q⟩
/-- the free gaps -/
def fgI (ns : List Int) (n : Int) (bs : List Blk) : List (Int × Int) := gapsI n 0 (bs.map (rngB ns))
def spFg (K : PySem.W.Frag) : Sp := fun vs H Q _ => ∃ (y zp bl dx : Addr) (ps : List Addr) (ns : List Int) (n : Int) (bs : List Blk), vs = [.ref y] ∧ Ly K H y zp bl dx ps ns n bs ∧
  ∀ M qs H', H M = none → Same H H' → H' M = some (.lst (qs.map V.ref)) → Refs prV H' qs (fgI ns n bs) → Q (.ref M) H'
def spFr (K : PySem.W.Frag) : Sp := fun vs H Q _ => ∃ (y zp bl dx : Addr) (ps : List Addr) (ns : List Int) (n : Int) (bs : List Blk) (k : Nat), vs = [.ref y, .int k] ∧ Ly K H y zp bl dx ps ns n bs ∧ k < ns.length ∧ ∀ H', Same H H' → Q (.int (regI ns k (fgI ns n bs))) H'
theorem fg_ok {ns : List Int} {n : Int} {bs : List Blk} (w : Wf ns n bs) (g : Good ns) : (∀ x ∈ fgI ns n bs, 0 ≤ x.1 ∧ x.1 ≤ x.2) ∧ (fgI ns n bs).length ≤ bs.length + 1 := by
  refine ⟨gaps_ok (Int.le_refl _) fun r hr => ?_, ?_⟩
  · obtain ⟨b, hb, rfl⟩ := List.mem_map.mp hr
    have p := w.pos g hb
    have o := (w.ok b hb).2.1
    show 0 ≤ b.1 + sz ns b.2.1
    omega
  · have h := gaps_len (n := n) (bs.map (rngB ns)) 0
    rw [List.length_map] at h
    exact h
end
end K34

set_option Elab.async false
set_option linter.all false
set_option maxRecDepth 100000
set_option maxHeartbeats 4000000
namespace K34
open PySem PySem.Spec PyProof.Rows L2 Gu Ex
/-- values of any kind -/
inductive Any (H : Hp) : V → Prop
  | non : Any H .non
  | bl (b : Bool) : Any H (.bl b)
  | int (i : Int) : Any H (.int i)
  | str (x : Str) : Any H (.str x)
  | lst {a : Addr} {xs : List V} : H a = some (.lst xs) → Any H (.ref a)
  | tup {a : Addr} {xs : List V} : H a = some (.tup xs) → Any H (.ref a)
  | dct {a : Addr} {kvs : List (Key × V)} : H a = some (.dK kvs) → Any H (.ref a)
def isI : V → Bool
  | .int _ => true
  | _ => false
def isB : V → Bool
  | .bl _ => true
  | _ => false
theorem Any.ty {K : PySem.W.Frag} {H : Hp} {v : V} (h : Any H v) : ∃ T, TyX K H v (.type T) ∧ kitB T "int" = some (isI v || isB v) ∧ kitB T "bool" = some (isB v) := by
  cases h with
  | non => exact ⟨"NoneType", .base .non, (show kitB "NoneType" "int" = some false by decide +kernel), (show kitB "NoneType" "bool" = some false by decide +kernel)⟩
  | bl b => exact ⟨"bool", .base (.bl b), (show kitB "bool" "int" = some true by decide +kernel), (show kitB "bool" "bool" = some true by decide +kernel)⟩
  | int i => exact ⟨"int", .base (.int i), (show kitB "int" "int" = some true by decide +kernel), (show kitB "int" "bool" = some false by decide +kernel)⟩
  | str x => exact ⟨"str", .base (.str x), (show kitB "str" "int" = some false by decide +kernel), (show kitB "str" "bool" = some false by decide +kernel)⟩
  | lst e => exact ⟨"list", .base (.lst e), (show kitB "list" "int" = some false by decide +kernel), (show kitB "list" "bool" = some false by decide +kernel)⟩
  | tup e => exact ⟨"tuple", .base (.tup e), (show kitB "tuple" "int" = some false by decide +kernel), (show kitB "tuple" "bool" = some false by decide +kernel)⟩
  | dct e => exact ⟨"dict", .base (.dK e), (show kitB "dict" "int" = some false by decide +kernel), (show kitB "dict" "bool" = some false by decide +kernel)⟩
theorem Any.same {H H' : Hp} {v : V} (h : Any H v) (s : Same H H') : Any H' v := by
  cases h with
  | non => exact .non
  | bl b => exact .bl b
  | int i => exact .int i
  | str x => exact .str x
  | lst e => exact .lst (s _ _ e)
  | tup e => exact .tup (s _ _ e)
  | dct e => exact .dct (s _ _ e)
/-- an error of this class, told as its field -/
def Raised (K : PySem.W.Frag) (c n : Str) (v : V) (H : Hp) (E : XK) : Prop := ∀ d H', H d = none → Same H H' → H' d = some (.xd [(n, v)]) → E (.ref (He.ga K c)) (some d) H'
theorem Raised.same {K : PySem.W.Frag} {c n : Str} {v : V} {H H1 : Hp} {E : XK} (h : Raised K c n v H E) (s : Same H H1) : Raised K c n v H1 E := fun d H' e s2 x => h d H' (s.free e) (s.trans s2) x
/-- is it a tuple -/
theorem Any.tp {K : PySem.W.Frag} {H : Hp} {v : V} (h : Any H v) : (∃ t xs, v = .ref t ∧ H t = some (.tup xs)) ∨ ((∀ t xs, v = .ref t → H t ≠ some (.tup xs)) ∧ ∃ T, TyX K H v (.type T) ∧ kitB T "tuple" = some false) := by
  cases h with
  | non => exact .inr ⟨(fun _ _ z => nomatch z), "NoneType", .base .non, by decide +kernel⟩
  | bl b => exact .inr ⟨(fun _ _ z => nomatch z), "bool", .base (.bl b), by decide +kernel⟩
  | int i => exact .inr ⟨(fun _ _ z => nomatch z), "int", .base (.int i), by decide +kernel⟩
  | str x => exact .inr ⟨(fun _ _ z => nomatch z), "str", .base (.str x), by decide +kernel⟩
  | lst e => exact .inr ⟨(fun t xs z q => by cases z; rw [e] at q; cases q), "list", .base (.lst e), by decide +kernel⟩
  | tup e => exact .inl ⟨_, _, rfl, e⟩
  | dct e => exact .inr ⟨(fun t xs z q => by cases z; rw [e] at q; cases q), "dict", .base (.dK e), by decide +kernel⟩
/-- is it a list -/
theorem Any.ls {K : PySem.W.Frag} {H : Hp} {v : V} (h : Any H v) : (∃ t xs, v = .ref t ∧ H t = some (.lst xs)) ∨ ((∀ t xs, v = .ref t → H t ≠ some (.lst xs)) ∧ ∃ T, TyX K H v (.type T) ∧ kitB T "list" = some false) := by
  cases h with
  | non => exact .inr ⟨(fun _ _ z => nomatch z), "NoneType", .base .non, by decide +kernel⟩
  | bl b => exact .inr ⟨(fun _ _ z => nomatch z), "bool", .base (.bl b), by decide +kernel⟩
  | int i => exact .inr ⟨(fun _ _ z => nomatch z), "int", .base (.int i), by decide +kernel⟩
  | str x => exact .inr ⟨(fun _ _ z => nomatch z), "str", .base (.str x), by decide +kernel⟩
  | lst e => exact .inl ⟨_, _, rfl, e⟩
  | tup e => exact .inr ⟨(fun t xs z q => by cases z; rw [e] at q; cases q), "tuple", .base (.tup e), by decide +kernel⟩
  | dct e => exact .inr ⟨(fun t xs z q => by cases z; rw [e] at q; cases q), "dict", .base (.dK e), by decide +kernel⟩
theorem Any.obj {H : Hp} {t : Addr} (h : Any H (.ref t)) : ∃ o, H t = some o := by
  cases h with
  | lst e => exact ⟨_, e⟩
  | tup e => exact ⟨_, e⟩
  | dct e => exact ⟨_, e⟩
/-- a value that may be a move: two ints, or nothing of the kind -/
inductive Mv (H : Hp) : V → Option (Int × Int) → Prop
  | mv {t : Addr} {a b : Int} : H t = some (.tup [.int a, .int b]) → Mv H (.ref t) (some (a, b))
  | other {v : V} : Any H v → (∀ t xs, v = .ref t → H t = some (.tup xs) → xs.length ≠ 2) → Mv H v none
  | odd {t : Addr} {x y : V} : H t = some (.tup [x, y]) → Any H x → Any H y → (isI x && isI y) = false → Mv H (.ref t) none
theorem Mv.same {H H' : Hp} {v : V} {m : Option (Int × Int)} (h : Mv H v m) (s : Same H H') : Mv H' v m := by
  cases h with
  | mv e => exact .mv (s _ _ e)
  | other a n =>
    refine .other (a.same s) fun t xs e q => ?_
    subst e
    obtain ⟨o, ho⟩ := a.obj
    have q2 := s _ _ ho
    rw [q] at q2
    cases q2
    exact n t xs rfl ho
  | odd e x y n => exact .odd (s _ _ e) (x.same s) (y.same s) n
def mvB : Option (Int × Int) → Bool
  | some (a, b) => decide (0 ≤ a) && (decide (0 ≤ b) && !decide (a = b))
  | none => false
def addrB : V → Bool
  | .int i => decide (0 ≤ i)
  | _ => false
section
variable {P : Program} {w : World} {K : PySem.W.Frag} {mg : Str → Option Value} {base : Heap} {f : Addr} {fd : FuncData}
def spIntA : Sp := fun vs H Q _ => ∃ v : V, vs = [v] ∧ Any H v ∧ Q (.bl (isI v)) H
theorem ok_is_integerA (T : Tx K mg) (F : FnP K "is_integer" "is_integer" (top 13) f fd) : FnOk P w K mg base CX0 1 f fd ["value"] spIntA := by
  refine F.ok sc_is_integer (fun vs H Q E h => ?_) (fun cdv A outer s H vs Q E hr h => ⟨_, PSs.nox (pss_one (ps_ret (pe_and (pe_callB call_isi (by rfl) T.n_isinstance (by decide +kernel) (pa_cons (pv 0) (pa_cons (pe_bltn (v := .ty "int") (by rfl) T.n_int (by decide +kernel) rfl) pa_nil))) (pe_one (pe_not (pe_callB call_isi (by rfl) T.n_isinstance (by decide +kernel) (pa_cons (pv 0) (pa_cons (pe_bltn (v := .ty "bool") (by rfl) T.n_bool (by decide +kernel) rfl) pa_nil)))))))), ?_⟩)
  · obtain ⟨v, rfl, _⟩ := h
    rfl
  · obtain ⟨v, rfl, hv, q⟩ := h
    obtain ⟨Ty, ty, k1, k2⟩ := hv.ty (K := K)
    refine ⟨_, rfl, _, _, _, _, _, rfl, .ty "int", ty, kit_ty k1, _, rfl, ?_⟩
    cases e : (isI v || isB v) with
    | true =>
      refine iteT ⟨_, rfl, _, _, _, _, _, rfl, .ty "bool", ty, kit_ty k2, _, rfl, ?_⟩
      have e2 : (!isB v) = isI v := by cases v <;> first | rfl | cases e
      rw [e2]
      exact q
    | false =>
      have e2 : isI v = false := by cases v <;> first | rfl | cases e
      rw [e2] at q
      exact iteF q
def spAddrA : Sp := fun vs H Q _ => ∃ v : V, vs = [v] ∧ Any H v ∧ Q (.bl (addrB v)) H
theorem ok_is_addressA (T : Tx K mg) (D_is_integer : Df P w K mg base 1 "is_integer" ["value"] spIntA) (F : FnP K "is_address" "is_address" (top 20) f fd) : FnOk P w K mg base CX0 2 f fd ["value"] spAddrA := by
  refine F.ok sc_is_address (fun vs H Q E h => ?_) (fun cdv A outer s H vs Q E hr h => ⟨_, PSs.nox (pss_one (ps_ret (pe_and (pcall D_is_integer hr (pa_cons (pv 0) pa_nil)) (pe_one (pe_cmpR op_ge (pv 0) pe_int (nomark _)))))), ?_⟩)
  · obtain ⟨v, rfl, _⟩ := h
    rfl
  · obtain ⟨v, rfl, hv, q⟩ := h
    refine ⟨_, rfl, v, rfl, hv, _, rfl, ?_⟩
    cases v with
    | int i => exact iteT ⟨_, rfl, _, _, rfl, rfl, q⟩
    | _ => exact iteF q
def spMove : Sp := fun vs H Q _ => ∃ (v : V) (m : Option (Int × Int)), vs = [v] ∧ Mv H v m ∧ Q (.bl (mvB m)) H
theorem sc_is_move : FnScope ["value", "old", "new"] ["value"] (defScope (top 24)) := ⟨rfl, rfl, rfl, by decide +kernel, rfl, by decide +kernel, by decide +kernel⟩
theorem ok_is_move (T : Tx K mg) (D_is_address : Df P w K mg base 2 "is_address" ["value"] spAddrA) (F : FnP K "is_move" "is_move" (top 24) f fd) : FnOk P w K mg base CX0 3 f fd ["value"] spMove := by
  refine F.ok sc_is_move (fun vs H Q E h => ?_) (fun cdv A outer s H vs Q E hr h => ⟨_, PSs.nox (pss_cons (ps_if (PW.pt (pw_or (pt_not (pt_val (pe_callB call_isi (by rfl) T.n_isinstance (by decide +kernel) (pa_cons (pv 0) (pa_cons (pe_bltn (v := .ty "tuple") (by rfl) T.n_tuple (by decide +kernel) rfl) pa_nil))))) (pw_or1 (pt_cmpR op_ne (pe_callB call_len_seq (by rfl) T.n_len (by decide +kernel) (pa_cons (pv 0) pa_nil)) pe_int (nomark _))))) (pss_one (ps_ret pe_bl)) pss_nil) (pss_cons (ps_asg (pv 0) (pg_tup (by rfl) (pgs_cons (pg_name (i := 1) sc_is_move.nd rfl (by first | exact Or.inl rfl | exact Or.inr rfl)) (pgs_cons (pg_name (i := 2) sc_is_move.nd rfl (by first | exact Or.inl rfl | exact Or.inr rfl)) pgs_nil)))) (pss_one (ps_ret (pe_and (pcall D_is_address hr (pa_cons (pv 1) pa_nil)) (pe_and (pcall D_is_address hr (pa_cons (pv 2) pa_nil)) (pe_one (pe_cmpR op_ne (pv 1) (pv 2) (nomark _))))))))), ?_⟩)
  · obtain ⟨v, m, rfl, _⟩ := h
    rfl
  · obtain ⟨v, m, rfl, hm, q⟩ := h
    have kt : kitB "tuple" "tuple" = some true := by decide +kernel
    cases hm with
    | other an nl =>
      rcases an.tp (K := K) with ⟨t, xs, rfl, e⟩ | ⟨no, Ty, ty, k⟩
      · refine ⟨_, rfl, _, _, _, _, _, rfl, .ty "tuple", .base (.tup e), kit_ty kt, _, rfl, iteF ?_⟩
        refine ⟨_, rfl, t, _, rfl, .inr (SqT.of e), rfl, _, rfl, ifT ?_ ?_⟩
        · rw [vF (show ((xs.length : Nat) : Int) ≠ 2 from fun z => nl t xs rfl e (by omega))]
          rfl
        · exact q
      · exact ⟨_, rfl, _, _, _, _, _, rfl, .ty "tuple", ty, kit_ty k, _, rfl, iteT q⟩
    | @mv t a b e =>
      refine ⟨_, rfl, _, _, _, _, _, rfl, .ty "tuple", .base (.tup e), kit_ty kt, _, rfl, iteF ?_⟩
      refine ⟨_, rfl, t, _, rfl, .inr (SqT.of e), rfl, _, rfl, ifF rfl ?_⟩
      refine ⟨_, rfl, t, _, rfl, .inl (.inl e), rfl, _, _, rfl, _, _, rfl, rfl, ?_⟩
      refine ⟨_, rfl, .int a, rfl, .int a, _, rfl, ?_⟩
      by_cases h1 : 0 ≤ a
      · refine ifT (decide_eq_true h1) ⟨_, rfl, .int b, rfl, .int b, _, rfl, ?_⟩
        by_cases h2 : 0 ≤ b
        · refine ifT (decide_eq_true h2) ⟨_, rfl, _, rfl, rfl, ?_⟩
          have e3 : mvB (some (a, b)) = !decide (a = b) := by
            show (decide (0 ≤ a) && (decide (0 ≤ b) && !decide (a = b))) = _
            rw [decide_eq_true h1, decide_eq_true h2]
            rfl
          rw [e3] at q
          have e4 : decide (V.int a = V.int b) = decide (a = b) := by
            by_cases z : a = b
            · rw [vT z, decide_eq_true z]
            · rw [vF z, decide_eq_false z]
          rw [e4]
          exact q
        · refine ifF (decide_eq_false h2) ?_
          have e3 : mvB (some (a, b)) = false := by
            show (decide (0 ≤ a) && (decide (0 ≤ b) && !decide (a = b))) = _
            rw [decide_eq_true h1, decide_eq_false h2]
            rfl
          rw [e3] at q
          exact q
      · refine ifF (decide_eq_false h1) ?_
        have e3 : mvB (some (a, b)) = false := by
          show (decide (0 ≤ a) && (decide (0 ≤ b) && !decide (a = b))) = _
          rw [decide_eq_false h1]
          rfl
        rw [e3] at q
        exact q
    | @odd t x y e ax ay no =>
      refine ⟨_, rfl, _, _, _, _, _, rfl, .ty "tuple", .base (.tup e), kit_ty kt, _, rfl, iteF ?_⟩
      refine ⟨_, rfl, t, _, rfl, .inr (SqT.of e), rfl, _, rfl, ifF rfl ?_⟩
      refine ⟨_, rfl, t, _, rfl, .inl (.inl e), rfl, _, _, rfl, _, _, rfl, rfl, ?_⟩
      refine ⟨_, rfl, x, rfl, ax, _, rfl, ?_⟩
      cases hx : addrB x with
      | false => exact iteF q
      | true =>
        refine iteT ⟨_, rfl, y, rfl, ay, _, rfl, ?_⟩
        have ix : isI x = true := by cases x <;> first | rfl | cases hx
        have hy : addrB y = false := by
          rw [ix] at no
          cases y <;> first | rfl | cases no
        rw [hy]
        exact iteF q
end
end K34

set_option Elab.async false
set_option linter.all false
set_option maxRecDepth 100000
set_option maxHeartbeats 4000000
namespace K34
open PySem PySem.Spec PyProof.Rows L2 Gu Ex
theorem u1 {k : Nat} {A : Around} (h : Room k A) : A.units + 1 < cLine := by
  have := h.units
  omega
abbrev Mo : Type := Option (Int × Int)
inductive Mvs (H : Hp) : List V → List Mo → Prop
  | nil : Mvs H [] []
  | cons {v : V} {m : Mo} {vs : List V} {ms : List Mo} : Mv H v m → Mvs H vs ms → Mvs H (v :: vs) (m :: ms)
theorem Mvs.same {H H' : Hp} {vs : List V} {ms : List Mo} (h : Mvs H vs ms) (s : Same H H') : Mvs H' vs ms := by
  induction h with
  | nil => exact .nil
  | cons a _ ih => exact .cons (a.same s) ih
theorem Mvs.len {H : Hp} {vs : List V} {ms : List Mo} (h : Mvs H vs ms) : vs.length = ms.length := by
  induction h with
  | nil => rfl
  | cons _ _ ih => rw [List.length_cons, List.length_cons, ih]
theorem Mvs.get {H : Hp} {vs : List V} {ms : List Mo} (h : Mvs H vs ms) : ∀ {i : Nat} {v : V}, vs[i]? = some v → ∃ m, ms[i]? = some m ∧ Mv H v m := by
  induction h with
  | nil => intro i v e; cases e
  | cons a _ ih =>
    intro i v e
    cases i with
    | zero =>
      cases e
      exact ⟨_, rfl, a⟩
    | succ i => exact ih e
/-- the old addresses -/
def oldsOf (ms : List Mo) : List Int := ms.filterMap fun m => m.map Prod.fst
theorem olds_take {ms : List Mo} {i : Nat} {a b : Int} (h : ms[i]? = some (some (a, b))) : oldsOf (ms.take (i + 1)) = oldsOf (ms.take i) ++ [a] := by
  unfold oldsOf
  rw [take_at h, List.filterMap_append]
  rfl
/-- the i-th one moves an unpinned block that no earlier one moves, and to a region -/
def Gd (ns : List Int) (n : Int) (bs : List Blk) (ms : List Mo) (i : Nat) : Prop := ∃ (a b : Int) (k : Nat), ms[i]? = some (some (a, b)) ∧ 0 ≤ a ∧ 0 ≤ b ∧ a ≠ b ∧ (a, k, false) ∈ bs ∧ a ∉ oldsOf (ms.take i) ∧ b % sz ns k = 0 ∧ b + sz ns k ≤ n
def restB (bs : List Blk) (os : List Int) : List Blk := (unpB bs).filter fun c => !decide (c.1 ∈ os)
theorem rest_nil (bs : List Blk) : restB bs [] = unpB bs := by
  unfold restB
  rw [List.filter_eq_self]
  intro c _
  rfl
theorem rest_more (bs : List Blk) (os : List Int) (a : Int) : lvK (restB bs (os ++ [a])) = dropK (lvK (restB bs os)) (Sum.inl a) := by
  unfold lvK dropK restB
  rw [List.filter_map, List.filter_filter]
  refine congrArg _ (List.filter_congr fun c _ => ?_)
  by_cases h1 : c.1 ∈ os <;> by_cases h2 : c.1 = a <;> simp [h1, h2]
theorem mem_rest {bs : List Blk} {os : List Int} {c : Blk} : c ∈ restB bs os ↔ c ∈ bs ∧ c.2.2 = false ∧ c.1 ∉ os := by
  unfold restB unpB
  rw [List.mem_filter, List.mem_filter]
  constructor
  · rintro ⟨⟨h1, h2⟩, h3⟩
    exact ⟨h1, by simpa using h2, by simpa using h3⟩
  · rintro ⟨h1, h2, h3⟩
    exact ⟨⟨h1, by simpa using h2⟩, by simpa using h3⟩
theorem rest_get {ns : List Int} {n : Int} {bs : List Blk} (w : Wf ns n bs) (g : Good ns) {os : List Int} {c : Blk} (h : c ∈ restB bs os) : valV (lvK (restB bs os)) (Sum.inl c.1) = some (.int (c.2.1 : Nat)) :=
  lvK_get (((w.rise g).filter _).filter _) h
theorem rest_none {bs : List Blk} {os : List Int} {a : Int} (h : ∀ c ∈ bs, c.2.2 = false → c.1 = a → a ∈ os) : valV (lvK (restB bs os)) (Sum.inl a) = none := lvK_none fun c hc e => by
  obtain ⟨h1, h2, h3⟩ := mem_rest.mp hc
  exact h3 (e ▸ h c h1 h2 e)
def But1 (D : Addr) (H H' : Hp) : Prop := ∀ c o, c ≠ D → H c = some o → H' c = some o
section
variable {P : Program} {w : World} {K : PySem.W.Frag} {mg : Str → Option Value} {base : Heap} {f : Addr} {fd : FuncData}
def spSzs (K : PySem.W.Frag) : Sp := fun vs H Q _ => ∃ (y zp bl dx : Addr) (ps : List Addr) (ns : List Int) (n : Int) (bs : List Blk), vs = [.ref y] ∧ Ly K H y zp bl dx ps ns n bs ∧ Q (.ref zp) H
theorem sc_sizes : FnScope ["self"] ["self"] (defScope (inClass (top 38) 4)) := ⟨rfl, rfl, rfl, by decide +kernel, rfl, by decide +kernel, by decide +kernel⟩
theorem ok_psizes (T : Tx K mg) (F : FnP K "sizes" "Layout.sizes" (inClass (top 38) 4) f fd) : FnOk P w K mg base CX0 1 f fd ["self"] (spSzs K) := by
  refine F.ok sc_sizes (fun vs H Q E h => ?_) (fun cdv A outer s H vs Q E hr h => ⟨_, PSs.nox (pss_one (ps_ret (pe_fld (pv 0) rfl))), ?_⟩)
  · obtain ⟨y, zp, bl, dx, ps, ns, n, bs, rfl, _⟩ := h
    rfl
  · obtain ⟨y, zp, bl, dx, ps, ns, n, bs, rfl, L, q⟩ := h
    exact ⟨_, rfl, y, _, dx, _, _, rfl, L.at_, T.ly, T.nST, lay_st .., q⟩
def spLen2 (K : PySem.W.Frag) : Sp := fun vs H Q _ => ∃ (y zp bl dx : Addr) (ps : List Addr) (ns : List Int) (n : Int) (bs : List Blk), vs = [.ref y] ∧ Ly K H y zp bl dx ps ns n bs ∧ Q (.int n) H
theorem sc_length : FnScope ["self"] ["self"] (defScope (inClass (top 38) 5)) := ⟨rfl, rfl, rfl, by decide +kernel, rfl, by decide +kernel, by decide +kernel⟩
theorem ok_plength (T : Tx K mg) (F : FnP K "length" "Layout.length" (inClass (top 38) 5) f fd) : FnOk P w K mg base CX0 1 f fd ["self"] (spLen2 K) := by
  refine F.ok sc_length (fun vs H Q E h => ?_) (fun cdv A outer s H vs Q E hr h => ⟨_, PSs.nox (pss_one (ps_ret (pe_fld (pv 0) rfl))), ?_⟩)
  · obtain ⟨y, zp, bl, dx, ps, ns, n, bs, rfl, _⟩ := h
    rfl
  · obtain ⟨y, zp, bl, dx, ps, ns, n, bs, rfl, L, q⟩ := h
    exact ⟨_, rfl, y, _, dx, _, _, rfl, L.at_, T.ly, T.nCC, lay_cc .., q⟩
/-- a level of the sizes, an address: is it a region's -/
def spRegionB (K : PySem.W.Frag) : Sp := fun vs H Q _ => ∃ (p : Addr) (ns : List Int) (i : Nat) (n a : Int), vs = [.ref p, .int n, .int i, .int a] ∧ SzAt (He.ga K "Sizes") H p ns ∧ Good ns ∧ i < ns.length ∧ 1 ≤ n ∧ n ≤ 1000000000000 ∧ 0 ≤ a ∧ Q (.bl (decide (a % sz ns i = 0 ∧ a + sz ns i ≤ n))) H
theorem ok_is_regionB (T : Tx K mg) (D_check_cells : Df P w K mg base 3 "check_cells" ["value"] spCellsC) (M_has_level : Mf P w K mg base 3 "Sizes" "has_level" ["self", "level"] (spHas K)) (D_is_address : Df P w K mg base 2 "is_address" ["value"] spAddr)
    (D_lies_below : Df P w K mg base 6 "lies_below" ["sizes", "level", "address", "end"] (spBelow K)) (F : FnP K "is_region" "is_region" (top 22) f fd) : FnOk P w K mg base CX0 7 f fd ["sizes", "length", "level", "address"] (spRegionB K) := by
  refine F.ok sc_is_region (fun vs H Q E h => ?_) (fun cdv A outer s H vs Q E hr h => ⟨_, PSs.nox (pss_cons (ps_expr (pcall D_check_cells hr (pa_cons (pv 1) pa_nil))) (pss_one (ps_ret (pe_and (pmeth M_has_level hr (pv 0) (pa_cons (pv 2) pa_nil)) (pe_and (pcall D_is_address hr (pa_cons (pv 3) pa_nil)) (pe_one (pcall D_lies_below hr (pa_cons (pv 0) (pa_cons (pv 2) (pa_cons (pv 3) (pa_cons (pv 1) pa_nil))))))))))), ?_⟩)
  · obtain ⟨p, ns, i, n, a, rfl, _⟩ := h
    rfl
  · obtain ⟨p, ns, i, n, a, rfl, hz, g, hi, n1, n2, a0, q⟩ := h
    obtain ⟨dx, l, h1, h2⟩ := id hz
    refine ⟨_, rfl, n, rfl, n1, n2, ?_⟩
    refine ⟨_, rfl, p, dx, _, rfl, h1, szF_no l (by decide +kernel), _, rfl, p, ns, i, rfl, hz, hi, true, rfl, iteT ⟨_, rfl, a, rfl, a0, true, rfl, iteT ?_⟩⟩
    exact ⟨_, rfl, _, rfl, _, rfl, _, rfl, p, ns, i, _, a, n, rfl, hz, sz_at hi, (chain g).pos i hi, q⟩
/-- a layout, a list of values: the position of the first misfit, or None -/
def spMisfit (K : PySem.W.Frag) : Sp := fun vs H Q _ => ∃ (y zp bl dx a : Addr) (ps : List Addr) (ns : List Int) (n : Int) (bs : List Blk) (xs : List V) (ms : List Mo), vs = [.ref y, .ref a] ∧ Ly K H y zp bl dx ps ns n bs ∧ H a = some (.lst xs) ∧ Mvs H xs ms ∧
  (∀ H', Same H H' → (∀ i, i < ms.length → Gd ns n bs ms i) → Q .non H') ∧ ∀ (i : Nat) H', Same H H' → i < ms.length → (∀ j, j < i → Gd ns n bs ms j) → ¬ Gd ns n bs ms i → Q (.int i) H'
theorem sc_first_misfit : FnScope ["layout", "moves", "levels", "position", "move", "level"] ["layout", "moves"] (defScope (top 25)) := ⟨rfl, rfl, rfl, by decide +kernel, rfl, by decide +kernel, by decide +kernel⟩
theorem ok_misfit (T : Tx K mg) (M_unpinned_levels : Mf P w K mg base 1 "Layout" "unpinned_levels" ["self"] (spLevels K)) (D_is_move : Df P w K mg base 3 "is_move" ["value"] spMove) (D_is_region : Df P w K mg base 7 "is_region" ["sizes", "length", "level", "address"] (spRegionB K))
    (P_sizes : Pf P w K mg base 1 "Layout" "sizes" (spSzs K)) (P_length : Pf P w K mg base 1 "Layout" "length" (spLen2 K)) (F : FnP K "first_misfit" "first_misfit" (top 25) f fd) : FnOk P w K mg base CX0 8 f fd ["layout", "moves"] (spMisfit K) := by
  refine F.ok sc_first_misfit (fun vs H Q E h => ?_) (fun cdv A outer s H vs Q E hr h => ⟨_, PSs.nox (pss_cons (ps_set (i := 2) sc_first_misfit.nd rfl (by first | exact Or.inl rfl | exact Or.inr rfl) (pmeth0 M_unpinned_levels hr (pv 0))) (pss_cons (ps_for PassesOwn.never rfl (pi_enum rfl T.n_enumerate (pa_cons (pv 1) pa_nil)) (pg_tup (by rfl) (pgs_cons (pg_name (i := 3) sc_first_misfit.nd rfl (by first | exact Or.inl rfl | exact Or.inr rfl)) (pgs_cons (pg_name (i := 4) sc_first_misfit.nd rfl (by first | exact Or.inl rfl | exact Or.inr rfl)) pgs_nil))) (pss_cons (ps_if (PW.pt (pw_or (pt_not (pt_val (pcall D_is_move hr (pa_cons (pv 4) pa_nil)))) (pw_or1 (pt_cmp (pc_dnotin (u1 hr) (pe_ix ix_tup (pv 4) pe_int (fun _ _ => rfl)) (pv 2)))))) (pss_one (ps_ret (pv 3))) pss_nil) (pss_cons (ps_set (i := 5) sc_first_misfit.nd rfl (by first | exact Or.inl rfl | exact Or.inr rfl) (pe_dpop1 (pv 2) (pe_ix ix_tup (pv 4) pe_int (fun _ _ => rfl)) ⟨rfl, rfl, rfl, rfl⟩)) (pss_one (ps_if (pt_not (pt_val (pcall D_is_region hr (pa_cons (pprop P_sizes hr (pv 0)) (pa_cons (pprop P_length hr (pv 0)) (pa_cons (pv 5) (pa_cons (pe_ix ix_tup (pv 4) pe_int (fun _ _ => rfl)) pa_nil))))))) (pss_one (ps_ret (pv 3))) pss_nil))))) (pss_one (ps_ret pe_non)))), ?_⟩)
  · obtain ⟨y, zp, bl, dx, a, ps, ns, n, bs, xs, ms, rfl, _⟩ := h
    rfl
  · obtain ⟨y, zp, bl, dx, a, ps, ns, n, bs, xs, ms, rfl, L, ha, hm, q1, q2⟩ := h
    have wf := L.wf
    have gd := L.gd
    refine ⟨_, rfl, y, dx, _, rfl, L.at_, lay_nm (by decide +kernel), y, zp, bl, dx, ps, ns, n, bs, rfl, L, fun D H0 hD0 s0 hD => ?_⟩
    have ha0 := s0 _ _ ha
    have hDf : H D = none := hD0
    refine ⟨_, rfl, a, _, rfl, SqL.of ha0, ?_⟩
    refine for_it (walk_enum (xs := xs)) (fun i σ G => (∃ x z u, σ = [some (.ref y), some (.ref a), some (.ref D), x, z, u]) ∧ Same H G ∧ G D = some (.dK (lvK (restB bs (oldsOf (ms.take i))))) ∧ ∀ j, j < i → Gd ns n bs ms j) ⟨⟨none, none, none, rfl⟩, s0, by rw [List.take_zero]; show H0 D = some (.dK (lvK (restB bs []))); rw [rest_nil]; exact hD, fun j hj => absurd hj (Nat.not_lt_zero j)⟩ (fun i σ G _ h => SqL.of (h.2.1 _ _ ha)) ?_ ?_
    · rintro i x σ G1 G2 hi ⟨⟨x', z', u', rfl⟩, sm, hG, hall⟩ ⟨T', y1, y2, rfl, hT, rfl, e1, e2⟩
      cases e1
      have hx : xs[i]? = some y2 := e2
      obtain ⟨m, hmi, hmv⟩ := hm.get hx
      have il : i < ms.length := by rw [← hm.len]; exact hi
      have s1 := same_upd (o := .tup [.int (i : Nat), y2]) hT
      have sm2 := sm.trans s1
      have hG2 := s1 _ _ hG
      refine ⟨T', _, rfl, .inl (.inl upd_same), rfl, _, _, rfl, _, _, rfl, rfl, ?_⟩
      generalize (upd G1 T' (.tup [.int (i : Nat), y2])) = G at *
      refine ⟨_, rfl, y2, m, rfl, hmv.same sm2, _, rfl, ?_⟩
      have bad : ¬ Gd ns n bs ms i → Q (.int (i : Nat)) G := fun h => q2 i G sm2 il hall h
      cases hmb : mvB m with
      | false =>
        refine ifT rfl ?_
        refine ⟨_, rfl, bad ?_⟩
        rintro ⟨a1, b1, k, e, g0, g1, g2, _⟩
        rw [hmi] at e
        cases e
        have : mvB (some (a1, b1)) = true := by
          show (decide (0 ≤ a1) && (decide (0 ≤ b1) && !decide (a1 = b1))) = true
          rw [decide_eq_true g0, decide_eq_true g1, decide_eq_false g2]
          rfl
        rw [this] at hmb
        cases hmb
      | true =>
        refine ifF rfl ?_
        cases hmv with
        | other _ _ => cases hmb
        | odd _ _ _ _ => cases hmb
        | @mv t a1 b1 et =>
          have hmb' : (decide (0 ≤ a1) && (decide (0 ≤ b1) && !decide (a1 = b1))) = true := hmb
          simp only [Bool.and_eq_true, decide_eq_true_eq, Bool.not_eq_true', decide_eq_false_iff_not] at hmb'
          obtain ⟨g0, g1, g2⟩ := hmb'
          have et2 := sm2 _ _ et
          refine ⟨_, rfl, t, _, _, _, rfl, rfl, .inl (.inl et2), rfl, _, rfl, D, _, rfl, DGet.k (k := Sum.inl a1) hG2, _, rfl, ?_⟩
          by_cases hin : ∃ k, (a1, k, false) ∈ bs ∧ a1 ∉ oldsOf (ms.take i)
          · obtain ⟨k, hk, ho⟩ := hin
            have hv := rest_get wf gd (os := oldsOf (ms.take i)) (mem_rest.mpr ⟨hk, rfl, ho⟩)
            have hv' : valV (lvK (restB bs (oldsOf (ms.take i)))) (Sum.inl a1) = some (.int (k : Nat)) := hv
            refine ifF (by rw [hv']; rfl) ?_
            refine ⟨_, rfl, D, rfl, .inl ⟨_, .inl hG2⟩, _, rfl, t, _, _, _, rfl, rfl, .inl (.inl et2), rfl, _, Sum.inl a1, _, hG2, rfl, hv', ?_⟩
            have kl : k < ns.length := (wf.ok _ hk).1
            have bt : But1 D G (upd G D (.dK (dropK (lvK (restB bs (oldsOf (ms.take i)))) (Sum.inl a1)))) := fun c o nc ec => by
              rw [upd_ne nc]
              exact ec
            have hD3 : (upd G D (.dK (dropK (lvK (restB bs (oldsOf (ms.take i)))) (Sum.inl a1)))) D = some (.dK (lvK (restB bs (oldsOf (ms.take (i + 1)))))) := by
              rw [upd_same, olds_take hmi, rest_more]
            generalize (upd G D (.dK (dropK (lvK (restB bs (oldsOf (ms.take i)))) (Sum.inl a1)))) = G3 at bt hD3
            have sm3 : Same H G3 := fun c o ec => bt c o (ne_of_none ec hDf) (sm2 _ _ ec)
            have L3 := L.same sm3
            have et3 := sm3 _ _ et
            refine ⟨_, rfl, y, dx, _, rfl, L3.at_, y, zp, bl, dx, ps, ns, n, bs, rfl, L3, ?_⟩
            refine ⟨_, rfl, y, dx, _, rfl, L3.at_, y, zp, bl, dx, ps, ns, n, bs, rfl, L3, ?_⟩
            refine ⟨_, rfl, _, rfl, t, _, _, _, rfl, rfl, .inl (.inl et3), rfl, zp, ns, k, n, b1, rfl, L3.szs, gd, kl, L3.n1, L3.n2, g1, _, rfl, ?_⟩
            by_cases hr2 : b1 % sz ns k = 0 ∧ b1 + sz ns k ≤ n
            · refine ifF (by rw [decide_eq_true hr2]; rfl) ⟨⟨_, _, _, rfl⟩, sm3, hD3, fun j hj => ?_⟩
              rcases Nat.lt_or_ge j i with z | z
              · exact hall j z
              · obtain rfl : j = i := by omega
                exact ⟨a1, b1, k, hmi, g0, g1, g2, hk, ho, hr2.1, hr2.2⟩
            · refine ifT (by rw [decide_eq_false hr2]; rfl) ⟨_, rfl, q2 i G3 sm3 il hall ?_⟩
              rintro ⟨a2, b2, k2, e, _, _, _, g3, _, g5, g6⟩
              rw [hmi] at e
              cases e
              have ek : k2 = k := by
                have h1 := rest_get wf gd (os := oldsOf (ms.take i)) (mem_rest.mpr ⟨g3, rfl, ho⟩)
                have h1' : valV (lvK (restB bs (oldsOf (ms.take i)))) (Sum.inl a1) = some (.int (k2 : Nat)) := h1
                rw [hv'] at h1'
                have h2 := V.int.inj (Option.some.inj h1')
                omega
              rw [ek] at g5 g6
              exact hr2 ⟨g5, g6⟩
          · have hv : valV (lvK (restB bs (oldsOf (ms.take i)))) (Sum.inl a1) = none := rest_none fun c hc h1 h2 => Classical.byContradiction fun no => hin ⟨c.2.1, by
              rw [← h2, ← h1]
              exact hc, no⟩
            refine ifT (by rw [hv]; rfl) ⟨_, rfl, bad ?_⟩
            rintro ⟨a2, b2, k, e, _, _, _, g3, g4, _⟩
            rw [hmi] at e
            cases e
            exact hin ⟨k, g3, g4⟩
    · rintro σ G ⟨⟨x, z, u, rfl⟩, sm, hG, hall⟩
      exact q1 G sm fun i hi => hall i (by rw [hm.len]; exact hi)
end
end K34

set_option Elab.async false
set_option linter.all false
set_option maxRecDepth 100000
set_option maxHeartbeats 4000000
/-! Mathematics: a sweep over places finds a clash of a moved one exactly if there is one. -/
namespace K34
open PySem PySem.Spec PyProof.Rows L2 Gu Ex
theorem rev_ind {α : Type} {P : List α → Prop} (h0 : P []) (h1 : ∀ r u, P r → P (r ++ [u])) : ∀ l, P l := fun l => by
  have : ∀ m : List α, P m.reverse := fun m => by
    induction m with
    | nil => exact h0
    | cons a m ih =>
      rw [List.reverse_cons]
      exact h1 _ _ ih
  rw [← List.reverse_reverse l]
  exact this _
/-- a place: low, high, index of its move -/
abbrev Pl : Type := Int × Int × Int
def ov (x y : Pl) : Prop := x.1 < y.2.1 ∧ y.1 < x.2.1
theorem ov_symm {x y : Pl} (h : ov x y) : ov y x := ⟨h.2, h.1⟩
def endI (ts : List Pl) : Int := ts.foldl (fun e t => if t.2.1 > e then t.2.1 else e) 0
theorem endI_snoc (ts : List Pl) (t : Pl) : endI (ts ++ [t]) = if t.2.1 > endI ts then t.2.1 else endI ts := by
  unfold endI
  rw [List.foldl_append]
  rfl
theorem endI_ge {ts : List Pl} : ∀ {t : Pl}, t ∈ ts → t.2.1 ≤ endI ts := by
  refine rev_ind (P := fun ts => ∀ {t : Pl}, t ∈ ts → t.2.1 ≤ endI ts) (fun {t} h => nomatch h) (fun r u ih {t} h => ?_) ts
  rw [endI_snoc]
  rcases List.mem_append.mp h with z | z
  · have := ih z
    split <;> omega
  · rw [List.mem_singleton.mp z]
    split <;> omega
theorem endI_at {ts : List Pl} : endI ts = 0 ∨ ∃ t ∈ ts, t.2.1 = endI ts := by
  refine rev_ind (P := fun ts => endI ts = 0 ∨ ∃ t ∈ ts, t.2.1 = endI ts) (.inl rfl) (fun r u ih => ?_) ts
  rw [endI_snoc]
  split
  · exact .inr ⟨u, List.mem_append_right _ (List.mem_singleton.mpr rfl), rfl⟩
  · rcases ih with z | ⟨t, h, e⟩
    · exact .inl z
    · exact .inr ⟨t, List.mem_append_left _ h, e⟩
/-- the i-th place is told: it begins ahead of an end, or meets the next -/
def flag (ts : List Pl) (i : Nat) : Prop := ∃ t, ts[i]? = some t ∧ (t.1 < endI (ts.take i) ∨ ∃ u, ts[i + 1]? = some u ∧ u.1 < t.2.1)
def Hit (ts : List Pl) (L : Int) (i : Nat) : Prop := flag ts i ∧ ∃ t, ts[i]? = some t ∧ t.2.2 < L
def NoOv (ts : List Pl) : Prop := ts.Pairwise fun x y => ¬ ov x y
theorem pair_lt {α : Type} {R : α → α → Prop} {l : List α} (h : l.Pairwise R) {i j : Nat} {x y : α} (hi : l[i]? = some x) (hj : l[j]? = some y) (lt : i < j) : R x y := by
  obtain ⟨h1, e1⟩ := List.getElem?_eq_some_iff.mp hi
  obtain ⟨h2, e2⟩ := List.getElem?_eq_some_iff.mp hj
  rw [← e1, ← e2]
  exact List.pairwise_iff_getElem.mp h i j h1 h2 lt
theorem mem_take_lt {α : Type} {l : List α} {i : Nat} {x : α} (h : x ∈ l.take i) : ∃ j, j < i ∧ l[j]? = some x := by
  obtain ⟨j, hj⟩ := List.mem_iff_getElem?.mp h
  have hl := (List.getElem?_eq_some_iff.mp hj).1
  rw [List.length_take] at hl
  exact ⟨j, by omega, by rw [List.getElem?_take_of_lt (by omega)] at hj; exact hj⟩
theorem clash_iff {ts : List Pl} {L : Int} (so : ts.Pairwise fun x y => x.1 ≤ y.1) (pos : ∀ t ∈ ts, 0 ≤ t.1 ∧ t.1 < t.2.1) (un : ts.Pairwise fun x y => ¬ (x.2.2 < L) → ¬ (y.2.2 < L) → ¬ ov x y) :
    (∃ i, Hit ts L i) ↔ ¬ NoOv ts := by
  constructor
  · rintro ⟨i, ⟨t, ht, hf⟩, _⟩ no
    have tp := pos t (List.mem_of_getElem? ht)
    rcases hf with h | ⟨u, hu, h⟩
    · rcases endI_at (ts := ts.take i) with z | ⟨v, hv, e⟩
      · omega
      · obtain ⟨j, hj, ej⟩ := mem_take_lt hv
        have h1 := pair_lt so ej ht hj
        exact pair_lt no ej ht hj ⟨by omega, by omega⟩
    · have h1 := pair_lt so ht hu (by omega)
      have up := pos u (List.mem_of_getElem? hu)
      exact pair_lt no ht hu (by omega) ⟨by omega, by omega⟩
  · intro no
    refine Classical.byContradiction fun nh => no (List.pairwise_iff_getElem.mpr fun i j hi hj lt o => ?_)
    have ei := List.getElem?_eq_getElem hi
    have ej := List.getElem?_eq_getElem hj
    have u := pair_lt un ei ej lt
    have s := pair_lt so ei ej lt
    by_cases c1 : ts[j].2.2 < L
    · refine nh ⟨j, ⟨_, ej, .inl ?_⟩, _, ej, c1⟩
      have h1 : ts[i].2.1 ≤ endI (ts.take j) := endI_ge (List.mem_iff_getElem?.mpr ⟨i, by rw [List.getElem?_take_of_lt lt]; exact ei⟩)
      have := o.2
      omega
    · by_cases c2 : ts[i].2.2 < L
      · have hn : i + 1 < ts.length := by omega
        have en := List.getElem?_eq_getElem hn
        refine nh ⟨i, ⟨_, ei, .inr ⟨_, en, ?_⟩⟩, _, ei, c2⟩
        have h2 := o.2
        rcases Nat.lt_or_ge (i + 1) j with z | z
        · have h3 := pair_lt so en ej z
          omega
        · obtain rfl : j = i + 1 := by omega
          exact h2
      · exact u c2 c1 o
theorem noOv_perm {ts us : List Pl} (p : ts.Perm us) : NoOv ts ↔ NoOv us := by
  unfold NoOv
  exact p.pairwise_iff fun {x y} h o => h (ov_symm o)
end K34

set_option Elab.async false
set_option linter.all false
set_option maxRecDepth 100000
set_option maxHeartbeats 4000000
/-! Mathematics: the moves' goals, the places behind them, and what the law asks of pairs. -/
namespace K34
open PySem PySem.Spec PyProof.Rows L2 Gu Ex
/-- old, new, index -/
def gl : Nat → List (Int × Int) → List (Int × Int × Nat)
  | _, [] => []
  | j, (a, b) :: r => (a, b, j) :: gl (j + 1) r
theorem gl_snoc (a b : Int) : ∀ (j : Nat) (mm : List (Int × Int)), gl j (mm ++ [(a, b)]) = gl j mm ++ [(a, b, j + mm.length)]
  | j, [] => rfl
  | j, (x, y) :: r => by
    rw [List.cons_append]
    show (x, y, j) :: gl (j + 1) (r ++ [(a, b)]) = _
    rw [gl_snoc a b (j + 1) r, List.length_cons, show j + 1 + r.length = j + (r.length + 1) by omega]
    rfl
theorem gl_len : ∀ (j : Nat) (mm : List (Int × Int)), (gl j mm).length = mm.length
  | _, [] => rfl
  | j, (a, b) :: r => congrArg (· + 1) (gl_len (j + 1) r)
theorem gl_mem {a b : Int} {i : Nat} : ∀ {j : Nat} {mm : List (Int × Int)}, (a, b, i) ∈ gl j mm ↔ j ≤ i ∧ mm[i - j]? = some (a, b)
  | j, [] => by
    constructor
    · intro h; cases h
    · rintro ⟨_, h⟩; cases h
  | j, (x, y) :: r => by
    show (a, b, i) ∈ (x, y, j) :: gl (j + 1) r ↔ _
    rw [List.mem_cons, gl_mem (j := j + 1) (mm := r)]
    constructor
    · rintro (h | ⟨h1, h2⟩)
      · cases h
        exact ⟨Nat.le_refl _, by rw [Nat.sub_self]; rfl⟩
      · refine ⟨by omega, ?_⟩
        rw [show i - j = (i - (j + 1)) + 1 by omega]
        exact h2
    · rintro ⟨h1, h2⟩
      rcases Nat.eq_or_lt_of_le h1 with e | e
      · subst e
        rw [Nat.sub_self] at h2
        cases h2
        exact .inl rfl
      · refine .inr ⟨e, ?_⟩
        rw [show i - j = (i - (j + 1)) + 1 by omega] at h2
        exact h2
structure Fit (ns : List Int) (n : Int) (bs : List Blk) (mm : List (Int × Int)) : Prop where
  at_ : ∀ (i : Nat) (a b : Int), mm[i]? = some (a, b) → ∃ k, (a, k, false) ∈ bs ∧ 0 ≤ b ∧ b % sz ns k = 0 ∧ b + sz ns k ≤ n
  nd : ∀ (i j : Nat) (a b c : Int), mm[i]? = some (a, b) → mm[j]? = some (a, c) → i = j
def goal (mm : List (Int × Int)) (a : Int) : Option (Int × Nat) := ((gl 0 mm).find? fun g => decide (g.1 = a)).map (·.2)
theorem goal_some {ns : List Int} {n : Int} {bs : List Blk} {mm : List (Int × Int)} (F : Fit ns n bs mm) {i : Nat} {a b : Int} (h : mm[i]? = some (a, b)) : goal mm a = some (b, i) := by
  unfold goal
  cases e : (gl 0 mm).find? fun g => decide (g.1 = a) with
  | none =>
    have := List.find?_eq_none.mp e (a, b, i) (gl_mem.mpr ⟨Nat.zero_le _, h⟩)
    simp at this
  | some g =>
    obtain ⟨x, y, j⟩ := g
    have h1 := List.find?_some e
    have h2 := List.mem_of_find?_eq_some e
    have ex : x = a := by simpa using h1
    subst ex
    have h3 := (gl_mem.mp h2).2
    rw [Nat.sub_zero] at h3
    obtain rfl := F.nd i j _ _ _ h h3
    rw [h] at h3
    cases h3
    rfl
theorem goal_none {mm : List (Int × Int)} {a : Int} (h : a ∉ mm.map Prod.fst) : goal mm a = none := by
  unfold goal
  cases e : (gl 0 mm).find? fun g => decide (g.1 = a) with
  | none => rfl
  | some g =>
    obtain ⟨x, y, j⟩ := g
    have h1 := List.find?_some e
    have h2 := List.mem_of_find?_eq_some e
    have ex : x = a := by simpa using h1
    subst ex
    have h3 := (gl_mem.mp h2).2
    exact absurd (List.mem_map.mpr ⟨_, List.mem_of_getElem? h3, rfl⟩) h
/-- the place behind the moves -/
def plc (ns : List Int) (mm : List (Int × Int)) (c : Blk) : Pl := match goal mm c.1 with
  | some (b, j) => (b, b + sz ns c.2.1, j)
  | none => (c.1, c.1 + sz ns c.2.1, mm.length)
theorem olds_mem {mm : List (Int × Int)} {a : Int} (h : a ∈ mm.map Prod.fst) : ∃ (i : Nat) (b : Int), mm[i]? = some (a, b) := by
  obtain ⟨⟨x, y⟩, hm, rfl⟩ := List.mem_map.mp h
  obtain ⟨i, hi⟩ := List.mem_iff_getElem?.mp hm
  exact ⟨i, y, hi⟩
theorem blk_uniq {ns : List Int} {n : Int} {bs : List Blk} (w : Wf ns n bs) (g : Good ns) {i j : Nat} {c d : Blk} (hi : bs[i]? = some c) (hj : bs[j]? = some d) (e : c.1 = d.1) : i = j := by
  rcases Nat.lt_trichotomy i j with h | h | h
  · have := (w.lt g hi hj h).2
    omega
  · exact h
  · have := (w.lt g hj hi h).2
    omega
def ov2 (x y : Int × Int) : Prop := x.1 < y.2 ∧ y.1 < x.2
def lev (bs : List Blk) (a : Int) : Nat := ((bs.find? fun c => decide (c.1 = a)).map fun c => c.2.1).getD 0
theorem lev_is {ns : List Int} {n : Int} {bs : List Blk} (w : Wf ns n bs) (g : Good ns) {a : Int} {k : Nat} {p : Bool} (h : (a, k, p) ∈ bs) : lev bs a = k := by
  unfold lev
  cases e : bs.find? fun c => decide (c.1 = a) with
  | none =>
    have := List.find?_eq_none.mp e _ h
    simp at this
  | some c =>
    have h1 := List.find?_some e
    have h2 := List.mem_of_find?_eq_some e
    have ec : c.1 = a := by simpa using h1
    obtain ⟨i, hi⟩ := List.mem_iff_getElem?.mp h
    obtain ⟨j, hj⟩ := List.mem_iff_getElem?.mp h2
    obtain rfl := blk_uniq w g hi hj ec.symm
    rw [hi] at hj
    cases hj
    rfl
def rg (ns : List Int) (bs : List Blk) (m : Int × Int) : Int × Int := (m.2, m.2 + sz ns (lev bs m.1))
/-- no move's goal meets another one's or a block that stays -/
def LawOk (ns : List Int) (bs : List Blk) (mm : List (Int × Int)) : Prop := ∀ (p : Nat) (m : Int × Int), mm[p]? = some m → (∀ (q : Nat) (m' : Int × Int), mm[q]? = some m' → q ≠ p → ¬ ov2 (rg ns bs m) (rg ns bs m')) ∧ ∀ c ∈ bs, c.1 ∉ mm.map Prod.fst → ¬ ov2 (rg ns bs m) (c.1, c.1 + sz ns c.2.1)
section
variable {ns : List Int} {n : Int} {bs : List Blk} {mm : List (Int × Int)}
theorem plc_moved (w : Wf ns n bs) (g : Good ns) (F : Fit ns n bs mm) {p : Nat} {m : Int × Int} (h : mm[p]? = some m) : ∃ (i k : Nat), bs[i]? = some (m.1, k, false) ∧ plc ns mm (m.1, k, false) = (m.2, m.2 + sz ns k, (p : Int)) ∧ lev bs m.1 = k := by
  obtain ⟨a, b⟩ := m
  obtain ⟨k, hk, _⟩ := F.at_ p a b h
  obtain ⟨i, hi⟩ := List.mem_iff_getElem?.mp hk
  refine ⟨i, k, hi, ?_, lev_is w g hk⟩
  unfold plc
  rw [goal_some F h]
theorem plc_stays {c : Blk} (h : c.1 ∉ mm.map Prod.fst) : plc ns mm c = (c.1, c.1 + sz ns c.2.1, (mm.length : Int)) := by
  unfold plc
  rw [goal_none h]
theorem noOv_at (h : NoOv (bs.map (plc ns mm))) {i j : Nat} {c d : Blk} (hi : bs[i]? = some c) (hj : bs[j]? = some d) (ne : i ≠ j) : ¬ ov (plc ns mm c) (plc ns mm d) := by
  have ei : (bs.map (plc ns mm))[i]? = some (plc ns mm c) := by rw [List.getElem?_map, hi]; rfl
  have ej : (bs.map (plc ns mm))[j]? = some (plc ns mm d) := by rw [List.getElem?_map, hj]; rfl
  rcases Nat.lt_or_gt_of_ne ne with z | z
  · exact pair_lt h ei ej z
  · exact fun o => pair_lt h ej ei z (ov_symm o)
theorem law_iff (w : Wf ns n bs) (g : Good ns) (F : Fit ns n bs mm) : NoOv (bs.map (plc ns mm)) ↔ LawOk ns bs mm := by
  constructor
  · intro no p m hp
    obtain ⟨i, k, hi, e1, e2⟩ := plc_moved w g F hp
    refine ⟨fun q m' hq ne o => ?_, fun c hc st o => ?_⟩
    · obtain ⟨j, k', hj, e3, e4⟩ := plc_moved w g F hq
      have nij : i ≠ j := fun z => by
        subst z
        rw [hi] at hj
        have e5 : m.1 = m'.1 := congrArg (fun z : Option Blk => (z.getD (0, 0, false)).1) hj
        obtain ⟨a, b⟩ := m
        obtain ⟨a', b'⟩ := m'
        cases e5
        exact ne (F.nd q p _ _ _ hq hp)
      refine noOv_at no hi hj nij ?_
      rw [e1, e3]
      unfold rg at o
      rw [e2, e4] at o
      exact o
    · obtain ⟨j, hj⟩ := List.mem_iff_getElem?.mp hc
      have nij : i ≠ j := fun z => by
        subst z
        rw [hi] at hj
        cases hj
        exact st (List.mem_map.mpr ⟨m, List.mem_of_getElem? hp, rfl⟩)
      refine noOv_at no hi hj nij ?_
      rw [e1, plc_stays st]
      unfold rg at o
      rw [e2] at o
      exact o
  · intro ok
    refine List.pairwise_map.mpr (List.pairwise_iff_getElem.mpr fun i j hi hj lt o => ?_)
    have ei := List.getElem?_eq_getElem hi
    have ej := List.getElem?_eq_getElem hj
    generalize bs[i] = c at ei o
    generalize bs[j] = d at ej o
    have mvd : ∀ {l : Nat} {e : Blk}, bs[l]? = some e → e.1 ∈ mm.map Prod.fst → ∃ (q : Nat) (m : Int × Int), mm[q]? = some m ∧ m.1 = e.1 ∧ plc ns mm e = (m.2, m.2 + sz ns e.2.1, (q : Int)) ∧ rg ns bs m = (m.2, m.2 + sz ns e.2.1) := fun {l e} hl hm => by
      obtain ⟨q, b, hq⟩ := olds_mem hm
      obtain ⟨i2, k, h1, h2, h3⟩ := plc_moved w g F hq
      obtain rfl := blk_uniq w g hl h1 rfl
      rw [hl] at h1
      have h4 := Option.some.inj h1
      have ek : e.2.1 = k := congrArg (fun z : Blk => z.2.1) h4
      rw [← h4] at h2
      rw [ek]
      refine ⟨q, _, hq, rfl, h2, ?_⟩
      unfold rg
      rw [h3]
    by_cases c1 : c.1 ∈ mm.map Prod.fst <;> by_cases c2 : d.1 ∈ mm.map Prod.fst
    · obtain ⟨p, m, hp, e1, e2, e3⟩ := mvd ei c1
      obtain ⟨q, m', hq, e4, e5, e6⟩ := mvd ej c2
      have ne : q ≠ p := fun z => by
        subst z
        rw [hp] at hq
        cases hq
        have := (w.lt g ei ej lt).2
        omega
      refine (ok p m hp).1 q m' hq ne ?_
      rw [e3, e6]
      rw [e2, e5] at o
      exact o
    · obtain ⟨p, m, hp, e1, e2, e3⟩ := mvd ei c1
      refine (ok p m hp).2 d (List.mem_of_getElem? ej) c2 ?_
      rw [e3]
      rw [e2, plc_stays c2] at o
      exact o
    · obtain ⟨p, m, hp, e1, e2, e3⟩ := mvd ej c2
      refine (ok p m hp).2 c (List.mem_of_getElem? ei) c1 ?_
      rw [e3]
      rw [e2, plc_stays c1] at o
      exact ⟨o.2, o.1⟩
    · rw [plc_stays c1, plc_stays c2] at o
      have h1 := (w.lt g ei ej lt).1
      have h2 : c.1 + sz ns c.2.1 ≤ d.1 := h1
      have h3 := o.2
      have h4 : d.1 < c.1 + sz ns c.2.1 := h3
      omega
/-- what the sweep asks of the places -/
theorem plc_ok (w : Wf ns n bs) (g : Good ns) (F : Fit ns n bs mm) : (∀ t ∈ bs.map (plc ns mm), 0 ≤ t.1 ∧ t.1 < t.2.1 ∧ 0 ≤ t.2.2 ∧ t.2.2 ≤ mm.length ∧ t.2.1 ≤ n) ∧ (bs.map (plc ns mm)).Pairwise fun x y => ¬ (x.2.2 < (mm.length : Int)) → ¬ (y.2.2 < (mm.length : Int)) → ¬ ov x y := by
  constructor
  · intro t ht
    obtain ⟨c, hc, rfl⟩ := List.mem_map.mp ht
    have z1 := w.pos g hc
    have bo := w.ok c hc
    by_cases c1 : c.1 ∈ mm.map Prod.fst
    · obtain ⟨q, b, hq⟩ := olds_mem c1
      obtain ⟨k, hk, b0, _, bn⟩ := F.at_ q _ _ hq
      have ql := (List.getElem?_eq_some_iff.mp hq).1
      have ek : k = c.2.1 := (lev_is w g hk).symm.trans (lev_is w g (p := c.2.2) (k := c.2.1) hc)
      unfold plc
      rw [goal_some F hq]
      refine ⟨b0, ?_, ?_, ?_, ?_⟩
      · show b < b + sz ns c.2.1
        omega
      · show (0 : Int) ≤ (q : Int)
        omega
      · show (q : Int) ≤ _
        omega
      · show b + sz ns c.2.1 ≤ n
        rw [← ek]
        exact bn
    · rw [plc_stays c1]
      refine ⟨bo.2.1, ?_, ?_, Int.le_refl _, bo.2.2.2⟩
      · show c.1 < c.1 + sz ns c.2.1
        omega
      · show (0 : Int) ≤ (mm.length : Int)
        omega
  · refine List.pairwise_map.mpr (List.pairwise_iff_getElem.mpr fun i j hi hj lt h1 h2 o => ?_)
    have ei := List.getElem?_eq_getElem hi
    have ej := List.getElem?_eq_getElem hj
    generalize bs[i] = c at ei o h1
    generalize bs[j] = d at ej o h2
    have st : ∀ {e : Blk}, ¬ ((plc ns mm e).2.2 < (mm.length : Int)) → e.1 ∉ mm.map Prod.fst := fun {e} h z => by
      obtain ⟨q, b, hq⟩ := olds_mem z
      have ql := (List.getElem?_eq_some_iff.mp hq).1
      refine h ?_
      unfold plc
      rw [goal_some F hq]
      show (q : Int) < _
      omega
    rw [plc_stays (st h1), plc_stays (st h2)] at o
    have h4 := (w.lt g ei ej lt).1
    have h5 : c.1 + sz ns c.2.1 ≤ d.1 := h4
    have h3 := o.2
    have h6 : d.1 < c.1 + sz ns c.2.1 := h3
    omega
/-- moves that all fit are ones -/
theorem fit_of {ms : List Mo} (h : ∀ i : Nat, i < ms.length → Gd ns n bs ms i) : ∃ mm, ms = mm.map some ∧ Fit ns n bs mm := by
  have hs : ∀ i : Nat, i < ms.length → ∃ m, ms[i]? = some (some m) := fun i hi => by
    obtain ⟨a, b, k, e, _⟩ := h i hi
    exact ⟨_, e⟩
  have e : ms = (ms.map fun m => m.getD (0, 0)).map some := by
    refine List.ext_getElem? fun i => ?_
    rw [List.getElem?_map, List.getElem?_map]
    cases q : ms[i]? with
    | none => rfl
    | some m =>
      obtain ⟨m2, h2⟩ := hs i (List.getElem?_eq_some_iff.mp q).1
      rw [q] at h2
      cases h2
      rfl
  refine ⟨_, e, ⟨fun i a b q => ?_, ?_⟩⟩
  · have q2 : ms[i]? = some (some (a, b)) := by rw [e, List.getElem?_map, q]; rfl
    obtain ⟨a2, b2, k, e2, _, b0, _, hk, _, h1, h2⟩ := h i (List.getElem?_eq_some_iff.mp q2).1
    rw [q2] at e2
    cases e2
    exact ⟨k, hk, b0, h1, h2⟩
  · have one : ∀ (i j : Nat) (a b c : Int), (ms.map fun m => m.getD (0, 0))[i]? = some (a, b) → (ms.map fun m => m.getD (0, 0))[j]? = some (a, c) → ¬ i < j := fun i j a b c q1 q2 lt => by
      have r1 : ms[i]? = some (some (a, b)) := by rw [e, List.getElem?_map, q1]; rfl
      have r2 : ms[j]? = some (some (a, c)) := by rw [e, List.getElem?_map, q2]; rfl
      obtain ⟨a2, b2, k, e2, _, _, _, _, no, _⟩ := h j (List.getElem?_eq_some_iff.mp r2).1
      rw [r2] at e2
      cases e2
      refine no ?_
      unfold oldsOf
      refine List.mem_filterMap.mpr ⟨some (a, b), ?_, rfl⟩
      exact List.mem_iff_getElem?.mpr ⟨i, by rw [List.getElem?_take_of_lt lt]; exact r1⟩
    intro i j a b c q1 q2
    have h1 := one i j a b c q1 q2
    have h2 := one j i a c b q2 q1
    omega
end
end K34

set_option Elab.async false
set_option linter.all false
set_option maxRecDepth 100000
set_option maxHeartbeats 4000000
/-! Own layer: sorted of tuples of three ints, in their own order. -/
namespace SrtO
open PySem PyProof.Rows Srt
section
variable {prog : Program} {w : World} {A : Around} {E : Value → Shared → Prop} {s : Shared}
abbrev I3 : Type := Int × Int × Int
def IsT3 (h : Heap) (v : Value) (x : I3) : Prop := ∃ a o t u r n, v = .ref a ∧ h.get? a = some o ∧ o.cls = .type "tuple" ∧ o.data = .seq #[.int x.1 t, .int x.2.1 u, .int x.2.2 r] n
theorem IsT3.keeps {h h' : Heap} {v : Value} {x : I3} (p : IsT3 h v x) (k : ∀ b o, h.get? b = some o → o.cls = .type "tuple" → h'.get? b = some o) : IsT3 h' v x := by
  obtain ⟨a, o, t, u, r, n, e, ho, hc, hd⟩ := p
  exact ⟨a, o, t, u, r, n, e, k _ _ ho hc, hc, hd⟩
def lex3 (a b : I3) : Bool := decide (a.1 < b.1 ∨ (a.1 = b.1 ∧ (a.2.1 < b.2.1 ∨ (a.2.1 = b.2.1 ∧ a.2.2 < b.2.2))))
abbrev ltT (k : Value → I3) (v u : Value) : Bool := lex3 (k v) (k u)
theorem swo_t3 {α : Type} (k : α → I3) : Swo (fun v u => lex3 (k v) (k u)) := by
  unfold lex3
  refine ⟨fun x y h => ?_, fun x y z h1 h2 => ?_⟩
  · have a := of_decide_eq_true h
    exact decide_eq_false (by omega)
  · have a := of_decide_eq_false h1
    have b := of_decide_eq_false h2
    exact decide_eq_false (by omega)
theorem t3_cmp {vs : List Value} {k : Value → I3} (hp : ∀ v ∈ vs, IsT3 s.heap v (k v)) : Cmp prog w A s (tuples' true) (fun p => p.1 ∈ vs) (lt2 (ltT k)) := by
  intro p q hm hm'
  show wpAny (model prog w) A (keyLt' (tuples' true) p.1 q.1) (fun r s' => s' = s ∧ r = lex3 (k p.1) (k q.1)) (fun _ _ => False) s
  have h1 := hp _ hm
  have h2 := hp _ hm'
  generalize k p.1 = x at h1
  generalize k q.1 = y at h2
  obtain ⟨a, o, t, u, r, n, e, ho, hc, hdd⟩ := h1
  obtain ⟨a', o', t', u', r', n', e', ho', hc', hdd'⟩ := h2
  rw [e, e']
  obtain ⟨x1, x2, x3⟩ := x
  obtain ⟨y1, y2, y3⟩ := y
  refine PySem.W.kat_lt ho hdd ho' hdd' ?_
  show PySem.W.KatLex prog w A true (decide (3 < 3)) _ [(.int x1 t, .int y1 t'), (.int x2 u, .int y2 u'), (.int x3 r, .int y3 r')] 0 s
  refine PySem.W.kat_cons (SeqAt.EqAt.int_int x1 t y1 t' prog w _ _ ?_)
  refine PySem.W.kat_go (fun e1 => ?_) (fun e1 => ?_)
  · have e1' : x1 = y1 := by simpa using e1
    refine PySem.W.kat_yes (PySem.W.kat_cons (SeqAt.EqAt.int_int x2 u y2 u' prog w _ _ ?_))
    refine PySem.W.kat_go (fun e2 => ?_) (fun e2 => ?_)
    · have e2' : x2 = y2 := by simpa using e2
      refine PySem.W.kat_yes (PySem.W.kat_cons (SeqAt.EqAt.int_int x3 r y3 r' prog w _ _ ?_))
      refine PySem.W.kat_go (fun e3 => ?_) (fun e3 => ?_)
      · have e3' : x3 = y3 := by simpa using e3
        exact PySem.W.kat_yes (PySem.W.kat_nil ⟨rfl, by
          show decide (3 < 3) = _
          unfold lex3
          rw [decide_eq_false (by decide : ¬ 3 < 3)]
          symm
          exact decide_eq_false (by show ¬ (x1 < y1 ∨ (x1 = y1 ∧ (x2 < y2 ∨ (x2 = y2 ∧ x3 < y3)))); omega)⟩)
      · have e3' : ¬ x3 = y3 := by simpa using e3
        refine PySem.W.kat_no ?_
        refine PySem.W.kat_one _ _ (PyProof.Rows.lt_int ?_)
        exact (⟨rfl, by
          unfold lex3
          exact decide_eq_decide.mpr (by show _ ↔ (x1 < y1 ∨ (x1 = y1 ∧ (x2 < y2 ∨ (x2 = y2 ∧ x3 < y3)))); omega)⟩)
    · have e2' : ¬ x2 = y2 := by simpa using e2
      refine PySem.W.kat_no ?_
      refine PySem.W.kat_one _ _ (PyProof.Rows.lt_int ?_)
      exact (⟨rfl, by
        unfold lex3
        exact decide_eq_decide.mpr (by show _ ↔ (x1 < y1 ∨ (x1 = y1 ∧ (x2 < y2 ∨ (x2 = y2 ∧ x3 < y3)))); omega)⟩)
  · have e1' : ¬ x1 = y1 := by simpa using e1
    refine PySem.W.kat_no ?_
    refine oneLt_int ?_
    exact (⟨rfl, by
      unfold lex3
      exact decide_eq_decide.mpr (by show _ ↔ (x1 < y1 ∨ (x1 = y1 ∧ (x2 < y2 ∨ (x2 = y2 ∧ x3 < y3)))); omega)⟩)
theorem firstsT {h : Heap} : ∀ {vs : List Value}, (∀ v ∈ vs, ∃ x, IsT3 h v x) → ∃ fs : List Value, PySem.W.KatTups h vs fs ∧ fs.length = vs.length ∧ ∀ f ∈ fs, ∃ x t, f = Value.int x t
  | [], _ => ⟨[], PySem.W.KatTups.nil, rfl, fun _ hm => by simp at hm⟩
  | v :: vs, hp => by
    obtain ⟨fs, h1, h2, h3⟩ := firstsT (vs := vs) fun v' hm => hp v' (List.mem_cons_of_mem _ hm)
    obtain ⟨x, a, o, t, u, r, n, e, ho, hc, hd⟩ := hp v (List.mem_cons_self ..)
    subst e
    refine ⟨.int x.1 t :: fs, PySem.W.KatTups.cons ho hc hd rfl h1, by rw [List.length_cons, List.length_cons, h2], fun f hm => ?_⟩
    rcases List.mem_cons.mp hm with rfl | hm
    · exact ⟨x.1, t, rfl⟩
    · exact h3 f hm
theorem t3_sortable {a : Addr} {vs : List Value} {k : Value → I3} (h0 : 0 < vs.length) (hp : ∀ v ∈ vs, IsT3 s.heap v (k v)) (ha : ∀ o, s.heap.get? a = some o → o.cls ≠ .type "tuple") : SortableO prog w A s a vs (ltT k) := by
  intro h' keep
  have hp' : ∀ v ∈ vs, IsT3 h' v (k v) := fun v hm => (hp v hm).keeps fun b o e c => keep b o (fun z => by subst z; exact ha o e c) e
  obtain ⟨fs, h1, h2, h3⟩ := firstsT fun v hm => ⟨_, hp' v hm⟩
  refine ⟨tuples' true, fun Q E hq => ?_, t3_cmp hp'⟩
  refine PySem.W.kat_kind (T := .type "int") h1 (by omega) (fun f hm => ?_) (by rfl) ?_
  · obtain ⟨x, t, rfl⟩ := h3 f hm
    exact PySem.W.Looks.now
  · have e : (Value.type "int" != Value.type "tuple") = true := by first | decide +kernel | rfl | decide
    rw [e]
    exact hq
theorem sorted_t3 {l : Addr} {vs : List Value} {k : Value → I3} {Q : Value → Shared → Prop} (hl : s.heap.IsList l vs.toArray) (hz : vs.length ≤ sizeLine) (hp : ∀ v ∈ vs, IsT3 s.heap v (k v))
    (h : ∀ (h' : Heap) (d : Addr) (out : List Value), Srtd (ltT k) out → Stb (ltT k) out vs → (∀ b o, s.heap.get? b = some o → h'.get? b = some o) → s.heap.objs.size ≤ d → (∃ n, h'.get? d = some (seqObj "list" out.toArray n)) → Q (.ref d) { s with heap := h' }) :
    wpAny (model prog w) A (call (.builtin "sorted") [.ref l]) Q E s := by
  refine sorted_ord (swo_t3 k) hl hz (fun h2 h₁ a ha kk => ?_) fun out hs hb => ?_
  · refine t3_sortable (s := { s with heap := h₁ }) (by omega) (fun v hm => (hp v hm).keeps fun b o e _ => (kk b o e).2) fun o e => ?_
    have e' : some o = some (seqObj "list" vs.toArray 0) := e.symm.trans ha
    cases e'
    intro c
    exact absurd (Value.type.inj c) (by decide)
  · exact h _ _ out hs hb (fun b o e => sortedAll_old e) (Nat.le_succ _) (sortedAll_at s.heap vs out.toArray)
end
end SrtO
namespace L2
open PySem PySem.Spec PyProof.Rows
def rSortedT3 (K : PySem.W.Frag) : List V → Hp → VK → Prop := fun vs H Q => ∃ (a : Addr) (xs : List V) (k : V → SrtO.I3), vs = [V.ref a] ∧ SqL K H a xs ∧ (∀ x ∈ xs, ∃ t, x = V.ref t ∧ H t = some (.tup [.int (k x).1, .int (k x).2.1, .int (k x).2.2])) ∧
  ∀ ys p, ys.Pairwise (fun x y => (k x).1 ≤ (k y).1) → ys.Perm xs → H p = none → Q (.ref p) (upd H p (.lst ys))
section
variable {X : Cx}
theorem cr_sortedT3 : CallR X (.builtin "sorted") (rSortedT3 X.K) := by
  intro pins s σ H vs us Q I r h
  obtain ⟨a, xs, k, rfl, hs, hx, q⟩ := h
  obtain ⟨its, rv, hl, hz⟩ := I.list hs
  obtain ⟨u, rfl, ru⟩ := vals1 r
  obtain rfl : u = Value.ref a := ru
  obtain ⟨e1, e2⟩ := refs_back rv fun x m => by
    obtain ⟨t, e, _⟩ := hx x m
    exact ⟨t, e⟩
  have mem : ∀ v ∈ its, backV v ∈ xs := fun v hv => by rw [e1]; exact List.mem_map.mpr ⟨_, hv, rfl⟩
  refine SrtO.sorted_t3 (k := fun u => k (backV u)) hl.isList (by rw [← rv.length]; exact hz) (fun v hv => ?_) fun h' d out h1 h2 kp hd hn => ?_
  · obtain ⟨t, rfl⟩ := e2 v hv
    have hm : V.ref t ∈ xs := mem _ hv
    obtain ⟨t', e, ht⟩ := hx _ hm
    cases e
    obtain ⟨_, its2, r2, o, ho, hc, n, hd⟩ := I.hok _ _ ht
    obtain ⟨u1, u2, u3, rfl, ri, rj, rb⟩ := vals3S r2
    obtain ⟨t1, rfl⟩ := ri
    obtain ⟨t2, rfl⟩ := rj
    obtain ⟨t3, rfl⟩ := rb
    exact ⟨t, o, t1, t2, t3, n, rfl, ho, hc, hd⟩
  · have h3 : ∀ u ∈ out, ∃ a, u = Value.ref a := fun u hu => e2 u (h2.perm.mem_iff.mp hu)
    obtain ⟨n, hn⟩ := hn
    have hb : (out.map backV).Perm xs := by
      rw [e1]
      exact h2.perm.map backV
    refine ⟨.ref d, upd H d (.lst (out.map backV)), I.laid (t' := s.toks) kp hd ⟨?_, out, n, vals_back h3, hn⟩, rfl, q _ d (List.pairwise_map.mpr (h1.imp fun {x y} e => ?_)) hb (I.hok.fresh hd)⟩
    · rw [hb.length_eq]
      exact hz
    · have z : ¬ ((k (backV y)).1 < (k (backV x)).1 ∨ _) := of_decide_eq_false e
      show (k (backV x)).1 ≤ (k (backV y)).1
      omega
end
end L2

set_option Elab.async false
set_option linter.all false
set_option maxRecDepth 100000
set_option maxHeartbeats 4000000
/-! Own layer: a dict comprehension over any walk. -/
namespace L2
open PySem PySem.Spec PyProof.Rows
theorem dc_it {J : It} {n : Nat} {G : Hp → Prop} {Y : Nat → Hp → V → Hp → Prop} (w : Walk J n G Y) {g : TG} {tt : TT} {tk tv : TE} {vs : List Nat} {σ : St} {H1 : Hp} {D : Addr} {Qd : Hp → Prop} (Pv : Nat → Hp → Prop) (h0 : Pv 0 (upd H1 D (.dK []))) (hG : ∀ i H, i ≤ n → Pv i H → G H)
    (hs : ∀ i x H H', i < n → Pv i H → Y i H x H' → g x (wipe σ vs) H' fun σ2 H2 => wipe σ2 vs = wipe σ vs ∧ tt σ2 H2 fun b H3 =>
      if b = true then tk σ2 H3 fun y H4 => tv σ2 H4 fun z H5 => ∃ kvs k, y = kV k ∧ H5 D = some (.dK kvs) ∧ kvs.length < sizeLine ∧ Pv (i + 1) (upd H5 D (.dK (putK kvs k z))) else Pv (i + 1) H3) (hd : ∀ H, Pv n H → Qd H) :
    ∃ W : Nat → Nat → Hp → Prop, (∃ m, W 0 m (upd H1 D (.dK []))) ∧ ∀ i m H, W i m H →
      (J.stop i H ∧ Qd H) ∨ (J.go i H ∧ ∃ Nx : Hp → Prop, (∀ H', Nx H' → ∃ m', m' < m ∧ W (i + 1) m' H') ∧ ∀ x H', J.yld i H x H' → g x (wipe σ vs) H' fun σ2 H2 => wipe σ2 vs = wipe σ vs ∧ tt σ2 H2 fun b H3 =>
        if b = true then tk σ2 H3 fun y H4 => tv σ2 H4 fun z H5 => ∃ kvs k, y = kV k ∧ H5 D = some (.dK kvs) ∧ kvs.length < sizeLine ∧ Nx (upd H5 D (.dK (putK kvs k z))) else Nx H3) := by
  refine ⟨fun i m H => m = n - i ∧ i ≤ n ∧ Pv i H, ⟨n, by simp, Nat.zero_le _, h0⟩, ?_⟩
  rintro i m H ⟨rfl, hi, p⟩
  have q := hG i H hi p
  by_cases hlt : i < n
  · refine .inr ⟨w.goes i H hlt q, Pv (i + 1), fun H' p' => ⟨n - (i + 1), by omega, rfl, hlt, p'⟩, fun x H' y => hs i x H H' hlt p (w.yields i H x H' hlt q y)⟩
  · have e : i = n := by omega
    subst e
    exact .inl ⟨w.stops H q, hd H p⟩
end L2
namespace L2
open PySem PySem.Spec PyProof.Rows
section
variable {X : Cx}
theorem sw_trueD {kx vx : Expr} {gs : List Comprehension} {scope : Scope} {pos py : Pos} {y : Str} {l : Nat} {env : Env} (hk : env.scope.kind = .function) (hy : env.scope.names.lookup y = some .local) (hl : (py.line == pos.line) = true)
    (ha : (scope.names.any fun (n, k) => n == y && (k == .local || k == .cell)) = false) : swapsWith (.DictComp kx vx gs scope pos) (some (.Name y py)) l env = pure true := by
  have ky : env.kindOf y = some .local := hy
  have hb : env.blockKind = .function := by unfold Env.blockKind; rw [hk]; rfl
  unfold swapsWith
  simp only [hb, ky, ha, Expr.pos, hl]
  rfl
/-- y = {k: v for target in iter if ..} -/
theorem ps_setDc {i : Nat} {y : Str} {py : Pos} {kx vx tg iter : Expr} {ifs : List Expr} {scope : Scope} {own : List (Str × Nat)} {pos spos : Pos} {wi : TI} {g : TG} {tt : TT} {tk tv : TE} (hc : X.calm = true) (hN : X.N.Nodup) (hy : X.N[i]? = some y) (hyl : X.env.scope.names.lookup y = some .local)
    (hsw : swapsWith (.DictComp kx vx [⟨tg, iter, ifs, 0⟩] scope pos) (some (.Name y py)) spos.line X.env = pure true) (hi : PI X tg iter wi) (ok : BlkOk X.N X.env.scope scope own)
    (hg : ∀ (s : Shared) (H : Hp) (C : Addr) (cl : List (Str × Addr)) (fp : List Addr), PG (X.blk s H scope (compEnvC scope cl C X.env) fp) tg g) (ht : ∀ (s : Shared) (H : Hp) (C : Addr) (cl : List (Str × Addr)) (fp : List Addr), PTs (X.blk s H scope (compEnvC scope cl C X.env) fp) ifs tt)
    (hk : ∀ (s : Shared) (H : Hp) (C : Addr) (cl : List (Str × Addr)) (fp : List Addr), PE (X.blk s H scope (compEnvC scope cl C X.env) fp) kx tk)
    (he : ∀ (s : Shared) (H : Hp) (C : Addr) (cl : List (Str × Addr)) (fp : List Addr), PE (X.blk s H scope (compEnvC scope cl C X.env) fp) vx tv) (hs : ∀ x, foldedSetIterable iter X.env x = pure x := by intro _; rfl) :
    PS X (.Assign [.Name y py] (.DictComp kx vx [⟨tg, iter, ifs, 0⟩] scope pos) spos) (tAsg (tDc wi g tt tk tv (own.map (·.2))) (gName i)) := by
  refine ⟨fun pins s σ H D I h => ?_⟩
  rw [exec_Assign_Name_used _ _ _ _ hsw]
  refine wpAny_bind (wpAny_standAt (wpAny_bind ?_))
  show wpAny _ X.A (do let _ ← comprehension (.DictComp kx vx [⟨tg, iter, ifs, 0⟩] scope pos) scope X.env (firstIterPos [⟨tg, iter, ifs, 0⟩] pos) newDict false (eval iter X.env) (some (assign (.Name y py) X.env))) _ _ s
  have h : tDc wi g tt tk tv (own.map (·.2)) σ H (fun x H1 => gName i x σ H1 D.nx) := h
  refine wpAny_bind (thn (dc_core (Qf := fun _ s' => SP X pins D .next s') hc hN I hi ok hg ht hk he hs h fun L C s' m H' I' q hn f => ?_) fun _ s' hq => wpAny_pure (wpAny_pure hq))
  show wpAny _ _ (assign (.Name y py) X.env (.ref L)) _ _ _
  refine wpAny_assign_Name (store_ok2 (v := V.ref L) I' hN hy (.inl hyl) rfl (fun s2 I2 ⟨a, sb, ha⟩ => ?_) (.inr hyl))
  obtain ⟨f0, f1, f2, f3, f4, f5⟩ := f
  have haC : C ≠ a := by
    rcases ha with z | z
    · rw [z]; exact f1
    · exact fun e => f4 y a z e.symm
  refine ⟨m, hn.sameBut sb haC, fun h3 sb3 => ?_⟩
  exact ⟨_, H', I2.turned (t' := s2.toks) (fun b o hb e => (sb3.2 b hb).trans e) f0 f1 f3 f4 f5, q⟩
end
end L2
namespace Ex
open PySem PySem.Spec PyProof.Rows L2 Gu
/-- len(xs) within a block -/
def rLenS (K : PySem.W.Frag) : List V → Hp → VK → Prop := fun xs H Q => ∃ p ys, xs = [.ref p] ∧ (SqL K H p ys ∨ SqT K H p ys) ∧ Q (.int ys.length) H
section
variable {X : Cx} {o e : Expr} {es : List Expr} {to : TE} {t : TA} {name : Str} {apos cpos pos p : Pos} {T id : String} {r : V → List V → Hp → VK → Prop}
theorem pbmB (K : PySem.W.Frag) (pa : PlainAttrs T) (slot : Slot T name id) (hty : typeOf (.builtin id) = pure (.type "method_descriptor")) (hm : MtR X id r) (ho : PE X o to) (ha : PA X (e :: es) t) (hK : X.K = K := by rfl)
    (hbase : attributeBase o name X.env (eval o X.env) = eval o X.env := by rfl)
    (hfew : ((backTo cpos (starEach (e :: es) X.env)).all (fun x => !x.1) && (backToKw cpos (keywordEach [] X.env)).all (fun x => x.1.isSome)
      && decide ((e :: es).length + ([] : List Keyword).length + (if ([] : List Keyword).isEmpty then 0 else 1) < 30)) = true := by rfl)
    (hline : (apos.endLine == cpos.line) = true := by rfl) (hs : starEach (e :: es) X.env = (false, eval e X.env) :: starEach es X.env := by rfl) (hplain : (backTo cpos (starEach es X.env)).any (·.1) = false := by rfl) :
    PE X (.Call (.Attribute o name apos) (e :: es) [] cpos) (tBM K T r to t) := by
  subst hK
  exact pe_bm pa slot hty hm ho ha hbase hfew hline hs hplain
theorem plenB (K : PySem.W.Frag) (hg : Gl X "len") (hm : X.mg "len" = none) (ha : PA X [e] t) (hK : X.K = K := by rfl) (he : starEach [e] X.env = (false, eval e X.env) :: starEach [] X.env := by rfl) :
    PE X (.Call (.Name "len" p) [e] [] pos) (tCB (rLenS K) t) := by
  subst hK
  exact pe_callB call_len_seq hg hm (by decide +kernel) ha (by decide) (by decide) he (by rfl)
end
end Ex

set_option Elab.async false
set_option linter.all false
set_option maxRecDepth 100000
set_option maxHeartbeats 4000000
namespace K34
open PySem PySem.Spec PyProof.Rows L2 Gu Ex
/-- the dict of the goals -/
inductive Gls (H : Hp) : List (Key × V) → List (Int × Int × Nat) → Prop
  | nil : Gls H [] []
  | cons {t : Addr} {a b : Int} {j : Nat} {kvs : List (Key × V)} {l : List (Int × Int × Nat)} : H t = some (.tup [.int b, .int (j : Nat)]) → Gls H kvs l → Gls H ((Sum.inl a, .ref t) :: kvs) ((a, b, j) :: l)
section
variable {H H' : Hp} {kvs : List (Key × V)} {l : List (Int × Int × Nat)}
theorem Gls.same (h : Gls H kvs l) (s : Same H H') : Gls H' kvs l := by
  induction h with
  | nil => exact .nil
  | cons e _ ih => exact .cons (s _ _ e) ih
theorem Gls.but {D : Addr} {xs : List (Key × V)} (h : Gls H kvs l) (hD : H D = some (.dK xs)) (s : But1 D H H') : Gls H' kvs l := by
  induction h with
  | nil => exact .nil
  | cons e _ ih =>
    refine .cons (s _ _ (fun z => ?_) e) ih
    rw [z, hD] at e
    cases e
theorem Gls.snoc (h : Gls H kvs l) {t : Addr} {a b : Int} {j : Nat} (e : H t = some (.tup [.int b, .int (j : Nat)])) : Gls H (kvs ++ [(Sum.inl a, .ref t)]) (l ++ [(a, b, j)]) := by
  induction h with
  | nil => exact .cons e .nil
  | cons e2 _ ih => exact .cons e2 ih
theorem Gls.get (h : Gls H kvs l) (a : Int) : (valV kvs (Sum.inl a) = none ∧ l.find? (fun g => decide (g.1 = a)) = none) ∨ ∃ (t : Addr) (b : Int) (j : Nat), valV kvs (Sum.inl a) = some (.ref t) ∧ H t = some (.tup [.int b, .int (j : Nat)]) ∧ l.find? (fun g => decide (g.1 = a)) = some (a, b, j) := by
  induction h with
  | nil => exact .inl ⟨rfl, rfl⟩
  | @cons t a' b j kvs l e _ ih =>
    by_cases z : a' = a
    · subst z
      refine .inr ⟨t, b, j, valV_pos rfl, e, ?_⟩
      rw [List.find?_cons_of_pos (by simp)]
    · rw [valV_neg (fun q => z (by cases q; rfl)), List.find?_cons_of_neg (by simpa using z)]
      exact ih
theorem Gls.len (h : Gls H kvs l) : kvs.length = l.length := by
  induction h with
  | nil => rfl
  | cons _ _ ih => rw [List.length_cons, List.length_cons, ih]
end
theorem Gls.butL {H H' : Hp} {kvs : List (Key × V)} {l : List (Int × Int × Nat)} {D : Addr} {xs : List V} (h : Gls H kvs l) (hD : H D = some (.lst xs)) (s : But1 D H H') : Gls H' kvs l := by
  induction h with
  | nil => exact .nil
  | cons e _ ih =>
    refine .cons (s _ _ (fun z => ?_) e) ih
    rw [z, hD] at e
    cases e
theorem join3 {α β γ : Type} {G : Prop} (Pc : α → β → γ → Prop) {R : α → β → γ → Prop} (h1 : (∀ c d e, Pc c d e → R c d e) → G) (h2 : ∀ c d e, Pc c d e → R c d e) : G := h1 h2
def plV (t : Pl) : List V := [.int t.1, .int t.2.1, .int t.2.2]
def plA (G : Hp) : V → Pl
  | .ref t => match G t with
    | some (.tup [.int a, .int b, .int c]) => (a, b, c)
    | _ => (0, 0, 0)
  | _ => (0, 0, 0)
theorem plA_of {G : Hp} {t : Addr} {x : Pl} (h : G t = some (.tup (plV x))) : plA G (.ref t) = x := by
  unfold plA
  show (match G t with
    | some (.tup [.int a, .int b, .int c]) => (a, b, c)
    | _ => (0, 0, 0)) = x
  rw [h]
  rfl
theorem pl_refs {G : Hp} {qs : List Addr} {ts : List Pl} (h : Refs plV G qs ts) : ts = (qs.map V.ref).map (plA G) ∧ ∀ x ∈ qs.map V.ref, ∃ t, x = V.ref t ∧ G t = some (.tup (plV (plA G x))) := by
  induction h with
  | nil => exact ⟨rfl, fun _ z => nomatch z⟩
  | @cons p ps t ts e _ ih =>
    refine ⟨?_, fun x hx => ?_⟩
    · rw [List.map_cons, List.map_cons, plA_of e, ← ih.1]
    · rcases List.mem_cons.mp hx with z | z
      · subst z
        exact ⟨p, rfl, by rw [plA_of e]; exact e⟩
      · exact ih.2 x z
theorem refs_pl {G : Hp} : ∀ {ys : List V}, (∀ x ∈ ys, ∃ t, x = V.ref t ∧ G t = some (.tup (plV (plA G x)))) → ∃ qs : List Addr, ys = qs.map V.ref ∧ Refs plV G qs (ys.map (plA G))
  | [], _ => ⟨[], rfl, .nil⟩
  | y :: ys, h => by
    obtain ⟨t, e, ht⟩ := h y List.mem_cons_self
    obtain ⟨qs, e2, r⟩ := refs_pl (ys := ys) fun x hx => h x (List.mem_cons_of_mem _ hx)
    subst e
    refine ⟨t :: qs, by rw [e2]; rfl, ?_⟩
    rw [List.map_cons]
    exact .cons ht r
section
variable {P : Program} {w : World} {K : PySem.W.Frag} {mg : Str → Option Value} {base : Heap} {f : Addr} {fd : FuncData}
theorem Mvs.at_some {H : Hp} {xs : List V} {mm : List (Int × Int)} (h : Mvs H xs (mm.map some)) {i : Nat} {v : V} (hv : xs[i]? = some v) : ∃ t a b, v = .ref t ∧ H t = some (.tup [.int a, .int b]) ∧ mm[i]? = some (a, b) := by
  obtain ⟨m, hm, mv⟩ := h.get hv
  rw [List.getElem?_map] at hm
  cases e : mm[i]? with
  | none => rw [e] at hm; cases hm
  | some p =>
    rw [e] at hm
    cases hm
    obtain ⟨a, b⟩ := p
    cases mv with
    | mv e2 => exact ⟨_, a, b, rfl, e2, rfl⟩
def spPlaces (K : PySem.W.Frag) : Sp := fun vs H Q _ => ∃ (y zp bl dx a : Addr) (ps : List Addr) (ns : List Int) (n : Int) (bs : List Blk) (xs : List V) (mm : List (Int × Int)), vs = [.ref y, .ref a] ∧ Ly K H y zp bl dx ps ns n bs ∧ H a = some (.lst xs) ∧ Mvs H xs (mm.map some) ∧ Fit ns n bs mm ∧ xs.length ≤ 1000 ∧
  ∀ l qs ts H', H l = none → Same H H' → H' l = some (.lst (qs.map V.ref)) → Refs plV H' qs ts → ts.Perm (bs.map (plc ns mm)) → ts.Pairwise (fun x y => x.1 ≤ y.1) → Q (.ref l) H'
theorem sc_places_after : FnScope ["layout", "moves", "goals", "places", "address", "level", "is_pinned", "low", "index", "old", "new"] ["layout", "moves"] (defScope (top 26)) := ⟨rfl, rfl, rfl, by decide +kernel, rfl, by decide +kernel, by decide +kernel⟩
theorem ok_places (T : Tx K mg) (M_blocks : Mf P w K mg base 1 "Layout" "blocks" ["self"] (spBlk K)) (P_sizes : Pf P w K mg base 1 "Layout" "sizes" (spSzs K)) (M_size : Mf P w K mg base 5 "Sizes" "size" ["self", "level"] (spSize K))
    (F : FnP K "places_after" "places_after" (top 26) f fd) : FnOk P w K mg base CX0 6 f fd ["layout", "moves"] (spPlaces K) := by
  refine F.ok sc_places_after (fun vs H Q E h => ?_) (fun cdv A outer s H vs Q E hr h => ⟨_, PSs.nox (pss_cons (ps_setDc (i := 2) (own := [("index", 8), ("old", 9), ("new", 10)]) (g := gTup K 2 (gCons (gName 8) (gCons (gTup K 2 (gCons (gName 9) (gCons (gName 10) gNil))) gNil))) rfl sc_places_after.nd rfl rfl (sw_trueD rfl rfl rfl (by decide +kernel)) (pi_enum rfl T.n_enumerate (pa_cons (pv 1) pa_nil)) (blkOk_by (own := [("index", 8), ("old", 9), ("new", 10)]) (N := ["layout", "moves", "goals", "places", "address", "level", "is_pinned", "low", "index", "old", "new"]) (sc := defScope (top 26)) (by decide +kernel)) (fun _ _ _ _ _ => pg_tup rfl (pgs_cons (pg_name (i := 8) sc_places_after.nd rfl (Or.inl rfl)) (pgs_cons (pg_tup rfl (pgs_cons (pg_name (i := 9) sc_places_after.nd rfl (Or.inl rfl)) (pgs_cons (pg_name (i := 10) sc_places_after.nd rfl (Or.inl rfl)) pgs_nil))) pgs_nil))) (fun _ _ _ _ _ => pts_nil) (fun _ _ _ _ _ => (pv 9)) (fun _ _ _ _ _ => (pe_tup (pa_cons (pv 10) (pa_cons (pv 8) pa_nil))))) (pss_cons (ps_set (i := 3) sc_places_after.nd rfl (by first | exact Or.inl rfl | exact Or.inr rfl) (pe_lst pa_nil)) (pss_cons (ps_for PassesOwn.never rfl (pi_list (pmeth0 M_blocks hr (pv 0))) (pg_tup (by rfl) (pgs_cons (pg_name (i := 4) sc_places_after.nd rfl (by first | exact Or.inl rfl | exact Or.inr rfl)) (pgs_cons (pg_name (i := 5) sc_places_after.nd rfl (by first | exact Or.inl rfl | exact Or.inr rfl)) (pgs_cons (pg_name (i := 6) sc_places_after.nd rfl (by first | exact Or.inl rfl | exact Or.inr rfl)) pgs_nil)))) (pss_cons (ps_asg (pe_dget2 (u1 hr) (pv 2) (pv 4) (pe_tup (pa_cons (pv 4) (pa_cons (pe_callB call_len_seq (by rfl) T.n_len (by decide +kernel) (pa_cons (pv 1) pa_nil)) pa_nil))) ⟨rfl, rfl, rfl, rfl⟩) (pg_tup (by rfl) (pgs_cons (pg_name (i := 7) sc_places_after.nd rfl (by first | exact Or.inl rfl | exact Or.inr rfl)) (pgs_cons (pg_name (i := 8) sc_places_after.nd rfl (by first | exact Or.inl rfl | exact Or.inr rfl)) pgs_nil)))) (pss_one (ps_expr (pe_bm PySem.F.plainAttrs_list PySem.F.slot_list_append PySem.F.type_list_append mt_append (pv 3) (pa_cons (pe_tup (pa_cons (pv 7) (pa_cons (pe_op op_add (pv 7) (pmeth M_size hr (pprop P_sizes hr (pv 0)) (pa_cons (pv 5) pa_nil))) (pa_cons (pv 8) pa_nil)))) pa_nil)))))) (pss_one (ps_ret (pe_callB cr_sortedT3 (by rfl) T.n_sorted (by decide +kernel) (pa_cons (pv 3) pa_nil))))))), ?_⟩)
  · obtain ⟨y, zp, bl, dx, a, ps, ns, n, bs, xs, mm, rfl, _⟩ := h
    rfl
  · obtain ⟨y, zp, bl, dx, a, ps, ns, n, bs, xs, mm, rfl, L, ha, hm, Ft, x1000, q⟩ := h
    have wf := L.wf
    have gd := L.gd
    have sl : sizeLine = 16777216 := sizeLine_eq
    have xl : xs.length = mm.length := by rw [hm.len, List.length_map]
    refine ⟨_, rfl, a, _, rfl, SqL.of ha, fun D hD => ?_⟩
    refine dc_it (walk_enum (xs := xs)) (fun i G => Same H G ∧ ∃ kvs, G D = some (.dK kvs) ∧ Gls G kvs (gl 0 (mm.take i))) ⟨same_upd hD, [], upd_same, .nil⟩ (fun i G _ h => SqL.of (h.1 _ _ ha)) ?_ ?_
    · rintro i x G1 G2 hi ⟨sm, kvs, hG, hg⟩ ⟨T', y1, y2, rfl, hT, rfl, e1, e2⟩
      cases e1
      obtain ⟨t, a1, b1, rfl, et, em⟩ := hm.at_some e2
      have s1 := same_upd (o := .tup [.int (i : Nat), .ref t]) hT
      have sm1 := sm.trans s1
      have hG1 := s1 _ _ hG
      have hg1 := hg.same s1
      have et1 := sm1 _ _ et
      have il : i < mm.length := by rw [← xl]; exact hi
      refine ⟨T', _, rfl, .inl (.inl upd_same), rfl, _, _, rfl, _, _, rfl, t, _, rfl, .inl (.inl et1), rfl, _, _, rfl, _, _, rfl, rfl, rfl, ?_⟩
      generalize (upd G1 T' (.tup [.int (i : Nat), .ref t])) = G at *
      refine ⟨rfl, _, rfl, _, rfl, _, rfl, (by show 2 ≤ sizeLine; decide), fun u hu => ?_⟩
      have s2 := same_upd (o := .tup [.int b1, .int (i : Nat)]) hu
      have hu2 : (upd G u (.tup [.int b1, .int (i : Nat)])) u = some (.tup [.int b1, .int (i : Nat)]) := upd_same
      have hG2 := s2 _ _ hG1
      have hg2 := hg1.same s2
      have sm2 := sm1.trans s2
      generalize (upd G u (.tup [.int b1, .int (i : Nat)])) = G4 at *
      have no : valV kvs (Sum.inl a1) = none := by
        rcases hg.get a1 with ⟨z, _⟩ | ⟨t', b', j', _, _, z⟩
        · exact z
        · have h2 := List.mem_of_find?_eq_some z
          obtain ⟨_, h3⟩ := gl_mem.mp h2
          rw [Nat.sub_zero] at h3
          have lj : j' < i := by
            have := (List.getElem?_eq_some_iff.mp h3).1
            rw [List.length_take] at this
            omega
          rw [List.getElem?_take_of_lt lj] at h3
          have := Ft.nd _ _ _ _ _ h3 em
          omega
      refine ⟨kvs, Sum.inl a1, rfl, hG2, (by rw [hg.len, gl_len, List.length_take]; omega), fun c o ec => ?_, kvs ++ [(Sum.inl a1, .ref u)], ?_, ?_⟩
      · rw [upd_ne (ne_of_none ec hD)]
        exact sm2 c o ec
      · rw [upd_same, putK_new _ no]
      · have tk : mm.take (i + 1) = mm.take i ++ [(a1, b1)] := by rw [List.take_add_one, em]; rfl
        rw [tk, gl_snoc, Nat.zero_add, List.length_take, Nat.min_eq_left (by omega)]
        refine (hg2.but hG2 fun c o nc ec => by rw [upd_ne nc]; exact ec).snoc ?_
        rw [upd_ne (fun z => by rw [z, hG2] at hu2; cases hu2)]
        exact hu2
    · rintro G0 ⟨sm0, kvs, hG0, hg0⟩
      rw [xl, List.take_length] at hg0
      refine ⟨(by show 0 ≤ sizeLine; decide), fun R hR => ?_⟩
      have s1 := same_upd (o := .lst []) hR
      have hR0 : (upd G0 R (.lst [])) R = some (.lst (([] : List Addr).map V.ref)) := upd_same
      have sm1 := sm0.trans s1
      have fR := sm0.free hR
      generalize (upd G0 R (.lst [])) = G1 at *
      refine ⟨_, rfl, y, dx, _, rfl, (sm1 _ _ L.at_), lay_nm (by decide +kernel), y, zp, bl, dx, ps, ns, n, bs, rfl, L.same sm1, fun l hl => ?_⟩
      have s2 := same_upd (o := .lst (ps.map V.ref)) hl
      have hl2 : (upd G1 l (.lst (ps.map V.ref))) l = some (.lst (ps.map V.ref)) := upd_same
      have sm2 := sm1.trans s2
      have hR2 := s2 _ _ hR0
      have hg2 := (hg0.same s1).same s2
      have hG2 := s2 _ _ (s1 _ _ hG0)
      have nlR : l ≠ R := (ne_of_none hR0 hl).symm
      generalize (upd G1 l (.lst (ps.map V.ref))) = G2 at *
      have L2 := L.same sm2
      refine ⟨l, rfl, ⟨_, SqL.of hl2⟩, ?_⟩
      have pl := L.rf.len
      have bn := L.ln
      refine for_list (K := K) (a := l) (xs := ps.map V.ref) (fun i σ G => (∃ x4 x5 x6 x7 x8, σ = [some (.ref y), some (.ref a), some (.ref D), some (.ref R), x4, x5, x6, x7, x8, none, none]) ∧ Same H G ∧ G l = some (.lst (ps.map V.ref)) ∧ G D = some (.dK kvs) ∧ Gls G kvs (gl 0 mm) ∧ ∃ qs, G R = some (.lst (qs.map V.ref)) ∧ Refs plV G qs ((bs.take i).map (plc ns mm)))
        ⟨⟨none, none, none, none, none, rfl⟩, sm2, hl2, hG2, hg2, [], hR2, .nil⟩ (fun i σ G _ h => SqL.of h.2.2.1) ?_ ?_
      · rintro i x σ G hx ⟨⟨x4, x5, x6, x7, x8, rfl⟩, sm, hl3, hG3, hg3, qs, hR3, rf3⟩
        obtain ⟨p, hp, rfl⟩ := ref_of hx
        have L3 := L.same sm
        obtain ⟨b, hb, hT⟩ := L3.rf.get hp
        have hT' : G p = some (.tup [.int b.1, .int (b.2.1 : Nat), .bl b.2.2]) := hT
        have bm := List.mem_of_getElem? hb
        have il := (List.getElem?_eq_some_iff.mp hb).1
        have kl : b.2.1 < ns.length := (wf.ok b bm).1
        refine ⟨p, _, rfl, .inl (.inl hT'), rfl, _, _, rfl, _, _, rfl, _, _, rfl, rfl, ?_⟩
        refine join3 (fun (lo ix : Int) (G' : Hp) => Same G G' ∧ plc ns mm b = (lo, lo + sz ns b.2.1, ix)) (R := ?R) (fun tail => ?main) ?tl
        case main =>
          refine ⟨_, rfl, D, rfl, .inl ⟨_, .inl hG3⟩, _, rfl, _, rfl, _, rfl, a, _, rfl, .inl (SqL.of (sm _ _ ha)), (by show 2 ≤ sizeLine; decide), fun u hu => ?_⟩
          have s4 := same_upd (o := .tup [.int b.1, .int (xs.length : Nat)]) hu
          have hu4 : (upd G u (.tup [.int b.1, .int (xs.length : Nat)])) u = some (.tup [.int b.1, .int (xs.length : Nat)]) := upd_same
          have hG4 := s4 _ _ hG3
          have hg4 := hg3.same s4
          generalize (upd G u (.tup [.int b.1, .int (xs.length : Nat)])) = G4 at *
          refine ⟨_, DGet.k (k := Sum.inl b.1) hG4, ?_⟩
          rcases (hg4.get b.1).symm with ⟨t, lo, j, z1, et, z2⟩ | ⟨z1, z2⟩
          · rw [z1]
            obtain ⟨ix, eix⟩ : ∃ z : Int, z = (j : Int) := ⟨_, rfl⟩
            rw [← eix] at et
            have ep : plc ns mm b = (lo, lo + sz ns b.2.1, ix) := by
              unfold plc goal
              rw [z2, eix]
              rfl
            refine ⟨t, _, rfl, .inl (.inl et), rfl, _, _, rfl, _, _, rfl, rfl, ?_⟩
            exact tail lo ix G4 ⟨s4, ep⟩
          · rw [z1]
            refine ⟨u, _, rfl, .inl (.inl hu4), rfl, _, _, rfl, _, _, rfl, rfl, ?_⟩
            have ep : plc ns mm b = (b.1, b.1 + sz ns b.2.1, (xs.length : Int)) := by
              unfold plc goal
              rw [z2, xl]
              rfl
            exact tail b.1 (xs.length : Nat) G4 ⟨s4, ep⟩
        case tl =>
          rintro lo ix G4 ⟨s4, ep⟩
          have sm4 := sm.trans s4
          have L4 := L.same sm4
          have hR4 := s4 _ _ hR3
          obtain ⟨dz, lz, z1, z2⟩ := id L4.szs
          refine ⟨_, rfl, .inl ⟨rfl, _, SqL.of hR4⟩, _, rfl, _, rfl, _, rfl, y, dx, _, rfl, L4.at_, y, zp, bl, dx, ps, ns, n, bs, rfl, L4, zp, dz, _, rfl, z1, szF_no lz (by decide +kernel), _, rfl, zp, ns, b.2.1, _, rfl, L4.szs, sz_at kl, _, _, rfl, rfl, _, rfl, (by show 3 ≤ sizeLine; decide), fun v hv => ?_⟩
          have s5 := same_upd (o := .tup [.int lo, .int (lo + sz ns b.2.1), .int ix]) hv
          have hv5 : (upd G4 v (.tup [.int lo, .int (lo + sz ns b.2.1), .int ix])) v = some (.tup [.int lo, .int (lo + sz ns b.2.1), .int ix]) := upd_same
          have s45 := s4.trans s5
          have hR5 := s5 _ _ hR4
          have sm5 := sm4.trans s5
          generalize (upd G4 v (.tup [.int lo, .int (lo + sz ns b.2.1), .int ix])) = G5 at *
          have ql := rf3.len
          rw [List.length_map, List.length_take] at ql
          have bt : But1 R G5 (upd G5 R (.lst (qs.map V.ref ++ [.ref v]))) := fun c o nc ec => by
            rw [upd_ne nc]
            exact ec
          have nlst : ∀ {c : Addr} {zs : List V}, G5 c = some (.tup zs) → c ≠ R := fun {c zs} ec z => by
            rw [z, hR5] at ec
            cases ec
          refine ⟨R, _, _, rfl, rfl, hR5, (by rw [List.length_map]; omega), ?_⟩
          have hR6 : (upd G5 R (.lst (qs.map V.ref ++ [.ref v]))) R = some (.lst ((qs ++ [v]).map V.ref)) := by
            rw [upd_same, List.map_append]
            rfl
          generalize (upd G5 R (.lst (qs.map V.ref ++ [.ref v]))) = G6 at *
          have h45 := s45 _ _ hl3
          have hD45 := s45 _ _ hG3
          refine ⟨⟨_, _, _, _, _, rfl⟩, fun c o ec => bt c o (ne_of_none ec fR) (sm5 c o ec), bt _ _ nlR h45, bt _ _ (fun z => by rw [z, hR5] at hD45; cases hD45) hD45, ?_, qs ++ [v], hR6, ?_⟩
          · have h5 := hg3.same s45
            exact h5.butL hR5 bt
          · have tk : bs.take (i + 1) = bs.take i ++ [b] := by rw [List.take_add_one, hb]; rfl
            rw [tk, List.map_append]
            refine Refs.app ((rf3.same s45).mono fun c zs ec => bt c _ (nlst ec) ec) (Refs.one ?_)
            rw [ep]
            exact bt _ _ (nlst hv5) hv5
      · rintro σ G ⟨⟨x4, x5, x6, x7, x8, rfl⟩, sm, hl3, hG3, hg3, qs, hR3, rf3⟩
        rw [List.length_map, pl, List.take_length] at rf3
        obtain ⟨e1, e2⟩ := pl_refs rf3
        refine ⟨_, rfl, R, _, plA G, rfl, SqL.of hR3, e2, fun ys p hs hp hpn => ?_⟩
        obtain ⟨qs', e3, rf'⟩ := refs_pl (G := G) (ys := ys) fun x hx => e2 x (hp.mem_iff.mp hx)
        subst e3
        refine q p qs' _ _ (sm.free hpn) (sm.trans (same_upd hpn)) upd_same (rf'.same (same_upd hpn)) ?_ ?_
        · rw [e1]
          exact hp.map _
        · exact List.pairwise_map.mpr hs
end
end K34

set_option Elab.async false
set_option linter.all false
set_option maxRecDepth 100000
set_option maxHeartbeats 4000000
/-! Mathematics: which place a sweep tells: the least index of a place that meets another one. -/
namespace K34
open PySem PySem.Spec PyProof.Rows L2 Gu Ex
/-- no place of this index meets another one -/
def NoX (x : Int) (ts : List Pl) : Prop := ts.Pairwise fun u v => ov u v → u.2.2 ≠ x ∧ v.2.2 ≠ x
theorem noX_perm {x : Int} {ts us : List Pl} (p : ts.Perm us) : NoX x ts ↔ NoX x us := by
  unfold NoX
  exact p.pairwise_iff fun {u v} h o => ⟨(h (ov_symm o)).2, (h (ov_symm o)).1⟩
theorem flag_iff {ts : List Pl} (so : ts.Pairwise fun x y => x.1 ≤ y.1) (pos : ∀ t ∈ ts, 0 ≤ t.1 ∧ t.1 < t.2.1) {j : Nat} {t : Pl} (ht : ts[j]? = some t) : flag ts j ↔ ∃ l u, ts[l]? = some u ∧ l ≠ j ∧ ov t u := by
  have tp := pos t (List.mem_of_getElem? ht)
  constructor
  · rintro ⟨t', ht', h⟩
    rw [ht] at ht'
    cases ht'
    rcases h with h | ⟨u, hu, h⟩
    · rcases endI_at (ts := ts.take j) with z | ⟨v, hv, e⟩
      · omega
      · obtain ⟨l, hl, el⟩ := mem_take_lt hv
        have h1 := pair_lt so el ht hl
        exact ⟨l, v, el, by omega, by omega, by omega⟩
    · have h1 := pair_lt so ht hu (by omega)
      have up := pos u (List.mem_of_getElem? hu)
      exact ⟨j + 1, u, hu, by omega, by omega, by omega⟩
  · rintro ⟨l, u, hu, ne, o⟩
    refine ⟨t, ht, ?_⟩
    rcases Nat.lt_or_gt_of_ne ne with z | z
    · left
      have h1 : u.2.1 ≤ endI (ts.take j) := endI_ge (List.mem_iff_getElem?.mpr ⟨l, by rw [List.getElem?_take_of_lt z]; exact hu⟩)
      have := o.1
      omega
    · right
      have hl := (List.getElem?_eq_some_iff.mp hu).1
      have hn : j + 1 < ts.length := by omega
      have en := List.getElem?_eq_getElem hn
      refine ⟨_, en, ?_⟩
      have h2 := o.2
      rcases Nat.lt_or_ge (j + 1) l with q | q
      · have := pair_lt so en hu q
        omega
      · obtain rfl : l = j + 1 := by omega
        rw [en] at hu
        cases hu
        exact h2
theorem noX_iff {ts : List Pl} (so : ts.Pairwise fun x y => x.1 ≤ y.1) (pos : ∀ t ∈ ts, 0 ≤ t.1 ∧ t.1 < t.2.1) (x : Int) : ¬ NoX x ts ↔ ∃ j t, ts[j]? = some t ∧ flag ts j ∧ t.2.2 = x := by
  constructor
  · intro no
    refine Classical.byContradiction fun nh => no (List.pairwise_iff_getElem.mpr fun i j hi hj lt o => ?_)
    have ei := List.getElem?_eq_getElem hi
    have ej := List.getElem?_eq_getElem hj
    exact ⟨fun z => nh ⟨i, _, ei, (flag_iff so pos ei).mpr ⟨j, _, ej, by omega, o⟩, z⟩, fun z => nh ⟨j, _, ej, (flag_iff so pos ej).mpr ⟨i, _, ei, by omega, ov_symm o⟩, z⟩⟩
  · rintro ⟨j, t, ht, hf, e⟩ no
    obtain ⟨l, u, hu, ne, o⟩ := (flag_iff so pos ht).mp hf
    rcases Nat.lt_or_gt_of_ne ne with z | z
    · exact (pair_lt no hu ht z (ov_symm o)).2 e
    · exact (pair_lt no ht hu z o).1 e
/-- the least index so far -/
def Lst (ts : List Pl) (L : Int) (i : Nat) (fi : Int) : Prop := fi ≤ L ∧ (∀ j t, j < i → ts[j]? = some t → flag ts j → fi ≤ t.2.2) ∧ (fi = L ∨ ∃ j t, j < i ∧ ts[j]? = some t ∧ flag ts j ∧ fi = t.2.2)
theorem lst_zero (ts : List Pl) (L : Int) : Lst ts L 0 L := ⟨Int.le_refl _, fun _ _ h => absurd h (Nat.not_lt_zero _), .inl rfl⟩
theorem lst_no {ts : List Pl} {L : Int} {i : Nat} {fi : Int} (h : Lst ts L i fi) (no : ¬ flag ts i) : Lst ts L (i + 1) fi := by
  refine ⟨h.1, fun j t hj ht hf => ?_, ?_⟩
  · rcases Nat.lt_or_ge j i with z | z
    · exact h.2.1 j t z ht hf
    · obtain rfl : j = i := by omega
      exact absurd hf no
  · rcases h.2.2 with e | ⟨j, t, z⟩
    · exact .inl e
    · exact .inr ⟨j, t, by omega, z.2⟩
theorem lst_yes {ts : List Pl} {L : Int} {i : Nat} {fi : Int} {t : Pl} (h : Lst ts L i fi) (ht : ts[i]? = some t) (hf : flag ts i) : Lst ts L (i + 1) (if t.2.2 < fi then t.2.2 else fi) := by
  refine ⟨?_, fun j u hj hu hg => ?_, ?_⟩
  · have := h.1
    split <;> omega
  · rcases Nat.lt_or_ge j i with z | z
    · have := h.2.1 j u z hu hg
      split <;> omega
    · obtain rfl : j = i := by omega
      rw [ht] at hu
      cases hu
      split <;> omega
  · split
    · exact .inr ⟨i, t, by omega, ht, hf, rfl⟩
    · rcases h.2.2 with e | ⟨j, u, z⟩
      · exact .inl e
      · exact .inr ⟨j, u, by omega, z.2⟩
theorem lst_all {ts : List Pl} {L fi : Int} (so : ts.Pairwise fun x y => x.1 ≤ y.1) (pos : ∀ t ∈ ts, 0 ≤ t.1 ∧ t.1 < t.2.1) (h : Lst ts L ts.length fi) : (∀ x, x < fi → x < L → NoX x ts) ∧ (fi < L → ¬ NoX fi ts) := by
  refine ⟨fun x hx _ => Classical.byContradiction fun no => ?_, fun lt => ?_⟩
  · obtain ⟨j, t, ht, hf, e⟩ := (noX_iff so pos x).mp no
    have := h.2.1 j t (List.getElem?_eq_some_iff.mp ht).1 ht hf
    omega
  · rcases h.2.2 with e | ⟨j, t, _, ht, hf, e⟩
    · omega
    · exact (noX_iff so pos fi).mpr ⟨j, t, ht, hf, e.symm⟩
section
variable {ns : List Int} {n : Int} {bs : List Blk} {mm : List (Int × Int)}
/-- the i-th move's goal meets another block's place -/
def HitB (ns : List Int) (bs : List Blk) (mm : List (Int × Int)) (i : Nat) : Prop := ¬ NoX (i : Int) (bs.map (plc ns mm))
theorem noOv_all (w : Wf ns n bs) (g : Good ns) (F : Fit ns n bs mm) : NoOv (bs.map (plc ns mm)) ↔ ∀ i : Nat, i < mm.length → ¬ HitB ns bs mm i := by
  obtain ⟨ok1, ok2⟩ := plc_ok w g F
  constructor
  · intro no i _ h
    refine h (no.imp fun {u v} h o => absurd o h)
  · intro h
    refine List.pairwise_iff_getElem.mpr fun i j hi hj lt o => ?_
    have ei := List.getElem?_eq_getElem hi
    have ej := List.getElem?_eq_getElem hj
    have u := pair_lt ok2 ei ej lt
    have pi := ok1 _ (List.mem_of_getElem? ei)
    have pj := ok1 _ (List.mem_of_getElem? ej)
    by_cases c1 : (bs.map (plc ns mm))[i].2.2 < (mm.length : Int)
    · have e : (((bs.map (plc ns mm))[i].2.2.toNat : Nat) : Int) = (bs.map (plc ns mm))[i].2.2 := Int.toNat_of_nonneg pi.2.2.1
      refine h _ (by omega) fun no => (pair_lt no ei ej lt o).1 e.symm
    · by_cases c2 : (bs.map (plc ns mm))[j].2.2 < (mm.length : Int)
      · have e : (((bs.map (plc ns mm))[j].2.2.toNat : Nat) : Int) = (bs.map (plc ns mm))[j].2.2 := Int.toNat_of_nonneg pj.2.2.1
        refine h _ (by omega) fun no => (pair_lt no ei ej lt o).2 e.symm
      · exact u c1 c2 o
/-- what the law looks for: another block whose place the move's goal meets -/
theorem hit_law (w : Wf ns n bs) (g : Good ns) (F : Fit ns n bs mm) {i : Nat} {a b : Int} (h : mm[i]? = some (a, b)) : HitB ns bs mm i ↔ ∃ c ∈ bs, c.1 ≠ a ∧ (plc ns mm c).1 < b + sz ns (lev bs a) ∧ b < (plc ns mm c).2.1 := by
  obtain ⟨p, k, hp, e1, e2⟩ := plc_moved w g F h
  have e1' : plc ns mm (a, k, false) = (b, b + sz ns k, (i : Int)) := e1
  have e2' : lev bs a = k := e2
  have hp' : bs[p]? = some (a, k, false) := hp
  have un : ∀ {q : Nat} {c : Blk}, bs[q]? = some c → (plc ns mm c).2.2 = (i : Int) → q = p := fun {q c} hq e => by
    have il := (List.getElem?_eq_some_iff.mp h).1
    by_cases z : c.1 ∈ mm.map Prod.fst
    · obtain ⟨r, b2, hr⟩ := olds_mem z
      obtain ⟨q2, k2, hq2, e3, e4⟩ := plc_moved w g F hr
      obtain rfl := blk_uniq w g hq hq2 rfl
      rw [hq] at hq2
      have e5 := Option.some.inj hq2
      rw [e5] at e
      rw [e3] at e
      have e6 : (r : Int) = i := e
      obtain rfl : r = i := by omega
      rw [h] at hr
      have e7 : a = c.1 := congrArg (fun z : Option (Int × Int) => (z.getD (0, 0)).1) hr
      exact blk_uniq w g hq hp' e7.symm
    · rw [plc_stays z] at e
      have : (mm.length : Int) = i := e
      omega
  rw [e2']
  constructor
  · intro no
    refine Classical.byContradiction fun nh => no (List.pairwise_map.mpr (List.pairwise_iff_getElem.mpr fun x y hx hy lt o => ?_))
    have ex := List.getElem?_eq_getElem hx
    have ey := List.getElem?_eq_getElem hy
    generalize bs[x] = c at ex o
    generalize bs[y] = d at ey o
    refine ⟨fun z => ?_, fun z => ?_⟩
    · obtain rfl := un ex z
      rw [hp'] at ex
      have e5 := Option.some.inj ex
      rw [← e5, e1'] at o
      refine nh ⟨d, List.mem_of_getElem? ey, fun q => ?_, o.2, o.1⟩
      have := blk_uniq w g hp' ey q.symm
      omega
    · obtain rfl := un ey z
      rw [hp'] at ey
      have e5 := Option.some.inj ey
      rw [← e5, e1'] at o
      refine nh ⟨c, List.mem_of_getElem? ex, fun q => ?_, o.1, o.2⟩
      have := blk_uniq w g ex hp' q
      omega
  · rintro ⟨c, hc, ne, h1, h2⟩ no
    obtain ⟨q, hq⟩ := List.mem_iff_getElem?.mp hc
    have ep : (bs.map (plc ns mm))[p]? = some (b, b + sz ns k, (i : Int)) := by rw [List.getElem?_map, hp', ← e1']; rfl
    have eq : (bs.map (plc ns mm))[q]? = some (plc ns mm c) := by rw [List.getElem?_map, hq]; rfl
    have npq : p ≠ q := fun z => by
      subst z
      rw [hp'] at hq
      cases hq
      exact ne rfl
    rcases Nat.lt_or_gt_of_ne npq with z | z
    · exact (pair_lt no ep eq z ⟨h2, h1⟩).1 rfl
    · exact (pair_lt no eq ep z ⟨h1, h2⟩).2 rfl
end
end K34

set_option Elab.async false
set_option linter.all false
set_option maxRecDepth 100000
set_option maxHeartbeats 4000000
set_option pp.maxSteps 900
namespace K34
open PySem PySem.Spec PyProof.Rows L2 Gu Ex
section
variable {P : Program} {w : World} {K : PySem.W.Frag} {mg : Str → Option Value} {base : Heap} {f : Addr} {fd : FuncData}
def spClash (K : PySem.W.Frag) : Sp := fun vs H Q _ => ∃ (y zp bl dx a : Addr) (ps : List Addr) (ns : List Int) (n : Int) (bs : List Blk) (xs : List V) (mm : List (Int × Int)), vs = [.ref y, .ref a] ∧ Ly K H y zp bl dx ps ns n bs ∧ H a = some (.lst xs) ∧ Mvs H xs (mm.map some) ∧ Fit ns n bs mm ∧ xs.length ≤ 1000 ∧
  ((∀ i : Nat, i < mm.length → ¬ HitB ns bs mm i) → ∀ H', Same H H' → Q .non H') ∧ ∀ (i : Nat) H', Same H H' → i < mm.length → HitB ns bs mm i → (∀ j, j < i → ¬ HitB ns bs mm j) → Q (.int i) H'
theorem sc_first_clash : FnScope ["layout", "moves", "places", "first", "end", "at", "meets_next", "low", "high", "index"] ["layout", "moves"] (defScope (top 27)) := ⟨rfl, rfl, rfl, by decide +kernel, rfl, by decide +kernel, by decide +kernel⟩
theorem ok_clash (T : Tx K mg) (D_places_after : Df P w K mg base 6 "places_after" ["layout", "moves"] (spPlaces K)) (F : FnP K "first_clash" "first_clash" (top 27) f fd) : FnOk P w K mg base CX0 7 f fd ["layout", "moves"] (spClash K) := by
  refine F.ok sc_first_clash (fun vs H Q E h => ?_) (fun cdv A outer s H vs Q E hr h => ⟨_, PSs.nox (pss_cons (ps_set (i := 2) sc_first_clash.nd rfl (by first | exact Or.inl rfl | exact Or.inr rfl) (pcall D_places_after hr (pa_cons (pv 0) (pa_cons (pv 1) pa_nil)))) (pss_cons (ps_set (i := 3) sc_first_clash.nd rfl (by first | exact Or.inl rfl | exact Or.inr rfl) (pe_callB call_len_seq (by rfl) T.n_len (by decide +kernel) (pa_cons (pv 1) pa_nil))) (pss_cons (ps_set (i := 4) sc_first_clash.nd rfl (by first | exact Or.inl rfl | exact Or.inr rfl) pe_int) (pss_cons (ps_for PassesOwn.never rfl (pi_enum rfl T.n_enumerate (pa_cons (pv 2) pa_nil)) (pg_tup (by rfl) (pgs_cons (pg_name (i := 5) sc_first_clash.nd rfl (by first | exact Or.inl rfl | exact Or.inr rfl)) (pgs_cons (pg_tup (by rfl) (pgs_cons (pg_name (i := 7) sc_first_clash.nd rfl (by first | exact Or.inl rfl | exact Or.inr rfl)) (pgs_cons (pg_name (i := 8) sc_first_clash.nd rfl (by first | exact Or.inl rfl | exact Or.inr rfl)) (pgs_cons (pg_name (i := 9) sc_first_clash.nd rfl (by first | exact Or.inl rfl | exact Or.inr rfl)) pgs_nil)))) pgs_nil))) (pss_cons (ps_set (i := 6) sc_first_clash.nd rfl (by first | exact Or.inl rfl | exact Or.inr rfl) (pe_and (pe_cmpR op_lt (pe_op op_add (pv 5) pe_int) (pe_callB call_len_seq (by rfl) T.n_len (by decide +kernel) (pa_cons (pv 2) pa_nil)) (nomark _)) (pe_one (pe_cmpR op_lt (pe_ix ix_tup (pe_ix ix_list (pv 2) (pe_op op_add (pv 5) pe_int) (fun _ _ => rfl)) pe_int (fun _ _ => rfl)) (pv 8) (nomark _))))) (pss_cons (ps_if (PW.pt (pw_or (pt_cmpR op_lt (pv 7) (pv 4) (nomark _)) (pw_or1 (pt_val (pv 6))))) (pss_one (ps_set (i := 3) sc_first_clash.nd rfl (by first | exact Or.inl rfl | exact Or.inr rfl) (pe_callB (call_min2 rfl) (by rfl) T.n_min (by decide +kernel) (pa_cons (pv 3) (pa_cons (pv 9) pa_nil))))) pss_nil) (pss_one (ps_set (i := 4) sc_first_clash.nd rfl (by first | exact Or.inl rfl | exact Or.inr rfl) (pe_callB (call_max2 rfl) (by rfl) T.n_max (by decide +kernel) (pa_cons (pv 4) (pa_cons (pv 8) pa_nil)))))))) (pss_one (ps_ret (pe_ifExp (pt_cmpR op_lt (pv 3) (pe_callB call_len_seq (by rfl) T.n_len (by decide +kernel) (pa_cons (pv 1) pa_nil)) (nomark _)) (pv 3) pe_non))))))), ?_⟩)
  · obtain ⟨y, zp, bl, dx, a, ps, ns, n, bs, xs, mm, rfl, _⟩ := h
    rfl
  · obtain ⟨y, zp, bl, dx, a, ps, ns, n, bs, xs, mm, rfl, L, ha, hm, Ft, x1000, q1, q2⟩ := h
    have wf := L.wf
    have gd := L.gd
    have sl : sizeLine = 16777216 := sizeLine_eq
    have xl : xs.length = mm.length := by rw [hm.len, List.length_map]
    refine ⟨_, rfl, _, rfl, y, zp, bl, dx, a, ps, ns, n, bs, xs, mm, rfl, L, ha, hm, Ft, x1000, fun l qs ts H1 hl0 s1 hl rf pm so => ?_⟩
    obtain ⟨ok1, ok2⟩ := plc_ok wf gd Ft
    have pos : ∀ t ∈ ts, 0 ≤ t.1 ∧ t.1 < t.2.1 ∧ 0 ≤ t.2.2 ∧ t.2.2 ≤ mm.length ∧ t.2.1 ≤ n := fun t ht => ok1 t (pm.mem_iff.mp ht)
    have pos2 : ∀ t ∈ ts, 0 ≤ t.1 ∧ t.1 < t.2.1 := fun t ht => ⟨(pos t ht).1, (pos t ht).2.1⟩
    have ha1 := s1 _ _ ha
    have ql := rf.len
    refine ⟨_, rfl, a, _, rfl, .inl (SqL.of ha1), ?_⟩
    rw [xl]
    refine ⟨_, rfl, l, _, rfl, SqL.of hl, ?_⟩
    refine for_it (walk_enum (xs := qs.map V.ref)) (fun i σ G => ∃ (fi : Int) (x5 x6 x7 x8 x9 : Option V), σ = [some (.ref y), some (.ref a), some (.ref l), some (.int fi), some (.int (endI (ts.take i))), x5, x6, x7, x8, x9] ∧ Same H1 G ∧ 0 ≤ fi ∧ Lst ts mm.length i fi)
      ⟨_, none, none, none, none, none, rfl, Same.refl _, by omega, lst_zero _ _⟩ (fun i σ G _ h => ?_) ?_ ?_
    · obtain ⟨_, _, _, _, _, _, _, sm, _⟩ := h
      exact SqL.of (sm _ _ hl)
    · rintro i x σ G1 G2 hi ⟨fi, x5, x6, x7, x8, x9, rfl, sm, f0, fl0⟩ ⟨T', y1, y2, rfl, hT, rfl, e1, e2⟩
      cases e1
      obtain ⟨p, hp, rfl⟩ := ref_of e2
      have sT := same_upd (o := .tup [.int (i : Nat), .ref p]) hT
      have sm1 := sm.trans sT
      obtain ⟨t, ht, et⟩ := (rf.same sm1).get hp
      have et' : (upd G1 T' (.tup [.int (i : Nat), .ref p])) p = some (.tup [.int t.1, .int t.2.1, .int t.2.2]) := et
      have tp := pos t (List.mem_of_getElem? ht)
      have il := (List.getElem?_eq_some_iff.mp ht).1
      refine ⟨T', _, rfl, .inl (.inl upd_same), rfl, _, _, rfl, _, _, rfl, p, _, rfl, .inl (.inl et'), rfl, _, _, rfl, _, _, rfl, _, _, rfl, rfl, rfl, ?_⟩
      have rf1 := rf.same sm1
      have hl1 := sm1 _ _ hl
      generalize (upd G1 T' (.tup [.int (i : Nat), .ref p])) = G at *
      refine join (fun mb : Bool => mb = true ↔ ∃ u, ts[i + 1]? = some u ∧ u.1 < t.2.1) (R := ?R) (fun tail => ?main) ?tl
      case main =>
        refine ⟨_, rfl, _, _, rfl, rfl, _, rfl, l, _, rfl, .inl (SqL.of hl1), _, _, rfl, rfl, _, rfl, ?_⟩
        by_cases h1 : (i : Int) + 1 < ((qs.map V.ref).length : Nat)
        · have h2 : i + 1 < ts.length := by rw [List.length_map] at h1; omega
          have eu := List.getElem?_eq_getElem h2
          obtain ⟨p', hp', eu'⟩ := rf1.at_ eu
          have eu2 : G p' = some (.tup [.int ts[i + 1].1, .int ts[i + 1].2.1, .int ts[i + 1].2.2]) := eu'
          refine ifT (decide_eq_true h1) ?_
          refine ⟨_, rfl, _, rfl, _, _, rfl, rfl, l, _, _, _, rfl, rfl, SqL.of hl1, (by exact Refs.map_at (i := i + 1) hp'), p', _, _, _, rfl, rfl, .inl (.inl eu2), rfl, _, rfl, _, _, rfl, rfl, ?_⟩
          dsimp only
          generalize hmb : decide (ts[i + 1].1 < t.2.1) = mb
          refine tail mb ?_
          rw [← hmb, decide_eq_true_eq]
          exact ⟨fun z => ⟨_, eu, z⟩, fun ⟨u, hu, z⟩ => by rw [eu] at hu; cases hu; exact z⟩
        · refine ifF (decide_eq_false h1) (tail false ?_)
          refine ⟨fun z => (nomatch z), fun ⟨u, hu, _⟩ => ?_⟩
          have := (List.getElem?_eq_some_iff.mp hu).1
          rw [List.length_map] at h1
          omega
      case tl =>
        intro mb hmb
        have tk : ts.take (i + 1) = ts.take i ++ [t] := by rw [List.take_add_one, ht]; rfl
        have fl : flag ts i ↔ (t.1 < endI (ts.take i) ∨ mb = true) := by
          rw [hmb]
          constructor
          · rintro ⟨t', ht', h⟩
            rw [ht] at ht'
            cases ht'
            exact h
          · intro h
            exact ⟨t, ht, h⟩
        refine join (fun fi' : Int => 0 ≤ fi' ∧ Lst ts mm.length (i + 1) fi') (R := ?R2) (fun tail => ?main2) ?tl2
        case main2 =>
          have yes : (t.1 < endI (ts.take i) ∨ mb = true) → 0 ≤ (if t.2.2 < fi then t.2.2 else fi) ∧ Lst ts mm.length (i + 1) (if t.2.2 < fi then t.2.2 else fi) := fun h => ⟨by split <;> omega, lst_yes fl0 ht (fl.mpr h)⟩
          refine ⟨_, rfl, _, rfl, _, _, rfl, rfl, _, rfl, ?_⟩
          by_cases h1 : t.1 < endI (ts.take i)
          · refine ifT (decide_eq_true h1) ⟨_, rfl, _, rfl, _, _, rfl, ?_⟩
            have y := yes (.inl h1)
            generalize (if t.2.2 < fi then t.2.2 else fi) = fi' at y
            exact tail fi' y
          · refine ifF (decide_eq_false h1) ⟨_, rfl, _, rfl, ?_⟩
            by_cases hm2 : mb = true
            · refine ifT hm2 ⟨_, rfl, _, rfl, _, _, rfl, ?_⟩
              have y := yes (.inr hm2)
              generalize (if t.2.2 < fi then t.2.2 else fi) = fi' at y
              exact tail fi' y
            · exact ifF (by simpa using hm2) (tail fi ⟨f0, lst_no fl0 fun z => (fl.mp z).elim h1 hm2⟩)
        case tl2 =>
          rintro fi' ⟨g0, g1⟩
          refine ⟨_, rfl, _, rfl, _, _, rfl, fi', some (.int (i : Nat)), some (.bl mb), some (.int t.1), some (.int t.2.1), some (.int t.2.2), ?_, sm1, g0, g1⟩
          rw [tk, endI_snoc]
          rfl
    · rintro σ G ⟨fi, x5, x6, x7, x8, x9, rfl, sm, f0, fl0⟩
      have tl : (qs.map V.ref).length = ts.length := by rw [List.length_map, ql]
      rw [tl] at fl0
      have smH := s1.trans sm
      obtain ⟨a1, a2⟩ := lst_all so pos2 fl0
      have f1 := fl0.1
      have hb : ∀ j : Nat, HitB ns bs mm j ↔ ¬ NoX (j : Int) ts := fun j => by
        unfold HitB
        rw [noX_perm pm]
      refine ⟨_, rfl, _, rfl, a, _, rfl, .inl (SqL.of (sm _ _ ha1)), ?_⟩
      rw [xl]
      refine ⟨_, _, rfl, rfl, _, rfl, ?_⟩
      by_cases hf : fi < (mm.length : Int)
      · refine ifT (decide_eq_true hf) ⟨_, rfl, ?_⟩
        obtain ⟨k, rfl⟩ : ∃ k : Nat, fi = (k : Int) := ⟨fi.toNat, by omega⟩
        exact q2 k G smH (by omega) ((hb k).mpr (a2 hf)) fun j hj z => (hb j).mp z (a1 j (by omega) (by omega))
      · refine ifF (decide_eq_false hf) ?_
        exact q1 (fun i hi z => (hb i).mp z (a1 i (by omega) (by omega))) G smH
end
end K34

set_option Elab.async false
set_option linter.all false
set_option maxRecDepth 100000
set_option maxHeartbeats 4000000
set_option pp.maxSteps 900
namespace K34
open PySem PySem.Spec PyProof.Rows L2 Gu Ex
/-- a value that may be a list of moves -/
inductive Th (H : Hp) : V → Option (List Mo) → Prop
  | list {a : Addr} {xs : List V} {ms : List Mo} : H a = some (.lst xs) → Mvs H xs ms → xs.length ≤ 1000 → Th H (.ref a) (some ms)
  | other {v : V} : Any H v → (∀ t xs, v = .ref t → H t ≠ some (.lst xs)) → Th H v none
theorem Th.same {H H' : Hp} {v : V} {o : Option (List Mo)} (h : Th H v o) (s : Same H H') : Th H' v o := by
  cases h with
  | list e m l => exact .list (s _ _ e) (m.same s) l
  | other a n =>
    refine .other (a.same s) fun t xs e q => ?_
    subst e
    obtain ⟨o, ho⟩ := a.obj
    have q2 := s _ _ ho
    rw [q] at q2
    cases q2
    exact n t xs rfl ho
/-- it is a rearrangement -/
def OkR (ns : List Int) (n : Int) (bs : List Blk) : Option (List Mo) → Prop
  | none => False
  | some ms => (∀ i : Nat, i < ms.length → Gd ns n bs ms i) ∧ ∀ mm, ms = mm.map some → LawOk ns bs mm
/-- the position told: the least one that is no move of a block to a region, else the least whose goal meets another block -/
def FstP (ns : List Int) (n : Int) (bs : List Blk) : Option (List Mo) → Nat → Prop
  | none, i => i = 0
  | some ms, i => i < ms.length ∧ (((∀ j, j < i → Gd ns n bs ms j) ∧ ¬ Gd ns n bs ms i) ∨ ((∀ j, j < ms.length → Gd ns n bs ms j) ∧ ∃ mm, ms = mm.map some ∧ HitB ns bs mm i ∧ ∀ j, j < i → ¬ HitB ns bs mm j))
theorem FstP.uniq {ns : List Int} {n : Int} {bs : List Blk} {o : Option (List Mo)} {i j : Nat} (h : FstP ns n bs o i) (k : FstP ns n bs o j) : i = j := by
  cases o with
  | none =>
    have h1 : i = 0 := h
    have h2 : j = 0 := k
    rw [h1, h2]
  | some ms =>
    obtain ⟨il, h⟩ := h
    obtain ⟨jl, k⟩ := k
    have one : ∀ {i j : Nat}, i < ms.length → j < ms.length → (((∀ l, l < i → Gd ns n bs ms l) ∧ ¬ Gd ns n bs ms i) ∨ ((∀ l, l < ms.length → Gd ns n bs ms l) ∧ ∃ mm, ms = mm.map some ∧ HitB ns bs mm i ∧ ∀ l, l < i → ¬ HitB ns bs mm l)) → (((∀ l, l < j → Gd ns n bs ms l) ∧ ¬ Gd ns n bs ms j) ∨ ((∀ l, l < ms.length → Gd ns n bs ms l) ∧ ∃ mm, ms = mm.map some ∧ HitB ns bs mm j ∧ ∀ l, l < j → ¬ HitB ns bs mm l)) → ¬ i < j := fun {i j} il jl h k lt => by
      rcases h with ⟨_, h⟩ | ⟨hg, mm, e, hi, _⟩
      · rcases k with ⟨k, _⟩ | ⟨k, _⟩
        · exact h (k i lt)
        · exact h (k i il)
      · rcases k with ⟨_, k⟩ | ⟨_, mm2, e2, _, k⟩
        · exact k (hg j jl)
        · rw [e] at e2
          have e3 : mm = mm2 := (List.map_inj_right (fun _ _ z => Option.some.inj z)).mp e2
          exact k i lt (e3 ▸ hi)
    have h1 := one il jl h k
    have h2 := one jl il k h
    omega
section
variable {P : Program} {w : World} {K : PySem.W.Frag} {mg : Str → Option Value} {base : Heap} {f : Addr} {fd : FuncData}
def spWrong (K : PySem.W.Frag) : Sp := fun vs H Q _ => ∃ (y zp bl dx : Addr) (ps : List Addr) (ns : List Int) (n : Int) (bs : List Blk) (v : V) (o : Option (List Mo)), vs = [.ref y, v] ∧ Ly K H y zp bl dx ps ns n bs ∧ Th H v o ∧
  (OkR ns n bs o → ∀ H', Same H H' → Q .non H') ∧ (¬ OkR ns n bs o → ∀ (p : Nat) H', FstP ns n bs o p → Same H H' → Q (.int p) H')
theorem sc_first_wrong_move : FnScope ["layout", "value", "position"] ["layout", "value"] (defScope (top 28)) := ⟨rfl, rfl, rfl, by decide +kernel, rfl, by decide +kernel, by decide +kernel⟩
theorem ok_wrong (T : Tx K mg) (D_first_misfit : Df P w K mg base 8 "first_misfit" ["layout", "moves"] (spMisfit K)) (D_first_clash : Df P w K mg base 7 "first_clash" ["layout", "moves"] (spClash K)) (F : FnP K "first_wrong_move" "first_wrong_move" (top 28) f fd) : FnOk P w K mg base CX0 9 f fd ["layout", "value"] (spWrong K) := by
  refine F.ok sc_first_wrong_move (fun vs H Q E h => ?_) (fun cdv A outer s H vs Q E hr h => ⟨_, PSs.nox (pss_cons (ps_if (pt_not (pt_val (pe_callB call_isi (by rfl) T.n_isinstance (by decide +kernel) (pa_cons (pv 1) (pa_cons (pe_bltn (v := .ty "list") (by rfl) T.n_list (by decide +kernel) rfl) pa_nil))))) (pss_one (ps_ret pe_int)) pss_nil) (pss_cons (ps_set (i := 2) sc_first_wrong_move.nd rfl (by first | exact Or.inl rfl | exact Or.inr rfl) (pcall D_first_misfit hr (pa_cons (pv 0) (pa_cons (pv 1) pa_nil)))) (pss_one (ps_ret (pe_ifExp (pt_cmpR op_isN (pv 2) pe_non (nomark _)) (pcall D_first_clash hr (pa_cons (pv 0) (pa_cons (pv 1) pa_nil))) (pv 2)))))), ?_⟩)
  · obtain ⟨y, zp, bl, dx, ps, ns, n, bs, v, o, rfl, _⟩ := h
    rfl
  · obtain ⟨y, zp, bl, dx, ps, ns, n, bs, v, o, rfl, L, th, q1, q2⟩ := h
    cases th with
    | other an nl =>
      rcases an.ls (K := K) with ⟨t, xs, rfl, e⟩ | ⟨_, Ty, ty, k⟩
      · exact absurd e (nl t xs rfl)
      · exact ⟨_, rfl, _, _, _, _, _, rfl, .ty "list", ty, kit_ty k, _, rfl, iteT (q2 (fun z => z) 0 H rfl (Same.refl H))⟩
    | @list a xs ms ha hm x1000 =>
      refine ⟨_, rfl, _, _, _, _, _, rfl, .ty "list", .base (.lst ha), kit_ty (show kitB "list" "list" = some true by decide +kernel), _, rfl, iteF ?_⟩
      refine ⟨_, rfl, _, rfl, y, zp, bl, dx, a, ps, ns, n, bs, xs, ms, rfl, L, ha, hm, fun H1 s1 hg => ?_, fun i H1 s1 hi hj hb => ?_⟩
      · obtain ⟨mm, em, Ft⟩ := fit_of hg
        subst em
        have wf := L.wf
        have gd := L.gd
        refine ⟨_, rfl, rfl, _, rfl, ifT (decide_eq_true rfl) ?_⟩
        refine ⟨_, rfl, _, rfl, y, zp, bl, dx, a, ps, ns, n, bs, xs, mm, rfl, L.same s1, s1 _ _ ha, hm.same s1, Ft, x1000, fun no H2 s2 => ?_, fun i H2 s2 hi no mi => ?_⟩
        · refine q1 ⟨hg, fun mm' e => ?_⟩ H2 (s1.trans s2)
          have e2 : mm = mm' := (List.map_inj_right (fun _ _ z => Option.some.inj z)).mp e
          rw [← e2]
          exact (law_iff wf gd Ft).mp ((noOv_all wf gd Ft).mpr no)
        · exact q2 (fun z => (noOv_all wf gd Ft).mp ((law_iff wf gd Ft).mpr (z.2 mm rfl)) i hi no) i H2 ⟨by rw [List.length_map]; exact hi, .inr ⟨hg, mm, rfl, no, mi⟩⟩ (s1.trans s2)
      · refine ⟨_, rfl, rfl, _, rfl, ifF (decide_eq_false fun z => nomatch z) ⟨_, rfl, ?_⟩⟩
        exact q2 (fun z => hb (z.1 i hi)) i H1 ⟨hi, .inl ⟨hj, hb⟩⟩ s1
def spIsR (K : PySem.W.Frag) : Sp := fun vs H Q _ => ∃ (y zp bl dx : Addr) (ps : List Addr) (ns : List Int) (n : Int) (bs : List Blk) (v : V) (o : Option (List Mo)), vs = [.ref y, v] ∧ Ly K H y zp bl dx ps ns n bs ∧ Th H v o ∧ ∀ (b : Bool) H', (b = true ↔ OkR ns n bs o) → Same H H' → Q (.bl b) H'
end
end K34

set_option Elab.async false
set_option linter.all false
set_option maxRecDepth 100000
set_option maxHeartbeats 4000000
set_option pp.maxSteps 900
namespace K34
open PySem PySem.Spec PyProof.Rows L2 Gu Ex
structure MfD (P : Program) (w : World) (K : PySem.W.Frag) (mg : Str → Option Value) (base : Heap) (k : Nat) (c m : Str) (ps : List Str) (dvs : List V) (sp : Sp) : Prop where
  ex : ∃ fd ds, FnOk P w K mg base CX0 k (He.ma K (He.ga K c) m) fd ps sp ∧ Vals dvs ds ∧ Binds K fd ps ds
  cl : Cls K (He.ga K c)
  me : Meth K (He.ga K c) m (He.ma K (He.ga K c) m)
section
variable {X : Cx} {k j : Nat} {c m : Str} {ps : List Str} {dvs : List V} {sp : Sp} {o e : Expr} {es : List Expr} {ta : TE} {t : TA} {apos pos : Pos}
theorem pmethD {pl : Sem Bool} (D : MfD X.prog X.w X.K X.mg X.base k c m ps dvs sp) (hr : Room j X.A) (he : PE X o ta) (ha : PA X (e :: es) t) (hj : k ≤ j := by decide)
    (hst : starEach (e :: es) X.env = (false, eval e X.env) :: starEach es X.env := by rfl) (hpl : (backTo pos (starEach es X.env)).any (·.1) = false := by rfl)
    (ht : eval (.Call (.Attribute o m apos) (e :: es) [] pos) X.env = (do
      let ov ← eval o X.env
      standAt apos.atName
      let (f, first) ← holding [ov] (getMethod ov m pl)
      callWith pos f first (backTo pos (starEach (e :: es) X.env)) (backToKw pos (keywordEach [] X.env))) := by rfl) :
    PE X (.Call (.Attribute o m apos) (e :: es) [] pos) (tMeth (He.ga X.K c) m sp dvs E0 ta t) := by
  obtain ⟨fd, ds, F, v, b⟩ := D.ex
  exact pe_meth he D.cl D.me F (hr.mono hj) b v pass0 ha hst hpl ht
end
theorem Stp.same {r : Addr} {H H' : Hp} (hR : Rng H r) (s : Same H H') : Stp r H H' := ⟨by
  obtain ⟨x, y, e, z⟩ := hR
  exact ⟨x, y, s _ _ e, z⟩, fun b o _ e => s b o e⟩
theorem Rng.tup {r p : Addr} {H : Hp} {xs : List V} (h : Rng H r) (e : H p = some (.tup xs)) : p ≠ r := fun z => by
  obtain ⟨x, y, e2, _⟩ := h
  rw [z, e2] at e
  cases e
theorem Rng.lst {r p : Addr} {H : Hp} {qs : List Addr} (h : Rng H r) (e : H p = some (.lst (qs.map V.ref))) : p ≠ r := fun z => by
  obtain ⟨x, y, e2, _⟩ := h
  rw [z, e2] at e
  cases qs with
  | nil => cases e
  | cons q qs => cases e
theorem seq_nat {k n : Nat} (h : k < n) : seqIndex? (k : Int) n = some k := by
  unfold seqIndex?
  have h0 : ¬ ((k : Int) < 0) := by omega
  simp [h0, h]
theorem erase_perm {α : Type} : ∀ (zs : List α) (k : Nat) (h : k < zs.length), (zs[k] :: zs.eraseIdx k).Perm zs
  | x :: r, 0, _ => List.Perm.refl _
  | x :: r, k + 1, h => by
    have ih := erase_perm r k (Nat.lt_of_succ_lt_succ h)
    show (r[k]'(Nat.lt_of_succ_lt_succ h) :: x :: r.eraseIdx k).Perm (x :: r)
    exact (List.Perm.swap x _ _).trans (ih.cons x)
section
variable {P : Program} {w : World} {K : PySem.W.Frag} {mg : Str → Option Value} {base : Heap} {f : Addr} {fd : FuncData}
/-- a rearrangement of a list's items, as a new list -/
def spShuf : Sp := fun vs H Q _ => ∃ (r a : Addr) (xs : List V), vs = [.ref r, .ref a] ∧ Rng H r ∧ H a = some (.lst xs) ∧ a ≠ r ∧ xs.length ≤ 1000 ∧ ∀ l ys H', H l = none → Stp r H H' → H' l = some (.lst ys) → ys.Perm xs → Q (.ref l) H'
theorem sc__law_shuffled : FnScope ["_law_rng_here", "_law_values", "_law_pool", "_law_k"] ["_law_rng_here", "_law_values"] (defScope (top 43)) := ⟨rfl, rfl, rfl, by decide +kernel, rfl, by decide +kernel, by decide +kernel⟩
theorem ok_shuf (T : Tx K mg) (D__law_draw : Df P w K mg base 1 "_law_draw" ["_law_rng_here", "_law_many"] spDraw) (F : FnP K "_law_shuffled" "_law_shuffled" (top 43) f fd) : FnOk P w K mg base CX0 2 f fd ["_law_rng_here", "_law_values"] spShuf := by
  refine F.ok sc__law_shuffled (fun vs H Q E h => ?_) (fun cdv A outer s H vs Q E hr h => ⟨_, PSs.nox (pss_cons (ps_set (i := 2) sc__law_shuffled.nd rfl (by first | exact Or.inl rfl | exact Or.inr rfl) (pe_callTy call_list_of (by rfl) T.n_list (by decide +kernel) (pa_cons (pv 1) pa_nil))) (pss_one (ps_ret (pe_lc (own := [("_law_k", 3)]) (g := gName 3) rfl sc__law_shuffled.nd (pi_range1 rfl T.n_range (pa_cons (pe_callB call_len_seq (by rfl) T.n_len (by decide +kernel) (pa_cons (pv 1) pa_nil)) pa_nil)) (blkOk_by (own := [("_law_k", 3)]) (N := ["_law_rng_here", "_law_values", "_law_pool", "_law_k"]) (sc := defScope (top 43)) (by decide +kernel)) (fun _ _ _ _ _ => pg_name (i := 3) sc__law_shuffled.nd rfl (Or.inl rfl)) (fun _ _ _ _ _ => pts_nil) (fun _ _ _ _ _ => (pbmB K PySem.F.plainAttrs_list PySem.F.slot_list_pop PySem.F.type_list_pop mt_popAt (pv 2) (pa_cons (pcall D__law_draw hr (pa_cons (pv 0) (pa_cons (plenB K (by rfl) T.n_len (pa_cons (pv 2) pa_nil)) pa_nil))) pa_nil))))))), ?_⟩)
  · obtain ⟨r, a, xs, rfl, _⟩ := h
    rfl
  · obtain ⟨r, a, xs, rfl, hR, ha, nar, x1000, q⟩ := h
    have sl : sizeLine = 16777216 := sizeLine_eq
    have big : (10 : Int) ^ 40 = 10000000000000000000000000000000000000000 := by decide
    refine ⟨_, rfl, a, _, rfl, .inl (SqL.of ha), fun p hp => ?_⟩
    have t0 := (Stp.refl hR).new (o := .lst xs) hp
    have npr : p ≠ r := (hR.ne hp).symm
    have hp0 : (upd H p (.lst xs)) p = some (.lst xs) := upd_same
    have ha0 := t0.2 _ _ nar ha
    have pf : H p = none := hp
    generalize upd H p (.lst xs) = H0 at t0 hp0 ha0
    refine ⟨_, rfl, a, _, rfl, .inl (SqL.of ha0), _, rfl, by omega, by omega, fun D hD => ?_⟩
    have fD := t0.free hD
    have nDr : D ≠ r := (t0.1.ne hD).symm
    have nDp : D ≠ p := fun z => by
      rw [z, hp0] at hD
      cases hD
    refine lc_range (fun i G => ∃ ys zs : List V, ys.length = i ∧ G D = some (.lst ys) ∧ G p = some (.lst zs) ∧ (ys ++ zs).Perm xs ∧ Rng G r ∧ ∀ c o, c ≠ r → H c = some o → G c = some o) ⟨[], xs, rfl, upd_same, by rw [upd_ne nDp.symm]; exact hp0, List.Perm.refl _, (t0.new hD).1, fun c o nc ec => by
      rw [upd_ne (ne_of_none ec fD)]
      exact t0.2 c o nc ec⟩ ?_ ?_
    · rintro i G hi ⟨ys, zs, yl, hGD, hGp, pm, rg, kp⟩
      have pl := pm.length_eq
      rw [List.length_append] at pl
      have hi' : i < xs.length := by omega
      refine ⟨rfl, _, rfl, .inl ⟨rfl, _, SqL.of hGp⟩, _, rfl, _, rfl, p, _, rfl, .inl (SqL.of hGp), r, _, rfl, rg, by omega, by omega, fun d G1 d0 d1 t1 => ?_⟩
      obtain ⟨k, rfl⟩ : ∃ k : Nat, d = (k : Int) := ⟨d.toNat, by omega⟩
      have hk : k < zs.length := by omega
      have hp1 := t1.2 _ _ npr hGp
      have hD1 := t1.2 _ _ nDr hGD
      refine ⟨p, zs, k, k, zs[k], rfl, rfl, hp1, by omega, by omega, ?_, List.getElem?_eq_getElem hk, ?_⟩
      · exact seq_nat hk
      · have hD2 : (upd G1 p (.lst (zs.eraseIdx k))) D = some (.lst ys) := by
          rw [upd_ne nDp]
          exact hD1
        refine ⟨ys, hD2, by omega, ys ++ [zs[k]], zs.eraseIdx k, by rw [List.length_append, yl]; rfl, upd_same, by rw [upd_ne nDp.symm, upd_same], ?_, ?_, fun c o nc ec => ?_⟩
        · rw [List.append_assoc]
          refine List.Perm.trans (List.Perm.append_left ys ?_) pm
          rw [List.singleton_append]
          exact erase_perm zs k hk
        · obtain ⟨x, y, e, z⟩ := t1.1
          exact ⟨x, y, by rw [upd_ne nDr.symm, upd_ne npr.symm]; exact e, z⟩
        · rw [upd_ne (ne_of_none ec fD), upd_ne (ne_of_none ec pf)]
          exact t1.2 c o nc (kp c o nc ec)
    · rintro G ⟨ys, zs, yl, hGD, hGp, pm, rg, kp⟩
      have pl := pm.length_eq
      rw [List.length_append] at pl
      have z0 : zs = [] := List.eq_nil_of_length_eq_zero (by omega)
      subst z0
      rw [List.append_nil] at pm
      exact q D ys G fD ⟨rg, kp⟩ hGD pm
end
end K34

set_option Elab.async false
set_option linter.all false
set_option maxRecDepth 100000
set_option maxHeartbeats 4000000
set_option pp.maxSteps 900
namespace K34
open PySem PySem.Spec PyProof.Rows L2 Gu Ex
theorem ins_end {ns : List Int} {n : Int} {bs : List Blk} {i j : Nat} {b c : Blk} (w : Wf ns n bs) (g : Good ns) (hb : bs[i]? = some b) (h : Below (bs.take i) b.1 j) : insB (bs.take i) j c = bs.take i ++ [c] := by
  have il := (List.getElem?_eq_some_iff.mp hb).1
  have tl : (bs.take i).length = i := by rw [List.length_take]; omega
  have ej : j = (bs.take i).length := by
    refine Nat.le_antisymm h.1 ?_
    rcases Nat.lt_or_ge j (bs.take i).length with hl | hl
    · have e := List.getElem?_eq_getElem hl
      have e2 := e
      rw [List.getElem?_take_of_lt (by omega)] at e2
      have lt := (w.lt g e2 hb (by omega)).2
      exact absurd ((h.2 j _ e).mpr lt) (Nat.lt_irrefl _)
    · exact hl
  unfold insB
  rw [ej, List.take_length, List.drop_length, List.append_nil]
section
variable {P : Program} {w : World} {K : PySem.W.Frag} {mg : Str → Option Value} {base : Heap} {f : Addr} {fd : FuncData}
def spMadeL (K : PySem.W.Frag) : Sp := fun vs H Q _ => ∃ (s a : Addr) (ns : List Int) (n : Int) (qs : List Addr) (bs : List Blk), vs = [.ref s, .int n, .ref a] ∧ H s = some (.lst (ns.map V.int)) ∧ Good ns ∧ H a = some (.lst (qs.map V.ref)) ∧ Refs blkV H qs bs ∧ Wf ns n bs ∧ bs.length ≤ 100 ∧ 1 ≤ n ∧ n ≤ 1000000000000 ∧
  ∀ y zp bl dx dz l ps H', Same H H' → Ly K H' y zp bl dx ps ns n bs → H y = none → H bl = none → H' zp = some (.ins (He.ga K "Sizes") dz (szF l)) → H l = none → H' l = some (.lst (ns.map V.int)) → Q (.ref y) H'
theorem sc__law_made : FnScope ["_law_sizes_here", "_law_length", "_law_blocks_here", "_law_result", "_law_address", "_law_level", "_law_is_pinned"] ["_law_sizes_here", "_law_length", "_law_blocks_here"] (defScope (top 52)) := ⟨rfl, rfl, rfl, by decide +kernel, rfl, by decide +kernel, by decide +kernel⟩
theorem ok_made (T : Tx K mg) (D_Sizes : Kf P w K mg base 4 "Sizes" ["self", "values"] (spMade K)) (D_Layout : Kf P w K mg base 4 "Layout" ["self", "sizes", "length"] (spNew K)) (M_put_d : MfD P w K mg base 8 "Layout" "put" ["self", "level", "address", "pinned"] [.bl false] (spPut K)) (M_set_pinned : Mf P w K mg base 3 "Layout" "set_pinned" ["self", "address", "pinned"] (spPin K))
    (F : FnP K "_law_made" "_law_made" (top 52) f fd) : FnOk P w K mg base CX0 9 f fd ["_law_sizes_here", "_law_length", "_law_blocks_here"] (spMadeL K) := by
  refine F.ok sc__law_made (fun vs H Q E h => ?_) (fun cdv A outer s H vs Q E hr h => ⟨_, PSs.nox (pss_cons (ps_set (i := 3) sc__law_made.nd rfl (by first | exact Or.inl rfl | exact Or.inr rfl) (pmake D_Layout hr (pa_cons (pmake D_Sizes hr (pa_cons (pe_callTy call_list_of (by rfl) T.n_list (by decide +kernel) (pa_cons (pv 0) pa_nil)) pa_nil)) (pa_cons (pv 1) pa_nil)))) (pss_cons (ps_for PassesOwn.never rfl (pi_list (pv 2)) (pg_tup (by rfl) (pgs_cons (pg_name (i := 4) sc__law_made.nd rfl (by first | exact Or.inl rfl | exact Or.inr rfl)) (pgs_cons (pg_name (i := 5) sc__law_made.nd rfl (by first | exact Or.inl rfl | exact Or.inr rfl)) (pgs_cons (pg_name (i := 6) sc__law_made.nd rfl (by first | exact Or.inl rfl | exact Or.inr rfl)) pgs_nil)))) (pss_cons (ps_expr (pmethD M_put_d hr (pv 3) (pa_cons (pv 5) (pa_cons (pv 4) pa_nil)))) (pss_one (ps_expr (pmeth M_set_pinned hr (pv 3) (pa_cons (pv 4) (pa_cons (pv 6) pa_nil))))))) (pss_one (ps_ret (pv 3))))), ?_⟩)
  · obtain ⟨s, a, ns, n, qs, bs, rfl, _⟩ := h
    rfl
  · obtain ⟨s, a, ns, n, qs, bs, rfl, hs, g, ha, rf, wf, b100, n1, n2, q⟩ := h
    have ql := rf.len
    refine ⟨_, rfl, s, _, rfl, .inl (SqL.of hs), fun s2 hs2 => ?_⟩
    have k0 := same_upd (o := .lst (ns.map V.int)) hs2
    have e2 : (upd H s2 (.lst (ns.map V.int))) s2 = some (.lst (ns.map V.int)) := upd_same
    generalize upd H s2 (.lst (ns.map V.int)) = H0 at k0 e2
    intro x dz hx hdz ndz
    have e1 : (upd (upd H0 dz (.own x)) x (.ins (He.ga K "Sizes") dz [])) s2 = some (.lst (ns.map V.int)) := by
      rw [upd_ne (ne_of_none e2 hx), upd_ne (ne_of_none e2 hdz)]
      exact e2
    refine ⟨x, dz, s2, ns, rfl, upd_same, SqL.of e1, .base (.lst e1), g, fun l hl => ⟨rfl, ?_⟩⟩
    have nxl : x ≠ l := ne_of_none upd_same hl
    have ndl : dz ≠ l := fun z => by
      rw [← z, upd_ne ndz, upd_same] at hl
      cases hl
    have l0 : H0 l = none := by
      rw [upd_ne nxl.symm, upd_ne ndl.symm] at hl
      exact hl
    refine ⟨_, rfl, ?_⟩
    intro y dx hy hdx ndx
    have kp1 : ∀ {c : Addr} {o : HO}, H0 c = some o → (upd (upd (upd (upd H0 dz (.own x)) x (.ins (He.ga K "Sizes") dz [])) l (.lst (ns.map V.int))) x (.ins (He.ga K "Sizes") dz (szF l))) c = some o := fun {c o} e => by
      rw [upd_ne (ne_of_none e hx), upd_ne (ne_of_none e l0), upd_ne (ne_of_none e hx), upd_ne (ne_of_none e hdz)]
      exact e
    have hx1 : (upd (upd (upd (upd H0 dz (.own x)) x (.ins (He.ga K "Sizes") dz [])) l (.lst (ns.map V.int))) x (.ins (He.ga K "Sizes") dz (szF l))) x = some (.ins (He.ga K "Sizes") dz (szF l)) := upd_same
    have hl1 : (upd (upd (upd (upd H0 dz (.own x)) x (.ins (He.ga K "Sizes") dz [])) l (.lst (ns.map V.int))) x (.ins (He.ga K "Sizes") dz (szF l))) l = some (.lst (ns.map V.int)) := by rw [upd_ne nxl.symm, upd_same]
    have kp2 : ∀ {c : Addr} {o : HO}, (upd (upd (upd (upd H0 dz (.own x)) x (.ins (He.ga K "Sizes") dz [])) l (.lst (ns.map V.int))) x (.ins (He.ga K "Sizes") dz (szF l))) c = some o → (upd (upd (upd (upd (upd (upd H0 dz (.own x)) x (.ins (He.ga K "Sizes") dz [])) l (.lst (ns.map V.int))) x (.ins (He.ga K "Sizes") dz (szF l))) dx (.own y)) y (.ins (He.ga K "Layout") dx [])) c = some o := fun {c o} e => by
      rw [upd_ne (ne_of_none e hy), upd_ne (ne_of_none e hdx)]
      exact e
    have free : ∀ {c : Addr}, (upd (upd (upd (upd (upd (upd H0 dz (.own x)) x (.ins (He.ga K "Sizes") dz [])) l (.lst (ns.map V.int))) x (.ins (He.ga K "Sizes") dz (szF l))) dx (.own y)) y (.ins (He.ga K "Layout") dx [])) c = none → H0 c = none := fun {c} e => by
      cases e2 : H0 c with
      | none => rfl
      | some o =>
        exact nomatch (kp2 (kp1 e2)).symm.trans e
    have y0 : H0 y = none := by
      cases e2 : H0 y with
      | none => rfl
      | some o =>
        exact nomatch (kp1 e2).symm.trans hy
    refine ⟨y, x, dx, ns, n, rfl, upd_same, ⟨dz, l, kp2 hx1, kp2 hl1⟩, g, n1, n2, fun bl H' hbl keep L => ⟨rfl, ?_⟩⟩
    have bl0 := free hbl
    have sm0 : Same H0 H' := fun c o e => keep c o (ne_of_none e y0) (kp2 (kp1 e))
    have sm := k0.trans sm0
    have hx' : H' x = some (.ins (He.ga K "Sizes") dz (szF l)) := keep x _ (ne_of_none hx1 hy) (kp2 hx1)
    have hl' : H' l = some (.lst (ns.map V.int)) := keep l _ (ne_of_none hl1 hy) (kp2 hl1)
    have y00 := k0.free y0
    have bl00 := k0.free bl0
    have l00 := k0.free l0
    have nlb : l ≠ bl := ne_of_none (kp2 hl1) hbl
    refine ⟨_, rfl, a, rfl, ⟨_, SqL.of (sm _ _ ha)⟩, ?_⟩
    refine for_list (K := K) (a := a) (xs := qs.map V.ref) (fun i σ G => ∃ (ps : List Addr) (x4 x5 x6 : Option V), σ = [some (.ref s), some (.int n), some (.ref a), some (.ref y), x4, x5, x6] ∧ Same H G ∧ Ly K G y x bl dx ps ns n (bs.take i) ∧ G x = some (.ins (He.ga K "Sizes") dz (szF l)) ∧ G l = some (.lst (ns.map V.int))) ⟨[], none, none, none, rfl, sm, L, hx', hl'⟩ (fun i σ G _ ⟨_, _, _, _, _, sm, _⟩ => SqL.of (sm _ _ ha)) ?_ ?_
    · rintro i v σ G hv ⟨ps, x4, x5, x6, rfl, sm, L, hxG, hlG⟩
      obtain ⟨p, hp, rfl⟩ := ref_of hv
      obtain ⟨b, hb, hT⟩ := (rf.same sm).get hp
      have hT' : G p = some (.tup [.int b.1, .int (b.2.1 : Nat), .bl b.2.2]) := hT
      have bm := List.mem_of_getElem? hb
      have il := (List.getElem?_eq_some_iff.mp hb).1
      have bo := wf.ok b bm
      have z1 := (chain g).pos _ bo.1
      have nly : l ≠ y := fun z => by
        rw [z, L.at_] at hlG
        cases hlG
      refine ⟨p, _, rfl, .inl (.inl hT'), rfl, _, _, rfl, _, _, rfl, _, _, rfl, rfl, ?_⟩
      refine ⟨_, rfl, y, dx, _, rfl, L.at_, lay_nm (by decide +kernel), _, rfl, _, rfl, y, x, bl, dx, ps, ns, n, b.1, bs.take i, b.2.1, false, rfl, L, (by rw [List.length_take]; omega), bo.1, bo.2.1, Int.emod_eq_zero_of_dvd bo.2.2.1, bo.2.2.2, fun c hc => ?_, fun j ps' G' hbw L' bt => ?_⟩
      · obtain ⟨jj, hj, ej⟩ := mem_take_at hc
        exact .inl (wf.lt g ej hb hj).1
      · rw [ins_end wf g hb hbw] at L'
        obtain ⟨_, _, _, _, zy, zb, _, _, _⟩ := L.far
        have tl : (bs.take i).length = i := by rw [List.length_take]; omega
        have at_i : (bs.take i ++ [(b.1, b.2.1, false)])[i]? = some (b.1, b.2.1, false) := by
          rw [List.getElem?_append_right (by omega), tl, Nat.sub_self]
          rfl
        refine ⟨_, rfl, y, dx, _, rfl, L'.at_, lay_nm (by decide +kernel), _, rfl, _, rfl, y, x, bl, dx, ps', ns, n, b.1, _, i, _, b.2.2, rfl, L', at_i, rfl, fun ps2 G2 L2 bt2 => ?_⟩
        have e3 : pinB (bs.take i ++ [(b.1, b.2.1, false)]) i (b.1, b.2.1, false) b.2.2 = bs.take (i + 1) := by
          unfold pinB
          rw [take_at hb, List.set_append_right _ _ (by omega), tl, Nat.sub_self]
          rfl
        rw [e3] at L2
        have h1 := bt _ _ zy zb hxG
        exact ⟨ps2, _, _, _, rfl, fun c o e => bt2 c o (ne_of_none e y00) (ne_of_none e bl00) (bt c o (ne_of_none e y00) (ne_of_none e bl00) (sm c o e)), L2, bt2 _ _ zy zb h1, bt2 _ _ nly nlb (bt _ _ nly nlb hlG)⟩
    · rintro σ G ⟨ps, x4, x5, x6, rfl, sm, L, hxG, hlG⟩
      rw [List.length_map, ql, List.take_length] at L
      exact ⟨_, rfl, q y x bl dx dz l ps G sm L y00 bl00 hxG l00 hlG⟩
end
end K34

set_option Elab.async false
set_option linter.all false
set_option maxRecDepth 100000
set_option maxHeartbeats 4000000
set_option pp.maxSteps 900
namespace K34
open PySem PySem.Spec PyProof.Rows L2 Gu Ex
structure Lb (ns : List Int) (n : Int) (H : Hp) (s a : Addr) (qs : List Addr) (bs : List Blk) : Prop where
  hs : H s = some (.lst (ns.map V.int))
  ha : H a = some (.lst (qs.map V.ref))
  rf : Refs blkV H qs bs
  wf : Wf ns n bs
  gd : Good ns
  n1 : 1 ≤ n
  n2 : n ≤ 1000000000000
  ln : bs.length ≤ 16
theorem Lb.same {ns : List Int} {n : Int} {H H' : Hp} {s a : Addr} {qs : List Addr} {bs : List Blk} (h : Lb ns n H s a qs bs) (sm : Same H H') : Lb ns n H' s a qs bs := ⟨sm _ _ h.hs, sm _ _ h.ha, h.rf.same sm, h.wf, h.gd, h.n1, h.n2, h.ln⟩
theorem Lb.step {ns : List Int} {n : Int} {H H' : Hp} {r s a : Addr} {qs : List Addr} {bs : List Blk} (h : Lb ns n H s a qs bs) (R : Rng H r) (sr : s ≠ r) (t : Stp r H H') : Lb ns n H' s a qs bs :=
  ⟨t.2 _ _ sr h.hs, t.2 _ _ (R.lst h.ha) h.ha, h.rf.mono fun p xs e => t.2 p _ (R.tup e) e, h.wf, h.gd, h.n1, h.n2, h.ln⟩
theorem of_mem {xs : List Int} {lo hi : Int} {v : V} (h : v ∈ xs.map V.int) (b : ∀ x ∈ xs, lo ≤ x ∧ x ≤ hi) : ∃ c : Int, v = .int c ∧ lo ≤ c ∧ c ≤ hi := by
  obtain ⟨c, hc, rfl⟩ := List.mem_map.mp h
  exact ⟨c, rfl, (b c hc).1, (b c hc).2⟩
section
variable {P : Program} {w : World} {K : PySem.W.Frag} {mg : Str → Option Value} {base : Heap} {f : Addr} {fd : FuncData}
def spMem : Sp := fun vs H Q _ => ∃ r : Addr, vs = [.ref r] ∧ Rng H r ∧ ∀ t s a ns n qs bs H', Stp r H H' → H' t = some (.tup [.ref s, .int n, .ref a]) → Lb ns n H' s a qs bs → s ≠ r → H s = none → H a = none → Q (.ref t) H'
end
end K34

set_option Elab.async false
set_option linter.all false
set_option maxRecDepth 100000
set_option maxHeartbeats 4000000
set_option pp.maxSteps 900
namespace K34
open PySem PySem.Spec PyProof.Rows L2 Gu Ex
theorem u65 {k : Nat} {A : Around} (h : Room k A) : A.units + 65 < cLine := by
  have := h.un
  omega
theorem cut_map {α β : Type} (f : α → β) (xs : List α) (a b : Nat) : ((xs.map f).drop a).take b = ((xs.drop a).take b).map f := by
  rw [← List.map_drop, ← List.map_take]
/-- refs to blocks of bs -/
theorem refs_perm {G : Hp} {qs : List Addr} {cs : List Blk} (h : Refs blkV G qs cs) {ys : List V} (p : ys.Perm (qs.map V.ref)) : ∃ qs' cs', ys = qs'.map V.ref ∧ Refs blkV G qs' cs' ∧ (∀ c ∈ cs', c ∈ cs) ∧ cs'.length = cs.length := by
  obtain ⟨e1, e2⟩ := h.bk
  obtain ⟨qs', rfl⟩ := refs_of (zs := ys) fun v hv => by
    obtain ⟨t, _, rfl⟩ := List.mem_map.mp (p.mem_iff.mp hv)
    exact ⟨t, rfl⟩
  have sub : ∀ t ∈ qs', t ∈ qs := fun t ht => by
    obtain ⟨t', h', e⟩ := List.mem_map.mp (p.mem_iff.mp (List.mem_map.mpr ⟨t, ht, rfl⟩))
    cases e
    exact h'
  refine ⟨qs', _, rfl, Refs.of_bk fun t ht => e2 t (sub t ht), fun c hc => ?_, ?_⟩
  · obtain ⟨t, ht, rfl⟩ := List.mem_map.mp hc
    rw [e1]
    exact List.mem_map.mpr ⟨t, sub t ht, rfl⟩
  · have := p.length_eq
    rw [List.length_map, List.length_map] at this
    rw [List.length_map, this, h.len]
end K34

set_option Elab.async false
set_option linter.all false
set_option maxRecDepth 100000
set_option maxHeartbeats 4000000
set_option pp.maxSteps 900
namespace K34
open PySem PySem.Spec PyProof.Rows L2 Gu Ex
theorem merge_lv : ∀ (cs ds : List Blk), (ds ++ cs).Pairwise (fun b c => b.1 < c.1) → mergeK (lvK ds) (lvK cs) = lvK (ds ++ cs)
  | [], ds, _ => by rw [List.append_nil]; rfl
  | c :: cs, ds, h => by
    have no : valV (lvK ds) (Sum.inl c.1) = none := lvK_none fun d hd e => by
      have := (List.pairwise_append.mp h).2.2 d hd c List.mem_cons_self
      omega
    show mergeK (putK (lvK ds) (Sum.inl c.1) (.int (c.2.1 : Nat))) (lvK cs) = _
    rw [putK_new _ no]
    have e : lvK ds ++ [(Sum.inl c.1, V.int (c.2.1 : Nat))] = lvK (ds ++ [c]) := by
      unfold lvK
      rw [List.map_append]
      rfl
    rw [e, merge_lv cs (ds ++ [c]) (by rw [List.append_assoc]; exact h), List.append_assoc]
    rfl
def lvV (b : Blk) : List V := [.int b.1, .int (b.2.1 : Nat)]
theorem lv_paired {K : PySem.W.Frag} {G : Hp} {ps : List Addr} {cs : List Blk} (h : Refs lvV G ps cs) : Paired (fun p kv => SqT K G p [kV kv.1, kv.2]) ps (lvK cs) := by
  induction h with
  | nil => exact .nil
  | cons e _ ih => exact .cons (SqT.of e) ih
theorem addr_int {v : V} (h : addrB v = true) : isI v = true := by
  cases v <;> first | rfl | cases h
theorem inV_ints (a : Int) : ∀ os : List Int, inV (.int a) (os.map V.int) = decide (a ∈ os)
  | [] => rfl
  | b :: r => by
    show ((b == a) || inV (.int a) (r.map V.int)) = _
    rw [inV_ints a r]
    by_cases h1 : b = a
    · subst h1
      simp
    · have h2 : ¬ a = b := fun z => h1 z.symm
      simp [h1, h2]
theorem flat_ints (os : List Int) : (os.map V.int).all flatV = true := by
  rw [List.all_map, List.all_eq_true]
  intro z _
  rfl
def rb (ns : List Int) (c : Blk) : Int × Int := (c.1, c.1 + sz ns c.2.1)
def ovB (m o : Int × Int) : Bool := decide (o.1 < m.2) && decide (m.1 < o.2)
theorem olds_some (mm : List (Int × Int)) : oldsOf (mm.map some) = mm.map Prod.fst := by
  unfold oldsOf
  rw [List.filterMap_map]
  induction mm with
  | nil => rfl
  | cons m r ih =>
    exact congrArg (m.1 :: ·) ih
theorem mem_but {α : Type} {l : List α} {i q : Nat} {x : α} (h : l[q]? = some x) (ne : q ≠ i) : x ∈ l.take i ++ l.drop (i + 1) := by
  rcases Nat.lt_or_gt_of_ne ne with z | z
  · exact List.mem_append_left _ (List.mem_iff_getElem?.mpr ⟨q, by rw [List.getElem?_take_of_lt z]; exact h⟩)
  · exact List.mem_append_right _ (List.mem_iff_getElem?.mpr ⟨q - (i + 1), by rw [List.getElem?_drop, show i + 1 + (q - (i + 1)) = q by omega]; exact h⟩)
theorem but_mem {α : Type} {l : List α} {i : Nat} {x : α} (h : x ∈ l.take i ++ l.drop (i + 1)) : ∃ q, q ≠ i ∧ l[q]? = some x := by
  rcases List.mem_append.mp h with z | z
  · obtain ⟨j, hj, e⟩ := mem_take_lt z
    exact ⟨j, by omega, e⟩
  · obtain ⟨j, hj⟩ := List.mem_iff_getElem?.mp z
    rw [List.getElem?_drop] at hj
    exact ⟨i + 1 + j, by omega, hj⟩
theorem cut_to (xs : List V) (i : Nat) : cutV xs none (some (i : Int)) = xs.take i := by
  unfold cutV
  rw [HT.sIx_none, HT.sIx_nat, List.drop_zero, Nat.sub_zero]
  by_cases h : i ≤ xs.length
  · rw [Nat.min_eq_left h]
  · rw [Nat.min_eq_right (by omega), List.take_length, List.take_of_length_le (by omega)]
theorem cut_from (xs : List V) (i : Nat) : cutV xs (some (i : Int)) none = xs.drop i := by
  unfold cutV
  rw [HT.sIx_none, HT.sIx_nat]
  by_cases h : i ≤ xs.length
  · rw [Nat.min_eq_left h, List.take_of_length_le (by rw [List.length_drop]; omega)]
  · rw [Nat.min_eq_right (by omega), List.drop_of_length_le (by omega), List.drop_of_length_le (by omega)]
    exact List.take_nil
end K34

set_option Elab.async false
set_option linter.all false
set_option maxRecDepth 100000
set_option maxHeartbeats 4000000
/-! The mathematics of a rearrangement that is done: all moved blocks are taken out, then put in. -/
namespace K34
open PySem PySem.Spec PyProof.Rows L2 Gu Ex
def oldB (bs : List Blk) (m : Int × Int) : Blk := (m.1, lev bs m.1, false)
def newB (bs : List Blk) (m : Int × Int) : Blk := (m.2, lev bs m.1, false)
def tgt (mm : List (Int × Int)) (a : Int) : Int := match goal mm a with
  | some (b, _) => b
  | none => a
def mvd (mm : List (Int × Int)) (c : Blk) : Blk := (tgt mm c.1, c.2.1, c.2.2)
section
variable {ns : List Int} {n : Int} {bs cur stay : List Blk} {mm : List (Int × Int)}
theorem old_in (w : Wf ns n bs) (g : Good ns) (F : Fit ns n bs mm) {i : Nat} {m : Int × Int} (h : mm[i]? = some m) : oldB bs m ∈ bs ∧ 0 ≤ m.2 ∧ m.2 % sz ns (lev bs m.1) = 0 ∧ m.2 + sz ns (lev bs m.1) ≤ n ∧ lev bs m.1 < ns.length := by
  obtain ⟨a, b⟩ := m
  obtain ⟨k, h1, h2, h3, h4⟩ := F.at_ i a b h
  have e : lev bs a = k := lev_is w g h1
  unfold oldB
  refine ⟨?_, ?_, ?_, ?_, ?_⟩
  · show (a, lev bs a, false) ∈ bs
    rw [e]
    exact h1
  · exact h2
  · show b % sz ns (lev bs a) = 0
    rw [e]
    exact h3
  · show b + sz ns (lev bs a) ≤ n
    rw [e]
    exact h4
  · show lev bs a < ns.length
    rw [e]
    exact (w.ok _ h1).1
theorem take_snoc {α : Type} {l : List α} {i : Nat} {x : α} (h : l[i]? = some x) : l.take (i + 1) = l.take i ++ [x] := by
  rw [List.take_add_one, h]
  rfl
theorem erase_perm2 {α : Type} : ∀ {zs : List α} {k : Nat} {x : α}, zs[k]? = some x → zs.Perm (x :: zs.eraseIdx k)
  | [], _, _, h => by cases h
  | z :: r, 0, x, h => by
    cases h
    exact List.Perm.refl _
  | z :: r, k + 1, x, h => ((erase_perm2 (zs := r) (k := k) h).cons z).trans (List.Perm.swap x z _)
theorem take_step (w : Wf ns n bs) (g : Good ns) (F : Fit ns n bs mm) {i : Nat} {m : Int × Int} (hm : mm[i]? = some m) (p : bs.Perm ((mm.take i).map (oldB bs) ++ cur)) : ∃ j : Nat, cur[j]? = some (oldB bs m) ∧ bs.Perm ((mm.take (i + 1)).map (oldB bs) ++ cur.eraseIdx j) := by
  have h1 := p.mem_iff.mp (old_in w g F hm).1
  have hc : oldB bs m ∈ cur := by
    rcases List.mem_append.mp h1 with z | z
    · exfalso
      obtain ⟨m', hm', e⟩ := List.mem_map.mp z
      obtain ⟨q, hq, e2⟩ := mem_take_lt hm'
      have e3 : m'.1 = m.1 := congrArg (fun b : Blk => b.1) e
      have : q = i := F.nd q i m'.1 m'.2 m.2 e2 (by rw [hm, e3])
      omega
    · exact z
  obtain ⟨j, hj⟩ := List.mem_iff_getElem?.mp hc
  refine ⟨j, hj, ?_⟩
  rw [take_snoc hm, List.map_append, List.append_assoc]
  exact p.trans (List.Perm.append_left _ (erase_perm2 hj))
theorem Wf.nd (w : Wf ns n bs) (g : Good ns) : (bs.map fun b => b.1).Nodup := by
  refine List.pairwise_map.mpr (w.so.imp_of_mem fun {a b} ha hb h => ?_)
  have := (chain g).pos _ (w.ok a ha).1
  unfold bEnd at h
  omega
theorem stay_of (w : Wf ns n bs) (g : Good ns) (p : bs.Perm (mm.map (oldB bs) ++ stay)) {c : Blk} (hc : c ∈ stay) : c ∈ bs ∧ c.1 ∉ mm.map Prod.fst := by
  refine ⟨p.mem_iff.mpr (List.mem_append_right _ hc), fun hn => ?_⟩
  have nd := ((p.map fun b => b.1).nodup_iff).mp (w.nd g)
  rw [List.map_append] at nd
  have dj := (List.nodup_append.mp nd).2.2
  obtain ⟨m, hm, e⟩ := List.mem_map.mp hn
  exact dj m.1 (List.mem_map.mpr ⟨oldB bs m, List.mem_map.mpr ⟨m, hm, rfl⟩, rfl⟩) c.1 (List.mem_map.mpr ⟨c, hc, rfl⟩) e
theorem ins_perm (cur : List Blk) (j : Nat) (b : Blk) : (insB cur j b).Perm (cur ++ [b]) := by
  unfold insB
  have h : (cur.take j ++ [b] ++ cur.drop j).Perm (cur.take j ++ (cur.drop j ++ [b])) := by
    rw [List.append_assoc]
    exact List.Perm.append_left _ List.perm_append_comm
  refine h.trans ?_
  rw [← List.append_assoc, List.take_append_drop]
theorem put_step (w : Wf ns n bs) (g : Good ns) (F : Fit ns n bs mm) (ok : LawOk ns bs mm) (ps : bs.Perm (mm.map (oldB bs) ++ stay)) {i : Nat} {m : Int × Int} (hm : mm[i]? = some m) (p : cur.Perm (stay ++ (mm.take i).map (newB bs))) :
    FreeR ns cur m.2 (m.2 + sz ns (lev bs m.1)) ∧ ∀ j, (insB cur j (newB bs m)).Perm (stay ++ (mm.take (i + 1)).map (newB bs)) := by
  refine ⟨fun c hc => ?_, fun j => ?_⟩
  · have far : ∀ {r : Int × Int}, ¬ ov2 (rg ns bs m) r → r.2 ≤ m.2 ∨ m.2 + sz ns (lev bs m.1) ≤ r.1 := fun {r} h => by
      rcases Int.lt_or_le m.2 r.2 with z | z
      · rcases Int.lt_or_le r.1 (m.2 + sz ns (lev bs m.1)) with y | y
        · exact absurd ⟨z, y⟩ h
        · exact .inr y
      · exact .inl z
    rcases List.mem_append.mp (p.mem_iff.mp hc) with z | z
    · obtain ⟨h1, h2⟩ := stay_of w g ps z
      exact far ((ok i m hm).2 c h1 h2)
    · obtain ⟨m', hm', rfl⟩ := List.mem_map.mp z
      obtain ⟨q, hq, e2⟩ := mem_take_lt hm'
      exact far ((ok i m hm).1 q m' e2 (by omega))
  · refine (ins_perm cur j _).trans ?_
    rw [take_snoc hm, List.map_append, ← List.append_assoc]
    exact p.append_right _
theorem tgt_some (F : Fit ns n bs mm) {i : Nat} {m : Int × Int} (h : mm[i]? = some m) : tgt mm m.1 = m.2 := by
  unfold tgt
  rw [goal_some F (a := m.1) (b := m.2) h]
theorem tgt_none {a : Int} (h : a ∉ mm.map Prod.fst) : tgt mm a = a := by
  unfold tgt
  rw [goal_none h]
theorem fin_perm (w : Wf ns n bs) (g : Good ns) (F : Fit ns n bs mm) (ps : bs.Perm (mm.map (oldB bs) ++ stay)) (p : cur.Perm (stay ++ mm.map (newB bs))) : cur.Perm (bs.map (mvd mm)) := by
  refine p.trans (List.perm_append_comm.trans ((?_ : (mm.map (newB bs) ++ stay) = ((mm.map (oldB bs) ++ stay).map (mvd mm))) ▸ (ps.map (mvd mm)).symm))
  rw [List.map_append, List.map_map]
  congr 1
  · refine List.map_congr_left fun m hm => ?_
    obtain ⟨i, hi⟩ := List.mem_iff_getElem?.mp hm
    show newB bs m = mvd mm (oldB bs m)
    unfold newB mvd oldB
    rw [tgt_some F hi]
  · have : stay.map (mvd mm) = stay.map id := List.map_congr_left fun c hc => by
      unfold mvd
      rw [tgt_none (stay_of w g ps hc).2]
      rfl
    rw [this, List.map_id]
end
end K34

set_option Elab.async false
set_option linter.all false
set_option maxRecDepth 100000
set_option maxHeartbeats 4000000
set_option pp.maxSteps 900
namespace K34
open PySem PySem.Spec PyProof.Rows L2 Gu Ex
theorem lay_putB (zp bl : Addr) (n fr : Int) (z : Addr) : putF "block_list" (.ref z) (layF zp n fr bl) = layF zp n fr z := by
  have e : (("size_table" : Str) = ("block_list" : Str)) = False := by
    simp only [eq_iff_iff, iff_false]
    decide +kernel
  have e2 : (("cell_count" : Str) = ("block_list" : Str)) = False := by
    simp only [eq_iff_iff, iff_false]
    decide +kernel
  have e3 : (("free_count" : Str) = ("block_list" : Str)) = False := by
    simp only [eq_iff_iff, iff_false]
    decide +kernel
  simp [layF, putF, e, e2, e3]
section
variable {P : Program} {w : World} {K : PySem.W.Frag} {mg : Str → Option Value} {base : Heap} {f : Addr} {fd : FuncData}
def spClone (K : PySem.W.Frag) : Sp := fun vs H Q _ => ∃ (y zp bl dx : Addr) (ps : List Addr) (ns : List Int) (n : Int) (bs : List Blk), vs = [.ref y] ∧ Ly K H y zp bl dx ps ns n bs ∧
  ∀ y2 bl2 dx2 H', H y2 = none → H bl2 = none → Same H H' → Ly K H' y2 zp bl2 dx2 ps ns n bs → Q (.ref y2) H'
theorem sc_clone : FnScope ["self", "twin"] ["self"] (defScope (inClass (top 38) 8)) := ⟨rfl, rfl, rfl, by decide +kernel, rfl, by decide +kernel, by decide +kernel⟩
theorem ok_clone (T : Tx K mg) (D_Layout : Kf P w K mg base 4 "Layout" ["self", "sizes", "length"] (spNew K)) (F : FnP K "clone" "Layout.clone" (inClass (top 38) 8) f fd) : FnOk P w K mg base CX0 6 f fd ["self"] (spClone K) := by
  refine F.ok sc_clone (fun vs H Q E h => ?_) (fun cdv A outer s H vs Q E hr h => ⟨_, PSs.nox (pss_cons (ps_set (i := 1) sc_clone.nd rfl (by first | exact Or.inl rfl | exact Or.inr rfl) (pmake D_Layout hr (pa_cons (pe_fld (pv 0) rfl) (pa_cons (pe_fld (pv 0) rfl) pa_nil)))) (pss_cons (ps_fld (pv 1) (pe_callTy call_list_of (by rfl) T.n_list (by decide +kernel) (pa_cons (pe_fld (pv 0) rfl) pa_nil)) rfl) (pss_cons (ps_fld (pv 1) (pe_fld (pv 0) rfl) rfl) (pss_one (ps_ret (pv 1)))))), ?_⟩)
  · obtain ⟨y, zp, bl, dx, ps, ns, n, bs, rfl, _⟩ := h
    rfl
  · obtain ⟨y, zp, bl, dx, ps, ns, n, bs, rfl, L, q⟩ := h
    refine ⟨_, rfl, y, _, dx, _, _, rfl, L.at_, T.ly, T.nST, lay_st .., _, rfl, y, _, dx, _, _, rfl, L.at_, T.ly, T.nCC, lay_cc .., ?_⟩
    intro y2 dx2 hy hdx ndx
    have s0 : Same H (upd (upd H dx2 (.own y2)) y2 (.ins (He.ga K "Layout") dx2 [])) := fun c o e => by
      rw [upd_ne (ne_of_none e hy), upd_ne (ne_of_none e hdx)]
      exact e
    refine ⟨y2, zp, dx2, ns, n, rfl, upd_same, L.szs.same s0, L.gd, L.n1, L.n2, fun b0 H1 hb0 kp L1 => ⟨rfl, ?_⟩⟩
    have s1 : Same H H1 := fun c o e => kp c o (ne_of_none e hy) (s0 c o e)
    have LL := L.same s1
    refine ⟨_, rfl, y, _, dx, _, _, rfl, LL.at_, T.ly, T.nBL, lay_bl .., bl, _, rfl, .inl (SqL.of LL.lst), fun l hl => ?_⟩
    have nl : y2 ≠ l := ne_of_none L1.at_ hl
    have lH : H l = none := s1.free hl
    refine ⟨_, rfl, y2, _, dx2, _, rfl, (by rw [upd_ne nl]; exact L1.at_), T.ly, T.nBL, (by show 4 < 1000; decide), ?_⟩
    rw [lay_putB]
    have s2 : Same H (upd (upd H1 l (.lst (ps.map V.ref))) y2 (.ins (He.ga K "Layout") dx2 (layF zp n (n - tot ns []) l))) := fun c o e => by
      rw [upd_ne (ne_of_none e hy), upd_ne (ne_of_none e lH)]
      exact s1 c o e
    have L2 := L.same s2
    refine ⟨_, rfl, y, _, dx, _, _, rfl, L2.at_, T.ly, T.nFC, lay_fc .., _, rfl, y2, _, dx2, _, rfl, upd_same, T.ly, T.nFC, (by show 4 < 1000; decide), ?_⟩
    rw [lay_put]
    have s3 : Same H (upd (upd (upd H1 l (.lst (ps.map V.ref))) y2 (.ins (He.ga K "Layout") dx2 (layF zp n (n - tot ns []) l))) y2 (.ins (He.ga K "Layout") dx2 (layF zp n (n - tot ns bs) l))) := fun c o e => by
      rw [upd_ne (ne_of_none e hy)]
      exact s2 c o e
    obtain ⟨dz, lz, z1, z2, _⟩ := id L.ap
    refine ⟨_, rfl, q y2 l dx2 _ hy lH s3 ⟨upd_same, L.szs.same s3, ?_, L.rf.same s3, L.wf, L.gd, L.n1, L.n2, L.ln, ⟨dz, lz, s3 _ _ z1, s3 _ _ z2, ne_of_none z2 lH⟩⟩⟩
    rw [upd_ne nl.symm, upd_ne nl.symm, upd_same]
theorem sc_InvalidMoves_init : FnScope ["self", "position"] ["self", "position"] (defScope (inClass (top 8) 0)) := ⟨rfl, rfl, rfl, by decide +kernel, rfl, by decide +kernel, by decide +kernel⟩
theorem ok_errM (T : Tx K mg) (F : FnP K "__init__" "InvalidMoves.__init__" (inClass (top 8) 0) f fd) : FnOk P w K mg base CX0 1 f fd ["self", "position"] (Ex.spErr (cM K) "position") := by
  refine F.ok sc_InvalidMoves_init (fun vs H Q E h => ?_) (fun cdv A outer s H vs Q E hr h => ⟨_, PSs.nox (pss_one (ps_fst (B := "ValueError") (tl := tailE "ValueError") (pv 0) (pv 1))), ?_⟩)
  · obtain ⟨a, v, rfl, _⟩ := h
    rfl
  · obtain ⟨a, v, rfl, ha, q⟩ := h
    exact ⟨_, rfl, _, rfl, a, cM K, rfl, T.eM.ox, T.eM.no, ha, q⟩
/-- a rearrangement passes, all else is told with its position -/
def spChk (K : PySem.W.Frag) : Sp := fun vs H Q E => ∃ (y zp bl dx : Addr) (ps : List Addr) (ns : List Int) (n : Int) (bs : List Blk) (v : V) (o : Option (List Mo)), vs = [.ref y, v] ∧ Ly K H y zp bl dx ps ns n bs ∧ Th H v o ∧ (OkR ns n bs o → ∀ H', Same H H' → Q .non H') ∧ ∀ i : Nat, ¬ OkR ns n bs o → FstP ns n bs o i → Raised K "InvalidMoves" "position" (.int i) H E
theorem sc_check_rearrangement : FnScope ["layout", "value", "position"] ["layout", "value"] (defScope (top 29)) := ⟨rfl, rfl, rfl, by decide +kernel, rfl, by decide +kernel, by decide +kernel⟩
theorem ok_chk (T : Tx K mg) (D_first_wrong_move : Df P w K mg base 9 "first_wrong_move" ["layout", "value"] (spWrong K)) (M : Ex.Ei P w K mg base "InvalidMoves" "position") (F : FnP K "check_rearrangement" "check_rearrangement" (top 29) f fd) : FnOk P w K mg base (L2.CX P w) 10 f fd ["layout", "value"] (spChk K) := by
  obtain ⟨fdI, FI, bI⟩ := M.ex
  refine F.ok sc_check_rearrangement (fun vs H Q E h => ?_) (fun cdv A outer s H vs Q E hr h => ⟨_, (pss_cons (ps_set (i := 2) sc_check_rearrangement.nd rfl (by first | exact Or.inl rfl | exact Or.inr rfl) (pcall D_first_wrong_move hr (pa_cons (pv 0) (pa_cons (pv 1) pa_nil)))) (pss_one (ps_if (pt_cmpR op_notN (pv 2) pe_non (nomark _)) (pss_one (ps_raise rfl (takes_of (E := E) rfl rfl rfl rfl) (pmk_oexG T.eM.ox T.eM.ii T.eM.ti FI (hr.mono (by decide)) bI .nil pass0 rfl T.g_InvalidMoves (pa_cons (pv 2) pa_nil)))) pss_nil))), ?_⟩)
  · obtain ⟨y, zp, bl, dx, ps, ns, n, bs, v, o, rfl, _⟩ := h
    rfl
  · obtain ⟨y, zp, bl, dx, ps, ns, n, bs, v, o, rfl, L, th, q1, q2⟩ := h
    refine ⟨_, rfl, _, rfl, y, zp, bl, dx, ps, ns, n, bs, v, o, rfl, L, th, fun ok H' sm => ?_, fun no i H' fp sm => ?_⟩
    · exact ⟨_, rfl, rfl, _, rfl, ifF (by rw [decide_eq_true rfl]; rfl) (q1 ok H' sm)⟩
    · exact ⟨_, rfl, rfl, _, rfl, ifT (by rw [decide_eq_false fun z => nomatch z]; rfl) ⟨_, rfl, (by show 1 ≤ 1000; decide), raise_ok ((q2 i no fp).same sm)⟩⟩
theorem okR_of {ns : List Int} {n : Int} {bs : List Blk} {mm : List (Int × Int)} (h : OkR ns n bs (some (mm.map some))) : Fit ns n bs mm ∧ LawOk ns bs mm := by
  obtain ⟨mm', e, Ft⟩ := fit_of h.1
  have e2 : mm = mm' := (List.map_inj_right (fun _ _ z => Option.some.inj z)).mp e
  rw [← e2] at Ft
  exact ⟨Ft, h.2 mm rfl⟩
/-- what a rearrangement is: a list of moves -/
theorem Th.ok {H : Hp} {v : V} {o : Option (List Mo)} {ns : List Int} {n : Int} {bs : List Blk} (h : Th H v o) (ok : OkR ns n bs o) : ∃ (a : Addr) (xs : List V) (mm : List (Int × Int)), v = .ref a ∧ H a = some (.lst xs) ∧ Mvs H xs (mm.map some) ∧ xs.length ≤ 1000 ∧ OkR ns n bs (some (mm.map some)) ∧ o = some (mm.map some) := by
  cases h with
  | other => exact ok.elim
  | @list a xs ms e m l =>
    obtain ⟨mm, rfl, _⟩ := fit_of ok.1
    exact ⟨a, xs, mm, rfl, e, m, l, ok, rfl⟩
def spRear (K : PySem.W.Frag) : Sp := fun vs H Q E => ∃ (y zp bl dx : Addr) (ps : List Addr) (ns : List Int) (n : Int) (bs : List Blk) (v : V) (o : Option (List Mo)), vs = [.ref y, v] ∧ Ly K H y zp bl dx ps ns n bs ∧ Th H v o ∧ bs.length < 900 ∧ (OkR ns n bs o → ∀ u H', Same H H' → Q u H') ∧ ∀ i : Nat, ¬ OkR ns n bs o → FstP ns n bs o i → Raised K "InvalidMoves" "position" (.int i) H E
theorem sc_rearranged : FnScope ["layout", "moves", "levels", "after", "old", "new"] ["layout", "moves"] (defScope (top 31)) := ⟨rfl, rfl, rfl, by decide +kernel, rfl, by decide +kernel, by decide +kernel⟩
theorem ok_rear (T : Tx K mg) (D_check_rearrangement : DfX P w K mg base 10 "check_rearrangement" ["layout", "value"] (spChk K)) (M_unpinned_levels : Mf P w K mg base 1 "Layout" "unpinned_levels" ["self"] (spLevels K)) (M_clone : Mf P w K mg base 6 "Layout" "clone" ["self"] (spClone K)) (M_take_out : Mf P w K mg base 6 "Layout" "take_out" ["self", "address"] (spTake K)) (M_put_d : MfD P w K mg base 8 "Layout" "put" ["self", "level", "address", "pinned"] [.bl false] (spPut K))
    (F : FnP K "rearranged" "rearranged" (top 31) f fd) : FnOk P w K mg base (L2.CX P w) 11 f fd ["layout", "moves"] (spRear K) := by
  refine F.ok sc_rearranged (fun vs H Q E h => ?_) (fun cdv A outer s H vs Q E hr h => ⟨_, (pss_cons (ps_expr (pcallX D_check_rearrangement hr (passX (takes_of (E := E) rfl rfl rfl rfl)) (pa_cons (pv 0) (pa_cons (pv 1) pa_nil)))) (pss_cons (ps_set (i := 2) sc_rearranged.nd rfl (by first | exact Or.inl rfl | exact Or.inr rfl) (pmeth0 M_unpinned_levels hr (pv 0))) (pss_cons (ps_set (i := 3) sc_rearranged.nd rfl (by first | exact Or.inl rfl | exact Or.inr rfl) (pmeth0 M_clone hr (pv 0))) (pss_cons (ps_for (passes_of rfl) rfl (pi_list (pv 1)) (pg_tup (by rfl) (pgs_cons (pg_name (i := 4) sc_rearranged.nd rfl (by first | exact Or.inl rfl | exact Or.inr rfl)) (pgs_cons (pg_name (i := 5) sc_rearranged.nd rfl (by first | exact Or.inl rfl | exact Or.inr rfl)) pgs_nil))) (pss_one (ps_expr (pmeth M_take_out hr (pv 3) (pa_cons (pv 4) pa_nil))))) (pss_cons (ps_for (passes_of rfl) rfl (pi_list (pv 1)) (pg_tup (by rfl) (pgs_cons (pg_name (i := 4) sc_rearranged.nd rfl (by first | exact Or.inl rfl | exact Or.inr rfl)) (pgs_cons (pg_name (i := 5) sc_rearranged.nd rfl (by first | exact Or.inl rfl | exact Or.inr rfl)) pgs_nil))) (pss_one (ps_expr (pmethD M_put_d hr (pv 3) (pa_cons (pe_dget (u1 hr) (pv 2) (pv 4) (fun _ _ => rfl)) (pa_cons (pv 5) pa_nil)))))) (pss_one (ps_ret (pv 3)))))))), ?_⟩)
  · obtain ⟨y, zp, bl, dx, ps, ns, n, bs, v, o, rfl, _⟩ := h
    rfl
  · obtain ⟨y, zp, bl, dx, ps, ns, n, bs, v, o, rfl, L, th, bl9, q, qX⟩ := h
    have sl : sizeLine = 16777216 := sizeLine_eq
    refine ⟨_, rfl, _, rfl, y, zp, bl, dx, ps, ns, n, bs, v, o, rfl, L, th, fun ok0 H1 s1 => ?_, qX⟩
    obtain ⟨a, xs, mm, rfl, ha, hm, xl, ok, rfl⟩ := th.ok ok0
    obtain ⟨Ft, lo⟩ := okR_of ok
    have wf := L.wf
    have gd := L.gd
    have ml : xs.length = mm.length := by rw [hm.len, List.length_map]
    have L1 := L.same s1
    refine ⟨_, rfl, y, dx, _, rfl, L1.at_, rfl, y, zp, bl, dx, ps, ns, n, bs, rfl, L1, fun Dl H2 d0 s2 hD => ?_⟩
    have L2 := L1.same s2
    have s12 := s1.trans s2
    refine ⟨_, rfl, y, dx, _, rfl, L2.at_, rfl, y, zp, bl, dx, ps, ns, n, bs, rfl, L2, fun y2 bl2 dx2 H3 y0 b0 s3 L3 => ?_⟩
    have s13 := s12.trans s3
    have ha2 := s12 _ _ ha
    have hm2 := hm.same s12
    refine ⟨_, rfl, a, rfl, ⟨_, SqL.of (s13 _ _ ha)⟩, ?_⟩
    refine for_list (K := K) (a := a) (xs := xs) (fun i σ G => (∃ x4 x5, σ = [some (.ref y), some (.ref a), some (.ref Dl), some (.ref y2), x4, x5]) ∧ Same H2 G ∧ ∃ ps' cur, Ly K G y2 zp bl2 dx2 ps' ns n cur ∧ bs.Perm ((mm.take i).map (oldB bs) ++ cur)) ⟨⟨none, none, rfl⟩, s3, ps, bs, L3, List.Perm.refl _⟩ (fun i σ G _ h => SqL.of (h.2.1 _ _ ha2)) ?_ ?_
    · rintro i v σ G hv ⟨⟨x4, x5, rfl⟩, sG, ps', cur, LG, pm⟩
      obtain ⟨t, p1, p2, rfl, et, emm⟩ := (hm2.same sG).at_some hv
      obtain ⟨j, hj, pm2⟩ := take_step wf gd Ft emm pm
      refine ⟨t, _, rfl, .inl (.inl et), rfl, _, _, rfl, _, _, rfl, rfl, _, rfl, y2, dx2, _, rfl, LG.at_, rfl, ?_⟩
      refine ⟨_, rfl, y2, zp, bl2, dx2, ps', ns, n, p1, cur, j, oldB bs (p1, p2), rfl, LG, hj, rfl, fun t2 ps2 G2 t20 L4 ht2 b2 => ?_⟩
      exact ⟨⟨_, _, rfl⟩, fun c o e => b2 c o (ne_of_none e y0) (ne_of_none e b0) (sG c o e), ps2, _, L4, pm2⟩
    rintro σ G ⟨⟨x4, x5, rfl⟩, sG, ps', stay, LG, pmS⟩
    rw [ml, List.take_length] at pmS
    refine ⟨_, rfl, a, rfl, ⟨_, SqL.of (sG _ _ ha2)⟩, ?_⟩
    refine for_list (K := K) (a := a) (xs := xs) (fun i σ G => (∃ x4 x5, σ = [some (.ref y), some (.ref a), some (.ref Dl), some (.ref y2), x4, x5]) ∧ Same H2 G ∧ ∃ ps' cur, Ly K G y2 zp bl2 dx2 ps' ns n cur ∧ cur.Perm (stay ++ (mm.take i).map (newB bs))) ⟨⟨_, _, rfl⟩, sG, ps', stay, LG, by rw [List.take_zero, List.map_nil, List.append_nil]⟩ (fun i σ G _ h => SqL.of (h.2.1 _ _ ha2)) ?_ ?_
    · rintro i v σ G hv ⟨⟨x4, x5, rfl⟩, sG, ps', cur, LG, pm⟩
      obtain ⟨t, p1, p2, rfl, et, emm⟩ := (hm2.same sG).at_some hv
      obtain ⟨fr, ins⟩ := put_step wf gd Ft lo pmS emm pm
      obtain ⟨o1, o2, o3, o4, o5⟩ := old_in wf gd Ft emm
      have hk : valV (lvK (unpB bs)) (Sum.inl p1) = some (.int (lev bs p1 : Nat)) := lvK_get (cs := unpB bs) (b := (p1, lev bs p1, false)) ((wf.rise gd).filter _) (List.mem_filter.mpr ⟨o1, rfl⟩)
      have le := pm.length_eq
      have leS := pmS.length_eq
      rw [List.length_append, List.length_map] at le leS
      rw [List.length_take] at le
      refine ⟨t, _, rfl, .inl (.inl et), rfl, _, _, rfl, _, _, rfl, rfl, ?_⟩
      refine ⟨_, rfl, y2, dx2, _, rfl, LG.at_, rfl, _, rfl, _, rfl, Dl, _, rfl, (by rw [← hk]; exact DGet.k (k := Sum.inl p1) (sG _ _ hD)), _, rfl, ?_⟩
      refine ⟨y2, zp, bl2, dx2, ps', ns, n, p2, cur, lev bs p1, false, rfl, LG, by omega, o5, o2, o3, o4, fr, fun j ps2 G2 hb L4 b2 => ?_⟩
      exact ⟨⟨_, _, rfl⟩, fun c o e => b2 c o (ne_of_none e y0) (ne_of_none e b0) (sG c o e), ps2, _, L4, ins j⟩
    · rintro σ G ⟨⟨x4, x5, rfl⟩, sG, ps', cur, LG, pm⟩
      rw [ml, List.take_length] at pm
      exact ⟨_, rfl, q ok0 _ G (s12.trans sG)⟩
end
end K34

set_option Elab.async false
set_option linter.all false
set_option maxRecDepth 100000
set_option maxHeartbeats 4000000
/-! Moves as maps of addresses: one after another, and back. -/
namespace K34
open PySem PySem.Spec PyProof.Rows L2 Gu Ex
abbrev Pr : Type := Int × Int
def ple (x y : Pr) : Prop := x.1 < y.1 ∨ (x.1 = y.1 ∧ x.2 ≤ y.2)
instance (x y : Pr) : Decidable (ple x y) := by unfold ple; infer_instance
theorem ple_tot {x y : Pr} (h : ¬ ple x y) : ple y x := by
  unfold ple at *
  omega
theorem ple_tr {x y z : Pr} (h : ple x y) (k : ple y z) : ple x z := by
  unfold ple at *
  omega
def insP (x : Pr) : List Pr → List Pr
  | [] => [x]
  | y :: r => if ple x y then x :: y :: r else y :: insP x r
def srtP : List Pr → List Pr
  | [] => []
  | x :: r => insP x (srtP r)
theorem insP_perm (x : Pr) : ∀ l, (insP x l).Perm (x :: l)
  | [] => List.Perm.refl _
  | y :: r => by
    unfold insP
    split
    · exact List.Perm.refl _
    · exact ((insP_perm x r).cons y).trans (List.Perm.swap x y r)
theorem srtP_perm : ∀ l, (srtP l).Perm l
  | [] => List.Perm.refl _
  | x :: r => (insP_perm x _).trans ((srtP_perm r).cons x)
theorem insP_so (x : Pr) : ∀ {l : List Pr}, l.Pairwise ple → (insP x l).Pairwise ple
  | [], _ => List.pairwise_singleton _ _
  | y :: r, h => by
    have hc := List.pairwise_cons.mp h
    unfold insP
    split
    · rename_i c
      refine List.pairwise_cons.mpr ⟨fun z hz => ?_, h⟩
      rcases List.mem_cons.mp hz with e | e
      · rw [e]; exact c
      · exact ple_tr c (hc.1 z e)
    · rename_i c
      refine List.pairwise_cons.mpr ⟨fun z hz => ?_, insP_so x hc.2⟩
      rcases List.mem_cons.mp ((insP_perm x r).mem_iff.mp hz) with e | e
      · rw [e]; exact ple_tot c
      · exact hc.1 z e
theorem srtP_so : ∀ l, (srtP l).Pairwise ple
  | [] => .nil
  | x :: r => insP_so x (srtP_so r)
theorem srt_uniq : ∀ {l m : List Pr}, l.Pairwise ple → m.Pairwise ple → l.Perm m → l = m
  | [], m, _, _, h => (List.Perm.eq_nil h.symm).symm
  | x :: l, [], _, _, h => absurd h.length_eq (by simp)
  | x :: l, y :: m, hl, hm, h => by
    have pl := List.pairwise_cons.mp hl
    have pm := List.pairwise_cons.mp hm
    have e : x = y := by
      rcases List.mem_cons.mp (h.mem_iff.mp (List.mem_cons_self (a := x) (l := l))) with e | e
      · exact e
      · rcases List.mem_cons.mp (h.mem_iff.mpr (List.mem_cons_self (a := y) (l := m))) with e2 | e2
        · exact e2.symm
        · have h1 := pm.1 x e
          have h2 := pl.1 y e2
          unfold ple at h1 h2
          exact Prod.ext (by omega) (by omega)
    subst e
    rw [srt_uniq pl.2 pm.2 (List.Perm.cons_inv h)]
theorem srt_eq {l m : List Pr} (so : l.Pairwise ple) (p : l.Perm m) : l = srtP m := srt_uniq so (srtP_so m) (p.trans (srtP_perm m).symm)
theorem srt_pm {l m : List Pr} (p : l.Perm m) : srtP l = srtP m := srt_eq (srtP_so l) ((srtP_perm l).trans p)
/-- where a list of moves brings an address -/
def go (mm : List Pr) (a : Int) : Int := ((mm.find? fun m => decide (m.1 = a)).map Prod.snd).getD a
theorem go_none {mm : List Pr} {a : Int} (h : a ∉ mm.map Prod.fst) : go mm a = a := by
  unfold go
  cases e : mm.find? fun m => decide (m.1 = a) with
  | none => rfl
  | some m =>
    have h1 : m.1 = a := by simpa using List.find?_some e
    exact absurd (List.mem_map.mpr ⟨m, List.mem_of_find?_eq_some e, h1⟩) h
theorem nd_inj {mm : List Pr} (n1 : (mm.map Prod.fst).Nodup) {a b c : Int} (h1 : (a, b) ∈ mm) (h2 : (a, c) ∈ mm) : b = c := by
  induction mm with
  | nil => cases h1
  | cons x r ih =>
    rw [List.map_cons] at n1
    have hn := List.nodup_cons.mp n1
    rcases List.mem_cons.mp h1 with e1 | e1
    · rcases List.mem_cons.mp h2 with e2 | e2
      · exact congrArg Prod.snd (e1.trans e2.symm)
      · exact absurd (List.mem_map.mpr ⟨_, e2, by rw [← e1]⟩) hn.1
    · rcases List.mem_cons.mp h2 with e2 | e2
      · exact absurd (List.mem_map.mpr ⟨_, e1, by rw [← e2]⟩) hn.1
      · exact ih hn.2 e1 e2
theorem go_some {mm : List Pr} (n1 : (mm.map Prod.fst).Nodup) {a b : Int} (h : (a, b) ∈ mm) : go mm a = b := by
  unfold go
  cases e : mm.find? fun m => decide (m.1 = a) with
  | none =>
    have := List.find?_eq_none.mp e _ h
    simp at this
  | some m =>
    obtain ⟨x, y⟩ := m
    have h1 : x = a := by simpa using List.find?_some e
    subst h1
    exact nd_inj n1 (List.mem_of_find?_eq_some e) h
theorem go_perm {mm mm' : List Pr} (n1 : (mm.map Prod.fst).Nodup) (p : mm'.Perm mm) (a : Int) : go mm' a = go mm a := by
  have n1' : (mm'.map Prod.fst).Nodup := ((p.map Prod.fst).nodup_iff).mpr n1
  by_cases h : a ∈ mm.map Prod.fst
  · obtain ⟨⟨x, b⟩, hm, e⟩ := List.mem_map.mp h
    have e : x = a := e
    subst e
    rw [go_some n1 hm, go_some n1' (p.mem_iff.mpr hm)]
  · rw [go_none h, go_none fun z => h ((p.map Prod.fst).mem_iff.mp z)]
def mvG (mm : List Pr) (c : Blk) : Blk := (go mm c.1, c.2.1, c.2.2)
structure GoodM (mm : List Pr) : Prop where
  p : ∀ m ∈ mm, 0 ≤ m.1 ∧ 0 ≤ m.2 ∧ m.1 ≠ m.2
  n1 : (mm.map Prod.fst).Nodup
  n2 : (mm.map Prod.snd).Nodup
theorem GoodM.nil : GoodM [] := ⟨(fun _ h => nomatch h), .nil, .nil⟩
theorem GoodM.perm {mm mm' : List Pr} (h : GoodM mm) (p : mm'.Perm mm) : GoodM mm' := ⟨fun m hm => h.p m (p.mem_iff.mp hm), ((p.map Prod.fst).nodup_iff).mpr h.n1, ((p.map Prod.snd).nodup_iff).mpr h.n2⟩
def ad (bs : List Blk) : List Int := bs.map fun b => b.1
/-- a rearrangement and the blocks afterwards -/
structure Rr (ns : List Int) (n : Int) (bs : List Blk) (mm : List Pr) (cs : List Blk) : Prop where
  wb : Wf ns n bs
  wc : Wf ns n cs
  gm : GoodM mm
  un : ∀ m ∈ mm, ∃ k, (m.1, k, false) ∈ bs
  pm : cs.Perm (bs.map (mvG mm))
section
variable {ns : List Int} {n : Int} {bs cs ds : List Blk} {mm : List Pr}
theorem Rr.perm {mm' : List Pr} (R : Rr ns n bs mm cs) (p : mm'.Perm mm) : Rr ns n bs mm' cs := by
  refine ⟨R.wb, R.wc, R.gm.perm p, fun m hm => R.un m (p.mem_iff.mp hm), ?_⟩
  have e : mvG mm' = mvG mm := funext fun c => by unfold mvG; rw [go_perm R.gm.n1 p]
  rw [e]
  exact R.pm
theorem Rr.srt (R : Rr ns n bs mm cs) : Rr ns n bs (srtP mm) cs := R.perm (srtP_perm mm)
theorem Rr.old (R : Rr ns n bs mm cs) {m : Pr} (h : m ∈ mm) : m.1 ∈ ad bs := by
  obtain ⟨k, hk⟩ := R.un m h
  exact List.mem_map.mpr ⟨_, hk, rfl⟩
theorem Rr.to (R : Rr ns n bs mm cs) {a : Int} {k : Nat} {p : Bool} (h : (a, k, p) ∈ bs) : (go mm a, k, p) ∈ cs := R.pm.mem_iff.mpr (List.mem_map.mpr ⟨_, h, rfl⟩)
theorem Rr.ad_to (R : Rr ns n bs mm cs) {a : Int} (h : a ∈ ad bs) : go mm a ∈ ad cs := by
  obtain ⟨⟨x, k, p⟩, hb, rfl⟩ := List.mem_map.mp h
  exact List.mem_map.mpr ⟨_, R.to hb, rfl⟩
theorem Rr.back (R : Rr ns n bs mm cs) {a : Int} {k : Nat} {p : Bool} (h : (a, k, p) ∈ cs) : ∃ x, (x, k, p) ∈ bs ∧ go mm x = a := by
  obtain ⟨⟨x, k', p'⟩, hb, e⟩ := List.mem_map.mp (R.pm.mem_iff.mp h)
  unfold mvG at e
  cases e
  exact ⟨x, hb, rfl⟩
theorem inj_of {α β : Type} {f : α → β} : ∀ {l : List α}, (l.map f).Nodup → ∀ {x y : α}, x ∈ l → y ∈ l → f x = f y → x = y
  | [], _, _, _, h, _, _ => nomatch h
  | z :: l, h, x, y, hx, hy, e => by
    rw [List.map_cons] at h
    have hn := List.nodup_cons.mp h
    rcases List.mem_cons.mp hx with e1 | e1
    · rcases List.mem_cons.mp hy with e2 | e2
      · rw [e1, e2]
      · exact absurd (List.mem_map.mpr ⟨y, e2, by rw [← e, e1]⟩) hn.1
    · rcases List.mem_cons.mp hy with e2 | e2
      · exact absurd (List.mem_map.mpr ⟨x, e1, by rw [e, e2]⟩) hn.1
      · exact inj_of hn.2 e1 e2 e
theorem Rr.inj (R : Rr ns n bs mm cs) (g : Good ns) {x y : Int} (hx : x ∈ ad bs) (hy : y ∈ ad bs) (e : go mm x = go mm y) : x = y := by
  have h1 : (ad cs).Nodup := R.wc.nd g
  have h2 : (ad cs).Perm (bs.map fun b => go mm b.1) := by
    have := R.pm.map fun b : Blk => b.1
    rw [List.map_map] at this
    exact this
  have h3 := h2.nodup_iff.mp h1
  obtain ⟨b, hb, rfl⟩ := List.mem_map.mp hx
  obtain ⟨c, hc, rfl⟩ := List.mem_map.mp hy
  rw [inj_of h3 hb hc e]
theorem Rr.mem (R : Rr ns n bs mm cs) {a c : Int} : (a, c) ∈ mm ↔ a ∈ ad bs ∧ go mm a = c ∧ a ≠ c := by
  constructor
  · intro h
    exact ⟨R.old h, go_some R.gm.n1 h, (R.gm.p _ h).2.2⟩
  · rintro ⟨_, h2, h3⟩
    by_cases h : a ∈ mm.map Prod.fst
    · obtain ⟨⟨x, b⟩, hm, e⟩ := List.mem_map.mp h
      have e : x = a := e
      subst e
      rw [go_some R.gm.n1 hm] at h2
      rw [← h2]
      exact hm
    · rw [go_none h] at h2
      exact absurd h2 h3
theorem Rr.nd (R : Rr ns n bs mm cs) : mm.Nodup := nodup_of_map Prod.fst R.gm.n1
where nodup_of_map {α β : Type} (f : α → β) : ∀ {l : List α}, (l.map f).Nodup → l.Nodup
  | [], _ => .nil
  | x :: l, h => by
    rw [List.map_cons] at h
    have hn := List.nodup_cons.mp h
    exact List.nodup_cons.mpr ⟨fun z => hn.1 (List.mem_map.mpr ⟨x, z, rfl⟩), nodup_of_map f hn.2⟩
theorem Rr.uniq {m1 m2 : List Pr} {c1 c2 : List Blk} (R1 : Rr ns n bs m1 c1) (R2 : Rr ns n bs m2 c2) (h : ∀ x ∈ ad bs, go m1 x = go m2 x) : srtP m1 = srtP m2 := by
  refine srt_pm ((List.perm_ext_iff_of_nodup R1.nd R2.nd).mpr fun ⟨a, c⟩ => ?_)
  rw [R1.mem, R2.mem]
  constructor
  · rintro ⟨h1, h2, h3⟩
    exact ⟨h1, (h a h1) ▸ h2, h3⟩
  · rintro ⟨h1, h2, h3⟩
    exact ⟨h1, (h a h1).symm ▸ h2, h3⟩
/-- a list of moves that does what a map does -/
theorem Rr.mk' {F : Int → Int} (g : Good ns) (wb : Wf ns n bs) (wd : Wf ns n ds) (pm : ds.Perm (bs.map fun b => (F b.1, b.2.1, b.2.2))) (n1 : (mm.map Prod.fst).Nodup) (h : ∀ m ∈ mm, (∃ k, (m.1, k, false) ∈ bs) ∧ m.2 = F m.1 ∧ m.1 ≠ m.2) (h2 : ∀ x ∈ ad bs, F x ≠ x → (x, F x) ∈ mm) :
    Rr ns n bs mm ds ∧ ∀ x ∈ ad bs, go mm x = F x := by
  have hgo : ∀ x ∈ ad bs, go mm x = F x := fun x hx => by
    by_cases e : F x = x
    · by_cases hm : x ∈ mm.map Prod.fst
      · obtain ⟨⟨a, b⟩, hm2, ea⟩ := List.mem_map.mp hm
        have ea : a = x := ea
        subst ea
        have := h _ hm2
        exact absurd (this.2.1.trans e).symm this.2.2
      · rw [go_none hm, e]
    · exact go_some n1 (h2 x hx e)
  have nd : (bs.map fun b => F b.1).Nodup := by
    have h1 : (ad ds).Nodup := wd.nd g
    have h2 := pm.map fun b : Blk => b.1
    rw [List.map_map] at h2
    exact h2.nodup_iff.mp h1
  refine ⟨⟨wb, wd, ⟨fun m hm => ?_, n1, ?_⟩, fun m hm => (h m hm).1, ?_⟩, hgo⟩
  · obtain ⟨⟨k, hk⟩, e, ne⟩ := h m hm
    refine ⟨(wb.ok _ hk).2.1, ?_, ne⟩
    have : (F m.1, k, false) ∈ ds := pm.mem_iff.mpr (List.mem_map.mpr ⟨_, hk, rfl⟩)
    rw [e]
    exact (wd.ok _ this).2.1
  · refine List.pairwise_map.mpr ((List.pairwise_map.mp n1).imp_of_mem fun {x y} hx hy ne e => ne ?_)
    obtain ⟨⟨k, hk⟩, e1, _⟩ := h x hx
    obtain ⟨⟨k', hk'⟩, e2, _⟩ := h y hy
    rw [e1, e2] at e
    have := inj_of nd hk hk' e
    exact congrArg (fun b : Blk => b.1) this
  · have e : bs.map (mvG mm) = bs.map fun b => (F b.1, b.2.1, b.2.2) := List.map_congr_left fun b hb => by
      unfold mvG
      rw [hgo b.1 (List.mem_map.mpr ⟨b, hb, rfl⟩)]
    rw [e]
    exact pm
def invM (mm : List Pr) : List Pr := mm.map fun m => (m.2, m.1)
theorem Rr.inv (R : Rr ns n bs mm cs) (g : Good ns) : Rr ns n cs (invM mm) bs ∧ ∀ x ∈ ad bs, go (invM mm) (go mm x) = x := by
  have n1 : ((invM mm).map Prod.fst).Nodup := by
    unfold invM
    rw [List.map_map]
    exact R.gm.n2
  have hgo : ∀ x ∈ ad bs, go (invM mm) (go mm x) = x := fun x hx => by
    by_cases hm : x ∈ mm.map Prod.fst
    · obtain ⟨⟨a, b⟩, hm2, ea⟩ := List.mem_map.mp hm
      have ea : a = x := ea
      subst ea
      rw [go_some R.gm.n1 hm2]
      exact go_some n1 (List.mem_map.mpr ⟨_, hm2, rfl⟩)
    · rw [go_none hm]
      refine go_none fun z => ?_
      obtain ⟨p, hp, e⟩ := List.mem_map.mp z
      obtain ⟨⟨y, b⟩, hq, rfl⟩ := List.mem_map.mp hp
      have e : b = x := e
      subst e
      have h1 := go_some R.gm.n1 hq
      have h2 : y = b := R.inj g (R.old hq) hx (by rw [h1, go_none hm])
      exact (R.gm.p _ hq).2.2 h2
  refine ⟨⟨R.wc, R.wb, ⟨fun m hm => ?_, n1, ?_⟩, fun m hm => ?_, ?_⟩, hgo⟩
  · obtain ⟨q, hq, rfl⟩ := List.mem_map.mp hm
    have := R.gm.p q hq
    exact ⟨this.2.1, this.1, this.2.2.symm⟩
  · unfold invM
    rw [List.map_map]
    exact R.gm.n1
  · obtain ⟨⟨a, b⟩, hq, rfl⟩ := List.mem_map.mp hm
    obtain ⟨k, hk⟩ := R.un _ hq
    refine ⟨k, ?_⟩
    have := R.to hk
    rw [go_some R.gm.n1 hq] at this
    exact this
  · refine List.Perm.trans ?_ (R.pm.map _).symm
    rw [List.map_map]
    have e : bs.map (mvG (invM mm) ∘ mvG mm) = bs.map id := List.map_congr_left fun b hb => by
      show (go (invM mm) (go mm b.1), b.2.1, b.2.2) = b
      rw [hgo b.1 (List.mem_map.mpr ⟨b, hb, rfl⟩)]
    rw [e, List.map_id]
/-- the rows of two rearrangements one after the other -/
def rows (one two : List Pr) : List Pr := one.map (fun m => (m.1, go two m.2)) ++ two.filter fun m => !decide (m.1 ∈ one.map Prod.snd)
def neP (m : Pr) : Bool := !decide (m.1 = m.2)
def compM (one two : List Pr) : List Pr := srtP ((rows one two).filter neP)
theorem Rr.comp {one two : List Pr} (R : Rr ns n bs one cs) (S : Rr ns n cs two ds) (g : Good ns) : Rr ns n bs (compM one two) ds ∧ ∀ x ∈ ad bs, go (compM one two) x = go two (go one x) := by
  have stay : ∀ {a c : Int}, (a, c) ∈ two → a ∉ one.map Prod.snd → (∃ k, (a, k, false) ∈ bs) ∧ go one a = a ∧ a ∉ one.map Prod.fst := fun {a c} h hn => by
    obtain ⟨k, hk⟩ := S.un _ h
    obtain ⟨x, hx, e⟩ := R.back hk
    have hx1 : x ∉ one.map Prod.fst := fun z => by
      obtain ⟨⟨y, b⟩, hm, ea⟩ := List.mem_map.mp z
      have ea : y = x := ea
      subst ea
      rw [go_some R.gm.n1 hm] at e
      exact hn (List.mem_map.mpr ⟨_, hm, e⟩)
    have e2 := go_none hx1
    have e3 : x = a := e2.symm.trans e
    subst e3
    exact ⟨⟨k, hx⟩, e2, hx1⟩
  have row : ∀ m ∈ rows one two, (∃ k, (m.1, k, false) ∈ bs) ∧ m.2 = go two (go one m.1) := fun m hm => by
    rcases List.mem_append.mp hm with z | z
    · obtain ⟨⟨a, b⟩, h, rfl⟩ := List.mem_map.mp z
      refine ⟨R.un (a, b) h, ?_⟩
      show go two b = go two (go one a)
      rw [go_some R.gm.n1 h]
    · obtain ⟨h1, h2⟩ := List.mem_filter.mp z
      have h2 : m.1 ∉ one.map Prod.snd := by simpa using h2
      obtain ⟨s1, s2, _⟩ := stay (a := m.1) (c := m.2) h1 h2
      refine ⟨s1, ?_⟩
      rw [s2, go_some S.gm.n1 (b := m.2) h1]
  have n1 : ((rows one two).map Prod.fst).Nodup := by
    unfold rows
    rw [List.map_append, List.map_map]
    refine List.nodup_append.mpr ⟨R.gm.n1, ?_, ?_⟩
    · exact List.Pairwise.sublist ((List.filter_sublist).map Prod.fst) S.gm.n1
    · rintro a ha b hb rfl
      obtain ⟨m, hm, e⟩ := List.mem_map.mp hb
      obtain ⟨h1, h2⟩ := List.mem_filter.mp hm
      have h2 : m.1 ∉ one.map Prod.snd := by simpa using h2
      have := (stay (a := m.1) (c := m.2) h1 h2).2.2
      rw [e] at this
      exact this ha
  have pmd : ds.Perm (bs.map fun b => (go two (go one b.1), b.2.1, b.2.2)) := by
    refine S.pm.trans ((R.pm.map _).trans ?_)
    rw [List.map_map]
    exact List.Perm.refl _
  have key := Rr.mk' (F := fun x => go two (go one x)) (mm := (rows one two).filter neP) g R.wb S.wc pmd ?_ ?_ ?_
  · refine ⟨key.1.srt, fun x hx => ?_⟩
    rw [← key.2 x hx]
    exact go_perm key.1.gm.n1 (srtP_perm _) x
  · exact List.Pairwise.sublist ((List.filter_sublist).map Prod.fst) n1
  · intro m hm
    obtain ⟨h1, h2⟩ := List.mem_filter.mp hm
    have h2 : ¬ m.1 = m.2 := by unfold neP at h2; simpa using h2
    have := row m h1
    exact ⟨this.1, this.2, h2⟩
  · intro x hx ne
    have ne : go two (go one x) ≠ x := ne
    refine List.mem_filter.mpr ⟨?_, by unfold neP; simp; exact fun z => ne z.symm⟩
    by_cases hm : x ∈ one.map Prod.fst
    · obtain ⟨⟨a, b⟩, hm2, ea⟩ := List.mem_map.mp hm
      have ea : a = x := ea
      subst ea
      refine List.mem_append_left _ (List.mem_map.mpr ⟨_, hm2, ?_⟩)
      show (a, go two b) = (a, go two (go one a))
      rw [go_some R.gm.n1 hm2]
    · have e1 := go_none hm
      rw [e1] at ne
      have h2 : (x, go two x) ∈ two := S.mem.mpr ⟨by have := R.ad_to hx; rw [e1] at this; exact this, rfl, ne.symm⟩
      rw [e1]
      refine List.mem_append_right _ (List.mem_filter.mpr ⟨h2, ?_⟩)
      have : x ∉ one.map Prod.snd := fun z => by
        obtain ⟨⟨y, b⟩, hq, e⟩ := List.mem_map.mp z
        have e : b = x := e
        subst e
        have h3 : y = b := R.inj g (R.old hq) hx (by rw [go_some R.gm.n1 hq, e1])
        exact (R.gm.p _ hq).2.2 h3
      simpa using this
theorem Rr.id (w : Wf ns n bs) : Rr ns n bs [] bs := ⟨w, w, GoodM.nil, (fun _ h => nomatch h), by
  have e : bs.map (mvG []) = bs.map _root_.id := List.map_congr_left fun b _ => rfl
  rw [e, List.map_id]⟩
theorem compM_so (one two : List Pr) : srtP (compM one two) = compM one two := (srt_eq (srtP_so _) (List.Perm.refl _)).symm
theorem Rr.comp_inv (R : Rr ns n bs mm cs) (g : Good ns) : compM mm (invM mm) = [] := by
  obtain ⟨I, e⟩ := R.inv g
  obtain ⟨C, e2⟩ := R.comp I g
  have := C.uniq (Rr.id R.wb) fun x hx => by rw [e2 x hx, e x hx]; rfl
  rw [compM_so] at this
  exact this
theorem Rr.inv_go (R : Rr ns n bs mm cs) (g : Good ns) {y : Int} (hy : y ∈ ad cs) : go mm (go (invM mm) y) = y := by
  obtain ⟨⟨a, k, p⟩, hb, rfl⟩ := List.mem_map.mp hy
  obtain ⟨x, hx, e⟩ := R.back hb
  show go mm (go (invM mm) a) = a
  rw [← e, (R.inv g).2 x (List.mem_map.mpr ⟨_, hx, rfl⟩)]
theorem Rr.inv_comp (R : Rr ns n bs mm cs) (g : Good ns) : compM (invM mm) mm = [] := by
  obtain ⟨I, e⟩ := R.inv g
  obtain ⟨C, e2⟩ := I.comp R g
  have := C.uniq (Rr.id R.wc) fun x hx => by rw [e2 x hx, R.inv_go g hx]; rfl
  rw [compM_so] at this
  exact this
theorem Rr.comp_nil (R : Rr ns n bs mm cs) (g : Good ns) : compM mm [] = srtP mm := by
  obtain ⟨C, e2⟩ := R.comp (Rr.id R.wc) g
  have := C.uniq R fun x hx => by rw [e2 x hx]; rfl
  rw [compM_so] at this
  exact this
theorem Rr.nil_comp (R : Rr ns n bs mm cs) (g : Good ns) : compM [] mm = srtP mm := by
  obtain ⟨C, e2⟩ := (Rr.id R.wb).comp R g
  have := C.uniq R fun x hx => by rw [e2 x hx]; rfl
  rw [compM_so] at this
  exact this
theorem Rr.assoc {a b c : List Pr} {es : List Blk} (A : Rr ns n bs a cs) (B : Rr ns n cs b ds) (C : Rr ns n ds c es) (g : Good ns) : compM (compM a b) c = compM a (compM b c) := by
  obtain ⟨AB, e1⟩ := A.comp B g
  obtain ⟨BC, e2⟩ := B.comp C g
  obtain ⟨L, e3⟩ := AB.comp C g
  obtain ⟨M, e4⟩ := A.comp BC g
  have := L.uniq M fun x hx => by rw [e3 x hx, e1 x hx, e4 x hx, e2 _ (A.ad_to hx)]
  rw [compM_so, compM_so] at this
  exact this
theorem invM_invM (mm : List Pr) : invM (invM mm) = mm := by
  unfold invM
  rw [List.map_map]
  exact List.map_id _
theorem comp_perm {one one' two two' : List Pr} (n1 : (two.map Prod.fst).Nodup) (p : one'.Perm one) (q : two'.Perm two) : compM one' two' = compM one two := by
  refine srt_pm (List.Perm.filter _ ?_)
  unfold rows
  have e1 : (fun m : Pr => (m.1, go two' m.2)) = fun m => (m.1, go two m.2) := funext fun m => by rw [go_perm n1 q]
  have e2 : (fun m : Pr => !decide (m.1 ∈ one'.map Prod.snd)) = fun m => !decide (m.1 ∈ one.map Prod.snd) := funext fun m => by
    congr 1
    exact decide_eq_decide.mpr (p.map Prod.snd).mem_iff
  rw [e1, e2]
  exact List.Perm.append (p.map _) (q.filter _)
/-- what the program's rearrangement wants -/
theorem Rr.fit (R : Rr ns n bs mm cs) : Fit ns n bs mm := by
  refine ⟨fun i a b h => ?_, fun i j a b c h1 h2 => ?_⟩
  · have hm := List.mem_of_getElem? h
    obtain ⟨k, hk⟩ := R.un _ hm
    have h2 := R.to hk
    rw [go_some R.gm.n1 hm] at h2
    have o := R.wc.ok _ h2
    exact ⟨k, hk, o.2.1, Int.emod_eq_zero_of_dvd o.2.2.1, o.2.2.2⟩
  · have n1 := R.gm.n1
    have e1 : (mm.map Prod.fst)[i]? = some a := by rw [List.getElem?_map, h1]; rfl
    have e2 : (mm.map Prod.fst)[j]? = some a := by rw [List.getElem?_map, h2]; rfl
    have l1 := (List.getElem?_eq_some_iff.mp e1).1
    have l2 := (List.getElem?_eq_some_iff.mp e2).1
    have pw := List.pairwise_iff_getElem.mp n1
    rcases Nat.lt_trichotomy i j with l | l | l
    · exact absurd (by rw [(List.getElem?_eq_some_iff.mp e1).2, (List.getElem?_eq_some_iff.mp e2).2]) (pw i j l1 l2 l)
    · exact l
    · exact absurd (by rw [(List.getElem?_eq_some_iff.mp e1).2, (List.getElem?_eq_some_iff.mp e2).2]) (pw j i l2 l1 l)
theorem Rr.tgt_eq (R : Rr ns n bs mm cs) (a : Int) : tgt mm a = go mm a := by
  by_cases h : a ∈ mm.map Prod.fst
  · obtain ⟨i, b, hi⟩ := olds_mem h
    rw [tgt_some R.fit hi, go_some R.gm.n1 (List.mem_of_getElem? hi)]
  · rw [tgt_none h, go_none h]
theorem Rr.law (R : Rr ns n bs mm cs) (g : Good ns) : LawOk ns bs mm := by
  have apart : ∀ {b c : Blk}, b ∈ cs → c ∈ cs → b.1 ≠ c.1 → ¬ ov2 (b.1, b.1 + sz ns b.2.1) (c.1, c.1 + sz ns c.2.1) := fun {b c} hb hc ne h => by
    obtain ⟨i, hi⟩ := List.mem_iff_getElem?.mp hb
    obtain ⟨j, hj⟩ := List.mem_iff_getElem?.mp hc
    have h1 : b.1 < c.1 + sz ns c.2.1 := h.1
    have h2 : c.1 < b.1 + sz ns b.2.1 := h.2
    rcases Nat.lt_trichotomy i j with l | l | l
    · have := (R.wc.lt g hi hj l).1
      unfold bEnd at this
      omega
    · subst l
      rw [hi] at hj
      cases hj
      exact ne rfl
    · have := (R.wc.lt g hj hi l).1
      unfold bEnd at this
      omega
  intro p m hm
  have hmm := List.mem_of_getElem? hm
  obtain ⟨k, hk⟩ := R.un _ hmm
  have lk : lev bs m.1 = k := lev_is R.wb g hk
  have h2 := R.to hk
  rw [go_some R.gm.n1 (b := m.2) hmm] at h2
  have old := R.old hmm
  refine ⟨fun q m' hq ne => ?_, fun c hc hn => ?_⟩
  · have hmm' := List.mem_of_getElem? hq
    obtain ⟨k', hk'⟩ := R.un _ hmm'
    have lk' : lev bs m'.1 = k' := lev_is R.wb g hk'
    have h2' := R.to hk'
    rw [go_some R.gm.n1 (b := m'.2) hmm'] at h2'
    unfold rg
    rw [lk, lk']
    refine apart h2 h2' fun e => ne ?_
    have e : m.2 = m'.2 := e
    have e1 : m.1 = m'.1 := R.inj g old (R.old hmm') (by rw [go_some R.gm.n1 (b := m.2) hmm, go_some R.gm.n1 (b := m'.2) hmm', e])
    exact R.fit.nd q p m'.1 m'.2 m.2 hq (by rw [hm, ← e1])
  · obtain ⟨a, k', p'⟩ := c
    have hc2 := R.to hc
    rw [go_none hn] at hc2
    unfold rg
    rw [lk]
    refine apart h2 hc2 fun e => hn ?_
    have e : m.2 = a := e
    have e1 : m.1 = a := R.inj g old (List.mem_map.mpr ⟨_, hc, rfl⟩) (by rw [go_some R.gm.n1 (b := m.2) hmm, go_none hn, e])
    exact absurd (e1.trans e.symm) (R.gm.p _ hmm).2.2
theorem Rr.after (R : Rr ns n bs mm cs) (g : Good ns) {bs2 : List Blk} (w : Wf ns n bs2) (p : bs2.Perm (bs.map (mvd mm))) : bs2 = cs := by
  have e : mvd mm = mvG mm := funext fun c => by unfold mvd mvG; rw [R.tgt_eq]
  rw [e] at p
  exact uniqB (w.rise g) (R.wc.rise g) (p.trans R.pm.symm)
end
end K34

set_option Elab.async false
set_option linter.all false
set_option maxRecDepth 100000
set_option maxHeartbeats 4000000
/-! Where a block of a level has a free region: maximal runs, and a count. -/
namespace K34
open PySem PySem.Spec PyProof.Rows L2 Gu Ex
section
open M16
variable {s : Nat → Int} {m : Nat} {hi lo : Int}
theorem R_sound (c : Ch s m) : ∀ (n : Nat) (a : Int), (hi - a).toNat ≤ n → ∀ r ∈ M16.R s m hi a, r.1 < m ∧ s r.1 ∣ r.2.1 ∧ a ≤ r.2.1 ∧ 1 ≤ r.2.2 ∧ r.2.1 + r.2.2 * s r.1 ≤ hi
  | n, a, h => by
    by_cases ha : a < hi
    · have e1 := en_gt c ha
      match n, h with
      | 0, h => omega
      | n + 1, h =>
        intro r hr
        rw [R_step c ha] at hr
        rcases List.mem_cons.mp hr with z | z
        · subst z
          refine ⟨L_lt c, dvd0 (L_lies c ha).1, Int.le_refl _, run_one c ha, ?_⟩
          have e2 : (run s m hi a).2.2 * s (run s m hi a).1 = en s m hi a - a := run_cells c ha
          have e3 : (run s m hi a).2.1 = a := rfl
          have := en_le (s := s) (m := m) (hi := hi) (a := a) c
          rw [e2, e3]
          omega
        · obtain ⟨h1, h2, h3, h4, h5⟩ := R_sound c n (en s m hi a) (by omega) r z
          exact ⟨h1, h2, by omega, h4, h5⟩
    · intro r hr
      rw [R_end ha] at hr
      cases hr
theorem R_complete (c : Ch s m) {l : Nat} {x : Int} (hl : l < m) (dx : s l ∣ x) (hx : x + s l ≤ hi) : ∀ (n : Nat) (a : Int), (hi - a).toNat ≤ n → B s m hi lo a → lo ≤ a → a ≤ x → ∃ r ∈ M16.R s m hi a, l ≤ r.1
  | n, a, h, b, la, ax => by
    have p := c.pos l hl
    have ha : a < hi := by omega
    have e1 := en_gt c ha
    rw [R_step c ha]
    by_cases hx2 : x < en s m hi a
    · have e0 := mod0 dx
      exact ⟨_, List.mem_cons_self, top_max c ha b ax hx2 hl (by omega) (by omega)⟩
    · match n, h with
      | 0, h => omega
      | n + 1, h =>
        obtain ⟨r, h1, h2⟩ := R_complete c hl dx hx n (en s m hi a) (by omega) (B_next c ha b) (by omega) (by omega)
        exact ⟨r, List.mem_cons_of_mem _ h1, h2⟩
end
/-- runs of free regions among the first blocks -/
structure FrI (ns : List Int) (bs : List Blk) (i : Nat) (at_ : Int) (rs : List M16.Run) : Prop where
  snd : ∀ r ∈ rs, r.1 < ns.length ∧ sz ns r.1 ∣ r.2.1 ∧ 0 ≤ r.2.1 ∧ 1 ≤ r.2.2 ∧ r.2.1 + r.2.2 * sz ns r.1 ≤ at_ ∧ ∀ b ∈ bs, bEnd ns b ≤ r.2.1 ∨ r.2.1 + r.2.2 * sz ns r.1 ≤ b.1
  cmp : ∀ (l : Nat) (x : Int), l < ns.length → sz ns l ∣ x → 0 ≤ x → x + sz ns l ≤ at_ → (∀ b ∈ bs, bEnd ns b ≤ x ∨ x + sz ns l ≤ b.1) → ∃ r ∈ rs, l ≤ r.1
  low : ∀ (j : Nat) (b : Blk), j < i → bs[j]? = some b → bEnd ns b ≤ at_
  edge : (i = 0 ∧ at_ = 0) ∨ ∃ b, bs[i - 1]? = some b ∧ 0 < i ∧ bEnd ns b = at_
  len : rs.length ≤ 16 * i
section
variable {ns : List Int} {n : Int} {bs : List Blk} {i : Nat} {at_ : Int} {rs : List M16.Run}
theorem FrI.start (g : Good ns) : FrI ns bs 0 0 [] := ⟨(fun _ h => nomatch h), fun l x hl _ h0 h1 _ => by
  have := (chain g).pos l hl
  omega, fun j _ h => absurd h (Nat.not_lt_zero j), .inl ⟨rfl, rfl⟩, Nat.le_refl _⟩
theorem FrI.at0 (F : FrI ns bs i at_ rs) (w : Wf ns n bs) (g : Good ns) : 0 ≤ at_ ∧ (∀ b ∈ bs, bEnd ns b ≤ n) := by
  refine ⟨?_, fun b hb => (w.ok b hb).2.2.2⟩
  rcases F.edge with ⟨_, e⟩ | ⟨b, hb, _, e⟩
  · omega
  · have o := w.ok b (List.mem_of_getElem? hb)
    have := (chain g).pos _ o.1
    unfold bEnd at e
    omega
/-- the runs up to the next block, or to the end -/
theorem FrI.more (F : FrI ns bs i at_ rs) (w : Wf ns n bs) (g : Good ns) {hi : Int} (h : at_ ≤ hi) (up : ∀ (j : Nat) (b : Blk), i ≤ j → bs[j]? = some b → hi ≤ b.1) :
    (∀ r ∈ rs ++ M16.R (sz ns) ns.length hi at_, r.1 < ns.length ∧ sz ns r.1 ∣ r.2.1 ∧ 0 ≤ r.2.1 ∧ 1 ≤ r.2.2 ∧ r.2.1 + r.2.2 * sz ns r.1 ≤ hi ∧ ∀ b ∈ bs, bEnd ns b ≤ r.2.1 ∨ r.2.1 + r.2.2 * sz ns r.1 ≤ b.1) ∧
    (∀ (l : Nat) (x : Int), l < ns.length → sz ns l ∣ x → 0 ≤ x → x + sz ns l ≤ hi → (∀ b ∈ bs, bEnd ns b ≤ x ∨ x + sz ns l ≤ b.1) → ∃ r ∈ rs ++ M16.R (sz ns) ns.length hi at_, l ≤ r.1) ∧ (rs ++ M16.R (sz ns) ns.length hi at_).length ≤ 16 * (i + 1) := by
  have c := chain g
  have a0 := F.at0 w g
  refine ⟨fun r hr => ?_, fun l x hl dx x0 xh fr => ?_, ?_⟩
  · rcases List.mem_append.mp hr with z | z
    · obtain ⟨h1, h2, h3, h4, h5, h6⟩ := F.snd r z
      exact ⟨h1, h2, h3, h4, by omega, h6⟩
    · obtain ⟨h1, h2, h3, h4, h5⟩ := R_sound c _ at_ (Nat.le_refl _) r z
      refine ⟨h1, h2, by omega, h4, h5, fun b hb => ?_⟩
      obtain ⟨j, hj⟩ := List.mem_iff_getElem?.mp hb
      rcases Nat.lt_or_ge j i with k | k
      · have := F.low j b k hj
        exact .inl (by omega)
      · have := up j b k hj
        exact .inr (by omega)
  · by_cases hx : x + sz ns l ≤ at_
    · obtain ⟨r, h1, h2⟩ := F.cmp l x hl dx x0 hx fr
      exact ⟨r, List.mem_append_left _ h1, h2⟩
    · have ax : at_ ≤ x := by
        rcases F.edge with ⟨_, e⟩ | ⟨b, hb, _, e⟩
        · omega
        · have hb := List.mem_of_getElem? hb
          have o := w.ok b hb
          have := c.pos _ o.1
          rcases fr b hb with z | z
          · omega
          · unfold bEnd at e
            omega
      obtain ⟨r, h1, h2⟩ := R_complete (lo := at_) c hl dx xh _ at_ (Nat.le_refl _) (M16.B_lo c) (Int.le_refl _) ax
      exact ⟨r, List.mem_append_right _ h1, h2⟩
  · have := M16.R_short (hi := hi) (a := at_) c g.len.2
    have := F.len
    rw [List.length_append]
    omega
theorem FrI.next (F : FrI ns bs i at_ rs) (w : Wf ns n bs) (g : Good ns) {b : Blk} (hb : bs[i]? = some b) : at_ ≤ b.1 ∧ FrI ns bs (i + 1) (bEnd ns b) (rs ++ M16.R (sz ns) ns.length b.1 at_) := by
  have hm := List.mem_of_getElem? hb
  have o := w.ok b hm
  have p := (chain g).pos _ o.1
  have le : at_ ≤ b.1 := by
    rcases F.edge with ⟨_, e⟩ | ⟨c, hc, i0, e⟩
    · omega
    · have := (w.lt g hc hb (by omega)).1
      omega
  obtain ⟨s1, s2, s3⟩ := F.more w g (hi := b.1) le fun j c hj hc => by
    rcases Nat.eq_or_lt_of_le hj with k | k
    · subst k
      rw [hb] at hc
      cases hc
      exact Int.le_refl _
    · exact Int.le_of_lt (w.lt g hb hc k).2
  have be : bEnd ns b = b.1 + sz ns b.2.1 := rfl
  refine ⟨le, fun r hr => ?_, fun l x hl dx x0 xh fr => ?_, fun j c hj hc => ?_, .inr ⟨b, hb, Nat.succ_pos _, rfl⟩, s3⟩
  · obtain ⟨h1, h2, h3, h4, h5, h6⟩ := s1 r hr
    exact ⟨h1, h2, h3, h4, by omega, h6⟩
  · refine s2 l x hl dx x0 ?_ fr
    have := (chain g).pos l hl
    rcases fr b hm with z | z <;> omega
  · rcases Nat.lt_or_ge j i with k | k
    · have := F.low j c k hc
      omega
    · obtain rfl : j = i := by omega
      rw [hb] at hc
      cases hc
      exact Int.le_refl _
structure FrOk (ns : List Int) (n : Int) (bs : List Blk) (rs : List M16.Run) : Prop where
  snd : ∀ r ∈ rs, r.1 < ns.length ∧ sz ns r.1 ∣ r.2.1 ∧ 0 ≤ r.2.1 ∧ 1 ≤ r.2.2 ∧ r.2.1 + r.2.2 * sz ns r.1 ≤ n ∧ ∀ b ∈ bs, bEnd ns b ≤ r.2.1 ∨ r.2.1 + r.2.2 * sz ns r.1 ≤ b.1
  cmp : ∀ (l : Nat) (x : Int), l < ns.length → sz ns l ∣ x → 0 ≤ x → x + sz ns l ≤ n → (∀ b ∈ bs, bEnd ns b ≤ x ∨ x + sz ns l ≤ b.1) → ∃ r ∈ rs, l ≤ r.1
  len : rs.length ≤ 16 * (bs.length + 1)
theorem FrI.le_n (F : FrI ns bs i at_ rs) (w : Wf ns n bs) (n0 : 0 ≤ n) : at_ ≤ n := by
  rcases F.edge with ⟨_, e⟩ | ⟨c, hc, i0, e⟩
  · omega
  · have := (w.ok c (List.mem_of_getElem? hc)).2.2.2
    omega
theorem FrI.fin (F : FrI ns bs bs.length at_ rs) (w : Wf ns n bs) (g : Good ns) (n0 : 0 ≤ n) : at_ ≤ n ∧ FrOk ns n bs (rs ++ M16.R (sz ns) ns.length n at_) := by
  have le := F.le_n w n0
  obtain ⟨s1, s2, s3⟩ := F.more w g (hi := n) le fun j c hj hc => absurd (List.getElem?_eq_some_iff.mp hc).1 (Nat.not_lt.mpr hj)
  exact ⟨le, s1, s2, s3⟩
theorem FrOk.perm {cs : List Blk} (F : FrOk ns n bs rs) (p : cs.Perm bs) : FrOk ns n cs rs := ⟨fun r hr => by
  obtain ⟨h1, h2, h3, h4, h5, h6⟩ := F.snd r hr
  exact ⟨h1, h2, h3, h4, h5, fun b hb => h6 b (p.mem_iff.mp hb)⟩, fun l x hl dx x0 xh fr => F.cmp l x hl dx x0 xh fun b hb => fr b (p.mem_iff.mpr hb), by rw [p.length_eq]; exact F.len⟩
/-- a region of a level within a run -/
theorem FrOk.spot (F : FrOk ns n bs rs) (g : Good ns) {r : M16.Run} (hr : r ∈ rs) {l : Nat} (hl : l ≤ r.1) {d : Int} (d0 : 0 ≤ d) (d1 : d < r.2.2 * sz ns r.1 / sz ns l) :
    0 ≤ r.2.1 + d * sz ns l ∧ sz ns l ∣ r.2.1 + d * sz ns l ∧ r.2.1 + d * sz ns l + sz ns l ≤ n ∧ ∀ b ∈ bs, bEnd ns b ≤ r.2.1 + d * sz ns l ∨ r.2.1 + d * sz ns l + sz ns l ≤ b.1 := by
  obtain ⟨h1, h2, h3, h4, h5, h6⟩ := F.snd r hr
  have c := chain g
  have p := c.pos l (by omega)
  have e1 : (d + 1) * sz ns l ≤ r.2.2 * sz ns r.1 := (Int.le_ediv_iff_mul_le (by omega)).mp (by omega)
  have e2 : 0 ≤ d * sz ns l := Int.mul_nonneg d0 (by omega)
  rw [Int.add_mul, Int.one_mul] at e1
  refine ⟨by omega, Int.dvd_add (Int.dvd_trans (c.dvd hl h1) h2) (Int.dvd_mul_left _ _), by omega, fun b hb => ?_⟩
  rcases h6 b hb with z | z
  · exact .inl (by omega)
  · exact .inr (by omega)
theorem Un.snoc' {k : Nat} {a : Int} {p : Bool} (u : Un ns n bs) (hk : k < ns.length) (a0 : 0 ≤ a) (dv : sz ns k ∣ a) (le : a + sz ns k ≤ n) (h : ∀ b ∈ bs, bEnd ns b ≤ a ∨ a + sz ns k ≤ b.1) : Un ns n (bs ++ [(a, k, p)]) := by
  refine ⟨fun b hb => ?_, List.pairwise_append.mpr ⟨u.dj, List.pairwise_singleton _ _, fun b hb c hc => ?_⟩⟩
  · rcases List.mem_append.mp hb with e | e
    · exact u.ok b e
    · rw [List.mem_singleton.mp e]
      exact ⟨hk, a0, dv, le⟩
  · rw [List.mem_singleton.mp hc]
    rcases h b hb with z | z
    · exact .inl z
    · exact .inr z
end
/-! the count -/
theorem cnt_seg (u v : Nat) : ∀ N, (List.range N).countP (fun i => decide (u ≤ i) && decide (i < v)) = min N v - min N u
  | 0 => by simp
  | N + 1 => by
    rw [List.range_succ, List.countP_append, cnt_seg u v N, List.countP_singleton]
    by_cases h1 : u ≤ N <;> by_cases h2 : N < v <;> simp [h1, h2] <;> omega
theorem cnt_or {α : Type} {p q : α → Bool} : ∀ {l : List α}, (∀ i ∈ l, ¬ (p i = true ∧ q i = true)) → l.countP (fun i => p i || q i) = l.countP p + l.countP q
  | [], _ => rfl
  | x :: l, h => by
    have ih := cnt_or (l := l) (p := p) (q := q) fun i hi => h i (List.mem_cons_of_mem _ hi)
    have hx := h x List.mem_cons_self
    rw [List.countP_cons, List.countP_cons, List.countP_cons, ih]
    cases hp : p x <;> cases hq : q x
    · simp
    · simp; omega
    · simp; omega
    · exact absurd ⟨hp, hq⟩ hx
def insd (ns : List Int) (s : Int) (c : Blk) (i : Nat) : Bool := decide (c.1 ≤ i * s) && decide (i * s + s ≤ bEnd ns c)
section
variable {ns : List Int} {n : Int} {l : Nat}
theorem seg_of (g : Good ns) {c : Blk} (hc : c.2.1 < ns.length) (lc : l ≤ c.2.1) (c0 : 0 ≤ c.1) (dv : sz ns c.2.1 ∣ c.1) : ∃ u : Nat, c.1 = sz ns l * u ∧ sz ns c.2.1 = sz ns l * ((sz ns c.2.1 / sz ns l).toNat : Nat) ∧
    ∀ i : Nat, insd ns (sz ns l) c i = (decide (u ≤ i) && decide (i < u + (sz ns c.2.1 / sz ns l).toNat)) := by
  have ch := chain g
  have p := ch.pos l (by omega)
  have pc := ch.pos _ hc
  have d1 := ch.dvd lc hc
  have d2 := Int.dvd_trans d1 dv
  have e1 : sz ns l * (c.1 / sz ns l) = c.1 := Int.mul_ediv_cancel' d2
  have e2 : sz ns l * (sz ns c.2.1 / sz ns l) = sz ns c.2.1 := Int.mul_ediv_cancel' d1
  have q1 : 0 ≤ c.1 / sz ns l := Int.ediv_nonneg c0 (by omega)
  have q2 : 0 ≤ sz ns c.2.1 / sz ns l := Int.ediv_nonneg (by omega) (by omega)
  obtain ⟨u, hu⟩ : ∃ u : Nat, c.1 / sz ns l = u := ⟨(c.1 / sz ns l).toNat, by omega⟩
  obtain ⟨w, hw⟩ : ∃ w : Nat, sz ns c.2.1 / sz ns l = w := ⟨(sz ns c.2.1 / sz ns l).toNat, by omega⟩
  rw [hu] at e1
  rw [hw] at e2
  rw [hw, Int.toNat_natCast]
  refine ⟨u, e1.symm, e2.symm, fun i => ?_⟩
  unfold insd bEnd
  rw [← e1, ← e2]
  congr 1
  · refine decide_eq_decide.mpr ?_
    rw [Int.mul_comm (i : Int)]
    have : sz ns l * (u : Int) ≤ sz ns l * (i : Int) ↔ (u : Int) ≤ (i : Int) := Int.mul_le_mul_left (by omega)
    omega
  · refine decide_eq_decide.mpr ?_
    have : sz ns l * ((i : Int) + 1) ≤ sz ns l * ((u : Int) + w) ↔ (i : Int) + 1 ≤ (u : Int) + w := Int.mul_le_mul_left (by omega)
    rw [Int.mul_add, Int.mul_add, Int.mul_one] at this
    rw [Int.mul_comm (i : Int)]
    omega
theorem cnt_one (g : Good ns) {c : Blk} {N : Nat} (hc : c.2.1 < ns.length) (lc : l ≤ c.2.1) (c0 : 0 ≤ c.1) (dv : sz ns c.2.1 ∣ c.1) (le : bEnd ns c ≤ n) (hN : (N : Int) = n / sz ns l) :
    (List.range N).countP (insd ns (sz ns l) c) = (sz ns c.2.1 / sz ns l).toNat := by
  have p := (chain g).pos l (by omega)
  obtain ⟨u, e1, e2, h⟩ := seg_of g hc lc c0 dv
  rw [funext h, cnt_seg]
  have : (u : Int) + (sz ns c.2.1 / sz ns l).toNat ≤ n / sz ns l := by
    refine (Int.le_ediv_iff_mul_le (by omega)).mpr ?_
    unfold bEnd at le
    rw [Int.add_mul, Int.mul_comm (u : Int), Int.mul_comm (((sz ns c.2.1 / sz ns l).toNat : Nat) : Int), ← e1, ← e2]
    exact le
  omega
theorem cnt_all (g : Good ns) {N : Nat} (hN : (N : Int) = n / sz ns l) : ∀ {B : List Blk}, Un ns n B → (∀ c ∈ B, l ≤ c.2.1) → (List.range N).countP (fun i => B.any fun c => insd ns (sz ns l) c i) = ((B.map fun c => (sz ns c.2.1 / sz ns l).toNat)).sum
  | [], _, _ => by
    induction N with
    | zero => rfl
    | succ N ih => simp
  | c :: B, u, h => by
    have hp := List.pairwise_cons.mp u.dj
    have uB : Un ns n B := ⟨fun b hb => u.ok b (List.mem_cons_of_mem _ hb), hp.2⟩
    have ih := cnt_all g hN uB fun b hb => h b (List.mem_cons_of_mem _ hb)
    have o := u.ok c List.mem_cons_self
    rw [List.map_cons, List.sum_cons, ← ih, ← cnt_one g o.1 (h c List.mem_cons_self) o.2.1 o.2.2.1 o.2.2.2 hN]
    refine cnt_or fun i _ ⟨h1, h2⟩ => ?_
    obtain ⟨b, hb, h2⟩ := List.any_eq_true.mp h2
    unfold insd at h1 h2
    rw [Bool.and_eq_true, decide_eq_true_eq, decide_eq_true_eq] at h1 h2
    have p := (chain g).pos l (by have := h c List.mem_cons_self; omega)
    rcases hp.1 b hb with z | z <;> omega
theorem cnt_mono {α : Type} {p q : α → Bool} : ∀ {l : List α}, (∀ i ∈ l, p i = true → q i = true) → l.countP p ≤ l.countP q
  | [], _ => Nat.le_refl _
  | x :: l, h => by
    have ih := cnt_mono (l := l) (p := p) (q := q) fun i hi => h i (List.mem_cons_of_mem _ hi)
    have hx := h x List.mem_cons_self
    rw [List.countP_cons, List.countP_cons]
    cases hp : p x <;> cases hq : q x
    · simpa using ih
    · simp; omega
    · rw [hx hp] at hq; cases hq
    · simp; omega
/-- there is a free region for the next block, if the ones ahead of it were at least as large -/
theorem place_ex (g : Good ns) {K L0 Pl : List Blk} {b : Blk} (u1 : Un ns n (K ++ (L0 ++ [b]))) (u2 : Un ns n (K ++ Pl)) (lv : Pl.map (fun c => c.2.1) = L0.map fun c => c.2.1) (big : ∀ c ∈ L0, b.2.1 ≤ c.2.1) :
    ∃ x : Int, 0 ≤ x ∧ sz ns b.2.1 ∣ x ∧ x + sz ns b.2.1 ≤ n ∧ ∀ c ∈ K ++ Pl, bEnd ns c ≤ x ∨ x + sz ns b.2.1 ≤ c.1 := by
  have ob := u1.ok b (by simp)
  have ch := chain g
  have p := ch.pos _ ob.1
  have uL : Un ns n (L0 ++ [b]) := ⟨fun c hc => u1.ok c (List.mem_append_right _ hc), (List.pairwise_append.mp u1.dj).2.1⟩
  have uP : Un ns n Pl := ⟨fun c hc => u2.ok c (List.mem_append_right _ hc), (List.pairwise_append.mp u2.dj).2.1⟩
  have n0 : 0 ≤ n := by
    have := ob.2.2.2
    unfold bEnd at this
    omega
  obtain ⟨N, hN⟩ : ∃ N : Nat, (N : Int) = n / sz ns b.2.1 := ⟨(n / sz ns b.2.1).toNat, by have := Int.ediv_nonneg n0 (show 0 ≤ sz ns b.2.1 by omega); omega⟩
  have bigP : ∀ c ∈ Pl, b.2.1 ≤ c.2.1 := fun c hc => by
    have : c.2.1 ∈ Pl.map fun c => c.2.1 := List.mem_map.mpr ⟨c, hc, rfl⟩
    rw [lv] at this
    obtain ⟨d, hd, e⟩ := List.mem_map.mp this
    have := big d hd
    omega
  have c1 := cnt_all (l := b.2.1) g hN uL fun c hc => by
    rcases List.mem_append.mp hc with z | z
    · exact big c z
    · rw [List.mem_singleton.mp z]
      exact Nat.le_refl _
  have c2 := cnt_all (l := b.2.1) g hN uP bigP
  have e1 : Pl.map (fun c => (sz ns c.2.1 / sz ns b.2.1).toNat) = L0.map fun c => (sz ns c.2.1 / sz ns b.2.1).toNat := by
    have := congrArg (List.map fun k => (sz ns k / sz ns b.2.1).toNat) lv
    rw [List.map_map, List.map_map] at this
    exact this
  have e2 : (sz ns b.2.1 / sz ns b.2.1).toNat = 1 := by
    rw [Int.ediv_self (by omega)]
    rfl
  rw [List.map_append, List.sum_append, List.map_singleton, List.sum_singleton, e2, ← e1, ← c2] at c1
  obtain ⟨i, hi, h1, h2⟩ : ∃ i ∈ List.range N, ((L0 ++ [b]).any fun c => insd ns (sz ns b.2.1) c i) = true ∧ ¬ (Pl.any fun c => insd ns (sz ns b.2.1) c i) = true := by
    refine Classical.byContradiction fun no => ?_
    have := cnt_mono (l := List.range N) (p := fun i => (L0 ++ [b]).any fun c => insd ns (sz ns b.2.1) c i) (q := fun i => Pl.any fun c => insd ns (sz ns b.2.1) c i) fun i hi h => Classical.byContradiction fun z => no ⟨i, hi, h, z⟩
    omega
  obtain ⟨d, hd, hin⟩ := List.any_eq_true.mp h1
  unfold insd at hin
  rw [Bool.and_eq_true, decide_eq_true_eq, decide_eq_true_eq] at hin
  have od := uL.ok d hd
  refine ⟨i * sz ns b.2.1, Int.mul_nonneg (by omega) (by omega), Int.dvd_mul_left _ _, by omega, fun c hc => ?_⟩
  rcases List.mem_append.mp hc with z | z
  · have := (List.pairwise_append.mp u1.dj).2.2 c z d hd
    rcases this with k | k
    · exact .inl (by omega)
    · exact .inr (by omega)
  · have oc := uP.ok c z
    obtain ⟨u, f1, f2, f3⟩ := seg_of (l := b.2.1) g oc.1 (bigP c z) oc.2.1 oc.2.2.1
    have no : insd ns (sz ns b.2.1) c i = false := by
      cases e : insd ns (sz ns b.2.1) c i with
      | false => rfl
      | true => exact absurd (List.any_eq_true.mpr ⟨c, z, e⟩) h2
    rw [f3] at no
    generalize (sz ns c.2.1 / sz ns b.2.1).toNat = w at *
    have bc : bEnd ns c = sz ns b.2.1 * (u : Int) + sz ns b.2.1 * (w : Int) := by
      unfold bEnd
      rw [f1, f2]
    rcases Nat.lt_or_ge i u with k | k
    · refine .inr ?_
      have : sz ns b.2.1 * ((i : Int) + 1) ≤ sz ns b.2.1 * (u : Int) := Int.mul_le_mul_of_nonneg_left (by omega) (by omega)
      rw [Int.mul_add, Int.mul_one] at this
      rw [Int.mul_comm (i : Int), f1]
      exact this
    · refine .inl ?_
      have k2 : u + w ≤ i := by
        rcases Nat.lt_or_ge i (u + w) with q | q
        · rw [decide_eq_true k, decide_eq_true q] at no
          cases no
        · exact q
      have : sz ns b.2.1 * ((u : Int) + w) ≤ sz ns b.2.1 * (i : Int) := Int.mul_le_mul_of_nonneg_left (by omega) (by omega)
      rw [Int.mul_add] at this
      rw [bc, Int.mul_comm (i : Int)]
      exact this
end
end K34

set_option Elab.async false
set_option linter.all false
set_option maxRecDepth 100000
set_option maxHeartbeats 4000000
set_option pp.maxSteps 900
namespace K34
open PySem PySem.Spec PyProof.Rows L2 Gu Ex
def runV (t : M16.Run) : List V := [.int (t.1 : Nat), .int t.2.1, .int t.2.2]
section
variable {P : Program} {w : World} {K : PySem.W.Frag} {mg : Str → Option Value} {base : Heap} {f : Addr} {fd : FuncData}
def fitB (ns : List Int) (a hi : Int) (k : Nat) : Bool := decide (a % sz ns k = 0) && decide (a + sz ns k ≤ hi)
def spRunsL : Sp := fun vs H Q _ => ∃ (s : Addr) (ns : List Int) (lo hi : Int), vs = [.ref s, .int lo, .int hi] ∧ H s = some (.lst (ns.map V.int)) ∧ Good ns ∧ 0 ≤ lo ∧ lo ≤ hi ∧ hi ≤ 1000000000000 ∧
  ∀ L ps H', H L = none → Same H H' → H' L = some (.lst (ps.map V.ref)) → Refs runV H' ps (M16.R (sz ns) ns.length hi lo) → Q (.ref L) H'
theorem lv_is {ns : List Int} (g : Good ns) {a hi : Int} (h : a < hi) {m : Int} (h1 : m ∈ ((List.range ns.length).filter (fitB ns a hi)).map fun k : Nat => (k : Int)) (h2 : ∀ y ∈ ((List.range ns.length).filter (fitB ns a hi)).map fun k : Nat => (k : Int), y ≤ m) : m = (M16.L (sz ns) ns.length hi a : Nat) := by
  have c := chain g
  obtain ⟨k, hk, rfl⟩ := List.mem_map.mp h1
  obtain ⟨k1, k2⟩ := List.mem_filter.mp hk
  have k1 := List.mem_range.mp k1
  unfold fitB at k2
  rw [Bool.and_eq_true, decide_eq_true_eq, decide_eq_true_eq] at k2
  have e1 : k ≤ M16.L (sz ns) ns.length hi a := Classical.byContradiction fun z => M16.L_max c (a := a) (hi := hi) k1 (by omega) k2
  have e2 := h2 (M16.L (sz ns) ns.length hi a : Nat) (List.mem_map.mpr ⟨_, List.mem_filter.mpr ⟨List.mem_range.mpr (M16.L_lt c), by
    have := M16.L_lies c h
    unfold fitB
    rw [decide_eq_true this.1, decide_eq_true this.2]
    rfl⟩, rfl⟩)
  omega
theorem up_nx {z a : Int} (hz : 1 ≤ z) : (a + z - 1) / z * z = M16.nx z a := by
  have h1 := M16.nx_dvd z a
  have h2 := M16.nx_ge a hz
  have h3 := M16.nx_lt a hz
  have e : (a + z - 1) / z * z = (a + z - 1) - (a + z - 1) % z := by
    have := Int.mul_ediv_add_emod (a + z - 1) z
    rw [Int.mul_comm] at this
    omega
  have d : z ∣ (a + z - 1) / z * z := Int.dvd_mul_left _ _
  have m0 := Int.emod_nonneg (a + z - 1) (show z ≠ 0 by omega)
  have m1 := Int.emod_lt_of_pos (a + z - 1) (show 0 < z by omega)
  rw [e] at d ⊢
  have le : M16.nx z a ≤ (a + z - 1) - (a + z - 1) % z := M16.nx_least hz d (by omega)
  rcases Int.lt_or_eq_of_le le with k | k
  · have := M16.gap h1 d k
    omega
  · exact k.symm
theorem many2 {s : Nat → Int} {m : Nat} {hi a : Int} (c : M16.Ch s m) (h : a < hi) (c2 : ¬ (M16.L s m hi a + 1 < m ∧ M16.nx (s (M16.L s m hi a + 1)) a + s (M16.L s m hi a + 1) ≤ hi)) : (hi - a) / s (M16.L s m hi a) = (M16.en s m hi a - a) / s (M16.L s m hi a) := by
  rw [M16.en2 c2]
  have z := c.pos _ (M16.L_lt (s := s) (hi := hi) (a := a) c)
  obtain ⟨k, hk⟩ := M16.dvd0 (M16.L_lies c h).1
  generalize s (M16.L s m hi a) = z1 at *
  have e : (hi - hi % z1 - a) = z1 * (hi / z1 - k) := by
    have := Int.mul_ediv_add_emod hi z1
    rw [Int.mul_sub, ← hk]
    omega
  have e2 : hi - a = hi + z1 * (-k) := by rw [Int.mul_neg, ← hk]; omega
  rw [e, Int.mul_ediv_cancel_left _ (by omega), e2, Int.add_mul_ediv_left _ _ (by omega)]
  omega
theorem ints_refs (ns : List Int) (ps : List Addr) {x : Prop} (g : Good ns) (h : some (HO.lst (ps.map V.ref)) = some (.lst (ns.map V.int))) : x := by
  have h0 := g.one
  cases ns with
  | nil => cases h0
  | cons n r =>
    cases ps with
    | nil => cases h
    | cons p ps => cases h
theorem sc__law_runs : FnScope ["_law_sizes_here", "_law_low", "_law_high", "_law_result", "_law_at", "_law_level", "_law_many", "_law_large", "_law_up", "_law_k"] ["_law_sizes_here", "_law_low", "_law_high"] (defScope (top 47)) := ⟨rfl, rfl, rfl, by decide +kernel, rfl, by decide +kernel, by decide +kernel⟩
theorem ok_runs (T : Tx K mg) (F : FnP K "_law_runs" "_law_runs" (top 47) f fd) : FnOk P w K mg base CX0 1 f fd ["_law_sizes_here", "_law_low", "_law_high"] spRunsL := by
  refine F.ok sc__law_runs (fun vs H Q E h => ?_) (fun cdv A outer s H vs Q E hr h => ⟨_, PSs.nox (pss_cons (ps_asg (pe_tup (pa_cons (pe_lst pa_nil) (pa_cons (pv 1) pa_nil))) (pg_tup (by rfl) (pgs_cons (pg_name (i := 3) sc__law_runs.nd rfl (by first | exact Or.inl rfl | exact Or.inr rfl)) (pgs_cons (pg_name (i := 4) sc__law_runs.nd rfl (by first | exact Or.inl rfl | exact Or.inr rfl)) pgs_nil)))) (pss_cons (ps_while PassesOwn.never (pt_cmpR op_lt (pv 4) (pv 2) (nomark _)) (pss_cons (ps_set (i := 5) sc__law_runs.nd rfl (by first | exact Or.inl rfl | exact Or.inr rfl) (pe_callB (cr_max rfl) (by rfl) T.n_max (by decide +kernel) (pa_cons (pe_lc (own := [("_law_k", 9)]) (g := gName 9) rfl sc__law_runs.nd (pi_range1 rfl T.n_range (pa_cons (pe_callB call_len_seq (by rfl) T.n_len (by decide +kernel) (pa_cons (pv 0) pa_nil)) pa_nil)) (blkOk_by (own := [("_law_k", 9)]) (N := ["_law_sizes_here", "_law_low", "_law_high", "_law_result", "_law_at", "_law_level", "_law_many", "_law_large", "_law_up", "_law_k"]) (sc := defScope (top 47)) (by decide +kernel)) (fun _ _ _ _ _ => pg_name (i := 9) sc__law_runs.nd rfl (Or.inl rfl)) (fun _ _ _ _ _ => (pts_one (PW.pt (pw_and (pt_cmpR op_eq (pe_op op_mod (pv 4) (pe_ix (r := rIxL K) ix_list (pv 0) (pv 9) (fun _ _ => rfl))) pe_int (nomark _)) (pw_and1 (pt_cmpR op_le (pe_op op_add (pv 4) (pe_ix (r := rIxL K) ix_list (pv 0) (pv 9) (fun _ _ => rfl))) (pv 2) (nomark _))))))) (fun _ _ _ _ _ => (pv 9))) pa_nil))) (pss_cons (ps_set (i := 6) sc__law_runs.nd rfl (by first | exact Or.inl rfl | exact Or.inr rfl) (pe_op op_fdivW (pe_op op_sub (pv 2) (pv 4)) (pe_ix ix_list (pv 0) (pv 5) (fun _ _ => rfl)))) (pss_cons (ps_if (pt_cmpR op_lt (pe_op op_add (pv 5) pe_int) (pe_callB call_len_seq (by rfl) T.n_len (by decide +kernel) (pa_cons (pv 0) pa_nil)) (nomark _)) (pss_cons (ps_set (i := 7) sc__law_runs.nd rfl (by first | exact Or.inl rfl | exact Or.inr rfl) (pe_ix ix_list (pv 0) (pe_op op_add (pv 5) pe_int) (fun _ _ => rfl))) (pss_cons (ps_set (i := 8) sc__law_runs.nd rfl (by first | exact Or.inl rfl | exact Or.inr rfl) (pe_op op_mul (pe_op op_fdivW (pe_op op_sub (pe_op op_add (pv 4) (pv 7)) pe_int) (pv 7)) (pv 7))) (pss_one (ps_if (pt_cmpR op_le (pe_op op_add (pv 8) (pv 7)) (pv 2) (nomark _)) (pss_one (ps_set (i := 6) sc__law_runs.nd rfl (by first | exact Or.inl rfl | exact Or.inr rfl) (pe_op op_fdivW (pe_op op_sub (pv 8) (pv 4)) (pe_ix ix_list (pv 0) (pv 5) (fun _ _ => rfl))))) pss_nil)))) pss_nil) (pss_cons (ps_expr (pe_bm PySem.F.plainAttrs_list PySem.F.slot_list_append PySem.F.type_list_append mt_append (pv 3) (pa_cons (pe_tup (pa_cons (pv 5) (pa_cons (pv 4) (pa_cons (pv 6) pa_nil)))) pa_nil))) (pss_one (ps_set (i := 4) sc__law_runs.nd rfl (by first | exact Or.inl rfl | exact Or.inr rfl) (pe_op op_add (pv 4) (pe_op op_mul (pv 6) (pe_ix ix_list (pv 0) (pv 5) (fun _ _ => rfl))))))))))) (pss_one (ps_ret (pv 3))))), ?_⟩)
  · obtain ⟨s, ns, lo, hi, rfl, _⟩ := h
    rfl
  · obtain ⟨s, ns, lo, hi, rfl, hs, g, lo0, le, hi9, q⟩ := h
    have c := chain g
    have sl : sizeLine = 16777216 := sizeLine_eq
    have g8 := g.len
    refine ⟨(by show 0 ≤ sizeLine; decide), fun L hL => ⟨_, rfl, (by show 2 ≤ sizeLine; decide), fun t ht => ?_⟩⟩
    refine ⟨t, _, rfl, .inl (.inl upd_same), rfl, _, _, rfl, _, _, rfl, rfl, ?_⟩
    have s0 := (same_upd (o := .lst []) hL).trans (same_upd (o := .tup [.ref L, .int lo]) ht)
    have hL0 : (upd (upd H L (.lst [])) t (.tup [.ref L, .int lo])) L = some (.lst (([] : List Addr).map V.ref)) := same_upd (o := .tup [.ref L, .int lo]) ht _ _ upd_same
    generalize upd (upd H L (.lst [])) t (.tup [.ref L, .int lo]) = H0 at s0 hL0
    refine ⟨fun m σ G => ∃ (a : Int) (ps : List Addr) (done : List M16.Run) (x5 x6 x7 x8 : Option V), m = (hi - a).toNat ∧ σ = [some (.ref s), some (.int lo), some (.int hi), some (.ref L), some (.int a), x5, x6, x7, x8, none] ∧ Same H G ∧ G L = some (.lst (ps.map V.ref)) ∧ Refs runV G ps done ∧ M16.Mid (sz ns) ns.length hi lo a done,
      ⟨_, lo, [], [], none, none, none, none, rfl, rfl, s0, hL0, .nil, M16.mid0 c le⟩, ?_⟩
    rintro m σ G ⟨a, ps, done, x5, x6, x7, x8, rfl, rfl, sm, hG, rf, M⟩
    refine ⟨_, rfl, _, rfl, _, _, rfl, rfl, _, rfl, ?_⟩
    by_cases hc : a < hi
    case neg =>
      refine ifF (decide_eq_false hc) ⟨_, rfl, q L ps G hL sm hG ?_⟩
      have e := M.eq
      rw [M16.R_end hc, List.append_nil] at e
      rw [e]
      exact rf
    refine ifT (decide_eq_true hc) ?_
    have la := M.lo_le
    have short : done.length ≤ 16 := by
      have l := M16.R_short (s := sz ns) (a := lo) (hi := hi) c g.len.2
      have l2 := congrArg List.length M.eq
      rw [List.length_append] at l2
      omega
    refine ⟨fun σ' G' => ∃ (ps : List Addr) (done : List M16.Run) (x5 x6 x7 x8 : Option V), σ' = [some (.ref s), some (.int lo), some (.int hi), some (.ref L), some (.int (M16.en (sz ns) ns.length hi a)), x5, x6, x7, x8, none] ∧ Same H G' ∧ G' L = some (.lst (ps.map V.ref)) ∧ Refs runV G' ps done ∧ M16.Mid (sz ns) ns.length hi lo (M16.en (sz ns) ns.length hi a) done,
      fun σ' G' ⟨ps, done, x5, x6, x7, x8, r⟩ => ⟨_, (by have gg : a < M16.en (sz ns) ns.length hi a := M16.en_gt c hc; show (hi - M16.en (sz ns) ns.length hi a).toNat < _; omega), M16.en (sz ns) ns.length hi a, ps, done, x5, x6, x7, x8, rfl, r⟩, ?_⟩
    have hsG := sm _ _ hs
    refine ⟨_, rfl, s, _, rfl, .inl (SqL.of hsG), _, rfl, (by omega), (by rw [List.length_map]; omega), fun D hD => ?_⟩
    refine lc_range (fun i G' => G' D = some (.lst ((((List.range i).filter (fitB ns a hi)).map fun k : Nat => (k : Int)).map V.int)) ∧ Same G G') ⟨upd_same, same_upd hD⟩ ?_ ?_
    · rintro i G1 hi2 ⟨hD1, s1⟩
      rw [List.length_map] at hi2
      have ik : i < ns.length := by omega
      have z1 := c.pos i ik
      have fl := List.length_filter_le (fitB ns a hi) (List.range i)
      rw [List.length_range] at fl
      refine ⟨rfl, _, rfl, _, rfl, _, rfl, s, _, _, _, rfl, rfl, SqL.of (s1 _ _ hsG), (by rw [Int.zero_add]; exact at_sz ik), _, _, rfl, rfl, (by show 0 < sz ns i; omega), rfl, _, rfl, ?_⟩
      have tk : (List.range (i + 1)).filter (fitB ns a hi) = (List.range i).filter (fitB ns a hi) ++ (if fitB ns a hi i then [i] else []) := by
        rw [List.range_succ, List.filter_append]
        cases e : fitB ns a hi i <;> simp [e]
      have no : fitB ns a hi i = false → G1 D = some (.lst ((((List.range (i + 1)).filter (fitB ns a hi)).map fun k : Nat => (k : Int)).map V.int)) ∧ Same G G1 := fun e => by
        rw [tk, e]
        refine ⟨?_, s1⟩
        simpa using hD1
      by_cases h1 : a % sz ns i = 0
      · refine ifT (vT h1) ?_
        refine ⟨_, rfl, _, rfl, _, rfl, s, _, _, _, rfl, rfl, SqL.of (s1 _ _ hsG), (by rw [Int.zero_add]; exact at_sz ik), _, _, rfl, rfl, _, rfl, _, _, rfl, rfl, _, rfl, ?_⟩
        by_cases h2 : a + sz ns i ≤ hi
        · have fit : fitB ns a hi i = true := by unfold fitB; rw [decide_eq_true h1, decide_eq_true h2]; rfl
          refine ifT (decide_eq_true h2) ⟨_, rfl, _, hD1, (by rw [List.length_map, List.length_map]; omega), ?_, fun c o e => ?_⟩
          · rw [upd_same, tk, fit, Int.zero_add]
            simp
          · rw [upd_ne (ne_of_none e hD)]
            exact s1 c o e
        · exact ifF (decide_eq_false h2) (no (by unfold fitB; rw [decide_eq_false h2, Bool.and_false]))
      · exact ifF (vF h1) (iteF (no (by unfold fitB; rw [decide_eq_false h1]; rfl)))
    · rintro G1 ⟨hD1, s1⟩
      rw [List.length_map, Int.toNat_natCast] at hD1
      refine ⟨D, _, rfl, SqL.of hD1, ?_, fun m m1 m2 => ?_⟩
      · refine List.length_pos_iff.mpr fun z => ?_
        have : M16.L (sz ns) ns.length hi a ∈ (List.range ns.length).filter (fitB ns a hi) := List.mem_filter.mpr ⟨List.mem_range.mpr (M16.L_lt c), by
          have := M16.L_lies c hc
          unfold fitB
          rw [decide_eq_true this.1, decide_eq_true this.2]
          rfl⟩
        rw [List.map_eq_nil_iff.mp z] at this
        cases this
      · obtain rfl := lv_is g hc m1 m2
        have lm : M16.L (sz ns) ns.length hi a < ns.length := M16.L_lt c
        have zL := c.pos _ lm
        have zL9 := sz_le g lm
        have sm1 := sm.trans s1
        have hs1 := sm1 _ _ hs
        refine ⟨_, rfl, _, rfl, _, _, rfl, rfl, _, rfl, _, rfl, s, _, _, _, rfl, rfl, SqL.of hs1, at_sz lm, _, _, rfl, rfl, div_ok zL zL9, ?_⟩
        refine ⟨_, rfl, _, _, rfl, rfl, _, rfl, s, _, rfl, .inl (SqL.of hs1), _, _, rfl, rfl, _, rfl, ?_⟩
        by_cases c1 : M16.L (sz ns) ns.length hi a + 1 < ns.length
        · have zU := c.pos _ c1
          have zU9 := sz_le g c1
          have un := up_nx (a := a) zU
          refine ifT (decide_eq_true (by rw [List.length_map]; omega)) ?_
          refine ⟨_, rfl, _, rfl, _, _, rfl, rfl, s, _, _, _, rfl, rfl, SqL.of hs1, (show atI (ns.map V.int) ((M16.L (sz ns) ns.length hi a : Nat) + 1) = some (.int (sz ns (M16.L (sz ns) ns.length hi a + 1))) from at_sz c1), ?_⟩
          refine ⟨_, rfl, _, rfl, _, _, rfl, rfl, _, _, rfl, rfl, _, rfl, _, _, rfl, rfl, div_ok zU zU9, _, rfl, _, _, rfl, rfl, .inr ⟨by omega, by omega⟩, ?_⟩
          refine ⟨_, rfl, _, rfl, _, _, rfl, rfl, _, rfl, _, _, rfl, rfl, _, rfl, ?_⟩
          by_cases c2 : (a + sz ns (M16.L (sz ns) ns.length hi a + 1) - 1) / sz ns (M16.L (sz ns) ns.length hi a + 1) * sz ns (M16.L (sz ns) ns.length hi a + 1) + sz ns (M16.L (sz ns) ns.length hi a + 1) ≤ hi
          · refine ifT (decide_eq_true c2) ?_
            rw [un] at c2
            have em := M16.en1 (s := sz ns) (m := ns.length) (hi := hi) (a := a) ⟨c1, c2⟩
            rw [← un] at em
            have em := congrArg (fun x => (x - a) / sz ns (M16.L (sz ns) ns.length hi a)) em.symm
            refine ⟨_, rfl, _, rfl, _, _, rfl, rfl, _, rfl, _, rfl, s, _, _, _, rfl, rfl, SqL.of hs1, at_sz lm, _, _, rfl, rfl, div_ok zL zL9, ?_⟩
            have m1 := M16.run_one c hc
            have mc := M16.run_cells c hc
            have eg := M16.en_gt c hc
            have el := M16.en_le (s := sz ns) (m := ns.length) (hi := hi) (a := a) c
            have hG1 := s1 _ _ hG
            refine ⟨_, rfl, .inl ⟨rfl, _, SqL.of hG1⟩, _, rfl, _, rfl, _, rfl, (by show 3 ≤ sizeLine; decide), fun u hu => ?_⟩
            have nL : L ≠ u := ne_of_none hG1 hu
            have rl := rf.len
            refine ⟨L, _, _, rfl, rfl, (by rw [upd_ne nL]; exact hG1), (by rw [List.length_map]; omega), ?_⟩
            refine ⟨_, rfl, _, rfl, _, rfl, _, rfl, s, _, _, _, rfl, rfl, SqL.of (by rw [upd_ne (fun z => by rw [z, hG1] at hs1; exact ints_refs ns ps g hs1), upd_ne (ne_of_none hs1 hu)]; exact hs1), at_sz lm, _, _, rfl, rfl, .inr ⟨by omega, by omega⟩, _, _, rfl, rfl, ?_⟩
            refine ⟨ps ++ [u], done ++ [M16.run (sz ns) ns.length hi a], ?x5a, ?x6a, ?x7a, ?x8a, ?e1, fun c o e => ?e2, ?e3, ?e4, M.next c hc⟩
            case e1 =>
              dsimp only
              rw [em, mc, show a + (M16.en (sz ns) ns.length hi a - a) = M16.en (sz ns) ns.length hi a by omega]
              rfl
            case e2 =>
              rw [upd_ne (ne_of_none e hL), upd_ne (ne_of_none (sm1 _ _ e) hu)]
              exact sm1 _ _ e
            case e3 =>
              rw [upd_same, List.map_append]
              rfl
            case e4 =>
              dsimp only
              rw [em]
              refine Refs.more (u := M16.run (sz ns) ns.length hi a) (rf.same s1) hG1 hu
          · refine ifF (decide_eq_false c2) ?_
            rw [un] at c2
            have em := many2 c hc fun z => c2 z.2
            have m1 := M16.run_one c hc
            have mc := M16.run_cells c hc
            have eg := M16.en_gt c hc
            have el := M16.en_le (s := sz ns) (m := ns.length) (hi := hi) (a := a) c
            have hG1 := s1 _ _ hG
            refine ⟨_, rfl, .inl ⟨rfl, _, SqL.of hG1⟩, _, rfl, _, rfl, _, rfl, (by show 3 ≤ sizeLine; decide), fun u hu => ?_⟩
            have nL : L ≠ u := ne_of_none hG1 hu
            have rl := rf.len
            refine ⟨L, _, _, rfl, rfl, (by rw [upd_ne nL]; exact hG1), (by rw [List.length_map]; omega), ?_⟩
            refine ⟨_, rfl, _, rfl, _, rfl, _, rfl, s, _, _, _, rfl, rfl, SqL.of (by rw [upd_ne (fun z => by rw [z, hG1] at hs1; exact ints_refs ns ps g hs1), upd_ne (ne_of_none hs1 hu)]; exact hs1), at_sz lm, _, _, rfl, rfl, .inr ⟨by omega, by omega⟩, _, _, rfl, rfl, ?_⟩
            refine ⟨ps ++ [u], done ++ [M16.run (sz ns) ns.length hi a], ?x5b, ?x6b, ?x7b, ?x8b, ?e1, fun c o e => ?e2, ?e3, ?e4, M.next c hc⟩
            case e1 =>
              dsimp only
              rw [em, mc, show a + (M16.en (sz ns) ns.length hi a - a) = M16.en (sz ns) ns.length hi a by omega]
              rfl
            case e2 =>
              rw [upd_ne (ne_of_none e hL), upd_ne (ne_of_none (sm1 _ _ e) hu)]
              exact sm1 _ _ e
            case e3 =>
              rw [upd_same, List.map_append]
              rfl
            case e4 =>
              dsimp only
              rw [em]
              refine Refs.more (u := M16.run (sz ns) ns.length hi a) (rf.same s1) hG1 hu
        · refine ifF (decide_eq_false (by rw [List.length_map]; omega)) ?_
          have em := many2 c hc fun z => c1 z.1
          have m1 := M16.run_one c hc
          have mc := M16.run_cells c hc
          have eg := M16.en_gt c hc
          have el := M16.en_le (s := sz ns) (m := ns.length) (hi := hi) (a := a) c
          have hG1 := s1 _ _ hG
          refine ⟨_, rfl, .inl ⟨rfl, _, SqL.of hG1⟩, _, rfl, _, rfl, _, rfl, (by show 3 ≤ sizeLine; decide), fun u hu => ?_⟩
          have nL : L ≠ u := ne_of_none hG1 hu
          have rl := rf.len
          refine ⟨L, _, _, rfl, rfl, (by rw [upd_ne nL]; exact hG1), (by rw [List.length_map]; omega), ?_⟩
          refine ⟨_, rfl, _, rfl, _, rfl, _, rfl, s, _, _, _, rfl, rfl, SqL.of (by rw [upd_ne (fun z => by rw [z, hG1] at hs1; exact ints_refs ns ps g hs1), upd_ne (ne_of_none hs1 hu)]; exact hs1), at_sz lm, _, _, rfl, rfl, .inr ⟨by omega, by omega⟩, _, _, rfl, rfl, ?_⟩
          refine ⟨ps ++ [u], done ++ [M16.run (sz ns) ns.length hi a], ?x5c, ?x6c, ?x7c, ?x8c, ?e1, fun c o e => ?e2, ?e3, ?e4, M.next c hc⟩
          case e1 =>
            dsimp only
            rw [em, mc, show a + (M16.en (sz ns) ns.length hi a - a) = M16.en (sz ns) ns.length hi a by omega]
            rfl
          case e2 =>
            rw [upd_ne (ne_of_none e hL), upd_ne (ne_of_none (sm1 _ _ e) hu)]
            exact sm1 _ _ e
          case e3 =>
            rw [upd_same, List.map_append]
            rfl
          case e4 =>
            dsimp only
            rw [em]
            refine Refs.more (u := M16.run (sz ns) ns.length hi a) (rf.same s1) hG1 hu
end
end K34

set_option Elab.async false
set_option linter.all false
set_option maxRecDepth 100000
set_option maxHeartbeats 4000000
set_option pp.maxSteps 900
namespace K34
open PySem PySem.Spec PyProof.Rows L2 Gu Ex
theorem filter_atG {α : Type} (c : α → Bool) {l : List α} {i : Nat} {x : α} (h : l[i]? = some x) : (l.take (i + 1)).filter c = (l.take i).filter c ++ (if c x = true then [x] else []) := by
  rw [take_snoc h, List.filter_append]
  cases e : c x <;> simp [e]
section
variable {P : Program} {w : World} {K : PySem.W.Frag} {mg : Str → Option Value} {base : Heap} {f : Addr} {fd : FuncData}
def spFrL : Sp := fun vs H Q _ => ∃ (s a : Addr) (ns : List Int) (n : Int) (qs : List Addr) (bs : List Blk), vs = [.ref s, .int n, .ref a] ∧ H s = some (.lst (ns.map V.int)) ∧ Good ns ∧ H a = some (.lst (qs.map V.ref)) ∧ Refs blkV H qs bs ∧ Un ns n bs ∧ 0 ≤ n ∧ n ≤ 1000000000000 ∧ bs.length ≤ 100 ∧
  ∀ L ps rs H', H L = none → Same H H' → H' L = some (.lst (ps.map V.ref)) → Refs runV H' ps rs → FrOk ns n bs rs → Q (.ref L) H'
theorem sc__law_free_runs : FnScope ["_law_sizes_here", "_law_length", "_law_blocks_here", "_law_result", "_law_at", "_law_address", "_law_level", "_law_is_pinned"] ["_law_sizes_here", "_law_length", "_law_blocks_here"] (defScope (top 48)) := ⟨rfl, rfl, rfl, by decide +kernel, rfl, by decide +kernel, by decide +kernel⟩
theorem ok_frl (T : Tx K mg) (D__law_runs : Df P w K mg base 1 "_law_runs" ["_law_sizes_here", "_law_low", "_law_high"] spRunsL) (F : FnP K "_law_free_runs" "_law_free_runs" (top 48) f fd) : FnOk P w K mg base CX0 2 f fd ["_law_sizes_here", "_law_length", "_law_blocks_here"] spFrL := by
  refine F.ok sc__law_free_runs (fun vs H Q E h => ?_) (fun cdv A outer s H vs Q E hr h => ⟨_, PSs.nox (pss_cons (ps_par (by rfl) sc__law_free_runs.nd (i := 3) (j := 4) rfl rfl (by decide) rfl rfl (pa_cons (pe_lst pa_nil) (pa_cons pe_int pa_nil)) (by rfl)) (pss_cons (ps_for PassesOwn.never rfl (pi_list (pe_callB cr_sortedB (by rfl) T.n_sorted (by decide +kernel) (pa_cons (pv 2) pa_nil))) (pg_tup (by rfl) (pgs_cons (pg_name (i := 5) sc__law_free_runs.nd rfl (by first | exact Or.inl rfl | exact Or.inr rfl)) (pgs_cons (pg_name (i := 6) sc__law_free_runs.nd rfl (by first | exact Or.inl rfl | exact Or.inr rfl)) (pgs_cons (pg_name (i := 7) sc__law_free_runs.nd rfl (by first | exact Or.inl rfl | exact Or.inr rfl)) pgs_nil)))) (pss_cons (ps_set (i := 3) sc__law_free_runs.nd rfl (by first | exact Or.inl rfl | exact Or.inr rfl) (pe_op op_cat (pv 3) (pcall D__law_runs hr (pa_cons (pv 0) (pa_cons (pv 4) (pa_cons (pv 5) pa_nil)))))) (pss_one (ps_set (i := 4) sc__law_free_runs.nd rfl (by first | exact Or.inl rfl | exact Or.inr rfl) (pe_op op_add (pv 5) (pe_ix ix_list (pv 0) (pv 6) (fun _ _ => rfl))))))) (pss_one (ps_ret (pe_op op_cat (pv 3) (pcall D__law_runs hr (pa_cons (pv 0) (pa_cons (pv 4) (pa_cons (pv 1) pa_nil))))))))), ?_⟩)
  · obtain ⟨s, a, ns, n, qs, bs, rfl, _⟩ := h
    rfl
  · obtain ⟨s, a, ns, n, qs, bs, rfl, hs, g, ha, rf, un, n0, n9, b100, q⟩ := h
    have sl : sizeLine = 16777216 := sizeLine_eq
    refine ⟨(by show 0 ≤ sizeLine; decide), fun L hL => ⟨_, _, rfl, ?_⟩⟩
    have s0 := same_upd (o := .lst []) hL
    have hL0 : (upd H L (.lst [])) L = some (.lst (([] : List Addr).map V.ref)) := upd_same
    have rfa := rf.same s0
    have ha0 := s0 _ _ ha
    obtain ⟨k1, k2⟩ := un.keys g rfa
    generalize upd H L (.lst []) = H0 at s0 hL0 rfa ha0 k1 k2
    refine ⟨_, rfl, a, _, keyV H0, rfl, SqL.of ha0, k1, k2, fun zs p hs' hp hpn => ?_⟩
    obtain ⟨qs', bs', rfl, rf', pm, wf⟩ := un.sorted g rfa hs' hp
    have s1 := same_upd (o := .lst (qs'.map V.ref)) hpn
    have hp1 : (upd H0 p (.lst (qs'.map V.ref))) p = some (.lst (qs'.map V.ref)) := upd_same
    have sH := s0.trans s1
    have hL1 := s1 _ _ hL0
    have rf1 := rf'.same s1
    generalize upd H0 p (.lst (qs'.map V.ref)) = H1 at s1 hp1 sH hL1 rf1
    have bl : bs'.length ≤ 100 := by rw [pm.length_eq]; exact b100
    have ql := rf1.len
    refine ⟨p, rfl, ⟨_, SqL.of hp1⟩, ?_⟩
    refine for_list (K := K) (a := p) (xs := qs'.map V.ref) (fun i σ G => ∃ (R : Addr) (at_ : Int) (ps : List Addr) (rs : List M16.Run) (x5 x6 x7 : Option V), σ = [some (.ref s), some (.int n), some (.ref a), some (.ref R), some (.int at_), x5, x6, x7] ∧ H R = none ∧ Same H G ∧ Same H1 G ∧ G R = some (.lst (ps.map V.ref)) ∧ Refs runV G ps rs ∧ FrI ns bs' i at_ rs)
      ⟨L, 0, [], [], none, none, none, rfl, hL, sH, Same.refl _, hL1, .nil, FrI.start g⟩ (fun i σ G _ ⟨_, _, _, _, _, _, _, _, _, _, sm, _⟩ => SqL.of (sm _ _ hp1)) ?_ ?_
    · rintro i v σ G hv ⟨R, at_, ps, rs, x5, x6, x7, rfl, hR, sm, sm1, hG, rfG, FI⟩
      obtain ⟨p', hp', rfl⟩ := ref_of hv
      obtain ⟨b, hb, hT⟩ := (rf1.same sm1).get hp'
      have hT' : G p' = some (.tup [.int b.1, .int (b.2.1 : Nat), .bl b.2.2]) := hT
      have il := (List.getElem?_eq_some_iff.mp hb).1
      have o := wf.ok b (List.mem_of_getElem? hb)
      have z1 := (chain g).pos _ o.1
      obtain ⟨le, FN⟩ := FI.next wf g hb
      have a0 := (FI.at0 wf g).1
      have b9 : b.1 + sz ns b.2.1 ≤ n := o.2.2.2
      have rl := rfG.len
      have rl2 := FI.len
      refine ⟨p', _, rfl, .inl (.inl hT'), rfl, _, _, rfl, _, _, rfl, _, _, rfl, rfl, ?_⟩
      refine ⟨_, rfl, _, rfl, _, rfl, _, rfl, s, ns, at_, b.1, rfl, sm _ _ hs, g, a0, le, by omega, fun L2 ps2 G2 hL2 s2 hL2' rf2 => ?_⟩
      have hG2 := s2 _ _ hG
      have r2 := rf2.len
      have r3 := M16.R_short (s := sz ns) (a := at_) (hi := b.1) (chain g) g.len.2
      refine ⟨R, L2, _, _, rfl, rfl, hG2, hL2', (by rw [List.length_map, List.length_map]; omega), fun L3 hL3 => ?_⟩
      have s3 := same_upd (o := .lst (ps.map V.ref ++ ps2.map V.ref)) hL3
      have hL3' : (upd G2 L3 (.lst (ps.map V.ref ++ ps2.map V.ref))) L3 = some (.lst ((ps ++ ps2).map V.ref)) := by rw [upd_same, List.map_append]
      have s23 := s2.trans s3
      have f3 := sm.free (s2.free hL3)
      have rfN := (rfG.same s23).app (rf2.same s3)
      generalize upd G2 L3 (.lst (ps.map V.ref ++ ps2.map V.ref)) = G3 at s3 hL3' s23 rfN
      have hs3 := (sm.trans s23) _ _ hs
      refine ⟨_, rfl, _, rfl, _, rfl, s, _, _, _, rfl, rfl, SqL.of hs3, at_sz o.1, _, _, rfl, rfl, ?_⟩
      exact ⟨L3, bEnd ns b, ps ++ ps2, _, _, _, _, rfl, f3, sm.trans s23, sm1.trans s23, hL3', rfN, FN⟩
    · rintro σ G ⟨R, at_, ps, rs, x5, x6, x7, rfl, hR, sm, sm1, hG, rfG, FI⟩
      rw [List.length_map, ql] at FI
      obtain ⟨le, FO⟩ := FI.fin wf g n0
      have a0 := (FI.at0 wf g).1
      have rl := rfG.len
      have rl2 := FI.len
      refine ⟨_, rfl, _, rfl, _, rfl, _, rfl, s, ns, at_, n, rfl, sm _ _ hs, g, a0, le, n9, fun L2 ps2 G2 hL2 s2 hL2' rf2 => ?_⟩
      have hG2 := s2 _ _ hG
      have r2 := rf2.len
      have r3 := M16.R_short (s := sz ns) (a := at_) (hi := n) (chain g) g.len.2
      refine ⟨R, L2, _, _, rfl, rfl, hG2, hL2', (by rw [List.length_map, List.length_map]; omega), fun L3 hL3 => ?_⟩
      have s3 := same_upd (o := .lst (ps.map V.ref ++ ps2.map V.ref)) hL3
      have s23 := s2.trans s3
      exact q L3 (ps ++ ps2) _ _ (sm.free (s2.free hL3)) (sm.trans s23) (by rw [upd_same, List.map_append]) ((rfG.same s23).app (rf2.same s3)) (FO.perm pm.symm)
def spPlc : Sp := fun vs H Q _ => ∃ (r s a : Addr) (ns : List Int) (n : Int) (qs : List Addr) (bs : List Blk) (k : Nat), vs = [.ref r, .ref s, .int n, .ref a, .int k] ∧ Rng H r ∧ H s = some (.lst (ns.map V.int)) ∧ s ≠ r ∧ Good ns ∧ H a = some (.lst (qs.map V.ref)) ∧ Refs blkV H qs bs ∧ Un ns n bs ∧ 0 ≤ n ∧ n ≤ 1000000000000 ∧ bs.length ≤ 60 ∧ k < ns.length ∧
  (∃ x : Int, 0 ≤ x ∧ sz ns k ∣ x ∧ x + sz ns k ≤ n ∧ ∀ c ∈ bs, bEnd ns c ≤ x ∨ x + sz ns k ≤ c.1) ∧
  ∀ (x : Int) H', 0 ≤ x → sz ns k ∣ x → x + sz ns k ≤ n → (∀ c ∈ bs, bEnd ns c ≤ x ∨ x + sz ns k ≤ c.1) → Stp r H H' → Q (.int x) H'
theorem sc__law_place : FnScope ["_law_rng_here", "_law_sizes_here", "_law_length", "_law_blocks_here", "_law_level", "_law_run"] ["_law_rng_here", "_law_sizes_here", "_law_length", "_law_blocks_here", "_law_level"] (defScope (top 49)) := ⟨rfl, rfl, rfl, by decide +kernel, rfl, by decide +kernel, by decide +kernel⟩
theorem ok_plc (T : Tx K mg) (D__law_draw : Df P w K mg base 1 "_law_draw" ["_law_rng_here", "_law_many"] spDraw) (D__law_choice : Df P w K mg base 2 "_law_choice" ["_law_rng_here", "_law_options"] spChoice) (D__law_free_runs : Df P w K mg base 2 "_law_free_runs" ["_law_sizes_here", "_law_length", "_law_blocks_here"] spFrL)
    (F : FnP K "_law_place" "_law_place" (top 49) f fd) : FnOk P w K mg base CX0 3 f fd ["_law_rng_here", "_law_sizes_here", "_law_length", "_law_blocks_here", "_law_level"] spPlc := by
  refine F.ok sc__law_place (fun vs H Q E h => ?_) (fun cdv A outer s H vs Q E hr h => ⟨_, PSs.nox (pss_cons (ps_set (i := 5) sc__law_place.nd rfl (by first | exact Or.inl rfl | exact Or.inr rfl) (pcall D__law_choice hr (pa_cons (pv 0) (pa_cons (pe_lc (own := [("_law_run", 5)]) (g := gName 5) rfl sc__law_place.nd (pi_list (pcall D__law_free_runs hr (pa_cons (pv 1) (pa_cons (pv 2) (pa_cons (pv 3) pa_nil))))) (blkOk_by (own := [("_law_run", 5)]) (N := ["_law_rng_here", "_law_sizes_here", "_law_length", "_law_blocks_here", "_law_level", "_law_run"]) (sc := defScope (top 49)) (by decide +kernel)) (fun _ _ _ _ _ => pg_name (i := 5) sc__law_place.nd rfl (Or.inl rfl)) (fun _ _ _ _ _ => (pts_one (pt_cmpR op_ge (pe_ix (r := rIxT K) ix_tup (pv 5) pe_int (fun _ _ => rfl)) (pv 4) (nomark _)))) (fun _ _ _ _ _ => (pv 5))) pa_nil)))) (pss_one (ps_ret (pe_op op_add (pe_ix ix_tup (pv 5) pe_int (fun _ _ => rfl)) (pe_op op_mul (pcall D__law_draw hr (pa_cons (pv 0) (pa_cons (pe_op op_fdivW (pe_op op_mul (pe_ix ix_tup (pv 5) pe_int (fun _ _ => rfl)) (pe_ix ix_list (pv 1) (pe_ix ix_tup (pv 5) pe_int (fun _ _ => rfl)) (fun _ _ => rfl))) (pe_ix ix_list (pv 1) (pv 4) (fun _ _ => rfl))) pa_nil))) (pe_ix ix_list (pv 1) (pv 4) (fun _ _ => rfl))))))), ?_⟩)
  · obtain ⟨r, s, a, ns, n, qs, bs, k, rfl, _⟩ := h
    rfl
  · obtain ⟨r, s, a, ns, n, qs, bs, k, rfl, hR, hs, sr, g, ha, rf, un, n0, n9, b60, hk, ⟨x0, e1, e2, e3, e4⟩, q⟩ := h
    have sl : sizeLine = 16777216 := sizeLine_eq
    have big : (10 : Int) ^ 40 = 10000000000000000000000000000000000000000 := by decide
    have zk := (chain g).pos k hk
    have zk9 := sz_le g hk
    refine ⟨_, rfl, _, rfl, _, rfl, _, rfl, s, a, ns, n, qs, bs, rfl, hs, g, ha, rf, un, n0, n9, by omega, fun L ps rs H1 hL s1 hL1 rf1 FO => ?_⟩
    have rl := rf1.len
    have fl0 := FO.len
    refine ⟨L, rfl, ⟨_, SqL.of hL1⟩, fun D hD => ?_⟩
    refine lc_list (K := K) (a := L) (xs := ps.map V.ref) (fun i G => ∃ ps', G D = some (.lst (ps'.map V.ref)) ∧ Refs runV G ps' ((rs.take i).filter fun r => decide (k ≤ r.1)) ∧ Same H1 G) ⟨[], upd_same, .nil, same_upd hD⟩ (fun i G _ ⟨_, _, _, sm⟩ => SqL.of (sm _ _ hL1)) ?_ ?_
    · rintro i x G hx ⟨ps', hG, rf', sm⟩
      obtain ⟨p, hp, rfl⟩ := ref_of hx
      obtain ⟨t, ht, hT⟩ := (rf1.same sm).get hp
      have hT' : G p = some (.tup [.int (t.1 : Nat), .int t.2.1, .int t.2.2]) := hT
      have il := (List.getElem?_eq_some_iff.mp ht).1
      have fa := filter_atG (fun r : M16.Run => decide (k ≤ r.1)) ht
      have fl := List.length_filter_le (fun r : M16.Run => decide (k ≤ r.1)) (rs.take i)
      rw [List.length_take] at fl
      have ql := rf'.len
      refine ⟨rfl, _, rfl, p, _, _, _, rfl, rfl, .inl (.inl hT'), rfl, _, rfl, _, _, rfl, rfl, _, rfl, ?_⟩
      by_cases hq : k ≤ t.1
      · rw [decide_eq_true hq] at fa
        refine ifT (decide_eq_true (by omega)) ⟨_, rfl, _, hG, (by rw [List.length_map]; omega), ps' ++ [p], by rw [upd_same, List.map_append]; rfl, ?_, fun c o e => ?_⟩
        · rw [fa]
          refine ((rf'.app (Refs.one hT)).mono fun c zs ec => ?_)
          rw [upd_ne (fun z => by rw [z, hG] at ec; cases ec)]
          exact ec
        · rw [upd_ne (ne_of_none e hD)]
          exact sm c o e
      · rw [decide_eq_false hq] at fa
        refine ifF (decide_eq_false (by omega)) ⟨ps', hG, ?_, sm⟩
        rw [fa]
        simpa using rf'
    rintro G ⟨ps', hG, rfG, sm⟩
    rw [List.length_map, rl, List.take_length] at rfG
    have gl := rfG.len
    have fl := List.length_filter_le (fun r : M16.Run => decide (k ≤ r.1)) rs
    have t1 := Stp.same hR (s1.trans sm)
    obtain ⟨r0, hr0, lr0⟩ := FO.cmp k x0 hk e2 e1 e3 e4
    have pos : 1 ≤ (rs.filter fun r : M16.Run => decide (k ≤ r.1)).length := List.length_pos_iff.mpr fun z => by
      have : r0 ∈ rs.filter fun r : M16.Run => decide (k ≤ r.1) := List.mem_filter.mpr ⟨hr0, decide_eq_true lr0⟩
      rw [z] at this
      cases this
    refine ⟨r, D, _, rfl, t1.1, hG, t1.1.lst hG, (by rw [List.length_map]; omega), (by rw [List.length_map]; omega), fun v G2 hv t2 => ?_⟩
    obtain ⟨p, hp, rfl⟩ := List.mem_map.mp hv
    obtain ⟨j, hj⟩ := List.mem_iff_getElem?.mp hp
    obtain ⟨t, ht, hT⟩ := rfG.get hj
    obtain ⟨tr, tk⟩ := List.mem_filter.mp (List.mem_of_getElem? ht)
    have tk : k ≤ t.1 := of_decide_eq_true tk
    have hT2 := t2.2 p _ (t1.1.tup hT) hT
    have hT' : G2 p = some (.tup [.int (t.1 : Nat), .int t.2.1, .int t.2.2]) := hT2
    have t12 := t1.trans t2
    have hs2 := t12.2 _ _ sr hs
    obtain ⟨f1, f2, f3, f4, f5, f6⟩ := FO.snd t tr
    have zt := (chain g).pos _ f1
    have zt9 := sz_le g f1
    have zz : sz ns k ≤ sz ns t.1 := Int.le_of_dvd (by omega) ((chain g).dvd tk f1)
    have zm : sz ns t.1 ≤ t.2.2 * sz ns t.1 := by
      have := Int.mul_le_mul_of_nonneg_right f4 (show 0 ≤ sz ns t.1 by omega)
      rw [Int.one_mul] at this
      exact this
    have dv1 : 1 ≤ t.2.2 * sz ns t.1 / sz ns k := (Int.le_ediv_iff_mul_le (by omega)).mpr (by omega)
    have dv2 : t.2.2 * sz ns t.1 / sz ns k ≤ 1000000000000 := Int.le_trans (Int.ediv_le_self _ (by omega)) (by omega)
    refine ⟨_, rfl, p, _, _, _, rfl, rfl, .inl (.inl hT'), rfl, _, rfl, _, rfl, p, _, _, _, rfl, rfl, .inl (.inl hT'), rfl, _, rfl, _, rfl, p, _, _, _, rfl, rfl, .inl (.inl hT'), rfl, s, _, _, _, rfl, rfl, SqL.of hs2, at_sz f1, _, _, rfl, rfl, .inr ⟨by omega, by omega⟩, ?_⟩
    refine ⟨_, rfl, _, rfl, s, _, _, _, rfl, rfl, SqL.of hs2, at_sz hk, _, _, rfl, rfl, div_ok zk zk9, r, _, rfl, t12.1, dv1, by omega, fun d G3 d0 d1 t3 => ?_⟩
    have t13 := t12.trans t3
    have hs3 := t13.2 _ _ sr hs
    obtain ⟨w1, w2, w3, w4⟩ := FO.spot g tr tk d0 d1
    refine ⟨_, rfl, _, rfl, s, _, _, _, rfl, rfl, SqL.of hs3, at_sz hk, _, _, rfl, rfl, .inr ⟨by omega, by omega⟩, _, _, rfl, rfl, ?_⟩
    exact q _ G3 w1 w2 w3 w4 t13
end
end K34

set_option Elab.async false
set_option linter.all false
set_option maxRecDepth 100000
set_option maxHeartbeats 4000000
/-! The law's own moves: unpinned blocks, the larger ones first, go to free regions. -/
namespace K34
open PySem PySem.Spec PyProof.Rows L2 Gu Ex
theorem refs_pm0 {α : Type} {f : α → List V} {G : Hp} {qs' qs : List Addr} (p : qs'.Perm qs) : ∀ {ts : List α}, Refs f G qs ts → ∃ ts', Refs f G qs' ts' ∧ ts'.Perm ts := by
  induction p with
  | nil => exact fun h => ⟨_, h, List.Perm.refl _⟩
  | cons x p ih =>
    intro ts h
    cases h with
    | cons e h =>
      obtain ⟨ts', h1, h2⟩ := ih h
      exact ⟨_, .cons e h1, h2.cons _⟩
  | swap x y l =>
    intro ts h
    cases h with
    | cons e h =>
      cases h with
      | cons e2 h => exact ⟨_, .cons e2 (.cons e h), List.Perm.swap _ _ _⟩
  | trans p1 p2 i1 i2 =>
    intro ts h
    obtain ⟨t2, h2, q2⟩ := i2 h
    obtain ⟨t1, h1, q1⟩ := i1 h2
    exact ⟨t1, h1, q1.trans q2⟩
theorem refs_pm {α : Type} {f : α → List V} {G : Hp} {qs : List Addr} {ts : List α} (h : Refs f G qs ts) {ys : List V} (p : ys.Perm (qs.map V.ref)) : ∃ qs' ts', ys = qs'.map V.ref ∧ Refs f G qs' ts' ∧ ts'.Perm ts := by
  obtain ⟨qs', rfl⟩ := refs_of (zs := ys) fun v hv => by
    obtain ⟨t, _, rfl⟩ := List.mem_map.mp (p.mem_iff.mp hv)
    exact ⟨t, rfl⟩
  have := p.map unR
  rw [map_unR, map_unR] at this
  obtain ⟨ts', h1, h2⟩ := refs_pm0 this h
  exact ⟨qs', ts', rfl, h1, h2⟩
def prA (G : Hp) : V → Pr
  | .ref t => match G t with
    | some (.tup [.int a, .int b]) => (a, b)
    | _ => (0, 0)
  | _ => (0, 0)
theorem prA_of {G : Hp} {t : Addr} {x : Pr} (h : G t = some (.tup (prV x))) : prA G (.ref t) = x := by
  unfold prA
  show (match G t with
    | some (.tup [.int a, .int b]) => (a, b)
    | _ => (0, 0)) = x
  rw [h]
  rfl
theorem pr_refs {G : Hp} {qs : List Addr} {ts : List Pr} (h : Refs prV G qs ts) : ts = (qs.map V.ref).map (prA G) ∧ ∀ x ∈ qs.map V.ref, ∃ t, x = V.ref t ∧ G t = some (.tup (prV (prA G x))) := by
  induction h with
  | nil => exact ⟨rfl, fun _ z => nomatch z⟩
  | @cons p ps t ts e _ ih =>
    refine ⟨?_, fun x hx => ?_⟩
    · rw [List.map_cons, List.map_cons, prA_of e, ← ih.1]
    · rcases List.mem_cons.mp hx with z | z
      · subst z
        exact ⟨p, rfl, by rw [prA_of e]; exact e⟩
      · exact ih.2 x z
theorem refs_pr {G : Hp} : ∀ {ys : List V}, (∀ x ∈ ys, ∃ t, x = V.ref t ∧ G t = some (.tup (prV (prA G x)))) → ∃ qs : List Addr, ys = qs.map V.ref ∧ Refs prV G qs (ys.map (prA G))
  | [], _ => ⟨[], rfl, .nil⟩
  | y :: ys, h => by
    obtain ⟨t, e, ht⟩ := h y List.mem_cons_self
    obtain ⟨qs, e2, r⟩ := refs_pr (ys := ys) fun x hx => h x (List.mem_cons_of_mem _ hx)
    subst e
    refine ⟨t :: qs, by rw [e2]; rfl, ?_⟩
    rw [List.map_cons]
    exact .cons ht r
/-- what sorted gives of pairs -/
theorem pairs_sorted {G : Hp} {qs : List Addr} {ts : List Pr} (h : Refs prV G qs ts) {ys : List V} (so : SrtO.Srtd (ltP (prA G)) ys) (sb : SrtO.Stb (ltP (prA G)) ys (qs.map V.ref)) : ∃ qs', ys = qs'.map V.ref ∧ Refs prV G qs' (srtP ts) := by
  obtain ⟨e, k⟩ := pr_refs h
  obtain ⟨qs', e2, r⟩ := refs_pr (G := G) (ys := ys) fun x hx => k x (sb.perm.mem_iff.mp hx)
  refine ⟨qs', e2, ?_⟩
  have : ys.map (prA G) = srtP ts := by
    refine srt_eq (List.pairwise_map.mpr (so.imp fun {x y} z => ?_)) (by rw [e]; exact sb.perm.map _)
    have z : SrtO.lexB (prA G y) (prA G x) = false := z
    have := SrtO.lexB_no.mp z
    unfold ple
    omega
  rw [← this]
  exact r
/-- the level, negative, and the address -/
def keyP (b : Blk) : Pr := (-(b.2.1 : Int), b.1)
def unK (p : Pr) : Blk := (p.2, (-p.1).toNat, false)
theorem unK_key {b : Blk} (h : b.2.2 = false) : unK (keyP b) = b := by
  obtain ⟨a, k, p⟩ := b
  cases h
  unfold unK keyP
  simp
theorem lo_of {mc : List Blk} (h : ∀ b ∈ mc, b.2.2 = false) : ∃ Lo : List Blk, Lo.Perm mc ∧ srtP (mc.map keyP) = Lo.map keyP ∧ Lo.Pairwise fun b c => c.2.1 ≤ b.2.1 := by
  have e1 : (mc.map keyP).map unK = mc := by
    rw [List.map_map]
    have : mc.map (unK ∘ keyP) = mc.map id := List.map_congr_left fun b hb => unK_key (h b hb)
    rw [this, List.map_id]
  have pm := (srtP_perm (mc.map keyP)).map unK
  rw [e1] at pm
  have e2 : srtP (mc.map keyP) = ((srtP (mc.map keyP)).map unK).map keyP := by
    rw [List.map_map]
    have : (srtP (mc.map keyP)).map (keyP ∘ unK) = (srtP (mc.map keyP)).map id := List.map_congr_left fun p hp => by
      obtain ⟨b, hb, rfl⟩ := List.mem_map.mp ((srtP_perm _).mem_iff.mp hp)
      show keyP (unK (keyP b)) = keyP b
      rw [unK_key (h b hb)]
    rw [this, List.map_id]
  refine ⟨_, pm, e2, ?_⟩
  have so := srtP_so (mc.map keyP)
  rw [e2] at so
  refine (List.pairwise_map.mp so).imp fun {b c} z => ?_
  unfold ple keyP at z
  dsimp only at z
  omega
/-- a block and the address where it goes -/
def newOf (t : Blk × Int) : Blk := (t.2, t.1.2.1, false)
def movedB (t : Blk × Int) : Bool := !decide (t.2 = t.1.1)
def mvOf (t : Blk × Int) : Pr := (t.1.1, t.2)
def mmOf (tr : List (Blk × Int)) : List Pr := (tr.filter movedB).map mvOf
theorem nodup_of_map {α β : Type} (f : α → β) : ∀ {l : List α}, (l.map f).Nodup → l.Nodup
  | [], _ => .nil
  | x :: l, h => by
    rw [List.map_cons] at h
    have hn := List.nodup_cons.mp h
    exact List.nodup_cons.mpr ⟨fun z => hn.1 (List.mem_map.mpr ⟨x, z, rfl⟩), nodup_of_map f hn.2⟩
theorem split_in {bs mc : List Blk} (nb : bs.Nodup) (nm : mc.Nodup) (sub : ∀ c ∈ mc, c ∈ bs) : bs.Perm ((bs.filter fun b => !decide (b ∈ mc)) ++ mc) := by
  have h1 := List.filter_append_perm (fun b => !decide (b ∈ mc)) bs
  refine h1.symm.trans (List.Perm.append_left _ ?_)
  refine (List.perm_ext_iff_of_nodup (nb.filter _) nm).mpr fun b => ?_
  rw [List.mem_filter]
  constructor
  · rintro ⟨_, z⟩
    simpa using z
  · intro z
    exact ⟨sub b z, by simpa using z⟩
theorem rr_of {ns : List Int} {n : Int} {bs cs K Lo : List Blk} {tr : List (Blk × Int)} (g : Good ns) (wb : Wf ns n bs) (pb : bs.Perm (K ++ Lo)) (un : ∀ b ∈ Lo, b.2.2 = false) (et : tr.map Prod.fst = Lo) (wc : Wf ns n cs) (pc : cs.Perm (K ++ tr.map newOf)) : Rr ns n bs (mmOf tr) cs := by
  have ndA : ((K ++ Lo).map fun b => b.1).Nodup := ((pb.map _).nodup_iff).mp (wb.nd g)
  rw [List.map_append] at ndA
  obtain ⟨nK, nL, dis⟩ := List.nodup_append.mp ndA
  have e1 : (tr.map fun t => t.1.1) = Lo.map fun b => b.1 := by rw [← et, List.map_map]; rfl
  have n1 : ((mmOf tr).map Prod.fst).Nodup := by
    unfold mmOf
    rw [List.map_map]
    refine List.Pairwise.sublist ((List.filter_sublist (p := movedB)).map _) ?_
    show (tr.map fun t => t.1.1).Nodup
    rw [e1]
    exact nL
  have inLo : ∀ t ∈ tr, t.1 ∈ Lo := fun t ht => by rw [← et]; exact List.mem_map.mpr ⟨t, ht, rfl⟩
  have olds : ∀ a ∈ (mmOf tr).map Prod.fst, ∃ t ∈ tr, movedB t = true ∧ t.1.1 = a := fun a ha => by
    obtain ⟨m, hm, e⟩ := List.mem_map.mp ha
    obtain ⟨t, ht, rfl⟩ := List.mem_map.mp hm
    obtain ⟨h1, h2⟩ := List.mem_filter.mp ht
    exact ⟨t, h1, h2, e⟩
  have uniq : ∀ t ∈ tr, ∀ t' ∈ tr, t.1.1 = t'.1.1 → t = t' := fun t ht t' ht' e => inj_of (f := fun t : Blk × Int => t.1.1) (by rw [e1]; exact nL) ht ht' e
  refine (Rr.mk' (F := go (mmOf tr)) g wb wc ?_ n1 (fun m hm => ?_) fun x hx ne => ?_).1
  · refine pc.trans (List.Perm.trans ?_ (pb.map _).symm)
    rw [List.map_append]
    have eK : K.map (fun b => (go (mmOf tr) b.1, b.2.1, b.2.2)) = K := by
      have : K.map (fun b => (go (mmOf tr) b.1, b.2.1, b.2.2)) = K.map id := List.map_congr_left fun b hb => by
        rw [go_none]
        · rfl
        · intro z
          obtain ⟨t, ht, _, e⟩ := olds _ z
          exact dis b.1 (List.mem_map.mpr ⟨b, hb, rfl⟩) t.1.1 (List.mem_map.mpr ⟨_, inLo t ht, rfl⟩) e.symm
      rw [this, List.map_id]
    have eL : Lo.map (fun b => (go (mmOf tr) b.1, b.2.1, b.2.2)) = tr.map newOf := by
      rw [← et, List.map_map]
      refine List.map_congr_left fun t ht => ?_
      have pf := un _ (inLo t ht)
      show (go (mmOf tr) t.1.1, t.1.2.1, t.1.2.2) = (t.2, t.1.2.1, false)
      rw [pf]
      have : go (mmOf tr) t.1.1 = t.2 := by
        cases hm : movedB t with
        | true => exact go_some n1 (List.mem_map.mpr ⟨t, List.mem_filter.mpr ⟨ht, hm⟩, rfl⟩)
        | false =>
          have e : t.2 = t.1.1 := by unfold movedB at hm; simpa using hm
          rw [go_none, e]
          intro z
          obtain ⟨t', ht', h1, h2⟩ := olds _ z
          rw [uniq t' ht' t ht h2] at h1
          rw [h1] at hm
          cases hm
      rw [this]
    rw [eK, eL]
  · obtain ⟨a, c⟩ := m
    refine ⟨?_, (go_some n1 hm).symm, ?_⟩
    · obtain ⟨t, ht, _, e⟩ := olds a (List.mem_map.mpr ⟨_, hm, rfl⟩)
      have h1 := inLo t ht
      have h2 := pb.mem_iff.mpr (List.mem_append_right K h1)
      have pf := un _ h1
      refine ⟨t.1.2.1, ?_⟩
      show (a, t.1.2.1, false) ∈ bs
      rw [← e, ← pf]
      exact h2
    · obtain ⟨t, ht, e⟩ := List.mem_map.mp hm
      obtain ⟨_, h2⟩ := List.mem_filter.mp ht
      unfold mvOf at e
      cases e
      have : ¬ t.2 = t.1.1 := by unfold movedB at h2; simpa using h2
      exact fun z => this z.symm
  · by_cases hm : x ∈ (mmOf tr).map Prod.fst
    · obtain ⟨⟨a, b⟩, hm2, e⟩ := List.mem_map.mp hm
      have e : a = x := e
      subst e
      rw [go_some n1 hm2]
      exact hm2
    · exact absurd (go_none hm) ne
end K34

set_option Elab.async false
set_option linter.all false
set_option maxRecDepth 100000
set_option maxHeartbeats 4000000
set_option pp.maxSteps 900
namespace K34
open PySem PySem.Spec PyProof.Rows L2 Gu Ex
theorem any_blk (mc : List Blk) (b : Blk) : (mc.map blkD).any (fun z => PyData.eqv z (blkD b)) = decide (b ∈ mc) := by
  induction mc with
  | nil => rfl
  | cons c r ih =>
    rw [List.map_cons, List.any_cons, ih, eqv_blk]
    by_cases h1 : c = b
    · subst h1
      simp
    · by_cases h2 : b ∈ r
      · simp [h2]
      · have h3 : ¬ b = c := fun z => h1 z.symm
        simp [h1, h2, h3]
section
variable {P : Program} {w : World} {K : PySem.W.Frag} {mg : Str → Option Value} {base : Heap} {f : Addr} {fd : FuncData}
def spMovesC : Sp := fun vs H Q _ => ∃ (r s a : Addr) (ns : List Int) (n : Int) (qs : List Addr) (bs : List Blk), vs = [.ref r, .ref s, .int n, .ref a] ∧ Rng H r ∧ Lb ns n H s a qs bs ∧ s ≠ r ∧
  ∀ t l a2 (ps qs2 : List Addr) (mm : List Pr) (cs : List Blk) H', Stp r H H' → H' t = some (.tup [.ref l, .ref a2]) → H l = none → H a2 = none → H' l = some (.lst (ps.map V.ref)) → Refs prV H' ps mm → Lb ns n H' s a2 qs2 cs → Rr ns n bs mm cs → mm.length ≤ 16 → Q (.ref t) H'
theorem sc__law_moves : FnScope ["_law_rng_here", "_law_sizes_here", "_law_length", "_law_blocks_here", "_law_loose", "_law_now", "_law_result", "_law_lack", "_law_address", "_law_block"] ["_law_rng_here", "_law_sizes_here", "_law_length", "_law_blocks_here"] (defScope (top 50)) := ⟨rfl, rfl, rfl, by decide +kernel, rfl, by decide +kernel, by decide +kernel⟩
theorem ok_movesC (T : Tx K mg) (D__law_draw : Df P w K mg base 1 "_law_draw" ["_law_rng_here", "_law_many"] spDraw) (D__law_shuffled : Df P w K mg base 2 "_law_shuffled" ["_law_rng_here", "_law_values"] spShuf) (D__law_place : Df P w K mg base 3 "_law_place" ["_law_rng_here", "_law_sizes_here", "_law_length", "_law_blocks_here", "_law_level"] spPlc)
    (F : FnP K "_law_moves" "_law_moves" (top 50) f fd) : FnOk P w K mg base CX0 4 f fd ["_law_rng_here", "_law_sizes_here", "_law_length", "_law_blocks_here"] spMovesC := by
  refine F.ok sc__law_moves (fun vs H Q E h => ?_) (fun cdv A outer s H vs Q E hr h => ⟨_, PSs.nox (pss_cons (ps_set (i := 4) sc__law_moves.nd rfl (by first | exact Or.inl rfl | exact Or.inr rfl) (pe_slice sl_list (pcall D__law_shuffled hr (pa_cons (pv 0) (pa_cons (pe_lc (own := [("_law_block", 9)]) (g := gName 9) rfl sc__law_moves.nd (pi_list (pv 3)) (blkOk_by (own := [("_law_block", 9)]) (N := ["_law_rng_here", "_law_sizes_here", "_law_length", "_law_blocks_here", "_law_loose", "_law_now", "_law_result", "_law_lack", "_law_address", "_law_block"]) (sc := defScope (top 50)) (by decide +kernel)) (fun _ _ _ _ _ => pg_name (i := 9) sc__law_moves.nd rfl (Or.inl rfl)) (fun _ _ _ _ _ => (pts_one (pt_not (pt_val (pe_ix (r := rIxT K) ix_tup (pv 9) pe_int (fun _ _ => rfl)))))) (fun _ _ _ _ _ => (pv 9))) pa_nil))) po_none (po_some (pcall D__law_draw hr (pa_cons (pv 0) (pa_cons pe_int pa_nil)))))) (pss_cons (ps_par (by rfl) sc__law_moves.nd (i := 5) (j := 6) rfl rfl (by decide) rfl rfl (pa_cons (pe_lc (own := [("_law_block", 9)]) (g := gName 9) rfl sc__law_moves.nd (pi_list (pv 3)) (blkOk_by (own := [("_law_block", 9)]) (N := ["_law_rng_here", "_law_sizes_here", "_law_length", "_law_blocks_here", "_law_loose", "_law_now", "_law_result", "_law_lack", "_law_address", "_law_block"]) (sc := defScope (top 50)) (by decide +kernel)) (fun _ _ _ _ _ => pg_name (i := 9) sc__law_moves.nd rfl (Or.inl rfl)) (fun _ _ _ _ _ => (pts_one (pt_cmpR (r := rNotInD K) (op_notInD (u65 hr)) (pv 9) (pv 4) rfl))) (fun _ _ _ _ _ => (pv 9))) (pa_cons (pe_lst pa_nil) pa_nil)) (by rfl)) (pss_cons (ps_for PassesOwn.never rfl (pi_list (pe_callB cr_sortedPO (by rfl) T.n_sorted (by decide +kernel) (pa_cons (pe_lc (own := [("_law_block", 9)]) (g := gName 9) rfl sc__law_moves.nd (pi_list (pv 4)) (blkOk_by (own := [("_law_block", 9)]) (N := ["_law_rng_here", "_law_sizes_here", "_law_length", "_law_blocks_here", "_law_loose", "_law_now", "_law_result", "_law_lack", "_law_address", "_law_block"]) (sc := defScope (top 50)) (by decide +kernel)) (fun _ _ _ _ _ => pg_name (i := 9) sc__law_moves.nd rfl (Or.inl rfl)) (fun _ _ _ _ _ => pts_nil) (fun _ _ _ _ _ => (pe_tup (pa_cons (pe_un un_neg (pe_ix (r := rIxT K) ix_tup (pv 9) pe_int (fun _ _ => rfl))) (pa_cons (pe_ix (r := rIxT K) ix_tup (pv 9) pe_int (fun _ _ => rfl)) pa_nil))))) pa_nil))) (pg_tup (by rfl) (pgs_cons (pg_name (i := 7) sc__law_moves.nd rfl (by first | exact Or.inl rfl | exact Or.inr rfl)) (pgs_cons (pg_name (i := 8) sc__law_moves.nd rfl (by first | exact Or.inl rfl | exact Or.inr rfl)) pgs_nil))) (pss_cons (ps_expr (pe_bm PySem.F.plainAttrs_list PySem.F.slot_list_append PySem.F.type_list_append mt_append (pv 5) (pa_cons (pe_tup (pa_cons (pcall D__law_place hr (pa_cons (pv 0) (pa_cons (pv 1) (pa_cons (pv 2) (pa_cons (pv 5) (pa_cons (pe_un un_neg (pv 7)) pa_nil)))))) (pa_cons (pe_un un_neg (pv 7)) (pa_cons pe_bl pa_nil)))) pa_nil))) (pss_one (ps_if (pt_cmpR op_ne (pe_ix ix_tup (pe_ix ix_list (pv 5) (pe_un un_neg pe_int) (fun _ _ => rfl)) pe_int (fun _ _ => rfl)) (pv 8) (nomark _)) (pss_one (ps_expr (pe_bm PySem.F.plainAttrs_list PySem.F.slot_list_append PySem.F.type_list_append mt_append (pv 6) (pa_cons (pe_tup (pa_cons (pv 8) (pa_cons (pe_ix ix_tup (pe_ix ix_list (pv 5) (pe_un un_neg pe_int) (fun _ _ => rfl)) pe_int (fun _ _ => rfl)) pa_nil))) pa_nil)))) pss_nil)))) (pss_one (ps_ret (pe_tup (pa_cons (pcall D__law_shuffled hr (pa_cons (pv 0) (pa_cons (pv 6) pa_nil))) (pa_cons (pe_callB cr_sortedB (by rfl) T.n_sorted (by decide +kernel) (pa_cons (pv 5) pa_nil)) pa_nil)))))))), ?_⟩)
  · obtain ⟨r, s, a, ns, n, qs, bs, rfl, _⟩ := h
    rfl
  · obtain ⟨r, s, a, ns, n, qs, bs, rfl, hR, B, sr, q⟩ := h
    have sl : sizeLine = 16777216 := sizeLine_eq
    have big : (10 : Int) ^ 40 = 10000000000000000000000000000000000000000 := by decide
    have pl := B.rf.len
    have bl := B.ln
    have n1 := B.n1
    have n2 := B.n2
    have wf := B.wf
    have gd := B.gd
    refine ⟨_, rfl, _, rfl, a, rfl, ⟨_, SqL.of B.ha⟩, fun D hD => ?_⟩
    refine lc_list (K := K) (a := a) (xs := qs.map V.ref) (fun i G => ∃ ps', G D = some (.lst (ps'.map V.ref)) ∧ Refs blkV G ps' ((bs.take i).filter fun b => !b.2.2) ∧ Same H G) ⟨[], upd_same, .nil, same_upd hD⟩ (fun i G _ ⟨_, _, _, sm⟩ => SqL.of (sm _ _ B.ha)) ?_ ?_
    · rintro i x G hx ⟨ps', hG, rf', sm⟩
      obtain ⟨p, hp, rfl⟩ := ref_of hx
      obtain ⟨b, hb, hT⟩ := (B.rf.same sm).get hp
      have hT' : G p = some (.tup [.int b.1, .int (b.2.1 : Nat), .bl b.2.2]) := hT
      have il := (List.getElem?_eq_some_iff.mp hb).1
      have fa := filter_at (fun b => !b.2.2) hb
      have fl := List.length_filter_le (fun b : Blk => !b.2.2) (bs.take i)
      rw [List.length_take] at fl
      have ql := rf'.len
      refine ⟨rfl, _, rfl, p, _, _, _, rfl, rfl, .inl (.inl hT'), rfl, _, rfl, ?_⟩
      cases hq : b.2.2 with
      | true =>
        rw [hq] at fa
        refine iteF ⟨ps', hG, ?_, sm⟩
        rw [fa]
        simpa using rf'
      | false =>
        rw [hq] at fa
        refine iteT ⟨_, rfl, _, hG, (by rw [List.length_map]; omega), ps' ++ [p], by rw [upd_same, List.map_append]; rfl, ?_, fun c o e => ?_⟩
        · rw [fa]
          refine ((rf'.app (Refs.one hT)).mono fun c zs ec => ?_)
          rw [upd_ne (fun z => by rw [z, hG] at ec; cases ec)]
          exact ec
        · rw [upd_ne (ne_of_none e hD)]
          exact sm c o e
    rintro G1 ⟨ps1, hG1, rf1, s1⟩
    rw [List.length_map, pl, List.take_length] at rf1
    have t1 := Stp.same hR s1
    have nD := (hR.ne hD).symm
    have fl1 := List.length_filter_le (fun b : Blk => !b.2.2) bs
    have l1 := rf1.len
    refine ⟨r, D, _, rfl, t1.1, hG1, nD, (by rw [List.length_map]; omega), fun l2 ys G2 hl2 t2 hG2 pm => ?_⟩
    have rf1' : Refs blkV G2 ps1 (bs.filter fun b => !b.2.2) := rf1.mono fun p xs e => t2.2 p _ (t1.1.tup e) e
    obtain ⟨qs2, cs2, rfl, rf2, pm2⟩ := refs_pm rf1' pm
    have len2 := pm2.length_eq
    refine ⟨_, rfl, r, 7, rfl, t2.1, by decide, by omega, fun d G3 d0 d1 t3 => ?_⟩
    have t13 := (t1.trans t2).trans t3
    have nl2 : l2 ≠ r := (t1.1.ne hl2).symm
    have hl3 := t3.2 _ _ nl2 hG2
    have rf3 : Refs blkV G3 qs2 cs2 := rf2.mono fun p xs e => t3.2 p _ (t2.1.tup e) e
    refine ⟨_, rfl, l2, _, rfl, SqL.of hl3, fun M hM => ?_⟩
    obtain ⟨j1, j2, ecut⟩ : ∃ j1 j2, cutV (qs2.map V.ref) none (some d) = ((qs2.drop j1).take j2).map V.ref := ⟨_, _, cut_map ..⟩
    have t4 := t13.new (o := .lst (cutV (qs2.map V.ref) none (some d))) hM
    have s4 := same_upd (o := .lst (cutV (qs2.map V.ref) none (some d))) hM
    have hM4 : (upd G3 M (.lst (cutV (qs2.map V.ref) none (some d)))) M = some (.lst (((qs2.drop j1).take j2).map V.ref)) := by rw [upd_same, ecut]
    have rfM : Refs blkV (upd G3 M (.lst (cutV (qs2.map V.ref) none (some d)))) ((qs2.drop j1).take j2) ((cs2.drop j1).take j2) := ((rf3.drop j1).take j2).same s4
    have inU : ∀ c ∈ (cs2.drop j1).take j2, c ∈ bs ∧ c.2.2 = false := fun c hc => by
      obtain ⟨h1, h2⟩ := List.mem_filter.mp (pm2.mem_iff.mp (List.mem_of_mem_drop (List.mem_of_mem_take hc)))
      exact ⟨h1, by simpa using h2⟩
    have bnd : bs.Nodup := nodup_of_map (fun b : Blk => b.1) (wf.nd gd)
    have ndM : ((cs2.drop j1).take j2).Nodup := List.Pairwise.sublist ((List.take_sublist _ _).trans (List.drop_sublist _ _)) (pm2.nodup_iff.mpr (bnd.filter _))
    have lenM : ((cs2.drop j1).take j2).length ≤ 16 := by
      rw [List.length_take, List.length_drop]
      omega
    have nM : M ≠ r := (t13.1.ne hM).symm
    have fM := t13.free hM
    generalize upd G3 M (.lst (cutV (qs2.map V.ref) none (some d))) = G4 at t4 s4 hM4 rfM
    generalize (qs2.drop j1).take j2 = mq at hM4 rfM
    generalize (cs2.drop j1).take j2 = mc at rfM inU lenM ndM
    have B4 := B.step hR sr t4
    have mql := rfM.len
    have pmB := split_in bnd ndM fun c hc => (inU c hc).1
    -- the blocks that stay
    refine ⟨_, rfl, a, rfl, ⟨_, SqL.of B4.ha⟩, fun D2 hD2 => ?_⟩
    refine lc_list (K := K) (a := a) (xs := qs.map V.ref) (fun i G => ∃ ps', G D2 = some (.lst (ps'.map V.ref)) ∧ Refs blkV G ps' ((bs.take i).filter fun b => !decide (b ∈ mc)) ∧ Same G4 G) ⟨[], upd_same, .nil, same_upd hD2⟩ (fun i G _ ⟨_, _, _, sm⟩ => SqL.of (sm _ _ B4.ha)) ?_ ?_
    · rintro i x G hx ⟨ps', hG, rf', sm⟩
      obtain ⟨p, hp, rfl⟩ := ref_of hx
      obtain ⟨b, hb, hT⟩ := (B4.rf.same sm).get hp
      have il := (List.getElem?_eq_some_iff.mp hb).1
      have fa := filter_at (fun b => !decide (b ∈ mc)) hb
      have fl := List.length_filter_le (fun b : Blk => !decide (b ∈ mc)) (bs.take i)
      rw [List.length_take] at fl
      have ql := rf'.len
      have dpB : Dp K G (.ref p) (blkD b) := .tup (SqT.of hT) (.cons (.int _) (.cons (.int _) (.cons (.bl _) .nil)))
      have dpM : Dp K G (.ref M) (.list (mc.map blkD)) := .lst (SqL.of (sm _ _ hM4)) (rfM.same sm).dp
      refine ⟨rfl, _, rfl, _, rfl, blkD b, mc.map blkD, dpB, dpM, rfl, shaped_blk _, _, rfl, ?_⟩
      rw [any_blk]
      cases hq : (!decide (b ∈ mc)) with
      | false =>
        rw [hq] at fa
        refine iteF ⟨ps', hG, ?_, sm⟩
        rw [fa]
        simpa using rf'
      | true =>
        rw [hq] at fa
        refine iteT ⟨_, rfl, _, hG, (by rw [List.length_map]; omega), ps' ++ [p], by rw [upd_same, List.map_append]; rfl, ?_, fun c o e => ?_⟩
        · rw [fa]
          refine ((rf'.app (Refs.one hT)).mono fun c zs ec => ?_)
          rw [upd_ne (fun z => by rw [z, hG] at ec; cases ec)]
          exact ec
        · rw [upd_ne (ne_of_none e hD2)]
          exact sm c o e
    rintro G5 ⟨pn, hN5, rfN5, s5⟩
    rw [List.length_map, pl, List.take_length] at rfN5
    have fD2 := t4.free hD2
    have nD2 : D2 ≠ r := (t4.1.ne hD2).symm
    have nD2M : D2 ≠ M := (ne_of_none hM4 hD2).symm
    have lenN := List.length_filter_le (fun b : Blk => !decide (b ∈ mc)) bs
    generalize (bs.filter fun b => !decide (b ∈ mc)) = Kp at rfN5 lenN pmB
    refine ⟨(by show 0 ≤ sizeLine; decide), fun F hF => ?_⟩
    have s6 := s5.trans (same_upd (o := .lst []) hF)
    have s6' := same_upd (o := .lst []) hF
    have hF6 : (upd G5 F (.lst [])) F = some (.lst (([] : List Addr).map V.ref)) := upd_same
    have fF := t4.free (s5.free hF)
    have nFr : F ≠ r := (t4.1.ne (s5.free hF)).symm
    have nFM : F ≠ M := (ne_of_none (s5 _ _ hM4) hF).symm
    have nFD : F ≠ D2 := (ne_of_none hN5 hF).symm
    have hN6 := s6' _ _ hN5
    have rfN6 := rfN5.same s6'
    generalize upd G5 F (.lst []) = G6 at s6 hF6 hN6 rfN6
    refine ⟨_, _, rfl, ?_⟩
    have hM6 := s6 _ _ hM4
    have rfM6 := rfM.same s6
    have t6 := t4.trans (Stp.same t4.1 s6)
    -- their keys, sorted
    obtain ⟨Lo, pmL, eso, soL⟩ := lo_of fun b hb => (inU b hb).2
    refine ⟨_, rfl, M, rfl, ⟨_, SqL.of hM6⟩, fun D3 hD3 => ?_⟩
    refine lc_list (K := K) (a := M) (xs := mq.map V.ref) (fun i G => ∃ ps', G D3 = some (.lst (ps'.map V.ref)) ∧ Refs prV G ps' ((mc.take i).map keyP) ∧ Same G6 G) ⟨[], upd_same, .nil, same_upd hD3⟩ (fun i G _ ⟨_, _, _, sm⟩ => SqL.of (sm _ _ hM6)) ?_ ?_
    · rintro i x G hx ⟨ps', hG, rf', sm⟩
      obtain ⟨p, hp, rfl⟩ := ref_of hx
      obtain ⟨b, hb, hT⟩ := (rfM6.same sm).get hp
      have hT' : G p = some (.tup [.int b.1, .int (b.2.1 : Nat), .bl b.2.2]) := hT
      have il := (List.getElem?_eq_some_iff.mp hb).1
      have ql := rf'.len
      rw [List.length_map, List.length_take] at ql
      refine ⟨rfl, _, rfl, p, _, _, _, rfl, rfl, .inl (.inl hT'), rfl, _, rfl, _, rfl, p, _, _, _, rfl, rfl, .inl (.inl hT'), rfl, (by show 2 ≤ sizeLine; decide), fun u hu => ?_⟩
      have su := same_upd (o := .tup [.int (-(b.2.1 : Int)), .int b.1]) hu
      have hu2 : (upd G u (.tup [.int (-(b.2.1 : Int)), .int b.1])) u = some (.tup (prV (keyP b))) := upd_same
      have hG2 := su _ _ hG
      have rf2 := rf'.same su
      have sm2 := sm.trans su
      generalize upd G u (.tup [.int (-(b.2.1 : Int)), .int b.1]) = G2 at *
      refine ⟨_, hG2, (by rw [List.length_map]; omega), ps' ++ [u], by rw [upd_same, List.map_append]; rfl, ?_, fun c o e => ?_⟩
      · rw [take_snoc hb, List.map_append]
        refine ((rf2.app (Refs.one hu2)).mono fun c zs ec => ?_)
        rw [upd_ne (fun z => by rw [z, hG2] at ec; cases ec)]
        exact ec
      · rw [upd_ne (ne_of_none e hD3)]
        exact sm2 c o e
    rintro G8 ⟨pk, hK8, rfK8, s8⟩
    rw [List.length_map, mql, List.take_length] at rfK8
    refine ⟨D3, _, prA G8, rfl, SqL.of hK8, (pr_refs rfK8).2, fun zs L9 so9 sb9 hL9 => ?_⟩
    obtain ⟨qk, rfl, rfq⟩ := pairs_sorted rfK8 so9 sb9
    rw [eso] at rfq
    have s9 := s8.trans (same_upd (o := .lst (qk.map V.ref)) hL9)
    have hL9' : (upd G8 L9 (.lst (qk.map V.ref))) L9 = some (.lst (qk.map V.ref)) := upd_same
    have rfq9 := rfq.same (same_upd (o := .lst (qk.map V.ref)) hL9)
    have hN9 := s9 _ _ hN6
    have rfN9 := rfN6.same s9
    have hF9 := s9 _ _ hF6
    have t9 := t6.trans (Stp.same t6.1 s9)
    have nL9r : L9 ≠ r := (t6.1.ne (s8.free hL9)).symm
    have nL9D : L9 ≠ D2 := (ne_of_none (s8 _ _ hN6) hL9).symm
    have nL9F : L9 ≠ F := (ne_of_none (s8 _ _ hF6) hL9).symm
    generalize upd G8 L9 (.lst (qk.map V.ref)) = G9 at s9 hL9' rfq9 hN9 rfN9 hF9 t9
    have Ll := pmL.length_eq
    have qkl := rfq9.len
    rw [List.length_map] at qkl
    have pmB2 : bs.Perm (Kp ++ Lo) := pmB.trans (List.Perm.append_left _ pmL.symm)
    have un0 : Un ns n (Kp ++ Lo) := wf.un.perm pmB2.symm
    have pmBl := pmB2.length_eq
    rw [List.length_append] at pmBl
    refine ⟨L9, rfl, ⟨_, SqL.of hL9'⟩, ?_⟩
    refine for_list (K := K) (a := L9) (xs := qk.map V.ref) (fun i σ G => (∃ x7 x8, σ = [some (.ref r), some (.ref s), some (.int n), some (.ref a), some (.ref M), some (.ref D2), some (.ref F), x7, x8, none]) ∧ Stp r H G ∧ G L9 = some (.lst (qk.map V.ref)) ∧ Refs prV G qk (Lo.map keyP) ∧
      ∃ (pn : List Addr) (tr : List (Blk × Int)) (pf : List Addr), G D2 = some (.lst (pn.map V.ref)) ∧ Refs blkV G pn (Kp ++ tr.map newOf) ∧ tr.map Prod.fst = Lo.take i ∧ Un ns n (Kp ++ tr.map newOf) ∧ G F = some (.lst (pf.map V.ref)) ∧ Refs prV G pf (mmOf tr))
      ⟨⟨none, none, rfl⟩, t9, hL9', rfq9, pn, [], [], hN9, by simpa using rfN9, rfl, by simpa using ⟨fun b hb => un0.ok b (List.mem_append_left _ hb), (List.pairwise_append.mp un0.dj).1⟩, hF9, .nil⟩ (fun i σ G _ h => SqL.of h.2.2.1) ?_ ?_
    · rintro i v σ G hv ⟨⟨x7, x8, rfl⟩, tG, hLG, rfqG, pn, tr, pf, hNG, rfNG, etr, un, hFG, rfFG⟩
      obtain ⟨p, hp, rfl⟩ := ref_of hv
      obtain ⟨m, hm, hT⟩ := rfqG.get hp
      rw [List.getElem?_map] at hm
      obtain ⟨b, hb, rfl⟩ : ∃ b, Lo[i]? = some b ∧ keyP b = m := by
        cases e : Lo[i]? with
        | none => rw [e] at hm; cases hm
        | some b => rw [e] at hm; exact ⟨b, rfl, Option.some.inj hm⟩
      have hT' : G p = some (.tup [.int (-(b.2.1 : Int)), .int b.1]) := hT
      have il := (List.getElem?_eq_some_iff.mp hb).1
      have bLo := List.mem_of_getElem? hb
      have bmc := pmL.mem_iff.mp bLo
      have bo := wf.ok b (inU b bmc).1
      have hk := bo.1
      have tl : tr.length = i := by
        have := congrArg List.length etr
        rw [List.length_map, List.length_take] at this
        omega
      have nl := rfNG.len
      rw [List.length_append, List.length_map] at nl
      have fll : (mmOf tr).length ≤ tr.length := by unfold mmOf; rw [List.length_map]; exact List.length_filter_le _ _
      have fl2 := rfFG.len
      have ex : ∃ x : Int, 0 ≤ x ∧ sz ns b.2.1 ∣ x ∧ x + sz ns b.2.1 ≤ n ∧ ∀ c ∈ Kp ++ tr.map newOf, bEnd ns c ≤ x ∨ x + sz ns b.2.1 ≤ c.1 := by
        refine place_ex (L0 := Lo.take i) gd ?_ un ?_ ?_
        · rw [← take_snoc hb]
          refine ⟨fun c hc => un0.ok c ?_, List.Pairwise.sublist (List.Sublist.append_left (List.take_sublist _ _) Kp) un0.dj⟩
          rcases List.mem_append.mp hc with z | z
          · exact List.mem_append_left _ z
          · exact List.mem_append_right _ (List.mem_of_mem_take z)
        · rw [← etr, List.map_map, List.map_map]
          rfl
        · intro c hc
          obtain ⟨j, hj, ej⟩ := mem_take_lt hc
          exact pair_lt soL ej hb hj
      refine ⟨p, _, rfl, .inl (.inl hT'), rfl, _, _, rfl, _, _, rfl, rfl, ?_⟩
      refine ⟨_, rfl, .inl ⟨rfl, _, SqL.of hNG⟩, _, rfl, _, rfl, _, rfl, _, rfl, _, rfl, _, rfl, ?_⟩
      refine ⟨r, s, D2, ns, n, pn, Kp ++ tr.map newOf, b.2.1, (by show [V.ref r, V.ref s, V.int n, V.ref D2, V.int (-(-(b.2.1 : Int)))] = _; rw [Int.neg_neg]), tG.1, tG.2 _ _ sr B.hs, sr, gd, hNG, rfNG, un, by omega, n2, (by rw [List.length_append, List.length_map]; omega), hk, ex, fun x G2 x0 xd xn xf t2 => ?_⟩
      have hN2 := t2.2 _ _ nD2 hNG
      have hF2 := t2.2 _ _ nFr hFG
      have hL2 := t2.2 _ _ nL9r hLG
      have rfN2 : Refs blkV G2 pn (Kp ++ tr.map newOf) := rfNG.mono fun p xs e => t2.2 p _ (tG.1.tup e) e
      have rfF2 : Refs prV G2 pf (mmOf tr) := rfFG.mono fun p xs e => t2.2 p _ (tG.1.tup e) e
      have rfq2 : Refs prV G2 qk (Lo.map keyP) := rfqG.mono fun p xs e => t2.2 p _ (tG.1.tup e) e
      have tH2 := tG.trans t2
      refine ⟨_, rfl, _, rfl, (by show 3 ≤ sizeLine; decide), fun u hu => ?_⟩
      have su := same_upd (o := .tup [.int x, .int (-(-(b.2.1 : Int))), .bl false]) hu
      have hu3 : (upd G2 u (.tup [.int x, .int (-(-(b.2.1 : Int))), .bl false])) u = some (.tup (blkV (x, b.2.1, false))) := by
        rw [upd_same, Int.neg_neg]
        rfl
      have hN3 := su _ _ hN2
      have hF3 := su _ _ hF2
      have hL3 := su _ _ hL2
      have rfN3 := rfN2.same su
      have rfF3 := rfF2.same su
      have rfq3 := rfq2.same su
      have tH3 := tH2.trans (Stp.same tH2.1 su)
      generalize upd G2 u (.tup [.int x, .int (-(-(b.2.1 : Int))), .bl false]) = G3 at su hu3 hN3 hF3 hL3 rfN3 rfF3 rfq3 tH3
      refine ⟨D2, _, _, rfl, rfl, hN3, (by rw [List.length_map]; omega), ?_⟩
      -- the list of the blocks now
      have hN4 : (upd G3 D2 (.lst (pn.map V.ref ++ [.ref u]))) D2 = some (.lst ((pn ++ [u]).map V.ref)) := by rw [upd_same, List.map_append]; rfl
      have tupK : ∀ {p' : Addr} {zs : List V}, G3 p' = some (.tup zs) → (upd G3 D2 (.lst (pn.map V.ref ++ [.ref u]))) p' = some (.tup zs) := fun {p' zs} e => by
        rw [upd_ne (fun z => by rw [z, hN3] at e; cases e)]
        exact e
      have hu4 := tupK hu3
      have rfN4 : Refs blkV (upd G3 D2 (.lst (pn.map V.ref ++ [.ref u]))) (pn ++ [u]) (Kp ++ (tr ++ [(b, x)]).map newOf) := by
        rw [List.map_append, ← List.append_assoc]
        exact (rfN3.mono fun p zs e => tupK e).app (Refs.one (t := newOf (b, x)) hu4)
      have rfF4 : Refs prV (upd G3 D2 (.lst (pn.map V.ref ++ [.ref u]))) pf (mmOf tr) := rfF3.mono fun p zs e => tupK e
      have rfq4 : Refs prV (upd G3 D2 (.lst (pn.map V.ref ++ [.ref u]))) qk (Lo.map keyP) := rfq3.mono fun p zs e => tupK e
      have hF4 : (upd G3 D2 (.lst (pn.map V.ref ++ [.ref u]))) F = some (.lst (pf.map V.ref)) := by rw [upd_ne nFD]; exact hF3
      have hL4 : (upd G3 D2 (.lst (pn.map V.ref ++ [.ref u]))) L9 = some (.lst (qk.map V.ref)) := by rw [upd_ne nL9D]; exact hL3
      have tH4 : Stp r H (upd G3 D2 (.lst (pn.map V.ref ++ [.ref u]))) := by
        refine ⟨?_, fun c o nc e => ?_⟩
        · obtain ⟨x', y', e, z⟩ := tH3.1
          exact ⟨x', y', by rw [upd_ne nD2.symm]; exact e, z⟩
        · rw [upd_ne (ne_of_none e fD2)]
          exact tH3.2 c o nc e
      generalize upd G3 D2 (.lst (pn.map V.ref ++ [.ref u])) = G4 at hN4 rfN4 rfF4 rfq4 hF4 hL4 tH4 hu4
      have un4 : Un ns n (Kp ++ (tr ++ [(b, x)]).map newOf) := by
        rw [List.map_append, ← List.append_assoc]
        exact un.snoc' hk x0 xd xn xf
      have etr4 : (tr ++ [(b, x)]).map Prod.fst = Lo.take (i + 1) := by
        rw [List.map_append, etr, take_snoc hb]
        rfl
      have hu4' : G4 u = some (.tup [.int x, .int (b.2.1 : Nat), .bl false]) := hu4
      refine ⟨_, rfl, _, rfl, D2, _, _, _, rfl, rfl, SqL.of hN4, (by rw [List.map_append]; exact atI_last _ _), u, _, _, _, rfl, rfl, .inl (.inl hu4'), rfl, _, rfl, rfl, _, rfl, ?_⟩
      by_cases hx : x = b.1
      · refine ifF (by rw [vT hx]; rfl) ?_
        have em : mmOf (tr ++ [(b, x)]) = mmOf tr := by
          have : movedB (b, x) = false := by unfold movedB; simpa using hx
          unfold mmOf
          rw [List.filter_append]
          simp [this]
        exact ⟨⟨_, _, rfl⟩, tH4, hL4, rfq4, pn ++ [u], tr ++ [(b, x)], pf, hN4, rfN4, etr4, un4, hF4, by rw [em]; exact rfF4⟩
      · refine ifT (by rw [vF hx]; rfl) ?_
        have em : mmOf (tr ++ [(b, x)]) = mmOf tr ++ [(b.1, x)] := by
          have : movedB (b, x) = true := by unfold movedB; simpa using hx
          unfold mmOf
          rw [List.filter_append]
          simp [this, mvOf]
        refine ⟨_, rfl, .inl ⟨rfl, _, SqL.of hF4⟩, _, rfl, _, rfl, _, rfl, D2, _, _, _, rfl, rfl, SqL.of hN4, (by rw [List.map_append]; exact atI_last _ _), u, _, _, _, rfl, rfl, .inl (.inl hu4'), rfl, (by show 2 ≤ sizeLine; decide), fun u2 hu2 => ?_⟩
        have s5 := same_upd (o := .tup [.int b.1, .int x]) hu2
        have hu5 : (upd G4 u2 (.tup [.int b.1, .int x])) u2 = some (.tup (prV (b.1, x))) := upd_same
        have hN5 := s5 _ _ hN4
        have hF5 := s5 _ _ hF4
        have hL5 := s5 _ _ hL4
        have rfN5 := rfN4.same s5
        have rfF5 := rfF4.same s5
        have rfq5 := rfq4.same s5
        have tH5 := tH4.trans (Stp.same tH4.1 s5)
        generalize upd G4 u2 (.tup [.int b.1, .int x]) = G5 at hu5 hN5 hF5 hL5 rfN5 rfF5 rfq5 tH5
        refine ⟨F, _, _, rfl, rfl, hF5, (by rw [List.length_map]; omega), ?_⟩
        have tupK2 : ∀ {p' : Addr} {zs : List V}, G5 p' = some (.tup zs) → (upd G5 F (.lst (pf.map V.ref ++ [.ref u2]))) p' = some (.tup zs) := fun {p' zs} e => by
          rw [upd_ne (fun z => by rw [z, hF5] at e; cases e)]
          exact e
        refine ⟨⟨_, _, rfl⟩, ⟨?_, fun c o nc e => ?_⟩, by rw [upd_ne nL9F]; exact hL5, rfq5.mono fun p zs e => tupK2 e, pn ++ [u], tr ++ [(b, x)], pf ++ [u2], by rw [upd_ne nFD.symm]; exact hN5, rfN5.mono fun p zs e => tupK2 e, etr4, un4, by rw [upd_same, List.map_append]; rfl, ?_⟩
        · obtain ⟨x', y', e, z⟩ := tH5.1
          exact ⟨x', y', by rw [upd_ne nFr.symm]; exact e, z⟩
        · rw [upd_ne (ne_of_none e fF)]
          exact tH5.2 c o nc e
        · rw [em]
          exact (rfF5.mono fun p zs e => tupK2 e).app (Refs.one (t := (b.1, x)) (tupK2 hu5))
    · rintro σ G ⟨⟨x7, x8, rfl⟩, tG, hLG, rfqG, pn, tr, pf, hNG, rfNG, etr, un, hFG, rfFG⟩
      rw [List.length_map, qkl, List.take_length] at etr
      have tl : tr.length = Lo.length := by rw [← etr, List.length_map]
      have fll : (mmOf tr).length ≤ tr.length := by unfold mmOf; rw [List.length_map]; exact List.length_filter_le _ _
      have fl2 := rfFG.len
      have nl := rfNG.len
      refine ⟨_, rfl, _, rfl, r, F, _, rfl, tG.1, hFG, nFr, (by rw [List.length_map]; omega), fun l ys G2 hl t2 hl2 pm2 => ?_⟩
      have rfF2 : Refs prV G2 pf (mmOf tr) := rfFG.mono fun p xs e => t2.2 p _ (tG.1.tup e) e
      obtain ⟨ps2, mm, rfl, rfM2, pmM⟩ := refs_pm rfF2 pm2
      have hN2 := t2.2 _ _ nD2 hNG
      have rfN2 : Refs blkV G2 pn (Kp ++ tr.map newOf) := rfNG.mono fun p xs e => t2.2 p _ (tG.1.tup e) e
      obtain ⟨k1, k2⟩ := un.keys gd rfN2
      have tH2 := tG.trans t2
      refine ⟨_, rfl, D2, _, keyV G2, rfl, SqL.of hN2, k1, k2, fun zs a2 hs' hp ha2 => ?_⟩
      obtain ⟨qs', cs, rfl, rfC, pmC, wfC⟩ := un.sorted gd rfN2 hs' hp
      have s3 := same_upd (o := .lst (qs'.map V.ref)) ha2
      have ha3 : (upd G2 a2 (.lst (qs'.map V.ref))) a2 = some (.lst (qs'.map V.ref)) := upd_same
      have rfC3 := rfC.same s3
      have rfM3 := rfM2.same s3
      have hl3 := s3 _ _ hl2
      have tH3 := tH2.trans (Stp.same tH2.1 s3)
      have ha20 := tH2.free ha2
      generalize upd G2 a2 (.lst (qs'.map V.ref)) = G3 at s3 ha3 rfC3 rfM3 hl3 tH3
      refine ⟨(by show 2 ≤ sizeLine; decide), fun t ht => ?_⟩
      have s4 := same_upd (o := .tup [.ref l, .ref a2]) ht
      have tH4 := tH3.trans (Stp.same tH3.1 s4)
      have RR := (rr_of gd wf pmB2 (fun b hb => (inU b (pmL.mem_iff.mp hb)).2) etr wfC pmC).perm pmM
      have cl := pmC.length_eq
      rw [List.length_append, List.length_map] at cl
      refine q t l a2 ps2 qs' mm cs _ tH4 upd_same (tG.free hl) ha20 (s4 _ _ hl3) (rfM3.same s4) ⟨tH4.2 _ _ sr B.hs, s4 _ _ ha3, rfC3.same s4, wfC, gd, n1, n2, by omega⟩ RR ?_
      rw [pmM.length_eq]
      omega
end
end K34

set_option Elab.async false
set_option linter.all false
set_option maxRecDepth 100000
set_option maxHeartbeats 4000000
set_option pp.maxSteps 900
namespace K34
open PySem PySem.Spec PyProof.Rows L2 Gu Ex
section
variable {P : Program} {w : World} {K : PySem.W.Frag} {mg : Str → Option Value} {base : Heap} {f : Addr} {fd : FuncData}
def spWorld : Sp := fun vs H Q _ => ∃ r : Addr, vs = [.ref r] ∧ Rng H r ∧ ∀ t s a ns n qs bs H', Stp r H H' → H' t = some (.tup [.ref s, .int n, .ref a]) → Lb ns n H' s a qs bs → s ≠ r → Q (.ref t) H'
theorem sc__law_world : FnScope ["_law_rng_here", "_law_sizes_here", "_law_near", "_law_length"] ["_law_rng_here"] (defScope (top 51)) := ⟨rfl, rfl, rfl, by decide +kernel, rfl, by decide +kernel, by decide +kernel⟩
theorem ok_world (T : Tx K mg) (D__law_draw : Df P w K mg base 1 "_law_draw" ["_law_rng_here", "_law_many"] spDraw) (D__law_sizes : Df P w K mg base 2 "_law_sizes" ["_law_rng_here", "_law_levels", "_law_greatest"] spSizes) (D__law_blocks : Df P w K mg base 2 "_law_blocks" ["_law_rng_here", "_law_sizes_here", "_law_length", "_law_many", "_law_one_in"] spBlocks)
    (F : FnP K "_law_world" "_law_world" (top 51) f fd) : FnOk P w K mg base CX0 3 f fd ["_law_rng_here"] spWorld := by
  refine F.ok sc__law_world (fun vs H Q E h => ?_) (fun cdv A outer s H vs Q E hr h => ⟨_, PSs.nox (pss_cons (ps_set (i := 1) sc__law_world.nd rfl (by first | exact Or.inl rfl | exact Or.inr rfl) (pcall D__law_sizes hr (pa_cons (pv 0) (pa_cons pe_int (pa_cons pe_int pa_nil))))) (pss_cons (ps_set (i := 2) sc__law_world.nd rfl (by first | exact Or.inl rfl | exact Or.inr rfl) (pe_op op_add (pe_op op_mul (pe_ix ix_list (pv 1) (pe_un un_neg pe_int) (fun _ _ => rfl)) (pe_op op_add pe_int (pcall D__law_draw hr (pa_cons (pv 0) (pa_cons pe_int pa_nil))))) (pcall D__law_draw hr (pa_cons (pv 0) (pa_cons pe_int pa_nil))))) (pss_cons (ps_set (i := 3) sc__law_world.nd rfl (by first | exact Or.inl rfl | exact Or.inr rfl) (pe_ix ix_list (pe_lst (pa_cons (pe_op op_add pe_int (pcall D__law_draw hr (pa_cons (pv 0) (pa_cons pe_int pa_nil)))) (pa_cons (pv 2) (pa_cons (pv 2) (pa_cons (pe_op op_add pe_int (pcall D__law_draw hr (pa_cons (pv 0) (pa_cons (pe_op op_pow pe_int pe_int) pa_nil)))) pa_nil))))) (pcall D__law_draw hr (pa_cons (pv 0) (pa_cons pe_int pa_nil))) (fun _ _ => rfl))) (pss_one (ps_ret (pe_tup (pa_cons (pv 1) (pa_cons (pv 3) (pa_cons (pcall D__law_blocks hr (pa_cons (pv 0) (pa_cons (pv 1) (pa_cons (pv 3) (pa_cons pe_int (pa_cons pe_int pa_nil)))))) pa_nil))))))))), ?_⟩)
  · obtain ⟨r, rfl, _⟩ := h
    rfl
  · obtain ⟨r, rfl, hR, q⟩ := h
    have big : (10 : Int) ^ 40 = 10000000000000000000000000000000000000000 := by decide
    have e12 : (10 : Int) ^ (12 : Int).toNat = 1000000000000 := by decide
    have pw12 : CPow 10 12 := ⟨by decide, by decide, by decide⟩
    have four : 4 ≤ sizeLine := by decide
    refine ⟨_, rfl, r, 6, 50, rfl, hR, by decide, by decide, by decide, by decide, fun s ns H1 gd hs0 hs t1 => ?_⟩
    have sr : s ≠ r := (hR.ne hs0).symm
    obtain ⟨ys, y, ens⟩ := last_of gd.len.1
    have ym : y ∈ ns := by rw [ens]; simp
    have yb : 1 ≤ y ∧ y ≤ 1000000000 := by
      obtain ⟨i, hi⟩ := List.mem_iff_getElem?.mp ym
      exact gd.rng i y hi
    have aty : atI (ns.map V.int) (-1) = some (.int y) := by rw [ens]; exact at_last ys y
    refine ⟨_, rfl, _, rfl, s, _, _, _, rfl, rfl, SqL.of hs, aty, _, rfl, r, 5, rfl, t1.1, by decide, by omega, fun d H2 d0 d1 t2 => ?_⟩
    have t12 := t1.trans t2
    have my : y ≤ y * (1 + d) ∧ y * (1 + d) ≤ y * 5 := ⟨by
      have := Int.mul_le_mul_of_nonneg_left (show 1 ≤ 1 + d by omega) (show 0 ≤ y by omega)
      omega, Int.mul_le_mul_of_nonneg_left (by omega) (by omega)⟩
    refine ⟨_, _, rfl, rfl, _, _, rfl, rfl, .inr ⟨by omega, by omega⟩, _, rfl, r, 3, rfl, t12.1, by decide, by omega, fun e H3 e0 e1 t3 => ⟨_, _, rfl, rfl, ?_⟩⟩
    dsimp only
    have nb : 1 ≤ y * (1 + d) + e ∧ y * (1 + d) + e ≤ 1000000000000 := by omega
    generalize y * (1 + d) + e = near at nb
    have t13 := t12.trans t3
    refine ⟨_, rfl, r, 30, rfl, t13.1, by decide, by omega, fun f1 H4 f10 f11 t4 => ⟨_, _, rfl, rfl, _, rfl, _, rfl, _, rfl, _, _, rfl, rfl, pw12, ?_⟩⟩
    have t14 := t13.trans t4
    dsimp only
    rw [e12]
    refine ⟨r, _, rfl, t14.1, by decide, by omega, fun f2 H5 f20 f21 t5 => ⟨_, _, rfl, rfl, four, fun p hp => ?_⟩⟩
    have t15 := t14.trans t5
    have t16 := t15.new (o := .lst [.int (4 + f1), .int near, .int near, .int (1 + f2)]) hp
    have npr : p ≠ r := (t15.1.ne hp).symm
    refine ⟨_, rfl, r, 4, rfl, t16.1, by decide, by omega, fun f3 H6 f30 f31 t7 => ?_⟩
    have t17 := t16.trans t7
    have hp7 : H6 p = some (.lst [.int (4 + f1), .int near, .int near, .int (1 + f2)]) := t7.2 _ _ npr upd_same
    obtain ⟨v3, a3, m3⟩ := at_of (xs := ([4 + f1, near, near, 1 + f2] : List Int).map V.int) f30 f31
    obtain ⟨len, rfl, len1, len2⟩ := of_mem (lo := 1) (hi := 1000000000000) m3 (by
      intro x hx
      rcases List.mem_cons.mp hx with z | hx
      · omega
      · rcases List.mem_cons.mp hx with z | hx
        · omega
        · rcases List.mem_cons.mp hx with z | hx
          · omega
          · rcases List.mem_cons.mp hx with z | hx
            · omega
            · cases hx)
    refine ⟨p, _, _, _, rfl, rfl, SqL.of hp7, a3, ?_⟩
    have u17 : Stp r H1 H6 := (((((Stp.refl t1.1).trans t2).trans t3).trans t4).trans t5).new (o := .lst [.int (4 + f1), .int near, .int near, .int (1 + f2)]) hp |>.trans t7
    have hs7 := u17.2 _ _ sr hs
    refine ⟨_, rfl, _, rfl, _, rfl, _, rfl, _, rfl, r, s, ns, len, 14, 4, rfl, t17.1, hs7, sr, gd, len1, len2, by decide, by decide, by decide, by decide, fun a qs bs H7 ha0 t8 ha7 rf7 wf7 bl7 => ?_⟩
    have t18 := t17.trans t8
    refine ⟨(by show 3 ≤ sizeLine; decide), fun t ht => ?_⟩
    have x8 := same_upd (o := .tup [.ref s, .int len, .ref a]) ht
    exact q t s a ns len qs bs _ (t18.new ht) upd_same ⟨x8 _ _ (t8.2 _ _ sr hs7), x8 _ _ ha7, rf7.same x8, wf7, gd, len1, len2, by omega⟩ sr
end
end K34

set_option Elab.async false
set_option linter.all false
set_option maxRecDepth 100000
set_option maxHeartbeats 4000000
set_option pp.maxSteps 900
namespace K34
open PySem PySem.Spec PyProof.Rows L2 Gu Ex
theorem mem_snoc_fst {l : List Int} {a k : Int} : k ∈ l ++ [a] ↔ k ∈ l ∨ k = a := by
  rw [List.mem_append, List.mem_singleton]
section
variable {P : Program} {w : World} {K : PySem.W.Frag} {mg : Str → Option Value} {base : Heap} {f : Addr} {fd : FuncData}
/-- the new addresses -/
def newsOf (ms : List Mo) : List Int := ms.filterMap fun m => m.map Prod.snd
theorem news_take {ms : List Mo} {i : Nat} {a b : Int} (h : ms[i]? = some (some (a, b))) : newsOf (ms.take (i + 1)) = newsOf (ms.take i) ++ [b] := by
  unfold newsOf
  rw [take_at h, List.filterMap_append]
  rfl
/-- the i-th one is a move, of an address that no earlier one moves, to one that no earlier one moves to -/
def Gm (ms : List Mo) (i : Nat) : Prop := ∃ a b, ms[i]? = some (some (a, b)) ∧ mvB (some (a, b)) = true ∧ a ∉ oldsOf (ms.take i) ∧ b ∉ newsOf (ms.take i)
def OkL : Option (List Mo) → Prop
  | none => False
  | some ms => ∀ i, i < ms.length → Gm ms i
def FstL : Option (List Mo) → Nat → Prop
  | none, i => i = 0
  | some ms, i => i < ms.length ∧ (∀ j, j < i → Gm ms j) ∧ ¬ Gm ms i
theorem FstL.uniq {o : Option (List Mo)} {i j : Nat} (h : FstL o i) (k : FstL o j) : i = j := by
  cases o with
  | none =>
    have h1 : i = 0 := h
    have h2 : j = 0 := k
    rw [h1, h2]
  | some ms =>
    obtain ⟨il, h1, h2⟩ := h
    obtain ⟨jl, k1, k2⟩ := k
    rcases Nat.lt_trichotomy i j with z | z | z
    · exact absurd (k1 i z) h2
    · exact z
    · exact absurd (h1 j z) k2
theorem FstL.no {o : Option (List Mo)} {i : Nat} (h : FstL o i) : ¬ OkL o := by
  cases o with
  | none => exact fun z => z
  | some ms => exact fun z => h.2.2 (z i h.1)
def LenL (o : Option (List Mo)) : Prop := ∀ ms, o = some ms → ms.length ≤ 200
def spCheckM (K : PySem.W.Frag) : Sp := fun vs H Q E => ∃ (v : V) (o : Option (List Mo)), vs = [v] ∧ Th H v o ∧ LenL o ∧ (OkL o → ∀ H', Same H H' → Q .non H') ∧ ∀ i : Nat, FstL o i → Raised K "InvalidMoves" "position" (.int i) H E
theorem sc_check_moves : FnScope ["value", "olds", "news", "position", "move"] ["value"] (defScope (top 34)) := ⟨rfl, rfl, rfl, by decide +kernel, rfl, by decide +kernel, by decide +kernel⟩
theorem ok_checkM (T : Tx K mg) (D_is_move : Df P w K mg base 3 "is_move" ["value"] spMove) (M : Ex.Ei P w K mg base "InvalidMoves" "position") (F : FnP K "check_moves" "check_moves" (top 34) f fd) : FnOk P w K mg base (L2.CX P w) 4 f fd ["value"] (spCheckM K) := by
  obtain ⟨fdI, FI, bI⟩ := M.ex
  refine F.ok sc_check_moves (fun vs H Q E h => ?_) (fun cdv A outer s H vs Q E hr h => ⟨_, (pss_cons (ps_if (pt_not (pt_val (pe_callB call_isi (by rfl) T.n_isinstance (by decide +kernel) (pa_cons (pv 0) (pa_cons (pe_bltn (v := .ty "list") (by rfl) T.n_list (by decide +kernel) rfl) pa_nil))))) (pss_one (ps_raise rfl (takes_of (E := E) rfl rfl rfl rfl) (pmk_oexG T.eM.ox T.eM.ii T.eM.ti FI (hr.mono (by decide)) bI .nil pass0 rfl T.g_InvalidMoves (pa_cons pe_int pa_nil)))) pss_nil) (pss_cons (ps_set (i := 1) sc_check_moves.nd rfl (by first | exact Or.inl rfl | exact Or.inr rfl) (pe_callTy0 cr_set0 (by rfl) T.n_set (by decide +kernel))) (pss_cons (ps_set (i := 2) sc_check_moves.nd rfl (by first | exact Or.inl rfl | exact Or.inr rfl) (pe_callTy0 cr_set0 (by rfl) T.n_set (by decide +kernel))) (pss_one (ps_for (passes_of rfl) rfl (pi_enum rfl T.n_enumerate (pa_cons (pv 0) pa_nil)) (pg_tup (by rfl) (pgs_cons (pg_name (i := 3) sc_check_moves.nd rfl (by first | exact Or.inl rfl | exact Or.inr rfl)) (pgs_cons (pg_name (i := 4) sc_check_moves.nd rfl (by first | exact Or.inl rfl | exact Or.inr rfl)) pgs_nil))) (pss_cons (ps_if (PW.pt (pw_or (pt_not (pt_val (pcall D_is_move hr (pa_cons (pv 4) pa_nil)))) (pw_or (pt_cmpR or_sin (pe_ix ix_tup (pv 4) pe_int (fun _ _ => rfl)) (pv 1) (by rfl)) (pw_or1 (pt_cmpR or_sin (pe_ix ix_tup (pv 4) pe_int (fun _ _ => rfl)) (pv 2) (by rfl)))))) (pss_one (ps_raise rfl (takes_of (E := E) rfl rfl rfl rfl) (pmk_oexG T.eM.ox T.eM.ii T.eM.ti FI (hr.mono (by decide)) bI .nil pass0 rfl T.g_InvalidMoves (pa_cons (pv 3) pa_nil)))) pss_nil) (pss_cons (ps_expr (pe_sadd (pv 1) (pa_cons (pe_ix ix_tup (pv 4) pe_int (fun _ _ => rfl)) pa_nil))) (pss_one (ps_expr (pe_sadd (pv 2) (pa_cons (pe_ix ix_tup (pv 4) pe_int (fun _ _ => rfl)) pa_nil))))))))))), ?_⟩)
  · obtain ⟨v, o, rfl, _⟩ := h
    rfl
  · obtain ⟨v, o, rfl, th, l2, q, qX⟩ := h
    have sb : 300 < scanBound := by decide +kernel
    have kt : kitB "list" "list" = some true := by decide +kernel
    cases th with
    | other an nl =>
      rcases an.ls (K := K) with ⟨t, xs, rfl, e⟩ | ⟨_, Ty, ty, k⟩
      · exact absurd e (nl t xs rfl)
      · exact ⟨_, rfl, _, _, _, _, _, rfl, .ty "list", ty, kit_ty k, _, rfl, iteT ⟨(by show 1 ≤ 1000; decide), raise_ok (qX 0 rfl)⟩⟩
    | @list a xs ms ha rf x1000 =>
    have l2 := l2 ms rfl
    have pl := rf.len
    refine ⟨_, rfl, _, _, _, _, _, rfl, .ty "list", .base (.lst ha), kit_ty kt, _, rfl, iteF ?_⟩
    refine ⟨rfl, fun O hO => ?_⟩
    refine ⟨rfl, fun N hN => ?_⟩
    have s0 := same_upd (o := SetO w O (fun _ => false) 0) hO
    have s1 := same_upd (o := SetO w N (fun _ => false) 0) hN
    have hO1 : (upd (upd H O (SetO w O (fun _ => false) 0)) N (SetO w N (fun _ => false) 0)) O = some (SetO w O (fun _ => false) 0) := s1 _ _ upd_same
    have hN1 : (upd (upd H O (SetO w O (fun _ => false) 0)) N (SetO w N (fun _ => false) 0)) N = some (SetO w N (fun _ => false) 0) := upd_same
    have nON : O ≠ N := ne_of_none upd_same hN
    have s01 := s0.trans s1
    have fN : H N = none := s0.free hN
    have ha1 := s01 _ _ ha
    refine ⟨_, rfl, a, _, rfl, SqL.of ha1, ?_⟩
    refine for_it (walk_enum (xs := xs)) (fun i σ G => ∃ (x3 x4 : Option V) (SO SN : Int → Bool) (kO kN : Nat), σ = [some (.ref a), some (.ref O), some (.ref N), x3, x4] ∧ Same H G ∧ G O = some (SetO w O SO kO) ∧ G N = some (SetO w N SN kN) ∧ kO ≤ i ∧ kN ≤ i ∧ (∀ k, SO k = true ↔ k ∈ oldsOf (ms.take i)) ∧ (∀ k, SN k = true ↔ k ∈ newsOf (ms.take i)) ∧ ∀ j, j < i → Gm ms j)
      ⟨none, none, _, _, 0, 0, rfl, s01, hO1, hN1, Nat.le_refl _, Nat.le_refl _, fun k => by simp [oldsOf], fun k => by simp [newsOf], fun j z => absurd z (Nat.not_lt_zero j)⟩ (fun i σ G _ ⟨_, _, _, _, _, _, _, sm, _⟩ => SqL.of (sm _ _ ha)) ?_ ?_
    · rintro i x σ G1 G2 hi ⟨x3, x4, SO, SN, kO, kN, rfl, sm, hGO, hGN, k1, k2, f1, f2, hall⟩ ⟨T', y1, y2, rfl, hT, rfl, e1, e2⟩
      cases e1
      have hx : xs[i]? = some y2 := e2
      obtain ⟨m, hm, hmv⟩ := rf.get hx
      have il := (List.getElem?_eq_some_iff.mp hm).1
      have sT := same_upd (o := .tup [.int (i : Nat), y2]) hT
      have hGO2 := sT _ _ hGO
      have hGN2 := sT _ _ hGN
      have sm2 := sm.trans sT
      refine ⟨T', _, rfl, .inl (.inl upd_same), rfl, _, _, rfl, _, _, rfl, rfl, ?_⟩
      generalize upd G1 T' (.tup [.int (i : Nat), y2]) = G at *
      refine ⟨_, rfl, y2, m, rfl, hmv.same sm2, _, rfl, ?_⟩
      have bad : ¬ Gm ms i → Raised K "InvalidMoves" "position" (.int (i : Nat)) G E := fun h => (qX i ⟨il, hall, h⟩).same sm2
      cases hmb : mvB m with
      | false =>
        refine ifT rfl ⟨_, rfl, (by show 1 ≤ 1000; decide), raise_ok (bad ?_)⟩
        rintro ⟨a1, b1, e, g0, _⟩
        rw [hm] at e
        cases e
        rw [hmb] at g0
        cases g0
      | true =>
        refine ifF rfl ?_
        cases hmv with
        | other _ _ => cases hmb
        | odd _ _ _ _ => cases hmb
        | @mv p a1 b1 hTm =>
          have hTm2 := sm2 _ _ hTm
          refine ⟨_, rfl, p, _, _, _, rfl, rfl, .inl (.inl hTm2), rfl, _, rfl, a1, O, _, _, rfl, rfl, hGO2, _, rfl, ?_⟩
          by_cases no1 : SO a1 = true
          · refine ifT no1 ⟨_, rfl, (by show 1 ≤ 1000; decide), raise_ok (bad ?_)⟩
            rintro ⟨a2, b2, e, _, g1, _⟩
            rw [hm] at e
            cases e
            exact g1 ((f1 _).mp no1)
          have no1 : SO a1 = false := by simpa using no1
          refine ifF no1 ?_
          refine ⟨_, rfl, p, _, _, _, rfl, rfl, .inl (.inl hTm2), rfl, _, rfl, b1, N, _, _, rfl, rfl, hGN2, _, rfl, ?_⟩
          by_cases no2 : SN b1 = true
          · refine ifT no2 ⟨_, rfl, (by show 1 ≤ 1000; decide), raise_ok (bad ?_)⟩
            rintro ⟨a2, b2, e, _, _, g1⟩
            rw [hm] at e
            cases e
            exact g1 ((f2 _).mp no2)
          have no2 : SN b1 = false := by simpa using no2
          refine ifF no2 ?_
          refine ⟨_, rfl, ⟨O, _, _, rfl, hGO2⟩, _, rfl, p, _, _, _, rfl, rfl, .inl (.inl hTm2), rfl, O, a1, SO, kO, rfl, rfl, hGO2, by omega, ?_⟩
          have nOp : p ≠ O := fun z => by rw [z, hGO2] at hTm2; cases hTm2
          have nNp : p ≠ N := fun z => by rw [z, hGN2] at hTm2; cases hTm2
          refine ⟨_, rfl, ⟨N, _, _, rfl, (by rw [upd_ne nON.symm]; exact hGN2)⟩, _, rfl, p, _, _, _, rfl, rfl, .inl (.inl (by rw [upd_ne nOp]; exact hTm2)), rfl, N, b1, SN, kN, rfl, rfl, (by rw [upd_ne nON.symm]; exact hGN2), by omega, ?_⟩
          refine ⟨_, _, fun j => SO j || decide (j = a1), fun j => SN j || decide (j = b1), if SO a1 = true then kO else kO + 1, if SN b1 = true then kN else kN + 1, rfl, fun c o e => ?_, (by rw [upd_ne nON, upd_same]; rfl), (by rw [upd_same]; rfl), ?_, ?_, fun k => ?_, fun k => ?_, fun j hj => ?_⟩
          · rw [upd_ne (ne_of_none e fN), upd_ne (ne_of_none e hO)]
            exact sm2 c o e
          · split <;> omega
          · split <;> omega
          · rw [olds_take hm, Bool.or_eq_true, f1, decide_eq_true_eq]
            exact mem_snoc_fst.symm
          · rw [news_take hm, Bool.or_eq_true, f2, decide_eq_true_eq]
            exact mem_snoc_fst.symm
          · rcases Nat.lt_or_ge j i with z | z
            · exact hall j z
            · obtain rfl : j = i := by omega
              refine ⟨a1, b1, hm, hmb, fun z => ?_, fun z => ?_⟩
              · rw [(f1 _).mpr z] at no1
                cases no1
              · rw [(f2 _).mpr z] at no2
                cases no2
    · rintro σ G ⟨x3, x4, SO, SN, kO, kN, rfl, sm, _, _, _, _, _, _, hall⟩
      exact q (fun i hi => hall i (by rw [pl]; exact hi)) G sm
theorem mvs_refs {H : Hp} {xs : List V} {ms : List Mo} (h : Mvs H xs ms) : (∀ i, i < ms.length → ∃ a b, ms[i]? = some (some (a, b))) → ∃ (ps : List Addr) (mm : List Pr), xs = ps.map V.ref ∧ ms = mm.map some ∧ Refs prV H ps mm := by
  induction h with
  | nil => exact fun _ => ⟨[], [], rfl, rfl, .nil⟩
  | cons mv _ ih =>
    intro hs
    obtain ⟨ps, mm, rfl, rfl, r⟩ := ih fun i hi => hs (i + 1) (Nat.succ_lt_succ hi)
    obtain ⟨a, b, e⟩ := hs 0 (Nat.succ_pos _)
    cases e
    cases mv with
    | @mv t a b e2 => exact ⟨t :: ps, (a, b) :: mm, rfl, rfl, .cons e2 r⟩
theorem Th.okL {H : Hp} {v : V} {o : Option (List Mo)} (h : Th H v o) (ok : OkL o) : ∃ (a : Addr) (ps : List Addr) (mm : List Pr), v = .ref a ∧ H a = some (.lst (ps.map V.ref)) ∧ Refs prV H ps mm ∧ o = some (mm.map some) := by
  cases h with
  | other => exact ok.elim
  | @list a xs ms e m l =>
    obtain ⟨ps, mm, rfl, rfl, r⟩ := mvs_refs m fun i hi => by
      obtain ⟨a, b, e, _⟩ := ok i hi
      exact ⟨a, b, e⟩
    exact ⟨a, ps, mm, rfl, e, r, rfl⟩
theorem pr_pairs {K : PySem.W.Frag} {G : Hp} {qs : List Addr} {ts : List Pr} (h : Refs prV G qs ts) {x : V} (hx : x ∈ qs.map V.ref) : ∃ t, x = V.ref t ∧ G t = some (.tup [.int (prA G x).1, .int (prA G x).2]) := (pr_refs h).2 x hx
def spInv (K : PySem.W.Frag) : Sp := fun vs H Q E => ∃ (v : V) (o : Option (List Mo)), vs = [v] ∧ Th H v o ∧ LenL o ∧ (OkL o → ∀ u H', Same H H' → Q u H') ∧ ∀ i : Nat, FstL o i → Raised K "InvalidMoves" "position" (.int i) H E
theorem sc_inverse : FnScope ["moves", "old", "new"] ["moves"] (defScope (top 35)) := ⟨rfl, rfl, rfl, by decide +kernel, rfl, by decide +kernel, by decide +kernel⟩
theorem ok_inv (T : Tx K mg) (D_check_moves : DfX P w K mg base 4 "check_moves" ["value"] (spCheckM K)) (F : FnP K "inverse" "inverse" (top 35) f fd) : FnOk P w K mg base (L2.CX P w) 5 f fd ["moves"] (spInv K) := by
  refine F.ok sc_inverse (fun vs H Q E h => ?_) (fun cdv A outer s H vs Q E hr h => ⟨_, (pss_cons (ps_expr (pcallX D_check_moves hr (passX (takes_of (E := E) rfl rfl rfl rfl)) (pa_cons (pv 0) pa_nil))) (pss_one (ps_ret (pe_callB cr_sortedPO (by rfl) T.n_sorted (by decide +kernel) (pa_cons (pe_lc (own := [("old", 1), ("new", 2)]) (g := gTup K 2 (gCons (gName 1) (gCons (gName 2) gNil))) rfl sc_inverse.nd (pi_list (pv 0)) (blkOk_by (own := [("old", 1), ("new", 2)]) (N := ["moves", "old", "new"]) (sc := defScope (top 35)) (by decide +kernel)) (fun _ _ _ _ _ => pg_tup rfl (pgs_cons (pg_name (i := 1) sc_inverse.nd rfl (Or.inl rfl)) (pgs_cons (pg_name (i := 2) sc_inverse.nd rfl (Or.inl rfl)) pgs_nil))) (fun _ _ _ _ _ => pts_nil) (fun _ _ _ _ _ => (pe_tup (pa_cons (pv 2) (pa_cons (pv 1) pa_nil))))) pa_nil))))), ?_⟩)
  · obtain ⟨v, o, rfl, _⟩ := h
    rfl
  · obtain ⟨v, o, rfl, th, l2, q, qX⟩ := h
    have sl : sizeLine = 16777216 := sizeLine_eq
    refine ⟨_, rfl, v, o, rfl, th, l2, fun ok H1 s1 => ?_, qX⟩
    obtain ⟨a, ps, mm, rfl, ha, rf, rfl⟩ := th.okL ok
    have l2 : mm.length ≤ 200 := by
      have := l2 _ rfl
      rwa [List.length_map] at this
    have ha1 := s1 _ _ ha
    have rf1 := rf.same s1
    have pl := rf.len
    refine ⟨_, rfl, a, rfl, ⟨_, SqL.of ha1⟩, fun D hD => ?_⟩
    refine lc_list (K := K) (a := a) (xs := ps.map V.ref) (fun i G => ∃ ps', G D = some (.lst (ps'.map V.ref)) ∧ Refs prV G ps' ((mm.take i).map fun m => (m.2, m.1)) ∧ Same H1 G) ⟨[], upd_same, .nil, same_upd hD⟩ (fun i G _ ⟨_, _, _, sm⟩ => SqL.of (sm _ _ ha1)) ?_ ?_
    · rintro i x G hx ⟨ps', hG, rf', sm⟩
      obtain ⟨p, hp, rfl⟩ := ref_of hx
      obtain ⟨m, hm, hT⟩ := (rf1.same sm).get hp
      have hT' : G p = some (.tup [.int m.1, .int m.2]) := hT
      have il := (List.getElem?_eq_some_iff.mp hm).1
      have ql := rf'.len
      rw [List.length_map, List.length_take] at ql
      refine ⟨p, _, rfl, .inl (.inl hT'), rfl, _, _, rfl, _, _, rfl, rfl, rfl, _, rfl, _, rfl, (by show 2 ≤ sizeLine; decide), fun u hu => ?_⟩
      have su := same_upd (o := .tup [.int m.2, .int m.1]) hu
      have hu2 : (upd G u (.tup [.int m.2, .int m.1])) u = some (.tup (prV (m.2, m.1))) := upd_same
      have hG2 := su _ _ hG
      have rf2 := rf'.same su
      have sm2 := sm.trans su
      generalize upd G u (.tup [.int m.2, .int m.1]) = G2 at *
      refine ⟨_, hG2, (by rw [List.length_map]; omega), ps' ++ [u], by rw [upd_same, List.map_append]; rfl, ?_, fun c o e => ?_⟩
      · rw [take_snoc hm, List.map_append]
        refine ((rf2.app (Refs.one hu2)).mono fun c zs ec => ?_)
        rw [upd_ne (fun z => by rw [z, hG2] at ec; cases ec)]
        exact ec
      · rw [upd_ne (ne_of_none e hD)]
        exact sm2 c o e
    rintro G ⟨ps', hG, rfG, sm⟩
    rw [List.length_map, pl, List.take_length] at rfG
    refine ⟨D, _, prA G, rfl, SqL.of hG, (pr_refs rfG).2, fun zs L so sb hL => ?_⟩
    obtain ⟨qk, rfl, rfq⟩ := pairs_sorted rfG so sb
    have s9 := same_upd (o := .lst (qk.map V.ref)) hL
    have s19 := s1.trans sm
    exact q ok _ _ (s19.trans s9)
end
end K34

set_option Elab.async false
set_option linter.all false
set_option maxRecDepth 100000
set_option maxHeartbeats 4000000
set_option pp.maxSteps 900
namespace K34
open PySem PySem.Spec PyProof.Rows L2 Gu Ex
section
variable {P : Program} {w : World} {K : PySem.W.Frag} {mg : Str → Option Value} {base : Heap} {f : Addr} {fd : FuncData}
/-- one of both lists is told -/
def spComp (K : PySem.W.Frag) : Sp := fun vs H Q E => ∃ (v1 v2 : V) (o1 o2 : Option (List Mo)), vs = [v1, v2] ∧ Th H v1 o1 ∧ Th H v2 o2 ∧ LenL o1 ∧ LenL o2 ∧ ¬ (OkL o1 ∧ OkL o2) ∧ ∀ i : Nat, (FstL o1 i ∨ (OkL o1 ∧ FstL o2 i)) → Raised K "InvalidMoves" "position" (.int i) H E
theorem sc_composed : FnScope ["first", "second", "onward", "moves", "old", "between", "new"] ["first", "second"] (defScope (top 36)) := ⟨rfl, rfl, rfl, by decide +kernel, rfl, by decide +kernel, by decide +kernel⟩
theorem ok_comp (T : Tx K mg) (D_check_moves : DfX P w K mg base 4 "check_moves" ["value"] (spCheckM K)) (F : FnP K "composed" "composed" (top 36) f fd) : FnOk P w K mg base (L2.CX P w) 5 f fd ["first", "second"] (spComp K) := by
  refine F.ok sc_composed (fun vs H Q E h => ?_) (fun cdv A outer s H vs Q E hr h => ⟨_, (pss_cons (ps_expr (pcallX D_check_moves hr (passX (takes_of (E := E) rfl rfl rfl rfl)) (pa_cons (pv 0) pa_nil))) (pss_cons (ps_expr (pcallX D_check_moves hr (passX (takes_of (E := E) rfl rfl rfl rfl)) (pa_cons (pv 1) pa_nil))) (pss_cons (ps_setDc (i := 2) (own := [("old", 4), ("new", 6)]) (g := gTup K 2 (gCons (gName 4) (gCons (gName 6) gNil))) rfl sc_composed.nd rfl rfl (sw_trueD rfl rfl rfl (by decide +kernel)) (pi_list (pv 1)) (blkOk_by (own := [("old", 4), ("new", 6)]) (N := ["first", "second", "onward", "moves", "old", "between", "new"]) (sc := defScope (top 36)) (by decide +kernel)) (fun _ _ _ _ _ => pg_tup rfl (pgs_cons (pg_name (i := 4) sc_composed.nd rfl (Or.inl rfl)) (pgs_cons (pg_name (i := 6) sc_composed.nd rfl (Or.inl rfl)) pgs_nil))) (fun _ _ _ _ _ => pts_nil) (fun _ _ _ _ _ => (pv 4)) (fun _ _ _ _ _ => (pv 6))) (pss_cons (ps_set (i := 3) sc_composed.nd rfl (by first | exact Or.inl rfl | exact Or.inr rfl) (pe_lst pa_nil)) (pss_cons (ps_for (passes_of rfl) rfl (pi_list (pv 0)) (pg_tup (by rfl) (pgs_cons (pg_name (i := 4) sc_composed.nd rfl (by first | exact Or.inl rfl | exact Or.inr rfl)) (pgs_cons (pg_name (i := 5) sc_composed.nd rfl (by first | exact Or.inl rfl | exact Or.inr rfl)) pgs_nil))) (pss_one (ps_expr (pe_bm PySem.F.plainAttrs_list PySem.F.slot_list_append PySem.F.type_list_append mt_append (pv 3) (pa_cons (pe_tup (pa_cons (pv 4) (pa_cons (pe_dpop2 (pv 2) (pv 5) (pv 5) ⟨rfl, rfl, rfl, rfl⟩) pa_nil))) pa_nil))))) (pss_cons (ps_aug (i := 3) sc_composed.nd rfl (by first | exact Or.inl rfl | exact Or.inr rfl) (LiI.pe_listItems rfl (pv 2) (by rfl) T.n_list (by decide +kernel)) iop_ext) (pss_one (ps_ret (pe_callB cr_sortedPO (by rfl) T.n_sorted (by decide +kernel) (pa_cons (pe_lc (own := [("old", 4), ("new", 6)]) (g := gTup K 2 (gCons (gName 4) (gCons (gName 6) gNil))) rfl sc_composed.nd (pi_list (pv 3)) (blkOk_by (own := [("old", 4), ("new", 6)]) (N := ["first", "second", "onward", "moves", "old", "between", "new"]) (sc := defScope (top 36)) (by decide +kernel)) (fun _ _ _ _ _ => pg_tup rfl (pgs_cons (pg_name (i := 4) sc_composed.nd rfl (Or.inl rfl)) (pgs_cons (pg_name (i := 6) sc_composed.nd rfl (Or.inl rfl)) pgs_nil))) (fun _ _ _ _ _ => (pts_one (pt_cmpR op_ne (pv 4) (pv 6) (nomark _)))) (fun _ _ _ _ _ => (pe_tup (pa_cons (pv 4) (pa_cons (pv 6) pa_nil))))) pa_nil)))))))))), ?_⟩)
  · obtain ⟨v1, v2, o1, o2, rfl, _⟩ := h
    rfl
  · obtain ⟨v1, v2, o1, o2, rfl, t1, t2, l1, l2, no, q⟩ := h
    refine ⟨_, rfl, v1, o1, rfl, t1, l1, fun ok H1 s1 => ?_, fun i h => q i (.inl h)⟩
    refine ⟨_, rfl, v2, o2, rfl, t2.same s1, l2, fun ok2 H2 s2 => absurd ⟨ok, ok2⟩ no, fun i h => (q i (.inr ⟨ok, h⟩)).same s1⟩
end
end K34

set_option Elab.async false
set_option linter.all false
set_option maxRecDepth 100000
set_option maxHeartbeats 4000000
/-! xs != [] -/
namespace L2
open PySem PySem.Spec PyProof.Rows
section
variable {X : Cx}
def rNeNil (K : PySem.W.Frag) : R2 := fun x y H Q => ∃ a b xs, x = .ref a ∧ y = .ref b ∧ SqL K H a xs ∧ SqL K H b [] ∧ Q (.bl (!decide (xs.length = 0))) H
theorem op_neNil (hu : X.A.units + 64 < cLine) : OpR X (compareOp .NotEq) (rNeNil X.K) := by
  intro pins s σ H x y v u Q I rx ry h
  obtain ⟨a, b, xs, rfl, rfl, ha, hb, q⟩ := h
  cases rx
  cases ry
  obtain ⟨us, r1, p1, _⟩ := I.list ha
  obtain ⟨ws, r2, p2, _⟩ := I.list hb
  cases r2
  have hl := r1.length
  by_cases hz : xs.length = 0
  · rw [decide_eq_true hz] at q
    have hs : us.toArray.size = (#[] : Array Value).size := by rw [List.size_toArray, ← hl, hz]; rfl
    refine SeqAt.RcNeAt.lists (e := fun _ => true) p1.isList p2.isList hs (by omega) (fun j h1 h2 => absurd h2 (Nat.not_lt_zero j)) X.prog X.w _ _ ?_
    rw [show ((List.range us.toArray.size).all fun _ => true) = true from List.all_eq_true.mpr fun _ _ => rfl]
    exact ⟨.bl false, H, I, rfl, q⟩
  · rw [decide_eq_false hz] at q
    refine SeqAt.RcNeAt.lists_lengths p1.isList p2.isList ?_ (by omega) X.prog X.w _ _ ⟨.bl true, H, I, rfl, q⟩
    have : us.toArray.size ≠ 0 := by rw [List.size_toArray, ← hl]; exact hz
    simpa using this
end
end L2

set_option Elab.async false
set_option linter.all false
set_option maxRecDepth 100000
set_option maxHeartbeats 4000000
/-! xs == [] -/
namespace L2
open PySem PySem.Spec PyProof.Rows
section
variable {X : Cx}
def rEqNil (K : PySem.W.Frag) : R2 := fun x y H Q => ∃ a b xs, x = .ref a ∧ y = .ref b ∧ SqL K H a xs ∧ SqL K H b [] ∧ Q (.bl (decide (xs.length = 0))) H
theorem op_eqNil (hu : X.A.units + 64 < cLine) : OpR X (compareOp .Eq) (rEqNil X.K) := by
  intro pins s σ H x y v u Q I rx ry h
  obtain ⟨a, b, xs, rfl, rfl, ha, hb, q⟩ := h
  cases rx
  cases ry
  obtain ⟨us, r1, p1, _⟩ := I.list ha
  obtain ⟨ws, r2, p2, _⟩ := I.list hb
  cases r2
  have hl := r1.length
  by_cases hz : xs.length = 0
  · rw [decide_eq_true hz] at q
    have hs : us.toArray.size = (#[] : Array Value).size := by rw [List.size_toArray, ← hl, hz]; rfl
    refine SeqAt.eq_listAt (e := fun _ => true) p1.isList p2.isList hs (by omega) (fun j h1 h2 => absurd h2 (Nat.not_lt_zero j)) ?_
    rw [show ((List.range us.toArray.size).all fun _ => true) = true from List.all_eq_true.mpr fun _ _ => rfl]
    exact ⟨.bl true, H, I, rfl, q⟩
  · rw [decide_eq_false hz] at q
    refine SeqAt.eq_list_lengthsAt p1.isList p2.isList ?_ (by omega) ⟨.bl false, H, I, rfl, q⟩
    have : us.toArray.size ≠ 0 := by rw [List.size_toArray, ← hl]; exact hz
    simpa using this
end
end L2

set_option Elab.async false
set_option linter.all false
set_option maxRecDepth 100000
set_option maxHeartbeats 4000000
set_option pp.maxSteps 900
namespace K34
open PySem PySem.Spec PyProof.Rows L2 Gu Ex
section
variable {P : Program} {w : World} {K : PySem.W.Frag} {mg : Str → Option Value} {base : Heap} {f : Addr} {fd : FuncData}
/-- is it a move; new objects may have come -/
def spMoveS : Sp := fun vs H Q _ => ∃ (v : V) (m : Option (Int × Int)), vs = [v] ∧ Mv H v m ∧ ∀ H', Same H H' → Q (.bl (mvB m)) H'
theorem sc_is_rearrangement : FnScope ["layout", "value"] ["layout", "value"] (defScope (top 30)) := ⟨rfl, rfl, rfl, by decide +kernel, rfl, by decide +kernel, by decide +kernel⟩
theorem ok_isR (T : Tx K mg) (D_first_wrong_move : Df P w K mg base 9 "first_wrong_move" ["layout", "value"] (spWrong K)) (F : FnP K "is_rearrangement" "is_rearrangement" (top 30) f fd) : FnOk P w K mg base CX0 10 f fd ["layout", "value"] (spIsR K) := by
  refine F.ok sc_is_rearrangement (fun vs H Q E h => ?_) (fun cdv A outer s H vs Q E hr h => ⟨_, PSs.nox (pss_one (ps_ret (pe_cmpR op_isN (pcall D_first_wrong_move hr (pa_cons (pv 0) (pa_cons (pv 1) pa_nil))) pe_non (nomark _)))), ?_⟩)
  · obtain ⟨y, zp, bl, dx, ps, ns, n, bs, v, o, rfl, _⟩ := h
    rfl
  · obtain ⟨y, zp, bl, dx, ps, ns, n, bs, v, o, rfl, L, th, q⟩ := h
    refine ⟨_, rfl, _, rfl, y, zp, bl, dx, ps, ns, n, bs, v, o, rfl, L, th, fun ok H1 s1 => ?_, fun no p H1 _ s1 => ?_⟩
    · refine ⟨rfl, ?_⟩
      rw [decide_eq_true rfl]
      exact q true H1 ⟨fun _ => ok, fun _ => rfl⟩ s1
    · refine ⟨rfl, ?_⟩
      rw [decide_eq_false (show ¬ V.int p = V.non from fun z => nomatch z)]
      exact q false H1 ⟨fun z => (nomatch z), fun z => absurd z no⟩ s1
theorem sc__law_is_address : FnScope ["_law_value"] ["_law_value"] (defScope (top 53)) := ⟨rfl, rfl, rfl, by decide +kernel, rfl, by decide +kernel, by decide +kernel⟩
theorem ok_lawAddr (T : Tx K mg) (F : FnP K "_law_is_address" "_law_is_address" (top 53) f fd) : FnOk P w K mg base CX0 1 f fd ["_law_value"] spAddrA := by
  refine F.ok sc__law_is_address (fun vs H Q E h => ?_) (fun cdv A outer s H vs Q E hr h => ⟨_, PSs.nox (pss_one (ps_ret (pe_and (pe_callB call_isi (by rfl) T.n_isinstance (by decide +kernel) (pa_cons (pv 0) (pa_cons (pe_bltn (v := .ty "int") (by rfl) T.n_int (by decide +kernel) rfl) pa_nil))) (pe_and (pe_not (pe_callB call_isi (by rfl) T.n_isinstance (by decide +kernel) (pa_cons (pv 0) (pa_cons (pe_bltn (v := .ty "bool") (by rfl) T.n_bool (by decide +kernel) rfl) pa_nil)))) (pe_one (pe_cmpR op_ge (pv 0) pe_int (nomark _))))))), ?_⟩)
  · obtain ⟨v, rfl, _⟩ := h
    rfl
  · obtain ⟨v, rfl, hv, q⟩ := h
    obtain ⟨Ty, ty, k1, k2⟩ := hv.ty (K := K)
    refine ⟨_, rfl, _, _, _, _, _, rfl, .ty "int", ty, kit_ty k1, _, rfl, ?_⟩
    cases hx : (isI v || isB v) with
    | false =>
      have e2 : addrB v = false := by cases v <;> first | rfl | cases hx
      rw [e2] at q
      exact iteF q
    | true =>
      refine iteT ⟨_, rfl, _, _, _, _, _, rfl, .ty "bool", ty, kit_ty k2, _, rfl, _, rfl, ?_⟩
      cases v with
      | int i => exact iteT ⟨_, rfl, _, _, rfl, rfl, q⟩
      | bl b => exact iteF q
      | _ => cases hx
theorem sc__law_is_move : FnScope ["_law_value", "_law_one"] ["_law_value"] (defScope (top 54)) := ⟨rfl, rfl, rfl, by decide +kernel, rfl, by decide +kernel, by decide +kernel⟩
theorem ok_lawMove (T : Tx K mg) (D__law_is_address : Df P w K mg base 1 "_law_is_address" ["_law_value"] spAddrA) (F : FnP K "_law_is_move" "_law_is_move" (top 54) f fd) : FnOk P w K mg base CX0 2 f fd ["_law_value"] spMoveS := by
  refine F.ok sc__law_is_move (fun vs H Q E h => ?_) (fun cdv A outer s H vs Q E hr h => ⟨_, PSs.nox (pss_cons (ps_if (PW.pt (pw_or (pt_not (pt_val (pe_callB call_isi (by rfl) T.n_isinstance (by decide +kernel) (pa_cons (pv 0) (pa_cons (pe_bltn (v := .ty "tuple") (by rfl) T.n_tuple (by decide +kernel) rfl) pa_nil))))) (pw_or (pt_cmpR op_ne (pe_callB call_len_seq (by rfl) T.n_len (by decide +kernel) (pa_cons (pv 0) pa_nil)) pe_int (nomark _)) (pw_or1 (pt_not (pt_val (pe_callB (cr_all rfl) (by rfl) T.n_all (by decide +kernel) (pa_cons (pe_lc (own := [("_law_one", 1)]) (g := gName 1) rfl sc__law_is_move.nd (pi_tup (pv 0)) (blkOk_by (own := [("_law_one", 1)]) (N := ["_law_value", "_law_one"]) (sc := defScope (top 54)) (by decide +kernel)) (fun _ _ _ _ _ => pg_name (i := 1) sc__law_is_move.nd rfl (Or.inl rfl)) (fun _ _ _ _ _ => pts_nil) (fun _ _ _ _ _ => (pcall D__law_is_address hr (pa_cons (pv 1) pa_nil)))) pa_nil)))))))) (pss_one (ps_ret pe_bl)) pss_nil) (pss_one (ps_ret (pe_cmpR op_ne (pe_ix ix_tup (pv 0) pe_int (fun _ _ => rfl)) (pe_ix ix_tup (pv 0) pe_int (fun _ _ => rfl)) (nomark _))))), ?_⟩)
  · obtain ⟨v, m, rfl, _⟩ := h
    rfl
  · obtain ⟨v, m, rfl, hm, q⟩ := h
    have kt : kitB "tuple" "tuple" = some true := by decide +kernel
    have cls : (m = none ∧ Any H v ∧ ∀ t zs, v = .ref t → H t = some (.tup zs) → zs.length ≠ 2) ∨ ∃ t x y, v = .ref t ∧ H t = some (.tup [x, y]) ∧ Any H x ∧ Any H y ∧ ((∃ a b, x = .int a ∧ y = .int b ∧ m = some (a, b)) ∨ (m = none ∧ (isI x && isI y) = false)) := by
      cases hm with
      | other an nl => exact .inl ⟨rfl, an, nl⟩
      | mv e => exact .inr ⟨_, _, _, rfl, e, .int _, .int _, .inl ⟨_, _, rfl, rfl, rfl⟩⟩
      | odd e ax ay no => exact .inr ⟨_, _, _, rfl, e, ax, ay, .inr ⟨rfl, no⟩⟩
    rcases cls with ⟨em, an, nl⟩ | ⟨t, x, y, rfl, et, ax, ay, hxy⟩
    · subst em
      rcases an.tp (K := K) with ⟨t, zs, rfl, e⟩ | ⟨no, Ty, ty, k⟩
      · refine ⟨_, rfl, _, _, _, _, _, rfl, .ty "tuple", .base (.tup e), kit_ty kt, _, rfl, iteF ?_⟩
        refine ⟨_, rfl, t, _, rfl, .inr (SqT.of e), rfl, _, rfl, ifT ?_ (q H (Same.refl H))⟩
        rw [vF (show ((zs.length : Nat) : Int) ≠ 2 from fun z => nl t zs rfl e (by omega))]
        rfl
      · exact ⟨_, rfl, _, _, _, _, _, rfl, .ty "tuple", ty, kit_ty k, _, rfl, iteT (q H (Same.refl H))⟩
    refine ⟨_, rfl, _, _, _, _, _, rfl, .ty "tuple", .base (.tup et), kit_ty kt, _, rfl, iteF ?_⟩
    refine ⟨_, rfl, t, _, rfl, .inr (SqT.of et), rfl, _, rfl, ifF rfl ?_⟩
    refine ⟨_, rfl, t, rfl, ⟨_, SqT.of et⟩, fun C hC => ?_⟩
    refine lc_tup (K := K) (a := t) (xs := [x, y]) (fun i G' => G' C = some (.lst ((([x, y].take i).map addrB).map V.bl)) ∧ Same H G') ⟨upd_same, same_upd hC⟩ (fun i G' _ h => SqT.of (h.2 _ _ et)) ?_ ?_
    · rintro i' x' G' hx' ⟨hG', sm'⟩
      have an : Any G' x' := by
        have hmem := List.mem_of_getElem? hx'
        simp only [List.mem_cons, List.not_mem_nil, or_false] at hmem
        rcases hmem with rfl | rfl
        · exact ax.same sm'
        · exact ay.same sm'
      have il' := (List.getElem?_eq_some_iff.mp hx').1
      have il2 : i' < 2 := il'
      have sl : sizeLine = 16777216 := sizeLine_eq
      refine ⟨rfl, _, rfl, x', rfl, an, _, hG', (by rw [List.length_map, List.length_map, List.length_take]; omega), ?_, fun c o e => ?_⟩
      · rw [upd_same, take_at hx', List.map_append, List.map_append]
        rfl
      · rw [upd_ne (ne_of_none e hC)]
        exact sm' c o e
    rintro GC ⟨hC1, sC⟩
    refine ⟨C, [addrB x, addrB y], rfl, SqL.of hC1, _, rfl, ?_⟩
    have etC := sC _ _ et
    by_cases hab : (addrB x && addrB y) = true
    case neg =>
      have hab' : ([addrB x, addrB y].all id) = false := by
        cases h1 : addrB x <;> cases h2 : addrB y <;> first | rfl | (rw [h1, h2] at hab; exact absurd rfl hab)
      refine ifT (by rw [hab']; rfl) ?_
      rcases hxy with ⟨a1, b1, rfl, rfl, rfl⟩ | ⟨rfl, _⟩
      · have e3 : mvB (some (a1, b1)) = false := by
          show (decide (0 ≤ a1) && (decide (0 ≤ b1) && !decide (a1 = b1))) = false
          have h1 : ¬ ((decide (0 ≤ a1) && decide (0 ≤ b1)) = true) := hab
          rw [Bool.and_eq_true, decide_eq_true_eq, decide_eq_true_eq] at h1
          by_cases z1 : 0 ≤ a1
          · have z2 : ¬ 0 ≤ b1 := fun z => h1 ⟨z1, z⟩
            rw [decide_eq_false z2, Bool.false_and, Bool.and_false]
          · rw [decide_eq_false z1, Bool.false_and]
        rw [e3] at q
        exact q GC sC
      · exact q GC sC
    have hab' : ([addrB x, addrB y].all id) = true := by
      cases h1 : addrB x <;> cases h2 : addrB y <;> first | rfl | (rw [h1, h2] at hab; exact absurd hab (by decide))
    refine ifF (by rw [hab']; rfl) ?_
    rcases hxy with ⟨a1, b1, rfl, rfl, rfl⟩ | ⟨_, no⟩
    case inr =>
      exfalso
      rw [Bool.and_eq_true] at hab
      rw [addr_int hab.1, addr_int hab.2] at no
      cases no
    have hab2 : (decide (0 ≤ a1) && decide (0 ≤ b1)) = true := hab
    rw [Bool.and_eq_true, decide_eq_true_eq, decide_eq_true_eq] at hab2
    refine ⟨_, rfl, t, _, _, _, rfl, rfl, .inl (.inl etC), rfl, _, rfl, t, _, _, _, rfl, rfl, .inl (.inl etC), rfl, rfl, ?_⟩
    have e3 : mvB (some (a1, b1)) = !decide (V.int a1 = V.int b1) := by
      show (decide (0 ≤ a1) && (decide (0 ≤ b1) && !decide (a1 = b1))) = _
      rw [decide_eq_true hab2.1, decide_eq_true hab2.2]
      by_cases z : a1 = b1
      · rw [vT z, decide_eq_true z]; rfl
      · rw [vF z, decide_eq_false z]; rfl
    rw [e3] at q
    exact q GC sC
end
end K34

set_option Elab.async false
set_option linter.all false
set_option maxRecDepth 100000
set_option maxHeartbeats 4000000
set_option pp.maxSteps 900
namespace K34
open PySem PySem.Spec PyProof.Rows L2 Gu Ex
/-- the first i values of a list of moves are moves -/
theorem Mvs.move {H : Hp} {xs : List V} {ms : List Mo} (h : Mvs H xs ms) {j : Nat} {x : V} (hx : xs[j]? = some x) {a b : Int} (e : ms[j]? = some (some (a, b))) : ∃ t, x = .ref t ∧ H t = some (.tup [.int a, .int b]) := by
  obtain ⟨m, hm, mv⟩ := h.get hx
  rw [e] at hm
  cases hm
  cases mv with
  | mv e2 => exact ⟨_, rfl, e2⟩
theorem olds_len (ms : List Mo) (j : Nat) : (oldsOf (ms.take j)).length ≤ ms.length := by
  have := List.length_filterMap_le (fun m : Mo => m.map Prod.fst) (ms.take j)
  rw [List.length_take] at this
  unfold oldsOf
  omega
theorem news_len (ms : List Mo) (j : Nat) : (newsOf (ms.take j)).length ≤ ms.length := by
  have := List.length_filterMap_le (fun m : Mo => m.map Prod.snd) (ms.take j)
  rw [List.length_take] at this
  unfold newsOf
  omega
section
variable {P : Program} {w : World} {K : PySem.W.Frag} {mg : Str → Option Value} {base : Heap} {f : Addr} {fd : FuncData}
def spLP : Sp := fun vs H Q _ => ∃ (v : V) (o : Option (List Mo)), vs = [v] ∧ Th H v o ∧ (OkL o → ∀ H', Same H H' → Q .non H') ∧ ∀ (i : Nat) H', FstL o i → Same H H' → Q (.int i) H'
theorem sc__law_list_problem : FnScope ["_law_value", "_law_k", "_law_row", "_law_one"] ["_law_value"] (defScope (top 55)) := ⟨rfl, rfl, rfl, by decide +kernel, rfl, by decide +kernel, by decide +kernel⟩
theorem ok_lp (T : Tx K mg) (D__law_is_move : Df P w K mg base 2 "_law_is_move" ["_law_value"] spMoveS) (F : FnP K "_law_list_problem" "_law_list_problem" (top 55) f fd) : FnOk P w K mg base CX0 3 f fd ["_law_value"] spLP := by
  refine F.ok sc__law_list_problem (fun vs H Q E h => ?_) (fun cdv A outer s H vs Q E hr h => ⟨_, PSs.nox (pss_cons (ps_if (pt_not (pt_val (pe_callB call_isi (by rfl) T.n_isinstance (by decide +kernel) (pa_cons (pv 0) (pa_cons (pe_bltn (v := .ty "list") (by rfl) T.n_list (by decide +kernel) rfl) pa_nil))))) (pss_one (ps_ret pe_int)) pss_nil) (pss_cons (ps_for PassesOwn.never rfl (pi_enum rfl T.n_enumerate (pa_cons (pv 0) pa_nil)) (pg_tup (by rfl) (pgs_cons (pg_name (i := 1) sc__law_list_problem.nd rfl (by first | exact Or.inl rfl | exact Or.inr rfl)) (pgs_cons (pg_name (i := 2) sc__law_list_problem.nd rfl (by first | exact Or.inl rfl | exact Or.inr rfl)) pgs_nil))) (pss_one (ps_if (PW.pt (pw_or (pt_not (pt_val (pcall D__law_is_move hr (pa_cons (pv 2) pa_nil)))) (pw_or (pt_cmpR (r := rIn K false) op_in_seq (pe_ix (r := rIxT K) ix_tup (pv 2) pe_int (fun _ _ => rfl)) (pe_lc (own := [("_law_one", 3)]) (g := gName 3) rfl sc__law_list_problem.nd (pi_list (pe_slice sl_list (pv 0) po_none (po_some (pv 1)))) (blkOk_by (own := [("_law_one", 3)]) (N := ["_law_value", "_law_k", "_law_row", "_law_one"]) (sc := defScope (top 55)) (by decide +kernel)) (fun _ _ _ _ _ => pg_name (i := 3) sc__law_list_problem.nd rfl (Or.inl rfl)) (fun _ _ _ _ _ => pts_nil) (fun _ _ _ _ _ => (pe_ix (r := rIxT K) ix_tup (pv 3) pe_int (fun _ _ => rfl)))) rfl) (pw_or1 (pt_cmpR (r := rIn K false) op_in_seq (pe_ix (r := rIxT K) ix_tup (pv 2) pe_int (fun _ _ => rfl)) (pe_lc (own := [("_law_one", 3)]) (g := gName 3) rfl sc__law_list_problem.nd (pi_list (pe_slice sl_list (pv 0) po_none (po_some (pv 1)))) (blkOk_by (own := [("_law_one", 3)]) (N := ["_law_value", "_law_k", "_law_row", "_law_one"]) (sc := defScope (top 55)) (by decide +kernel)) (fun _ _ _ _ _ => pg_name (i := 3) sc__law_list_problem.nd rfl (Or.inl rfl)) (fun _ _ _ _ _ => pts_nil) (fun _ _ _ _ _ => (pe_ix (r := rIxT K) ix_tup (pv 3) pe_int (fun _ _ => rfl)))) rfl))))) (pss_one (ps_ret (pv 1))) pss_nil))) (pss_one (ps_ret pe_non)))), ?_⟩)
  · obtain ⟨v, o, rfl, _⟩ := h
    rfl
  · obtain ⟨v, o, rfl, th, q1, q2⟩ := h
    have sl : sizeLine = 16777216 := sizeLine_eq
    cases th with
    | other an nl =>
      rcases an.ls (K := K) with ⟨t, xs, rfl, e⟩ | ⟨_, Ty, ty, k⟩
      · exact absurd e (nl t xs rfl)
      · exact ⟨_, rfl, _, _, _, _, _, rfl, .ty "list", ty, kit_ty k, _, rfl, iteT (q2 0 H rfl (Same.refl H))⟩
    | @list L xs ms hL hm x1000 =>
      have xl := hm.len
      refine ⟨_, rfl, _, _, _, _, _, rfl, .ty "list", .base (.lst hL), kit_ty (show kitB "list" "list" = some true by decide +kernel), _, rfl, iteF ?_⟩
      refine ⟨_, rfl, L, _, rfl, SqL.of hL, ?_⟩
      refine for_it (walk_enum (xs := xs)) (fun i σ G => (∃ x1 x2, σ = [some (.ref L), x1, x2, none]) ∧ Same H G ∧ ∀ j, j < i → Gm ms j)
        ⟨⟨none, none, rfl⟩, Same.refl H, fun j hj => absurd hj (Nat.not_lt_zero j)⟩ (fun i σ G _ h => SqL.of (h.2.1 _ _ hL)) ?_ ?_
      · rintro i x σ GA GB hi ⟨⟨x1, x2, rfl⟩, sm, hall⟩ ⟨T', y1, y2, rfl, hT, rfl, e1, e2⟩
        cases e1
        have hx : xs[i]? = some y2 := e2
        obtain ⟨m, hmi, hmv⟩ := hm.get hx
        have il : i < ms.length := by rw [← hm.len]; exact hi
        have sT := same_upd (o := .tup [.int (i : Nat), y2]) hT
        have sm1 := sm.trans sT
        refine ⟨T', _, rfl, .inl (.inl upd_same), rfl, _, _, rfl, _, _, rfl, rfl, ?_⟩
        generalize (upd GA T' (.tup [.int (i : Nat), y2])) = G at *
        have bad : ∀ G', Same G G' → ¬ Gm ms i → Q (.int (i : Nat)) G' := fun G' s' h => q2 i G' ⟨il, hall, h⟩ (sm1.trans s')
        refine ⟨_, rfl, y2, m, rfl, hmv.same sm1, fun G1 s1 => ⟨_, rfl, ?_⟩⟩
        cases hmb : mvB m with
        | false =>
          refine ifT rfl ⟨_, rfl, bad G1 s1 ?_⟩
          rintro ⟨a1, b1, e, g0, _⟩
          rw [hmi] at e
          cases e
          rw [hmb] at g0
          cases g0
        | true =>
        refine ifF rfl ?_
        cases hmv with
        | other _ _ => cases hmb
        | odd _ _ _ _ => cases hmb
        | @mv t a1 b1 et0 =>
        have s01 := sm1.trans s1
        have et := s01 _ _ et0
        refine ⟨_, rfl, t, _, _, _, rfl, rfl, .inl (.inl et), rfl, ?_⟩
        have hLG := s01 _ _ hL
        refine ⟨_, rfl, _, rfl, _, rfl, L, _, rfl, SqL.of hLG, fun M hM => ?_⟩
        have sA := same_upd (o := .lst (cutV xs none (some (i : Int)))) hM
        have hA : (upd G1 M (.lst (cutV xs none (some (i : Int))))) M = some (.lst (xs.take i)) := by rw [upd_same, cut_to]
        generalize upd G1 M (.lst (cutV xs none (some (i : Int)))) = G2 at sA hA
        refine ⟨M, rfl, ⟨_, SqL.of hA⟩, fun C hC => ?_⟩
        refine lc_list (K := K) (a := M) (xs := xs.take i) (fun j G' => G' C = some (.lst ((oldsOf (ms.take j)).map V.int)) ∧ Same G2 G') ⟨upd_same, same_upd hC⟩ (fun j G' _ h => SqL.of (h.2 _ _ hA)) ?_ ?_
        · rintro j x G' hx ⟨hG', s'⟩
          have jl : j < i := by
            have := (List.getElem?_eq_some_iff.mp hx).1
            rw [List.length_take] at this
            omega
          rw [List.getElem?_take_of_lt jl] at hx
          obtain ⟨a2, b2, e2, _⟩ := hall j jl
          obtain ⟨t2, rfl, et2⟩ := hm.move hx e2
          have et3 := ((s01.trans sA).trans s') _ _ et2
          have le := olds_len ms j
          refine ⟨rfl, _, rfl, t2, _, _, _, rfl, rfl, .inl (.inl et3), rfl, _, hG', (by rw [List.length_map]; omega), ?_, fun c o e => ?_⟩
          · rw [upd_same, olds_take e2, List.map_append]
            rfl
          · rw [upd_ne (ne_of_none e hC)]
            exact s' c o e
        rintro GC ⟨hC1, sC⟩
        rw [List.length_take, Nat.min_eq_left (by omega)] at hC1
        have sAC := sA.trans sC
        have s0C := s01.trans sAC
        have s1C := s1.trans sAC
        have etC := sAC _ _ et
        refine ⟨C, _, rfl, .inl (SqL.of hC1), rfl, flat_ints _, _, rfl, ?_⟩
        rw [inV_ints]
        by_cases ho : a1 ∈ oldsOf (ms.take i)
        · refine ifT (decide_eq_true ho) ⟨_, rfl, bad GC s1C ?_⟩
          rintro ⟨a2, b2, e, _, g1, _⟩
          rw [hmi] at e
          cases e
          exact g1 ho
        refine ifF (decide_eq_false ho) ?_
        refine ⟨_, rfl, t, _, _, _, rfl, rfl, .inl (.inl etC), rfl, ?_⟩
        have hLC := s0C _ _ hL
        refine ⟨_, rfl, _, rfl, _, rfl, L, _, rfl, SqL.of hLC, fun N hN => ?_⟩
        have sB := same_upd (o := .lst (cutV xs none (some (i : Int)))) hN
        have hB : (upd GC N (.lst (cutV xs none (some (i : Int))))) N = some (.lst (xs.take i)) := by rw [upd_same, cut_to]
        generalize upd GC N (.lst (cutV xs none (some (i : Int)))) = G3 at sB hB
        refine ⟨N, rfl, ⟨_, SqL.of hB⟩, fun D hD => ?_⟩
        refine lc_list (K := K) (a := N) (xs := xs.take i) (fun j G' => G' D = some (.lst ((newsOf (ms.take j)).map V.int)) ∧ Same G3 G') ⟨upd_same, same_upd hD⟩ (fun j G' _ h => SqL.of (h.2 _ _ hB)) ?_ ?_
        · rintro j x G' hx ⟨hG', s'⟩
          have jl : j < i := by
            have := (List.getElem?_eq_some_iff.mp hx).1
            rw [List.length_take] at this
            omega
          rw [List.getElem?_take_of_lt jl] at hx
          obtain ⟨a2, b2, e2, _⟩ := hall j jl
          obtain ⟨t2, rfl, et2⟩ := hm.move hx e2
          have et3 := ((s0C.trans sB).trans s') _ _ et2
          have le := news_len ms j
          refine ⟨rfl, _, rfl, t2, _, _, _, rfl, rfl, .inl (.inl et3), rfl, _, hG', (by rw [List.length_map]; omega), ?_, fun c o e => ?_⟩
          · rw [upd_same, news_take e2, List.map_append]
            rfl
          · rw [upd_ne (ne_of_none e hD)]
            exact s' c o e
        rintro GD ⟨hD1, sD⟩
        rw [List.length_take, Nat.min_eq_left (by omega)] at hD1
        have sBD := sB.trans sD
        refine ⟨D, _, rfl, .inl (SqL.of hD1), rfl, flat_ints _, _, rfl, ?_⟩
        rw [inV_ints]
        by_cases hn : b1 ∈ newsOf (ms.take i)
        · refine ifT (decide_eq_true hn) ⟨_, rfl, bad GD (s1C.trans sBD) ?_⟩
          rintro ⟨a2, b2, e, _, _, g1⟩
          rw [hmi] at e
          cases e
          exact g1 hn
        refine ifF (decide_eq_false hn) ⟨⟨_, _, rfl⟩, s0C.trans sBD, fun j hj => ?_⟩
        rcases Nat.lt_or_ge j i with z | z
        · exact hall j z
        · obtain rfl : j = i := by omega
          exact ⟨a1, b1, hmi, hmb, ho, hn⟩
      · rintro σ G ⟨⟨x1, x2, rfl⟩, sm, hall⟩
        exact q1 (fun i hi => hall i (by rw [xl]; exact hi)) G sm
end
end K34

set_option Elab.async false
set_option linter.all false
set_option maxRecDepth 100000
set_option maxHeartbeats 4000000
set_option pp.maxSteps 900
namespace K34
open PySem PySem.Spec PyProof.Rows L2 Gu Ex
def kvP (m : Pr) : Key × V := (Sum.inl m.1, .int m.2)
theorem valV_P (a : Int) : ∀ l : List Pr, valV (l.map kvP) (Sum.inl a) = (l.find? fun m => decide (m.1 = a)).map fun m => V.int m.2
  | [] => rfl
  | m :: l => by
    by_cases e : m.1 = a
    · rw [List.map_cons, valV_pos (by unfold kvP; rw [e]), List.find?_cons_of_pos (by simpa using e)]
      rfl
    · rw [List.map_cons, valV_neg (fun z => e (by unfold kvP at z; exact Sum.inl.inj z)), List.find?_cons_of_neg (by simpa using e), valV_P a l]
theorem valV_none {a : Int} {l : List Pr} (h : a ∉ l.map Prod.fst) : valV (l.map kvP) (Sum.inl a) = none := by
  rw [valV_P, List.find?_eq_none.mpr]
  · rfl
  · intro m hm z
    exact h (List.mem_map.mpr ⟨m, hm, by simpa using z⟩)
theorem merge_P : ∀ (cs ds : List Pr), ((ds ++ cs).map Prod.fst).Nodup → mergeK (ds.map kvP) (cs.map kvP) = (ds ++ cs).map kvP
  | [], ds, _ => by rw [List.append_nil]; rfl
  | c :: cs, ds, h => by
    have no : valV (ds.map kvP) (Sum.inl c.1) = none := valV_none fun z => by
      rw [List.map_append, List.nodup_append] at h
      exact h.2.2 _ z _ (List.mem_map.mpr ⟨c, List.mem_cons_self, rfl⟩) rfl
    show mergeK (putK (ds.map kvP) (Sum.inl c.1) (.int c.2)) (cs.map kvP) = _
    rw [putK_new _ no]
    have e : ds.map kvP ++ [(Sum.inl c.1, V.int c.2)] = (ds ++ [c]).map kvP := by
      rw [List.map_append]
      rfl
    rw [e, merge_P cs (ds ++ [c]) (by rw [List.append_assoc]; exact h), List.append_assoc]
    rfl
theorem pr_paired {K : PySem.W.Frag} {G : Hp} {ps : List Addr} {cs : List Pr} (h : Refs prV G ps cs) : Paired (fun p kv => SqT K G p [kV kv.1, kv.2]) ps (cs.map kvP) := by
  induction h with
  | nil => exact .nil
  | cons e _ ih => exact .cons (SqT.of e) ih
/-- the new address, or the old one -/
def goK (mm : List Pr) (a : Int) : Int := ((mm.find? fun m => decide (m.1 = a)).map Prod.snd).getD a
theorem get_goK (mm : List Pr) (a : Int) : (valV (mm.map kvP) (Sum.inl a)).getD (.int a) = .int (goK mm a) := by
  rw [valV_P]
  unfold goK
  cases mm.find? fun m => decide (m.1 = a) <;> rfl
theorem goK_some {ns : List Int} {n : Int} {bs : List Blk} {mm : List Pr} (F : Fit ns n bs mm) {i : Nat} {a b : Int} (h : mm[i]? = some (a, b)) : goK mm a = b := by
  unfold goK
  cases e : mm.find? fun m => decide (m.1 = a) with
  | none =>
    have := List.find?_eq_none.mp e _ (List.mem_of_getElem? h)
    simp at this
  | some m =>
    obtain ⟨x, y⟩ := m
    have h1 : x = a := by simpa using List.find?_some e
    subst h1
    obtain ⟨j, hj⟩ := List.mem_iff_getElem?.mp (List.mem_of_find?_eq_some e)
    obtain rfl := F.nd i j _ _ _ h hj
    rw [h] at hj
    cases hj
    rfl
theorem goK_none {mm : List Pr} {a : Int} (h : a ∉ mm.map Prod.fst) : goK mm a = a := by
  unfold goK
  rw [List.find?_eq_none.mpr fun m hm z => h (List.mem_map.mpr ⟨m, hm, by simpa using z⟩)]
  rfl
theorem plc_now {ns : List Int} {n : Int} {bs : List Blk} {mm : List Pr} (F : Fit ns n bs mm) (c : Blk) : (plc ns mm c).1 = goK mm c.1 ∧ (plc ns mm c).2.1 = goK mm c.1 + sz ns c.2.1 := by
  by_cases z : c.1 ∈ mm.map Prod.fst
  · obtain ⟨i, b, h⟩ := olds_mem z
    unfold plc
    rw [goal_some F h, goK_some F h]
    exact ⟨rfl, rfl⟩
  · rw [plc_stays z, goK_none z]
    exact ⟨rfl, rfl⟩
/-- a block that the move's goal meets -/
def mtB (ns : List Int) (mm : List Pr) (m : Pr) (k : Nat) (c : Blk) : Bool := !decide (c.1 = m.1) && (decide (goK mm c.1 < m.2 + sz ns k) && decide (m.2 < goK mm c.1 + sz ns c.2.1))
theorem hit_any {ns : List Int} {n : Int} {bs : List Blk} {mm : List Pr} (w : Wf ns n bs) (g : Good ns) (F : Fit ns n bs mm) {i : Nat} {m : Pr} (h : mm[i]? = some m) {k : Nat} (hk : (m.1, k, false) ∈ bs) : HitB ns bs mm i ↔ ∃ c ∈ bs, mtB ns mm m k c = true := by
  obtain ⟨a, b⟩ := m
  rw [hit_law w g F h, lev_is w g hk]
  constructor
  · rintro ⟨c, hc, h1, h2, h3⟩
    rw [(plc_now F c).1] at h2
    rw [(plc_now F c).2] at h3
    refine ⟨c, hc, ?_⟩
    unfold mtB
    rw [decide_eq_false h1, decide_eq_true h2, decide_eq_true h3]
    rfl
  · rintro ⟨c, hc, e⟩
    unfold mtB at e
    rw [Bool.and_eq_true, Bool.and_eq_true, decide_eq_true_eq, decide_eq_true_eq] at e
    refine ⟨c, hc, fun z => ?_, ?_, ?_⟩
    · rw [decide_eq_true z] at e
      cases e.1
    · rw [(plc_now F c).1]
      exact e.2.1
    · rw [(plc_now F c).2]
      exact e.2.2
/-- old, now, size -/
def now (ns : List Int) (mm : List Pr) (c : Blk) : Pl := (c.1, goK mm c.1, sz ns c.2.1)
section
variable {P : Program} {w : World} {K : PySem.W.Frag} {mg : Str → Option Value} {base : Heap} {f : Addr} {fd : FuncData}
def spProb (K : PySem.W.Frag) : Sp := fun vs H Q _ => ∃ (s a : Addr) (ns : List Int) (n : Int) (qs : List Addr) (bs : List Blk) (v : V) (o : Option (List Mo)), vs = [.ref s, .int n, .ref a, v] ∧ Lb ns n H s a qs bs ∧ Th H v o ∧
  (OkR ns n bs o → ∀ H', Same H H' → Q .non H') ∧ ∀ (i : Nat) H', FstP ns n bs o i → Same H H' → Q (.int i) H'
theorem sc__law_problem : FnScope ["_law_sizes_here", "_law_length", "_law_blocks_here", "_law_value", "_law_ranks", "_law_ends", "_law_now", "_law_k", "_law_row", "_law_size", "_law_block", "_law_one"] ["_law_sizes_here", "_law_length", "_law_blocks_here", "_law_value"] (defScope (top 56)) := ⟨rfl, rfl, rfl, by decide +kernel, rfl, by decide +kernel, by decide +kernel⟩
theorem ok_prob (T : Tx K mg) (D__law_is_move : Df P w K mg base 2 "_law_is_move" ["_law_value"] spMoveS) (F : FnP K "_law_problem" "_law_problem" (top 56) f fd) : FnOk P w K mg base CX0 3 f fd ["_law_sizes_here", "_law_length", "_law_blocks_here", "_law_value"] (spProb K) := by
  refine F.ok sc__law_problem (fun vs H Q E h => ?_) (fun cdv A outer s H vs Q E hr h => ⟨_, PSs.nox (pss_cons (ps_if (pt_not (pt_val (pe_callB call_isi (by rfl) T.n_isinstance (by decide +kernel) (pa_cons (pv 3) (pa_cons (pe_bltn (v := .ty "list") (by rfl) T.n_list (by decide +kernel) rfl) pa_nil))))) (pss_one (ps_ret pe_int)) pss_nil) (pss_cons (ps_set (i := 4) sc__law_problem.nd rfl (by first | exact Or.inl rfl | exact Or.inr rfl) (pe_callTy (call_dictP rfl) (by rfl) T.n_dict (by decide +kernel) (pa_cons (pe_lc (own := [("_law_block", 10)]) (g := gName 10) rfl sc__law_problem.nd (pi_list (pv 2)) (blkOk_by (own := [("_law_block", 10)]) (N := ["_law_sizes_here", "_law_length", "_law_blocks_here", "_law_value", "_law_ranks", "_law_ends", "_law_now", "_law_k", "_law_row", "_law_size", "_law_block", "_law_one"]) (sc := defScope (top 56)) (by decide +kernel)) (fun _ _ _ _ _ => pg_name (i := 10) sc__law_problem.nd rfl (Or.inl rfl)) (fun _ _ _ _ _ => (pts_one (pt_not (pt_val (pe_ix (r := rIxT K) ix_tup (pv 10) pe_int (fun _ _ => rfl)))))) (fun _ _ _ _ _ => (pe_tup (pa_cons (pe_ix (r := rIxT K) ix_tup (pv 10) pe_int (fun _ _ => rfl)) (pa_cons (pe_ix (r := rIxT K) ix_tup (pv 10) pe_int (fun _ _ => rfl)) pa_nil))))) pa_nil))) (pss_cons (ps_for PassesOwn.never rfl (pi_enum rfl T.n_enumerate (pa_cons (pv 3) pa_nil)) (pg_tup (by rfl) (pgs_cons (pg_name (i := 7) sc__law_problem.nd rfl (by first | exact Or.inl rfl | exact Or.inr rfl)) (pgs_cons (pg_name (i := 8) sc__law_problem.nd rfl (by first | exact Or.inl rfl | exact Or.inr rfl)) pgs_nil))) (pss_cons (ps_if (PW.pt (pw_or (pt_not (pt_val (pcall D__law_is_move hr (pa_cons (pv 8) pa_nil)))) (pw_or (pt_cmp (pc_dnotin (u1 hr) (pe_ix (r := rIxT K) ix_tup (pv 8) pe_int (fun _ _ => rfl)) (pv 4))) (pw_or1 (pt_cmpR (r := rIn K false) op_in_seq (pe_ix (r := rIxT K) ix_tup (pv 8) pe_int (fun _ _ => rfl)) (pe_lc (own := [("_law_one", 11)]) (g := gName 11) rfl sc__law_problem.nd (pi_list (pe_slice sl_list (pv 3) po_none (po_some (pv 7)))) (blkOk_by (own := [("_law_one", 11)]) (N := ["_law_sizes_here", "_law_length", "_law_blocks_here", "_law_value", "_law_ranks", "_law_ends", "_law_now", "_law_k", "_law_row", "_law_size", "_law_block", "_law_one"]) (sc := defScope (top 56)) (by decide +kernel)) (fun _ _ _ _ _ => pg_name (i := 11) sc__law_problem.nd rfl (Or.inl rfl)) (fun _ _ _ _ _ => pts_nil) (fun _ _ _ _ _ => (pe_ix (r := rIxT K) ix_tup (pv 11) pe_int (fun _ _ => rfl)))) rfl))))) (pss_one (ps_ret (pv 7))) pss_nil) (pss_one (ps_if (PW.pt (pw_or (pt_cmpR op_ne (pe_op op_mod (pe_ix (r := rIxT K) ix_tup (pv 8) pe_int (fun _ _ => rfl)) (pe_ix ix_list (pv 0) (pe_dget (u1 hr) (pv 4) (pe_ix (r := rIxT K) ix_tup (pv 8) pe_int (fun _ _ => rfl)) (fun _ _ => rfl)) (fun _ _ => rfl))) pe_int (nomark _)) (pw_or1 (pt_cmpR op_gt (pe_op op_add (pe_ix (r := rIxT K) ix_tup (pv 8) pe_int (fun _ _ => rfl)) (pe_ix ix_list (pv 0) (pe_dget (u1 hr) (pv 4) (pe_ix (r := rIxT K) ix_tup (pv 8) pe_int (fun _ _ => rfl)) (fun _ _ => rfl)) (fun _ _ => rfl))) (pv 1) (nomark _))))) (pss_one (ps_ret (pv 7))) pss_nil)))) (pss_cons (ps_set (i := 5) sc__law_problem.nd rfl (by first | exact Or.inl rfl | exact Or.inr rfl) (pe_callTy (call_dictP rfl) (by rfl) T.n_dict (by decide +kernel) (pa_cons (pv 3) pa_nil))) (pss_cons (ps_setLc (i := 6) (own := [("_law_block", 10)]) (g := gName 10) rfl sc__law_problem.nd rfl rfl (sw_true rfl rfl rfl (by decide +kernel)) (pi_list (pv 2)) (blkOk_by (own := [("_law_block", 10)]) (N := ["_law_sizes_here", "_law_length", "_law_blocks_here", "_law_value", "_law_ranks", "_law_ends", "_law_now", "_law_k", "_law_row", "_law_size", "_law_block", "_law_one"]) (sc := defScope (top 56)) (by decide +kernel)) (fun _ _ _ _ _ => pg_name (i := 10) sc__law_problem.nd rfl (Or.inl rfl)) (fun _ _ _ _ _ => pts_nil) (fun _ _ _ _ _ => (pe_tup (pa_cons (pe_ix (r := rIxT K) ix_tup (pv 10) pe_int (fun _ _ => rfl)) (pa_cons (pe_dget2 (u1 hr) (pv 5) (pe_ix (r := rIxT K) ix_tup (pv 10) pe_int (fun _ _ => rfl)) (pe_ix (r := rIxT K) ix_tup (pv 10) pe_int (fun _ _ => rfl)) ⟨rfl, rfl, rfl, rfl⟩) (pa_cons (pe_ix (r := rIxL K) ix_list (pv 0) (pe_ix (r := rIxT K) ix_tup (pv 10) pe_int (fun _ _ => rfl)) (fun _ _ => rfl)) pa_nil)))))) (pss_cons (ps_for PassesOwn.never rfl (pi_enum rfl T.n_enumerate (pa_cons (pv 3) pa_nil)) (pg_tup (by rfl) (pgs_cons (pg_name (i := 7) sc__law_problem.nd rfl (by first | exact Or.inl rfl | exact Or.inr rfl)) (pgs_cons (pg_name (i := 8) sc__law_problem.nd rfl (by first | exact Or.inl rfl | exact Or.inr rfl)) pgs_nil))) (pss_cons (ps_set (i := 9) sc__law_problem.nd rfl (by first | exact Or.inl rfl | exact Or.inr rfl) (pe_ix ix_list (pv 0) (pe_dget (u1 hr) (pv 4) (pe_ix (r := rIxT K) ix_tup (pv 8) pe_int (fun _ _ => rfl)) (fun _ _ => rfl)) (fun _ _ => rfl))) (pss_one (ps_if (pt_cmpR (op_neNil hr.units) (pe_lc (own := [("_law_one", 11)]) (g := gName 11) rfl sc__law_problem.nd (pi_list (pv 6)) (blkOk_by (own := [("_law_one", 11)]) (N := ["_law_sizes_here", "_law_length", "_law_blocks_here", "_law_value", "_law_ranks", "_law_ends", "_law_now", "_law_k", "_law_row", "_law_size", "_law_block", "_law_one"]) (sc := defScope (top 56)) (by decide +kernel)) (fun _ _ _ _ _ => pg_name (i := 11) sc__law_problem.nd rfl (Or.inl rfl)) (fun _ _ _ _ _ => (pts_one (PW.pt (pw_and (pt_cmpR op_ne (pe_ix (r := rIxT K) ix_tup (pv 11) pe_int (fun _ _ => rfl)) (pe_ix (r := rIxT K) ix_tup (pv 8) pe_int (fun _ _ => rfl)) (nomark _)) (pw_and (pt_cmpR op_lt (pe_ix (r := rIxT K) ix_tup (pv 11) pe_int (fun _ _ => rfl)) (pe_op op_add (pe_ix (r := rIxT K) ix_tup (pv 8) pe_int (fun _ _ => rfl)) (pv 9)) (nomark _)) (pw_and1 (pt_cmpR op_lt (pe_ix (r := rIxT K) ix_tup (pv 8) pe_int (fun _ _ => rfl)) (pe_op op_add (pe_ix (r := rIxT K) ix_tup (pv 11) pe_int (fun _ _ => rfl)) (pe_ix (r := rIxT K) ix_tup (pv 11) pe_int (fun _ _ => rfl))) (nomark _)))))))) (fun _ _ _ _ _ => (pv 11))) (pe_lst pa_nil) (nomark _)) (pss_one (ps_ret (pv 7))) pss_nil)))) (pss_one (ps_ret pe_non)))))))), ?_⟩)
  · obtain ⟨s, a, ns, n, qs, bs, v, o, rfl, _⟩ := h
    rfl
  · obtain ⟨s, a, ns, n, qs, bs, v, o, rfl, B, th, q1, q2⟩ := h
    have sl : sizeLine = 16777216 := sizeLine_eq
    have pl := B.rf.len
    have bl := B.ln
    have wf := B.wf
    have gd := B.gd
    cases th with
    | other an nl =>
      rcases an.ls (K := K) with ⟨t, xs, rfl, e⟩ | ⟨_, Ty, ty, k⟩
      · exact absurd e (nl t xs rfl)
      · exact ⟨_, rfl, _, _, _, _, _, rfl, .ty "list", ty, kit_ty k, _, rfl, iteT (q2 0 H rfl (Same.refl H))⟩
    | @list L xs ms hL hm x1000 =>
      have xl := hm.len
      refine ⟨_, rfl, _, _, _, _, _, rfl, .ty "list", .base (.lst hL), kit_ty (show kitB "list" "list" = some true by decide +kernel), _, rfl, iteF ?_⟩
      refine ⟨_, rfl, a, rfl, ⟨_, SqL.of B.ha⟩, fun D hD => ?_⟩
      refine lc_list (K := K) (a := a) (xs := qs.map V.ref) (fun i G => ∃ ps', G D = some (.lst (ps'.map V.ref)) ∧ Refs lvV G ps' ((bs.take i).filter fun b => !b.2.2) ∧ Same H G) ⟨[], upd_same, .nil, same_upd hD⟩ (fun i G _ ⟨_, _, _, sm⟩ => SqL.of (sm _ _ B.ha)) ?_ ?_
      · rintro i x G hx ⟨ps', hG, rf', sm⟩
        obtain ⟨p, hp, rfl⟩ := ref_of hx
        obtain ⟨b, hb, hT⟩ := (B.rf.same sm).get hp
        have hT' : G p = some (.tup [.int b.1, .int (b.2.1 : Nat), .bl b.2.2]) := hT
        have il := (List.getElem?_eq_some_iff.mp hb).1
        have fa := filter_at (fun b => !b.2.2) hb
        have fl := List.length_filter_le (fun b : Blk => !b.2.2) (bs.take i)
        rw [List.length_take] at fl
        have ql := rf'.len
        refine ⟨rfl, _, rfl, p, _, _, _, rfl, rfl, .inl (.inl hT'), rfl, _, rfl, ?_⟩
        cases hq : b.2.2 with
        | true =>
          rw [hq] at fa
          refine iteF ⟨ps', hG, ?_, sm⟩
          rw [fa]
          simpa using rf'
        | false =>
          rw [hq] at fa
          refine iteT ⟨_, rfl, p, _, _, _, rfl, rfl, .inl (.inl hT'), rfl, _, rfl, p, _, _, _, rfl, rfl, .inl (.inl hT'), rfl, (by show 2 ≤ sizeLine; decide), fun u hu => ?_⟩
          have su := same_upd (o := .tup [.int b.1, .int (b.2.1 : Nat)]) hu
          have hu2 : (upd G u (.tup [.int b.1, .int (b.2.1 : Nat)])) u = some (.tup (lvV b)) := upd_same
          have hG2 := su _ _ hG
          have rf2 := rf'.same su
          have sm2 := sm.trans su
          generalize upd G u (.tup [.int b.1, .int (b.2.1 : Nat)]) = G2 at *
          refine ⟨_, hG2, (by rw [List.length_map]; omega), ps' ++ [u], by rw [upd_same, List.map_append]; rfl, ?_, fun c o e => ?_⟩
          · rw [fa]
            refine ((rf2.app (Refs.one hu2)).mono fun c zs ec => ?_)
            rw [upd_ne (fun z => by rw [z, hG2] at ec; cases ec)]
            exact ec
          · rw [upd_ne (ne_of_none e hD)]
            exact sm2 c o e
      rintro G1 ⟨ps1, hG1, rf1, s1⟩
      rw [List.length_map, pl, List.take_length] at rf1
      refine ⟨D, ps1, lvK (unpB bs), rfl, SqL.of hG1, lv_paired rf1, fun Dl hDl => ?_⟩
      have em : mergeK [] (lvK (unpB bs)) = lvK (unpB bs) := merge_lv (unpB bs) [] (by rw [List.nil_append]; exact (wf.rise gd).filter _)
      rw [em]
      have s2 := s1.trans (same_upd (o := .dK (lvK (unpB bs))) hDl)
      have hL2 : (upd G1 Dl (.dK (lvK (unpB bs)))) Dl = some (.dK (lvK (unpB bs))) := upd_same
      generalize upd G1 Dl (.dK (lvK (unpB bs))) = G2 at s2 hL2
      refine ⟨_, rfl, L, _, rfl, SqL.of (s2 _ _ hL), ?_⟩
      refine for_it (walk_enum (xs := xs)) (fun i σ G => (∃ x7 x8, σ = [some (.ref s), some (.int n), some (.ref a), some (.ref L), some (.ref Dl), none, none, x7, x8, none, none, none]) ∧ Same H G ∧ G Dl = some (.dK (lvK (unpB bs))) ∧ ∀ j, j < i → Gd ns n bs ms j)
        ⟨⟨none, none, rfl⟩, s2, hL2, fun j hj => absurd hj (Nat.not_lt_zero j)⟩ (fun i σ G _ h => SqL.of (h.2.1 _ _ hL)) ?_ ?_
      · rintro i x σ GA GB hi ⟨⟨x7, x8, rfl⟩, sm, hLG, hall⟩ ⟨T', y1, y2, rfl, hT, rfl, e1, e2⟩
        cases e1
        have hx : xs[i]? = some y2 := e2
        obtain ⟨m, hmi, hmv⟩ := hm.get hx
        have il : i < ms.length := by rw [← hm.len]; exact hi
        have sT := same_upd (o := .tup [.int (i : Nat), y2]) hT
        have sm1 := sm.trans sT
        have hL1 := sT _ _ hLG
        refine ⟨T', _, rfl, .inl (.inl upd_same), rfl, _, _, rfl, _, _, rfl, rfl, ?_⟩
        generalize (upd GA T' (.tup [.int (i : Nat), y2])) = G at *
        have bad : ∀ G', Same G G' → ¬ Gd ns n bs ms i → Q (.int (i : Nat)) G' := fun G' s' h => q2 i G' ⟨il, .inl ⟨hall, h⟩⟩ (sm1.trans s')
        refine ⟨_, rfl, y2, m, rfl, hmv.same sm1, fun G1 s1 => ⟨_, rfl, ?_⟩⟩
        cases hmb : mvB m with
        | false =>
          refine ifT rfl ⟨_, rfl, bad G1 s1 ?_⟩
          rintro ⟨a1, b1, k, e, g0, g1, g2, _⟩
          rw [hmi] at e
          cases e
          have : mvB (some (a1, b1)) = true := by
            show (decide (0 ≤ a1) && (decide (0 ≤ b1) && !decide (a1 = b1))) = true
            rw [decide_eq_true g0, decide_eq_true g1, decide_eq_false g2]
            rfl
          rw [this] at hmb
          cases hmb
        | true =>
        refine ifF rfl ?_
        cases hmv with
        | other _ _ => cases hmb
        | odd _ _ _ _ => cases hmb
        | @mv t a1 b1 et0 =>
        have hmb' : (decide (0 ≤ a1) && (decide (0 ≤ b1) && !decide (a1 = b1))) = true := hmb
        simp only [Bool.and_eq_true, decide_eq_true_eq, Bool.not_eq_true', decide_eq_false_iff_not] at hmb'
        obtain ⟨g0, g1, ne1⟩ := hmb'
        have s01 := sm1.trans s1
        have et := s01 _ _ et0
        have hD1 := s1 _ _ hL1
        refine ⟨_, rfl, t, _, _, _, rfl, rfl, .inl (.inl et), rfl, _, rfl, Dl, _, rfl, DGet.k (k := Sum.inl a1) hD1, _, rfl, ?_⟩
        by_cases hin : ∃ k, (a1, k, false) ∈ bs
        case neg =>
          have hv : valV (lvK (unpB bs)) (Sum.inl a1) = none := lvK_none fun c hc e => by
            obtain ⟨h1, h2⟩ := List.mem_filter.mp hc
            have h3 : c.2.2 = false := by simpa using h2
            exact hin ⟨c.2.1, by rw [← h3, ← e]; exact h1⟩
          refine ifT (by rw [hv]; rfl) ⟨_, rfl, bad G1 s1 ?_⟩
          rintro ⟨a2, b2, k, e, _, _, _, g3, _⟩
          rw [hmi] at e
          cases e
          exact hin ⟨k, g3⟩
        obtain ⟨k, hk⟩ := hin
        have hv : valV (lvK (unpB bs)) (Sum.inl a1) = some (.int (k : Nat)) := lvK_get (cs := unpB bs) (b := (a1, k, false)) ((wf.rise gd).filter _) (List.mem_filter.mpr ⟨hk, rfl⟩)
        refine ifF (by rw [hv]; rfl) ?_
        refine ⟨_, rfl, t, _, _, _, rfl, rfl, .inl (.inl et), rfl, ?_⟩
        have hLG1 := s01 _ _ hL
        refine ⟨_, rfl, _, rfl, _, rfl, L, _, rfl, SqL.of hLG1, fun M hM => ?_⟩
        have sA := same_upd (o := .lst (cutV xs none (some (i : Int)))) hM
        have hA : (upd G1 M (.lst (cutV xs none (some (i : Int))))) M = some (.lst (xs.take i)) := by rw [upd_same, cut_to]
        generalize upd G1 M (.lst (cutV xs none (some (i : Int)))) = G2 at sA hA
        refine ⟨M, rfl, ⟨_, SqL.of hA⟩, fun C hC => ?_⟩
        refine lc_list (K := K) (a := M) (xs := xs.take i) (fun j G' => G' C = some (.lst ((oldsOf (ms.take j)).map V.int)) ∧ Same G2 G') ⟨upd_same, same_upd hC⟩ (fun j G' _ h => SqL.of (h.2 _ _ hA)) ?_ ?_
        · rintro j x G' hx ⟨hG', s'⟩
          have jl : j < i := by
            have := (List.getElem?_eq_some_iff.mp hx).1
            rw [List.length_take] at this
            omega
          rw [List.getElem?_take_of_lt jl] at hx
          obtain ⟨a2, b2, _, e2, _⟩ := hall j jl
          obtain ⟨t2, rfl, et2⟩ := hm.move hx e2
          have et3 := ((s01.trans sA).trans s') _ _ et2
          have le := olds_len ms j
          refine ⟨rfl, _, rfl, t2, _, _, _, rfl, rfl, .inl (.inl et3), rfl, _, hG', (by rw [List.length_map]; omega), ?_, fun c o e => ?_⟩
          · rw [upd_same, olds_take e2, List.map_append]
            rfl
          · rw [upd_ne (ne_of_none e hC)]
            exact s' c o e
        rintro GC ⟨hC1, sC0⟩
        rw [List.length_take, Nat.min_eq_left (by omega)] at hC1
        have sC := s1.trans (sA.trans sC0)
        have smC := s01.trans (sA.trans sC0)
        have etC := smC _ _ et0
        have hLC := (sA.trans sC0) _ _ hD1
        refine ⟨C, _, rfl, .inl (SqL.of hC1), rfl, flat_ints _, _, rfl, ?_⟩
        rw [inV_ints]
        by_cases ho : a1 ∈ oldsOf (ms.take i)
        · refine ifT (decide_eq_true ho) ⟨_, rfl, bad GC sC ?_⟩
          rintro ⟨a2, b2, k, e, _, _, _, _, g4, _⟩
          rw [hmi] at e
          cases e
          exact g4 ho
        refine ifF (decide_eq_false ho) ?_
        have kl : k < ns.length := (wf.ok _ hk).1
        have z1 := (chain gd).pos k kl
        have hsC := smC _ _ B.hs
        have only : ∀ {a2 b2 : Int} {k2 : Nat}, (a2, k2, false) ∈ bs → a2 = a1 → k2 = k := fun {a2 b2 k2} h e => by
          subst e
          exact (lev_is wf gd h).symm.trans (lev_is wf gd hk)
        refine ⟨_, rfl, t, _, _, _, rfl, rfl, .inl (.inl etC), rfl, _, rfl, _, rfl, _, rfl, t, _, _, _, rfl, rfl, .inl (.inl etC), rfl, Dl, _, rfl, (by rw [← hv]; exact DGet.k (k := Sum.inl a1) hLC), s, _, _, _, rfl, rfl, SqL.of hsC, at_sz kl, _, _, rfl, rfl, (by show (0 : Int) < sz ns k; omega), rfl, _, rfl, ?_⟩
        by_cases hm0 : V.int (b1 % sz ns k) = V.int 0
        case neg =>
          refine ifT (by rw [decide_eq_false hm0]; rfl) ⟨_, rfl, bad GC sC ?_⟩
          rintro ⟨a2, b2, k2, e, _, _, _, g3, _, g5, _⟩
          rw [hmi] at e
          cases e
          rw [only (b2 := 0) g3 rfl] at g5
          exact hm0 (by rw [g5])
        refine ifF (by rw [decide_eq_true hm0]; rfl) ?_
        refine ⟨_, rfl, t, _, _, _, rfl, rfl, .inl (.inl etC), rfl, _, rfl, _, rfl, _, rfl, t, _, _, _, rfl, rfl, .inl (.inl etC), rfl, Dl, _, rfl, (by rw [← hv]; exact DGet.k (k := Sum.inl a1) hLC), s, _, _, _, rfl, rfl, SqL.of hsC, at_sz kl, _, _, rfl, rfl, _, rfl, _, _, rfl, rfl, _, rfl, ?_⟩
        by_cases hl : n < b1 + sz ns k
        · refine ifT (decide_eq_true hl) ⟨_, rfl, bad GC sC ?_⟩
          rintro ⟨a2, b2, k2, e, _, _, _, g3, _, _, g6⟩
          rw [hmi] at e
          cases e
          rw [only (b2 := 0) g3 rfl] at g6
          omega
        refine ifF (decide_eq_false hl) ⟨⟨_, _, rfl⟩, smC, hLC, fun j hj => ?_⟩
        rcases Nat.lt_or_ge j i with z | z
        · exact hall j z
        · obtain rfl : j = i := by omega
          exact ⟨a1, b1, k, hmi, g0, g1, ne1, hk, ho, V.int.inj hm0, by omega⟩
      · rintro σ G ⟨⟨x7, x8, rfl⟩, sm, hLG, hall⟩
        rw [hm.len] at hall
        obtain ⟨mm, em, Ft⟩ := fit_of hall
        subst em
        have lmm : xs.length = mm.length := by rw [hm.len, List.length_map]
        have hsG := sm _ _ B.hs
        have hsG := sm _ _ B.hs
        have hLx := sm _ _ hL
        -- the ends
        obtain ⟨ps2, mm2, ex, em2, rfm⟩ := mvs_refs hm fun i hi => by
          obtain ⟨a, b, _, e, _⟩ := hall i hi
          exact ⟨a, b, e⟩
        obtain rfl : mm = mm2 := (List.map_inj_right (fun _ _ z => Option.some.inj z)).mp em2
        have nd : (mm.map Prod.fst).Nodup := by
          refine List.pairwise_iff_getElem.mpr fun i j hi hj lt e => ?_
          rw [List.length_map] at hi hj
          have e1 := List.getElem?_eq_getElem hi
          have e2 := List.getElem?_eq_getElem hj
          rw [List.getElem_map, List.getElem_map] at e
          have := Ft.nd i j (mm[i]).1 (mm[i]).2 (mm[j]).2 e1 (by rw [e2, e])
          omega
        subst ex
        refine ⟨_, rfl, L, ps2, mm.map kvP, rfl, SqL.of hLx, pr_paired (rfm.same sm), fun De hDe => ?_⟩
        have emk : mergeK [] (mm.map kvP) = mm.map kvP := merge_P mm [] (by rw [List.nil_append]; exact nd)
        rw [emk]
        have s3 := same_upd (o := .dK (mm.map kvP)) hDe
        have hE3 : (upd G De (.dK (mm.map kvP))) De = some (.dK (mm.map kvP)) := upd_same
        have sm3 := sm.trans s3
        have hL3 := s3 _ _ hLG
        generalize upd G De (.dK (mm.map kvP)) = G3 at s3 hE3 sm3 hL3
        have B3 := B.same sm3
        -- the places
        refine ⟨_, rfl, a, rfl, ⟨_, SqL.of B3.ha⟩, fun U hU => ?_⟩
        refine lc_list (K := K) (a := a) (xs := qs.map V.ref) (fun i G' => ∃ us, G' U = some (.lst (us.map V.ref)) ∧ Refs plV G' us ((bs.take i).map (now ns mm)) ∧ Same G3 G') ⟨[], upd_same, .nil, same_upd hU⟩ (fun i G' _ ⟨_, _, _, s'⟩ => SqL.of (s' _ _ B3.ha)) ?_ ?_
        · rintro i x G' hx ⟨us, hG', rfU, s'⟩
          obtain ⟨p, hp, rfl⟩ := ref_of hx
          obtain ⟨b, hb, hT⟩ := (B3.rf.same s').get hp
          have hT' : G' p = some (.tup [.int b.1, .int (b.2.1 : Nat), .bl b.2.2]) := hT
          have bk := (wf.ok b (List.mem_of_getElem? hb)).1
          have il := (List.getElem?_eq_some_iff.mp hb).1
          have ul := rfU.len
          rw [List.length_map, List.length_take] at ul
          have hE' := s' _ _ hE3
          have hs' := s' _ _ B3.hs
          refine ⟨rfl, _, rfl, p, _, _, _, rfl, rfl, .inl (.inl hT'), rfl, ?_⟩
          refine ⟨_, rfl, De, rfl, .inl ⟨_, .inl hE'⟩, _, rfl, p, _, _, _, rfl, rfl, .inl (.inl hT'), rfl, _, rfl, p, _, _, _, rfl, rfl, .inl (.inl hT'), rfl, ?_⟩
          refine ⟨_, DGet.k (k := Sum.inl b.1) hE', ?_⟩
          rw [get_goK]
          refine ⟨_, rfl, _, rfl, p, _, _, _, rfl, rfl, .inl (.inl hT'), rfl, s, _, _, _, rfl, rfl, SqL.of hs', at_sz bk, (by show 3 ≤ sizeLine; decide), fun u hu => ?_⟩
          have su := same_upd (o := .tup [.int b.1, .int (goK mm b.1), .int (sz ns b.2.1)]) hu
          have hu2 : (upd G' u (.tup [.int b.1, .int (goK mm b.1), .int (sz ns b.2.1)])) u = some (.tup (plV (now ns mm b))) := upd_same
          have hG2 := su _ _ hG'
          have rf2 := rfU.same su
          have s2' := s'.trans su
          generalize upd G' u (.tup [.int b.1, .int (goK mm b.1), .int (sz ns b.2.1)]) = G2 at *
          refine ⟨_, hG2, (by rw [List.length_map]; omega), us ++ [u], by rw [upd_same, List.map_append]; rfl, ?_, fun c o e => ?_⟩
          · rw [take_at hb, List.map_append]
            refine ((rf2.app (Refs.one hu2)).mono fun c zs ec => ?_)
            rw [upd_ne (fun z => by rw [z, hG2] at ec; cases ec)]
            exact ec
          · rw [upd_ne (ne_of_none e hU)]
            exact s2' c o e
        rintro GU ⟨us, hUU, rfU, sU⟩
        rw [List.length_map, pl, List.take_length] at rfU
        have smU := sm3.trans sU
        have hLU := sU _ _ hL3
        have ul := rfU.len
        rw [List.length_map] at ul
        have hfst : ∀ i, i < mm.length → ∀ j, j < (mm.map some).length → Gd ns n bs (mm.map some) j := fun _ _ => hall
        -- the second walk
        refine ⟨_, rfl, L, _, rfl, SqL.of (smU _ _ hL), ?_⟩
        refine for_it (walk_enum (xs := ps2.map V.ref)) (fun i σ G' => (∃ x7 x8 x9, σ = [some (.ref s), some (.int n), some (.ref a), some (.ref L), some (.ref Dl), some (.ref De), some (.ref U), x7, x8, x9, none, none]) ∧ Same GU G' ∧ ∀ j, j < i → ¬ HitB ns bs mm j)
          ⟨⟨_, _, _, rfl⟩, Same.refl GU, fun j hj => absurd hj (Nat.not_lt_zero j)⟩ (fun i σ G' _ h => SqL.of ((smU.trans h.2.1) _ _ hL)) ?_ ?_
        · rintro i x σ GA GB hi ⟨⟨x7', x8', x9, rfl⟩, s', hno⟩ ⟨T', y1, y2, rfl, hT, rfl, e1, e2⟩
          cases e1
          obtain ⟨p, hp, rfl⟩ := ref_of e2
          have sT := same_upd (o := .tup [.int (i : Nat), .ref p]) hT
          have s1' := s'.trans sT
          have sAll := smU.trans s1'
          obtain ⟨m, hmi, et⟩ := (rfm.same sAll).get hp
          have et' : (upd GA T' (.tup [.int (i : Nat), .ref p])) p = some (.tup [.int m.1, .int m.2]) := et
          have il := (List.getElem?_eq_some_iff.mp hmi).1
          refine ⟨T', _, rfl, .inl (.inl upd_same), rfl, _, _, rfl, _, _, rfl, rfl, ?_⟩
          obtain ⟨k, hk, b0, _, bn⟩ := Ft.at_ i m.1 m.2 hmi
          have kl : k < ns.length := (wf.ok _ hk).1
          have hv : valV (lvK (unpB bs)) (Sum.inl m.1) = some (.int (k : Nat)) := lvK_get (cs := unpB bs) (b := (m.1, k, false)) ((wf.rise gd).filter _) (List.mem_filter.mpr ⟨hk, rfl⟩)
          have hD' := s1' _ _ hLU
          have hU' := s1' _ _ hUU
          have hs' := sAll _ _ B.hs
          have rfU' := rfU.same s1'
          generalize (upd GA T' (.tup [.int (i : Nat), .ref p])) = G1' at *
          refine ⟨_, rfl, _, rfl, _, rfl, p, _, _, _, rfl, rfl, .inl (.inl et'), rfl, Dl, _, rfl, (by rw [← hv]; exact DGet.k (k := Sum.inl m.1) hD'), s, _, _, _, rfl, rfl, SqL.of hs', at_sz kl, ?_⟩
          refine ⟨_, rfl, U, rfl, ⟨_, SqL.of hU'⟩, fun C hC => ?_⟩
          refine lc_list (K := K) (a := U) (xs := us.map V.ref) (fun j G' => ∃ ws : List V, G' C = some (.lst ws) ∧ ws.length ≤ j ∧ (ws.length = 0 ↔ ∀ c ∈ bs.take j, mtB ns mm m k c = false) ∧ Same G1' G') ⟨[], upd_same, Nat.le_refl _, ⟨fun _ c z => (by simp at z), fun _ => rfl⟩, same_upd hC⟩ (fun j G' _ ⟨_, _, _, _, z⟩ => SqL.of (z _ _ hU')) ?_ ?_
          · rintro j x G' hx ⟨ws, hG', wl, wi, s''⟩
            obtain ⟨u, hu, rfl⟩ := ref_of hx
            obtain ⟨q0, hq, hT2⟩ := (rfU'.same s'').get hu
            rw [List.getElem?_map] at hq
            cases hbj : bs[j]? with
            | none => rw [hbj] at hq; cases hq
            | some c =>
            rw [hbj] at hq
            cases hq
            have hT2' : G' u = some (.tup [.int c.1, .int (goK mm c.1), .int (sz ns c.2.1)]) := hT2
            have etp := s'' _ _ et'
            have jl := (List.getElem?_eq_some_iff.mp hbj).1
            have tk := take_at hbj
            have no : mtB ns mm m k c = false → ∃ ws : List V, G' C = some (.lst ws) ∧ ws.length ≤ j + 1 ∧ (ws.length = 0 ↔ ∀ c ∈ bs.take (j + 1), mtB ns mm m k c = false) ∧ Same G1' G' := fun e => by
              refine ⟨ws, hG', by omega, ?_, s''⟩
              rw [wi, tk]
              constructor
              · intro z d hd
                rcases List.mem_append.mp hd with q | q
                · exact z d q
                · rw [List.mem_singleton.mp q]
                  exact e
              · exact fun z d hd => z d (List.mem_append_left _ hd)
            refine ⟨rfl, ?_⟩
            refine ⟨_, rfl, u, _, _, _, rfl, rfl, .inl (.inl hT2'), rfl, _, rfl, p, _, _, _, rfl, rfl, .inl (.inl etp), rfl, rfl, _, rfl, ?_⟩
            by_cases c1 : c.1 = m.1
            · refine ifF (by rw [vT c1]; rfl) (no ?_)
              unfold mtB
              rw [decide_eq_true c1]
              rfl
            refine ifT (by rw [vF c1]; rfl) ?_
            refine ⟨_, rfl, u, _, _, _, rfl, rfl, .inl (.inl hT2'), rfl, _, rfl, p, _, _, _, rfl, rfl, .inl (.inl etp), rfl, _, rfl, _, _, rfl, rfl, _, _, rfl, rfl, _, rfl, ?_⟩
            by_cases c2 : goK mm c.1 < m.2 + sz ns k
            case neg =>
              refine ifF (decide_eq_false c2) (no ?_)
              unfold mtB
              rw [decide_eq_false c2, Bool.false_and, Bool.and_false]
            refine ifT (decide_eq_true c2) ?_
            refine ⟨_, rfl, p, _, _, _, rfl, rfl, .inl (.inl etp), rfl, _, rfl, u, _, _, _, rfl, rfl, .inl (.inl hT2'), rfl, _, rfl, u, _, _, _, rfl, rfl, .inl (.inl hT2'), rfl, _, _, rfl, rfl, _, _, rfl, rfl, _, rfl, ?_⟩
            by_cases c3 : m.2 < goK mm c.1 + sz ns c.2.1
            case neg =>
              refine ifF (decide_eq_false c3) (no ?_)
              unfold mtB
              rw [decide_eq_false c3, Bool.and_false, Bool.and_false]
            refine ifT (decide_eq_true c3) ⟨_, rfl, ws, hG', by omega, ws ++ [.ref u], upd_same, (by rw [List.length_append]; show _ + 1 ≤ _; omega), ⟨fun z => ?_, fun z => ?_⟩, fun c o e => ?_⟩
            · rw [List.length_append] at z
              have z2 : ws.length + 1 = 0 := z
              omega
            · have e := z c (by rw [tk]; exact List.mem_append_right _ (List.mem_singleton.mpr rfl))
              unfold mtB at e
              rw [decide_eq_false c1, decide_eq_true c2, decide_eq_true c3] at e
              cases e
            · rw [upd_ne (ne_of_none e hC)]
              exact s'' c o e
          rintro GC ⟨ws, hGC, wl, wi, sC⟩
          rw [List.length_map, ul, List.take_length] at wi
          refine ⟨(by show 0 ≤ sizeLine; decide), fun E0 hE0 => ?_⟩
          have sE := same_upd (o := .lst []) hE0
          have hE1 : (upd GC E0 (.lst [])) E0 = some (.lst []) := upd_same
          have hC1 := sE _ _ hGC
          have sCE := sC.trans sE
          generalize upd GC E0 (.lst []) = GE at sE hE1 hC1 sCE
          refine ⟨C, E0, ws, rfl, rfl, SqL.of hC1, SqL.of hE1, _, rfl, ?_⟩
          have key := hit_any wf gd Ft hmi hk
          by_cases w0 : ws.length = 0
          · refine ifF (by rw [decide_eq_true w0]; rfl) ⟨⟨_, _, _, rfl⟩, s1'.trans sCE, fun j hj => ?_⟩
            rcases Nat.lt_or_ge j i with z | z
            · exact hno j z
            · obtain rfl : j = i := by omega
              intro hh
              obtain ⟨c, hc, e⟩ := key.mp hh
              rw [wi.mp w0 c hc] at e
              cases e
          · refine ifT (by rw [decide_eq_false w0]; rfl) ⟨_, rfl, q2 i GE ⟨by rw [List.length_map]; exact il, .inr ⟨hall, mm, rfl, ?_, hno⟩⟩ (sAll.trans sCE)⟩
            refine Classical.byContradiction fun nh => w0 (wi.mpr fun c hc => ?_)
            cases e : mtB ns mm m k c with
            | false => rfl
            | true => exact absurd (key.mpr ⟨c, hc, e⟩) nh
        · rintro σ G' ⟨⟨x7', x8', x9, rfl⟩, s', hno⟩
          rw [List.length_map, rfm.len] at hno
          refine q1 ⟨hall, fun mm' e => ?_⟩ G' (smU.trans s')
          have e2 : mm = mm' := (List.map_inj_right (fun _ _ z => Option.some.inj z)).mp e
          rw [← e2]
          exact (law_iff wf gd Ft).mp ((noOv_all wf gd Ft).mpr hno)
end
end K34

set_option Elab.async false
set_option linter.all false
set_option maxRecDepth 100000
set_option maxHeartbeats 4000000
/-! Own layer: a lambda handed to a def that calls it in a try's body and goes on behind the except clauses: what is wished of an error may depend on the def's own names. -/
namespace Ex
open PySem PySem.Spec PySem.Calls PyProof.Rows L2 Gu LamX
section
variable {X : Cx} {pins : List (Addr × Obj)} {σ : L2.St} {H : Hp} {s : Shared}
theorem act_at {CXg : CXT} {Eg : XK} {Ng : List Str} {qg : Str} {sg : Scope} {g f c' : Addr} {cdg pm ctv : Value} {params : Arguments} {body : Expr} {scope : Scope} {k i : Nat} {a : Str} {pn : List (Addr × Obj)} {xe : Value → Shared → Prop} {W : WX} {t : XK → TE} {p1 p2 : Pos}
    (I : Inv X pins σ H s) (L : LamS X.env.scope scope) (hf : s.heap.get? f = some (PySem.W.kla_obj "<lambda>" (X.env.qual ++ "<lambda>") params body scope (cloFrom X.env.cells scope.names []) pm c' ctv)) (hfn : H f = none) (hfr : f ∉ frs X.stack)
    (hbind : bindArgs (PySem.W.kla_fn "<lambda>" (X.env.qual ++ "<lambda>") params body scope (cloFrom X.env.cells scope.names []) pm (.ref c') ctv) ⟨[], []⟩ = pure [])
    (tk : Takes ((cxOf CXg X.prog X.w X.K X.mg X.base Ng qg sg g cdg X.A X.stack s H Eg).tr pn xe) W) (hr : Room (k + 1) (X.A.deeper (envOfC qg sg s.heap.objs.size g cdg)))
    (hbody : ∀ (A : Around) (outer : List Env) (s : Shared) (H : Hp) (E : XK), Room k (A.deeper (lamEnv X scope s.heap.objs.size f c')) → PE (lamCx X A outer s H E scope f c') body (t E))
    (hN : Ng[i]? = some a) (hv : Vis sg a) (hd : (a == ("__debug__" : Str)) = false := by decide) (hcd : (a == ("__classdict__" : Str)) = false := by decide) :
    PE ((cxOf CXg X.prog X.w X.K X.mg X.base Ng qg sg g cdg X.A X.stack s H Eg).tr pn xe) (.Call (.Name a p1) [] [] p2)
      (fun σZ HZ Q => σZ[i]? = some (some (.ref f)) ∧ HZ c' = some (CodeO c' (X.env.qual ++ "<lambda>")) ∧ t (WE W σZ) σ HZ Q) := by
  refine ⟨fun pz sz σZ HZ Q IZ ⟨h1, h2, h3⟩ => wpAny_Call_Name_kw (thn ((pe_var (pos := p1) (i := i) hN hv hd hcd).run pz sz σZ HZ (fun v H1 => v = .ref f ∧ H1 = HZ) IZ ⟨.ref f, h1, rfl, rfl⟩) fun u s1 ⟨v, H1, I1, r1, ev, eH⟩ => ?_)⟩
  subst ev
  rw [eH] at I1
  obtain rfl : u = Value.ref f := r1
  have of1 : s1.heap.get? f = some (PySem.W.kla_obj "<lambda>" (X.env.qual ++ "<lambda>") params body scope (cloFrom X.env.cells scope.names []) pm c' ctv) := I1.base.keep f _ hf hfn hfr (fun z => nomatch (show f ∈ ([] : List Addr) from z))
  have un : Un (frs X.stack) [] H HZ s.heap s1.heap := I1.base
  obtain ⟨⟨oc, vs, tt, hoc, hdc, hvc⟩, _, _⟩ := I1.hok c' _ h2
  refine PySem.W.callWith_F0 ⟨_, _, _, _, of1⟩ ?_
  have rc : codeAny (model X.prog X.w) (X.A.deeper (envOfC qg sg s.heap.objs.size g cdg)) (.call (.ref f) ⟨[], []⟩) (CR (L2.CX X.prog X.w) (envOfC qg sg s.heap.objs.size g cdg :: X.stack) X.prog X.w HZ s1 Q (WE W σZ)) s1 := by
    refine PySem.W.kla_callFunE hr.depth of1 rfl L.co L.gen rfl ⟨c', oc, vs, tt, rfl, hoc, hdc, hvc⟩ ?_
    rw [hbind]
    refine wpAny_pure (wpAny_newFunctionEnv (fun y hy => (L.own y hy).2) (fun y hy => absurd hy List.not_mem_nil) (fun h2 hns hsb => ⟨I1.nolimit.fresh _ hsb, ?_⟩) L.kind)
    show codeAny _ _ (.expr body (lamEnv X scope s1.heap.objs.size f c')) _ _
    have kp : ∀ b o, s1.heap.get? b = some o → h2.get? b = some o := fun b o e => hsb.extBut b o (Nat.ne_of_lt (Heap.lt_size e)) (Heap.get?_push_of_some _ e)
    have J : Inv (lamCx X (X.A.deeper (envOfC qg sg s.heap.objs.size g cdg)) (envOfC qg sg s.heap.objs.size g cdg :: X.stack) s1 HZ (WE W σZ) scope f c') [] σ HZ { s1 with heap := h2, toks := s1.toks + ([] : List (Str × Value)).length } := lam_start2 I L I1.env0 hr.hd un hns kp
    refine PySem.W.kla_codeExpr (wpAny_mono ((hbody _ _ s1 HZ (WE W σZ) (hr.deeper _)).run [] _ _ HZ Q J h3) (fun v s' hq => ?_) fun e s' hq => hq)
    obtain ⟨w', H', J', rv, q⟩ := hq
    exact ⟨w', H', J'.os, J'.bare, J'.base, J'.hok, rv, q⟩
  refine wpAny_call (codeAny_mono rc fun r s' hq => ?_)
  match r, hq with
  | .error e, hq => exact passAt tk σZ pz HZ s1 e s' I1 hq
  | .ok (.ret u), hq => exact I1.after hq
end
/-- the def that calls what it got under the name a: TT is what it makes of the lambda's reading -/
def GivesAt (X : Cx) (Ng : List Str) (x : Str) (sg : Scope) (g : Addr) (cdg : Value) (bg : List Stmt) (a q : Str) (TT : (XK → Hp → VK → Prop) → Hp → VK → Prop) : Prop :=
  ∀ (f c' : Addr) (s : Shared) (H : Hp) (Q : VK) (tl : XK → Hp → VK → Prop),
    (∀ (W : WX) (pn : List (Addr × Obj)) (xe : Value → Shared → Prop) (p1 p2 : Pos), Takes ((cxOf CX0 X.prog X.w X.K X.mg X.base Ng x sg g cdg X.A X.stack s H E0).tr pn xe) W →
      PE ((cxOf CX0 X.prog X.w X.K X.mg X.base Ng x sg g cdg X.A X.stack s H E0).tr pn xe) (.Call (.Name a p1) [] [] p2) (fun σZ HZ Q => σZ[0]? = some (some (.ref f)) ∧ HZ c' = some (CodeO c' q) ∧ tl (WE W σZ) HZ Q)) →
    H c' = some (CodeO c' q) → TT tl H Q → ∃ t, PSs (cxOf CX0 X.prog X.w X.K X.mg X.base Ng x sg g cdg X.A X.stack s H E0).nox bg t ∧ t { nx := fun _ H' => Q .non H', rt := Q } (L2.start Ng [.ref f]) H
section
variable {X : Cx}
/-- x(lambda: body) -/
theorem pe_lamgive {T : List (Addr × Str)} {TT : (XK → Hp → VK → Prop) → Hp → VK → Prop} {x a : Str} {g c P : Addr} {k : Nat} {pg : Arguments} {bg : List Stmt} {sg : Scope} {fd : FuncData} {Ng : List Str}
    {params : Arguments} {body : Expr} {scope : Scope} {t : XK → TE} {p lpos pos : Pos} (F : FunD X.K x x pg bg sg [] [] g fd) (hg : Gl X x) (hm : X.mg x = some (.ref g)) (hb : L2.Binds X.K fd [a] []) (Sg : FnScope Ng [a] sg) (hNg : Ng[0]? = some a) (hva : Vis sg a)
    (hG : ∀ cdg : Value, GivesAt X Ng x sg g cdg bg a (X.env.qual ++ "<lambda>") TT) (TB : TabB X.base X.mg c P) (hcode : X.env.code = .ref c) (hmT : (P, X.env.qual ++ "<lambda>") ∈ T) (hu : ∀ p ∈ T, p.1 = P → p.2 = X.env.qual ++ "<lambda>") (hr : Room (k + 2) X.A)
    (L : LamS X.env.scope scope) (hdef : defaultsOf params X.env = ([], [])) (hbind : ∀ (q : Str) (cl : List (Str × Addr)) (pm cv ctv : Value), bindArgs (PySem.W.kla_fn "<lambda>" q params body scope cl pm cv ctv) ⟨[], []⟩ = pure [])
    (hbody : ∀ (A : Around) (outer : List Env) (s : Shared) (H : Hp) (E : XK) (f c' : Addr), Room k (A.deeper (lamEnv X scope s.heap.objs.size f c')) → PE (lamCx X A outer s H E scope f c') body (t E))
    (hdb : (x == ("__debug__" : Str)) = false := by decide) (hd : (a == ("__debug__" : Str)) = false := by decide) (hcd : (a == ("__classdict__" : Str)) = false := by decide) :
    PE X (.Call (.Name x p) [.Lambda params body scope lpos] [] pos) (tLam T TT t) := by
  obtain ⟨oc, od, dV, kV, doc, pm, an, cdv, ct, osl, rfl, lk, hcg, _, _⟩ := F.ex
  refine ⟨fun pins s σ H Q I ⟨hT, h⟩ => wpAny_Call_Name_kw (ld_glob I hg hm (PySem.W.callWith_K (h₀ := X.base) I.ok.mod.kin F.kp ?_ (by rfl) (by rfl)) hdb)⟩
  show wpAny _ _ (spliced ((false, eval (.Lambda params body scope lpos) X.env) :: backTo pos (starEach [] X.env))) _ _ s
  refine Calls.spliced_cons (lam_make2 I TB hcode hmT hu hT hdef (L.has I.ok) fun f c' pm' ctv H1 s' I1 eN T1 hf hfn hfr hco => Calls.spliced_nil ⟨I1.kIn, ?_⟩)
  have rc : codeAny (model X.prog X.w) X.A (.call (.ref g) ⟨[.ref f], []⟩) (CR CX0 X.stack X.prog X.w H1 s' Q E0) s' := by
    refine run_ofS (N := Ng) (ps := [a]) (us := [.ref f]) (vs := [.ref f]) lk hcg Sg hr I1.env0 (hb s' [.ref f] I1.kIn rfl) (.cons rfl .nil) rfl fun hr' => ?_
    obtain ⟨t', ht', hq'⟩ := hG cdv f c' s' H1 Q (fun E H' Q' => t E σ H' Q') (fun W pn xe p1 p2 tk => act_at (i := 0) I1 L hf hfn hfr (hbind _ _ _ _ _) tk hr' (fun A outer s H E hr2 => hbody A outer s H E f c' hr2) hNg hva hd hcd) hco (h H1 eN T1)
    exact ⟨t', ht'.nox, hq'⟩
  refine wpAny_call (codeAny_mono rc fun r s2 hq => ?_)
  match r, hq with
  | .ok (.ret u), hq => exact I1.after hq
end
end Ex

set_option Elab.async false
set_option linter.all false
set_option maxRecDepth 100000
set_option maxHeartbeats 4000000
/-! Own layer: a def that is handed the caught error while it is handled: its promise speaks of the error's address, class and dict; isinstance within it. -/
namespace Ex
open PySem PySem.Spec PySem.Calls PyProof.Rows L2 Gu
/-- the promise of a def that is handed the error -/
abbrev SpE : Type := Addr → Addr → Option Addr → Sp
structure FnE (P : Program) (w : World) (K : PySem.W.Frag) (mg : Str → Option Value) (base : Heap) (k : Nat) (f : Addr) (fd : FuncData) (ps : List Str) (sp : SpE) : Prop where
  len : ∀ a D d vs H Q E, sp a D d vs H Q E → vs.length = ps.length
  run : ∀ (A : Around) (outer : List Env) (s : Shared) (H : Hp) (us : List Value) (vs : List V) (Q : VK) (a D : Addr) (d : Option Addr) (oe : Obj),
    L2H.RoomH k A → Zc (.ref D) d oe → (∃ vs, oe.data = .fields vs) → L2H.PinOk outer H s (a, oe) → Env0 P w K mg base A outer s H → BindsTo s fd ⟨us, []⟩ (ps.zip us) → Vals vs us → sp a D d vs H Q E0 →
    codeAny (model P w) A (.call (.ref f) ⟨us, []⟩) (CR CX0 outer P w H s Q E0) s
section
variable {P : Program} {w : World} {K : PySem.W.Frag} {mg : Str → Option Value} {base : Heap} {k : Nat} {f : Addr} {fd : FuncData} {ps : List Str} {sp : SpE}
theorem okE {x qual : Str} {params : Arguments} {body : List Stmt} {scope : Scope} {dvs : List V} {kws : List (Str × V)} {N : List Str}
    (F : FunD K x qual params body scope dvs kws f fd) (S : FnScope N ps scope) (len : ∀ a D d vs H Q E, sp a D d vs H Q E → vs.length = ps.length)
    (hbody : ∀ (cdv : Value) (A : Around) (outer : List Env) (s : Shared) (H : Hp) (vs : List V) (Q : VK) (a D : Addr) (d : Option Addr) (oe : Obj),
      L2H.RoomH k (A.deeper (envOfC qual scope s.heap.objs.size f cdv)) → Zc (.ref D) d oe → (∃ vs, oe.data = .fields vs) → sp a D d vs H Q E0 →
      ∃ t, PSs (L2H.cxH CX0 P w K mg base N qual scope f cdv A outer s H E0 (a, oe)) body t ∧ t { nx := fun _ H' => Q .non H', rt := Q } (start N vs) H) :
    FnE P w K mg base (k + 1) f fd ps sp := by
  obtain ⟨oc, od, dV, kV, doc, pm, an, cdv, ct, osl, rfl, lk, hcd, _, _⟩ := F.ex
  refine ⟨len, fun A outer s H us vs Q a D d oe hr hz hf hpin e0 hb rv hsp => ?_⟩
  have KX : K.In s.heap := e0.mod.kin.keeps fun b o e => (e0.bs b o e).1
  have hkinds : ∀ y ∈ ps.zip us, scope.names.lookup y.1 = some .local ∨
      (scope.names.lookup y.1 = some .cell ∧ ((cellsFrom (s.heap.objs.size + 1) scope.names []).lookup y.1).isSome = true) := by
    rintro ⟨n, v⟩ hy
    rcases S.par n (List.of_mem_zip hy).1 with q | q
    · exact .inl q
    · exact .inr ⟨q, PySem.W.cellsFrom_some _ _ _ (.inl q)⟩
  refine codeAny_call_function hr.depth (KX _ _ lk) rfl S.co S.gen rfl (PySem.W.codeRec_of KX hcd) (hb _ _ _ _ ?_)
  refine wpAny_newFunctionEnv_cells S.kind hkinds fun env he s1 x => ?_
  subst he
  refine ⟨(e0.mod.nolimit.keeps fun b o e => (e0.bs b o e).1).keeps x.toInCall.keep, codeAny_func ?_⟩
  obtain ⟨t, ht, hq⟩ := hbody cdv A outer s H vs Q a D d oe (hr.deeper _) hz hf hsp
  have I := L2H.inv_startH (CX := CX0) (E := E0) (N := N) (qual := qual) (f := f) (cd := cdv) S hpin e0 (len _ _ _ _ _ _ _ hsp) rv x
  refine wpAny_mono (ht.run [] s1 (start N vs) H _ I hq) (fun fl s' hs => ?_) fun e s' hs => hs
  cases fl with
  | ret u =>
    obtain ⟨v, σ', H', J, rv', q⟩ := hs
    exact ⟨v, H', J.os, J.bare, J.base, J.hok, rv', q⟩
  | next =>
    obtain ⟨σ', H', J, q⟩ := hs
    exact ⟨V.non, H', J.os, J.bare, J.base, J.hok, rfl, q⟩
  | brk => exact hs.elim fun _ z => z.elim fun _ z => z.2.elim
  | cont => exact hs.elim fun _ z => z.elim fun _ z => z.2.elim
end
structure DfE (P : Program) (w : World) (K : PySem.W.Frag) (mg : Str → Option Value) (base : Heap) (k : Nat) (x : Str) (ps : List Str) (sp : SpE) : Prop where
  ex : ∃ fd, FnE P w K mg base k (He.ga K x) fd ps sp ∧ Binds K fd ps []
  gl : mg x = some (.ref (He.ga K x))
  kp : PySem.W.keepIn K (.ref (He.ga K x)) = true
def tCallE (sp : SpE) (a : Addr) (cls : Value) (d : Option Addr) (t : TA) : TE := fun σ H Q => t σ H fun vs H1 => ∃ D, cls = .ref D ∧ sp a D d vs H1 Q E0
section
variable {X : Cx} {k j : Nat} {x : Str} {ps : List Str} {sp : SpE} {p pos : Pos} {e : Expr} {es : List Expr} {t : TA} {a D : Addr} {oe : Obj} {cls : Value} {d : Option Addr}
theorem pcallE (Df : DfE X.prog X.w X.K X.mg X.base k x ps sp) (hr : L2H.RoomH j X.A) (hp : (a, oe) ∈ X.pn) (hz : Zc cls d oe) (hf : ∃ vs, oe.data = .fields vs) (ha : PA X (e :: es) t) (hj : k ≤ j := by decide) (hg : Gl X x := by rfl)
    (hdb : (x == ("__debug__" : Str)) = false := by decide) (he : starEach (e :: es) X.env = (false, eval e X.env) :: starEach es X.env := by rfl) (hpl : (backTo pos (starEach es X.env)).any (·.1) = false := by rfl) :
    PE X (.Call (.Name x p) (e :: es) [] pos) (tCallE sp a cls d t) := by
  obtain ⟨fd, F, b⟩ := Df.ex
  refine ⟨fun pins s σ H Q I h => wpAny_Call_Name_kw (ld_glob I hg Df.gl (PySem.W.callWith_K (h₀ := X.base) I.ok.mod.kin Df.kp
    (thn (ha.run pos pins s σ H _ I h) fun us s1 ⟨vs, H1, I1, r, q⟩ => ⟨I1.kIn, ?_⟩) he hpl) hdb)⟩
  obtain ⟨D, rfl, q⟩ := q
  have hl : us.length = ps.length := r.length.symm.trans (F.len _ _ _ _ _ _ _ q)
  have bb := b s1 us I1.kIn (by rw [List.append_nil]; exact hl)
  rw [List.append_nil] at bb
  obtain ⟨g1, g2, g3, g4, g5⟩ := I1.pin (a, oe) (List.mem_append_left _ hp)
  have pin : L2H.PinOk X.stack H1 s1 (a, oe) := ⟨g1, g2, fun hm => by
    rcases List.mem_cons.mp (I1.stkSub a hm) with z | z
    · exact g3 z
    · exact g4 z, g5⟩
  refine wpAny_call (codeAny_mono (F.run X.A X.stack s1 H1 us vs Q a D d oe (hr.mono hj) hz hf pin I1.env0 bb r q) fun r s' hq => ?_)
  match r, hq with
  | .ok (.ret u), hq => exact I1.after hq
/-- isinstance of the error, where it is pinned -/
theorem inst_pin {pins : List (Addr × Obj)} {σ : L2.St} {H : Hp} {s : Shared} {fs : List (Str × V)} {dd : Addr} (hp : (a, oe) ∈ X.pn) (I : Inv X pins σ H s) (hz : Zc (.ref D) (some dd) oe) (hf : ∃ vs, oe.data = .fields vs) (hd : H dd = some (.xd fs)) :
    ∃ od, PySem.W.InstAt s.heap a oe D (some od) := by
  obtain ⟨vs, hv⟩ := hf
  obtain ⟨mA, hns, _⟩ := (show ObjOk X.prog X.w H s.heap dd (.xd fs) from I.hok dd _ hd)
  obtain ⟨od, ho, _⟩ := lookIn_ns hns
  exact ⟨od, (I.pin (a, oe) (List.mem_append_left _ hp)).1, hz.1, by unfold PySem.W.notCls; rw [hv] <;> rfl, by rw [hz.2]; exact ho⟩
theorem call_isP (c : ExcC X.K D) (hp : (a, oe) ∈ X.pn) (hz : Zc (.ref D) d oe) (hf : ∃ vs, oe.data = .fields vs) : CallR X (.builtin "isinstance") (rIsX X.K D a (.ref D) d) := by
  intro pins s σ H xs us Q I r h
  obtain ⟨cv, u, b, dd, fs, rfl, _, rfl, k, hd, e, q⟩ := h
  obtain ⟨u1, u2, rfl, r1, r2⟩ := vals2 r
  obtain rfl : u1 = Value.ref a := r1
  have e2 := k.eq r2
  subst e2
  obtain ⟨od, J⟩ := inst_pin hp I hz hf hd
  exact PySem.W.kia_one (kitx_exc c) I.kIn J e (fun z => nomatch z) fun tk => ⟨.bl b, H, I.tok tk, rfl, q⟩
end
end Ex

set_option Elab.async false
set_option linter.all false
set_option maxRecDepth 100000
set_option maxHeartbeats 4000000
/-! Own layer: several clauses of one try, the first of four classes in a tuple, all with the same name. -/
namespace Ex
open PySem PySem.Spec PySem.Calls PyProof.Rows L2 Gu
theorem flying_grow {B h h' : Heap} {l : List Env} {a : Addr} {Z : Obj → Prop} (k : ∀ b o, h.get? b = some o → h'.get? b = some o) (f : HandSPX.FlyingZ B l a Z h) : HandSPX.FlyingZ B l a Z h' := by
  obtain ⟨f1, f2, f3, oe, vs, T, oT, ts, e1, e2, e3, e4, e5, e6, e7, e8, e9⟩ := f
  refine ⟨fun b o e => k _ _ (f1 b o e), f2, f3.of_keeps fun b o e _ => ⟨o, k _ _ e, rfl⟩, oe, vs, T, oT, ts, k _ _ e1, e2, e3, e4, e5, e6, k _ _ e7, e8, e9⟩
theorem up_grow {h h1 h2 : Heap} (u : h.UpToSlots h1) (k : ∀ b o, h1.get? b = some o → h2.get? b = some o) : h.UpToSlots h2 := fun b o e hd => by
  obtain ⟨sl, z⟩ := u b o e hd
  exact ⟨sl, k _ _ z⟩
/-- a clause's classes -/
inductive Cls4
  | one (c : Value)
  | four (c1 c2 c3 c4 : Value)
def Cls4.ask (K : PySem.W.Frag) (cls : Value) : Cls4 → Option Bool
  | .one c => PySem.W.exmOne K cls c
  | .four c1 c2 c3 c4 => PySem.W.exmAny K cls [c1, c2, c3, c4]
abbrev Suites4 : Type := List (Cls4 × (Addr → Value → Option Addr → TS))
def wAs4 (K : PySem.W.Frag) (i : Nat) (Wout : WX) (D : Ends) : Suites4 → WX
  | [] => Wout
  | (q, ts) :: r => fun cls d σ H => ∃ b, q.ask K cls = some b ∧ (b = true → ∀ a, H a = none → ts a cls d { nx := fun σ' H' => D.nx (σ'.set i none) H', rt := D.rt, bk := fun σ' H' => D.bk (σ'.set i none) H', ct := fun σ' H' => D.ct (σ'.set i none) H' } (σ.set i (some (.ref a))) H) ∧
    (b = false → wAs4 K i Wout D r cls d σ H)
inductive HdAs4 (X : Cx) (n : Str) : List ExceptHandler → Suites4 → Prop
  | nil : HdAs4 X n [] []
  | one {x : Str} {c : Value} {ts : Addr → Value → Option Addr → TS} {b0 : Stmt} {su : List Stmt} {np p2 : Pos} {hs : List ExceptHandler} {l : Suites4} (hc : Names X x c)
      (hsu : ∀ (a : Addr) (oe : Obj) (cls : Value) (d : Option Addr) (pn : List (Addr × Obj)), Zc cls d oe → (∃ vs, oe.data = .fields vs) → PSs (X.suite a ((a, oe) :: pn)) (b0 :: su) (ts a cls d)) (r : HdAs4 X n hs l) :
      HdAs4 X n (.ExceptHandler (some (.Name x np)) (some n) (b0 :: su) p2 :: hs) ((.one c, ts) :: l)
  | four {x1 x2 x3 x4 : Str} {c1 c2 c3 c4 : Value} {ts : Addr → Value → Option Addr → TS} {b0 : Stmt} {su : List Stmt} {p1 p2 p3 p4 tp p5 : Pos} {kk} {hs : List ExceptHandler} {l : Suites4} (h1 : Names X x1 c1) (h2 : Names X x2 c2) (h3 : Names X x3 c3) (h4 : Names X x4 c4)
      (hsu : ∀ (a : Addr) (oe : Obj) (cls : Value) (d : Option Addr) (pn : List (Addr × Obj)), Zc cls d oe → (∃ vs, oe.data = .fields vs) → PSs (X.suite a ((a, oe) :: pn)) (b0 :: su) (ts a cls d)) (r : HdAs4 X n hs l) :
      HdAs4 X n (.ExceptHandler (some (.Tuple [.Name x1 p1, .Name x2 p2, .Name x3 p3, .Name x4 p4] kk tp)) (some n) (b0 :: su) p5 :: hs) ((.four c1 c2 c3 c4, ts) :: l)
section
variable {X : Cx} {n : Str} {i : Nat} {body : List Stmt} {h0 : ExceptHandler} {hds : List ExceptHandler} {l : Suites4} {pos : Pos} {tb : WX → TS} {Wout : WX}
theorem ps_try_as4 (hs : X.stack = X.env :: X.outer) (hf : X.env.frame = some X.env.locals) (hN : X.N.Nodup) (hi : X.N[i]? = some n) (hln : X.env.kindOf n = some .local) (tk : Takes X Wout)
    (hb : ∀ (W : WX) (pn : List (Addr × Obj)) (xe : Value → Shared → Prop), Takes (X.tr pn xe) W → PassesOwn (model X.prog X.w) X.A X.env xe → PSs (X.tr pn xe) body (tb W))
    (hh : HdAs4 X n (h0 :: hds) l) : PS X (.Try body (h0 :: hds) [] [] pos) (fun D σ H => tb (wAs4 X.K i Wout D l) D σ H) := by
  refine ⟨fun pins s σ H D I h => ?_⟩
  have ok := I.ok
  have fr : X.A.frames = some (X.env :: X.outer) := by
    rw [ok.frames, hs]
  refine wpAny_Try_except (wpAny_mono ((hb (wAs4 X.K i Wout D l) (X.pn ++ pins) (fun e s1 => wpAny (model X.prog X.w) X.A (noteFrame e X.env) (fun _ s2 => wpAny (model X.prog X.w) X.A (setFlight e none) (fun _ s3 =>
    wpAny (model X.prog X.w) X.A (handleBy e X.env (h0 :: hds)) (SP X pins D) X.xe s3) X.xe s2) X.xe s1) (fun u s' xx => ?_) PassesOwn.looking).run [] s σ H D (I.toTry _) h) (fun f s1 hsp => ?_) (fun e s1 he => he))
  · obtain ⟨a, B, sI, pins', σ1, H1, cls, d, rfl, J0, nb, up, sky, na, os, ag, w⟩ := xx
    have J : Inv X pins σ1 H1 sI := J0.ofTry ok
    rw [hs] at sky
    show wpAny (model X.prog X.w) X.A (noteFrame (.ref a) X.env) _ _ _
    refine Sky.land Zc.steady fr hf sky fun hL flL upL => ?_
    have nfr : ∀ {h3 : Heap}, HandSPX.FlyingZ B (X.env :: X.outer) a (Zc cls d) h3 → a ∉ frs (X.env :: X.outer) := fun {h3} fl hm => by
      obtain ⟨o3, v3, he3, hz3, hd3⟩ := fl.there
      obtain ⟨_, o', e', hnf⟩ := fl.2.2.1.mem hm
      rw [he3] at e'
      cases e'
      exact hnf _ hd3
    have nfr := nfr flL
    have nL : a ≠ X.env.locals := fun z => nfr (List.mem_filterMap.mpr ⟨X.env, List.mem_cons_self, by rw [hf, z]⟩)
    have nF : a ∉ X.fs := fun hm => by
      obtain ⟨e, he, q⟩ := List.mem_filterMap.mp hm
      exact nfr (List.mem_filterMap.mpr ⟨e, List.mem_cons_of_mem _ he, q⟩)
    have go : ∀ {hs2 : List ExceptHandler} {l2 : Suites4}, HdAs4 X n hs2 l2 → ∀ h3 : Heap, HandSPX.FlyingZ B (X.env :: X.outer) a (Zc cls d) h3 → sI.heap.UpToSlots h3 → wAs4 X.K i Wout D l2 cls d σ1 H1 →
        wpAny (model X.prog X.w) X.A (handleBy (.ref a) X.env hs2) (SP X pins D) X.xe { s' with heap := h3 } := by
      intro hs2 l2 hk
      induction hk with
      | nil =>
        intro h3 fl up3 w
        have J3 : Inv X pins σ1 H1 { s' with heap := h3 } := J.landed nb fl.1 up3 os ag
        refine wpAny_handleBy_nil ?_
        obtain ⟨_, _, _, oe, vs, Tb, oT, tsT, he, hz, hd, h1, hr⟩ := id fl
        unfold PySem.passOn
        refine wpAny_bind (wpAny_field he hd h1 ?_)
        rw [if_neg (show ¬ ((Value.ref Tb == Value.none) = true) from by simp)]
        have fin : wpAny (model X.prog X.w) X.A (setFlight (.ref a) X.env.frame) (fun _ s4 => wpAny (model X.prog X.w) X.A (throw (.ref a) : Sem Flow) (SP X pins D) X.xe s4) X.xe { s' with heap := h3 } := by
          rw [hf]
          exact HandSPX.setFlight_upZ fl fun h4 hh4 up4 => wpAny_throw (tk _ _ ⟨a, B, sI, pins, σ1, H1, cls, d, rfl, J, nb, up3.trans up4, .inr (.inr (by rw [hs]; exact hh4)), na, os, ag, w⟩)
        first
          | exact wpAny_bind (wpAny_pure (wpAny_bind fin))
          | exact wpAny_bind fin
      | @one x c ts b0 su np p5 hs3 l3 hc hsu r ih =>
        intro h3 fl up3 w
        have J3 : Inv X pins σ1 H1 { s' with heap := h3 } := J.landed nb fl.1 up3 os ag
        obtain ⟨o3, v3, he3, hz3, hd3⟩ := fl.there
        have S3 := J3.suite he3 hd3 na nL nF
        obtain ⟨b, hb1, yes, no⟩ := w
        refine wpAny_handleBy_cons (codeAny_handlers_test ?_) (by intro q; cases q)
        have lt : PySem.W.Looks (model X.prog X.w) h3 (typeOf (.ref a)) cls := fun A Q E s k q => wpAny_typeOf_ref (k _ _ he3) (by rw [hz3.1]; exact q)
        have lm := PySem.W.exm_one (M := model X.prog X.w) J3.kIn lt hb1
        have name : ∀ {Q : Value → Shared → Prop} {E : Value → Shared → Prop}, Q c { s' with heap := h3 } → wpAny (model X.prog X.w) (X.A.mark (some (.ref a))) (eval (.Name x np) X.env) Q E { s' with heap := h3 } := fun {Q E} q => by
          obtain ⟨hg, hdbg, hm | ⟨hm, hv, hnn⟩⟩ := hc
          · exact ld_glob (X := X.suite a ((a, o3) :: (X.pn ++ pins))) S3 hg hm q hdbg
          · exact ld_blt (X := X.suite a ((a, o3) :: (X.pn ++ pins))) S3 hg hm hv q hnn hdbg
        refine name (lm.here ?_)
        cases b with
        | false =>
          show wpAny _ X.A (handleBy (.ref a) X.env hs3) _ _ _
          exact ih h3 fl up3 (no rfl)
        | true =>
          refine codeAny_handlers_suite_as (HandSPX.lands_againZ fl fun h9 fl9 up9 => ?_)
          have J4 : Inv X pins σ1 H1 { s' with heap := h9 } := J.landed nb fl9.1 ((up3).trans up9) os ag
          obtain ⟨o4, v4, he4, hz4, hd4⟩ := fl9.there
          have S4 := J4.suite he4 hd4 na nL nF
          refine store_ok (X := X.suite a ((a, o4) :: (X.pn ++ pins))) (v := .ref a) S4 hN hi (.inl hln) rfl (fun s5 S5 => ?_) (.inr hln)
          refine wpAny_mono ((hsu a o4 cls d (X.pn ++ pins) hz4 ⟨_, hd4⟩).run [] s5 _ H1 _ S5 (yes rfl a na)) (fun f s6 hsp => ?_) (fun _ _ z => False.elim z)
          have out : ∀ {σ6 : L2.St} {H6 : Hp} {Q : Shared → Prop}, Inv (X.suite a ((a, o4) :: (X.pn ++ pins))) [] σ6 H6 s6 → (∀ s7, Inv X pins (σ6.set i none) H6 s7 → Q s7) →
              wpAny (model X.prog X.w) X.A (do bindName X.env n .none; unbindBehindTheSuite X.env n p5) (fun _ s7 => Q s7) X.xe s6 := fun {σ6 H6 Q} S6 hq => gone_ok (S6.unsuite ok) hN hi hln hq
          match f, hsp with
          | .next, ⟨σ6, H6, S6, q6⟩ => exact out S6 fun s7 J7 => ⟨_, _, J7, q6⟩
          | .brk, ⟨σ6, H6, S6, q6⟩ => exact out S6 fun s7 J7 => ⟨_, _, J7, q6⟩
          | .cont, ⟨σ6, H6, S6, q6⟩ => exact out S6 fun s7 J7 => ⟨_, _, J7, q6⟩
          | .ret u, ⟨v6, σ6, H6, S6, r6, q6⟩ => exact out S6 fun s7 J7 => ⟨_, _, _, J7, r6, q6⟩
      | @four x1 x2 x3 x4 c1 c2 c3 c4 ts b0 su p1 p2 p3 p4 tp p5 kk hs3 l3 m1 m2 m3 m4 hsu r ih =>
        intro h3 fl up3 w
        have J3 : Inv X pins σ1 H1 { s' with heap := h3 } := J.landed nb fl.1 up3 os ag
        obtain ⟨o3, v3, he3, hz3, hd3⟩ := fl.there
        have S3 := J3.suite he3 hd3 na nL nF
        obtain ⟨b, hb1, yes, no⟩ := w
        refine wpAny_handleBy_cons (codeAny_handlers_test ?_) (by intro q; cases q)
        have name : ∀ {x : Str} {c : Value} {np : Pos}, Names X x c → ∀ {Q : Value → Shared → Prop} {E : Value → Shared → Prop}, Q c { s' with heap := h3 } → wpAny (model X.prog X.w) (X.A.mark (some (.ref a))) (eval (.Name x np) X.env) Q E { s' with heap := h3 } := fun {x c np} hc {Q E} q => by
          obtain ⟨hg, hdbg, hm | ⟨hm, hv, hnn⟩⟩ := hc
          · exact ld_glob (X := X.suite a ((a, o3) :: (X.pn ++ pins))) S3 hg hm q hdbg
          · exact ld_blt (X := X.suite a ((a, o3) :: (X.pn ++ pins))) S3 hg hm hv q hnn hdbg
        refine wpAny_Tuple_spliced (args_cons (name m1 (args_cons (name m2 (args_cons (name m3 (args_cons (name m4 (args_nil ⟨(by show 4 ≤ sizeLine; decide), ?_⟩)))))))))
        have k4 : ∀ b o, h3.get? b = some o → (h3.push { cls := .type "tuple", data := .seq [c1, c2, c3, c4].toArray }).get? b = some o := fun b o e => Heap.get?_push_of_some _ e
        have fl4 := flying_grow k4 fl
        have up4 := up_grow up3 k4
        have J4 : Inv X pins σ1 H1 { s' with heap := h3.push { cls := .type "tuple", data := .seq [c1, c2, c3, c4].toArray } } := J.landed nb fl4.1 up4 os ag
        have lt : PySem.W.Looks (model X.prog X.w) (h3.push { cls := .type "tuple", data := .seq [c1, c2, c3, c4].toArray }) (typeOf (.ref a)) cls := fun A Q E s k q => wpAny_typeOf_ref (k _ _ (k4 _ _ he3)) (by rw [hz3.1]; exact q)
        have lm := PySem.W.exm_tup4 (M := model X.prog X.w) (tp := h3.objs.size) (e := a) J4.kIn lt (Heap.get?_push_size _ rfl) hb1
        refine lm.here ?_
        cases b with
        | false =>
          show wpAny _ X.A (handleBy (.ref a) X.env hs3) _ _ _
          exact ih _ fl4 up4 (no rfl)
        | true =>
          refine codeAny_handlers_suite_as (HandSPX.lands_againZ fl4 fun h9 fl9 up9 => ?_)
          have J4 : Inv X pins σ1 H1 { s' with heap := h9 } := J.landed nb fl9.1 ((up4).trans up9) os ag
          obtain ⟨o4, v4, he4, hz4, hd4⟩ := fl9.there
          have S4 := J4.suite he4 hd4 na nL nF
          refine store_ok (X := X.suite a ((a, o4) :: (X.pn ++ pins))) (v := .ref a) S4 hN hi (.inl hln) rfl (fun s5 S5 => ?_) (.inr hln)
          refine wpAny_mono ((hsu a o4 cls d (X.pn ++ pins) hz4 ⟨_, hd4⟩).run [] s5 _ H1 _ S5 (yes rfl a na)) (fun f s6 hsp => ?_) (fun _ _ z => False.elim z)
          have out : ∀ {σ6 : L2.St} {H6 : Hp} {Q : Shared → Prop}, Inv (X.suite a ((a, o4) :: (X.pn ++ pins))) [] σ6 H6 s6 → (∀ s7, Inv X pins (σ6.set i none) H6 s7 → Q s7) →
              wpAny (model X.prog X.w) X.A (do bindName X.env n .none; unbindBehindTheSuite X.env n p5) (fun _ s7 => Q s7) X.xe s6 := fun {σ6 H6 Q} S6 hq => gone_ok (S6.unsuite ok) hN hi hln hq
          match f, hsp with
          | .next, ⟨σ6, H6, S6, q6⟩ => exact out S6 fun s7 J7 => ⟨_, _, J7, q6⟩
          | .brk, ⟨σ6, H6, S6, q6⟩ => exact out S6 fun s7 J7 => ⟨_, _, J7, q6⟩
          | .cont, ⟨σ6, H6, S6, q6⟩ => exact out S6 fun s7 J7 => ⟨_, _, J7, q6⟩
          | .ret u, ⟨v6, σ6, H6, S6, r6, q6⟩ => exact out S6 fun s7 J7 => ⟨_, _, _, J7, r6, q6⟩
    exact go hh hL flL (up.trans upL) w
  · match f, hsp with
    | .next, ⟨σ1, H1, J1, q⟩ => exact wpAny_execs_nil ⟨σ1, H1, J1.ofTry ok, q⟩
    | .brk, ⟨σ1, H1, J1, q⟩ => exact ⟨σ1, H1, J1.ofTry ok, q⟩
    | .cont, ⟨σ1, H1, J1, q⟩ => exact ⟨σ1, H1, J1.ofTry ok, q⟩
    | .ret u, ⟨v, σ1, H1, J1, r, q⟩ => exact ⟨v, σ1, H1, J1.ofTry ok, r, q⟩
end
end Ex

set_option Elab.async false
set_option linter.all false
set_option maxRecDepth 100000
set_option maxHeartbeats 400000
/-! Own layer: isinstance(e, (C, D)) of an error that a def was handed. -/
namespace Ex
open PySem PySem.Spec PySem.Calls PyProof.Rows L2 Gu
section
variable {X : Cx} {a D : Addr} {oe : Obj} {d : Option Addr}
theorem call_isPT (c : ExcC X.K D) (hp : (a, oe) ∈ X.pn) (hz : Zc (.ref D) d oe) (hf : ∃ vs, oe.data = .fields vs) : CallR X (.builtin "isinstance") (rIsXT X.K D a (.ref D) d) := by
  intro pins s σ H xs us Q I r h
  obtain ⟨tp, cs, ws, b, dd, fs, rfl, _, rfl, hT, k, hd, e, q⟩ := h
  obtain ⟨u1, u2, rfl, r1, r2⟩ := vals2 r
  obtain rfl : u1 = Value.ref a := r1
  obtain rfl : u2 = Value.ref tp := r2
  obtain ⟨od, J⟩ := inst_pin hp I hz hf hd
  obtain ⟨_, its, rv, o, h1, h2, n, h3⟩ := (show ObjOk X.prog X.w H s.heap tp (.tup cs) from I.hok tp _ hT)
  have e3 := ClsV.all k rv
  subst e3
  obtain ⟨oc, odd, dt, sl⟩ := o
  simp only at h2 h3
  subst h2 h3
  exact PySem.W.kia_tup (kitx_exc c) I.kIn J h1 e (fun z => nomatch z) fun tk => ⟨.bl b, H, I.tok tk, rfl, q⟩
end
end Ex

set_option Elab.async false
set_option linter.all false
set_option maxRecDepth 100000
set_option maxHeartbeats 400000
set_option pp.maxSteps 900
namespace K34
open PySem PySem.Spec PyProof.Rows L2 Gu Ex LamX
/-- what the class is to the others -/
structure KitM (K : PySem.W.Frag) : Prop where
  ec : ExcC K (cM K)
  xf : XfC K (cM K)
  no : PySem.W.findIn K (.ref (cM K)) "position" = some none
  u : PySem.W.kitAny K (.ref (cM K)) [.ref (He.ga K "InvalidAddress"), .ref (He.ga K "InvalidLevel"), .ref (He.ga K "InvalidNumbers"), .ref (He.ga K "InvalidRequests"), .ref (He.ga K "Occupied"), .ref (He.ga K "UnknownBlock")] = some false
  r : PySem.W.kitOne K (.ref (cM K)) (.ref (He.ga K "RoomError")) = some true
  m : PySem.W.exmOne K (.ref (cM K)) (.ref (cM K)) = some true
def t_sm (K : PySem.W.Frag) (a : Addr) (cls : Value) (d : Option Addr) : TS :=
  tSeq (tAsg (tCB (rIsXT K (cM K) a cls d) (tCons (tVar 2) (tCons (tTup (tCons (tC (.ref (He.ga K "InvalidAddress"))) (tCons (tC (.ref (He.ga K "InvalidLevel"))) (tCons (tC (.ref (He.ga K "InvalidNumbers"))) (tCons (tC (.ref (He.ga K "InvalidRequests"))) (tCons (tC (.ref (He.ga K "Occupied"))) (tCons (tC (.ref (He.ga K "UnknownBlock"))) tNil))))))) tNil))) (gName 3))
    (tAsg (tIf (tAnd (tB (tCB (rIsX K (cM K) a cls d) (tCons (tVar 2) (tCons (tC (.ref (He.ga K "RoomError"))) tNil)))) (tNot (tB (tVar 3)))) (tLst (tCons (tC (.str "moves")) (tCons (tXf a cls d (cM K) "position" (tVar 2)) tNil))) (tLst (tCons (tC (.str "other")) tNil))) (gName 1))
/-- what told makes of a lambda that returns, or raises InvalidMoves at a position -/
def TTold (K : PySem.W.Frag) : (XK → Hp → VK → Prop) → Hp → VK → Prop := fun tl H Q => ∃ o : Option Nat,
  (∀ (H1 : Hp) (E : XK) (N : VK), Same H H1 → (o = none → ∀ u H2, Same H1 H2 → N u H2) → (∀ i : Nat, o = some i → Raised K "InvalidMoves" "position" (.int i) H1 E) → tl E H1 N) ∧
  (o = none → ∀ R u H3, H R = none → Same H H3 → H3 R = some (.lst [.str "returned", u]) → Q (.ref R) H3) ∧ ∀ i : Nat, o = some i → ∀ R H3, H R = none → Same H H3 → H3 R = some (.lst [.str "moves", .int i]) → Q (.ref R) H3
theorem sc__law_told : FnScope ["_law_call", "_law_told_here", "e", "_law_others"] ["_law_call"] (defScope (top 57)) := ⟨rfl, rfl, rfl, by decide +kernel, rfl, by decide +kernel, by decide +kernel⟩
theorem told_gives {X : Cx} (T : Tx X.K X.mg) (KM : KitM X.K) (hr : RoomG 3 X.A) {g : Addr} {cdg : Value} {q : Str} :
    GivesAt X ["_law_call", "_law_told_here", "e", "_law_others"] "_law_told" (defScope (top 57)) g cdg (defBody (top 57)) "_law_call" q (TTold X.K) := by
  intro f c' s H Q tl act hc ⟨o, h1, h2, h3⟩
  refine ⟨_, pss_cons (ps_set (i := 1) sc__law_told.nd rfl (Or.inl rfl) (pe_lst (pa_cons pe_str pa_nil)))
    (pss_cons (ps_try_as4 (X := (cxOf CX0 X.prog X.w X.K X.mg X.base ["_law_call", "_law_told_here", "e", "_law_others"] "_law_told" (defScope (top 57)) g cdg X.A X.stack s H E0).nox) (i := 2) (n := "e")
        (tb := fun W => tAsg (tLst (tCons (tC (.str "returned")) (tCons (fun σZ HZ Q => σZ[0]? = some (some (.ref f)) ∧ HZ c' = some (CodeO c' q) ∧ tl (WE W σZ) HZ Q) tNil))) (gName 1)) (l := [(.one (.ref (cM X.K)), t_sm X.K)]) (Wout := fun _ _ _ _ => False)
        rfl rfl sc__law_told.nd rfl rfl LamX.takes0 (fun W pn xe tk _ => pss_one (ps_set (i := 1) sc__law_told.nd rfl (Or.inl rfl) (pe_lst (pa_cons pe_str (pa_cons (by exact (act W pn xe _ _ tk)) pa_nil)))))
        (HdAs4.one ⟨rfl, by decide, Or.inl T.g_InvalidMoves⟩
          (fun a oe cls d pn hz hf => (by exact (pss_cons (ps_set (i := 3) sc__law_told.nd rfl (Or.inl rfl) (by exact (pe_callB (r := rIsXT X.K (cM X.K) a cls d) (id := "isinstance") (call_isXT KM.ec hz hf) (by rfl) T.n_isinstance (by decide +kernel) (by exact (pa_cons (pv 2) (pa_cons (pe_tup (pa_cons (pe_glob (v := .ref _) rfl T.g_InvalidAddress rfl) (pa_cons (pe_glob (v := .ref _) rfl T.g_InvalidLevel rfl) (pa_cons (pe_glob (v := .ref _) rfl T.g_InvalidNumbers rfl) (pa_cons (pe_glob (v := .ref _) rfl T.g_InvalidRequests rfl) (pa_cons (pe_glob (v := .ref _) rfl T.g_Occupied rfl) (pa_cons (pe_glob (v := .ref _) rfl T.g_UnknownBlock rfl) pa_nil))))))) pa_nil))))))
            (pss_one (ps_set (i := 1) sc__law_told.nd rfl (Or.inl rfl) (pe_ifExp (PW.pt (pw_and (pt_val (by exact (pe_callB (r := rIsX X.K (cM X.K) a cls d) (id := "isinstance") (call_isX KM.ec hz hf) (by rfl) T.n_isinstance (by decide +kernel) (by exact (pa_cons (pv 2) (pa_cons (pe_glob (v := .ref _) rfl T.g_RoomError rfl) pa_nil)))))) (pw_and1 (pt_not (pt_val (pv 3)))))) (pe_lst (pa_cons pe_str (pa_cons (by exact (pe_xf KM.xf KM.no hz hf (pv 2))) pa_nil))) (pe_lst (pa_cons pe_str pa_nil))))))))
        .nil))
    (pss_one (ps_ret (pv 1)))), ?_⟩
  refine ⟨(by show 1 ≤ sizeLine; decide), fun l hl => ?_⟩
  have sl : Same H (upd H l (.lst [.str "other"])) := same_upd hl
  refine ⟨rfl, sl _ _ hc, h1 _ _ _ sl (fun e u H2 s2 => ?_) (fun i e dd H2 hd s2 hx => ?_)⟩
  · refine ⟨(by show 2 ≤ sizeLine; decide), fun R hR => ?_⟩
    have sA := sl.trans s2
    exact ⟨_, rfl, h2 e R u _ (sA.free hR) (sA.trans (same_upd hR)) upd_same⟩
  · refine ⟨true, KM.m, fun _ a0 ha0 => ?_, fun z => Bool.noConfusion z⟩
    have sA := sl.trans s2
    refine ⟨_, rfl, (by show 6 ≤ sizeLine; decide), fun t ht => ?_⟩
    have st := same_upd (o := .tup [.ref (He.ga X.K "InvalidAddress"), .ref (He.ga X.K "InvalidLevel"), .ref (He.ga X.K "InvalidNumbers"), .ref (He.ga X.K "InvalidRequests"), .ref (He.ga X.K "Occupied"), .ref (He.ga X.K "UnknownBlock")]) ht
    have hx2 := st _ _ hx
    refine ⟨t, _, _, false, dd, _, rfl, rfl, rfl, upd_same, .cons (.own _) (.cons (.own _) (.cons (.own _) (.cons (.own _) (.cons (.own _) (.cons (.own _) .nil))))), hx2, KM.u, ?_⟩
    have sB := sA.trans st
    refine ⟨_, rfl, _, _, true, dd, _, rfl, rfl, rfl, .own _, hx2, KM.r, _, rfl, ifT rfl ?_⟩
    refine ⟨_, rfl, _, rfl, ifT rfl ?_⟩
    refine ⟨_, rfl, rfl, rfl, dd, _, .int i, rfl, hx2, (by simp [List.lookup]), (by show 2 ≤ sizeLine; decide), fun R hR => ?_⟩
    exact ⟨_, rfl, h3 i e R _ (sB.free hR) (sB.trans (same_upd hR)) upd_same⟩
end K34

set_option Elab.async false
set_option linter.all false
set_option maxRecDepth 100000
set_option maxHeartbeats 400000
set_option pp.maxSteps 900
namespace K34
open PySem PySem.Spec PyProof.Rows L2 Gu Ex LamX
section
variable {K : PySem.W.Frag} {H : Hp} {n m : Nat}
theorem tqa_nil : TqAll K H [] [] n m := ⟨.nil, rfl, Nat.zero_le _, Nat.zero_le _⟩
theorem tqa_cons {v : V} {vs : List V} {d : PyData} {ds : List PyData} (t : Tq K H v d n m) (a : TqAll K H vs ds n m) : TqAll K H (v :: vs) (d :: ds) n m := by
  refine ⟨.cons t.dq a.dq, ?_, ?_, ?_⟩
  · show (d.showable && PyData.showableAll ds) = true
    rw [t.sh, a.sh]
    rfl
  · show max d.depth (PyData.depthAll ds) ≤ n
    have := t.dp
    have := a.dp
    omega
  · show (d.shown.length + ((PyData.shownAll ds).map (·.length)).sum) + 2 * ((PyData.shownAll ds).length + 1) ≤ (vs.length + 1) * (m + 2)
    have := t.ln
    have := a.ln
    rw [Nat.add_mul, Nat.one_mul]
    omega
end
def dueV : Option Nat → V
  | none => .non
  | some i => .int i
/-- what was told is due -/
def ToldM (H : Hp) (R : Addr) : Option Nat → Prop
  | none => ∃ u, H R = some (.lst [.str "returned", u])
  | some i => H R = some (.lst [.str "moves", .int i])
theorem ToldM.same {H H' : Hp} {R : Addr} {o : Option Nat} (h : ToldM H R o) (s : Same H H') : ToldM H' R o := by
  cases o with
  | none =>
    obtain ⟨u, e⟩ := h
    exact ⟨u, s _ _ e⟩
  | some i => exact s _ _ h
def SmP (o : Option Nat) : Prop := ∀ i, o = some i → i ≤ 1000
theorem tq_moves {K : PySem.W.Frag} {H : Hp} {R : Addr} {i : Nat} (h : H R = some (.lst [.str "moves", .int i])) (hi : i ≤ 1000) : Tq K H (.ref R) (.list [.str "moves", .int i]) 4 200 := by
  have b39 : (10 : Int) ^ 39 = 1000000000000000000000000000000000000000 := by decide
  have t := (tqa_cons (m := 41) (n := 0) (K := K) (H := H) (tq_text "moves" (by decide +kernel)) (tqa_cons (tq_int (i := (i : Int)) (by omega) (by omega)) tqa_nil)).lst h
  exact t.mono (by decide) (by show 2 * (41 + 2) + 3 ≤ 200; decide)
section
variable {P : Program} {w : World} {K : PySem.W.Frag} {mg : Str → Option Value} {base : Heap} {f : Addr} {fd : FuncData}
def spDue : Sp := fun vs H Q _ => ∃ (R : Addr) (o : Option Nat), vs = [.ref R, dueV o] ∧ ToldM H R o ∧ SmP o ∧ ∀ H', Same H H' → Q (.bl true) H'
theorem sc__law_is_due : FnScope ["_law_told_here", "_law_due"] ["_law_told_here", "_law_due"] (defScope (top 58)) := ⟨rfl, rfl, rfl, by decide +kernel, rfl, by decide +kernel, by decide +kernel⟩
theorem ok_due (T : Tx K mg) (F : FnP K "_law_is_due" "_law_is_due" (top 58) f fd) : FnG P w K mg base CX0 2 f fd ["_law_told_here", "_law_due"] spDue := by
  refine okG F sc__law_is_due (fun vs H Q E h => ?_) (fun cdv A outer s H vs Q E hr h => ⟨_, PSs.nox (pss_one (ps_ret (pe_ifExp (pt_cmpR op_isN (pv 1) pe_non (nomark _)) (pe_cmpR op_eq (pe_ix ix_list (pv 0) pe_int (fun _ _ => rfl)) pe_str (nomark _)) (pe_cmpR op_eq (pe_callB (call_reprQ hr T.sys) (by rfl) T.n_repr (by decide +kernel) (pa_cons (pv 0) pa_nil)) (pe_callB (call_reprQ hr T.sys) (by rfl) T.n_repr (by decide +kernel) (pa_cons (pe_lst (pa_cons pe_str (pa_cons (pv 1) pa_nil))) pa_nil)) (nomark _))))), ?_⟩)
  · obtain ⟨R, o, rfl, _⟩ := h
    rfl
  · obtain ⟨R, o, rfl, tm, sm, q⟩ := h
    cases o with
    | none =>
      obtain ⟨u, e⟩ := tm
      refine ⟨_, rfl, rfl, _, rfl, ifT (decide_eq_true rfl) ?_⟩
      refine ⟨_, rfl, R, _, _, _, rfl, rfl, SqL.of e, rfl, rfl, ?_⟩
      rw [decide_eq_true rfl]
      exact q H (Same.refl H)
    | some i =>
      have e : H R = some (.lst [.str "moves", .int i]) := tm
      have i1 := sm i rfl
      refine ⟨_, rfl, rfl, _, rfl, ifF (decide_eq_false fun z => nomatch z) ?_⟩
      have tq := tq_moves (K := K) e i1
      refine ⟨_, rfl, _, _, rfl, tq.dq, tq.sh, Nat.le_trans tq.dp (by decide), Nat.le_trans tq.ln (by decide), _, rfl, (by show 2 ≤ sizeLine; decide), fun B hB => ?_⟩
      have sB := same_upd (o := .lst [.str "moves", .int (i : Nat)]) hB
      have tq2 := tq_moves (K := K) (H := upd H B (.lst [.str "moves", .int (i : Nat)])) (R := B) (i := i) upd_same i1
      refine ⟨_, _, rfl, tq2.dq, tq2.sh, Nat.le_trans tq2.dp (by decide), Nat.le_trans tq2.ln (by decide), rfl, ?_⟩
      rw [decide_eq_true rfl]
      exact q _ sB
end
end K34

set_option Elab.async false
set_option linter.all false
set_option maxRecDepth 100000
set_option maxHeartbeats 4000000
set_option pp.maxSteps 900
namespace K34
open PySem PySem.Spec PyProof.Rows L2 Gu Ex
/-- as Stp, and tables may have grown -/
def StpN (r : Addr) (H H' : Hp) : Prop := Rng H' r ∧ ∀ b o, b ≠ r → (∀ ps, o ≠ .tbl ps) → H b = some o → H' b = some o
theorem Stp.n {r : Addr} {H H' : Hp} (t : Stp r H H') : StpN r H H' := ⟨t.1, fun b o n _ e => t.2 b o n e⟩
theorem StpN.refl {r : Addr} {H : Hp} (h : Rng H r) : StpN r H H := ⟨h, fun _ _ _ _ e => e⟩
theorem StpN.trans {r : Addr} {H H1 H2 : Hp} (a : StpN r H H1) (b : StpN r H1 H2) : StpN r H H2 := ⟨b.1, fun c o n z e => b.2 c o n z (a.2 c o n z e)⟩
theorem StpN.lst {r p : Addr} {H H' : Hp} {xs : List V} (t : StpN r H H') (n : p ≠ r) (e : H p = some (.lst xs)) : H' p = some (.lst xs) := t.2 _ _ n (fun _ z => nomatch z) e
theorem StpN.tup {r p : Addr} {H H' : Hp} {xs : List V} (t : StpN r H H') (n : p ≠ r) (e : H p = some (.tup xs)) : H' p = some (.tup xs) := t.2 _ _ n (fun _ z => nomatch z) e
theorem StpN.dK {r p : Addr} {H H' : Hp} {xs : List (Key × V)} (t : StpN r H H') (n : p ≠ r) (e : H p = some (.dK xs)) : H' p = some (.dK xs) := t.2 _ _ n (fun _ z => nomatch z) e
theorem StpN.ins {r p C dx : Addr} {H H' : Hp} {fs : List (Str × V)} (t : StpN r H H') (n : p ≠ r) (e : H p = some (.ins C dx fs)) : H' p = some (.ins C dx fs) := t.2 _ _ n (fun _ z => nomatch z) e
/-- a value that no step of the draws' list changes, as repr shows it -/
def Vl (K : PySem.W.Frag) (r : Addr) (H : Hp) (v : V) (d : PyData) (n m : Nat) : Prop := ∀ H', StpN r H H' → Any H' v ∧ Tq K H' v d n m
inductive Vls (K : PySem.W.Frag) (r : Addr) (H : Hp) (n m : Nat) : List V → List PyData → Prop
  | nil : Vls K r H n m [] []
  | cons {v : V} {d : PyData} {vs : List V} {ds : List PyData} : Vl K r H v d n m → Vls K r H n m vs ds → Vls K r H n m (v :: vs) (d :: ds)
section
variable {K : PySem.W.Frag} {r : Addr} {H H1 : Hp} {v x y : V} {d dx dy : PyData} {n m : Nat}
theorem Vl.stepN (h : Vl K r H v d n m) (t : StpN r H H1) : Vl K r H1 v d n m := fun H' t' => h H' (t.trans t')
theorem Vl.step (h : Vl K r H v d n m) (t : Stp r H H1) : Vl K r H1 v d n m := h.stepN t.n
theorem Vl.up (h : Vl K r H v d n m) {n' m' : Nat} (h1 : n ≤ n' := by decide) (h2 : m ≤ m' := by decide) : Vl K r H v d n' m' := fun H' t => ⟨(h H' t).1, (h H' t).2.mono h1 h2⟩
theorem vl_int {i : Int} (h1 : -(10 ^ 39) ≤ i) (h2 : i ≤ 10 ^ 39) : Vl K r H (.int i) (.int i) 0 41 := fun _ _ => ⟨.int i, tq_int h1 h2⟩
theorem vl_non : Vl K r H .non .none 0 41 := fun _ _ => ⟨.non, tq_non⟩
theorem vl_bl (b : Bool) : Vl K r H (.bl b) (.bool b) 0 41 := fun _ _ => ⟨.bl b, tq_bl b⟩
theorem vl_str (z : String) (h : (reprText (Str.ofString z)).length ≤ 41) : Vl K r H (.str (Str.ofString z)) (.str (Str.ofString z)) 0 41 := fun _ _ => ⟨.str _, tq_text z h⟩
theorem Vls.tq : ∀ {vs : List V} {ds : List PyData}, Vls K r H n m vs ds → ∀ H', StpN r H H' → TqAll K H' vs ds n m
  | _, _, .nil, _, _ => tqa_nil
  | _, _, .cons h hs, H', t => tqa_cons (h H' t).2 (hs.tq H' t)
theorem Rng.dct {p : Addr} {kvs : List (Key × V)} (h : Rng H r) (e : H p = some (.dK kvs)) : p ≠ r := fun z => by
  obtain ⟨a, b, e2, _⟩ := h
  rw [z, e2] at e
  cases e
theorem vl_dct {a : Addr} (hR : Rng H r) (h : H a = some (.dK [])) : Vl K r H (.ref a) (.dict []) 1 41 := fun H' t => ⟨.dct (t.dK (hR.dct h) h), tq_dct (t.dK (hR.dct h) h)⟩
theorem vl_tup {a : Addr} {vs : List V} {ds : List PyData} (hR : Rng H r) (h : H a = some (.tup vs)) (z : Vls K r H n m vs ds) : Vl K r H (.ref a) (.tuple ds) (n + 1) (vs.length * (m + 2) + 3) := fun H' t =>
  ⟨.tup (t.tup (hR.tup h) h), (z.tq H' t).tup (t.tup (hR.tup h) h)⟩
theorem vl_lst {a : Addr} {vs : List V} {ds : List PyData} (ne : a ≠ r) (h : H a = some (.lst vs)) (z : Vls K r H n m vs ds) : Vl K r H (.ref a) (.list ds) (n + 1) (vs.length * (m + 2) + 3) := fun H' t =>
  ⟨.lst (t.lst ne h), (z.tq H' t).lst (t.lst ne h)⟩
/-- an element of what is asked -/
def El (K : PySem.W.Frag) (r : Addr) (H : Hp) (e : V × Mo × PyData) : Prop := ∀ H', StpN r H H' → Mv H' e.1 e.2.1 ∧ Tq K H' e.1 e.2.2 3 400
theorem El.stepN {e : V × Mo × PyData} (h : El K r H e) (t : StpN r H H1) : El K r H1 e := fun H' t' => h H' (t.trans t')
theorem El.step {e : V × Mo × PyData} (h : El K r H e) (t : Stp r H H1) : El K r H1 e := h.stepN t.n
theorem el_non : El K r H (.non, none, .none) := fun H' t => ⟨.other .non fun _ _ z => (nomatch z), (vl_non H' t).2.mono (by decide) (by decide)⟩
theorem el_int {i : Int} (h1 : -(10 ^ 39) ≤ i) (h2 : i ≤ 10 ^ 39) : El K r H (.int i, none, .int i) := fun H' t => ⟨.other (.int i) fun _ _ z => (nomatch z), (vl_int h1 h2 H' t).2.mono (by decide) (by decide)⟩
theorem el_dct {a : Addr} (hR : Rng H r) (h : H a = some (.dK [])) : El K r H (.ref a, none, .dict []) := fun H' t => ⟨.other (vl_dct (K := K) hR h H' t).1 fun u xs z e => (by
  cases z
  rw [t.dK (hR.dct h) h] at e
  cases e), (vl_dct hR h H' t).2.mono (by decide) (by decide)⟩
theorem el_lst {a : Addr} {vs : List V} {ds : List PyData} (ne : a ≠ r) (h : H a = some (.lst vs)) (z : Vls K r H 0 41 vs ds) (hl : vs.length ≤ 3) : El K r H (.ref a, none, .list ds) := fun H' t => ⟨.other (vl_lst (K := K) ne h z H' t).1 fun u xs z e => (by
  cases z
  rw [t.lst ne h] at e
  cases e), (vl_lst ne h z H' t).2.mono (by decide) (by omega)⟩
theorem el_tup {a : Addr} {vs : List V} {ds : List PyData} (hR : Rng H r) (h : H a = some (.tup vs)) (z : Vls K r H 0 41 vs ds) (hl : vs.length ≤ 3) (h2 : vs.length ≠ 2) : El K r H (.ref a, none, .tuple ds) := fun H' t => ⟨.other (vl_tup (K := K) hR h z H' t).1 fun u xs z e => (by
  cases z
  rw [t.tup (hR.tup h) h] at e
  cases e
  exact h2), (vl_tup hR h z H' t).2.mono (by decide) (by omega)⟩
theorem el_odd {a : Addr} (hR : Rng H r) (h : H a = some (.tup [x, y])) (vx : Vl K r H x dx 1 100) (vy : Vl K r H y dy 1 100) (b : (isI x && isI y) = false) : El K r H (.ref a, none, .tuple [dx, dy]) := fun H' t =>
  ⟨.odd (t.tup (hR.tup h) h) (vx H' t).1 (vy H' t).1 b, (vl_tup hR h (.cons vx (.cons vy .nil)) H' t).2.mono (by decide) (by show 2 * (100 + 2) + 3 ≤ 400; decide)⟩
theorem el_mv {a : Addr} {p q : Int} (hR : Rng H r) (h : H a = some (.tup [.int p, .int q])) (b : (-(10 ^ 39) ≤ p ∧ p ≤ 10 ^ 39) ∧ -(10 ^ 39) ≤ q ∧ q ≤ 10 ^ 39) : El K r H (.ref a, some (p, q), .tuple [.int p, .int q]) := fun H' t =>
  ⟨.mv (t.tup (hR.tup h) h), (vl_tup hR h (.cons (vl_int b.1.1 b.1.2) (.cons (vl_int b.2.1 b.2.2) .nil)) H' t).2.mono (by decide) (by show 2 * (41 + 2) + 3 ≤ 400; decide)⟩
def Els (K : PySem.W.Frag) (r : Addr) (H : Hp) (es : List (V × Mo × PyData)) : Prop := ∀ e ∈ es, El K r H e
variable {es fs : List (V × Mo × PyData)}
theorem Els.stepN (h : Els K r H es) (t : StpN r H H1) : Els K r H1 es := fun e he => (h e he).stepN t
theorem Els.step (h : Els K r H es) (t : Stp r H H1) : Els K r H1 es := h.stepN t.n
theorem Els.app (h : Els K r H es) (g : Els K r H fs) : Els K r H (es ++ fs) := fun e he => (List.mem_append.mp he).elim (h e) (g e)
theorem Els.take (h : Els K r H es) (i : Nat) : Els K r H (es.take i) := fun e he => h e (List.mem_of_mem_take he)
theorem Els.drop (h : Els K r H es) (i : Nat) : Els K r H (es.drop i) := fun e he => h e (List.mem_of_mem_drop he)
theorem Els.cons {e : V × Mo × PyData} (h : El K r H e) (g : Els K r H es) : Els K r H (e :: es) := fun f hf => (List.mem_cons.mp hf).elim (fun z => z ▸ h) (g f)
theorem Els.nil : Els K r H [] := fun _ z => nomatch z
theorem Els.rev (h : Els K r H es) : Els K r H es.reverse := fun e he => h e (List.mem_reverse.mp he)
theorem Els.mvs : ∀ {es : List (V × Mo × PyData)}, Els K r H es → Rng H r → Mvs H (es.map (·.1)) (es.map (·.2.1))
  | [], _, _ => .nil
  | e :: es, h, hR => .cons (h e List.mem_cons_self H (StpN.refl hR)).1 (Els.mvs (es := es) (fun f hf => h f (List.mem_cons_of_mem _ hf)) hR)
theorem Els.tq : ∀ {es : List (V × Mo × PyData)}, Els K r H es → Rng H r → TqAll K H (es.map (·.1)) (es.map (·.2.2)) 3 400
  | [], _, _ => tqa_nil
  | e :: es, h, hR => tqa_cons (h e List.mem_cons_self H (StpN.refl hR)).2 (Els.tq (es := es) (fun f hf => h f (List.mem_cons_of_mem _ hf)) hR)
/-- the drawn moves are such elements -/
theorem els_of (hR : Rng H r) : ∀ {ps : List Addr} {mm : List (Int × Int)}, Refs prV H ps mm → (∀ m ∈ mm, (0 ≤ m.1 ∧ m.1 ≤ 1000000000000) ∧ 0 ≤ m.2 ∧ m.2 ≤ 1000000000000) → ∃ es : List (V × Mo × PyData), es.map (·.1) = ps.map V.ref ∧ es.length = mm.length ∧ Els K r H es
  | _, _, .nil, _ => ⟨[], rfl, rfl, Els.nil⟩
  | _, _, .cons (p := p) (t := t) h hs, b => by
    obtain ⟨es, e1, e2, e3⟩ := els_of hR hs fun m hm => b m (List.mem_cons_of_mem _ hm)
    have b39 : (10 : Int) ^ 39 = 1000000000000000000000000000000000000000 := by decide
    have bt := b t List.mem_cons_self
    refine ⟨(.ref p, some (t.1, t.2), .tuple [.int t.1, .int t.2]) :: es, ?_, ?_, Els.cons (el_mv hR h ⟨⟨by omega, by omega⟩, by omega, by omega⟩) e3⟩
    · rw [List.map_cons, e1]
      rfl
    · rw [List.length_cons, e2, List.length_cons]
end
end K34

set_option Elab.async false
set_option linter.all false
set_option maxRecDepth 100000
set_option maxHeartbeats 4000000
set_option pp.maxSteps 1500
namespace K34
open PySem PySem.Spec PyProof.Rows L2 Gu Ex
theorem Stp.del {r l : Addr} {G G' : Hp} (t : Stp r G G') (lr : l ≠ r) : Stp r (del G l) (del G' l) := by
  refine ⟨?_, fun b o n e => ?_⟩
  · obtain ⟨x, y, e, z⟩ := t.1
    exact ⟨x, y, by rw [del_ne lr.symm]; exact e, z⟩
  · have nb : b ≠ l := fun z => by
      rw [z, del_same] at e
      cases e
    rw [del_ne nb] at e ⊢
    exact t.2 b o n e
theorem stp_del {r l : Addr} {G : Hp} (h : Rng G r) (lr : l ≠ r) : Stp r (del G l) G := ⟨h, fun b o n e => by
  have nb : b ≠ l := fun z => by
    rw [z, del_same] at e
    cases e
  rw [del_ne nb] at e
  exact e⟩
theorem stp_put {r l : Addr} {G : Hp} {x : HO} (h : Rng G r) (lr : l ≠ r) : Stp r (del G l) (del (upd G l x) l) := by
  refine ⟨?_, fun b o n e => ?_⟩
  · obtain ⟨x, y, e, z⟩ := h
    exact ⟨x, y, by rw [del_ne lr.symm, upd_ne lr.symm]; exact e, z⟩
  · have nb : b ≠ l := fun z => by
      rw [z, del_same] at e
      cases e
    rw [del_ne nb] at e
    rw [del_ne nb, upd_ne nb]
    exact e
/-- from what stands beside the old list to what stands beside the new one -/
theorem stp_swap {r l l' : Addr} {G G' : Hp} (t : Stp r G G') (lr : l ≠ r) (lr' : l' ≠ r) (f : G l' = none) : Stp r (del G l) (del G' l') := by
  refine ⟨?_, fun b o n e => ?_⟩
  · obtain ⟨x, y, e, z⟩ := t.1
    exact ⟨x, y, by rw [del_ne lr'.symm]; exact e, z⟩
  · have nb : b ≠ l := fun z => by
      rw [z, del_same] at e
      cases e
    rw [del_ne nb] at e
    have nb' : b ≠ l' := fun z => by
      rw [z, f] at e
      cases e
    rw [del_ne nb']
    exact t.2 b o n e
theorem stp_fresh {r l : Addr} {G : Hp} {x : HO} (h : Rng G r) (lr : l ≠ r) (f : G l = none) : Stp r G (del (upd G l x) l) := by
  refine ⟨?_, fun b o n e => ?_⟩
  · obtain ⟨a, b, e, z⟩ := h
    exact ⟨a, b, by rw [del_ne lr.symm, upd_ne lr.symm]; exact e, z⟩
  · have nb : b ≠ l := fun z => by
      rw [z, f] at e
      cases e
    rw [del_ne nb, upd_ne nb]
    exact e
theorem app_step {K : PySem.W.Frag} {r l u : Addr} {H G G2 : Hp} {es : List (V × Mo × PyData)} {p q : Int} (t : Stp r G G2) (lr : l ≠ r) (Es : Els K r (del G l) es) (hl : G2 l = some (.lst (es.map (·.1)))) (hu : G2 u = some (.tup [.int p, .int q]))
    (b : (-(10 ^ 39) ≤ p ∧ p ≤ 10 ^ 39) ∧ -(10 ^ 39) ≤ q ∧ q ≤ 10 ^ 39) (fl : H l = none) (tH : Stp r H G2) :
    ∃ e : V × Mo × PyData, (upd G2 l (.lst (es.map (·.1) ++ [.ref u]))) l = some (.lst ((es ++ [e]).map (·.1))) ∧ Els K r (del (upd G2 l (.lst (es.map (·.1) ++ [.ref u]))) l) (es ++ [e]) ∧ Stp r H (upd G2 l (.lst (es.map (·.1) ++ [.ref u]))) := by
  have nul : u ≠ l := fun z => by
    rw [z, hl] at hu
    cases hu
  have sp := stp_put (x := .lst (es.map (·.1) ++ [.ref u])) t.1 lr
  refine ⟨(.ref u, some (p, q), .tuple [.int p, .int q]), by rw [upd_same, List.map_append]; rfl, (Es.step ((t.del lr).trans sp)).app (Els.cons (el_mv sp.1 (by rw [del_ne nul, upd_ne nul]; exact hu) b) Els.nil), ?_, fun c o n e => ?_⟩
  · obtain ⟨x, y, e, z⟩ := tH.1
    exact ⟨x, y, by rw [upd_ne lr.symm]; exact e, z⟩
  · rw [upd_ne (ne_of_none e fl)]
    exact tH.2 c o n e
section
variable {P : Program} {w : World} {K : PySem.W.Frag} {mg : Str → Option Value} {base : Heap} {f : Addr} {fd : FuncData}
def spOddM (K : PySem.W.Frag) : Sp := fun vs H Q _ => ∃ (r s a : Addr) (ns : List Int) (n : Int) (qs : List Addr) (bs : List Blk), vs = [.ref r, .ref s, .int n, .ref a] ∧ Rng H r ∧ Lb ns n H s a qs bs ∧ s ≠ r ∧ ∀ e H', Stp r H H' → El K r H' e → Q e.1 H'
theorem sc__law_odd : FnScope ["_law_rng_here", "_law_sizes_here", "_law_length", "_law_blocks_here", "_law_some", "_law_block", "_law_size"] ["_law_rng_here", "_law_sizes_here", "_law_length", "_law_blocks_here"] (defScope (top 59)) := ⟨rfl, rfl, rfl, by decide +kernel, rfl, by decide +kernel, by decide +kernel⟩
theorem ok_odd (T : Tx K mg) (D__law_draw : Df P w K mg base 1 "_law_draw" ["_law_rng_here", "_law_many"] spDraw) (D__law_choice : Df P w K mg base 2 "_law_choice" ["_law_rng_here", "_law_options"] spChoice)
    (F : FnP K "_law_odd" "_law_odd" (top 59) f fd) : FnOk P w K mg base CX0 3 f fd ["_law_rng_here", "_law_sizes_here", "_law_length", "_law_blocks_here"] (spOddM K) := by
  refine F.ok sc__law_odd (fun vs H Q E h => ?_) (fun cdv A outer s H vs Q E hr h => ⟨_, PSs.nox (pss_cons (ps_set (i := 4) sc__law_odd.nd rfl (by first | exact Or.inl rfl | exact Or.inr rfl) (pe_lst (pa_cons pe_non (pa_cons pe_int (pa_cons (pe_tup pa_nil) (pa_cons (pe_tup (pa_cons pe_int pa_nil)) (pa_cons (pe_tup (pa_cons pe_int (pa_cons pe_int (pa_cons pe_int pa_nil)))) (pa_cons (pe_lst (pa_cons pe_int (pa_cons pe_int pa_nil))) (pa_cons (pe_tup (pa_cons pe_bl (pa_cons pe_int pa_nil))) (pa_cons (pe_tup (pa_cons pe_int (pa_cons pe_bl pa_nil))) (pa_cons (pe_tup (pa_cons (pe_un un_neg pe_int) (pa_cons pe_int pa_nil))) (pa_cons (pe_tup (pa_cons pe_int (pa_cons (pe_un un_neg pe_int) pa_nil))) (pa_cons (pe_tup (pa_cons pe_str (pa_cons pe_int pa_nil))) (pa_cons (pe_tup (pa_cons pe_int (pa_cons pe_int pa_nil))) (pa_cons (pe_tup (pa_cons pe_non (pa_cons pe_int pa_nil))) pa_nil))))))))))))))) (pss_cons (ps_for PassesOwn.never rfl (pi_list (pv 3)) (pg_name (i := 5) sc__law_odd.nd rfl (by first | exact Or.inl rfl | exact Or.inr rfl)) (pss_cons (ps_set (i := 6) sc__law_odd.nd rfl (by first | exact Or.inl rfl | exact Or.inr rfl) (pe_ix ix_list (pv 1) (pe_ix (r := rIxT K) ix_tup (pv 5) pe_int (fun _ _ => rfl)) (fun _ _ => rfl))) (pss_cons (ps_set (i := 4) sc__law_odd.nd rfl (by first | exact Or.inl rfl | exact Or.inr rfl) (pe_op op_cat (pv 4) (pe_lst (pa_cons (pe_tup (pa_cons (pe_ix (r := rIxT K) ix_tup (pv 5) pe_int (fun _ _ => rfl)) (pa_cons (pe_op op_add (pe_ix (r := rIxT K) ix_tup (pv 5) pe_int (fun _ _ => rfl)) (pv 6)) pa_nil))) (pa_cons (pe_tup (pa_cons (pe_ix (r := rIxT K) ix_tup (pv 5) pe_int (fun _ _ => rfl)) (pa_cons (pv 2) pa_nil))) (pa_cons (pe_tup (pa_cons (pe_ix (r := rIxT K) ix_tup (pv 5) pe_int (fun _ _ => rfl)) (pa_cons (pe_callB (call_max2 rfl) (by rfl) T.n_max (by decide +kernel) (pa_cons pe_int (pa_cons (pe_op op_sub (pv 2) (pv 6)) pa_nil))) pa_nil))) pa_nil)))))) (pss_cons (ps_expr (pe_bm PySem.F.plainAttrs_list PySem.F.slot_list_append PySem.F.type_list_append mt_append (pv 4) (pa_cons (pe_tup (pa_cons (pe_op op_add (pe_ix (r := rIxT K) ix_tup (pv 5) pe_int (fun _ _ => rfl)) pe_int) (pa_cons (pcall D__law_draw hr (pa_cons (pv 0) (pa_cons (pv 2) pa_nil))) pa_nil))) pa_nil))) (pss_cons (ps_expr (pe_bm PySem.F.plainAttrs_list PySem.F.slot_list_append PySem.F.type_list_append mt_append (pv 4) (pa_cons (pe_tup (pa_cons (pe_ix (r := rIxT K) ix_tup (pv 5) pe_int (fun _ _ => rfl)) (pa_cons (pe_ix (r := rIxT K) ix_tup (pcall D__law_choice hr (pa_cons (pv 0) (pa_cons (pv 3) pa_nil))) pe_int (fun _ _ => rfl)) pa_nil))) pa_nil))) (pss_one (ps_expr (pe_bm PySem.F.plainAttrs_list PySem.F.slot_list_append PySem.F.type_list_append mt_append (pv 4) (pa_cons (pe_tup (pa_cons (pe_ix (r := rIxT K) ix_tup (pv 5) pe_int (fun _ _ => rfl)) (pa_cons (pe_op op_mul (pcall D__law_draw hr (pa_cons (pv 0) (pa_cons (pe_op op_fdivW (pv 2) (pv 6)) pa_nil))) (pv 6)) pa_nil))) pa_nil))))))))) (pss_one (ps_ret (pcall D__law_choice hr (pa_cons (pv 0) (pa_cons (pv 4) pa_nil))))))), ?_⟩)
  · obtain ⟨r, s, a, ns, n, qs, bs, rfl, _⟩ := h
    rfl
  · obtain ⟨r, s, a, ns, n, qs, bs, rfl, hR, B, sr, q⟩ := h
    have sl : sizeLine = 16777216 := sizeLine_eq
    have big : (10 : Int) ^ 40 = 10000000000000000000000000000000000000000 := by decide
    have b39 : (10 : Int) ^ 39 = 1000000000000000000000000000000000000000 := by decide
    have pl := B.rf.len
    have bl := B.ln
    have n1 := B.n1
    have n2 := B.n2
    have wf := B.wf
    have gd := B.gd
    have t0 := Stp.refl hR
    have d0_1 := Stp.refl t0.1
    have e0_1 : Els K r H [] := Els.nil
    have E1 := e0_1.app (Els.cons (el_non) Els.nil)
    have E2 := E1.app (Els.cons (el_int (i := 0) (by decide) (by decide)) Els.nil)
    refine ⟨(by show 0 ≤ sizeLine; decide), fun a3 hq3 => ?_⟩
    have x3 := same_upd (o := .tup []) hq3
    have z3 := Stp.same t0.1 x3
    have k3 : (upd H a3 (.tup [])) a3 = some (.tup []) := upd_same
    have ne3 : a3 ≠ r := (t0.1.ne hq3).symm
    have fr3 : H a3 = none := t0.free hq3
    have E3 := (E2.step z3).app (Els.cons (el_tup z3.1 k3 .nil (by decide) (by decide)) Els.nil)
    have t3_ := t0.trans z3
    have d3_ := d0_1.trans z3
    generalize upd H a3 (.tup []) = G3_ at k3 z3 E3 t3_ d3_
    refine ⟨(by show 1 ≤ sizeLine; decide), fun a4 hq4 => ?_⟩
    have x4 := same_upd (o := .tup [.int 1]) hq4
    have z4 := Stp.same t3_.1 x4
    have k4 : (upd G3_ a4 (.tup [.int 1])) a4 = some (.tup [.int 1]) := upd_same
    have ne4 : a4 ≠ r := (t3_.1.ne hq4).symm
    have fr4 : H a4 = none := t3_.free hq4
    have E4 := (E3.step z4).app (Els.cons (el_tup z4.1 k4 (.cons (vl_int (by decide) (by decide)) .nil) (by show 1 ≤ 3; decide) (by show 1 ≠ 2; decide)) Els.nil)
    have t4_ := t3_.trans z4
    have d4_ := d3_.trans z4
    generalize upd G3_ a4 (.tup [.int 1]) = G4_ at k4 z4 E4 t4_ d4_
    refine ⟨(by show 3 ≤ sizeLine; decide), fun a5 hq5 => ?_⟩
    have x5 := same_upd (o := .tup [.int 0, .int 1, .int 2]) hq5
    have z5 := Stp.same t4_.1 x5
    have k5 : (upd G4_ a5 (.tup [.int 0, .int 1, .int 2])) a5 = some (.tup [.int 0, .int 1, .int 2]) := upd_same
    have ne5 : a5 ≠ r := (t4_.1.ne hq5).symm
    have fr5 : H a5 = none := t4_.free hq5
    have E5 := (E4.step z5).app (Els.cons (el_tup z5.1 k5 (.cons (vl_int (by decide) (by decide)) (.cons (vl_int (by decide) (by decide)) (.cons (vl_int (by decide) (by decide)) .nil))) (by show 3 ≤ 3; decide) (by show 3 ≠ 2; decide)) Els.nil)
    have t5_ := t4_.trans z5
    have d5_ := d4_.trans z5
    generalize upd G4_ a5 (.tup [.int 0, .int 1, .int 2]) = G5_ at k5 z5 E5 t5_ d5_
    refine ⟨(by show 2 ≤ sizeLine; decide), fun a6 hq6 => ?_⟩
    have x6 := same_upd (o := .lst [.int 0, .int 1]) hq6
    have z6 := Stp.same t5_.1 x6
    have k6 : (upd G5_ a6 (.lst [.int 0, .int 1])) a6 = some (.lst [.int 0, .int 1]) := upd_same
    have ne6 : a6 ≠ r := (t5_.1.ne hq6).symm
    have fr6 : H a6 = none := t5_.free hq6
    have E6 := (E5.step z6).app (Els.cons (el_lst ne6 k6 (.cons (vl_int (by decide) (by decide)) (.cons (vl_int (by decide) (by decide)) .nil)) (by show 2 ≤ 3; decide)) Els.nil)
    have t6_ := t5_.trans z6
    have d6_ := d5_.trans z6
    generalize upd G5_ a6 (.lst [.int 0, .int 1]) = G6_ at k6 z6 E6 t6_ d6_
    refine ⟨(by show 2 ≤ sizeLine; decide), fun a7 hq7 => ?_⟩
    have x7 := same_upd (o := .tup [.bl true, .int 2]) hq7
    have z7 := Stp.same t6_.1 x7
    have k7 : (upd G6_ a7 (.tup [.bl true, .int 2])) a7 = some (.tup [.bl true, .int 2]) := upd_same
    have ne7 : a7 ≠ r := (t6_.1.ne hq7).symm
    have fr7 : H a7 = none := t6_.free hq7
    have E7 := (E6.step z7).app (Els.cons (el_odd z7.1 k7 (vl_bl true).up (vl_int (by decide) (by decide)).up rfl) Els.nil)
    have t7_ := t6_.trans z7
    have d7_ := d6_.trans z7
    generalize upd G6_ a7 (.tup [.bl true, .int 2]) = G7_ at k7 z7 E7 t7_ d7_
    refine ⟨(by show 2 ≤ sizeLine; decide), fun a8 hq8 => ?_⟩
    have x8 := same_upd (o := .tup [.int 0, .bl false]) hq8
    have z8 := Stp.same t7_.1 x8
    have k8 : (upd G7_ a8 (.tup [.int 0, .bl false])) a8 = some (.tup [.int 0, .bl false]) := upd_same
    have ne8 : a8 ≠ r := (t7_.1.ne hq8).symm
    have fr8 : H a8 = none := t7_.free hq8
    have E8 := (E7.step z8).app (Els.cons (el_odd z8.1 k8 (vl_int (by decide) (by decide)).up (vl_bl false).up rfl) Els.nil)
    have t8_ := t7_.trans z8
    have d8_ := d7_.trans z8
    generalize upd G7_ a8 (.tup [.int 0, .bl false]) = G8_ at k8 z8 E8 t8_ d8_
    refine ⟨_, rfl, (by show 2 ≤ sizeLine; decide), fun a9 hq9 => ?_⟩
    have x9 := same_upd (o := .tup [.int (-1), .int 0]) hq9
    have z9 := Stp.same t8_.1 x9
    have k9 : (upd G8_ a9 (.tup [.int (-1), .int 0])) a9 = some (.tup [.int (-1), .int 0]) := upd_same
    have ne9 : a9 ≠ r := (t8_.1.ne hq9).symm
    have fr9 : H a9 = none := t8_.free hq9
    have E9 := (E8.step z9).app (Els.cons (el_mv z9.1 k9 ⟨⟨by decide, by decide⟩, by decide, by decide⟩) Els.nil)
    have t9_ := t8_.trans z9
    have d9_ := d8_.trans z9
    generalize upd G8_ a9 (.tup [.int (-1), .int 0]) = G9_ at k9 z9 E9 t9_ d9_
    refine ⟨_, rfl, (by show 2 ≤ sizeLine; decide), fun a10 hq10 => ?_⟩
    have x10 := same_upd (o := .tup [.int 1, .int (-1)]) hq10
    have z10 := Stp.same t9_.1 x10
    have k10 : (upd G9_ a10 (.tup [.int 1, .int (-1)])) a10 = some (.tup [.int 1, .int (-1)]) := upd_same
    have ne10 : a10 ≠ r := (t9_.1.ne hq10).symm
    have fr10 : H a10 = none := t9_.free hq10
    have E10 := (E9.step z10).app (Els.cons (el_mv z10.1 k10 ⟨⟨by decide, by decide⟩, by decide, by decide⟩) Els.nil)
    have t10_ := t9_.trans z10
    have d10_ := d9_.trans z10
    generalize upd G9_ a10 (.tup [.int 1, .int (-1)]) = G10_ at k10 z10 E10 t10_ d10_
    refine ⟨(by show 2 ≤ sizeLine; decide), fun a11 hq11 => ?_⟩
    have x11 := same_upd (o := .tup [.str (Str.ofString "a"), .int 1]) hq11
    have z11 := Stp.same t10_.1 x11
    have k11 : (upd G10_ a11 (.tup [.str (Str.ofString "a"), .int 1])) a11 = some (.tup [.str (Str.ofString "a"), .int 1]) := upd_same
    have ne11 : a11 ≠ r := (t10_.1.ne hq11).symm
    have fr11 : H a11 = none := t10_.free hq11
    have E11 := (E10.step z11).app (Els.cons (el_odd z11.1 k11 (vl_str "a" (by decide +kernel)).up (vl_int (by decide) (by decide)).up rfl) Els.nil)
    have t11_ := t10_.trans z11
    have d11_ := d10_.trans z11
    generalize upd G10_ a11 (.tup [.str (Str.ofString "a"), .int 1]) = G11_ at k11 z11 E11 t11_ d11_
    refine ⟨(by show 2 ≤ sizeLine; decide), fun a12 hq12 => ?_⟩
    have x12 := same_upd (o := .tup [.int 3, .int 3]) hq12
    have z12 := Stp.same t11_.1 x12
    have k12 : (upd G11_ a12 (.tup [.int 3, .int 3])) a12 = some (.tup [.int 3, .int 3]) := upd_same
    have ne12 : a12 ≠ r := (t11_.1.ne hq12).symm
    have fr12 : H a12 = none := t11_.free hq12
    have E12 := (E11.step z12).app (Els.cons (el_mv z12.1 k12 ⟨⟨by decide, by decide⟩, by decide, by decide⟩) Els.nil)
    have t12_ := t11_.trans z12
    have d12_ := d11_.trans z12
    generalize upd G11_ a12 (.tup [.int 3, .int 3]) = G12_ at k12 z12 E12 t12_ d12_
    refine ⟨(by show 2 ≤ sizeLine; decide), fun a13 hq13 => ?_⟩
    have x13 := same_upd (o := .tup [.non, .int 1]) hq13
    have z13 := Stp.same t12_.1 x13
    have k13 : (upd G12_ a13 (.tup [.non, .int 1])) a13 = some (.tup [.non, .int 1]) := upd_same
    have ne13 : a13 ≠ r := (t12_.1.ne hq13).symm
    have fr13 : H a13 = none := t12_.free hq13
    have E13 := (E12.step z13).app (Els.cons (el_odd z13.1 k13 vl_non.up (vl_int (by decide) (by decide)).up rfl) Els.nil)
    have t13_ := t12_.trans z13
    have d13_ := d12_.trans z13
    generalize upd G12_ a13 (.tup [.non, .int 1]) = G13_ at k13 z13 E13 t13_ d13_
    refine ⟨(by show 13 ≤ sizeLine; decide), fun a14 hq14 => ?_⟩
    have x14 := same_upd (o := .lst [.non, .int 0, .ref a3, .ref a4, .ref a5, .ref a6, .ref a7, .ref a8, .ref a9, .ref a10, .ref a11, .ref a12, .ref a13]) hq14
    have z14 := Stp.same t13_.1 x14
    have k14 : (upd G13_ a14 (.lst [.non, .int 0, .ref a3, .ref a4, .ref a5, .ref a6, .ref a7, .ref a8, .ref a9, .ref a10, .ref a11, .ref a12, .ref a13])) a14 = some (.lst [.non, .int 0, .ref a3, .ref a4, .ref a5, .ref a6, .ref a7, .ref a8, .ref a9, .ref a10, .ref a11, .ref a12, .ref a13]) := upd_same
    have ne14 : a14 ≠ r := (t13_.1.ne hq14).symm
    have fr14 : H a14 = none := t13_.free hq14
    have Ed14 := E13.step (stp_fresh (x := .lst [.non, .int 0, .ref a3, .ref a4, .ref a5, .ref a6, .ref a7, .ref a8, .ref a9, .ref a10, .ref a11, .ref a12, .ref a13]) t13_.1 (t13_.1.ne hq14).symm hq14)
    have E14 := E13.step z14
    have t14_ := t13_.trans z14
    have d14_ := d13_.trans z14
    generalize upd G13_ a14 (.lst [.non, .int 0, .ref a3, .ref a4, .ref a5, .ref a6, .ref a7, .ref a8, .ref a9, .ref a10, .ref a11, .ref a12, .ref a13]) = G14_ at k14 z14 Ed14 E14 t14_ d14_
    obtain ⟨es14, c14, le14, E14d⟩ : ∃ es : List (V × Mo × PyData), es.map (·.1) = ([.non, .int 0, .ref a3, .ref a4, .ref a5, .ref a6, .ref a7, .ref a8, .ref a9, .ref a10, .ref a11, .ref a12, .ref a13] : List V) ∧ es.length = 13 ∧ Els K r (del G14_ a14) es := ⟨_, rfl, rfl, Ed14⟩
    rw [← c14] at k14
    have E14d := E14d
    refine ⟨_, rfl, a, rfl, ⟨_, SqL.of (t14_.2 _ _ (hR.lst B.ha) B.ha)⟩, ?_⟩
    refine for_list (K := K) (a := a) (xs := qs.map V.ref) (fun i σ G => ∃ (l : Addr) (es : List (V × Mo × PyData)) (x5 x6 : Option V), σ = [some (.ref r), some (.ref s), some (.int n), some (.ref a), some (.ref l), x5, x6] ∧ Stp r H G ∧ H l = none ∧ l ≠ r ∧ G l = some (.lst (es.map (·.1))) ∧ Els K r (del G l) es ∧ 1 ≤ es.length ∧ es.length ≤ 13 + 6 * i)
      ⟨a14, es14, none, none, rfl, t14_, fr14, ne14, k14, E14d, by omega, by omega⟩ (fun i σ G _ ⟨_, _, _, _, _, t, _⟩ => SqL.of (t.2 _ _ (hR.lst B.ha) B.ha)) ?_ ?_
    · rintro i x σ G hx ⟨l, es, x5, x6, rfl, t, fl, lr, hl, Es, e1, e13⟩
      obtain ⟨p, hp, rfl⟩ := ref_of hx
      have B1 := B.step hR sr t
      obtain ⟨b, hb, hT⟩ := B1.rf.get hp
      have hT' : G p = some (.tup [.int b.1, .int (b.2.1 : Nat), .bl b.2.2]) := hT
      have bo := wf.ok b (List.mem_of_getElem? hb)
      have bk := bo.1
      have il := (List.getElem?_eq_some_iff.mp hb).1
      have zs1 := (chain gd).pos _ bk
      have zs9 := sz_le gd bk
      have b9 : b.1 + sz ns b.2.1 ≤ n := bo.2.2.2
      have b0 := bo.2.1
      refine ⟨_, rfl, _, rfl, p, _, _, _, rfl, rfl, .inl (.inl hT'), rfl, s, _, _, _, rfl, rfl, SqL.of B1.hs, at_sz bk, ?_⟩
      have pr : p ≠ r := t.1.tup hT'
      have bb : -(10 ^ 39) ≤ b.1 ∧ b.1 ≤ 10 ^ 39 := ⟨by omega, by omega⟩
      have bs2 : -(10 ^ 39) ≤ b.1 + sz ns b.2.1 ∧ b.1 + sz ns b.2.1 ≤ 10 ^ 39 := ⟨by omega, by omega⟩
      have bn : -(10 ^ 39) ≤ n ∧ n ≤ 10 ^ 39 := ⟨by omega, by omega⟩
      have bm : -(10 ^ 39) ≤ (if n - sz ns b.2.1 > 0 then n - sz ns b.2.1 else 0) ∧ (if n - sz ns b.2.1 > 0 then n - sz ns b.2.1 else 0) ≤ 10 ^ 39 := ⟨by split <;> omega, by split <;> omega⟩
      have d0_1 := Stp.refl t.1
      have e0_1 : Els K r G [] := Els.nil
      refine ⟨_, rfl, _, rfl, p, _, _, _, rfl, rfl, .inl (.inl hT'), rfl, _, rfl, p, _, _, _, rfl, rfl, .inl (.inl hT'), rfl, _, rfl, _, _, rfl, rfl, (by show 2 ≤ sizeLine; decide), fun a1 hq1 => ?_⟩
      have x1 := same_upd (o := .tup [.int b.1, .int (b.1 + sz ns b.2.1)]) hq1
      have z1 := Stp.same t.1 x1
      have k1 : (upd G a1 (.tup [.int b.1, .int (b.1 + sz ns b.2.1)])) a1 = some (.tup [.int b.1, .int (b.1 + sz ns b.2.1)]) := upd_same
      have ne1 : a1 ≠ r := (t.1.ne hq1).symm
      have fr1 : H a1 = none := t.free hq1
      have hTp1 := z1.2 _ _ pr hT'
      have E1 := (e0_1.step z1).app (Els.cons (el_mv z1.1 k1 ⟨bb, bs2⟩) Els.nil)
      have t1_ := t.trans z1
      have d1_ := d0_1.trans z1
      generalize upd G a1 (.tup [.int b.1, .int (b.1 + sz ns b.2.1)]) = G1_ at k1 z1 hTp1 E1 t1_ d1_
      refine ⟨_, rfl, p, _, _, _, rfl, rfl, .inl (.inl hTp1), rfl, _, rfl, (by show 2 ≤ sizeLine; decide), fun a2 hq2 => ?_⟩
      have x2 := same_upd (o := .tup [.int b.1, .int n]) hq2
      have z2 := Stp.same t1_.1 x2
      have k2 : (upd G1_ a2 (.tup [.int b.1, .int n])) a2 = some (.tup [.int b.1, .int n]) := upd_same
      have ne2 : a2 ≠ r := (t1_.1.ne hq2).symm
      have fr2 : H a2 = none := t1_.free hq2
      have hTp2 := z2.2 _ _ pr hTp1
      have E2 := (E1.step z2).app (Els.cons (el_mv z2.1 k2 ⟨bb, bn⟩) Els.nil)
      have t2_ := t1_.trans z2
      have d2_ := d1_.trans z2
      generalize upd G1_ a2 (.tup [.int b.1, .int n]) = G2_ at k2 z2 hTp2 E2 t2_ d2_
      refine ⟨_, rfl, p, _, _, _, rfl, rfl, .inl (.inl hTp2), rfl, _, rfl, _, rfl, _, _, rfl, rfl, _, _, rfl, (by show 2 ≤ sizeLine; decide), fun a3 hq3 => ?_⟩
      have x3 := same_upd (o := .tup [.int b.1, .int (if n - sz ns b.2.1 > 0 then n - sz ns b.2.1 else 0)]) hq3
      have z3 := Stp.same t2_.1 x3
      have k3 : (upd G2_ a3 (.tup [.int b.1, .int (if n - sz ns b.2.1 > 0 then n - sz ns b.2.1 else 0)])) a3 = some (.tup [.int b.1, .int (if n - sz ns b.2.1 > 0 then n - sz ns b.2.1 else 0)]) := upd_same
      have ne3 : a3 ≠ r := (t2_.1.ne hq3).symm
      have fr3 : H a3 = none := t2_.free hq3
      have hTp3 := z3.2 _ _ pr hTp2
      have E3 := (E2.step z3).app (Els.cons (el_mv z3.1 k3 ⟨bb, bm⟩) Els.nil)
      have t3_ := t2_.trans z3
      have d3_ := d2_.trans z3
      generalize upd G2_ a3 (.tup [.int b.1, .int (if n - sz ns b.2.1 > 0 then n - sz ns b.2.1 else 0)]) = G3_ at k3 z3 hTp3 E3 t3_ d3_
      refine ⟨(by show 3 ≤ sizeLine; decide), fun a4 hq4 => ?_⟩
      have x4 := same_upd (o := .lst [.ref a1, .ref a2, .ref a3]) hq4
      have z4 := Stp.same t3_.1 x4
      have k4 : (upd G3_ a4 (.lst [.ref a1, .ref a2, .ref a3])) a4 = some (.lst [.ref a1, .ref a2, .ref a3]) := upd_same
      have ne4 : a4 ≠ r := (t3_.1.ne hq4).symm
      have fr4 : H a4 = none := t3_.free hq4
      have hTp4 := z4.2 _ _ pr hTp3
      have E4 := E3.step z4
      have t4_ := t3_.trans z4
      have d4_ := d3_.trans z4
      generalize upd G3_ a4 (.lst [.ref a1, .ref a2, .ref a3]) = G4_ at k4 z4 hTp4 E4 t4_ d4_
      obtain ⟨es4, c4, le4, E4⟩ : ∃ es : List (V × Mo × PyData), es.map (·.1) = ([.ref a1, .ref a2, .ref a3] : List V) ∧ es.length = 3 ∧ Els K r G4_ es := ⟨_, rfl, rfl, E4⟩
      rw [← c4] at k4
      have hlj := d4_.2 _ _ lr hl
      refine ⟨l, a4, _, _, rfl, rfl, hlj, k4, (by rw [List.length_map, List.length_map, le4]; omega), fun l' hl' => ?_⟩
      rw [← List.map_append]
      have lr' : l' ≠ r := (t4_.1.ne hl').symm
      have fl' : H l' = none := t4_.free hl'
      have Gl' : G l' = none := d4_.free hl'
      have Es1 : Els K r (del (upd G4_ l' (.lst ((es ++ es4).map (·.1)))) l') (es ++ es4) := (Es.step (stp_swap (d4_.trans (Stp.same t4_.1 (same_upd hl'))) lr lr' Gl')).app (E4.step (stp_fresh t4_.1 lr' hl'))
      have tG1 := t4_.trans (Stp.same t4_.1 (same_upd (o := .lst ((es ++ es4).map (·.1))) hl'))
      have hT1 := (same_upd (o := .lst ((es ++ es4).map (·.1))) hl') _ _ hTp4
      have hl1 : (upd G4_ l' (.lst ((es ++ es4).map (·.1)))) l' = some (.lst ((es ++ es4).map (·.1))) := upd_same
      have ln1 : (es ++ es4).length = es.length + 3 := by rw [List.length_append, le4]
      generalize es ++ es4 = es1 at Es1 tG1 hT1 hl1 ln1 ⊢
      generalize upd G4_ l' (.lst (es1.map (·.1))) = G1 at Es1 tG1 hT1 hl1 ⊢
      -- the first append
      refine ⟨_, rfl, .inl ⟨rfl, _, SqL.of hl1⟩, _, rfl, p, _, _, _, rfl, rfl, .inl (.inl hT1), rfl, _, _, rfl, rfl, _, rfl, _, rfl, r, n, rfl, tG1.1, n1, by omega, fun d1 G2 d1a d1b t2 => ⟨(by show 2 ≤ sizeLine; decide), fun u1 hu1 => ?_⟩⟩
      have f1 : H u1 = none := (tG1.trans t2).free hu1
      have x1 := same_upd (o := .tup [.int (b.1 + 1), .int d1]) hu1
      have t3 := t2.trans (Stp.same t2.1 x1)
      have hl3 := t3.2 _ _ lr' hl1
      have hu3 : (upd G2 u1 (.tup [.int (b.1 + 1), .int d1])) u1 = some (.tup [.int (b.1 + 1), .int d1]) := upd_same
      have hT3 := t3.2 _ _ pr hT1
      generalize upd G2 u1 (.tup [.int (b.1 + 1), .int d1]) = G3 at t3 hl3 hu3 hT3 ⊢
      obtain ⟨e4, k4, Es4, t4⟩ := app_step (K := K) t3 lr' Es1 hl3 hu3 ⟨⟨by omega, by omega⟩, by omega, by omega⟩ fl' (tG1.trans t3)
      refine ⟨l', _, _, rfl, rfl, hl3, (by rw [List.length_map]; omega), ?_⟩
      have hT4 := t3.2 _ _ pr hT1
      have pl' : p ≠ l' := fun z => by rw [z, hl1] at hT1; cases hT1
      have hT4 : (upd G3 l' (.lst (es1.map (·.1) ++ [.ref u1]))) p = some (.tup [.int b.1, .int (b.2.1 : Nat), .bl b.2.2]) := by
        rw [upd_ne pl']
        exact hT3
      have ln4 : (es1 ++ [e4]).length = es.length + 4 := by rw [List.length_append, ln1]; rfl
      generalize upd G3 l' (.lst (es1.map (·.1) ++ [.ref u1])) = G4 at k4 Es4 t4 hT4 ⊢
      generalize es1 ++ [e4] = es4 at k4 Es4 ln4
      -- the second append
      have B4 := B.step hR sr t4
      have qne : a ≠ r := hR.lst B.ha
      refine ⟨_, rfl, .inl ⟨rfl, _, SqL.of k4⟩, _, rfl, p, _, _, _, rfl, rfl, .inl (.inl hT4), rfl, _, rfl, _, rfl, r, a, _, rfl, t4.1, B4.ha, qne, (by rw [List.length_map]; omega), (by rw [List.length_map]; omega), fun v5 G5 hv5 t5 => ?_⟩
      obtain ⟨p5, c5, rfl, hp5, hc5⟩ : ∃ p5 c, v5 = .ref p5 ∧ G4 p5 = some (.tup (blkV c)) ∧ c ∈ bs := by
        obtain ⟨j, hj⟩ := List.mem_iff_getElem?.mp hv5
        obtain ⟨p5, h5, rfl⟩ := ref_of hj
        obtain ⟨c, hc, hT⟩ := B4.rf.get h5
        exact ⟨p5, c, rfl, hT, List.mem_of_getElem? hc⟩
      have hp5' : G5 p5 = some (.tup [.int c5.1, .int (c5.2.1 : Nat), .bl c5.2.2]) := t5.2 _ _ (t4.1.tup hp5) hp5
      have c5o := wf.ok c5 hc5
      have c5z := (chain gd).pos _ c5o.1
      have c5n : c5.1 + sz ns c5.2.1 ≤ n := c5o.2.2.2
      have c50 := c5o.2.1
      refine ⟨p5, _, _, _, rfl, rfl, .inl (.inl hp5'), rfl, (by show 2 ≤ sizeLine; decide), fun u6 hu6 => ?_⟩
      have x6 := same_upd (o := .tup [.int b.1, .int c5.1]) hu6
      have t6 := t5.trans (Stp.same t5.1 x6)
      have hl6 := t6.2 _ _ lr' k4
      have hu6' : (upd G5 u6 (.tup [.int b.1, .int c5.1])) u6 = some (.tup [.int b.1, .int c5.1]) := upd_same
      have hT6 := t6.2 _ _ pr hT4
      generalize upd G5 u6 (.tup [.int b.1, .int c5.1]) = G6 at t6 hl6 hu6' hT6 ⊢
      obtain ⟨e7, k7, Es7, t7⟩ := app_step (K := K) t6 lr' Es4 hl6 hu6' ⟨bb, by omega, by omega⟩ fl' (t4.trans t6)
      refine ⟨l', _, _, rfl, rfl, hl6, (by rw [List.length_map]; omega), ?_⟩
      have hT7 : (upd G6 l' (.lst (es4.map (·.1) ++ [.ref u6]))) p = some (.tup [.int b.1, .int (b.2.1 : Nat), .bl b.2.2]) := by
        rw [upd_ne pl']
        exact hT6
      have ln7 : (es4 ++ [e7]).length = es.length + 5 := by rw [List.length_append, ln4]; rfl
      generalize upd G6 l' (.lst (es4.map (·.1) ++ [.ref u6])) = G7 at k7 Es7 t7 hT7 ⊢
      generalize es4 ++ [e7] = es7 at k7 Es7 ln7
      -- the third append
      have d1' : 1 ≤ n / sz ns b.2.1 := (Int.le_ediv_iff_mul_le (by omega)).mpr (by omega)
      have d2' : n / sz ns b.2.1 ≤ n := Int.ediv_le_self _ (by omega)
      refine ⟨_, rfl, .inl ⟨rfl, _, SqL.of k7⟩, _, rfl, p, _, _, _, rfl, rfl, .inl (.inl hT7), rfl, _, rfl, _, rfl, _, rfl, _, _, rfl, rfl, div_ok zs1 zs9, r, _, rfl, t7.1, d1', by omega, fun d8 G8 d8a d8b t8 => ?_⟩
      have m0 : 0 ≤ d8 * sz ns b.2.1 := Int.mul_nonneg d8a (by omega)
      have m1 : d8 * sz ns b.2.1 ≤ 1000000000000 * 1000000000 := Int.mul_le_mul (by omega) zs9 (by omega) (by omega)
      refine ⟨_, rfl, _, _, rfl, rfl, .inr ⟨by omega, by omega⟩, (by show 2 ≤ sizeLine; decide), fun u9 hu9 => ?_⟩
      have x9 := same_upd (o := .tup [.int b.1, .int (d8 * sz ns b.2.1)]) hu9
      have t9 := t8.trans (Stp.same t8.1 x9)
      have hl9 := t9.2 _ _ lr' k7
      have hu9' : (upd G8 u9 (.tup [.int b.1, .int (d8 * sz ns b.2.1)])) u9 = some (.tup [.int b.1, .int (d8 * sz ns b.2.1)]) := upd_same
      generalize upd G8 u9 (.tup [.int b.1, .int (d8 * sz ns b.2.1)]) = G9 at t9 hl9 hu9' ⊢
      obtain ⟨e10, k10, Es10, t10⟩ := app_step (K := K) t9 lr' Es7 hl9 hu9' ⟨bb, by omega, by omega⟩ fl' (t7.trans t9)
      refine ⟨l', _, _, rfl, rfl, hl9, (by rw [List.length_map]; omega), ?_⟩
      exact ⟨l', es7 ++ [e10], _, _, rfl, t10, fl', lr', k10, Es10, by rw [List.length_append]; show 1 ≤ _ + 1; omega, by rw [List.length_append, ln7]; show _ + 1 ≤ _; omega⟩
    · rintro σ G ⟨l, es, x5, x6, rfl, t, fl, lr, hl, Es, e1, e13⟩
      rw [List.length_map, pl] at e13
      refine ⟨_, rfl, _, rfl, r, l, _, rfl, t.1, hl, lr, (by rw [List.length_map]; omega), (by rw [List.length_map]; omega), fun v G1 hv t1 => ?_⟩
      obtain ⟨e, he, rfl⟩ := List.mem_map.mp hv
      exact q e G1 (t.trans t1) (((Es e he).step (stp_del t.1 lr)).step t1)
end
end K34

set_option Elab.async false
set_option linter.all false
set_option maxRecDepth 100000
set_option maxHeartbeats 4000000
set_option pp.maxSteps 1500
namespace K34
open PySem PySem.Spec PyProof.Rows L2 Gu Ex
theorem seq_ifH {c : TT} {t e u : TS} {D : Ends} {σ : L2.St} {H : Hp} (R : L2.St → Hp → Prop) (hc : ∀ E0 : Ends, (∀ σ' H', R σ' H' → E0.nx σ' H') → (tIfS c t e) E0 σ H) (tail : ∀ σ' H', R σ' H' → u D σ' H') : tSeq (tIfS c t e) u D σ H := hc _ tail
theorem nx_of {E0 : Ends} {F : List (Option V) → Hp → Prop} {rt : VK} {σ σ' : List (Option V)} {H : Hp} (e : σ = σ') (h : F σ' H) : ({ E0 with nx := F, rt := rt } : Ends).nx σ H := e ▸ h
theorem go_nm {i : Nat} {x : V} {σ : List (Option V)} {H : Hp} {Q : List (Option V) → Hp → Prop} (h : Q (σ.set i (some x)) H) : gName i x σ H Q := h
theorem at_st {u : TS} {D : Ends} {σ σ' : List (Option V)} {H : Hp} (e : σ = σ') (h : u D σ' H) : u D σ H := e ▸ h
theorem go_asg {te : TE} {i : Nat} {u : TS} {D : Ends} {σ : List (Option V)} {H : Hp} (h : te σ H (fun x H1 => u D (σ.set i (some x)) H1)) : tSeq (tAsg te (gName i)) u D σ H := h
theorem cut_es_to (es : List (V × Mo × PyData)) (i : Nat) : cutV (es.map (·.1)) none (some (i : Int)) = (es.take i).map (·.1) := by rw [cut_to, List.map_take]
theorem cut_es_from (es : List (V × Mo × PyData)) (i : Nat) : cutV (es.map (·.1)) (some (i : Int)) none = (es.drop i).map (·.1) := by rw [cut_from, List.map_drop]
section
variable {P : Program} {w : World} {K : PySem.W.Frag} {mg : Str → Option Value} {base : Heap} {f : Addr} {fd : FuncData}
def spSpoilt (K : PySem.W.Frag) : Sp := fun vs H Q _ => ∃ (r s a l : Addr) (ns : List Int) (n : Int) (qs : List Addr) (bs : List Blk) (em : List (V × Mo × PyData)), vs = [.ref r, .ref s, .int n, .ref a, .ref l] ∧ Rng H r ∧ Lb ns n H s a qs bs ∧ s ≠ r ∧ H l = some (.lst (em.map (·.1))) ∧ l ≠ r ∧ Els K r H em ∧ em.length ≤ 30 ∧
  ∀ l' (es : List (V × Mo × PyData)) H', Stp r H H' → H l' = none → l' ≠ r → H' l' = some (.lst (es.map (·.1))) → Els K r H' es → es.length ≤ 40 → Q (.ref l') H'
theorem sc__law_spoilt : FnScope ["_law_rng_here", "_law_sizes_here", "_law_length", "_law_blocks_here", "_law_pile", "_law_result", "_law_turn", "_law_odd_here", "_law_at", "_law_way"] ["_law_rng_here", "_law_sizes_here", "_law_length", "_law_blocks_here", "_law_pile"] (defScope (top 60)) := ⟨rfl, rfl, rfl, by decide +kernel, rfl, by decide +kernel, by decide +kernel⟩
theorem ok_spoilt (T : Tx K mg) (D__law_draw : Df P w K mg base 1 "_law_draw" ["_law_rng_here", "_law_many"] spDraw) (D__law_choice : Df P w K mg base 2 "_law_choice" ["_law_rng_here", "_law_options"] spChoice)
    (D__law_odd : Df P w K mg base 3 "_law_odd" ["_law_rng_here", "_law_sizes_here", "_law_length", "_law_blocks_here"] (spOddM K)) (F : FnP K "_law_spoilt" "_law_spoilt" (top 60) f fd) : FnOk P w K mg base CX0 4 f fd ["_law_rng_here", "_law_sizes_here", "_law_length", "_law_blocks_here", "_law_pile"] (spSpoilt K) := by
  refine F.ok sc__law_spoilt (fun vs H Q E h => ?_) (fun cdv A outer s H vs Q E hr h => ⟨_, PSs.nox (pss_cons (ps_set (i := 5) sc__law_spoilt.nd rfl (by first | exact Or.inl rfl | exact Or.inr rfl) (pe_callTy call_list_of (by rfl) T.n_list (by decide +kernel) (pa_cons (pv 4) pa_nil))) (pss_cons (ps_for PassesOwn.never rfl (pi_range1 rfl T.n_range (pa_cons (pcall D__law_draw hr (pa_cons (pv 0) (pa_cons pe_int pa_nil))) pa_nil)) (pg_name (i := 6) sc__law_spoilt.nd rfl (by first | exact Or.inl rfl | exact Or.inr rfl)) (pss_cons (ps_par (by rfl) sc__law_spoilt.nd (i := 8) (j := 9) rfl rfl (by decide) rfl rfl (pa_cons (pcall D__law_draw hr (pa_cons (pv 0) (pa_cons (pe_op op_add (pe_callB call_len_seq (by rfl) T.n_len (by decide +kernel) (pa_cons (pv 5) pa_nil)) pe_int) pa_nil))) (pa_cons (pcall D__law_draw hr (pa_cons (pv 0) (pa_cons pe_int pa_nil))) pa_nil)) (by rfl)) (pss_cons (ps_set (i := 7) sc__law_spoilt.nd rfl (by first | exact Or.inl rfl | exact Or.inr rfl) (pcall D__law_odd hr (pa_cons (pv 0) (pa_cons (pv 1) (pa_cons (pv 2) (pa_cons (pv 3) pa_nil)))))) (pss_cons (ps_if (PW.pt (pw_and (pt_cmpR op_eq (pv 9) pe_int (nomark _)) (pw_and1 (pt_cmpR (op_neNil hr.units) (pv 4) (pe_lst pa_nil) (nomark _))))) (pss_one (ps_set (i := 7) sc__law_spoilt.nd rfl (by first | exact Or.inl rfl | exact Or.inr rfl) (pcall D__law_choice hr (pa_cons (pv 0) (pa_cons (pv 4) pa_nil))))) pss_nil) (pss_one (ps_set (i := 5) sc__law_spoilt.nd rfl (by first | exact Or.inl rfl | exact Or.inr rfl) (pe_op op_cat (pe_op op_cat (pe_slice sl_list (pv 5) po_none (po_some (pv 8))) (pe_lst (pa_cons (pv 7) pa_nil))) (pe_slice sl_list (pv 5) (po_some (pe_op op_add (pv 8) (pe_callTy call_int1 (by rfl) T.n_int (by decide +kernel) (pa_cons (pe_cmpR op_eq (pv 9) pe_int (nomark _)) pa_nil)))) po_none)))))))) (pss_one (ps_ret (pv 5))))), ?_⟩)
  · obtain ⟨r, s, a, l, ns, n, qs, bs, em, rfl, _⟩ := h
    rfl
  · obtain ⟨r, s, a, l, ns, n, qs, bs, em, rfl, hR, B, sr, hl, lr, Em, l30, q⟩ := h
    have sl : sizeLine = 16777216 := sizeLine_eq
    have big : (10 : Int) ^ 40 = 10000000000000000000000000000000000000000 := by decide
    refine ⟨_, rfl, l, _, rfl, .inl (SqL.of hl), fun l1 hl1 => ?_⟩
    have x1 := same_upd (o := .lst (em.map (·.1))) hl1
    have t1 := Stp.same hR x1
    have k1 : (upd H l1 (.lst (em.map (·.1)))) l1 = some (.lst (em.map (·.1))) := upd_same
    have ne1 : l1 ≠ r := (hR.ne hl1).symm
    generalize upd H l1 (.lst (em.map (·.1))) = G1 at t1 k1 ⊢
    refine ⟨_, rfl, r, 4, rfl, t1.1, by decide, by omega, fun d G2 d0 d1 t2 => ⟨d, rfl, by omega, by omega, ?_⟩⟩
    have t12 := t1.trans t2
    refine for_range (fun i σ G => ∃ (l' : Addr) (es : List (V × Mo × PyData)) (x6 x7 x8 x9 : Option V), σ = [some (.ref r), some (.ref s), some (.int n), some (.ref a), some (.ref l), some (.ref l'), x6, x7, x8, x9] ∧ Stp r H G ∧ H l' = none ∧ l' ≠ r ∧ G l' = some (.lst (es.map (·.1))) ∧ Els K r G es ∧ es.length ≤ em.length + i)
      ⟨l1, em, none, none, none, none, rfl, t12, hl1, ne1, t2.2 _ _ ne1 k1, Em.step t12, Nat.le_refl _⟩ ?_ ?_
    · rintro i σ G hi ⟨l', es, x6, x7, x8, x9, rfl, t, fl, lr', hl', Es, le⟩
      have i3 : i < 3 := by omega
      have eln : (es.map (·.1)).length = es.length := List.length_map ..
      refine ⟨_, rfl, _, rfl, l', _, rfl, .inl (SqL.of hl'), _, _, rfl, rfl, r, _, rfl, t.1, by omega, by omega, fun d3 G3 d3a d3b t3 => ?_⟩
      obtain ⟨k, rfl⟩ : ∃ k : Nat, d3 = (k : Int) := ⟨d3.toNat, by omega⟩
      refine ⟨_, rfl, r, 4, rfl, t3.1, by decide, by omega, fun d4 G4 d4a d4b t4 => ?_⟩
      have t34 := t3.trans t4
      have tG4 := t.trans t34
      refine ⟨_, _, rfl, _, rfl, _, rfl, _, rfl, _, rfl, r, s, a, ns, n, qs, bs, rfl, t4.1, B.step hR sr tG4, sr, fun e0 G5 t5 Ee0 => ?_⟩
      have tG5 := tG4.trans t5
      have hl5 := tG5.2 _ _ lr hl
      refine go_nm (nx_of (σ' := [some (.ref r), some (.ref s), some (.int n), some (.ref a), some (.ref l), some (.ref l'), some (.int (0 + (i : Nat))), some e0.1, some (.int (k : Nat)), some (.int d4)]) rfl ?_)
      refine seq_ifH (fun σ' H' => ∃ e : V × Mo × PyData, σ' = [some (.ref r), some (.ref s), some (.int n), some (.ref a), some (.ref l), some (.ref l'), some (.int (0 + (i : Nat))), some e.1, some (.int (k : Nat)), some (.int d4)] ∧ Stp r G5 H' ∧ El K r H' e) (fun E0 tail => ?_) ?_
      · refine ⟨_, rfl, rfl, _, rfl, ?_⟩
        by_cases w0 : d4 = 0
        · refine ifT (vT w0) ?_
          refine ⟨_, rfl, (by show 0 ≤ sizeLine; decide), fun Z hZ => ?_⟩
          have xZ := same_upd (o := .lst []) hZ
          have tZ := Stp.same t5.1 xZ
          have hZ1 : (upd G5 Z (.lst [])) Z = some (.lst []) := upd_same
          have hlZ := tZ.2 _ _ lr hl5
          generalize upd G5 Z (.lst []) = GZ at tZ hZ1 hlZ ⊢
          refine ⟨l, Z, _, rfl, rfl, SqL.of hlZ, SqL.of hZ1, _, rfl, ?_⟩
          by_cases m0 : (em.map (·.1)).length = 0
          · refine ifF (by rw [decide_eq_true m0]; rfl) ?_
            exact tail _ _ ⟨e0, rfl, tZ, Ee0.step tZ⟩
          · refine ifT (by rw [decide_eq_false m0]; rfl) ?_
            have eml : (em.map (·.1)).length = em.length := List.length_map ..
            refine ⟨_, rfl, _, rfl, r, l, _, rfl, tZ.1, hlZ, lr, by omega, by omega, fun v G6 hv t6 => ?_⟩
            obtain ⟨e, he, rfl⟩ := List.mem_map.mp hv
            exact tail _ _ ⟨e, rfl, tZ.trans t6, (Em e he).step ((tG5.trans tZ).trans t6)⟩
        · refine ifF (vF w0) (tail _ _ ⟨e0, rfl, Stp.refl t5.1, Ee0⟩)
      · rintro σ' G6 ⟨e, rfl, t6, Ee⟩
        have tG6 := tG5.trans t6
        have t36 := (t34.trans t5).trans t6
        have hl6 := t36.2 _ _ lr' hl'
        have Es6 := Es.step t36
        refine ⟨_, rfl, _, rfl, _, rfl, l', _, rfl, SqL.of hl6, fun q1 hq1 => ?_⟩
        rw [cut_es_to]
        have xA := same_upd (o := .lst ((es.take k).map (·.1))) hq1
        have hA : (upd G6 q1 (.lst ((es.take k).map (·.1)))) q1 = some (.lst ((es.take k).map (·.1))) := upd_same
        generalize upd G6 q1 (.lst ((es.take k).map (·.1))) = G7 at xA hA ⊢
        refine ⟨_, rfl, (by show 1 ≤ sizeLine; decide), fun w1 hw1 => ?_⟩
        have xB := same_upd (o := .lst [e.1]) hw1
        have hB : (upd G7 w1 (.lst [e.1])) w1 = some (.lst [e.1]) := upd_same
        have hA2 := xB _ _ hA
        generalize upd G7 w1 (.lst [e.1]) = G8 at xB hB hA2 ⊢
        refine ⟨q1, w1, _, _, rfl, rfl, hA2, hB, (by rw [List.length_map, List.length_take]; show _ + 1 ≤ _; omega), fun q2 hq2 => ?_⟩
        have xC := same_upd (o := .lst ((es.take k).map (·.1) ++ [e.1])) hq2
        have hC : (upd G8 q2 (.lst ((es.take k).map (·.1) ++ [e.1]))) q2 = some (.lst ((es.take k).map (·.1) ++ [e.1])) := upd_same
        generalize upd G8 q2 (.lst ((es.take k).map (·.1) ++ [e.1])) = G9 at xC hC ⊢
        have xABC := (xA.trans xB).trans xC
        have hl9 := xABC _ _ hl6
        obtain ⟨j, hj⟩ : ∃ j : Nat, (k : Int) + (if decide (V.int d4 = V.int 1) = true then 1 else 0) = (j : Int) := by
          by_cases z : decide (V.int d4 = V.int 1) = true
          · exact ⟨k + 1, by rw [if_pos z]; omega⟩
          · exact ⟨k, by rw [if_neg z]; omega⟩
        refine ⟨_, rfl, _, rfl, _, rfl, rfl, .inr ⟨_, rfl, _, _, rfl, rfl, _, rfl, l', _, rfl, SqL.of hl9, fun q4 hq4 => ?_⟩⟩
        rw [hj, cut_es_from]
        have xD := same_upd (o := .lst ((es.drop j).map (·.1))) hq4
        have hD : (upd G9 q4 (.lst ((es.drop j).map (·.1)))) q4 = some (.lst ((es.drop j).map (·.1))) := upd_same
        have hC2 := xD _ _ hC
        generalize upd G9 q4 (.lst ((es.drop j).map (·.1))) = G10 at xD hD hC2 ⊢
        refine ⟨q2, q4, _, _, rfl, rfl, hC2, hD, (by rw [List.length_append, List.length_map, List.length_map, List.length_take, List.length_drop]; show _ + 1 + _ ≤ _; omega), fun q5 hq5 => ?_⟩
        have ee : (es.take k).map (·.1) ++ [e.1] ++ (es.drop j).map (·.1) = ((es.take k ++ [e]) ++ es.drop j).map (·.1) := by
          rw [List.map_append, List.map_append]
          rfl
        rw [ee]
        have xE := same_upd (o := .lst (((es.take k ++ [e]) ++ es.drop j).map (·.1))) hq5
        have xall := (xABC.trans xD).trans xE
        have tall := tG6.trans (Stp.same tG6.1 xall)
        refine ⟨q5, (es.take k ++ [e]) ++ es.drop j, _, _, _, _, rfl, tall, (tG6.trans (Stp.same tG6.1 (xABC.trans xD))).free hq5, ((Stp.same tG6.1 (xABC.trans xD)).1.ne hq5).symm, upd_same, ?_, ?_⟩
        · exact (((Es6.take k).app (Els.cons Ee Els.nil)).app (Es6.drop j)).step (Stp.same tG6.1 xall)
        · have hj2 : k ≤ j := by
            by_cases z : decide (V.int d4 = V.int 1) = true
            · rw [if_pos z] at hj
              omega
            · rw [if_neg z] at hj
              omega
          rw [List.length_append, List.length_append, List.length_take, List.length_drop]
          show _ + 1 + _ ≤ _
          omega
    · rintro σ G ⟨l', es, x6, x7, x8, x9, rfl, t, fl, lr', hl', Es, le⟩
      exact ⟨_, rfl, q l' es G t fl lr' hl' Es (by omega)⟩
end
end K34

set_option Elab.async false
set_option linter.all false
set_option maxRecDepth 100000
set_option maxHeartbeats 4000000
namespace Ex
open PySem PySem.Spec PySem.Calls PyProof.Rows L2 Gu
section
variable {X : Cx} {k j : Nat} {c m : Str} {sp : Sp} {o : Expr} {ta : TE} {pos : Pos}
/-- a property that is read in a comprehension's block -/
theorem ppropB (K : PySem.W.Frag) (D : Pf X.prog X.w X.K X.mg X.base k c m sp) (hr : Room j X.A) (he : PE X o ta) (hj : k + 1 ≤ j := by decide) (hK : X.K = K := by rfl) (hab : attributeBase o m X.env (eval o X.env) = eval o X.env := by rfl) :
    PE X (.Attribute o m pos) (tProp (He.ga K c) sp [] E0 ta) := by
  subst hK
  exact pprop D hr he hj hab
end
end Ex

set_option Elab.async false
set_option linter.all false
set_option maxRecDepth 100000
set_option maxHeartbeats 4000000
set_option pp.maxSteps 900
namespace K34
open PySem PySem.Spec PyProof.Rows L2 Gu Ex
def costI (ns : List Int) (bs : List Blk) (mm : List (Int × Int)) : Int := (mm.map fun m => sz ns (lev bs m.1)).sum
section
variable {P : Program} {w : World} {K : PySem.W.Frag} {mg : Str → Option Value} {base : Heap} {f : Addr} {fd : FuncData}
def spCost (K : PySem.W.Frag) : Sp := fun vs H Q E => ∃ (y zp bl dx : Addr) (ps : List Addr) (ns : List Int) (n : Int) (bs : List Blk) (v : V) (o : Option (List Mo)), vs = [.ref y, v] ∧ Ly K H y zp bl dx ps ns n bs ∧ Th H v o ∧ bs.length < 900 ∧ (OkR ns n bs o → ∀ u H', Same H H' → Q u H') ∧ ∀ i : Nat, ¬ OkR ns n bs o → FstP ns n bs o i → Raised K "InvalidMoves" "position" (.int i) H E
theorem sc_cost : FnScope ["layout", "moves", "levels", "old", "new"] ["layout", "moves"] (defScope (top 32)) := ⟨rfl, rfl, rfl, by decide +kernel, rfl, by decide +kernel, by decide +kernel⟩
theorem ok_cost (T : Tx K mg) (D_check_rearrangement : DfX P w K mg base 10 "check_rearrangement" ["layout", "value"] (spChk K)) (M_unpinned_levels : Mf P w K mg base 1 "Layout" "unpinned_levels" ["self"] (spLevels K)) (P_sizes : Pf P w K mg base 1 "Layout" "sizes" (spSzs K)) (M_size : Mf P w K mg base 5 "Sizes" "size" ["self", "level"] (spSize K))
    (F : FnP K "cost" "cost" (top 32) f fd) : FnOk P w K mg base (L2.CX P w) 11 f fd ["layout", "moves"] (spCost K) := by
  refine F.ok sc_cost (fun vs H Q E h => ?_) (fun cdv A outer s H vs Q E hr h => ⟨_, (pss_cons (ps_expr (pcallX D_check_rearrangement hr (passX (takes_of (E := E) rfl rfl rfl rfl)) (pa_cons (pv 0) (pa_cons (pv 1) pa_nil)))) (pss_cons (ps_set (i := 2) sc_cost.nd rfl (by first | exact Or.inl rfl | exact Or.inr rfl) (pmeth0 M_unpinned_levels hr (pv 0))) (pss_one (ps_ret (pe_callB (cr_sum rfl) (by rfl) T.n_sum (by decide +kernel) (pa_cons (pe_lc (own := [("old", 3), ("new", 4)]) (g := gTup K 2 (gCons (gName 3) (gCons (gName 4) gNil))) rfl sc_cost.nd (pi_list (pv 1)) (blkOk_by (own := [("old", 3), ("new", 4)]) (N := ["layout", "moves", "levels", "old", "new"]) (sc := defScope (top 32)) (by decide +kernel)) (fun _ _ _ _ _ => pg_tup rfl (pgs_cons (pg_name (i := 3) sc_cost.nd rfl (Or.inl rfl)) (pgs_cons (pg_name (i := 4) sc_cost.nd rfl (Or.inl rfl)) pgs_nil))) (fun _ _ _ _ _ => pts_nil) (fun _ _ _ _ _ => (pmethB K M_size hr (ppropB K P_sizes hr (pv 0)) (pa_cons (pe_dget (u1 hr) (pv 2) (pv 3) (fun _ _ => rfl)) pa_nil)))) pa_nil)))))), ?_⟩)
  · obtain ⟨y, zp, bl, dx, ps, ns, n, bs, v, o, rfl, _⟩ := h
    rfl
  · obtain ⟨y, zp, bl, dx, ps, ns, n, bs, v, o, rfl, L, th, bl9, q, qX⟩ := h
    have sl : sizeLine = 16777216 := sizeLine_eq
    refine ⟨_, rfl, _, rfl, y, zp, bl, dx, ps, ns, n, bs, v, o, rfl, L, th, fun ok0 H1 s1 => ?_, qX⟩
    obtain ⟨a, xs, mm, rfl, ha, hm, xl, ok, rfl⟩ := th.ok ok0
    obtain ⟨Ft, lo⟩ := okR_of ok
    have wf := L.wf
    have gd := L.gd
    have ml : xs.length = mm.length := by rw [hm.len, List.length_map]
    have L1 := L.same s1
    refine ⟨_, rfl, y, dx, _, rfl, L1.at_, rfl, y, zp, bl, dx, ps, ns, n, bs, rfl, L1, fun Dl H2 d0 s2 hD => ?_⟩
    have L2 := L1.same s2
    have s12 := s1.trans s2
    have ha2 := s12 _ _ ha
    have hm2 := hm.same s12
    refine ⟨_, rfl, a, rfl, ⟨_, SqL.of ha2⟩, fun R hR => ?_⟩
    refine lc_list (K := K) (a := a) (xs := xs) (fun i G => G R = some (.lst (((mm.take i).map fun m => sz ns (lev bs m.1)).map V.int)) ∧ Same H2 G) ⟨upd_same, same_upd hR⟩ (fun i G _ h => SqL.of (h.2 _ _ ha2)) ?_ ?_
    · rintro i v G hv ⟨hG, sG⟩
      obtain ⟨t, p1, p2, rfl, et, emm⟩ := (hm2.same sG).at_some hv
      obtain ⟨o1, o2, o3, o4, o5⟩ := old_in wf gd Ft emm
      have hk : valV (lvK (unpB bs)) (Sum.inl p1) = some (.int (lev bs p1 : Nat)) := lvK_get (cs := unpB bs) (b := (p1, lev bs p1, false)) ((wf.rise gd).filter _) (List.mem_filter.mpr ⟨o1, rfl⟩)
      have LG := L2.same sG
      have il := (List.getElem?_eq_some_iff.mp emm).1
      refine ⟨t, _, rfl, .inl (.inl et), rfl, _, _, rfl, _, _, rfl, rfl, rfl, ?_⟩
      obtain ⟨dz, lz, z1, z2, _⟩ := LG.ap
      refine ⟨_, rfl, y, dx, _, rfl, LG.at_, y, zp, bl, dx, ps, ns, n, bs, rfl, LG, zp, dz, _, rfl, z1, rfl, _, rfl, _, rfl, Dl, _, rfl, (by rw [← hk]; exact DGet.k (k := Sum.inl p1) (sG _ _ hD)), ?_⟩
      refine ⟨zp, ns, lev bs p1, _, rfl, LG.szs, sz_at o5, ?_⟩
      refine ⟨_, hG, (by rw [List.length_map, List.length_map, List.length_take]; omega), ?_, fun c o e => ?_⟩
      · rw [upd_same, take_snoc emm, List.map_append, List.map_append]
        rfl
      · rw [upd_ne (ne_of_none e hR)]
        exact sG c o e
    rintro G ⟨hG, sG⟩
    rw [ml, List.take_length] at hG
    exact ⟨R, _, rfl, SqL.of hG, q ok0 _ G (s12.trans sG)⟩
end
end K34

set_option Elab.async false
set_option linter.all false
set_option maxRecDepth 100000
set_option maxHeartbeats 4000000
/-! Own layer, law-free: max(xs, default = d) of a list of whole numbers. -/
namespace Ex
open PySem PySem.Spec PySem.Calls PyProof.Rows L2 Gu
section
variable {prog : Program} {w : World} {A : Around} {R : Result → Shared → Prop} {I : Addr} {fp wr : List Addr} {n : Nat} {P : Nat → Value → Prop} {St : Nat → Heap → Prop}
theorem mxk_loop (W : Walks prog w A.in1 I fp wr n P St) (bt : Nat → Nat → Bool) (cmp : CmpOf prog w A.in1 .Gt P bt) (B : Addr) (nB : B ∉ fp) (kw : List (Str × Value)) :
    ∀ (d j : Nat) (s : Shared) (u : Value) (c : Nat), n = j + 1 + d → St (j + 1) s.heap → P (argBest bt j) u →
    s.heap.get? B = some { cls := .type "list", dict := none, data := .seq #[u, u] c, slots := #[] } →
    (∀ v h' tk, P (argBest bt (n - 1)) v → (∀ b o, b ∉ wr → b ≠ B → s.heap.get? b = some o → h'.get? b = some o) → R (.ok (.ret v)) { s with heap := h', toks := tk }) →
    codeAny (model prog w) A (.builtin "max.loop" ⟨[.ref I, .none, .ref B], kw⟩) R s := by
  have wB : B ∉ wr := fun z => nB (W.sub _ z)
  have nm : (toString "max" ++ toString ".loop" : String) = "max.loop" := by decide
  intro d
  induction d with
  | zero =>
    intro j s u c hd st pu hB fin
    have e : j + 1 = n := by omega
    refine codeAny_builtin PySem.F.entry_max_loop ?_
    rw [Around.under_plainId PySem.F.plain_max_loop _]
    show wpAny _ A.in1 (seqItems? (.ref B) >>= _) _ _ s
    refine wpAny_bind (wpAny_seqItems hB rfl ?_)
    show wpAny _ A.in1 (tryCatch (pyNext (.ref I)) _ >>= _) _ _ s
    refine wpAny_bind (wpAny_tryCatch (W.done s _ _ (e ▸ st) fun h' tk old => ?_))
    have hB' := old B _ wB hB
    show wpAny _ A.in1 (updateSeq B (fun _ => #[]) >>= _) _ _ _
    refine wpAny_bind (wpAny_updateSeq hB' rfl (wpAny_bind (wpAny_letGo (wpAny_pure ?_))))
    exact fin u _ tk (by rw [← e]; exact pu) fun b o h1 h2 h3 => (Heap.get?_update_other _ _ (Ne.symm h2)).trans (old b o h1 h3)
  | succ d ih =>
    intro j s u c hd st pu hB fin
    refine codeAny_builtin PySem.F.entry_max_loop ?_
    rw [Around.under_plainId PySem.F.plain_max_loop _]
    show wpAny _ A.in1 (seqItems? (.ref B) >>= _) _ _ s
    refine wpAny_bind (wpAny_seqItems hB rfl ?_)
    show wpAny _ A.in1 (tryCatch (pyNext (.ref I)) _ >>= _) _ _ s
    refine wpAny_bind (wpAny_tryCatch (W.item (j + 1) s _ _ (by omega) st fun v h' tk pv st' old => ?_))
    have hB' := old B _ wB hB
    show wpAny _ A.in1 (tryCatch (holding [v, v] (richCompare .Gt v u >>= _)) _ >>= _) _ _ _
    refine wpAny_bind (wpAny_tryCatch (wpAny_holding (wpAny_bind (cmp (j + 1) (argBest bt j) v u _ _ _ pv pu ?_))))
    refine wpAny_bind (wpAny_holding (wpAny_truthy_bool (wpAny_bind (wpAny_letGo (wpAny_pure ?_)))))
    cases hb : bt (j + 1) (argBest bt j) with
    | true =>
      simp only [if_true]
      refine wpAny_bind (wpAny_updateSeq hB' rfl (wpAny_bind (wpAny_letGo ?_)))
      rw [nm]
      refine wpAny_pure ⟨plainId_quiet PySem.F.plain_max_loop _, ih (j + 1) _ v _ (by omega) (W.frame _ _ _ st' fun b hbf o eo => ?_) (by simp only [argBest, hb, if_true]; exact pv) (Heap.get?_update_self _ hB' rfl) fun v' h'' tk'' pv' old' => ?_⟩
      · exact (Heap.get?_update_other _ _ (fun z : B = b => nB (by rw [z]; exact hbf))).trans eo
      · exact fin v' h'' tk'' pv' fun b o h1 h2 h3 => old' b o h1 h2 ((Heap.get?_update_other _ _ (Ne.symm h2)).trans (old b o h1 h3))
    | false =>
      simp only [Bool.false_eq_true, if_false]
      refine wpAny_bind (wpAny_letGo (?_ : wpAny _ _ _ _ _ _))
      rw [nm]
      refine wpAny_pure ⟨plainId_quiet PySem.F.plain_max_loop _, ih (j + 1) _ u c (by omega) st' (by simp only [argBest, hb, Bool.false_eq_true, if_false]; exact pu) hB' fun v' h'' tk'' pv' old' => ?_⟩
      exact fin v' h'' tk'' pv' fun b o h1 h2 h3 => old' b o h1 h2 (old b o h1 h3)
/-- the loop's first turn -/
theorem mxk_first (W : Walks prog w A.in1 I fp wr n P St) (bt : Nat → Nat → Bool) (cmp : CmpOf prog w A.in1 .Gt P bt) (B : Addr) (nB : B ∉ fp) (x : Str) (dv : Value) {s : Shared} {c : Nat} (st : St 0 s.heap)
    (hB : s.heap.get? B = some { cls := .type "list", dict := none, data := .seq #[] c, slots := #[] })
    (none_ : n = 0 → ∀ h' tk, (∀ b o, b ∉ wr → b ≠ B → s.heap.get? b = some o → h'.get? b = some o) → R (.ok (.ret dv)) { s with heap := h', toks := tk })
    (fin : 0 < n → ∀ v h' tk, P (argBest bt (n - 1)) v → (∀ b o, b ∉ wr → b ≠ B → s.heap.get? b = some o → h'.get? b = some o) → R (.ok (.ret v)) { s with heap := h', toks := tk }) :
    codeAny (model prog w) A (.builtin "max.loop" ⟨[.ref I, .none, .ref B], [(x, dv)]⟩) R s := by
  have wB : B ∉ wr := fun z => nB (W.sub _ z)
  have nm : (toString "max" ++ toString ".loop" : String) = "max.loop" := by decide
  refine codeAny_builtin PySem.F.entry_max_loop ?_
  rw [Around.under_plainId PySem.F.plain_max_loop _]
  show wpAny _ A.in1 (seqItems? (.ref B) >>= _) _ _ s
  refine wpAny_bind (wpAny_seqItems hB rfl ?_)
  show wpAny _ A.in1 (tryCatch (pyNext (.ref I)) _ >>= _) _ _ s
  rcases Nat.eq_zero_or_pos n with z | z
  · refine wpAny_bind (wpAny_tryCatch (W.done s _ _ (z ▸ st) fun h' tk old => ?_))
    exact wpAny_bind (wpAny_rule (wpAny_pure (none_ z h' tk fun b o h1 _ h3 => old b o h1 h3)))
  · refine wpAny_bind (wpAny_tryCatch (W.item 0 s _ _ z st fun v h' tk pv st' old => ?_))
    have hB' := old B _ wB hB
    show wpAny _ A.in1 (updateSeq B (fun _ => #[v, v]) >>= _) _ _ _
    refine wpAny_bind (wpAny_updateSeq hB' rfl ?_)
    rw [nm]
    refine wpAny_pure ⟨plainId_quiet PySem.F.plain_max_loop _, mxk_loop W bt cmp B nB _ (n - 1) 0 _ v _ (by omega) (W.frame _ _ _ st' fun b hbf o eo => ?_) pv (Heap.get?_update_self _ hB' rfl) fun v' h'' tk'' pv' old' => ?_⟩
    · exact (Heap.get?_update_other _ _ (fun z : B = b => nB (by rw [z]; exact hbf))).trans eo
    · exact fin z v' h'' tk'' pv' fun b o h1 h2 h3 => old' b o h1 h2 ((Heap.get?_update_other _ _ (Ne.symm h2)).trans (old b o h1 h3))
end
section
variable {prog : Program} {w : World} {A : Around} {E : Value → Shared → Prop} {s : Shared} {l : Addr} {xs : Array (Int × Tok)}
theorem mxk_args (a d : Value) : argsOk "max" ⟨[a], [("default", d)]⟩ := by unfold argsOk; kernel_rfl
theorem mxk_ints {Q : Value → Shared → Prop} (dv : Value) (hh : A.handled = none) (hl : s.heap.IsList l (intItems xs))
    (none_ : xs.size = 0 → ∀ h' tk, (∀ b o, s.heap.get? b = some o → h'.get? b = some o) → Q dv { s with heap := h', toks := tk })
    (fin : 0 < xs.size → ∀ v h' tk, (intItems xs)[argBest (fun i j => decide (numAt xs i > numAt xs j)) (xs.size - 1)]? = some v → (∀ b o, s.heap.get? b = some o → h'.get? b = some o) → Q v { s with heap := h', toks := tk }) :
    wpAny (model prog w) A (call (.builtin "max") [.ref l] [("default", dv)]) Q E s := by
  have nm : (toString "max" ++ toString ".loop" : String) = "max.loop" := by decide
  refine wpAny_call (codeAny_call_builtin PySem.F.plain_max PySem.F.entry_max ?_)
  simp only [checkBuiltinCall, PySem.F.kind_max]
  have main : wpAny (model prog w) A.in1 (Builtin.«max» ⟨[.ref l], [("default", dv)]⟩) (fun f s' => match f with
      | .done f => (match (Except.ok f : Result) with | .ok (.ret v) => Q v s' | .ok _ => False | .error e => E e s')
      | .again c' => c'.quiet = true ∧ codeAny (model prog w) A c' (fun r s' => match r with | .ok (.ret v) => Q v s' | .ok _ => False | .error e => E e s') s') E s := by
    show wpAny _ A.in1 (Builtin.Builtins.bindParams "max" ["key", "default"] 0 ⟨[], [("default", dv)]⟩ >>= _) _ _ s
    refine wpAny_bind (wpAny_of_eq (show Builtin.Builtins.bindParams "max" ["key", "default"] 0 ⟨[], [("default", dv)]⟩ = pure [none, some dv] from rfl) ?_)
    refine wpAny_bind (wpAny_pure (wpAny_bind (iter_intList hl fun s₂ e st hfp hlI => ?_)))
    have W := Walks.list (prog := prog) (w := w) (A := A.in1) hh s.heap.objs.size l hlI (intItems xs)
    have nB : s₂.heap.objs.size ∉ [s.heap.objs.size, l] := fun hm => Nat.lt_irrefl _ (hfp _ hm)
    refine wpAny_bind (wpAny_newObj_type ?_)
    rw [nm]
    refine wpAny_pure ⟨plainId_quiet PySem.F.plain_max_loop _, mxk_first W _ (CmpOf.ints_gt (numAt xs) (fun _ _ => intItems_at)) s₂.heap.objs.size nB _ dv (W.frame _ _ _ st fun b _ o eo => Heap.get?_push_of_some _ eo) (Heap.get?_push_size _ rfl) (fun z h' tk hk => ?_) (fun z v h' tk pv hk => ?_)⟩
    · subst e
      exact none_ (by simpa [intItems] using z) h' tk (old_kept fun b o h1 eo => hk b o h1 (Nat.ne_of_lt (Heap.lt_size eo)) (Heap.get?_push_of_some _ eo))
    · subst e
      exact fin (by simpa [intItems] using z) v h' tk (by simpa [intItems] using pv) (old_kept fun b o h1 eo => hk b o h1 (Nat.ne_of_lt (Heap.lt_size eo)) (Heap.get?_push_of_some _ eo))
  cases hsig : Manifest.signature? "max" with
  | none => exact wpAny_pure main
  | some sig =>
    have h2 : Bind.checkArgs "max" sig ⟨[.ref l], [("default", dv)]⟩ = pure () := by
      have := mxk_args (.ref l) dv
      simpa only [argsOk, hsig] using this
    show wpAny _ A.in1 (Bind.checkArgs "max" sig ⟨[.ref l], [("default", dv)]⟩) _ _ s
    rw [h2]
    exact wpAny_pure main
end
section
variable {prog : Program} {w : World} {A : Around} {E : Value → Shared → Prop} {s : Shared} {l : Addr} {its : List Value} {ns : List Int} {Q : Value → Shared → Prop}
theorem mxk_raw (dv : Value) (hh : A.handled = none) (hl : s.heap.IsList l its.toArray) (hi : IntsAre its ns)
    (none_ : ns = [] → ∀ h' tk, (∀ b o, s.heap.get? b = some o → h'.get? b = some o) → Q dv { s with heap := h', toks := tk })
    (some_ : ∀ h' tk m t', (∀ b o, s.heap.get? b = some o → h'.get? b = some o) → m ∈ ns → (∀ a, a ∈ ns → a ≤ m) → Q (.int m t') { s with heap := h', toks := tk }) :
    wpAny (model prog w) A (call (.builtin "max") [.ref l] [("default", dv)]) Q E s := by
  obtain ⟨ys, ey⟩ := hi.allInts.items
  have en : numsOf (intItems ys).toList = ns := ey ▸ hi.numsOf
  rw [nums_intItems] at en
  rw [ey] at hl
  have len : ns.length = ys.size := by rw [← en, List.length_map, Array.length_toList]
  refine mxk_ints dv hh hl (fun z h' tk k => none_ (List.length_eq_zero_iff.mp (len.trans z)) h' tk k) (fun z v h' tk hv k => ?_)
  obtain ⟨t, rfl⟩ := intItems_at hv
  have gt := argBest_gt (numAt ys) (ys.size - 1)
  refine some_ h' tk _ t k ?_ (fun a ha => ?_)
  · rw [numAt_eq, ← en]
    exact PySem.getD_mem (by rw [en, len]; have := gt.1; omega)
  · rw [← en] at ha
    obtain ⟨j, hj, rfl⟩ := mem_getD ha
    rw [List.length_map, Array.length_toList] at hj
    rw [← numAt_eq]
    exact gt.2 j (by omega)
end
section
variable {X : Cx} {e : Expr} {t : TA} {pos p p2 kp : Pos}
/-- max(xs, default=None) -/
def tMaxN (K : PySem.W.Frag) (t : TA) : TE := fun σ H Q => t σ H fun vs H1 => ∃ (a : Addr) (ns : List Int), vs = [V.ref a] ∧ SqL K H1 a (ns.map V.int) ∧ (ns = [] → Q .non H1) ∧ ∀ m, m ∈ ns → (∀ y, y ∈ ns → y ≤ m) → Q (.int m) H1
theorem pe_maxN (hc : X.calm = true) (hg : Gl X "max") (hm : X.mg "max" = none) (ha : PA X [e] t) (he : starEach [e] X.env = (false, eval e X.env) :: starEach [] X.env := by rfl) :
    PE X (.Call (.Name "max" p) [e] [⟨some "default", .Constant .none 0 p2, kp⟩] pos) (tMaxN X.K t) := by
  refine ⟨fun pins s σ H Q I h => ?_⟩
  refine wpAny_Call_Name_kw (ld_blt (u := .builtin "max") I hg hm (by decide +kernel) ?_)
  refine PyProof.Rows.callWith_kw (thn (ha.run pos pins s σ H _ I h) fun us s1 ⟨vs, H1, I1, r1, q1⟩ => ?_) (by rw [he]; rfl) (by rw [he]; rfl)
  obtain ⟨a, ns, rfl, hs, q0, qm⟩ := q1
  refine thn ((pk_cons (nm := some "default") (kpos := kp) (pe_non (j := 0) (pos := p2)) pk_nil).run pos pins s1 σ H1 (fun zs H2 => zs = [V.non] ∧ H2 = H1) I1 ⟨rfl, rfl⟩) fun ws s2 ⟨zs, H2, I2, rz, ez, eh⟩ => ?_
  subst ez
  subst eh
  obtain ⟨u, rfl, ru⟩ := vals1 rz
  obtain rfl : u = Value.none := ru
  rw [Vals.ref1 r1]
  obtain ⟨its, rv, hl, _⟩ := I2.list hs
  exact mxk_raw .none (I2.ok.hd hc) hl.isList rv.ints (fun z h' tk k => ⟨.non, H2, I2.kept k, rfl, q0 z⟩) fun h' tk m t' k h1 h2 => ⟨.int m, H2, I2.kept k, ⟨_, rfl⟩, qm m h1 h2⟩
end
end Ex

set_option Elab.async false
set_option linter.all false
set_option maxRecDepth 100000
set_option maxHeartbeats 4000000
set_option pp.maxSteps 900
namespace K34
open PySem PySem.Spec PyProof.Rows L2 Gu Ex
/-- the levels of the moved blocks -/
def lvsI (bs : List Blk) (mm : List (Int × Int)) : List Int := mm.map fun m => (lev bs m.1 : Int)
section
variable {P : Program} {w : World} {K : PySem.W.Frag} {mg : Str → Option Value} {base : Heap} {f : Addr} {fd : FuncData}
def spLvl (K : PySem.W.Frag) : Sp := fun vs H Q E => ∃ (y zp bl dx : Addr) (ps : List Addr) (ns : List Int) (n : Int) (bs : List Blk) (v : V) (o : Option (List Mo)), vs = [.ref y, v] ∧ Ly K H y zp bl dx ps ns n bs ∧ Th H v o ∧ bs.length < 900 ∧ (OkR ns n bs o → ∀ u H', Same H H' → Q u H') ∧ ∀ i : Nat, ¬ OkR ns n bs o → FstP ns n bs o i → Raised K "InvalidMoves" "position" (.int i) H E
theorem sc_moved_level : FnScope ["layout", "moves", "levels", "old", "new"] ["layout", "moves"] (defScope (top 33)) := ⟨rfl, rfl, rfl, by decide +kernel, rfl, by decide +kernel, by decide +kernel⟩
theorem ok_lvl (T : Tx K mg) (D_check_rearrangement : DfX P w K mg base 10 "check_rearrangement" ["layout", "value"] (spChk K)) (M_unpinned_levels : Mf P w K mg base 1 "Layout" "unpinned_levels" ["self"] (spLevels K))
    (F : FnP K "moved_level" "moved_level" (top 33) f fd) : FnOk P w K mg base (L2.CX P w) 11 f fd ["layout", "moves"] (spLvl K) := by
  refine F.ok sc_moved_level (fun vs H Q E h => ?_) (fun cdv A outer s H vs Q E hr h => ⟨_, (pss_cons (ps_expr (pcallX D_check_rearrangement hr (passX (takes_of (E := E) rfl rfl rfl rfl)) (pa_cons (pv 0) (pa_cons (pv 1) pa_nil)))) (pss_cons (ps_set (i := 2) sc_moved_level.nd rfl (by first | exact Or.inl rfl | exact Or.inr rfl) (pmeth0 M_unpinned_levels hr (pv 0))) (pss_one (ps_ret (pe_maxN rfl (by rfl) T.n_max (pa_cons (pe_lc (own := [("old", 3), ("new", 4)]) (g := gTup K 2 (gCons (gName 3) (gCons (gName 4) gNil))) rfl sc_moved_level.nd (pi_list (pv 1)) (blkOk_by (own := [("old", 3), ("new", 4)]) (N := ["layout", "moves", "levels", "old", "new"]) (sc := defScope (top 33)) (by decide +kernel)) (fun _ _ _ _ _ => pg_tup rfl (pgs_cons (pg_name (i := 3) sc_moved_level.nd rfl (Or.inl rfl)) (pgs_cons (pg_name (i := 4) sc_moved_level.nd rfl (Or.inl rfl)) pgs_nil))) (fun _ _ _ _ _ => pts_nil) (fun _ _ _ _ _ => (pe_dget (u1 hr) (pv 2) (pv 3) (fun _ _ => rfl)))) pa_nil)))))), ?_⟩)
  · obtain ⟨y, zp, bl, dx, ps, ns, n, bs, v, o, rfl, _⟩ := h
    rfl
  · obtain ⟨y, zp, bl, dx, ps, ns, n, bs, v, o, rfl, L, th, bl9, q, qX⟩ := h
    have sl : sizeLine = 16777216 := sizeLine_eq
    refine ⟨_, rfl, _, rfl, y, zp, bl, dx, ps, ns, n, bs, v, o, rfl, L, th, fun ok0 H1 s1 => ?_, qX⟩
    obtain ⟨a, xs, mm, rfl, ha, hm, xl, ok, rfl⟩ := th.ok ok0
    obtain ⟨Ft, lo⟩ := okR_of ok
    have wf := L.wf
    have gd := L.gd
    have ml : xs.length = mm.length := by rw [hm.len, List.length_map]
    have L1 := L.same s1
    refine ⟨_, rfl, y, dx, _, rfl, L1.at_, rfl, y, zp, bl, dx, ps, ns, n, bs, rfl, L1, fun Dl H2 d0 s2 hD => ?_⟩
    have s12 := s1.trans s2
    have ha2 := s12 _ _ ha
    have hm2 := hm.same s12
    refine ⟨_, rfl, a, rfl, ⟨_, SqL.of ha2⟩, fun R hR => ?_⟩
    refine lc_list (K := K) (a := a) (xs := xs) (fun i G => G R = some (.lst ((lvsI bs (mm.take i)).map V.int)) ∧ Same H2 G) ⟨upd_same, same_upd hR⟩ (fun i G _ h => SqL.of (h.2 _ _ ha2)) ?_ ?_
    · rintro i v G hv ⟨hG, sG⟩
      obtain ⟨t, p1, p2, rfl, et, emm⟩ := (hm2.same sG).at_some hv
      obtain ⟨o1, o2, o3, o4, o5⟩ := old_in wf gd Ft emm
      have hk : valV (lvK (unpB bs)) (Sum.inl p1) = some (.int (lev bs p1 : Nat)) := lvK_get (cs := unpB bs) (b := (p1, lev bs p1, false)) ((wf.rise gd).filter _) (List.mem_filter.mpr ⟨o1, rfl⟩)
      have il := (List.getElem?_eq_some_iff.mp emm).1
      refine ⟨t, _, rfl, .inl (.inl et), rfl, _, _, rfl, _, _, rfl, rfl, rfl, ?_⟩
      refine ⟨_, rfl, _, rfl, Dl, _, rfl, (by rw [← hk]; exact DGet.k (k := Sum.inl p1) (sG _ _ hD)), ?_⟩
      refine ⟨_, hG, (by rw [List.length_map, lvsI, List.length_map, List.length_take]; omega), ?_, fun c o e => ?_⟩
      · rw [upd_same]
        unfold lvsI
        rw [take_snoc emm, List.map_append, List.map_append]
        rfl
      · rw [upd_ne (ne_of_none e hR)]
        exact sG c o e
    rintro G ⟨hG, sG⟩
    rw [ml, List.take_length] at hG
    exact ⟨R, _, rfl, SqL.of hG, fun _ => q ok0 _ G (s12.trans sG), fun i _ _ => q ok0 _ G (s12.trans sG)⟩
end
end K34

set_option Elab.async false
set_option linter.all false
set_option maxRecDepth 100000
set_option maxHeartbeats 800000
set_option pp.maxSteps 900
namespace K34
open PySem PySem.Spec PyProof.Rows L2 Gu Ex LamX
/-- the tables of the two code objects whose lambdas are made -/
def tabs (Pt : Nat → Addr) : List (Addr × Str) := [(Pt 0, "_law_list_right.<locals>.<lambda>"), (Pt 1, "_law_alone_right.<locals>.<lambda>")]
def Inj2 (Pt : Nat → Addr) : Prop := Pt 0 ≠ Pt 1
theorem tabs_one0 {Pt : Nat → Addr} (inj : Inj2 Pt) : ∀ p ∈ tabs Pt, p.1 = Pt 0 → p.2 = "_law_list_right.<locals>.<lambda>" := fun p hp e => by
  simp only [tabs, List.mem_cons, List.not_mem_nil, or_false] at hp
  rcases hp with rfl | rfl
  · rfl
  · exact absurd e.symm inj
theorem tabs_one1 {Pt : Nat → Addr} (inj : Inj2 Pt) : ∀ p ∈ tabs Pt, p.1 = Pt 1 → p.2 = "_law_alone_right.<locals>.<lambda>" := fun p hp e => by
  simp only [tabs, List.mem_cons, List.not_mem_nil, or_false] at hp
  rcases hp with rfl | rfl
  · exact absurd e inj
  · rfl
theorem tabs_same {L : List (Addr × Str)} {H H' : Hp} (t : Tabs L H) (s : Same H H') : Tabs L H' := fun p hp => by
  obtain ⟨ps, h1, h2, h3⟩ := t p hp
  refine ⟨ps, s _ _ h1, h2, fun pos cv hc => ?_⟩
  obtain ⟨c, e1, e2⟩ := h3 pos cv hc
  exact ⟨c, e1, s _ _ e2⟩
theorem tabs_stp {L : List (Addr × Str)} {H H' : Hp} {r : Addr} (t : Tabs L H) (R : Rng H r) (s : Stp r H H') : Tabs L H' := fun p hp => by
  obtain ⟨ps, h1, h2, h3⟩ := t p hp
  obtain ⟨ra, rb, re, _⟩ := R
  refine ⟨ps, s.2 _ _ (fun z => by rw [z, re] at h1; cases h1) h1, h2, fun pos cv hc => ?_⟩
  obtain ⟨c, e1, e2⟩ := h3 pos cv hc
  refine ⟨c, e1, s.2 _ _ (fun z => ?_) e2⟩
  rw [z, re] at e2
  unfold CodeO at e2
  cases e2
theorem ext_same {H H' : Hp} (s : Same H H') : ExtN H H' := fun b o e _ => s b o e
theorem ext_trans {H H1 H2 : Hp} (a : ExtN H H1) (b : ExtN H1 H2) : ExtN H H2 := fun c o e z => b c o (a c o e z) z
theorem ext_refl {H : Hp} : ExtN H H := fun _ _ e _ => e
theorem extN_stp {H H' : Hp} {r : Addr} (R : Rng H r) (s : ExtN H H') : StpN r H H' := by
  obtain ⟨a, b, e, z⟩ := R
  exact ⟨⟨a, b, s _ _ e (fun ps h => by cases h), z⟩, fun c o _ h e2 => s c o e2 h⟩
section
variable {K : PySem.W.Frag} {H H' : Hp} {y zp bl dx r : Addr} {ps : List Addr} {ns : List Int} {n : Int} {bs : List Blk}
theorem Ly.extN (h : Ly K H y zp bl dx ps ns n bs) (s : ExtN H H') : Ly K H' y zp bl dx ps ns n bs := by
  obtain ⟨dz, l, z1, z2, z3⟩ := h.ap
  have k1 := s _ _ z1 (fun ps h => by cases h)
  have k2 := s _ _ z2 (fun ps h => by cases h)
  exact ⟨s _ _ h.at_ (fun ps h => by cases h), ⟨dz, l, k1, k2⟩, s _ _ h.lst (fun ps h => by cases h), h.rf.mono fun p xs e => s p _ e (fun ps h => by cases h), h.wf, h.gd, h.n1, h.n2, h.ln, ⟨dz, l, k1, k2, z3⟩⟩
end
theorem ToldM.ext {H H' : Hp} {R : Addr} {o : Option Nat} (h : ToldM H R o) (s : ExtN H H') : ToldM H' R o := by
  cases o with
  | none =>
    obtain ⟨u, e⟩ := h
    exact ⟨u, s _ _ e (fun ps z => by cases z)⟩
  | some i => exact s _ _ h (fun ps z => by cases z)
/-- the call of one lambda: from what it does to what was told -/
theorem told_one {K : PySem.W.Frag} {T : List (Addr × Str)} {H : Hp} {due : Option Nat} (tl : XK → Hp → VK → Prop) (G : Hp) (Q' : VK) (sg : ExtN H G) (tg : Tabs T G)
    (call : ∀ G1 E N, ExtN H G1 → (due = none → ∀ u H2, Same G1 H2 → N u H2) → (∀ i : Nat, due = some i → Raised K "InvalidMoves" "position" (.int i) G1 E) → tl E G1 N)
    (fin : ∀ R G3, ExtN H G3 → ExtN G G3 → Tabs T G3 → ToldM G3 R due → (∀ c o, G c = some o → (∀ ps, o ≠ .tbl ps) → c ≠ R) → Q' (.ref R) G3) : Tabs T G ∧ ∀ H1, ExtN G H1 → Tabs T H1 → TTold K tl H1 Q' :=
  ⟨tg, fun H1 x1 tb1 => ⟨due, fun Ha E N sa h1 h2 => call Ha E N (ext_trans sg (ext_trans x1 (ext_same sa))) h1 h2,
    fun e R u H3 hR s3 h3 => fin R H3 (ext_trans sg (ext_trans x1 (ext_same s3))) (ext_trans x1 (ext_same s3)) (tabs_same tb1 s3) (by rw [e]; exact ⟨u, h3⟩) (fun c o e z => ne_of_none (x1 c o e z) hR),
    fun i e R H3 hR s3 h3 => fin R H3 (ext_trans sg (ext_trans x1 (ext_same s3))) (ext_trans x1 (ext_same s3)) (tabs_same tb1 s3) (by rw [e]; exact h3) (fun c o e z => ne_of_none (x1 c o e z) hR)⟩⟩
/-- so far: the list at M holds what was told -/
structure ToldL (T : List (Addr × Str)) (H G : Hp) (M : Addr) (due : Option Nat) (rs : List Addr) : Prop where
  st : ExtN H G
  tb : Tabs T G
  at_ : G M = some (.lst (rs.map V.ref))
  off : ∀ c o, H c = some o → (∀ ps, o ≠ .tbl ps) → c ≠ M
  ok : ∀ R ∈ rs, ToldM G R due ∧ R ≠ M
theorem toldM_upd {G : Hp} {R M : Addr} {o : HO} {due : Option Nat} (h : ToldM G R due) (n : R ≠ M) : ToldM (upd G M o) R due := by
  cases due with
  | none =>
    obtain ⟨u, e⟩ := h
    exact ⟨u, by rw [upd_ne n]; exact e⟩
  | some i =>
    show upd G M o R = _
    rw [upd_ne n]
    exact h
theorem tabs_updL {T : List (Addr × Str)} {G : Hp} {M : Addr} {xs ys : List V} (t : Tabs T G) (h : G M = some (.lst xs)) : Tabs T (upd G M (.lst ys)) := fun p hp => by
  obtain ⟨ps, h1, h2, h3⟩ := t p hp
  refine ⟨ps, ?_, h2, fun pos cv hc => ?_⟩
  · rw [upd_ne (fun z => by rw [z, h] at h1; cases h1)]
    exact h1
  · obtain ⟨c, e1, e2⟩ := h3 pos cv hc
    refine ⟨c, e1, ?_⟩
    rw [upd_ne (fun z => by rw [z, h] at e2; unfold CodeO at e2; cases e2)]
    exact e2
theorem ToldL.more {T : List (Addr × Str)} {H G G3 : Hp} {M R : Addr} {due : Option Nat} {rs : List Addr} (t : ToldL T H G M due rs) (s3 : ExtN H G3) (x : ExtN G G3) (tb : Tabs T G3) (hR : ToldM G3 R due) (fr : ∀ c o, G c = some o → (∀ ps, o ≠ .tbl ps) → c ≠ R) :
    G3 M = some (.lst (rs.map V.ref)) ∧ ToldL T H (upd G3 M (.lst (rs.map V.ref ++ [.ref R]))) M due (rs ++ [R]) := by
  have h2 := x _ _ t.at_ (fun ps e => by cases e)
  have nM : R ≠ M := (fr M _ t.at_ (fun ps e => by cases e)).symm
  refine ⟨h2, ⟨fun c o e z => ?_, tabs_updL tb h2, by rw [upd_same, List.map_append]; rfl, t.off, fun Q hQ => ?_⟩⟩
  · rw [upd_ne (t.off c o e z)]
    exact s3 c o e z
  · rcases List.mem_append.mp hQ with z | z
    · obtain ⟨k1, k2⟩ := t.ok Q z
      exact ⟨toldM_upd (k1.ext x) k2, k2⟩
    · rw [List.mem_singleton.mp z]
      exact ⟨toldM_upd hR nM, nM⟩
theorem dueV_none {due : Option Nat} : (dueV due = .non) ↔ due = none := by
  cases due with
  | none => exact ⟨fun _ => rfl, fun _ => rfl⟩
  | some i => exact ⟨(fun z => by cases z), (fun z => by cases z)⟩
/-- a value of any kind, in a state that tables alone may change -/
def ThX (K : PySem.W.Frag) (H : Hp) (v : V) (o : Option (List Mo)) (d : PyData) (m : Nat) : Prop := ∀ H', ExtN H H' → Th H' v o ∧ Tq K H' v d 6 m
section
variable {P : Program} {w : World} {K : PySem.W.Frag} {mg : Str → Option Value} {base : Heap} {f : Addr} {fd : FuncData}
def spLR (K : PySem.W.Frag) (Pt : Nat → Addr) : Sp := fun vs H Q _ => ∃ (y zp bl dx : Addr) (ps : List Addr) (ns : List Int) (n : Int) (bs : List Blk) (v : V) (d : PyData) (o : Option (List Mo)) (due : Option Nat), vs = [.ref y, v, dueV due] ∧ Ly K H y zp bl dx ps ns n bs ∧ bs.length < 900 ∧ ThX K H v o d 100000 ∧
  (due = none → OkR ns n bs o) ∧ (∀ i : Nat, due = some i → ¬ OkR ns n bs o ∧ FstP ns n bs o i) ∧ SmP due ∧ Tabs (tabs Pt) H ∧ ∀ H', ExtN H H' → Tabs (tabs Pt) H' → Q (.bl true) H'
theorem sc__law_list_right : FnScope ["_law_layout", "_law_value", "_law_due", "_law_kept", "_law_told_here", "_law_one"] ["_law_layout", "_law_value", "_law_due"] (defScope (top 62)) := ⟨rfl, rfl, rfl, by decide +kernel, rfl, by decide +kernel, by decide +kernel⟩
theorem ok_lr {g cd : Addr} {Pt : Nat → Addr} {fdO : FuncData} (inj : Inj2 Pt) (T : Tx K mg) (KM : KitM K) (D_rearranged : DfX P w K mg base 11 "rearranged" ["layout", "moves"] (spRear K)) (D_cost : DfX P w K mg base 11 "cost" ["layout", "moves"] (spCost K)) (D_moved_level : DfX P w K mg base 11 "moved_level" ["layout", "moves"] (spLvl K))
    (D_is_rearrangement : Df P w K mg base 10 "is_rearrangement" ["layout", "value"] (spIsR K)) (D__law_is_due : DfG P w K mg base 2 "_law_is_due" ["_law_told_here", "_law_due"] spDue)
    (FO : FnP K "_law_told" "_law_told" (top 57) g fdO) (gO : mg "_law_told" = some (.ref g)) (bO : L2.Binds K fdO ["_law_call"] []) (TB : TabB base mg cd (Pt 0)) (F : FnP K "_law_list_right" "_law_list_right" (top 62) f fd) (hcd : fd.code = .ref cd) :
    FnG P w K mg base CX0 15 f fd ["_law_layout", "_law_value", "_law_due"] (spLR K Pt) := by
  refine okGc F sc__law_list_right (fun vs H Q E h => ?_) (fun A outer s H vs Q E hr h => ⟨_, PSs.nox (pss_cons (ps_set (i := 3) sc__law_list_right.nd rfl (by first | exact Or.inl rfl | exact Or.inr rfl) (pe_callB (call_reprQ hr T.sys) (by rfl) T.n_repr (by decide +kernel) (pa_cons (pv 1) pa_nil))) (pss_cons (ps_set (i := 4) sc__law_list_right.nd rfl (by first | exact Or.inl rfl | exact Or.inr rfl) (pe_lst (pa_cons (pe_lamgive (k := 12) (t := fun E => tCall (spRear K) [] E (tCons (tVar 0) (tCons (tVar 1) tNil))) (T := tabs Pt) (P := Pt 0) (c := cd) (Sg := sc__law_told) FO (by rfl) gO bO rfl (.inl rfl) (fun cdg => told_gives T KM (hr.mono (by decide))) TB hcd List.mem_cons_self (tabs_one0 inj) (hr.r.mono (by decide)) (lamS_by (sc := defScope (top 62)) (by decide +kernel)) rfl (fun _ _ _ _ _ => by rfl) (fun A2 o2 s2 H2 E2 f2 c2 hr2 => by exact pcallX D_rearranged hr2 (passX (takes_of (E := E2) rfl rfl rfl rfl)) (pa_cons (pv 0) (pa_cons (pv 1) pa_nil)))) pa_nil))) (pss_cons (ps_expr (pe_bm PySem.F.plainAttrs_list PySem.F.slot_list_append PySem.F.type_list_append mt_append (pv 4) (pa_cons (pe_lamgive (k := 12) (t := fun E => tCall (spCost K) [] E (tCons (tVar 0) (tCons (tVar 1) tNil))) (T := tabs Pt) (P := Pt 0) (c := cd) (Sg := sc__law_told) FO (by rfl) gO bO rfl (.inl rfl) (fun cdg => told_gives T KM (hr.mono (by decide))) TB hcd List.mem_cons_self (tabs_one0 inj) (hr.r.mono (by decide)) (lamS_by (sc := defScope (top 62)) (by decide +kernel)) rfl (fun _ _ _ _ _ => by rfl) (fun A2 o2 s2 H2 E2 f2 c2 hr2 => by exact pcallX D_cost hr2 (passX (takes_of (E := E2) rfl rfl rfl rfl)) (pa_cons (pv 0) (pa_cons (pv 1) pa_nil)))) pa_nil))) (pss_cons (ps_expr (pe_bm PySem.F.plainAttrs_list PySem.F.slot_list_append PySem.F.type_list_append mt_append (pv 4) (pa_cons (pe_lamgive (k := 12) (t := fun E => tCall (spLvl K) [] E (tCons (tVar 0) (tCons (tVar 1) tNil))) (T := tabs Pt) (P := Pt 0) (c := cd) (Sg := sc__law_told) FO (by rfl) gO bO rfl (.inl rfl) (fun cdg => told_gives T KM (hr.mono (by decide))) TB hcd List.mem_cons_self (tabs_one0 inj) (hr.r.mono (by decide)) (lamS_by (sc := defScope (top 62)) (by decide +kernel)) rfl (fun _ _ _ _ _ => by rfl) (fun A2 o2 s2 H2 E2 f2 c2 hr2 => by exact pcallX D_moved_level hr2 (passX (takes_of (E := E2) rfl rfl rfl rfl)) (pa_cons (pv 0) (pa_cons (pv 1) pa_nil)))) pa_nil))) (pss_cons (ps_if (pt_not (pt_val (pe_callB (cr_all rfl) (by rfl) T.n_all (by decide +kernel) (pa_cons (pe_lc (own := [("_law_one", 5)]) (g := gName 5) rfl sc__law_list_right.nd (pi_list (pv 4)) (blkOk_by (own := [("_law_one", 5)]) (N := ["_law_layout", "_law_value", "_law_due", "_law_kept", "_law_told_here", "_law_one"]) (sc := defScope (top 62)) (by decide +kernel)) (fun _ _ _ _ _ => pg_name (i := 5) sc__law_list_right.nd rfl (Or.inl rfl)) (fun _ _ _ _ _ => pts_nil) (fun _ _ _ _ _ => (pcallG D__law_is_due hr (pa_cons (pv 5) (pa_cons (pv 2) pa_nil))))) pa_nil)))) (pss_one (ps_ret pe_bl)) pss_nil) (pss_one (ps_ret (pe_and (pe_cmpR op_eq (pe_callB (call_reprQ hr T.sys) (by rfl) T.n_repr (by decide +kernel) (pa_cons (pcall D_is_rearrangement hr.r (pa_cons (pv 0) (pa_cons (pv 1) pa_nil))) pa_nil)) (pe_callB (call_reprQ hr T.sys) (by rfl) T.n_repr (by decide +kernel) (pa_cons (pe_cmpR op_isN (pv 2) pe_non (nomark _)) pa_nil)) (nomark _)) (pe_one (pe_cmpR op_eq (pe_callB (call_reprQ hr T.sys) (by rfl) T.n_repr (by decide +kernel) (pa_cons (pv 1) pa_nil)) (pv 3) (nomark _))))))))))), ?_⟩)
  · obtain ⟨y, zp, bl, dx, ps, ns, n, bs, v, d, o, due, rfl, _⟩ := h
    rfl
  · obtain ⟨y, zp, bl, dx, ps, ns, n, bs, v, d, o, due, rfl, L, b900, th, q1, q2, sm, tb, q⟩ := h
    have okN : ∀ {G : Hp} {N : VK}, (due = none → ∀ u H2, Same G H2 → N u H2) → OkR ns n bs o → ∀ u H', Same G H' → N u H' := fun {G N} h ok => h (by
      cases due with
      | none => rfl
      | some i => exact absurd ok (q2 i rfl).1)
    have okR : ∀ {G : Hp} {E : XK}, (∀ i : Nat, due = some i → Raised K "InvalidMoves" "position" (.int i) G E) → ∀ i : Nat, ¬ OkR ns n bs o → FstP ns n bs o i → Raised K "InvalidMoves" "position" (.int i) G E := fun {G E} h i no hf => by
      cases due with
      | none => exact absurd (q1 rfl) no
      | some j => rw [hf.uniq (q2 j rfl).2]; exact h j rfl
    have tq := (th H ext_refl).2
    have sl : sizeLine = 16777216 := sizeLine_eq
    refine ⟨_, rfl, _, _, rfl, tq.dq, tq.sh, Nat.le_trans tq.dp (by decide), Nat.le_trans tq.ln (by decide), ?_⟩
    refine go_nm (nx_of (σ' := [some (.ref y), some v, some (dueV due), some (.str d.shown), none, none]) rfl (go_asg ?_))
    refine told_one _ _ _ ext_refl tb (fun G1 E N sg h1 h2 => ⟨_, rfl, _, rfl, y, zp, bl, dx, ps, ns, n, bs, v, o, rfl, L.extN sg, (th G1 sg).1, b900, okN h1, okR h2⟩) (fun R0 G0 s0 x0 tb0 h0 fr0 => ⟨(by show 1 ≤ sizeLine; decide), fun M hM => ?_⟩)
    have TT0 : ToldL (tabs Pt) H (upd G0 M (.lst [.ref R0])) M due [R0] := by
      have nR : R0 ≠ M := by
        cases due with
        | none =>
          obtain ⟨u, e⟩ := h0
          exact ne_of_none e hM
        | some i => exact ne_of_none (show G0 R0 = some (.lst [.str "moves", .int (i : Nat)]) from h0) hM
      refine ⟨fun c o e z => ?_, tabs_same tb0 (same_upd hM), upd_same, fun c o e z => ne_of_none (s0 c o e z) hM, fun Q hQ => ?_⟩
      · rw [upd_ne (ne_of_none (s0 c o e z) hM)]
        exact s0 c o e z
      · rw [List.mem_singleton.mp hQ]
        exact ⟨toldM_upd h0 nR, nR⟩
    show tSeq _ _ _ _ _
    refine at_st (σ' := [some (.ref y), some v, some (dueV due), some (.str d.shown), some (.ref M), none]) rfl ?_
    generalize upd G0 M (.lst [.ref R0]) = F0 at TT0
    refine ⟨_, rfl, .inl ⟨rfl, _, SqL.of TT0.at_⟩, ?_⟩
    refine told_one _ _ _ TT0.st TT0.tb (fun G1 E N sg h1 h2 => ⟨_, rfl, _, rfl, y, zp, bl, dx, ps, ns, n, bs, v, o, rfl, L.extN sg, (th G1 sg).1, b900, okN h1, okR h2⟩) (fun R1 G1 s1 x1 tb1 h1 fr1 => ?_)
    obtain ⟨hM1, TT1⟩ := TT0.more s1 x1 tb1 h1 fr1
    refine ⟨M, _, _, rfl, rfl, hM1, (by show 1 + 1 ≤ sizeLine; decide), ?_⟩
    generalize upd G1 M _ = F1 at TT1
    refine ⟨_, rfl, .inl ⟨rfl, _, SqL.of TT1.at_⟩, ?_⟩
    refine told_one _ _ _ TT1.st TT1.tb (fun G1 E N sg h1 h2 => ⟨_, rfl, _, rfl, y, zp, bl, dx, ps, ns, n, bs, v, o, rfl, L.extN sg, (th G1 sg).1, b900, okN h1, okR h2⟩) (fun R2 G2 s2 x2 tb2 h2 fr2 => ?_)
    obtain ⟨hM2, TT2⟩ := TT1.more s2 x2 tb2 h2 fr2
    refine ⟨M, _, _, rfl, rfl, hM2, (by show 2 + 1 ≤ sizeLine; decide), ?_⟩
    generalize upd G2 M _ = F2 at TT2
    refine ⟨_, rfl, M, rfl, ⟨_, SqL.of TT2.at_⟩, fun C hC => ?_⟩
    refine lc_list (K := K) (a := M) (xs := ([R0] ++ [R1] ++ [R2]).map V.ref) (fun i G' => G' C = some (.lst ((List.replicate i true).map V.bl)) ∧ Same F2 G') ⟨upd_same, same_upd hC⟩ (fun i G' _ h => SqL.of (h.2 _ _ TT2.at_)) ?_ ?_
    · rintro i' x' G' hx' ⟨hG', sm'⟩
      obtain ⟨R, hR, rfl⟩ := ref_of hx'
      have tR := (TT2.ok R (List.mem_of_getElem? hR)).1
      have il' := (List.getElem?_eq_some_iff.mp hx').1
      have il2 : i' < 3 := il'
      refine ⟨rfl, _, rfl, _, rfl, R, due, rfl, tR.same sm', sm, fun G2 s2 => ?_⟩
      refine ⟨_, s2 _ _ hG', (by rw [List.length_map, List.length_replicate]; omega), ?_, fun c o e => ?_⟩
      · rw [upd_same, trues_more]
      · rw [upd_ne (ne_of_none e hC)]
        exact s2 _ _ (sm' c o e)
    rintro GC ⟨hC1, sC⟩
    refine ⟨C, List.replicate 3 true, rfl, SqL.of hC1, _, rfl, ifF (by rw [all_trues]; rfl) ?_⟩
    have x3 : ExtN H GC := ext_trans TT2.st (ext_same sC)
    have tb3 := tabs_same TT2.tb sC
    refine ⟨_, rfl, _, rfl, y, zp, bl, dx, ps, ns, n, bs, v, o, rfl, L.extN x3, (th GC x3).1, fun b G3 hb s3 => ?_⟩
    have tqb := tq_bl (K := K) (H := G3) b
    refine ⟨_, _, rfl, tqb.dq, tqb.sh, Nat.le_trans tqb.dp (by decide), Nat.le_trans tqb.ln (by decide), ?_⟩
    have eb : decide (dueV due = .non) = b := by
      cases due with
      | none => rw [hb.mpr (q1 rfl)]; exact decide_eq_true rfl
      | some i =>
        cases b with
        | false => exact decide_eq_false (fun z => nomatch z)
        | true => exact absurd (hb.mp rfl) (q2 i rfl).1
    refine ⟨_, rfl, rfl, ?_⟩
    rw [eb]
    refine ⟨_, _, rfl, tqb.dq, tqb.sh, Nat.le_trans tqb.dp (by decide), Nat.le_trans tqb.ln (by decide), rfl, ?_⟩
    rw [decide_eq_true rfl]
    have x4 := ext_trans x3 (ext_same s3)
    have tq3 := (th G3 x4).2
    refine ⟨true, rfl, iteT ?_⟩
    refine ⟨_, rfl, _, _, rfl, tq3.dq, tq3.sh, Nat.le_trans tq3.dp (by decide), Nat.le_trans tq3.ln (by decide), _, rfl, rfl, ?_⟩
    rw [decide_eq_true rfl]
    exact q _ x4 (tabs_same tb3 s3)
end
end K34

set_option Elab.async false
set_option linter.all false
set_option maxRecDepth 100000
set_option maxHeartbeats 800000
set_option pp.maxSteps 900
namespace K34
open PySem PySem.Spec PyProof.Rows L2 Gu Ex LamX
/-- what a list alone is told -/
structure DueL (o : Option (List Mo)) (due : Option Nat) : Prop where
  ok : due = none → OkL o
  fst : ∀ i : Nat, due = some i → FstL o i
  sm : SmP due
theorem dueL_ex {o : Option (List Mo)} (l : LenL o) : ∃ due, DueL o due := by
  cases o with
  | none => exact ⟨some 0, ⟨(fun z => nomatch z), (fun i e => (Option.some.inj e).symm), fun i e => by rw [← Option.some.inj e]; exact Nat.zero_le _⟩⟩
  | some ms =>
    have ln := l ms rfl
    by_cases h : ∀ i, i < ms.length → Gm ms i
    · exact ⟨none, ⟨(fun _ => h), (fun i e => nomatch e), (fun i e => nomatch e)⟩⟩
    · obtain ⟨i, hi⟩ := Classical.not_forall.mp h
      obtain ⟨il, gi⟩ := Classical.not_imp.mp hi
      have key : ∀ k, (∀ j, j < k → Gm ms j) ∨ ∃ i, i < k ∧ (∀ j, j < i → Gm ms j) ∧ ¬ Gm ms i := fun k => by
        induction k with
        | zero => exact .inl fun j hj => absurd hj (Nat.not_lt_zero j)
        | succ k ih =>
          rcases ih with h | ⟨i, h1, h2⟩
          · by_cases g : Gm ms k
            · refine .inl fun j hj => ?_
              rcases Nat.lt_or_ge j k with z | z
              · exact h j z
              · obtain rfl : j = k := by omega
                exact g
            · exact .inr ⟨k, Nat.lt_succ_self k, h, g⟩
          · exact .inr ⟨i, Nat.lt_succ_of_lt h1, h2⟩
      rcases key (i + 1) with h | ⟨j, h1, h2, h3⟩
      · exact absurd (h i (Nat.lt_succ_self i)) gi
      · refine ⟨some j, ⟨(fun z => nomatch z), (fun i e => ?_), fun i e => ?_⟩⟩
        · rw [← Option.some.inj e]
          exact ⟨by omega, h2, h3⟩
        · rw [← Option.some.inj e]
          omega
theorem DueL.a {o : Option (List Mo)} {due : Option Nat} {G : Hp} {Q' : VK} (D : DueL o due) (h : ∀ G', Same G G' → Q' (dueV due) G') (ok : OkL o) (G' : Hp) (s : Same G G') : Q' .non G' := by
  cases due with
  | none => exact h G' s
  | some i => exact absurd ok (D.fst i rfl).no
theorem DueL.b {o : Option (List Mo)} {due : Option Nat} {G : Hp} {Q' : VK} (D : DueL o due) (h : ∀ G', Same G G' → Q' (dueV due) G') (i : Nat) (G' : Hp) (hf : FstL o i) (s : Same G G') : Q' (.int i) G' := by
  cases due with
  | none => exact absurd (D.ok rfl) hf.no
  | some j => rw [hf.uniq (D.fst j rfl)]; exact h G' s
theorem Df_weak {P : Program} {w : World} {K : PySem.W.Frag} {mg : Str → Option Value} {base : Heap} {k : Nat} {x : Str} {ps : List Str} {sp sp' : Sp} (D : Df P w K mg base k x ps sp) (imp : ∀ vs H Q E, sp' vs H Q E → sp vs H Q E) : Df P w K mg base k x ps sp' := by
  obtain ⟨⟨fd, F, b⟩, g, kp⟩ := D
  exact ⟨⟨fd, ⟨fun vs H Q E h => F.len vs H Q E (imp _ _ _ _ h), fun A outer s H args us vs Q E hr e0 hb rv h => F.run A outer s H args us vs Q E hr e0 hb rv (imp _ _ _ _ h)⟩, b⟩, g, kp⟩
def spLP2 : Sp := fun vs H Q _ => ∃ (v : V) (o : Option (List Mo)) (due : Option Nat), vs = [v] ∧ Th H v o ∧ DueL o due ∧ ∀ H', Same H H' → Q (dueV due) H'
theorem lp2 {P : Program} {w : World} {K : PySem.W.Frag} {mg : Str → Option Value} {base : Heap} (D : Df P w K mg base 3 "_law_list_problem" ["_law_value"] spLP) : Df P w K mg base 3 "_law_list_problem" ["_law_value"] spLP2 :=
  Df_weak D fun vs H Q E ⟨v, o, due, e, th, D, h⟩ => ⟨v, o, e, th, fun ok G' s => D.a h ok G' s, fun i G' hf s => D.b h i G' hf s⟩
section
variable {P : Program} {w : World} {K : PySem.W.Frag} {mg : Str → Option Value} {base : Heap} {f : Addr} {fd : FuncData}
def spAR (K : PySem.W.Frag) (Pt : Nat → Addr) : Sp := fun vs H Q _ => ∃ (v0 v1 v2 : V) (o1 o2 : Option (List Mo)) (d1 d2 : PyData), vs = [v0, v1, v2] ∧ ThX K H v1 o1 d1 100000 ∧ ThX K H v2 o2 d2 100000 ∧ LenL o1 ∧ LenL o2 ∧ Tabs (tabs Pt) H ∧ ∀ H', ExtN H H' → Tabs (tabs Pt) H' → Q (.bl true) H'
theorem sc__law_alone_right : FnScope ["_law_rng_here", "_law_value", "_law_other", "_law_due", "_law_kept", "_law_dues", "_law_k", "_law_one", "_law_told_here"] ["_law_rng_here", "_law_value", "_law_other"] (defScope (top 63)) := ⟨rfl, rfl, rfl, by decide +kernel, rfl, by decide +kernel, by decide +kernel⟩
theorem ok_ar {g cd : Addr} {Pt : Nat → Addr} {fdO : FuncData} (inj : Inj2 Pt) (T : Tx K mg) (KM : KitM K) (D_inverse : DfX P w K mg base 5 "inverse" ["moves"] (spInv K)) (D_composed : DfX P w K mg base 5 "composed" ["first", "second"] (spComp K))
    (D__law_list_problem : Df P w K mg base 3 "_law_list_problem" ["_law_value"] spLP2) (D__law_is_due : DfG P w K mg base 2 "_law_is_due" ["_law_told_here", "_law_due"] spDue)
    (FO : FnP K "_law_told" "_law_told" (top 57) g fdO) (gO : mg "_law_told" = some (.ref g)) (bO : L2.Binds K fdO ["_law_call"] []) (TB : TabB base mg cd (Pt 1)) (F : FnP K "_law_alone_right" "_law_alone_right" (top 63) f fd) (hcd : fd.code = .ref cd) :
    FnG P w K mg base CX0 15 f fd ["_law_rng_here", "_law_value", "_law_other"] (spAR K Pt) := by
  refine okGc F sc__law_alone_right (fun vs H Q E h => ?_) (fun A outer s H vs Q E hr h => ⟨_, PSs.nox (pss_cons (ps_par (by rfl) sc__law_alone_right.nd (i := 4) (j := 5) rfl rfl (by decide) rfl rfl (pa_cons (pe_callB (call_reprQ hr T.sys) (by rfl) T.n_repr (by decide +kernel) (pa_cons (pe_lst (pa_cons (pv 1) (pa_cons (pv 2) pa_nil))) pa_nil)) (pa_cons (pe_lst (pa_cons (pcall D__law_list_problem hr.r (pa_cons (pv 1) pa_nil)) (pa_cons (pcall D__law_list_problem hr.r (pa_cons (pv 2) pa_nil)) pa_nil))) pa_nil)) (by rfl)) (pss_cons (ps_for PassesOwn.never rfl (pi_enum rfl T.n_enumerate (pa_cons (pe_lst (pa_cons (pv 1) (pa_cons (pv 2) pa_nil))) pa_nil)) (pg_tup (by rfl) (pgs_cons (pg_name (i := 6) sc__law_alone_right.nd rfl (by first | exact Or.inl rfl | exact Or.inr rfl)) (pgs_cons (pg_name (i := 7) sc__law_alone_right.nd rfl (by first | exact Or.inl rfl | exact Or.inr rfl)) pgs_nil))) (pss_cons (ps_set (i := 8) sc__law_alone_right.nd rfl (by first | exact Or.inl rfl | exact Or.inr rfl) (pe_lamgive (k := 12) (t := fun E => tCall (spInv K) [] E (tCons (tVar 7) tNil)) (T := tabs Pt) (P := Pt 1) (c := cd) (Sg := sc__law_told) FO (by rfl) gO bO rfl (.inl rfl) (fun cdg => told_gives T KM (hr.mono (by decide))) TB hcd (List.mem_cons_of_mem _ List.mem_cons_self) (tabs_one1 inj) (hr.r.mono (by decide)) (lamS_by (sc := defScope (top 63)) (by decide +kernel)) rfl (fun _ _ _ _ _ => by rfl) (fun A2 o2 s2 H2 E2 f2 c2 hr2 => by exact pcallX D_inverse hr2 (passX (takes_of (E := E2) rfl rfl rfl rfl)) (pa_cons (pv 7) pa_nil)))) (pss_one (ps_if (pt_not (pt_val (pcallG D__law_is_due hr (pa_cons (pv 8) (pa_cons (pe_ix ix_list (pv 5) (pv 6) (fun _ _ => rfl)) pa_nil))))) (pss_one (ps_ret pe_bl)) pss_nil)))) (pss_cons (ps_setLc (i := 3) (own := [("_law_one", 7)]) (g := gName 7) rfl sc__law_alone_right.nd rfl rfl (sw_true rfl rfl rfl (by decide +kernel)) (pi_list (pv 5)) (blkOk_by (own := [("_law_one", 7)]) (N := ["_law_rng_here", "_law_value", "_law_other", "_law_due", "_law_kept", "_law_dues", "_law_k", "_law_one", "_law_told_here"]) (sc := defScope (top 63)) (by decide +kernel)) (fun _ _ _ _ _ => pg_name (i := 7) sc__law_alone_right.nd rfl (Or.inl rfl)) (fun _ _ _ _ _ => (pts_one (pt_cmpR op_notN (pv 7) pe_non (nomark _)))) (fun _ _ _ _ _ => (pv 7))) (pss_cons (ps_if (PW.pt (pw_and (pt_cmpR (op_neNil hr.r.units) (pv 3) (pe_lst pa_nil) (nomark _)) (pw_and1 (pt_cmpR op_ne (pe_callB (call_reprQ hr T.sys) (by rfl) T.n_repr (by decide +kernel) (pa_cons (pe_lamgive (k := 12) (t := fun E => tCall (spComp K) [] E (tCons (tVar 1) (tCons (tVar 2) tNil))) (T := tabs Pt) (P := Pt 1) (c := cd) (Sg := sc__law_told) FO (by rfl) gO bO rfl (.inl rfl) (fun cdg => told_gives T KM (hr.mono (by decide))) TB hcd (List.mem_cons_of_mem _ List.mem_cons_self) (tabs_one1 inj) (hr.r.mono (by decide)) (lamS_by (sc := defScope (top 63)) (by decide +kernel)) rfl (fun _ _ _ _ _ => by rfl) (fun A2 o2 s2 H2 E2 f2 c2 hr2 => by exact pcallX D_composed hr2 (passX (takes_of (E := E2) rfl rfl rfl rfl)) (pa_cons (pv 1) (pa_cons (pv 2) pa_nil)))) pa_nil)) (pe_callB (call_reprQ hr T.sys) (by rfl) T.n_repr (by decide +kernel) (pa_cons (pe_lst (pa_cons pe_str (pa_cons (pe_ix ix_list (pv 3) pe_int (fun _ _ => rfl)) pa_nil))) pa_nil)) (nomark _))))) (pss_one (ps_ret pe_bl)) pss_nil) (pss_one (ps_ret (pe_cmpR op_eq (pe_callB (call_reprQ hr T.sys) (by rfl) T.n_repr (by decide +kernel) (pa_cons (pe_lst (pa_cons (pv 1) (pa_cons (pv 2) pa_nil))) pa_nil)) (pv 4) (nomark _)))))))), ?_⟩)
  · obtain ⟨v0, v1, v2, o1, o2, d1, d2, rfl, _⟩ := h
    rfl
  · obtain ⟨v0, v1, v2, o1, o2, d1, d2, rfl, th1, th2, l1, l2, tb, q⟩ := h
    have sl : sizeLine = 16777216 := sizeLine_eq
    obtain ⟨u1, D1⟩ := dueL_ex l1
    obtain ⟨u2, D2⟩ := dueL_ex l2
    refine ⟨_, rfl, _, rfl, (by show 2 ≤ sizeLine; decide), fun A1 hA1 => ?_⟩
    have sA := same_upd (o := .lst [v1, v2]) hA1
    have xA := ext_same sA
    have kA : (upd H A1 (.lst [v1, v2])) A1 = some (.lst [v1, v2]) := upd_same
    generalize upd H A1 (.lst [v1, v2]) = G1 at sA xA kA
    have big : ∀ {G : Hp} {a : Addr}, ExtN H G → G a = some (.lst [v1, v2]) → Tq K G (.ref a) (.list [d1, d2]) 7 300000 := fun {G a} x e =>
      ((tqa_cons (th1 G x).2 (tqa_cons (th2 G x).2 tqa_nil)).lst e).mono (by decide) (by show 2 * (100000 + 2) + 3 ≤ 300000; decide)
    have tq1 := big xA kA
    refine ⟨_, _, rfl, tq1.dq, tq1.sh, Nat.le_trans tq1.dp (by decide), Nat.le_trans tq1.ln (by decide), ?_⟩
    refine ⟨_, rfl, v1, o1, u1, rfl, (th1 _ xA).1, D1, fun G2 s2 => ?_⟩
    refine ⟨_, rfl, v2, o2, u2, rfl, (th2 _ (ext_trans xA (ext_same s2))).1, D2, fun G3 s3 => ?_⟩
    have x3 := ext_trans xA (ext_same (s2.trans s3))
    refine ⟨(by show 2 ≤ sizeLine; decide), fun DL hDL => ?_⟩
    have sD := same_upd (o := .lst [dueV u1, dueV u2]) hDL
    have kD : (upd G3 DL (.lst [dueV u1, dueV u2])) DL = some (.lst [dueV u1, dueV u2]) := upd_same
    have xD := ext_trans x3 (ext_same sD)
    have tbD := tabs_same tb ((sA.trans (s2.trans s3)).trans sD)
    generalize upd G3 DL (.lst [dueV u1, dueV u2]) = G4 at sD kD xD tbD
    refine ⟨_, _, rfl, ?_⟩
    refine at_st (σ' := [some v0, some v1, some v2, none, some (.str (PyData.list [d1, d2]).shown), some (.ref DL), none, none, none]) rfl ?_
    refine ⟨_, rfl, _, rfl, (by show 2 ≤ sizeLine; decide), fun W hW => ?_⟩
    have sW := same_upd (o := .lst [v1, v2]) hW
    have kW : (upd G4 W (.lst [v1, v2])) W = some (.lst [v1, v2]) := upd_same
    have kD5 := sW _ _ kD
    have x5 := ext_trans xD (ext_same sW)
    have tb5 := tabs_same tbD sW
    generalize upd G4 W (.lst [v1, v2]) = G5 at sW kW kD5 x5 tb5
    have rowD : ∀ {G : Hp}, ExtN G5 G → G DL = some (.lst [dueV u1, dueV u2]) := fun {G} x => x _ _ kD5 (fun ps z => by cases z)
    refine ⟨W, _, rfl, SqL.of kW, ?_⟩
    refine for_it (walk_enum (xs := [v1, v2])) (fun i σ G => (∃ x6 x7 x8, σ = [some v0, some v1, some v2, none, some (.str (PyData.list [d1, d2]).shown), some (.ref DL), x6, x7, x8]) ∧ ExtN G5 G ∧ Tabs (tabs Pt) G)
      ⟨⟨none, none, none, rfl⟩, ext_refl, tb5⟩ (fun i σ G _ h => SqL.of (h.2.1 _ _ kW (fun ps z => by cases z))) ?_ ?_
    · rintro i x σ GA GB hi ⟨⟨x6, x7, x8, rfl⟩, xG, tG⟩ ⟨T', y1, y2, rfl, hT, rfl, e1, e2⟩
      cases e1
      have hx : [v1, v2][i]? = some y2 := e2
      have hi2 : i < 2 := hi
      obtain ⟨o, d, due, thx, len, D, hdue⟩ : ∃ o d due, ThX K H y2 o d 100000 ∧ LenL o ∧ DueL o due ∧ atI [dueV u1, dueV u2] (i : Int) = some (dueV due) := by
        have : i = 0 ∨ i = 1 := by omega
        rcases this with rfl | rfl
        · cases hx
          exact ⟨o1, d1, u1, th1, l1, D1, rfl⟩
        · cases hx
          exact ⟨o2, d2, u2, th2, l2, D2, rfl⟩
      have sT := same_upd (o := .tup [.int (i : Nat), y2]) hT
      refine ⟨T', _, rfl, .inl (.inl upd_same), rfl, _, _, rfl, _, _, rfl, rfl, ?_⟩
      have xT := ext_trans xG (ext_same sT)
      have tT := tabs_same tG sT
      generalize (upd GA T' (.tup [.int (i : Nat), y2])) = G at *
      show tSeq _ _ _ _ _
      refine at_st (σ' := [some v0, some v1, some v2, none, some (.str (PyData.list [d1, d2]).shown), some (.ref DL), some (.int (i : Nat)), some y2, x8]) rfl (go_asg ?_)
      refine told_one (due := due) _ _ _ (ext_trans x5 xT) tT (fun G1 E N sg h1 h2 => ⟨_, rfl, y2, o, rfl, (thx G1 sg).1, len, fun ok => h1 ?_, fun j hf => h2 j ?_⟩) (fun R0 G0 s0 x0 tb0 h0 fr0 => ?_)
      · cases due with
        | none => rfl
        | some j => exact absurd ok (D.fst j rfl).no
      · cases due with
        | none => exact absurd (D.ok rfl) hf.no
        | some k => rw [hf.uniq (D.fst k rfl)]
      · have x0' := ext_trans xT x0
        refine ⟨_, rfl, _, rfl, _, rfl, DL, _, _, _, rfl, rfl, SqL.of (rowD x0'), hdue, R0, due, rfl, h0, D.sm, fun G7 s7 => ⟨_, rfl, iteF ?_⟩⟩
        exact ⟨⟨_, _, _, rfl⟩, ext_trans x0' (ext_same s7), tabs_same tb0 s7⟩
    · rintro σ G ⟨⟨x6, x7, x8, rfl⟩, xG, tG⟩
      have kDG := rowD xG
      have xHG := ext_trans x5 xG
      refine ⟨_, rfl, DL, rfl, ⟨_, SqL.of kDG⟩, fun C hC => ?_⟩
      refine lc_list (K := K) (a := DL) (xs := [dueV u1, dueV u2]) (fun i G' => G' C = some (.lst (([dueV u1, dueV u2].take i).filter fun v => decide (v ≠ .non))) ∧ Same G G') ⟨upd_same, same_upd hC⟩ (fun i G' _ h => SqL.of (h.2 _ _ kDG)) ?_ ?_
      · rintro i x G' hx ⟨hG', s'⟩
        have il := (List.getElem?_eq_some_iff.mp hx).1
        have il2 : i < 2 := il
        have fa := filter_atG (fun v => decide (v ≠ V.non)) hx
        have fl := List.length_filter_le (fun v => decide (v ≠ V.non)) ([dueV u1, dueV u2].take i)
        rw [List.length_take] at fl
        refine ⟨rfl, _, rfl, rfl, _, rfl, ?_⟩
        by_cases hq : x = .non
        · refine ifF (by rw [decide_eq_true hq]; rfl) ⟨?_, s'⟩
          rw [fa, if_neg (by rw [decide_eq_true_eq]; exact fun z => z hq), List.append_nil]
          exact hG'
        · refine ifT (by rw [decide_eq_false hq]; rfl) ⟨_, rfl, _, hG', by omega, ?_, fun c o e => ?_⟩
          · rw [fa, if_pos (decide_eq_true hq), upd_same]
          · rw [upd_ne (ne_of_none e hC)]
            exact s' c o e
      rintro GC ⟨hC1, sC⟩
      have hC2 : GC C = some (.lst ([dueV u1, dueV u2].filter fun v => decide (v ≠ .non))) := hC1
      have xC := ext_trans xHG (ext_same sC)
      have tC := tabs_same tG sC
      refine go_nm (nx_of (σ' := [some v0, some v1, some v2, some (.ref C), some (.str (PyData.list [d1, d2]).shown), some (.ref DL), x6, x7, x8]) rfl ?_)
      refine seq_ifH (fun σ' H' => σ' = [some v0, some v1, some v2, some (.ref C), some (.str (PyData.list [d1, d2]).shown), some (.ref DL), x6, x7, x8] ∧ ExtN H H' ∧ Tabs (tabs Pt) H') (fun E0 tail => ?_) ?_
      · refine ⟨_, rfl, (by show 0 ≤ sizeLine; decide), fun Z hZ => ?_⟩
        have sZ := same_upd (o := .lst []) hZ
        have hZ1 : (upd GC Z (.lst [])) Z = some (.lst []) := upd_same
        have hC3 := sZ _ _ hC2
        have xZ := ext_trans xC (ext_same sZ)
        have tZ := tabs_same tC sZ
        generalize upd GC Z (.lst []) = GZ at sZ hZ1 hC3 xZ tZ
        refine ⟨C, Z, _, rfl, rfl, SqL.of hC3, SqL.of hZ1, _, rfl, ?_⟩
        by_cases none2 : u1 = none ∧ u2 = none
        · obtain ⟨rfl, rfl⟩ := none2
          refine ifF rfl ?_
          exact tail _ _ ⟨rfl, xZ, tZ⟩
        · obtain ⟨i0, rest, efl, hno, hone⟩ : ∃ (i0 : Nat) (rest : List V), ([dueV u1, dueV u2].filter fun v => decide (v ≠ .non)) = .int i0 :: rest ∧ (¬ (OkL o1 ∧ OkL o2) ∧ ∀ i : Nat, (FstL o1 i ∨ (OkL o1 ∧ FstL o2 i)) → i = i0) ∧ i0 ≤ 1000 := by
            cases u1 with
            | some i =>
              refine ⟨i, _, rfl, ⟨fun z => (D1.fst i rfl).no z.1, fun j hj => ?_⟩, D1.sm i rfl⟩
              rcases hj with hj | ⟨hj, _⟩
              · exact hj.uniq (D1.fst i rfl)
              · exact absurd hj (D1.fst i rfl).no
            | none =>
              cases u2 with
              | none => exact absurd ⟨rfl, rfl⟩ none2
              | some i =>
                refine ⟨i, [], rfl, ⟨fun z => (D2.fst i rfl).no z.2, fun j hj => ?_⟩, D2.sm i rfl⟩
                rcases hj with hj | ⟨_, hj⟩
                · exact absurd (D1.ok rfl) hj.no
                · exact hj.uniq (D2.fst i rfl)
          rw [efl] at hC3 ⊢
          refine ifT rfl ?_
          refine told_one (due := some i0) _ _ _ xZ tZ (fun G1 E N sg h1 h2 => ⟨_, rfl, _, rfl, v1, v2, o1, o2, rfl, (th1 G1 sg).1, (th2 G1 sg).1, l1, l2, hno.1, fun i hi => h2 i (by rw [hno.2 i hi])⟩) (fun R0 G0 s0 x0 tb0 h0 fr0 => ?_)
          have e0 : G0 R0 = some (.lst [.str "moves", .int (i0 : Nat)]) := h0
          have tq := tq_moves (K := K) e0 hone
          refine ⟨_, _, rfl, tq.dq, tq.sh, Nat.le_trans tq.dp (by decide), Nat.le_trans tq.ln (by decide), ?_⟩
          have hC4 := x0 _ _ hC3 (fun ps z => by cases z)
          refine ⟨_, rfl, C, _, _, _, rfl, rfl, SqL.of hC4, atI_nat (j := 0) rfl, (by show 2 ≤ sizeLine; decide), fun B hB => ?_⟩
          have sB := same_upd (o := .lst [.str "moves", .int (i0 : Nat)]) hB
          have tq2 := tq_moves (K := K) (H := upd G0 B (.lst [.str "moves", .int (i0 : Nat)])) (R := B) (i := i0) upd_same hone
          refine ⟨_, _, rfl, tq2.dq, tq2.sh, Nat.le_trans tq2.dp (by decide), Nat.le_trans tq2.ln (by decide), rfl, _, rfl, ifF (by rw [decide_eq_true rfl]; rfl) ?_⟩
          exact tail _ _ ⟨rfl, ext_trans s0 (ext_same sB), tabs_same tb0 sB⟩
      · rintro σ' G6 ⟨rfl, x6', t6'⟩
        refine ⟨_, rfl, _, rfl, (by show 2 ≤ sizeLine; decide), fun A2 hA2 => ?_⟩
        have s2' := same_upd (o := .lst [v1, v2]) hA2
        have tqf := big (a := A2) (ext_trans x6' (ext_same s2')) upd_same
        refine ⟨_, _, rfl, tqf.dq, tqf.sh, Nat.le_trans tqf.dp (by decide), Nat.le_trans tqf.ln (by decide), _, rfl, rfl, ?_⟩
        rw [decide_eq_true rfl]
        exact q _ (ext_trans x6' (ext_same s2')) (tabs_same t6' s2')
end
end K34

set_option Elab.async false
set_option linter.all false
set_option maxRecDepth 100000
set_option maxHeartbeats 1600000
set_option pp.maxSteps 1500
namespace K34
open PySem PySem.Spec PyProof.Rows L2 Gu Ex
theorem iteW {c : Prop} [Decidable c] {A B : Prop} (h1 : c → A) (h2 : ¬ c → B) : if c then A else B := by
  by_cases h : c
  · rw [if_pos h]
    exact h1 h
  · rw [if_neg h]
    exact h2 h
/-- a pair of numbers below the greatest length -/
def Pr1 (H : Hp) (v : V) : Prop := ∃ (p : Addr) (a b : Int), v = .ref p ∧ H p = some (.tup [.int a, .int b]) ∧ (0 ≤ a ∧ a ≤ 1000000000000) ∧ 0 ≤ b ∧ b ≤ 1000000000000
theorem Pr1.mono {H H' : Hp} {v : V} (h : Pr1 H v) (s : ∀ p xs, H p = some (.tup xs) → H' p = some (.tup xs)) : Pr1 H' v := by
  obtain ⟨p, a, b, e, hp, x⟩ := h
  exact ⟨p, a, b, e, s _ _ hp, x⟩
theorem els_pr {K : PySem.W.Frag} {r : Addr} {H : Hp} (hR : Rng H r) : ∀ {xs : List V}, (∀ v ∈ xs, Pr1 H v) → ∃ es : List (V × Mo × PyData), es.map (·.1) = xs ∧ Els K r H es
  | [], _ => ⟨[], rfl, Els.nil⟩
  | v :: vs, h => by
    obtain ⟨es, e1, e2⟩ := els_pr (K := K) hR fun v hv => h v (List.mem_cons_of_mem _ hv)
    obtain ⟨p, a, b, rfl, hp, x1, x2⟩ := h v List.mem_cons_self
    have b39 : (10 : Int) ^ 39 = 1000000000000000000000000000000000000000 := by decide
    exact ⟨(.ref p, some (a, b), .tuple [.int a, .int b]) :: es, by rw [List.map_cons, e1], Els.cons (el_mv hR hp ⟨⟨by omega, by omega⟩, by omega, by omega⟩) e2⟩
section
variable {P : Program} {w : World} {K : PySem.W.Frag} {mg : Str → Option Value} {base : Heap} {f : Addr} {fd : FuncData}
def spInto (K : PySem.W.Frag) : Sp := fun vs H Q _ => ∃ (r s a l : Addr) (ns : List Int) (n : Int) (qs : List Addr) (bs : List Blk) (xs : List V), vs = [.ref r, .ref s, .ref a, .ref l] ∧ Rng H r ∧ Lb ns n H s a qs bs ∧ s ≠ r ∧ H l = some (.lst xs) ∧ l ≠ r ∧ (∀ v ∈ xs, Pr1 H v) ∧ xs.length ≤ 30 ∧
  ∀ l' (es : List (V × Mo × PyData)) H', Stp r H H' → l' ≠ r → H' l' = some (.lst (es.map (·.1))) → Els K r H' es → es.length ≤ 40 → Q (.ref l') H'
theorem sc__law_into_one : FnScope ["_law_rng_here", "_law_sizes_here", "_law_blocks_here", "_law_pile", "_law_goal", "_law_loose", "_law_olds", "_law_larger", "_law_result", "_law_address", "_law_level", "_law_is_pinned", "_law_place_here", "_law_block", "_law_row"] ["_law_rng_here", "_law_sizes_here", "_law_blocks_here", "_law_pile"] (defScope (top 61)) := ⟨rfl, rfl, rfl, by decide +kernel, rfl, by decide +kernel, by decide +kernel⟩
theorem ok_into (T : Tx K mg) (D__law_draw : Df P w K mg base 1 "_law_draw" ["_law_rng_here", "_law_many"] spDraw) (D__law_choice : Df P w K mg base 2 "_law_choice" ["_law_rng_here", "_law_options"] spChoice) (D__law_shuffled : Df P w K mg base 2 "_law_shuffled" ["_law_rng_here", "_law_values"] spShuf)
    (F : FnP K "_law_into_one" "_law_into_one" (top 61) f fd) : FnOk P w K mg base CX0 3 f fd ["_law_rng_here", "_law_sizes_here", "_law_blocks_here", "_law_pile"] (spInto K) := by
  refine F.ok sc__law_into_one (fun vs H Q E h => ?_) (fun cdv A outer s H vs Q E hr h => ⟨_, PSs.nox (pss_cons (ps_par (by rfl) sc__law_into_one.nd (i := 7) (j := 8) rfl rfl (by decide) rfl rfl (pa_cons (pe_lc (own := [("_law_block", 13)]) (g := gName 13) rfl sc__law_into_one.nd (pi_list (pv 2)) (blkOk_by (own := [("_law_block", 13)]) (N := ["_law_rng_here", "_law_sizes_here", "_law_blocks_here", "_law_pile", "_law_goal", "_law_loose", "_law_olds", "_law_larger", "_law_result", "_law_address", "_law_level", "_law_is_pinned", "_law_place_here", "_law_block", "_law_row"]) (sc := defScope (top 61)) (by decide +kernel)) (fun _ _ _ _ _ => pg_name (i := 13) sc__law_into_one.nd rfl (Or.inl rfl)) (fun _ _ _ _ _ => (pts_one (pt_cmpR op_gt (pe_ix (r := rIxT K) ix_tup (pv 13) pe_int (fun _ _ => rfl)) pe_int (nomark _)))) (fun _ _ _ _ _ => (pv 13))) (pa_cons (pe_lst pa_nil) pa_nil)) (by rfl)) (pss_cons (ps_if (pt_cmpR (op_eqNil hr.units) (pv 7) (pe_lst pa_nil) (nomark _)) (pss_one (ps_ret (pv 3))) pss_nil) (pss_cons (ps_set (i := 4) sc__law_into_one.nd rfl (by first | exact Or.inl rfl | exact Or.inr rfl) (pcall D__law_choice hr (pa_cons (pv 0) (pa_cons (pv 7) pa_nil)))) (pss_cons (ps_setLc (i := 5) (own := [("_law_block", 13)]) (g := gName 13) rfl sc__law_into_one.nd rfl rfl (sw_true rfl rfl rfl (by decide +kernel)) (pi_list (pv 2)) (blkOk_by (own := [("_law_block", 13)]) (N := ["_law_rng_here", "_law_sizes_here", "_law_blocks_here", "_law_pile", "_law_goal", "_law_loose", "_law_olds", "_law_larger", "_law_result", "_law_address", "_law_level", "_law_is_pinned", "_law_place_here", "_law_block", "_law_row"]) (sc := defScope (top 61)) (by decide +kernel)) (fun _ _ _ _ _ => pg_name (i := 13) sc__law_into_one.nd rfl (Or.inl rfl)) (fun _ _ _ _ _ => (pts_one (PW.pt (pw_and (pt_not (pt_val (pe_ix (r := rIxT K) ix_tup (pv 13) pe_int (fun _ _ => rfl)))) (pw_and1 (pt_cmpR op_lt (pe_ix (r := rIxT K) ix_tup (pv 13) pe_int (fun _ _ => rfl)) (pe_ix (r := rIxT K) ix_tup (pv 4) pe_int (fun _ _ => rfl)) (nomark _))))))) (fun _ _ _ _ _ => (pv 13))) (pss_cons (ps_for PassesOwn.never rfl (pi_list (pe_slice sl_list (pcall D__law_shuffled hr (pa_cons (pv 0) (pa_cons (pv 5) pa_nil))) po_none (po_some pe_int))) (pg_tup (by rfl) (pgs_cons (pg_name (i := 9) sc__law_into_one.nd rfl (by first | exact Or.inl rfl | exact Or.inr rfl)) (pgs_cons (pg_name (i := 10) sc__law_into_one.nd rfl (by first | exact Or.inl rfl | exact Or.inr rfl)) (pgs_cons (pg_name (i := 11) sc__law_into_one.nd rfl (by first | exact Or.inl rfl | exact Or.inr rfl)) pgs_nil)))) (pss_cons (ps_set (i := 12) sc__law_into_one.nd rfl (by first | exact Or.inl rfl | exact Or.inr rfl) (pe_op op_add (pe_ix (r := rIxT K) ix_tup (pv 4) pe_int (fun _ _ => rfl)) (pe_op op_mul (pcall D__law_draw hr (pa_cons (pv 0) (pa_cons (pe_op op_fdivW (pe_ix ix_list (pv 1) (pe_ix (r := rIxT K) ix_tup (pv 4) pe_int (fun _ _ => rfl)) (fun _ _ => rfl)) (pe_ix ix_list (pv 1) (pv 10) (fun _ _ => rfl))) pa_nil))) (pe_ix ix_list (pv 1) (pv 10) (fun _ _ => rfl))))) (pss_one (ps_if (pt_cmpR op_ne (pv 12) (pv 9) (nomark _)) (pss_one (ps_expr (pe_bm PySem.F.plainAttrs_list PySem.F.slot_list_append PySem.F.type_list_append mt_append (pv 8) (pa_cons (pe_tup (pa_cons (pv 9) (pa_cons (pv 12) pa_nil))) pa_nil)))) pss_nil)))) (pss_cons (ps_set (i := 6) sc__law_into_one.nd rfl (by first | exact Or.inl rfl | exact Or.inr rfl) (pe_lc (own := [("_law_row", 14)]) (g := gName 14) rfl sc__law_into_one.nd (pi_list (pv 8)) (blkOk_by (own := [("_law_row", 14)]) (N := ["_law_rng_here", "_law_sizes_here", "_law_blocks_here", "_law_pile", "_law_goal", "_law_loose", "_law_olds", "_law_larger", "_law_result", "_law_address", "_law_level", "_law_is_pinned", "_law_place_here", "_law_block", "_law_row"]) (sc := defScope (top 61)) (by decide +kernel)) (fun _ _ _ _ _ => pg_name (i := 14) sc__law_into_one.nd rfl (Or.inl rfl)) (fun _ _ _ _ _ => pts_nil) (fun _ _ _ _ _ => (pe_ix (r := rIxT K) ix_tup (pv 14) pe_int (fun _ _ => rfl))))) (pss_one (ps_ret (pcall D__law_shuffled hr (pa_cons (pv 0) (pa_cons (pe_op op_cat (pv 8) (pe_slice sl_list (pe_lc (own := [("_law_row", 14)]) (g := gName 14) rfl sc__law_into_one.nd (pi_list (pv 3)) (blkOk_by (own := [("_law_row", 14)]) (N := ["_law_rng_here", "_law_sizes_here", "_law_blocks_here", "_law_pile", "_law_goal", "_law_loose", "_law_olds", "_law_larger", "_law_result", "_law_address", "_law_level", "_law_is_pinned", "_law_place_here", "_law_block", "_law_row"]) (sc := defScope (top 61)) (by decide +kernel)) (fun _ _ _ _ _ => pg_name (i := 14) sc__law_into_one.nd rfl (Or.inl rfl)) (fun _ _ _ _ _ => (pts_one (pt_cmpR (r := rIn K true) op_notIn_seq (pe_ix (r := rIxT K) ix_tup (pv 14) pe_int (fun _ _ => rfl)) (pv 6) rfl))) (fun _ _ _ _ _ => (pv 14))) po_none (po_some (pcall D__law_draw hr (pa_cons (pv 0) (pa_cons pe_int pa_nil)))))) pa_nil))))))))))), ?_⟩)
  · obtain ⟨r, s, a, l, ns, n, qs, bs, xs, rfl, _⟩ := h
    rfl
  · obtain ⟨r, s, a, l, ns, n, qs, bs, xs, rfl, hR, B, sr, hl, lr, px, l30, q⟩ := h
    have sl : sizeLine = 16777216 := sizeLine_eq
    have big : (10 : Int) ^ 40 = 10000000000000000000000000000000000000000 := by decide
    have pl := B.rf.len
    have bl := B.ln
    have n1 := B.n1
    have n2 := B.n2
    have wf := B.wf
    have gd := B.gd
    refine ⟨_, rfl, a, rfl, ⟨_, SqL.of B.ha⟩, fun D hD => ?_⟩
    refine lc_list (K := K) (a := a) (xs := qs.map V.ref) (fun i G => ∃ ps', G D = some (.lst (ps'.map V.ref)) ∧ Refs blkV G ps' ((bs.take i).filter fun b => decide (0 < b.2.1)) ∧ Same H G) ⟨[], upd_same, .nil, same_upd hD⟩ (fun i G _ ⟨_, _, _, sm⟩ => SqL.of (sm _ _ B.ha)) ?_ ?_
    · rintro i x G hx ⟨ps', hG, rf', sm⟩
      obtain ⟨p, hp, rfl⟩ := ref_of hx
      obtain ⟨b, hb, hT⟩ := (B.rf.same sm).get hp
      have hT' : G p = some (.tup [.int b.1, .int (b.2.1 : Nat), .bl b.2.2]) := hT
      have il := (List.getElem?_eq_some_iff.mp hb).1
      have fa := filter_at (fun b => decide (0 < b.2.1)) hb
      have fl := List.length_filter_le (fun b : Blk => decide (0 < b.2.1)) (bs.take i)
      rw [List.length_take] at fl
      have ql := rf'.len
      refine ⟨rfl, _, rfl, p, _, _, _, rfl, rfl, .inl (.inl hT'), rfl, _, _, rfl, rfl, _, rfl, ?_⟩
      by_cases hq : 0 < b.2.1
      · rw [decide_eq_true hq] at fa
        refine ifT (decide_eq_true (by omega)) ⟨_, rfl, _, hG, (by rw [List.length_map]; omega), ps' ++ [p], by rw [upd_same, List.map_append]; rfl, ?_, fun c o e => ?_⟩
        · rw [fa]
          refine ((rf'.app (Refs.one hT)).mono fun c zs ec => ?_)
          rw [upd_ne (fun z => by rw [z, hG] at ec; cases ec)]
          exact ec
        · rw [upd_ne (ne_of_none e hD)]
          exact sm c o e
      · rw [decide_eq_false hq] at fa
        refine ifF (decide_eq_false (by omega)) ⟨ps', hG, ?_, sm⟩
        rw [fa]
        simpa using rf'
    rintro G1 ⟨ps1, hG1, rf1, s1⟩
    rw [List.length_map, pl, List.take_length] at rf1
    have t1 := Stp.same hR s1
    have nD := (hR.ne hD).symm
    have fl1 := List.length_filter_le (fun b : Blk => decide (0 < b.2.1)) bs
    have l1 := rf1.len
    refine ⟨(by show 0 ≤ sizeLine; decide), fun F hF => ?_⟩
    have sF := same_upd (o := .lst []) hF
    have hF1 : (upd G1 F (.lst [])) F = some (.lst []) := upd_same
    have nFr : F ≠ r := (t1.1.ne hF).symm
    have fF := t1.free hF
    have hG1' := sF _ _ hG1
    have rf1' := rf1.same sF
    have s12 := s1.trans sF
    generalize upd G1 F (.lst []) = G2 at sF hF1 hG1' rf1' s12
    have t2 := Stp.same hR s12
    refine ⟨_, _, rfl, ?_⟩
    refine ⟨_, rfl, (by show 0 ≤ sizeLine; decide), fun Z hZ => ?_⟩
    have sZ := same_upd (o := .lst []) hZ
    have hZ1 : (upd G2 Z (.lst [])) Z = some (.lst []) := upd_same
    have hD3 := sZ _ _ hG1'
    have hF3 := sZ _ _ hF1
    have rf3 := rf1'.same sZ
    have s13 := s12.trans sZ
    generalize upd G2 Z (.lst []) = G3 at sZ hZ1 hD3 hF3 rf3 s13
    have t3 := Stp.same hR s13
    refine ⟨D, Z, _, rfl, rfl, SqL.of hD3, SqL.of hZ1, _, rfl, ?_⟩
    by_cases m0 : (ps1.map V.ref).length = 0
    · refine ifT (decide_eq_true m0) ⟨_, rfl, ?_⟩
      obtain ⟨es, e1, e2⟩ := els_pr (K := K) t3.1 (xs := xs) fun v hv => (px v hv).mono fun p zs e => s13 _ _ e
      have el := congrArg List.length e1
      rw [List.length_map] at el
      exact q l es G3 t3 lr (by rw [e1]; exact s13 _ _ hl) e2 (by omega)
    · refine ifF (decide_eq_false m0) ?_
      rw [List.length_map] at m0
      refine ⟨_, rfl, _, rfl, r, D, _, rfl, t3.1, hD3, nD, by rw [List.length_map]; omega, by rw [List.length_map]; omega, fun v G4 hv t4 => ?_⟩
      obtain ⟨gp, hgp, rfl⟩ := List.mem_map.mp hv
      obtain ⟨j, hj⟩ := List.mem_iff_getElem?.mp hgp
      obtain ⟨go, hgo, hgT⟩ := rf3.get hj
      obtain ⟨gom, gol⟩ := List.mem_filter.mp (List.mem_of_getElem? hgo)
      have gk := (wf.ok go gom)
      have t14 := t3.trans t4
      have B4 := B.step hR sr t14
      have hgT4 : G4 gp = some (.tup [.int go.1, .int (go.2.1 : Nat), .bl go.2.2]) := t4.2 gp _ (t3.1.tup hgT) hgT
      have hF4 := t4.2 _ _ nFr hF3
      have nr4 := nFr
      refine go_nm (nx_of (σ' := [some (.ref r), some (.ref s), some (.ref a), some (.ref l), some (.ref gp), none, none, some (.ref D), some (.ref F), none, none, none, none, none, none]) rfl ?_)
      refine ⟨_, rfl, a, rfl, ⟨_, SqL.of B4.ha⟩, fun D2 hD2 => ?_⟩
      refine lc_list (K := K) (a := a) (xs := qs.map V.ref) (fun i G => ∃ ps', G D2 = some (.lst (ps'.map V.ref)) ∧ Refs blkV G ps' ((bs.take i).filter fun b => !b.2.2 && decide (b.2.1 < go.2.1)) ∧ Same G4 G) ⟨[], upd_same, .nil, same_upd hD2⟩ (fun i G _ ⟨_, _, _, sm⟩ => SqL.of (sm _ _ B4.ha)) ?_ ?_
      · rintro i x G hx ⟨ps', hG, rf', sm⟩
        obtain ⟨p, hp, rfl⟩ := ref_of hx
        obtain ⟨b, hb, hT⟩ := (B4.rf.same sm).get hp
        have hT' : G p = some (.tup [.int b.1, .int (b.2.1 : Nat), .bl b.2.2]) := hT
        have hgG := sm _ _ hgT4
        have il := (List.getElem?_eq_some_iff.mp hb).1
        have fa := filter_at (fun b => !b.2.2 && decide (b.2.1 < go.2.1)) hb
        have fl := List.length_filter_le (fun b : Blk => !b.2.2 && decide (b.2.1 < go.2.1)) (bs.take i)
        rw [List.length_take] at fl
        have ql := rf'.len
        have no : (!b.2.2 && decide (b.2.1 < go.2.1)) = false → (fun i G => ∃ ps', G D2 = some (.lst (ps'.map V.ref)) ∧ Refs blkV G ps' ((bs.take i).filter fun b => !b.2.2 && decide (b.2.1 < go.2.1)) ∧ Same G4 G) (i + 1) G := fun e => ⟨ps', hG, by rw [fa, e]; simpa using rf', sm⟩
        refine ⟨rfl, _, rfl, p, _, _, _, rfl, rfl, .inl (.inl hT'), rfl, _, rfl, ?_⟩
        cases hq : b.2.2 with
        | true => exact iteF (no (by rw [hq]; rfl))
        | false =>
          refine iteT ?_
          refine ⟨_, rfl, p, _, _, _, rfl, rfl, .inl (.inl hT'), rfl, _, rfl, gp, _, _, _, rfl, rfl, .inl (.inl hgG), rfl, _, _, rfl, rfl, _, rfl, ?_⟩
          by_cases lv : b.2.1 < go.2.1
          · rw [hq, decide_eq_true lv] at fa
            refine ifT (decide_eq_true (by omega)) ⟨_, rfl, _, hG, (by rw [List.length_map]; omega), ps' ++ [p], by rw [upd_same, List.map_append]; rfl, ?_, fun c o e => ?_⟩
            · rw [fa]
              refine ((rf'.app (Refs.one hT)).mono fun c zs ec => ?_)
              rw [upd_ne (fun z => by rw [z, hG] at ec; cases ec)]
              exact ec
            · rw [upd_ne (ne_of_none e hD2)]
              exact sm c o e
          · exact ifF (decide_eq_false (by omega)) (no (by rw [hq, decide_eq_false lv]; rfl))
      rintro G5 ⟨pn, hN5, rfN5, s5⟩
      rw [List.length_map, pl, List.take_length] at rfN5
      have t5 := t14.trans (Stp.same t14.1 s5)
      have nD2 : D2 ≠ r := (t14.1.ne hD2).symm
      have lenN := List.length_filter_le (fun b : Blk => !b.2.2 && decide (b.2.1 < go.2.1)) bs
      have pnl := rfN5.len
      have B5 := B.step hR sr t5
      have hgT5 := s5 _ _ hgT4
      have hF5 := s5 _ _ hF4
      refine go_nm (nx_of (σ' := [some (.ref r), some (.ref s), some (.ref a), some (.ref l), some (.ref gp), some (.ref D2), none, some (.ref D), some (.ref F), none, none, none, none, none, none]) rfl ?_)
      refine ⟨_, rfl, _, rfl, r, D2, _, rfl, t5.1, hN5, nD2, (by rw [List.length_map]; omega), fun l2 ys G6 hl2 t6 hG6 pm => ?_⟩
      have rfN6 : Refs blkV G6 pn _ := rfN5.mono fun p xs e => t6.2 p _ (t5.1.tup e) e
      obtain ⟨qs2, cs2, rfl, rf2, pm2⟩ := refs_pm rfN6 pm
      have len2 := pm2.length_eq
      have t56 := t5.trans t6
      have nl2 : l2 ≠ r := (t5.1.ne hl2).symm
      refine ⟨_, rfl, l2, _, rfl, SqL.of hG6, fun M hM => ?_⟩
      obtain ⟨j1, j2, ecut⟩ : ∃ j1 j2, cutV (qs2.map V.ref) none (some 3) = ((qs2.drop j1).take j2).map V.ref := ⟨_, _, cut_map ..⟩
      have sM := same_upd (o := .lst (cutV (qs2.map V.ref) none (some 3))) hM
      have hM7 : (upd G6 M (.lst (cutV (qs2.map V.ref) none (some 3)))) M = some (.lst (((qs2.drop j1).take j2).map V.ref)) := by rw [upd_same, ecut]
      have rfM : Refs blkV (upd G6 M (.lst (cutV (qs2.map V.ref) none (some 3)))) ((qs2.drop j1).take j2) ((cs2.drop j1).take j2) := ((rf2.drop j1).take j2).same sM
      have inU : ∀ c ∈ (cs2.drop j1).take j2, c ∈ bs ∧ c.2.1 < go.2.1 := fun c hc => by
        obtain ⟨h1, h2⟩ := List.mem_filter.mp (pm2.mem_iff.mp (List.mem_of_mem_drop (List.mem_of_mem_take hc)))
        rw [Bool.and_eq_true] at h2
        exact ⟨h1, of_decide_eq_true h2.2⟩
      have lenM : ((cs2.drop j1).take j2).length ≤ 16 := by
        rw [List.length_take, List.length_drop]
        omega
      have hF6 := t6.2 _ _ nFr hF5
      have hF7 := sM _ _ hF6
      have t7 := t56.trans (Stp.same t56.1 sM)
      have nM : M ≠ r := (t56.1.ne hM).symm
      have hgT7 := sM _ _ (t6.2 gp _ (t5.1.tup hgT5) hgT5)
      have nFM : F ≠ M := ne_of_none hF6 hM
      have B7 := B.step hR sr t7
      generalize upd G6 M (.lst (cutV (qs2.map V.ref) none (some 3))) = G7 at sM hM7 rfM hF7 t7 hgT7 B7
      generalize (qs2.drop j1).take j2 = mq at hM7 rfM
      generalize (cs2.drop j1).take j2 = mc at rfM inU lenM
      have ml := rfM.len
      refine ⟨M, rfl, ⟨_, SqL.of hM7⟩, ?_⟩
      refine for_list (K := K) (a := M) (xs := mq.map V.ref) (fun i σ G => (∃ x9 x10 x11 x12, σ = [some (.ref r), some (.ref s), some (.ref a), some (.ref l), some (.ref gp), some (.ref D2), none, some (.ref D), some (.ref F), x9, x10, x11, x12, none, none]) ∧ Stp r H G ∧ G M = some (.lst (mq.map V.ref)) ∧ Refs blkV G mq mc ∧ G gp = some (.tup [.int go.1, .int (go.2.1 : Nat), .bl go.2.2]) ∧
        ∃ ys : List V, G F = some (.lst ys) ∧ ys.length ≤ i ∧ ∀ v ∈ ys, Pr1 G v)
        ⟨⟨none, none, none, none, rfl⟩, t7, hM7, rfM, hgT7, [], hF7, Nat.le_refl _, fun v hv => nomatch hv⟩ (fun i σ G _ h => SqL.of h.2.2.1) ?_ ?_
      · rintro i v σ G hv ⟨⟨x9, x10, x11, x12, rfl⟩, tG, hMG, rfG, hgG, ys, hFG, yl, py⟩
        obtain ⟨p, hp, rfl⟩ := ref_of hv
        obtain ⟨b, hb, hT⟩ := rfG.get hp
        have hT' : G p = some (.tup [.int b.1, .int (b.2.1 : Nat), .bl b.2.2]) := hT
        have il := (List.getElem?_eq_some_iff.mp hb).1
        obtain ⟨bm, blv⟩ := inU b (List.mem_of_getElem? hb)
        have bo := wf.ok b bm
        have BG := B.step hR sr tG
        have s1 := (chain gd).pos _ bo.1
        have s2 := sz_le gd bo.1
        have g1 := (chain gd).pos _ gk.1
        have g2 := sz_le gd gk.1
        have dv := (chain gd).dvd (Nat.le_of_lt blv) gk.1
        have le1 : sz ns b.2.1 ≤ sz ns go.2.1 := Int.le_of_dvd (by omega) dv
        have qd := Int.ediv_mul_cancel dv
        have q1 : 1 ≤ sz ns go.2.1 / sz ns b.2.1 := Int.le_ediv_of_mul_le (by omega) (by omega)
        have q2 : sz ns go.2.1 / sz ns b.2.1 ≤ sz ns go.2.1 := Int.ediv_le_self _ (by omega)
        have ge := gk.2.2.2
        unfold bEnd at ge
        refine ⟨p, _, rfl, .inl (.inl hT'), rfl, _, _, rfl, _, _, rfl, _, _, rfl, rfl, ?_⟩
        show tSeq _ _ _ _ _
        refine at_st (σ' := [some (.ref r), some (.ref s), some (.ref a), some (.ref l), some (.ref gp), some (.ref D2), none, some (.ref D), some (.ref F), some (.int b.1), some (.int (b.2.1 : Nat)), some (.bl b.2.2), x12, none, none]) rfl ?_
        refine ⟨_, rfl, gp, _, _, _, rfl, rfl, .inl (.inl hgG), rfl, _, rfl, _, rfl, _, rfl, gp, _, _, _, rfl, rfl, .inl (.inl hgG), rfl, s, _, _, _, rfl, rfl, SqL.of BG.hs, at_sz gk.1, _, rfl, _, rfl, s, _, _, _, rfl, rfl, SqL.of BG.hs, at_sz bo.1, _, _, rfl, rfl, div_ok s1 s2, r, _, rfl, tG.1, q1, by omega, fun d G8 d0 d1 t8 => ?_⟩
        have hs8 := t8.2 _ _ sr BG.hs
        refine ⟨_, rfl, _, rfl, s, _, _, _, rfl, rfl, SqL.of hs8, at_sz bo.1, _, _, rfl, rfl, .inr ⟨by omega, by omega⟩, _, _, rfl, rfl, ?_⟩
        have tG8 := tG.trans t8
        have hM8 := t8.2 _ _ nM hMG
        have hF8 := t8.2 _ _ nFr hFG
        have rf8 : Refs blkV G8 mq mc := rfG.mono fun p xs e => t8.2 p _ (tG.1.tup e) e
        have hg8 := t8.2 gp _ (tG.1.tup hgG) hgG
        have py8 : ∀ v ∈ ys, Pr1 G8 v := fun v hv => (py v hv).mono fun p xs e => t8.2 p _ (tG.1.tup e) e
        have m1 : d * sz ns b.2.1 ≤ (sz ns go.2.1 / sz ns b.2.1 - 1) * sz ns b.2.1 := Int.mul_le_mul_of_nonneg_right (by omega) (by omega)
        have m2 : 0 ≤ d * sz ns b.2.1 := Int.mul_nonneg d0 (by omega)
        rw [Int.sub_mul, qd, Int.one_mul] at m1
        obtain ⟨w, ew, w0, w1⟩ : ∃ w, go.1 + d * sz ns b.2.1 = w ∧ 0 ≤ w ∧ w ≤ 1000000000000 := ⟨_, rfl, by have := gk.2.1; omega, by omega⟩
        refine go_nm (nx_of (σ' := [some (.ref r), some (.ref s), some (.ref a), some (.ref l), some (.ref gp), some (.ref D2), none, some (.ref D), some (.ref F), some (.int b.1), some (.int (b.2.1 : Nat)), some (.bl b.2.2), some (.int w), none, none]) (by rw [← ew]; rfl) ?_)
        refine ⟨_, rfl, _, rfl, rfl, _, rfl, ?_⟩
        by_cases hw : w = b.1
        · exact ifF (by rw [vT hw]; rfl) ⟨⟨_, _, _, _, rfl⟩, tG8, hM8, rf8, hg8, ys, hF8, by omega, py8⟩
        · refine ifT (by rw [vF hw]; rfl) ?_
          refine ⟨_, rfl, .inl ⟨rfl, _, SqL.of hF8⟩, _, rfl, _, rfl, (by show 2 ≤ sizeLine; decide), fun u hu => ?_⟩
          have su := same_upd (o := .tup [.int b.1, .int w]) hu
          have hu1 : (upd G8 u (.tup [.int b.1, .int w])) u = some (.tup [.int b.1, .int w]) := upd_same
          have hF9 := su _ _ hF8
          have hM9 := su _ _ hM8
          have hg9 := su _ _ hg8
          have rf9 := rf8.same su
          have py9 : ∀ v ∈ ys, Pr1 _ v := fun v hv => (py8 v hv).mono fun p xs e => su _ _ e
          have t9 := tG8.trans (Stp.same tG8.1 su)
          generalize upd G8 u (.tup [.int b.1, .int w]) = G9 at su hu1 hF9 hM9 hg9 rf9 py9 t9
          refine ⟨F, _, _, rfl, rfl, hF9, by omega, ?_⟩
          have keep : ∀ {p : Addr} {zs : List V}, G9 p = some (.tup zs) → (upd G9 F (.lst (ys ++ [.ref u]))) p = some (.tup zs) := fun {p zs} e => by
            rw [upd_ne (fun z => by rw [z, hF9] at e; cases e)]
            exact e
          refine ⟨⟨_, _, _, _, rfl⟩, ?_, ?_, rf9.mono fun p zs e => keep e, keep hg9, ys ++ [.ref u], upd_same, by rw [List.length_append]; exact Nat.add_le_add yl (Nat.le_refl 1), fun v hv => ?_⟩
          · refine ⟨?_, fun c o nc e => ?_⟩
            · obtain ⟨x', y', e, z⟩ := t9.1
              exact ⟨x', y', by rw [upd_ne nFr.symm]; exact e, z⟩
            · rw [upd_ne (ne_of_none e fF)]
              exact t9.2 c o nc e
          · rw [upd_ne nFM.symm]
            exact hM9
          · rcases List.mem_append.mp hv with z | z
            · exact (py9 v z).mono fun p zs e => keep e
            · rw [List.mem_singleton.mp z]
              have := (wf.ok b bm).2
              unfold bEnd at this
              exact ⟨u, b.1, w, rfl, keep hu1, ⟨by omega, by omega⟩, w0, w1⟩
      · rintro σ G ⟨⟨x9, x10, x11, x12, rfl⟩, tG, hMG, rfG, hgG, ys, hFG, yl, py⟩
        have ml16 : ys.length ≤ 16 := by rw [List.length_map] at yl; omega
        refine ⟨_, rfl, F, rfl, ⟨_, SqL.of hFG⟩, fun D3 hD3 => ?_⟩
        refine lc_list (K := K) (a := F) (xs := ys) (fun i G' => ∃ os : List Int, G' D3 = some (.lst (os.map V.int)) ∧ os.length ≤ i ∧ Same G G') ⟨[], upd_same, Nat.le_refl _, same_upd hD3⟩ (fun i G' _ ⟨_, _, _, sm⟩ => SqL.of (sm _ _ hFG)) ?_ ?_
        · rintro i x G' hx ⟨os, hG', ol, sm⟩
          obtain ⟨p, a1, b1, rfl, hp, _⟩ := (py x (List.mem_of_getElem? hx)).mono fun p xs e => sm _ _ e
          have il := (List.getElem?_eq_some_iff.mp hx).1
          refine ⟨rfl, _, rfl, p, _, _, _, rfl, rfl, .inl (.inl hp), rfl, _, hG', (by rw [List.length_map]; omega), os ++ [a1], by rw [upd_same, List.map_append]; rfl, by rw [List.length_append]; exact Nat.add_le_add ol (Nat.le_refl 1), fun c o e => ?_⟩
          rw [upd_ne (ne_of_none e hD3)]
          exact sm c o e
        rintro Ga ⟨os, hOa, ol, sa⟩
        have ta := tG.trans (Stp.same tG.1 sa)
        have hFa := sa _ _ hFG
        have pya : ∀ v ∈ ys, Pr1 Ga v := fun v hv => (py v hv).mono fun p xs e => sa _ _ e
        have hla := ta.2 _ _ lr hl
        have pxa : ∀ v ∈ xs, Pr1 Ga v := fun v hv => (px v hv).mono fun p zs e => ta.2 p _ (hR.tup e) e
        have nD3 : D3 ≠ r := (tG.1.ne hD3).symm
        refine go_nm (nx_of (σ' := [some (.ref r), some (.ref s), some (.ref a), some (.ref l), some (.ref gp), some (.ref D2), some (.ref D3), some (.ref D), some (.ref F), x9, x10, x11, x12, none, none]) rfl ?_)
        refine ⟨_, rfl, _, rfl, _, rfl, l, rfl, ⟨_, SqL.of hla⟩, fun D4 hD4 => ?_⟩
        refine lc_list (K := K) (a := l) (xs := xs) (fun i G' => ∃ zs : List V, G' D4 = some (.lst zs) ∧ zs.length ≤ i ∧ (∀ v ∈ zs, v ∈ xs) ∧ Same Ga G') ⟨[], upd_same, Nat.le_refl _, (fun v hv => nomatch hv), same_upd hD4⟩ (fun i G' _ ⟨_, _, _, _, sm⟩ => SqL.of (sm _ _ hla)) ?_ ?_
        · rintro i x G' hx ⟨zs, hG', zl, zm, sm⟩
          have xm := List.mem_of_getElem? hx
          obtain ⟨p, a1, b1, rfl, hp, _⟩ := (pxa x xm).mono fun p xs e => sm _ _ e
          have il := (List.getElem?_eq_some_iff.mp hx).1
          refine ⟨rfl, _, rfl, p, _, _, _, rfl, rfl, .inl (.inl hp), rfl, _, rfl, D3, _, rfl, .inl (SqL.of (sm _ _ hOa)), rfl, flat_ints _, _, rfl, ?_⟩
          refine iteW (fun _ => ⟨_, rfl, _, hG', (by omega), zs ++ [.ref p], upd_same, by rw [List.length_append]; exact Nat.add_le_add zl (Nat.le_refl 1), fun v hv => ?_, fun c o e => ?_⟩) fun _ => ⟨zs, hG', by omega, zm, sm⟩
          · rcases List.mem_append.mp hv with z | z
            · exact zm v z
            · rw [List.mem_singleton.mp z]
              exact xm
          · rw [upd_ne (ne_of_none e hD4)]
            exact sm c o e
        rintro Gb ⟨zs, hDb, zl, zm, sb⟩
        have tb := ta.trans (Stp.same ta.1 sb)
        have hFb := sb _ _ hFa
        have nD4 : D4 ≠ r := (ta.1.ne hD4).symm
        refine ⟨_, rfl, r, 3, rfl, tb.1, by decide, by omega, fun d Gc d0 d1 tc => ?_⟩
        have tbc := tb.trans tc
        have hFc := tc.2 _ _ nFr hFb
        have hDc := tc.2 _ _ nD4 hDb
        have pyc : ∀ v ∈ ys, Pr1 Gc v := fun v hv => (pya v hv).mono fun p xs e => tc.2 p _ (tb.1.tup (sb _ _ e)) (sb _ _ e)
        have pxc : ∀ v ∈ xs, Pr1 Gc v := fun v hv => (px v hv).mono fun p zs e => tbc.2 p _ (hR.tup e) e
        obtain ⟨dn, rfl⟩ : ∃ k : Nat, d = (k : Int) := ⟨d.toNat, by omega⟩
        refine ⟨_, rfl, D4, _, rfl, SqL.of hDc, fun N hN => ?_⟩
        have sN := same_upd (o := .lst (cutV zs none (some (dn : Int)))) hN
        have hN1 : (upd Gc N (.lst (cutV zs none (some (dn : Int))))) N = some (.lst (zs.take dn)) := by rw [upd_same, cut_to]
        have hF1 := sN _ _ hFc
        generalize upd Gc N (.lst (cutV zs none (some (dn : Int)))) = Gd at sN hN1 hF1
        have tl := List.length_take_le dn zs
        refine ⟨F, N, _, _, rfl, rfl, hF1, hN1, (by omega), fun O hO => ?_⟩
        have sO := same_upd (o := .lst (ys ++ zs.take dn)) hO
        have hO1 : (upd Gd O (.lst (ys ++ zs.take dn))) O = some (.lst (ys ++ zs.take dn)) := upd_same
        have te := tbc.trans (Stp.same tbc.1 (sN.trans sO))
        have nO : O ≠ r := ((tbc.trans (Stp.same tbc.1 sN)).1.ne hO).symm
        have pe : ∀ v ∈ ys ++ zs.take dn, Pr1 (upd Gd O (.lst (ys ++ zs.take dn))) v := fun v hv => by
          refine Pr1.mono (H := Gc) ?_ fun p xs e => sO _ _ (sN _ _ e)
          rcases List.mem_append.mp hv with z | z
          · exact pyc v z
          · exact pxc v (zm v (List.mem_of_mem_take z))
        have ll : (ys ++ zs.take dn).length ≤ 40 := by
          have k1 := List.length_take_le' dn zs
          rw [List.length_append, List.length_take]
          omega
        generalize upd Gd O (.lst (ys ++ zs.take dn)) = Ge at sO hO1 te pe
        generalize ys ++ zs.take dn = us at hO1 pe ll
        refine ⟨r, O, us, rfl, te.1, hO1, nO, by omega, fun l' vs' Gf fl' tf hl' pm => ?_⟩
        have tf2 := te.trans tf
        obtain ⟨es, e1, e2⟩ := els_pr (K := K) tf2.1 (xs := vs') fun v hv => (pe v (pm.mem_iff.mp hv)).mono fun p zs e => tf.2 p _ (te.1.tup e) e
        have el := congrArg List.length e1
        rw [List.length_map, pm.length_eq] at el
        exact q l' es Gf tf2 ((te.1.ne fl').symm) (by rw [e1]; exact hl') e2 (by omega)
end
end K34

set_option Elab.async false
set_option linter.all false
set_option maxRecDepth 100000
set_option maxHeartbeats 800000
set_option pp.maxSteps 900
namespace K34
open PySem PySem.Spec PyProof.Rows L2 Gu Ex LamX
theorem FstP.no {ns : List Int} {n : Int} {bs : List Blk} {o : Option (List Mo)} {i : Nat} (w : Wf ns n bs) (g : Good ns) (h : FstP ns n bs o i) : ¬ OkR ns n bs o := by
  cases o with
  | none => exact fun z => z
  | some ms =>
    intro z
    obtain ⟨il, h⟩ := h
    rcases h with ⟨_, hb⟩ | ⟨hg, mm, e, hi, _⟩
    · exact hb (z.1 i il)
    · obtain ⟨mm', em, Ft⟩ := fit_of hg
      rw [e] at em
      have e3 : mm = mm' := (List.map_inj_right (fun _ _ z => Option.some.inj z)).mp em
      subst e3
      rw [e, List.length_map] at il
      exact (noOv_all w g Ft).mp ((law_iff w g Ft).mpr (z.2 mm e)) i il hi
/-- what a value is told before a layout -/
structure DueR (ns : List Int) (n : Int) (bs : List Blk) (o : Option (List Mo)) (due : Option Nat) : Prop where
  ok : due = none → OkR ns n bs o
  fst : ∀ i : Nat, due = some i → ¬ OkR ns n bs o ∧ FstP ns n bs o i
  sm : SmP due
theorem DueR.non {ns : List Int} {n : Int} {bs : List Blk} : DueR ns n bs none (some 0) := ⟨(fun z => nomatch z), (fun i e => ⟨fun z => z, (Option.some.inj e).symm⟩), fun i e => by rw [← Option.some.inj e]; exact Nat.zero_le _⟩
def spProb2 (K : PySem.W.Frag) : Sp := fun vs H Q _ => ∃ (s a : Addr) (ns : List Int) (n : Int) (qs : List Addr) (bs : List Blk) (v : V) (o : Option (List Mo)), vs = [.ref s, .int n, .ref a, v] ∧ Lb ns n H s a qs bs ∧ Th H v o ∧ LenL o ∧ ∀ due H', DueR ns n bs o due → Same H H' → Q (dueV due) H'
theorem prob2 {P : Program} {w : World} {K : PySem.W.Frag} {mg : Str → Option Value} {base : Heap} (D : Df P w K mg base 3 "_law_problem" ["_law_sizes_here", "_law_length", "_law_blocks_here", "_law_value"] (spProb K)) : Df P w K mg base 3 "_law_problem" ["_law_sizes_here", "_law_length", "_law_blocks_here", "_law_value"] (spProb2 K) :=
  Df_weak D fun vs H Q E ⟨s, a, ns, n, qs, bs, v, o, e, B, th, l, h⟩ => ⟨s, a, ns, n, qs, bs, v, o, e, B, th, fun ok H' s' => h none H' ⟨(fun _ => ok), (fun _ z => nomatch z), fun _ z => nomatch z⟩ s', fun i H' hf s' => h (some i) H' ⟨(fun z => nomatch z), (fun j z => by cases z; exact ⟨hf.no B.wf B.gd, hf⟩), fun j z => by
    cases z
    cases o with
    | none => rw [show i = 0 from hf]; exact Nat.zero_le _
    | some ms =>
      have h1 := hf.1
      have h2 := l ms rfl
      omega⟩ s'⟩
/-! ### values -/
section
variable {K : PySem.W.Frag} {r l : Addr} {H H1 : Hp} {v : V} {o : Option (List Mo)} {d : PyData} {m : Nat}
theorem ThX.ext (h : ThX K H v o d m) (s : ExtN H H1) : ThX K H1 v o d m := fun H' s' => h H' (ext_trans s s')
theorem thx_els {es : List (V × Mo × PyData)} (hR : Rng H r) (e : H l = some (.lst (es.map (·.1)))) (Es : Els K r H es) (len : es.length ≤ 200) : ThX K H (.ref l) (some (es.map (·.2.1))) (.list (es.map (·.2.2))) 100000 := fun H' x => by
  have t := extN_stp hR x
  have Es' := Es.stepN t
  have e' := x _ _ e (fun ps z => by cases z)
  refine ⟨.list e' (Es'.mvs t.1) (by rw [List.length_map]; omega), ((Es'.tq t.1).lst e').mono (by decide) ?_⟩
  rw [List.length_map]
  show es.length * (400 + 2) + 3 ≤ 100000
  omega
theorem lenL_els {es : List (V × Mo × PyData)} (len : es.length ≤ 200) : LenL (some (es.map (·.2.1))) := fun ms e => by
  rw [← Option.some.inj e, List.length_map]
  exact len
theorem thx_non : ThX K H .non none .none 100000 := fun H' _ => ⟨.other .non (fun _ _ z => nomatch z), tq_non.mono (by decide) (by decide)⟩
theorem thx_int {i : Int} (h1 : -(10 ^ 39) ≤ i) (h2 : i ≤ 10 ^ 39) : ThX K H (.int i) none (.int i) 100000 := fun H' _ => ⟨.other (.int i) (fun _ _ z => nomatch z), (tq_int h1 h2).mono (by decide) (by decide)⟩
theorem thx_bl (b : Bool) : ThX K H (.bl b) none (.bool b) 100000 := fun H' _ => ⟨.other (.bl b) (fun _ _ z => nomatch z), (tq_bl b).mono (by decide) (by decide)⟩
theorem thx_str (z : String) (h : (reprText (Str.ofString z)).length ≤ 41) : ThX K H (.str (Str.ofString z)) none (.str (Str.ofString z)) 100000 := fun H' _ => ⟨.other (.str _) (fun _ _ z => nomatch z), (tq_text z h).mono (by decide) (by decide)⟩
theorem thx_tup {a : Addr} {vs : List V} {ds : List PyData} (hR : Rng H r) (h : H a = some (.tup vs)) (z : ∀ H', StpN r H H' → TqAll K H' vs ds 3 400) (len : vs.length ≤ 200) : ThX K H (.ref a) none (.tuple ds) 100000 := fun H' x => by
  have t := extN_stp hR x
  have h' := x _ _ h (fun ps z => by cases z)
  refine ⟨.other (.tup h') (fun u xs e q => ?_), ((z H' t).tup h').mono (by decide) ?_⟩
  · cases e
    rw [h'] at q
    cases q
  · show vs.length * (400 + 2) + 3 ≤ 100000
    omega
theorem thx_dct {a : Addr} (h : H a = some (.dK [])) : ThX K H (.ref a) none (.dict []) 100000 := fun H' x => by
  have h' := x _ _ h (fun ps z => by cases z)
  refine ⟨.other (.dct h') (fun u xs e q => ?_), (tq_dct h').mono (by decide) (by decide)⟩
  cases e
  rw [h'] at q
  cases q
end
/-- a layout none of whose lists is the drawing list -/
structure LyR (K : PySem.W.Frag) (H : Hp) (r y zp bl dx : Addr) (ps : List Addr) (ns : List Int) (n : Int) (bs : List Blk) : Prop where
  ly : Ly K H y zp bl dx ps ns n bs
  br : bl ≠ r
  lr : ∃ dz l, H zp = some (.ins (He.ga K "Sizes") dz (szF l)) ∧ H l = some (.lst (ns.map V.int)) ∧ l ≠ r
theorem LyR.stpN {K : PySem.W.Frag} {H H' : Hp} {r y zp bl dx : Addr} {ps : List Addr} {ns : List Int} {n : Int} {bs : List Blk} (h : LyR K H r y zp bl dx ps ns n bs) (hR : Rng H r) (t : StpN r H H') : LyR K H' r y zp bl dx ps ns n bs := by
  obtain ⟨dz, l, z1, z2, lr⟩ := h.lr
  obtain ⟨dz', l', y1, y2, lb⟩ := h.ly.ap
  have el : l' = l := by
    have e := z1.symm.trans y1
    have e2 := (HO.ins.inj (Option.some.inj e)).2.2
    unfold szF at e2
    simp only [List.cons.injEq, Prod.mk.injEq, V.ref.injEq, and_true, true_and] at e2
    exact e2.symm
  subst el
  have zr : ∀ {p C d : Addr} {fs : List (Str × V)}, H p = some (.ins C d fs) → p ≠ r := fun {p C d fs} e z => by
    obtain ⟨ra, rb, re, _⟩ := hR
    rw [z, re] at e
    cases e
  have k1 := t.ins (zr z1) z1
  have k2 := t.lst lr z2
  exact ⟨⟨t.ins (zr h.ly.at_) h.ly.at_, ⟨dz, l', k1, k2⟩, t.lst h.br h.ly.lst, h.ly.rf.mono fun p xs e => t.tup (hR.tup e) e, h.ly.wf, h.ly.gd, h.ly.n1, h.ly.n2, h.ly.ln, ⟨dz, l', k1, k2, lb⟩⟩, h.br, ⟨dz, l', k1, k2, lr⟩⟩
/-! ### one block of eight cells and three of one cell -/
def eB : List Blk := [(0, 1, false), (8, 0, false), (9, 0, false), (10, 0, false)]
theorem eG : Good [1, 8] := ⟨⟨by decide, by decide⟩, rfl, fun i x h => by
    match i, h with
    | 0, h => cases h; decide
    | 1, h => cases h; decide, fun i x y h1 h2 => by
    match i, h1, h2 with
    | 0, h1, h2 => cases h1; cases h2; decide⟩
theorem eW : Wf [1, 8] 16 eB := ⟨fun b hb => by
    simp only [eB, List.mem_cons, List.not_mem_nil, or_false] at hb
    rcases hb with rfl | rfl | rfl | rfl <;> decide, by
    unfold eB
    refine .cons ?_ (.cons ?_ (.cons ?_ (.cons ?_ .nil)))
    all_goals
      intro c hc
      simp only [List.mem_cons, List.not_mem_nil, or_false] at hc
    · rcases hc with rfl | rfl | rfl <;> decide
    · rcases hc with rfl | rfl <;> decide
    · rcases hc with rfl
      decide⟩
/-- moves of the three small ones -/
structure E8 (mm : List Pr) : Prop where
  ad : ∀ m ∈ mm, (m.1 = 8 ∨ m.1 = 9 ∨ m.1 = 10) ∧ 0 ≤ m.2 ∧ m.2 ≤ 15 ∧ m.1 ≠ m.2
  nd : (mm.map Prod.fst).Nodup
theorem olds_some8 (mm : List Pr) : oldsOf (mm.map some) = mm.map Prod.fst := by
  induction mm with
  | nil => rfl
  | cons m mm ih =>
    unfold oldsOf at *
    rw [List.map_cons, List.map_cons, List.filterMap_cons]
    show m.1 :: _ = _
    rw [ih]
theorem E8.gd {mm : List Pr} (h : E8 mm) (i : Nat) (hi : i < (mm.map some).length) : Gd [1, 8] 16 eB (mm.map some) i := by
  rw [List.length_map] at hi
  have e := List.getElem?_eq_getElem hi
  obtain ⟨h1, h2, h3, h4⟩ := h.ad _ (List.getElem_mem hi)
  refine ⟨mm[i].1, mm[i].2, 0, by rw [List.getElem?_map, e]; rfl, by omega, h2, h4, ?_, ?_, ?_, ?_⟩
  · rcases h1 with z | z | z <;> rw [z] <;> simp [eB]
  · rw [← List.map_take, olds_some8]
    intro hm
    obtain ⟨m, hm, em⟩ := List.mem_map.mp hm
    obtain ⟨j, hj, ej⟩ := mem_take_lt hm
    have jl := (List.getElem?_eq_some_iff.mp ej).1
    have k := List.pairwise_iff_getElem.mp h.nd j i (by rw [List.length_map]; exact jl) (by rw [List.length_map]; exact hi) hj
    rw [List.getElem_map, List.getElem_map] at k
    rw [List.getElem?_eq_getElem jl] at ej
    rw [← Option.some.inj ej] at em
    exact k em
  · show mm[i].2 % 1 = 0
    omega
  · show mm[i].2 + 1 ≤ 16
    omega
theorem E8.fit {mm : List Pr} (h : E8 mm) : Fit [1, 8] 16 eB mm := by
  obtain ⟨mm', em, Ft⟩ := fit_of h.gd
  have e3 : mm = mm' := (List.map_inj_right (fun _ _ z => Option.some.inj z)).mp em
  exact e3 ▸ Ft
theorem E8.hit {mm : List Pr} (h : E8 mm) {i : Nat} {a b : Int} (e : mm[i]? = some (a, b)) (b7 : b ≤ 7) : HitB [1, 8] eB mm i := by
  obtain ⟨h1, h2, h3, h4⟩ := h.ad _ (List.mem_of_getElem? e)
  dsimp only at h1 h2 h3 h4
  have st : ((0, 1, false) : Blk).1 ∉ mm.map Prod.fst := fun z => by
    obtain ⟨m, hm, em⟩ := List.mem_map.mp z
    have := (h.ad m hm).1
    have em' : m.1 = 0 := em
    omega
  refine (hit_law eW eG h.fit e).mpr ⟨(0, 1, false), by simp [eB], fun z => ?_, ?_, ?_⟩
  · have z' : (0 : Int) = a := z
    omega
  · rw [plc_stays st]
    show (0 : Int) < b + sz [1, 8] (lev eB a)
    have : 0 ≤ sz [1, 8] (lev eB a) := by rcases h1 with rfl | rfl | rfl <;> decide
    have : 1 ≤ sz [1, 8] (lev eB a) := by rcases h1 with rfl | rfl | rfl <;> decide
    omega
  · rw [plc_stays st]
    show b < 0 + 8
    omega
theorem E8.due {mm : List Pr} (h : E8 mm) {i : Nat} {a b : Int} (e : mm[i]? = some (a, b)) (b7 : b ≤ 7) (i3 : i ≤ 3) (no : ∀ j, j < i → ¬ HitB [1, 8] eB mm j) : DueR [1, 8] 16 eB (some (mm.map some)) (some i) := by
  have il := (List.getElem?_eq_some_iff.mp e).1
  have f : FstP [1, 8] 16 eB (some (mm.map some)) i := ⟨by rw [List.length_map]; exact il, .inr ⟨h.gd, mm, rfl, h.hit e b7, no⟩⟩
  exact ⟨(fun z => nomatch z), (fun j z => by cases z; exact ⟨f.no eW eG, f⟩), fun j z => by cases z; omega⟩
theorem E8.far {mm : List Pr} (h : E8 mm) {i : Nat} (e : mm[i]? = some (8, 15)) (o7 : ∀ m ∈ mm, m.1 ≠ 8 → m.2 ≤ 7) : ¬ HitB [1, 8] eB mm i := fun z => by
  obtain ⟨c, hc, ne, h1, h2⟩ := (hit_law eW eG h.fit e).mp z
  have e1 : sz [1, 8] (lev eB 8) = 1 := by decide
  rw [e1] at h1
  by_cases z : c.1 ∈ mm.map Prod.fst
  · obtain ⟨j, b, hj⟩ := olds_mem z
    obtain ⟨q, k, hq, e3, e4⟩ := plc_moved eW eG h.fit hj
    have b7 := o7 _ (List.mem_of_getElem? hj) ne
    have hd := (h.ad _ (List.mem_of_getElem? hj)).1
    dsimp only at e3 e4 b7 hd hq
    have k0 : k = 0 := by
      rw [← e4]
      rcases hd with z | z | z <;> rw [z] <;> decide
    obtain ⟨c1, c2, c3⟩ := c
    have ec : (c1, c2, c3) = (c1, k, false) := by
      simp only [eB, List.mem_cons, List.not_mem_nil, or_false, Prod.mk.injEq] at hc
      dsimp only at hd
      subst k0
      rcases hc with ⟨rfl, rfl, rfl⟩ | ⟨rfl, rfl, rfl⟩ | ⟨rfl, rfl, rfl⟩ | ⟨rfl, rfl, rfl⟩
      · rcases hd with z | z | z <;> exact absurd z (by decide)
      all_goals rfl
    rw [ec, show plc [1, 8] mm (c1, k, false) = _ from e3, k0] at h2
    have h3 : (15 : Int) < b + 1 := h2
    omega
  · rw [plc_stays z] at h1 h2
    simp only [eB, List.mem_cons, List.not_mem_nil, or_false] at hc
    rcases hc with rfl | rfl | rfl | rfl
    · exact absurd h2 (show ¬ (15 : Int) < 0 + 8 by decide)
    · exact absurd rfl ne
    · exact absurd h2 (show ¬ (15 : Int) < 9 + 1 by decide)
    · exact absurd h2 (show ¬ (15 : Int) < 10 + 1 by decide)
end K34

set_option Elab.async false
set_option linter.all false
set_option maxRecDepth 100000
set_option maxHeartbeats 1600000
set_option pp.maxSteps 900
namespace K34
open PySem PySem.Spec PyProof.Rows L2 Gu Ex LamX
theorem els_refs {K : PySem.W.Frag} {r : Addr} {H : Hp} (hR : Rng H r) : ∀ {ps : List Addr} {mm : List Pr}, Refs prV H ps mm → (∀ m ∈ mm, (0 ≤ m.1 ∧ m.1 ≤ 1000000000000) ∧ 0 ≤ m.2 ∧ m.2 ≤ 1000000000000) → ∃ es : List (V × Mo × PyData), es.map (·.1) = ps.map V.ref ∧ es.map (·.2.1) = mm.map some ∧ Els K r H es
  | _, _, .nil, _ => ⟨[], rfl, rfl, Els.nil⟩
  | _, _, .cons (p := p) (t := t) h hs, b => by
    obtain ⟨es, e1, e2, e3⟩ := els_refs hR hs fun m hm => b m (List.mem_cons_of_mem _ hm)
    have b39 : (10 : Int) ^ 39 = 1000000000000000000000000000000000000000 := by decide
    have bt := b t List.mem_cons_self
    refine ⟨(.ref p, some (t.1, t.2), .tuple [.int t.1, .int t.2]) :: es, ?_, ?_, Els.cons (el_mv hR h ⟨⟨by omega, by omega⟩, by omega, by omega⟩) e3⟩
    · rw [List.map_cons, e1]
      rfl
    · rw [List.map_cons, e2]
      rfl
theorem thx_refs {K : PySem.W.Frag} {r l : Addr} {H : Hp} {ps : List Addr} {mm : List Pr} (hR : Rng H r) (e : H l = some (.lst (ps.map V.ref))) (rf : Refs prV H ps mm) (b : ∀ m ∈ mm, (0 ≤ m.1 ∧ m.1 ≤ 1000000000000) ∧ 0 ≤ m.2 ∧ m.2 ≤ 1000000000000) (len : mm.length ≤ 200) :
    ∃ d, ThX K H (.ref l) (some (mm.map some)) d 100000 := by
  obtain ⟨es, e1, e2, e3⟩ := els_refs (K := K) hR rf b
  have el := congrArg List.length e2
  rw [List.length_map, List.length_map] at el
  rw [← e1] at e
  rw [← e2]
  exact ⟨_, thx_els hR e e3 (by omega)⟩
theorem E8.b {mm : List Pr} (h : E8 mm) : ∀ m ∈ mm, (0 ≤ m.1 ∧ m.1 ≤ 1000000000000) ∧ 0 ≤ m.2 ∧ m.2 ≤ 1000000000000 := fun m hm => by
  have := h.ad m hm
  omega
theorem e8_2 {a b c d : Int} (ha : (a = 8 ∨ a = 9 ∨ a = 10) ∧ 0 ≤ b ∧ b ≤ 15 ∧ a ≠ b) (hc : (c = 8 ∨ c = 9 ∨ c = 10) ∧ 0 ≤ d ∧ d ≤ 15 ∧ c ≠ d) (ne : a ≠ c) : E8 [(a, b), (c, d)] := ⟨fun m hm => by
    simp only [List.mem_cons, List.not_mem_nil, or_false] at hm
    rcases hm with rfl | rfl
    · exact ha
    · exact hc, by
    refine .cons ?_ (.cons ?_ .nil)
    · intro x hx
      simp only [List.mem_cons, List.map_cons, List.map_nil, List.not_mem_nil, or_false] at hx
      rw [hx]
      exact ne
    · intro x hx
      cases hx⟩
theorem e8_3 {a b c d e f : Int} (ha : (a = 8 ∨ a = 9 ∨ a = 10) ∧ 0 ≤ b ∧ b ≤ 15 ∧ a ≠ b) (hc : (c = 8 ∨ c = 9 ∨ c = 10) ∧ 0 ≤ d ∧ d ≤ 15 ∧ c ≠ d) (he : (e = 8 ∨ e = 9 ∨ e = 10) ∧ 0 ≤ f ∧ f ≤ 15 ∧ e ≠ f) (ne1 : a ≠ c) (ne2 : a ≠ e) (ne3 : c ≠ e) : E8 [(a, b), (c, d), (e, f)] := ⟨fun m hm => by
    simp only [List.mem_cons, List.not_mem_nil, or_false] at hm
    rcases hm with rfl | rfl | rfl
    · exact ha
    · exact hc
    · exact he, by
    refine .cons ?_ (.cons ?_ (.cons ?_ .nil))
    · intro x hx
      simp only [List.mem_cons, List.map_cons, List.map_nil, List.not_mem_nil, or_false] at hx
      rcases hx with rfl | rfl
      · exact ne1
      · exact ne2
    · intro x hx
      simp only [List.mem_cons, List.map_cons, List.map_nil, List.not_mem_nil, or_false] at hx
      rw [hx]
      exact ne3
    · intro x hx
      cases hx⟩
/-- the first one meets the large block -/
theorem E8.first {mm : List Pr} (h : E8 mm) (h7 : ∀ m ∈ mm, m.2 ≤ 7) (ne : mm ≠ []) : DueR [1, 8] 16 eB (some (mm.map some)) (some 0) := by
  cases mm with
  | nil => exact absurd rfl ne
  | cons m mm => exact h.due (i := 0) (a := m.1) (b := m.2) rfl (h7 m List.mem_cons_self) (by decide) fun j hj => absurd hj (Nat.not_lt_zero j)
theorem E8.sub {mm mm' : List Pr} (h : E8 mm) (s : mm'.Sublist mm) : E8 mm' := ⟨fun m hm => h.ad m (s.subset hm), h.nd.sublist (s.map _)⟩
theorem E8.perm {mm mm' : List Pr} (h : E8 mm) (p : mm'.Perm mm) : E8 mm' := ⟨fun m hm => h.ad m (p.mem_iff.mp hm), ((p.map Prod.fst).nodup_iff).mpr h.nd⟩
section
variable {P : Program} {w : World} {K : PySem.W.Frag} {mg : Str → Option Value} {base : Heap} {f : Addr} {fd : FuncData}
def spEight (K : PySem.W.Frag) (Pt : Nat → Addr) : Sp := fun vs H Q _ => ∃ r : Addr, vs = [.ref r] ∧ Rng H r ∧ Tabs (tabs Pt) H ∧ ∀ H', StpN r H H' → Tabs (tabs Pt) H' → Q (.bl true) H'
theorem sc__law_eight_right : FnScope ["_law_rng_here", "_law_blocks_here", "_law_pile", "_law_layout", "_law_places"] ["_law_rng_here"] (defScope (top 65)) := ⟨rfl, rfl, rfl, by decide +kernel, rfl, by decide +kernel, by decide +kernel⟩
theorem ok_eight {Pt : Nat → Addr} (T : Tx K mg) (D__law_draw : Df P w K mg base 1 "_law_draw" ["_law_rng_here", "_law_many"] spDraw) (D__law_shuffled : Df P w K mg base 2 "_law_shuffled" ["_law_rng_here", "_law_values"] spShuf) (D__law_made : Df P w K mg base 9 "_law_made" ["_law_sizes_here", "_law_length", "_law_blocks_here"] (spMadeL K))
    (D__law_list_right : DfG P w K mg base 15 "_law_list_right" ["_law_layout", "_law_value", "_law_due"] (spLR K Pt)) (F : FnP K "_law_eight_right" "_law_eight_right" (top 65) f fd) :
    FnG P w K mg base CX0 16 f fd ["_law_rng_here"] (spEight K Pt) := by
  refine okG F sc__law_eight_right (fun vs H Q E h => ?_) (fun cdv A outer s H vs Q E hr h => ⟨_, PSs.nox (pss_cons (ps_set (i := 1) sc__law_eight_right.nd rfl (by first | exact Or.inl rfl | exact Or.inr rfl) (pe_lst (pa_cons (pe_tup (pa_cons pe_int (pa_cons pe_int (pa_cons pe_bl pa_nil)))) (pa_cons (pe_tup (pa_cons pe_int (pa_cons pe_int (pa_cons pe_bl pa_nil)))) (pa_cons (pe_tup (pa_cons pe_int (pa_cons pe_int (pa_cons pe_bl pa_nil)))) (pa_cons (pe_tup (pa_cons pe_int (pa_cons pe_int (pa_cons pe_bl pa_nil)))) pa_nil)))))) (pss_cons (ps_par (by rfl) sc__law_eight_right.nd (i := 3) (j := 4) rfl rfl (by decide) rfl rfl (pa_cons (pcall D__law_made hr.r (pa_cons (pe_lst (pa_cons pe_int (pa_cons pe_int pa_nil))) (pa_cons pe_int (pa_cons (pv 1) pa_nil)))) (pa_cons (pcall D__law_shuffled hr.r (pa_cons (pv 0) (pa_cons (pe_lst (pa_cons pe_int (pa_cons pe_int (pa_cons pe_int (pa_cons pe_int (pa_cons pe_int (pa_cons pe_int (pa_cons pe_int (pa_cons pe_int pa_nil))))))))) pa_nil))) pa_nil)) (by rfl)) (pss_cons (ps_set (i := 2) sc__law_eight_right.nd rfl (by first | exact Or.inl rfl | exact Or.inr rfl) (pe_slice sl_list (pcall D__law_shuffled hr.r (pa_cons (pv 0) (pa_cons (pe_lst (pa_cons (pe_tup (pa_cons pe_int (pa_cons (pe_ix ix_list (pv 4) pe_int (fun _ _ => rfl)) pa_nil))) (pa_cons (pe_tup (pa_cons pe_int (pa_cons (pe_ix ix_list (pv 4) pe_int (fun _ _ => rfl)) pa_nil))) (pa_cons (pe_tup (pa_cons pe_int (pa_cons (pe_ix ix_list (pv 4) pe_int (fun _ _ => rfl)) pa_nil))) pa_nil)))) pa_nil))) po_none (po_some (pe_op op_add pe_int (pcall D__law_draw hr.r (pa_cons (pv 0) (pa_cons pe_int pa_nil))))))) (pss_cons (ps_if (PW.pt (pw_or (pt_not (pt_val (pcallG D__law_list_right hr (pa_cons (pv 3) (pa_cons (pe_lst (pa_cons (pe_tup (pa_cons pe_int (pa_cons pe_int pa_nil))) (pa_cons (pe_tup (pa_cons pe_int (pa_cons pe_int pa_nil))) pa_nil))) (pa_cons pe_int pa_nil)))))) (pw_or1 (pt_not (pt_val (pcallG D__law_list_right hr (pa_cons (pv 3) (pa_cons (pe_lst (pa_cons (pe_tup (pa_cons pe_int (pa_cons pe_int pa_nil))) (pa_cons (pe_tup (pa_cons pe_int (pa_cons pe_int pa_nil))) (pa_cons (pe_tup (pa_cons pe_int (pa_cons pe_int pa_nil))) pa_nil)))) (pa_cons pe_int pa_nil))))))))) (pss_one (ps_ret pe_bl)) pss_nil) (pss_one (ps_ret (pe_and (pcallG D__law_list_right hr (pa_cons (pv 3) (pa_cons (pv 2) (pa_cons pe_int pa_nil)))) (pe_one (pcallG D__law_list_right hr (pa_cons (pv 3) (pa_cons (pe_lst (pa_cons (pe_tup (pa_cons pe_int (pa_cons pe_int pa_nil))) (pa_cons (pe_tup (pa_cons pe_int (pa_cons (pe_ix ix_list (pv 4) pe_int (fun _ _ => rfl)) pa_nil))) (pa_cons (pe_tup (pa_cons pe_int (pa_cons pe_int pa_nil))) pa_nil)))) (pa_cons pe_int pa_nil)))))))))))), ?_⟩)
  · obtain ⟨r, rfl, _⟩ := h
    rfl
  · obtain ⟨r, rfl, hR, tb, q⟩ := h
    have sl : sizeLine = 16777216 := sizeLine_eq
    have big : (10 : Int) ^ 40 = 10000000000000000000000000000000000000000 := by decide
    have three : 3 ≤ sizeLine := by decide
    have two : 2 ≤ sizeLine := by decide
    refine ⟨three, fun b0 hb0 => ?_⟩
    have s0 := same_upd (o := .tup [.int 0, .int 1, .bl false]) hb0
    have k0 : (upd H b0 (.tup [.int 0, .int 1, .bl false])) b0 = some (.tup (blkV (0, 1, false))) := upd_same
    generalize upd H b0 (.tup [.int 0, .int 1, .bl false]) = G0 at s0 k0
    refine ⟨three, fun b1 hb1 => ?_⟩
    have s1' := same_upd (o := .tup [.int 8, .int 0, .bl false]) hb1
    have k1 : (upd G0 b1 (.tup [.int 8, .int 0, .bl false])) b1 = some (.tup (blkV (8, 0, false))) := upd_same
    generalize upd G0 b1 (.tup [.int 8, .int 0, .bl false]) = G1 at s1' k1
    have s1 := s0.trans s1'
    refine ⟨three, fun b2 hb2 => ?_⟩
    have s2' := same_upd (o := .tup [.int 9, .int 0, .bl false]) hb2
    have k2 : (upd G1 b2 (.tup [.int 9, .int 0, .bl false])) b2 = some (.tup (blkV (9, 0, false))) := upd_same
    generalize upd G1 b2 (.tup [.int 9, .int 0, .bl false]) = G2 at s2' k2
    have s2 := s1.trans s2'
    refine ⟨three, fun b3 hb3 => ?_⟩
    have s3' := same_upd (o := .tup [.int 10, .int 0, .bl false]) hb3
    have k3 : (upd G2 b3 (.tup [.int 10, .int 0, .bl false])) b3 = some (.tup (blkV (10, 0, false))) := upd_same
    generalize upd G2 b3 (.tup [.int 10, .int 0, .bl false]) = G3 at s3' k3
    have s3 := s2.trans s3'
    have rf3 : Refs blkV G3 [b0, b1, b2, b3] eB := .cons (s3' _ _ (s2' _ _ (s1' _ _ k0))) (.cons (s3' _ _ (s2' _ _ k1)) (.cons (s3' _ _ k2) (.cons k3 .nil)))
    refine ⟨(by show 4 ≤ sizeLine; decide), fun B hB => ?_⟩
    have s4' := same_upd (o := .lst [.ref b0, .ref b1, .ref b2, .ref b3]) hB
    have k4 : (upd G3 B (.lst [.ref b0, .ref b1, .ref b2, .ref b3])) B = some (.lst ([b0, b1, b2, b3].map V.ref)) := upd_same
    have rf4 := rf3.same s4'
    generalize upd G3 B (.lst [.ref b0, .ref b1, .ref b2, .ref b3]) = G4 at s4' k4 rf4
    have s4 := s3.trans s4'
    show tSeq _ _ _ _ _
    refine at_st (σ' := [some (.ref r), some (.ref B), none, none, none]) rfl ?_
    refine ⟨two, fun S hS => ?_⟩
    have s5' := same_upd (o := .lst [.int 1, .int 8]) hS
    have k5 : (upd G4 S (.lst [.int 1, .int 8])) S = some (.lst (([1, 8] : List Int).map V.int)) := upd_same
    have kB5 := s5' _ _ k4
    have rf5 := rf4.same s5'
    generalize upd G4 S (.lst [.int 1, .int 8]) = G5 at s5' k5 kB5 rf5
    have s5 := s4.trans s5'
    refine ⟨_, rfl, S, B, [1, 8], 16, [b0, b1, b2, b3], eB, rfl, k5, eG, kB5, rf5, eW, by decide, by decide, by decide, fun y zp bl dx dz l ps G6 s6' L hy hbl hzp hl0 hl1 => ?_⟩
    have s6 := s5.trans s6'
    have t6 := Stp.same hR s6
    refine ⟨_, rfl, (by show 8 ≤ sizeLine; decide), fun N hN => ?_⟩
    have sN := same_upd (o := .lst [.int 0, .int 1, .int 2, .int 3, .int 4, .int 5, .int 6, .int 7]) hN
    have kN : (upd G6 N (.lst [.int 0, .int 1, .int 2, .int 3, .int 4, .int 5, .int 6, .int 7])) N = some (.lst [.int 0, .int 1, .int 2, .int 3, .int 4, .int 5, .int 6, .int 7]) := upd_same
    have t7 := t6.trans (Stp.same t6.1 sN)
    have nN : N ≠ r := (t6.1.ne hN).symm
    generalize upd G6 N (.lst [.int 0, .int 1, .int 2, .int 3, .int 4, .int 5, .int 6, .int 7]) = G7 at sN kN t7
    refine ⟨r, N, _, rfl, t7.1, kN, nN, by decide, fun pl ys G8 fpl t8 hpl pm => ?_⟩
    refine ⟨_, _, rfl, ?_⟩
    refine at_st (σ' := [some (.ref r), some (.ref B), none, some (.ref y), some (.ref pl)]) rfl ?_
    have pick : ∀ i : Nat, i < 8 → ∃ p : Int, ys[i]? = some (.int p) ∧ 0 ≤ p ∧ p ≤ 7 := fun i hi => by
      have yl : ys.length = 8 := pm.length_eq
      have e := List.getElem?_eq_getElem (l := ys) (i := i) (by omega)
      have hm := pm.mem_iff.mp (List.mem_of_getElem? e)
      simp only [List.mem_cons, List.not_mem_nil, or_false] at hm
      rcases hm with z | z | z | z | z | z | z | z <;> rw [z] at e <;> exact ⟨_, e, by decide, by decide⟩
    obtain ⟨p0, e0, p00, p07⟩ := pick 0 (by decide)
    obtain ⟨p1, e1, p10, p17⟩ := pick 1 (by decide)
    obtain ⟨p2, e2, p20, p27⟩ := pick 2 (by decide)
    have at0 : atI ys 0 = some (.int p0) := atI_nat (j := 0) e0
    have at1 : atI ys 1 = some (.int p1) := atI_nat (j := 1) e1
    have at2 : atI ys 2 = some (.int p2) := atI_nat (j := 2) e2
    have t68 := t7.trans t8
    have npl : pl ≠ r := (t7.1.ne fpl).symm
    have L6 : LyR K G6 r y zp bl dx ps [1, 8] 16 eB := ⟨L, ((Stp.same hR s5).1.ne hbl).symm, dz, l, hzp, hl1, ((Stp.same hR s5).1.ne hl0).symm⟩
    have L8 := (L6.stpN t6.1 (Stp.same t6.1 sN).n).stpN t7.1 t8.n
    have tb8 := tabs_stp tb hR t68
    refine ⟨_, rfl, ?_⟩
    refine ⟨_, rfl, pl, _, _, _, rfl, rfl, SqL.of hpl, at0, two, fun t1 ht1 => ?_⟩
    have a1 := same_upd (o := .tup [.int 8, .int p0]) ht1
    have c1_1 : (upd G8 t1 (.tup [.int 8, .int p0])) t1 = some (.tup (prV (8, p0))) := upd_same
    have hp1 := a1 _ _ hpl
    generalize upd G8 t1 (.tup [.int 8, .int p0]) = U1 at a1 c1_1 hp1
    have b1 := a1
    refine ⟨_, rfl, pl, _, _, _, rfl, rfl, SqL.of hp1, at1, two, fun t2 ht2 => ?_⟩
    have a2 := same_upd (o := .tup [.int 9, .int p1]) ht2
    have c2_2 : (upd U1 t2 (.tup [.int 9, .int p1])) t2 = some (.tup (prV (9, p1))) := upd_same
    have c2_1 := a2 _ _ c1_1
    have hp2 := a2 _ _ hp1
    generalize upd U1 t2 (.tup [.int 9, .int p1]) = U2 at a2 c2_1 c2_2 hp2
    have b2 := b1.trans a2
    refine ⟨_, rfl, pl, _, _, _, rfl, rfl, SqL.of hp2, at2, two, fun t3 ht3 => ?_⟩
    have a3 := same_upd (o := .tup [.int 10, .int p2]) ht3
    have c3_3 : (upd U2 t3 (.tup [.int 10, .int p2])) t3 = some (.tup (prV (10, p2))) := upd_same
    have c3_1 := a3 _ _ c2_1
    have c3_2 := a3 _ _ c2_2
    have hp3 := a3 _ _ hp2
    generalize upd U2 t3 (.tup [.int 10, .int p2]) = U3 at a3 c3_1 c3_2 c3_3 hp3
    have b3 := b2.trans a3
    refine ⟨(by show 3 ≤ sizeLine; decide), fun t4 ht4 => ?_⟩
    have a4 := same_upd (o := .lst [.ref t1, .ref t2, .ref t3]) ht4
    have c4 : (upd U3 t4 (.lst [.ref t1, .ref t2, .ref t3])) t4 = some (.lst ([t1, t2, t3].map V.ref)) := upd_same
    have rf4 : Refs prV (upd U3 t4 (.lst [.ref t1, .ref t2, .ref t3])) [t1, t2, t3] [(8, p0), (9, p1), (10, p2)] := .cons (a4 _ _ c3_1) (.cons (a4 _ _ c3_2) (.cons (a4 _ _ c3_3) .nil))
    have hp4 := a4 _ _ hp3
    generalize upd U3 t4 (.lst [.ref t1, .ref t2, .ref t3]) = U4 at a4 c4 rf4 hp4
    have b4 := b3.trans a4
    have E3 : E8 [(8, p0), (9, p1), (10, p2)] := e8_3 ⟨.inl rfl, by omega, by omega, by omega⟩ ⟨.inr (.inl rfl), by omega, by omega, by omega⟩ ⟨.inr (.inr rfl), by omega, by omega, by omega⟩ (by decide) (by decide) (by decide)
    have tA := Stp.same t68.1 b4
    have nL : t4 ≠ r := (Stp.same t68.1 b3).1.ne ht4 |>.symm
    refine ⟨r, t4, _, rfl, tA.1, c4, nL, (by show 3 ≤ 1000; decide), fun l2 zs V1 fl2 tB hl2 pm2 => ?_⟩
    have rfB : Refs prV V1 _ _ := rf4.mono fun p xs e => tB.2 p _ (tA.1.tup e) e
    obtain ⟨qs, mm, rfl, rfq, pmq⟩ := refs_pm rfB pm2
    have tAB := t68.trans (tA.trans tB)
    have nl2 : l2 ≠ r := (tA.1.ne fl2).symm
    have hplB := tB.2 _ _ npl hp4
    refine ⟨_, rfl, r, 2, rfl, tAB.1, by decide, by omega, fun d V2 d0 d1 tC => ?_⟩
    have hl3 := tC.2 _ _ nl2 hl2
    have hplC := tC.2 _ _ npl hplB
    have rfC : Refs prV V2 qs mm := rfq.mono fun p xs e => tC.2 p _ (tAB.1.tup e) e
    have tAC := tAB.trans tC
    obtain ⟨k, ek, k2⟩ : ∃ k : Nat, 2 + d = (k : Int) ∧ 2 ≤ k := ⟨(2 + d).toNat, by omega, by omega⟩
    refine ⟨_, _, rfl, rfl, _, rfl, l2, _, rfl, SqL.of hl3, fun M hM => ?_⟩
    have sM := same_upd (o := .lst (cutV (qs.map V.ref) none (some (2 + d)))) hM
    have hM1 : (upd V2 M (.lst (cutV (qs.map V.ref) none (some (2 + d))))) M = some (.lst ((qs.take k).map V.ref)) := by rw [upd_same, ek, cut_to, List.map_take]
    have rfM : Refs prV (upd V2 M (.lst (cutV (qs.map V.ref) none (some (2 + d))))) (qs.take k) (mm.take k) := (rfC.take k).same sM
    have tD := tAC.trans (Stp.same tAC.1 sM)
    have hplD := sM _ _ hplC
    generalize upd V2 M (.lst (cutV (qs.map V.ref) none (some (2 + d)))) = V3 at sM hM1 rfM tD hplD
    have tbD := tabs_stp tb hR tD
    have LD := (L8.stpN t68.1 (tA.trans (tB.trans tC)).n).stpN tAC.1 (Stp.same tAC.1 sM).n
    have EM : E8 (mm.take k) := (E3.perm pmq).sub (List.take_sublist _ _)
    have M7 : ∀ m ∈ mm.take k, m.2 ≤ 7 := fun m hm => by
      have := pmq.mem_iff.mp (List.mem_of_mem_take hm)
      simp only [List.mem_cons, List.not_mem_nil, or_false] at this
      rcases this with rfl | rfl | rfl <;> assumption
    have Mne : mm.take k ≠ [] := fun z => by
      have h1 := congrArg List.length z
      have h2 := pmq.length_eq
      rw [List.length_take, h2] at h1
      have h3 : min k 3 = 0 := h1
      omega
    have Mlen : (mm.take k).length ≤ 200 := by
      have h2 : mm.length = 3 := pmq.length_eq
      rw [List.length_take]
      omega
    show tSeq _ _ _ _ _
    refine at_st (σ' := [some (.ref r), some (.ref B), some (.ref M), some (.ref y), some (.ref pl)]) rfl ?_
    refine ⟨_, rfl, ?_⟩
    refine ⟨two, fun t5 ht5 => ?_⟩
    have a5 := same_upd (o := .tup [.int 8, .int 5]) ht5
    have c5_5 : (upd V3 t5 (.tup [.int 8, .int 5])) t5 = some (.tup (prV (8, 5))) := upd_same
    generalize upd V3 t5 (.tup [.int 8, .int 5]) = U5 at a5 c5_5
    have b5 := a5
    refine ⟨two, fun t6 ht6 => ?_⟩
    have a6 := same_upd (o := .tup [.int 9, .int 0]) ht6
    have c6_6 : (upd U5 t6 (.tup [.int 9, .int 0])) t6 = some (.tup (prV (9, 0))) := upd_same
    have c6_5 := a6 _ _ c5_5
    generalize upd U5 t6 (.tup [.int 9, .int 0]) = U6 at a6 c6_5 c6_6
    have b6 := b5.trans a6
    refine ⟨(by show 2 ≤ sizeLine; decide), fun t7 ht7 => ?_⟩
    have a7 := same_upd (o := .lst [.ref t5, .ref t6]) ht7
    have c7 : (upd U6 t7 (.lst [.ref t5, .ref t6])) t7 = some (.lst ([t5, t6].map V.ref)) := upd_same
    have rf7 : Refs prV (upd U6 t7 (.lst [.ref t5, .ref t6])) [t5, t6] [(8, 5), (9, 0)] := .cons (a7 _ _ c6_5) (.cons (a7 _ _ c6_6) .nil)
    generalize upd U6 t7 (.lst [.ref t5, .ref t6]) = U7 at a7 c7 rf7
    have b7 := b6.trans a7
    have EA : E8 [(8, 5), (9, 0)] := e8_2 ⟨.inl rfl, by decide, by decide, by decide⟩ ⟨.inr (.inl rfl), by decide, by decide, by decide⟩ (by decide)
    have xA := ext_same b7
    obtain ⟨dA, thA⟩ := thx_refs (K := K) (extN_stp tD.1 xA).1 c7 rf7 EA.b (by decide)
    have DA := EA.first (by decide) (by decide)
    refine ⟨y, zp, bl, dx, ps, [1, 8], 16, eB, .ref t7, dA, _, some 0, rfl, LD.ly.extN xA, by decide, thA, DA.ok, DA.fst, DA.sm, tabs_same tbD b7, fun W1 y1 tb1 => ⟨_, rfl, iteF ?_⟩⟩
    have z1 := ext_trans xA y1
    refine ⟨_, rfl, ?_⟩
    refine ⟨two, fun t8 ht8 => ?_⟩
    have a8 := same_upd (o := .tup [.int 10, .int 0]) ht8
    have c8_8 : (upd W1 t8 (.tup [.int 10, .int 0])) t8 = some (.tup (prV (10, 0))) := upd_same
    generalize upd W1 t8 (.tup [.int 10, .int 0]) = U8 at a8 c8_8
    have b8 := a8
    refine ⟨two, fun t9 ht9 => ?_⟩
    have a9 := same_upd (o := .tup [.int 8, .int 1]) ht9
    have c9_9 : (upd U8 t9 (.tup [.int 8, .int 1])) t9 = some (.tup (prV (8, 1))) := upd_same
    have c9_8 := a9 _ _ c8_8
    generalize upd U8 t9 (.tup [.int 8, .int 1]) = U9 at a9 c9_8 c9_9
    have b9 := b8.trans a9
    refine ⟨two, fun t10 ht10 => ?_⟩
    have a10 := same_upd (o := .tup [.int 9, .int 7]) ht10
    have c10_10 : (upd U9 t10 (.tup [.int 9, .int 7])) t10 = some (.tup (prV (9, 7))) := upd_same
    have c10_8 := a10 _ _ c9_8
    have c10_9 := a10 _ _ c9_9
    generalize upd U9 t10 (.tup [.int 9, .int 7]) = U10 at a10 c10_8 c10_9 c10_10
    have b10 := b9.trans a10
    refine ⟨(by show 3 ≤ sizeLine; decide), fun t11 ht11 => ?_⟩
    have a11 := same_upd (o := .lst [.ref t8, .ref t9, .ref t10]) ht11
    have c11 : (upd U10 t11 (.lst [.ref t8, .ref t9, .ref t10])) t11 = some (.lst ([t8, t9, t10].map V.ref)) := upd_same
    have rf11 : Refs prV (upd U10 t11 (.lst [.ref t8, .ref t9, .ref t10])) [t8, t9, t10] [(10, 0), (8, 1), (9, 7)] := .cons (a11 _ _ c10_8) (.cons (a11 _ _ c10_9) (.cons (a11 _ _ c10_10) .nil))
    generalize upd U10 t11 (.lst [.ref t8, .ref t9, .ref t10]) = U11 at a11 c11 rf11
    have b11 := b10.trans a11
    have EB : E8 [(10, 0), (8, 1), (9, 7)] := e8_3 ⟨.inr (.inr rfl), by decide, by decide, by decide⟩ ⟨.inl rfl, by decide, by decide, by decide⟩ ⟨.inr (.inl rfl), by decide, by decide, by decide⟩ (by decide) (by decide) (by decide)
    have xB := ext_trans z1 (ext_same b11)
    obtain ⟨dB, thB⟩ := thx_refs (K := K) (extN_stp tD.1 xB).1 c11 rf11 EB.b (by decide)
    have DB := EB.first (by decide) (by decide)
    refine ⟨y, zp, bl, dx, ps, [1, 8], 16, eB, .ref t11, dB, _, some 0, rfl, LD.ly.extN xB, by decide, thB, DB.ok, DB.fst, DB.sm, tabs_same tb1 b11, fun W2 y2 tb2 => ⟨_, rfl, iteF ?_⟩⟩
    have z2 := ext_trans xB y2
    obtain ⟨dC, thC⟩ := thx_refs (K := K) tD.1 hM1 rfM EM.b Mlen
    have DC := EM.first M7 Mne
    refine ⟨_, rfl, _, rfl, ?_⟩
    refine ⟨y, zp, bl, dx, ps, [1, 8], 16, eB, .ref M, dC, _, some 0, rfl, LD.ly.extN z2, by decide, thC.ext z2, DC.ok, DC.fst, DC.sm, tb2, fun W3 y3 tb3 => ⟨true, rfl, iteT ?_⟩⟩
    have z3 := ext_trans z2 y3
    have hpl3 := z3 _ _ hplD (fun ps z => by cases z)
    refine ⟨_, rfl, ?_⟩
    refine ⟨two, fun t12 ht12 => ?_⟩
    have a12 := same_upd (o := .tup [.int 8, .int 15]) ht12
    have c12_12 : (upd W3 t12 (.tup [.int 8, .int 15])) t12 = some (.tup (prV (8, 15))) := upd_same
    have hp12 := a12 _ _ hpl3
    generalize upd W3 t12 (.tup [.int 8, .int 15]) = U12 at a12 c12_12 hp12
    have b12 := a12
    refine ⟨_, rfl, pl, _, _, _, rfl, rfl, SqL.of hp12, at0, two, fun t13 ht13 => ?_⟩
    have a13 := same_upd (o := .tup [.int 9, .int p0]) ht13
    have c13_13 : (upd U12 t13 (.tup [.int 9, .int p0])) t13 = some (.tup (prV (9, p0))) := upd_same
    have c13_12 := a13 _ _ c12_12
    have hp13 := a13 _ _ hp12
    generalize upd U12 t13 (.tup [.int 9, .int p0]) = U13 at a13 c13_12 c13_13 hp13
    have b13 := b12.trans a13
    refine ⟨two, fun t14 ht14 => ?_⟩
    have a14 := same_upd (o := .tup [.int 10, .int 1]) ht14
    have c14_14 : (upd U13 t14 (.tup [.int 10, .int 1])) t14 = some (.tup (prV (10, 1))) := upd_same
    have c14_12 := a14 _ _ c13_12
    have c14_13 := a14 _ _ c13_13
    have hp14 := a14 _ _ hp13
    generalize upd U13 t14 (.tup [.int 10, .int 1]) = U14 at a14 c14_12 c14_13 c14_14 hp14
    have b14 := b13.trans a14
    refine ⟨(by show 3 ≤ sizeLine; decide), fun t15 ht15 => ?_⟩
    have a15 := same_upd (o := .lst [.ref t12, .ref t13, .ref t14]) ht15
    have c15 : (upd U14 t15 (.lst [.ref t12, .ref t13, .ref t14])) t15 = some (.lst ([t12, t13, t14].map V.ref)) := upd_same
    have rf15 : Refs prV (upd U14 t15 (.lst [.ref t12, .ref t13, .ref t14])) [t12, t13, t14] [(8, 15), (9, p0), (10, 1)] := .cons (a15 _ _ c14_12) (.cons (a15 _ _ c14_13) (.cons (a15 _ _ c14_14) .nil))
    have hp15 := a15 _ _ hp14
    generalize upd U14 t15 (.lst [.ref t12, .ref t13, .ref t14]) = U15 at a15 c15 rf15 hp15
    have b15 := b14.trans a15
    have ED : E8 [(8, 15), (9, p0), (10, 1)] := e8_3 ⟨.inl rfl, by decide, by decide, by decide⟩ ⟨.inr (.inl rfl), by omega, by omega, by omega⟩ ⟨.inr (.inr rfl), by decide, by decide, by decide⟩ (by decide) (by decide) (by decide)
    have xD := ext_trans z3 (ext_same b15)
    obtain ⟨dD, thD⟩ := thx_refs (K := K) (extN_stp tD.1 xD).1 c15 rf15 ED.b (by show 3 ≤ 200; decide)
    have DD := ED.due (i := 1) rfl p07 (by decide) fun j hj => by
      obtain rfl : j = 0 := by omega
      exact ED.far rfl fun m hm ne => by
        simp only [List.mem_cons, List.not_mem_nil, or_false] at hm
        rcases hm with rfl | rfl | rfl
        · exact absurd rfl ne
        · exact p07
        · decide
    refine ⟨y, zp, bl, dx, ps, [1, 8], 16, eB, .ref t15, dD, _, some 1, rfl, LD.ly.extN xD, by decide, thD, DD.ok, DD.fst, DD.sm, tabs_same tb3 b15, fun W4 y4 tb4 => ?_⟩
    exact q W4 (tD.n.trans (extN_stp tD.1 (ext_trans xD y4))) tb4
end
end K34

set_option Elab.async false
set_option linter.all false
set_option maxRecDepth 100000
set_option maxHeartbeats 1600000
set_option pp.maxSteps 900
namespace K34
open PySem PySem.Spec PyProof.Rows L2 Gu Ex LamX
theorem tqa_blks {K : PySem.W.Frag} {H : Hp} : ∀ {ps : List Addr} {bs : List Blk}, Refs blkV H ps bs → (∀ b ∈ bs, 0 ≤ b.1 ∧ b.1 ≤ 1000000000000 ∧ b.2.1 ≤ 1000) → TqAll K H (ps.map V.ref) (bs.map blkD) 1 200
  | _, _, .nil, _ => tqa_nil
  | _, _, .cons (t := b) h hs, ok => by
    have b39 : (10 : Int) ^ 39 = 1000000000000000000000000000000000000000 := by decide
    obtain ⟨h1, h2, h3⟩ := ok b List.mem_cons_self
    exact tqa_cons (((tqa_cons (m := 41) (n := 0) (tq_int (i := b.1) (by omega) (by omega)) (tqa_cons (tq_int (i := (b.2.1 : Int)) (by omega) (by omega)) (tqa_cons (tq_bl b.2.2) tqa_nil))).tup h).mono (by decide) (by show 3 * (41 + 2) + 3 ≤ 200; decide)) (tqa_blks hs fun c hc => ok c (List.mem_cons_of_mem _ hc))
theorem Lb.stepN {ns : List Int} {n : Int} {H H' : Hp} {r s a : Addr} {qs : List Addr} {bs : List Blk} (h : Lb ns n H s a qs bs) (R : Rng H r) (sr : s ≠ r) (t : StpN r H H') : Lb ns n H' s a qs bs :=
  ⟨t.lst sr h.hs, t.lst (R.lst h.ha) h.ha, h.rf.mono fun p xs e => t.tup (R.tup e) e, h.wf, h.gd, h.n1, h.n2, h.ln⟩
theorem pr1_refs {ns : List Int} {n : Int} {bs cs : List Blk} {H : Hp} {ps : List Addr} {mm : List Pr} (R : Rr ns n bs mm cs) (g : Good ns) (n2 : n ≤ 1000000000000) (rf : Refs prV H ps mm) : ∀ v ∈ ps.map V.ref, Pr1 H v := fun v hv => by
  obtain ⟨i, hi⟩ := List.mem_iff_getElem?.mp hv
  obtain ⟨p, hp, rfl⟩ := ref_of hi
  obtain ⟨m, hm, e⟩ := rf.get hp
  obtain ⟨k, hk, b0, _, b1⟩ := R.fit.at_ i m.1 m.2 hm
  obtain ⟨c1, c2, c3, c4⟩ := R.wb.ok _ hk
  have c1' : k < ns.length := c1
  have c4' : m.1 + sz ns k ≤ n := c4
  have c2' : 0 ≤ m.1 := c2
  have s1 := (chain g).pos _ c1'
  exact ⟨p, m.1, m.2, rfl, e, ⟨c2', by omega⟩, b0, by omega⟩
theorem Wf.bnd {ns : List Int} {n : Int} {bs : List Blk} (w : Wf ns n bs) (g : Good ns) (n2 : n ≤ 1000000000000) : ∀ b ∈ bs, 0 ≤ b.1 ∧ b.1 ≤ 1000000000000 ∧ b.2.1 ≤ 1000 := fun b hb => by
  obtain ⟨h1, h2, h3, h4⟩ := w.ok b hb
  have s1 := w.pos g hb
  unfold bEnd at h4
  have := g.len.2
  exact ⟨h2, by omega, by omega⟩
section
variable {P : Program} {w : World} {K : PySem.W.Frag} {mg : Str → Option Value} {base : Heap} {f : Addr} {fd : FuncData}
def spRight (K : PySem.W.Frag) (Pt : Nat → Addr) : Sp := fun vs H Q _ => ∃ r : Addr, vs = [.ref r] ∧ Rng H r ∧ Tabs (tabs Pt) H ∧ ∀ H', StpN r H H' → Tabs (tabs Pt) H' → Q (.bl true) H'
theorem sc__law_right : FnScope ["_law_rng_here", "_law_turn", "_law_odd_here", "_law_sizes_here", "_law_length", "_law_blocks_here", "_law_layout", "_law_before", "_law_pile", "_law_into", "_law_spoilt_here", "_law_other"] ["_law_rng_here"] (defScope (top 64)) := ⟨rfl, rfl, rfl, by decide +kernel, rfl, by decide +kernel, by decide +kernel⟩
theorem ok_right {Pt : Nat → Addr} (T : Tx K mg) (D__law_draw : Df P w K mg base 1 "_law_draw" ["_law_rng_here", "_law_many"] spDraw) (D__law_world : Df P w K mg base 3 "_law_world" ["_law_rng_here"] spWorld) (D__law_made : Df P w K mg base 9 "_law_made" ["_law_sizes_here", "_law_length", "_law_blocks_here"] (spMadeL K))
    (D__law_moves : Df P w K mg base 4 "_law_moves" ["_law_rng_here", "_law_sizes_here", "_law_length", "_law_blocks_here"] spMovesC) (D__law_spoilt : Df P w K mg base 4 "_law_spoilt" ["_law_rng_here", "_law_sizes_here", "_law_length", "_law_blocks_here", "_law_pile"] (spSpoilt K)) (D__law_into_one : Df P w K mg base 3 "_law_into_one" ["_law_rng_here", "_law_sizes_here", "_law_blocks_here", "_law_pile"] (spInto K))
    (D__law_problem : Df P w K mg base 3 "_law_problem" ["_law_sizes_here", "_law_length", "_law_blocks_here", "_law_value"] (spProb2 K)) (M_blocks : Mf P w K mg base 1 "Layout" "blocks" ["self"] (spBlk K))
    (D__law_list_right : DfG P w K mg base 15 "_law_list_right" ["_law_layout", "_law_value", "_law_due"] (spLR K Pt)) (D__law_alone_right : DfG P w K mg base 15 "_law_alone_right" ["_law_rng_here", "_law_value", "_law_other"] (spAR K Pt)) (F : FnP K "_law_right" "_law_right" (top 64) f fd) :
    FnG P w K mg base CX0 16 f fd ["_law_rng_here"] (spRight K Pt) := by
  refine okG F sc__law_right (fun vs H Q E h => ?_) (fun cdv A outer s H vs Q E hr h => ⟨_, PSs.nox (pss_cons (ps_asg (pcall D__law_world hr.r (pa_cons (pv 0) pa_nil)) (pg_tup (by rfl) (pgs_cons (pg_name (i := 3) sc__law_right.nd rfl (by first | exact Or.inl rfl | exact Or.inr rfl)) (pgs_cons (pg_name (i := 4) sc__law_right.nd rfl (by first | exact Or.inl rfl | exact Or.inr rfl)) (pgs_cons (pg_name (i := 5) sc__law_right.nd rfl (by first | exact Or.inl rfl | exact Or.inr rfl)) pgs_nil))))) (pss_cons (ps_par3 (by rfl) sc__law_right.nd (i := 6) (j := 7) (l := 8) rfl rfl rfl (by decide) (by decide) (by decide) rfl rfl rfl (pa_cons (pcall D__law_made hr.r (pa_cons (pv 3) (pa_cons (pv 4) (pa_cons (pv 5) pa_nil)))) (pa_cons (pe_callB (call_reprQ hr T.sys) (by rfl) T.n_repr (by decide +kernel) (pa_cons (pv 5) pa_nil)) (pa_cons (pe_lst pa_nil) pa_nil))) (by rfl)) (pss_cons (ps_for PassesOwn.never rfl (pi_range1 rfl T.n_range (pa_cons pe_int pa_nil)) (pg_name (i := 1) sc__law_right.nd rfl (by first | exact Or.inl rfl | exact Or.inr rfl)) (pss_cons (ps_set (i := 8) sc__law_right.nd rfl (by first | exact Or.inl rfl | exact Or.inr rfl) (pe_ix ix_tup (pcall D__law_moves hr.r (pa_cons (pv 0) (pa_cons (pv 3) (pa_cons (pv 4) (pa_cons (pv 5) pa_nil))))) pe_int (fun _ _ => rfl))) (pss_cons (ps_par (by rfl) sc__law_right.nd (i := 10) (j := 11) rfl rfl (by decide) rfl rfl (pa_cons (pcall D__law_spoilt hr.r (pa_cons (pv 0) (pa_cons (pv 3) (pa_cons (pv 4) (pa_cons (pv 5) (pa_cons (pv 8) pa_nil)))))) (pa_cons (pcall D__law_spoilt hr.r (pa_cons (pv 0) (pa_cons (pv 3) (pa_cons (pv 4) (pa_cons (pv 5) (pa_cons (pv 8) pa_nil)))))) pa_nil)) (by rfl)) (pss_cons (ps_if (pt_not (pt_val (pcallG D__law_list_right hr (pa_cons (pv 6) (pa_cons (pv 10) (pa_cons (pcall D__law_problem hr.r (pa_cons (pv 3) (pa_cons (pv 4) (pa_cons (pv 5) (pa_cons (pv 10) pa_nil))))) pa_nil)))))) (pss_one (ps_ret pe_bl)) pss_nil) (pss_cons (ps_set (i := 9) sc__law_right.nd rfl (by first | exact Or.inl rfl | exact Or.inr rfl) (pcall D__law_into_one hr.r (pa_cons (pv 0) (pa_cons (pv 3) (pa_cons (pv 5) (pa_cons (pv 8) pa_nil)))))) (pss_cons (ps_if (pt_not (pt_val (pcallG D__law_list_right hr (pa_cons (pv 6) (pa_cons (pv 9) (pa_cons (pcall D__law_problem hr.r (pa_cons (pv 3) (pa_cons (pv 4) (pa_cons (pv 5) (pa_cons (pv 9) pa_nil))))) pa_nil)))))) (pss_one (ps_ret pe_bl)) pss_nil) (pss_one (ps_if (PW.pt (pw_or (pt_not (pt_val (pcallG D__law_alone_right hr (pa_cons (pv 0) (pa_cons (pv 10) (pa_cons (pv 11) pa_nil)))))) (pw_or1 (pt_cmpR op_ne (pe_callB (call_reprQ hr T.sys) (by rfl) T.n_repr (by decide +kernel) (pa_cons (pmeth0 M_blocks hr.r (pv 6)) pa_nil)) (pv 7) (nomark _))))) (pss_one (ps_ret pe_bl)) pss_nil)))))))) (pss_cons (ps_for PassesOwn.never rfl (pi_list (pe_lst (pa_cons pe_non (pa_cons pe_int (pa_cons pe_bl (pa_cons pe_str (pa_cons (pe_tup pa_nil) (pa_cons pe_dnewK (pa_cons (pe_callTy call_tuple_of (by rfl) T.n_tuple (by decide +kernel) (pa_cons (pv 8) pa_nil)) (pa_cons (pe_tup (pa_cons (pe_tup (pa_cons pe_int (pa_cons pe_int pa_nil))) pa_nil)) (pa_cons (pcall D__law_draw hr.r (pa_cons (pv 0) (pa_cons pe_int pa_nil))) pa_nil))))))))))) (pg_name (i := 2) sc__law_right.nd rfl (by first | exact Or.inl rfl | exact Or.inr rfl)) (pss_one (ps_if (PW.pt (pw_or (pt_not (pt_val (pcallG D__law_list_right hr (pa_cons (pv 6) (pa_cons (pv 2) (pa_cons pe_int pa_nil)))))) (pw_or1 (pt_not (pt_val (pcallG D__law_alone_right hr (pa_cons (pv 0) (pa_cons (pv 2) (pa_cons (pe_lst pa_nil) pa_nil))))))))) (pss_one (ps_ret pe_bl)) pss_nil))) (pss_one (ps_ret (pe_cmpR op_eq (pe_callB (call_reprQ hr T.sys) (by rfl) T.n_repr (by decide +kernel) (pa_cons (pmeth0 M_blocks hr.r (pv 6)) pa_nil)) (pv 7) (nomark _)))))))), ?_⟩)
  · obtain ⟨r, rfl, _⟩ := h
    rfl
  · obtain ⟨r, rfl, hR, tb, q⟩ := h
    have sl : sizeLine = 16777216 := sizeLine_eq
    refine ⟨_, rfl, r, rfl, hR, fun t s a ns n qs bs G1 t1 ht B sr => ?_⟩
    refine ⟨t, _, rfl, .inl (.inl ht), rfl, _, _, rfl, _, _, rfl, _, _, rfl, rfl, ?_⟩
    have n1 := B.n1
    have n2 := B.n2
    have gd := B.gd
    have wf := B.wf
    have b16 := B.ln
    show tSeq _ _ _ _ _
    refine at_st (σ' := [some (.ref r), none, none, some (.ref s), some (.int n), some (.ref a), none, none, none, none, none, none]) rfl ?_
    refine ⟨_, rfl, _, rfl, _, rfl, s, a, ns, n, qs, bs, rfl, B.hs, gd, B.ha, B.rf, wf, by omega, n1, n2, fun y zp bl dx dz l ps G2 s2 L hy hbl hzp hl0 hl1 => ?_⟩
    have LR2 : LyR K G2 r y zp bl dx ps ns n bs := ⟨L, (t1.1.ne hbl).symm, dz, l, hzp, hl1, (t1.1.ne hl0).symm⟩
    have B2 := B.same s2
    have bqs := B.rf.len
    have tqB : ∀ {G : Hp} {a : Addr} {qs : List Addr}, G a = some (.lst (qs.map V.ref)) → Refs blkV G qs bs → Tq K G (.ref a) (.list (bs.map blkD)) 2 5000 := fun {G a qs} e rf =>
      ((tqa_blks rf (wf.bnd gd n2)).lst e).mono (by decide) (by
        have := rf.len
        rw [List.length_map]
        omega)
    have tq0 := tqB B2.ha B2.rf
    refine ⟨_, rfl, _, _, rfl, tq0.dq, tq0.sh, Nat.le_trans tq0.dp (by decide), Nat.le_trans tq0.ln (by decide), ?_⟩
    refine ⟨(by show 0 ≤ sizeLine; decide), fun e0 he0 => ?_⟩
    have s3' := same_upd (o := .lst []) he0
    have k3 : (upd G2 e0 (.lst [])) e0 = some (.lst []) := upd_same
    have t2 := t1.trans (Stp.same t1.1 s2)
    have ne0 : e0 ≠ r := (t2.1.ne he0).symm
    have t3 := t2.trans (Stp.same t2.1 s3')
    have B3 := B2.same s3'
    have LR3 := LR2.stpN t2.1 (Stp.same t2.1 s3').n
    have tb3 := tabs_stp tb hR t3
    generalize upd G2 e0 (.lst []) = G3 at s3' k3 t3 B3 LR3 tb3
    refine ⟨_, _, _, rfl, ?_⟩
    refine at_st (σ' := [some (.ref r), none, none, some (.ref s), some (.int n), some (.ref a), some (.ref y), some (.str (PyData.list (bs.map blkD)).shown), some (.ref e0), none, none, none]) rfl ?_
    refine ⟨8, rfl, by decide, by decide, ?_⟩
    refine for_range (fun i σ G => ∃ (x1 x9 x10 x11 : Option V) (l : Addr) (xs : List V), σ = [some (.ref r), x1, none, some (.ref s), some (.int n), some (.ref a), some (.ref y), some (.str (PyData.list (bs.map blkD)).shown), some (.ref l), x9, x10, x11] ∧ StpN r G3 G ∧ Tabs (tabs Pt) G ∧ G l = some (.lst xs) ∧ l ≠ r ∧ (∀ v ∈ xs, Pr1 G v) ∧ xs.length ≤ 16)
      ⟨none, none, none, none, e0, [], rfl, StpN.refl t3.1, tb3, k3, ne0, (fun v hv => nomatch hv), by decide⟩ ?_ ?_
    · rintro i σ G hi ⟨x1, x9, x10, x11, l0, xs0, rfl, tG, tbG, _⟩
      have BG := B3.stepN t3.1 sr tG
      have LG := LR3.stpN t3.1 tG
      refine ⟨_, rfl, _, rfl, _, rfl, _, rfl, r, s, a, ns, n, qs, bs, rfl, tG.1, BG, sr, fun t l a2 pp qs2 mm cs G4 t4 ht fl fa2 hl rfm _ rr m16 => ?_⟩
      refine ⟨t, _, _, _, rfl, rfl, .inl (.inl ht), rfl, ?_⟩
      have lr : l ≠ r := (tG.1.ne fl).symm
      have px := pr1_refs rr gd n2 rfm
      have rl := rfm.len
      have B4 := BG.step tG.1 sr t4
      refine go_nm (nx_of (σ' := [some (.ref r), some (.int (0 + (i : Nat))), none, some (.ref s), some (.int n), some (.ref a), some (.ref y), some (.str (PyData.list (bs.map blkD)).shown), some (.ref l), x9, x10, x11]) rfl ?_)
      obtain ⟨em, em1, Em⟩ := els_pr (K := K) t4.1 (xs := pp.map V.ref) px
      have eml := congrArg List.length em1
      rw [List.length_map, List.length_map] at eml
      have hle : G4 l = some (.lst (em.map (·.1))) := by rw [em1]; exact hl
      refine ⟨_, rfl, _, rfl, _, rfl, _, rfl, _, rfl, r, s, a, l, ns, n, qs, bs, em, rfl, t4.1, B4, sr, hle, lr, Em, by omega, fun l1 es1 G5 t5 fl1 l1r hl1 Es1 le1 => ?_⟩
      have hle5 := t5.2 _ _ lr hle
      refine ⟨_, rfl, _, rfl, _, rfl, _, rfl, _, rfl, r, s, a, l, ns, n, qs, bs, em, rfl, t5.1, B4.step t4.1 sr t5, sr, hle5, lr, Em.step t5, by omega, fun l2 es2 G6 t6 fl2 l2r hl2 Es2 le2 => ?_⟩
      refine ⟨_, _, rfl, ?_⟩
      refine at_st (σ' := [some (.ref r), some (.int (0 + (i : Nat))), none, some (.ref s), some (.int n), some (.ref a), some (.ref y), some (.str (PyData.list (bs.map blkD)).shown), some (.ref l), x9, some (.ref l1), some (.ref l2)]) rfl ?_
      have t46 := t5.trans t6
      have B6 := B4.step t4.1 sr t46
      have tG6 := tG.trans (t4.trans t46).n
      have L6 := LR3.stpN t3.1 tG6
      have tb6 := tabs_stp tbG tG.1 (t4.trans t46)
      have thA := thx_els (K := K) t6.1 (t6.2 _ _ l1r hl1) (Es1.step t6) (by omega)
      have lnA : LenL (some (es1.map (·.2.1))) := lenL_els (by omega)
      refine ⟨_, rfl, _, rfl, _, rfl, _, rfl, _, rfl, _, rfl, s, a, ns, n, qs, bs, .ref l1, _, rfl, B6, (thA G6 ext_refl).1, lnA, fun due G7 D s7 => ?_⟩
      have x7 := ext_same s7
      refine ⟨y, zp, bl, dx, ps, ns, n, bs, .ref l1, _, _, due, rfl, L6.ly.extN x7, by omega, thA.ext x7, D.ok, D.fst, D.sm, tabs_same tb6 s7, fun G8 x8 tb8 => ⟨_, rfl, iteF ?_⟩⟩
      have x68 := ext_trans x7 x8
      have t68 := extN_stp t6.1 x68
      have tG8 := tG6.trans t68
      have B8 := B3.stepN t3.1 sr tG8
      have hl8 := x68 _ _ (t46.2 _ _ lr hl) (fun ps z => by cases z)
      have px8 : ∀ v ∈ pp.map V.ref, Pr1 G8 v := fun v hv => (px v hv).mono fun p xs e => x68 _ _ (t46.2 p _ (t4.1.tup e) e) (fun ps z => by cases z)
      show tSeq _ _ _ _ _
      refine ⟨_, rfl, _, rfl, _, rfl, _, rfl, r, s, a, l, ns, n, qs, bs, pp.map V.ref, rfl, tG8.1, B8, sr, hl8, lr, px8, (by rw [List.length_map]; omega), fun l3 es3 G9 t9 l3r hl3 Es3 le3 => ?_⟩
      refine go_nm (nx_of (σ' := [some (.ref r), some (.int (0 + (i : Nat))), none, some (.ref s), some (.int n), some (.ref a), some (.ref y), some (.str (PyData.list (bs.map blkD)).shown), some (.ref l), some (.ref l3), some (.ref l1), some (.ref l2)]) rfl ?_)
      have tG9 := tG8.trans t9.n
      have B9 := B3.stepN t3.1 sr tG9
      have L9 := LR3.stpN t3.1 tG9
      have tb9 := tabs_stp tb8 tG8.1 t9
      have thB := thx_els (K := K) t9.1 hl3 Es3 (by omega)
      have lnB : LenL (some (es3.map (·.2.1))) := lenL_els (by omega)
      refine ⟨_, rfl, _, rfl, _, rfl, _, rfl, _, rfl, _, rfl, s, a, ns, n, qs, bs, .ref l3, _, rfl, B9, (thB G9 ext_refl).1, lnB, fun due2 Ga D2 sa => ?_⟩
      have xa := ext_same sa
      refine ⟨y, zp, bl, dx, ps, ns, n, bs, .ref l3, _, _, due2, rfl, L9.ly.extN xa, by omega, thB.ext xa, D2.ok, D2.fst, D2.sm, tabs_same tb9 sa, fun Gb xb tbb => ⟨_, rfl, iteF ?_⟩⟩
      have x9b := ext_trans xa xb
      have t6b := (t68.trans t9.n).trans (extN_stp t9.1 x9b)
      have tGb := tG6.trans t6b
      have thA2 := thx_els (K := K) t6b.1 (t6b.lst l1r (t6.2 _ _ l1r hl1)) ((Es1.step t6).stepN t6b) (by omega)
      have thC2 := thx_els (K := K) t6b.1 (t6b.lst l2r hl2) (Es2.stepN t6b) (by omega)
      have lnC : LenL (some (es2.map (·.2.1))) := lenL_els (by omega)
      refine ⟨_, rfl, _, rfl, _, rfl, .ref r, .ref l1, .ref l2, _, _, _, _, rfl, thA2, thC2, lnA, lnC, tbb, fun Gc xc tbc => ⟨_, rfl, iteF ?_⟩⟩
      have tGc := tGb.trans (extN_stp tGb.1 xc)
      have Lc := LR3.stpN t3.1 tGc
      refine ⟨_, rfl, y, dx, _, rfl, Lc.ly.at_, lay_nm (by decide +kernel), y, zp, bl, dx, ps, ns, n, bs, rfl, Lc.ly, fun bb hbb => ?_⟩
      have sb := same_upd (o := .lst (ps.map V.ref)) hbb
      have tqb := tqB (G := upd Gc bb (.lst (ps.map V.ref))) (a := bb) (qs := ps) upd_same (Lc.ly.rf.same sb)
      refine ⟨_, _, rfl, tqb.dq, tqb.sh, Nat.le_trans tqb.dp (by decide), Nat.le_trans tqb.ln (by decide), _, rfl, rfl, _, rfl, ifF (by rw [decide_eq_true rfl]; rfl) ?_⟩
      have tGd := tGc.trans (Stp.same tGc.1 sb).n
      have t8d := (((t9.n.trans (extN_stp t9.1 x9b)).trans (extN_stp tGb.1 xc)).trans (Stp.same tGc.1 sb).n)
      refine ⟨_, _, _, _, l, pp.map V.ref, rfl, tGd, tabs_same tbc sb, t8d.lst lr hl8, lr, fun v hv => (px8 v hv).mono fun p xs e => t8d.tup (tG8.1.tup e) e, by rw [List.length_map]; omega⟩
    · rintro σ G ⟨x1, x9, x10, x11, l, xs, rfl, tG, tbG, hl, lr, px, l16⟩
      have zero : 0 ≤ sizeLine := by decide
      refine ⟨zero, fun ua hua => ?_⟩
      have sa := same_upd (o := .tup []) hua
      have ka : (upd G ua (.tup [])) ua = some (.tup []) := upd_same
      generalize upd G ua (.tup []) = Ga at sa ka
      refine fun ub hub => ?_
      have sb' := same_upd (o := .dK []) hub
      have kb : (upd Ga ub (.dK [])) ub = some (.dK []) := upd_same
      have ka2 := sb' _ _ ka
      generalize upd Ga ub (.dK []) = Gb at sb' kb ka2
      have sb := sa.trans sb'
      refine ⟨_, rfl, l, xs, rfl, .inl ⟨SqL.of (sb _ _ hl), fun uc huc => ?_⟩⟩
      have sc' := same_upd (o := .tup xs) huc
      have kc : (upd Gb uc (.tup xs)) uc = some (.tup xs) := upd_same
      have ka3 := sc' _ _ ka2
      have kb3 := sc' _ _ kb
      generalize upd Gb uc (.tup xs) = Gc at sc' kc ka3 kb3
      have sc := sb.trans sc'
      refine ⟨(by show 2 ≤ sizeLine; decide), fun ud hud => ?_⟩
      have sd' := same_upd (o := .tup [.int 0, .int 1]) hud
      have kd : (upd Gc ud (.tup [.int 0, .int 1])) ud = some (.tup [.int 0, .int 1]) := upd_same
      have ka4 := sd' _ _ ka3
      have kb4 := sd' _ _ kb3
      have kc4 := sd' _ _ kc
      generalize upd Gc ud (.tup [.int 0, .int 1]) = Gd at sd' kd ka4 kb4 kc4
      have sd := sc.trans sd'
      refine ⟨(by show 1 ≤ sizeLine; decide), fun ue hue => ?_⟩
      have se' := same_upd (o := .tup [.ref ud]) hue
      have ke : (upd Gd ue (.tup [.ref ud])) ue = some (.tup [.ref ud]) := upd_same
      have ka5 := se' _ _ ka4
      have kb5 := se' _ _ kb4
      have kc5 := se' _ _ kc4
      have kd5 := se' _ _ kd
      generalize upd Gd ue (.tup [.ref ud]) = Ge at se' ke ka5 kb5 kc5 kd5
      have se := sd.trans se'
      have te := Stp.same tG.1 se
      refine ⟨_, rfl, r, 9, rfl, te.1, by decide, by decide, fun d9 Gf d90 d91 tf => ?_⟩
      have ka6 := tf.2 _ _ (te.1.tup ka5) ka5
      have kb6 := tf.2 _ _ (te.1.dct kb5) kb5
      have kc6 := tf.2 _ _ (te.1.tup kc5) kc5
      have kd6 := tf.2 _ _ (te.1.tup kd5) kd5
      have ke6 := tf.2 _ _ (te.1.tup ke) ke
      refine ⟨(by show 9 ≤ sizeLine; decide), fun O hO => ?_⟩
      have sg' := same_upd (o := .lst [.non, .int 0, .bl true, .str "", .ref ua, .ref ub, .ref uc, .ref ue, .int d9]) hO
      have kO : (upd Gf O (.lst [.non, .int 0, .bl true, .str "", .ref ua, .ref ub, .ref uc, .ref ue, .int d9])) O = some (.lst [.non, .int 0, .bl true, .str "", .ref ua, .ref ub, .ref uc, .ref ue, .int d9]) := upd_same
      have ka7 := sg' _ _ ka6
      have kb7 := sg' _ _ kb6
      have kc7 := sg' _ _ kc6
      have kd7 := sg' _ _ kd6
      have ke7 := sg' _ _ ke6
      have tg := (te.trans tf).trans (Stp.same tf.1 sg')
      have tG7 := tG.trans tg.n
      have tb7 := tabs_stp tbG tG.1 tg
      have px7 : ∀ v ∈ xs, Pr1 _ v := fun v hv => (px v hv).mono fun p xs e => tg.2 p _ (tG.1.tup e) e
      generalize upd Gf O (.lst [.non, .int 0, .bl true, .str "", .ref ua, .ref ub, .ref uc, .ref ue, .int d9]) = Gg at sg' kO ka7 kb7 kc7 kd7 ke7 tg tG7 tb7 px7
      have b39 : (10 : Int) ^ 39 = 1000000000000000000000000000000000000000 := by decide
      have odd : ∀ v ∈ [V.non, .int 0, .bl true, .str "", .ref ua, .ref ub, .ref uc, .ref ue, .int d9], ∃ d, ThX K Gg v none d 100000 := fun v hv => by
        simp only [List.mem_cons, List.not_mem_nil, or_false] at hv
        rcases hv with rfl | rfl | rfl | rfl | rfl | rfl | rfl | rfl | rfl
        · exact ⟨_, thx_non⟩
        · exact ⟨_, thx_int (by decide) (by decide)⟩
        · exact ⟨_, thx_bl true⟩
        · exact ⟨_, thx_str "" (by decide +kernel)⟩
        · exact ⟨_, thx_tup tG7.1 ka7 (fun _ _ => tqa_nil) (by decide)⟩
        · exact ⟨_, thx_dct kb7⟩
        · obtain ⟨es, e1, e2⟩ := els_pr (K := K) tG7.1 px7
          refine ⟨.tuple (es.map (·.2.2)), thx_tup tG7.1 kc7 (fun H' t => ?_) (by omega)⟩
          rw [← e1]
          exact (e2.stepN t).tq t.1
        · exact ⟨_, thx_tup tG7.1 ke7 (fun H' t => tqa_cons (((tqa_cons (m := 41) (n := 0) (tq_int (i := 0) (by decide) (by decide)) (tqa_cons (tq_int (i := 1) (by decide) (by decide)) tqa_nil)).tup (t.tup (tG7.1.tup kd7) kd7)).mono (by decide) (by show 2 * (41 + 2) + 3 ≤ 400; decide)) tqa_nil) (by show 1 ≤ 200; decide)⟩
        · exact ⟨_, thx_int (by omega) (by omega)⟩
      refine ⟨O, rfl, ⟨_, SqL.of kO⟩, ?_⟩
      refine for_list (K := K) (a := O) (xs := [V.non, .int 0, .bl true, .str "", .ref ua, .ref ub, .ref uc, .ref ue, .int d9]) (fun i σ G' => ∃ (x2 : Option V), σ = [some (.ref r), x1, x2, some (.ref s), some (.int n), some (.ref a), some (.ref y), some (.str (PyData.list (bs.map blkD)).shown), some (.ref l), x9, x10, x11] ∧ ExtN Gg G' ∧ Tabs (tabs Pt) G')
        ⟨none, rfl, ext_refl, tb7⟩ (fun i σ G' _ ⟨_, _, x, _⟩ => SqL.of (x _ _ kO (fun ps z => by cases z))) ?_ ?_
      · rintro i v σ G' hv ⟨x2, rfl, xg, tbg⟩
        obtain ⟨dv, thv⟩ := odd v (List.mem_of_getElem? hv)
        have DN : DueR ns n bs none (some 0) := DueR.non
        have Lg := (LR3.stpN t3.1 tG7).ly.extN xg
        show tIfS _ _ _ _ _ _
        refine at_st (u := tIfS _ _ _) (σ' := [some (.ref r), x1, some v, some (.ref s), some (.int n), some (.ref a), some (.ref y), some (.str (PyData.list (bs.map blkD)).shown), some (.ref l), x9, x10, x11]) rfl ?_
        refine ⟨_, rfl, _, rfl, y, zp, bl, dx, ps, ns, n, bs, v, dv, none, some 0, rfl, Lg, by omega, thv.ext xg, DN.ok, DN.fst, DN.sm, tbg, fun G1 y1 tb1 => ⟨_, rfl, iteF ?_⟩⟩
        have z1 := ext_trans xg y1
        refine ⟨_, rfl, _, rfl, zero, fun ee hee => ?_⟩
        have sE := same_upd (o := .lst []) hee
        have zE := ext_trans z1 (ext_same sE)
        have thE := thx_els (K := K) (r := r) (es := []) (extN_stp tG7.1 zE).1 (l := ee) upd_same Els.nil (by decide)
        refine ⟨.ref r, v, .ref ee, none, _, dv, _, rfl, thv.ext zE, thE, (fun ms z => nomatch z), lenL_els (es := []) (by decide), tabs_same tb1 sE, fun G2 y2 tb2 => ⟨_, rfl, iteF ?_⟩⟩
        exact ⟨_, rfl, ext_trans zE y2, tb2⟩
      · rintro σ G' ⟨x2, rfl, xg, tbg⟩
        have tGf := tG7.trans (extN_stp tG7.1 xg)
        have Lc := LR3.stpN t3.1 tGf
        refine ⟨_, rfl, y, dx, _, rfl, Lc.ly.at_, lay_nm (by decide +kernel), y, zp, bl, dx, ps, ns, n, bs, rfl, Lc.ly, fun bb hbb => ?_⟩
        have sb2 := same_upd (o := .lst (ps.map V.ref)) hbb
        have tqb := tqB (G := upd G' bb (.lst (ps.map V.ref))) (a := bb) (qs := ps) upd_same (Lc.ly.rf.same sb2)
        refine ⟨_, _, rfl, tqb.dq, tqb.sh, Nat.le_trans tqb.dp (by decide), Nat.le_trans tqb.ln (by decide), _, rfl, rfl, ?_⟩
        rw [decide_eq_true rfl]
        exact q _ ((t3.n.trans tGf).trans (Stp.same tGf.1 sb2).n) (tabs_same tbg sb2)
end
end K34

set_option Elab.async false
set_option linter.all false
set_option maxRecDepth 100000
set_option maxHeartbeats 800000
set_option pp.maxSteps 900
namespace K34
open PySem PySem.Spec PyProof.Rows L2 Gu Ex LamX
theorem seq_extN34 {K : PySem.W.Frag} {H H' : Hp} {a : Addr} {xs : List V} (x : ExtN H H') (h : SqL K H a xs) : SqL K H' a xs := by
  rcases h with (h | ⟨o, h⟩) | h
  · exact .inl (.inl (x _ _ h fun ps e => by cases e))
  · exact .inl (.inr ⟨o, x _ _ h fun ps e => by cases e⟩)
  · exact .inr h
section
variable {P : Program} {w : World} {K : PySem.W.Frag} {mg : Str → Option Value} {base : Heap} {f : Addr} {fd : FuncData}
def spLaw (K : PySem.W.Frag) (Pt : Nat → Addr) : Sp := fun vs H Q _ => ∃ (a : Addr) (ns : List Int), vs = [.ref a] ∧ SqL K H a (ns.map V.int) ∧ ns.length ≤ 63 ∧ Tabs (tabs Pt) H ∧ ∀ H', Q (.bl true) H'
theorem sc_law : FnScope ["_law_script", "_law_k"] ["_law_script"] (defScope (top 66)) := ⟨rfl, rfl, rfl, by decide +kernel, rfl, by decide +kernel, by decide +kernel⟩
theorem ok_law {Pt : Nat → Addr} (T : Tx K mg) (D__law_rng : Df P w K mg base 1 "_law_rng" ["_law_script", "_law_k"] (spRng K)) (D__law_right : DfG P w K mg base 16 "_law_right" ["_law_rng_here"] (spRight K Pt)) (D__law_eight_right : DfG P w K mg base 16 "_law_eight_right" ["_law_rng_here"] (spEight K Pt))
    (F : FnP K "law" "law" (top 66) f fd) : FnG P w K mg base CX0 17 f fd ["_law_script"] (spLaw K Pt) := by
  refine okG F sc_law (fun vs H Q E h => ?_) (fun cdv A outer s H vs Q E hr h => ⟨_, PSs.nox (pss_cons (ps_if (pt_not (pt_val (pcallG D__law_eight_right hr (pa_cons (pcall D__law_rng hr.r (pa_cons (pv 0) (pa_cons pe_int pa_nil))) pa_nil)))) (pss_one (ps_ret pe_bl)) pss_nil) (pss_one (ps_ret (pe_callB (cr_all rfl) (by rfl) T.n_all (by decide +kernel) (pa_cons (pe_lc (own := [("_law_k", 1)]) (g := gName 1) rfl sc_law.nd (pi_range1 rfl T.n_range (pa_cons (pe_callB (call_max2 rfl) (by rfl) T.n_max (by decide +kernel) (pa_cons pe_int (pa_cons (pe_callB (call_min2 rfl) (by rfl) T.n_min (by decide +kernel) (pa_cons (pe_callB call_len_seq (by rfl) T.n_len (by decide +kernel) (pa_cons (pv 0) pa_nil)) (pa_cons pe_int pa_nil))) pa_nil))) pa_nil)) (blkOk_by (own := [("_law_k", 1)]) (N := ["_law_script", "_law_k"]) (sc := defScope (top 66)) (by decide +kernel)) (fun _ _ _ _ _ => pg_name (i := 1) sc_law.nd rfl (Or.inl rfl)) (fun _ _ _ _ _ => pts_nil) (fun _ _ _ _ _ => (pcallG D__law_right hr (pa_cons (pcall D__law_rng hr.r (pa_cons (pv 0) (pa_cons (pv 1) pa_nil))) pa_nil)))) pa_nil))))), ?_⟩)
  · obtain ⟨a, ns, rfl, _⟩ := h
    rfl
  · obtain ⟨a, ns, rfl, hS, hlen, tb, q⟩ := h
    refine ⟨_, rfl, a, ns, 0, rfl, hS, by decide, fun p0 H0 hp0 sm0 rg0 => ?_⟩
    refine ⟨p0, rfl, rg0, tabs_same tb sm0, fun H1 st0 tb1 => ⟨_, rfl, iteF ?_⟩⟩
    have x1 : ExtN H H1 := fun b o e nt => st0.2 b o (ne_of_none e hp0) nt (sm0 b o e)
    have hS1 := seq_extN34 x1 hS
    refine ⟨_, rfl, a, _, rfl, .inl hS1, _, _, rfl, _, _, rfl, ?_⟩
    obtain ⟨j, ej, j1, j2⟩ : ∃ j : Int, (if (if (4 : Int) < ((ns.map V.int).length : Int) then 4 else ((ns.map V.int).length : Int)) > 1 then (if (4 : Int) < ((ns.map V.int).length : Int) then 4 else ((ns.map V.int).length : Int)) else 1) = j ∧ 1 ≤ j ∧ j ≤ 4 := by
      refine ⟨_, rfl, ?_, ?_⟩
      · split <;> omega
      · split <;> split <;> omega
    refine ⟨j, (by rw [ej]), by omega, by omega, fun D hD => ?_⟩
    refine lc_range (fun i H' => H' D = some (.lst ((List.replicate i true).map V.bl)) ∧ ExtN H1 H' ∧ Tabs (tabs Pt) H') ⟨upd_same, ExtN.of (same_upd hD), tabs_same tb1 (same_upd hD)⟩ ?_ ?_
    · rintro i H' hi ⟨hD', sm, tb'⟩
      have hi2 : i < 4 := by omega
      refine ⟨rfl, _, rfl, _, rfl, a, ns, i, (by rw [Int.zero_add]; rfl), seq_extN34 sm hS1, by omega, fun p H2 hp sm1 rg => ?_⟩
      refine ⟨p, rfl, rg, tabs_same tb' sm1, fun H3 st tb2 => ?_⟩
      have hD1 : H2 D = some (.lst ((List.replicate i true).map V.bl)) := sm1 _ _ hD'
      have nDp : D ≠ p := ne_of_none hD' hp
      have hD2 := st.2 D _ nDp (fun ps e => by cases e) hD1
      refine ⟨_, hD2, (by rw [trues_len]; show i < sizeLine; exact Nat.lt_trans hi2 (by decide)), by rw [upd_same, trues_more], fun b o e nt => ?_, tabs_updL tb2 hD2⟩
      have e' := sm b o e nt
      rw [upd_ne (ne_of_none e hD)]
      exact st.2 b o (ne_of_none e' hp) nt (sm1 b o e')
    · rintro H' ⟨hD', sm, _⟩
      refine ⟨D, List.replicate j.toNat true, rfl, SqL.of hD', ?_⟩
      rw [all_trues]
      exact q _
end
end K34

set_option Elab.async false
set_option linter.all false
set_option maxRecDepth 100000
set_option maxHeartbeats 0
namespace K34
open PySem PySem.Spec PyProof.Rows L2 Gu Ex
theorem kmB_ok {K : PySem.W.Frag} (h : kmB K = true) : KitM K := by
  obtain ⟨a1, h⟩ := He.ba h
  obtain ⟨a2, h⟩ := He.ba h
  obtain ⟨a3, h⟩ := He.ba h
  obtain ⟨a4, a5⟩ := He.ba h
  exact ⟨(ecB_ok a1).1, (ecB_ok a1).2, He.eqO_ok a2, bOf_ok a3, bOf_ok a4, bOf_ok a5⟩
theorem injB_ok {K : PySem.W.Frag} (h : injB K = true) : Inj2 (PtK K) := fun e => by
  unfold injB at h
  rw [decide_eq_true e] at h
  cases h
theorem tabs_nil {K : PySem.W.Frag} {H : Hp} (h : ∀ x ∈ tabNs, H (ptA K x) = some (.tbl #[])) : LamX.Tabs (tabs (PtK K)) H := fun p hp => by
  simp only [tabs, List.mem_cons, List.not_mem_nil, or_false] at hp
  rcases hp with rfl | rfl
  · exact LamX.TabS.nil (h "_law_list_right" (by simp [tabNs]))
  · exact LamX.TabS.nil (h "_law_alone_right" (by simp [tabNs]))
end K34

set_option Elab.async false
set_option linter.all false
set_option maxRecDepth 100000
set_option maxHeartbeats 0
namespace K34
open PySem PySem.Spec PyProof.Rows L2 Gu Ex
theorem run (w : World) : HandSHeadRun.RunEq R (PySem.W.view R.prog [66]) hk ob 16000 loose w :=
  fun os => in_parts (r_looks w os) (r_seen w os) (r_fa w os) (r_fn w os) (r_fw w os) (r_ex w os) (r_pr w os) (r_tab w os)
section
variable {P : Program} {w : World} {K : PySem.W.Frag} {h : Heap} {mg : Str → Option Value} {base : Heap}
theorem tx (X : K.In h) (G : h.Ns mainGlobals mg) (c : He.SaysD fa fn K) (x : exB K = true) : Tx K mg := by
  obtain ⟨x1, x⟩ := He.ba x
  obtain ⟨x2, x⟩ := He.ba x
  obtain ⟨x3, x⟩ := He.ba x
  obtain ⟨x4, x⟩ := He.ba x
  obtain ⟨x5, x⟩ := He.ba x
  obtain ⟨xn_S, x⟩ := He.ba x
  obtain ⟨xi_S, x⟩ := He.ba x
  obtain ⟨xi_L, x⟩ := He.ba x
  obtain ⟨xM, x⟩ := He.ba x
  obtain ⟨xkM, x⟩ := He.ba x
  obtain ⟨x_tab0, x⟩ := He.ba x
  obtain ⟨x_tab1, x⟩ := He.ba x
  obtain ⟨x_inj, x⟩ := He.ba x
  obtain ⟨xp_top, x⟩ := He.ba x
  obtain ⟨xo_top, x⟩ := He.ba x
  obtain ⟨xp_sizes, x⟩ := He.ba x
  obtain ⟨xo_sizes, x⟩ := He.ba x
  obtain ⟨xp_length, x⟩ := He.ba x
  obtain ⟨xo_length, x⟩ := He.ba x
  have hsys : SysOk K := by
    unfold sysB at x4
    split at x4
    · rename_i o e
      exact ⟨o, e, of_decide_eq_true x4⟩
    · cases x4
  exact ⟨He.free_ok X G (c.fact 58 (f := .free "len") rfl),
    He.free_ok X G (c.fact 59 (f := .free "isinstance") rfl),
    He.free_ok X G (c.fact 60 (f := .free "int") rfl),
    He.free_ok X G (c.fact 61 (f := .free "bool") rfl),
    He.free_ok X G (c.fact 62 (f := .free "list") rfl),
    He.free_ok X G (c.fact 63 (f := .free "range") rfl),
    He.free_ok X G (c.fact 64 (f := .free "divmod") rfl),
    He.free_ok X G (c.fact 65 (f := .free "abs") rfl),
    He.free_ok X G (c.fact 66 (f := .free "max") rfl),
    He.free_ok X G (c.fact 67 (f := .free "min") rfl),
    He.free_ok X G (c.fact 68 (f := .free "enumerate") rfl),
    He.free_ok X G (c.fact 69 (f := .free "all") rfl),
    He.free_ok X G (c.fact 70 (f := .free "sum") rfl),
    He.free_ok X G (c.fact 71 (f := .free "tuple") rfl),
    He.free_ok X G (c.fact 72 (f := .free "sorted") rfl),
    He.free_ok X G (c.fact 73 (f := .free "repr") rfl),
    He.free_ok X G (c.fact 74 (f := .free "set") rfl),
    He.free_ok X G (c.fact 75 (f := .free "dict") rfl),
    He.free_ok X G (c.fact 76 (f := .free "any") rfl),
    He.glo_ok X G (c.fact 48 (f := .glo "Sizes") rfl),
    He.cls_ok (c.fact 78 (f := .cls "Sizes") rfl),
    He.noat_ok (c.fact 79 (f := .noat "Sizes" "size_list") rfl),
    rdB_ok x1,
    cvB_ok x2,
    cvB_ok x3,
    hsys,
    cvB_ok x5,
    He.glo_ok X G (c.fact 49 (f := .glo "Layout") rfl),
    He.cls_ok (c.fact 84 (f := .cls "Layout") rfl),
    He.noat_ok (c.fact 86 (f := .noat "Layout" "size_table") rfl),
    He.noat_ok (c.fact 87 (f := .noat "Layout" "cell_count") rfl),
    He.noat_ok (c.fact 88 (f := .noat "Layout" "free_count") rfl),
    He.noat_ok (c.fact 89 (f := .noat "Layout" "block_list") rfl),
    insB_ok (He.cls_ok (c.fact 78 (f := .cls "Sizes") rfl)) xi_S,
    insB_ok (He.cls_ok (c.fact 84 (f := .cls "Layout") rfl)) xi_L,
    He.glo_ok X G (c.fact 50 (f := .glo "InvalidAddress") rfl),
    He.glo_ok X G (c.fact 51 (f := .glo "InvalidLevel") rfl),
    He.glo_ok X G (c.fact 52 (f := .glo "InvalidNumbers") rfl),
    He.glo_ok X G (c.fact 53 (f := .glo "InvalidRequests") rfl),
    He.glo_ok X G (c.fact 54 (f := .glo "Occupied") rfl),
    He.glo_ok X G (c.fact 55 (f := .glo "UnknownBlock") rfl),
    He.glo_ok X G (c.fact 56 (f := .glo "InvalidMoves") rfl),
    He.glo_ok X G (c.fact 57 (f := .glo "RoomError") rfl),
    He.free_ok X G (c.fact 77 (f := .free "ValueError") rfl),
    errG_ok base_VE xM,
    neB_ok xn_S⟩
theorem df {x : Str} {ps : List Str} {sp : Sp} {k : Nat} {st : Stmt} {fd : FuncData} (X : K.In h) (G : h.Ns mainGlobals mg) (g : (He.Fa.glo x).ok K = true) (F : FnP K x x st (He.ga K x) fd)
    (hb : ∀ (kV doc pm : Value) (an : Option Addr) (cdv ct : Value) (us : List Value), us.length = ps.length → bindArgs (PySem.W.fnOf x x (defArgs st) (defBody st) (defScope st) .none kV doc pm an cdv ct) ⟨us, []⟩ = pure (ps.zip us))
    (ok : FnOk P w K mg base CX0 k (He.ga K x) fd ps sp) : Df P w K mg base k x ps sp := ⟨⟨fd, ok, F.bindsN hb⟩, He.glo_ok X G g, F.kp⟩
theorem dfG {x : Str} {ps : List Str} {sp : Sp} {k : Nat} {st : Stmt} {fd : FuncData} (X : K.In h) (G : h.Ns mainGlobals mg) (g : (He.Fa.glo x).ok K = true) (F : FnP K x x st (He.ga K x) fd)
    (hb : ∀ (kV doc pm : Value) (an : Option Addr) (cdv ct : Value) (us : List Value), us.length = ps.length → bindArgs (PySem.W.fnOf x x (defArgs st) (defBody st) (defScope st) .none kV doc pm an cdv ct) ⟨us, []⟩ = pure (ps.zip us))
    (ok : FnG P w K mg base CX0 k (He.ga K x) fd ps sp) : DfG P w K mg base k x ps sp := ⟨⟨fd, ok, F.bindsN hb⟩, He.glo_ok X G g, F.kp⟩
theorem dfX {x : Str} {ps : List Str} {sp : Sp} {k : Nat} {st : Stmt} {fd : FuncData} (X : K.In h) (G : h.Ns mainGlobals mg) (g : (He.Fa.glo x).ok K = true) (F : FnP K x x st (He.ga K x) fd)
    (hb : ∀ (kV doc pm : Value) (an : Option Addr) (cdv ct : Value) (us : List Value), us.length = ps.length → bindArgs (PySem.W.fnOf x x (defArgs st) (defBody st) (defScope st) .none kV doc pm an cdv ct) ⟨us, []⟩ = pure (ps.zip us))
    (ok : FnOk P w K mg base (L2.CX P w) k (He.ga K x) fd ps sp) : DfX P w K mg base k x ps sp := ⟨⟨fd, ok, F.bindsN hb⟩, He.glo_ok X G g, F.kp⟩
theorem dfK {x : Str} {ps ks : List Str} {j : List Nat} {sp : Sp} {k : Nat} {st : Stmt} {fd : FuncData} (X : K.In h) (G : h.Ns mainGlobals mg) (g : (He.Fa.glo x).ok K = true) (F : FnP K x x st (He.ga K x) fd)
    (hb : ∀ (kV doc pm : Value) (an : Option Addr) (cdv ct : Value) (ws : List Value), ws.length = ks.length → bindArgs (PySem.W.fnOf x x (defArgs st) (defBody st) (defScope st) .none kV doc pm an cdv ct) ⟨[], ks.zip ws⟩ = pure (ps.zip (j.filterMap fun i => ws[i]?)))
    (ok : FnOk P w K mg base CX0 k (He.ga K x) fd ps sp) : DfK P w K mg base k x ps ks j sp := by
  refine ⟨⟨fd, ok, fun s ws hl => ?_⟩, He.glo_ok X G g, F.kp⟩
  obtain ⟨oc, od, dV, kV, doc, pm, an, cdv, ct, osl, rfl, lk, hcd, hD, hK⟩ := F.ex
  rcases hD with ⟨_, rfl⟩ | ⟨e, _⟩
  · exact .of_eq (hb kV doc pm an cdv ct ws hl)
  · exact absurd rfl e
theorem tab_facts (c0 : ob0 K = vl0) : ∀ x ∈ tabNs, PySem.W.tabIn K x = some (cdA K x, ptA K x) ∧ PySem.W.codeHdIn K (cdA K x) (ptA K x) = true ∧ K.lookup (ptA K x) = none := by
  have x : exB K = true := congrArg (fun z : AlE => z.2.1) c0
  obtain ⟨x1, x⟩ := He.ba x
  obtain ⟨x2, x⟩ := He.ba x
  obtain ⟨x3, x⟩ := He.ba x
  obtain ⟨x4, x⟩ := He.ba x
  obtain ⟨x5, x⟩ := He.ba x
  obtain ⟨xn_S, x⟩ := He.ba x
  obtain ⟨xi_S, x⟩ := He.ba x
  obtain ⟨xi_L, x⟩ := He.ba x
  obtain ⟨xM, x⟩ := He.ba x
  obtain ⟨xkM, x⟩ := He.ba x
  obtain ⟨x_tab0, x⟩ := He.ba x
  obtain ⟨x_tab1, x⟩ := He.ba x
  obtain ⟨x_inj, x⟩ := He.ba x
  obtain ⟨xp_top, x⟩ := He.ba x
  obtain ⟨xo_top, x⟩ := He.ba x
  obtain ⟨xp_sizes, x⟩ := He.ba x
  obtain ⟨xo_sizes, x⟩ := He.ba x
  obtain ⟨xp_length, x⟩ := He.ba x
  obtain ⟨xo_length, x⟩ := He.ba x
  intro x hx
  simp only [tabNs, List.mem_cons, List.not_mem_nil, or_false] at hx
  rcases hx with rfl | rfl
  · exact tabB_ok x_tab0
  · exact tabB_ok x_tab1
theorem facts {f : Addr} (X : K.In h) (G : h.Ns mainGlobals mg) (hfa : mg ("law" : Str) = some (.ref f)) (c0 : ob0 K = vl0) :
    ∃ fd : FuncData, (∀ (s : Shared) (v : Value), BindsTo s fd ⟨[v], []⟩ [("_law_script", v)]) ∧ ∀ base : Heap, K.In base → base.Ns mainGlobals mg → (∀ x ∈ tabNs, LamX.TabB base mg (cdA K x) (ptA K x)) → FnG P w K mg base CX0 17 f fd ["_law_script"] (spLaw K (PtK K)) := by
  have c : He.SaysD fa fn K := congrArg (fun z : AlE => z.1) c0
  have x : exB K = true := congrArg (fun z : AlE => z.2.1) c0
  have vt_top : fnAt K (pgA K (He.ga K "Sizes") "top") = v_top := congrArg (fun z : AlE => z.2.2.1) c0
  have vt_sizes : fnAt K (pgA K (He.ga K "Layout") "sizes") = v_sizes := congrArg (fun z : AlE => z.2.2.2.1) c0
  have vt_length : fnAt K (pgA K (He.ga K "Layout") "length") = v_length := congrArg (fun z : AlE => z.2.2.2.2) c0
  have T := tx X G c x
  obtain ⟨x1, x⟩ := He.ba x
  obtain ⟨x2, x⟩ := He.ba x
  obtain ⟨x3, x⟩ := He.ba x
  obtain ⟨x4, x⟩ := He.ba x
  obtain ⟨x5, x⟩ := He.ba x
  obtain ⟨xn_S, x⟩ := He.ba x
  obtain ⟨xi_S, x⟩ := He.ba x
  obtain ⟨xi_L, x⟩ := He.ba x
  obtain ⟨xM, x⟩ := He.ba x
  obtain ⟨xkM, x⟩ := He.ba x
  obtain ⟨x_tab0, x⟩ := He.ba x
  obtain ⟨x_tab1, x⟩ := He.ba x
  obtain ⟨x_inj, x⟩ := He.ba x
  obtain ⟨xp_top, x⟩ := He.ba x
  obtain ⟨xo_top, x⟩ := He.ba x
  obtain ⟨xp_sizes, x⟩ := He.ba x
  obtain ⟨xo_sizes, x⟩ := He.ba x
  obtain ⟨xp_length, x⟩ := He.ba x
  obtain ⟨xo_length, x⟩ := He.ba x
  obtain ⟨fdP_top, FP_top⟩ := fun_at vt_top xo_top
  obtain ⟨fdP_sizes, FP_sizes⟩ := fun_at vt_sizes xo_sizes
  obtain ⟨fdP_length, FP_length⟩ := fun_at vt_length xo_length
  obtain ⟨fd0, F0⟩ : ∃ fd, FnP K "is_integer" "is_integer" (top 13) (He.ga K "is_integer") fd := c.def_ 0 (d := dOf ("is_integer", none) "is_integer" "is_integer" (top 13)) rfl
  obtain ⟨fd1, F1⟩ : ∃ fd, FnP K "size_problem" "size_problem" (top 16) (He.ga K "size_problem") fd := c.def_ 1 (d := dOf ("size_problem", none) "size_problem" "size_problem" (top 16)) rfl
  obtain ⟨fd2, F2⟩ : ∃ fd, FnP K "check_sizes" "check_sizes" (top 17) (He.ga K "check_sizes") fd := c.def_ 2 (d := dOf ("check_sizes", none) "check_sizes" "check_sizes" (top 17)) rfl
  obtain ⟨fd3, F3⟩ : ∃ fd, FnP K "is_cells" "is_cells" (top 14) (He.ga K "is_cells") fd := c.def_ 3 (d := dOf ("is_cells", none) "is_cells" "is_cells" (top 14)) rfl
  obtain ⟨fd4, F4⟩ : ∃ fd, FnP K "check_cells" "check_cells" (top 15) (He.ga K "check_cells") fd := c.def_ 4 (d := dOf ("check_cells", none) "check_cells" "check_cells" (top 15)) rfl
  obtain ⟨fd5, F5⟩ : ∃ fd, FnP K "__init__" "Sizes.__init__" (inClass (top 18) 4) (He.ma K (He.ga K "Sizes") "__init__") fd := c.def_ 5 (d := dOf ("Sizes", some "__init__") "__init__" "Sizes.__init__" (inClass (top 18) 4)) rfl
  obtain ⟨fd6, F6⟩ : ∃ fd, FnP K "has_level" "Sizes.has_level" (inClass (top 18) 12) (He.ma K (He.ga K "Sizes") "has_level") fd := c.def_ 6 (d := dOf ("Sizes", some "has_level") "has_level" "Sizes.has_level" (inClass (top 18) 12)) rfl
  obtain ⟨fd7, F7⟩ : ∃ fd, FnP K "check_level" "Sizes.check_level" (inClass (top 18) 13) (He.ma K (He.ga K "Sizes") "check_level") fd := c.def_ 7 (d := dOf ("Sizes", some "check_level") "check_level" "Sizes.check_level" (inClass (top 18) 13)) rfl
  obtain ⟨fd8, F8⟩ : ∃ fd, FnP K "size" "Sizes.size" (inClass (top 18) 14) (He.ma K (He.ga K "Sizes") "size") fd := c.def_ 8 (d := dOf ("Sizes", some "size") "size" "Sizes.size" (inClass (top 18) 14)) rfl
  obtain ⟨fd9, F9⟩ : ∃ fd, FnP K "__init__" "Layout.__init__" (inClass (top 38) 0) (He.ma K (He.ga K "Layout") "__init__") fd := c.def_ 9 (d := dOf ("Layout", some "__init__") "__init__" "Layout.__init__" (inClass (top 38) 0)) rfl
  obtain ⟨fd10, F10⟩ : ∃ fd, FnP K "count_below" "Layout.count_below" (inClass (top 38) 9) (He.ma K (He.ga K "Layout") "count_below") fd := c.def_ 10 (d := dOf ("Layout", some "count_below") "count_below" "Layout.count_below" (inClass (top 38) 9)) rfl
  obtain ⟨fd11, F11⟩ : ∃ fd, FnP K "index_of" "Layout.index_of" (inClass (top 38) 10) (He.ma K (He.ga K "Layout") "index_of") fd := c.def_ 11 (d := dOf ("Layout", some "index_of") "index_of" "Layout.index_of" (inClass (top 38) 10)) rfl
  obtain ⟨fd12, F12⟩ : ∃ fd, FnP K "block_at" "Layout.block_at" (inClass (top 38) 11) (He.ma K (He.ga K "Layout") "block_at") fd := c.def_ 12 (d := dOf ("Layout", some "block_at") "block_at" "Layout.block_at" (inClass (top 38) 11)) rfl
  obtain ⟨fd13, F13⟩ : ∃ fd, FnP K "first_taken" "Layout.first_taken" (inClass (top 38) 12) (He.ma K (He.ga K "Layout") "first_taken") fd := c.def_ 13 (d := dOf ("Layout", some "first_taken") "first_taken" "Layout.first_taken" (inClass (top 38) 12)) rfl
  obtain ⟨fd14, F14⟩ : ∃ fd, FnK K "put" "Layout.put" (inClass (top 38) 13) [("pinned", .bl false)] (He.ma K (He.ga K "Layout") "put") fd := c.def_ 14 (d := dOfK ("Layout", some "put") "put" "Layout.put" (inClass (top 38) 13) [("pinned", .bl false)]) rfl
  obtain ⟨fd15, F15⟩ : ∃ fd, FnP K "take_out" "Layout.take_out" (inClass (top 38) 14) (He.ma K (He.ga K "Layout") "take_out") fd := c.def_ 15 (d := dOf ("Layout", some "take_out") "take_out" "Layout.take_out" (inClass (top 38) 14)) rfl
  obtain ⟨fd16, F16⟩ : ∃ fd, FnP K "set_pinned" "Layout.set_pinned" (inClass (top 38) 15) (He.ma K (He.ga K "Layout") "set_pinned") fd := c.def_ 16 (d := dOf ("Layout", some "set_pinned") "set_pinned" "Layout.set_pinned" (inClass (top 38) 15)) rfl
  obtain ⟨fd17, F17⟩ : ∃ fd, FnP K "unpinned_levels" "Layout.unpinned_levels" (inClass (top 38) 19) (He.ma K (He.ga K "Layout") "unpinned_levels") fd := c.def_ 17 (d := dOf ("Layout", some "unpinned_levels") "unpinned_levels" "Layout.unpinned_levels" (inClass (top 38) 19)) rfl
  obtain ⟨fd18, F18⟩ : ∃ fd, FnP K "blocks" "Layout.blocks" (inClass (top 38) 7) (He.ma K (He.ga K "Layout") "blocks") fd := c.def_ 18 (d := dOf ("Layout", some "blocks") "blocks" "Layout.blocks" (inClass (top 38) 7)) rfl
  obtain ⟨fd19, F19⟩ : ∃ fd, FnP K "clone" "Layout.clone" (inClass (top 38) 8) (He.ma K (He.ga K "Layout") "clone") fd := c.def_ 19 (d := dOf ("Layout", some "clone") "clone" "Layout.clone" (inClass (top 38) 8)) rfl
  obtain ⟨fd20, F20⟩ : ∃ fd, FnP K "__init__" "InvalidMoves.__init__" (inClass (top 8) 0) (He.ma K (He.ga K "InvalidMoves") "__init__") fd := c.def_ 20 (d := dOf ("InvalidMoves", some "__init__") "__init__" "InvalidMoves.__init__" (inClass (top 8) 0)) rfl
  obtain ⟨fd21, F21⟩ : ∃ fd, FnP K "is_address" "is_address" (top 20) (He.ga K "is_address") fd := c.def_ 21 (d := dOf ("is_address", none) "is_address" "is_address" (top 20)) rfl
  obtain ⟨fd22, F22⟩ : ∃ fd, FnP K "lies_below" "lies_below" (top 21) (He.ga K "lies_below") fd := c.def_ 22 (d := dOf ("lies_below", none) "lies_below" "lies_below" (top 21)) rfl
  obtain ⟨fd23, F23⟩ : ∃ fd, FnP K "is_region" "is_region" (top 22) (He.ga K "is_region") fd := c.def_ 23 (d := dOf ("is_region", none) "is_region" "is_region" (top 22)) rfl
  obtain ⟨fd24, F24⟩ : ∃ fd, FnP K "is_move" "is_move" (top 24) (He.ga K "is_move") fd := c.def_ 24 (d := dOf ("is_move", none) "is_move" "is_move" (top 24)) rfl
  obtain ⟨fd25, F25⟩ : ∃ fd, FnP K "first_misfit" "first_misfit" (top 25) (He.ga K "first_misfit") fd := c.def_ 25 (d := dOf ("first_misfit", none) "first_misfit" "first_misfit" (top 25)) rfl
  obtain ⟨fd26, F26⟩ : ∃ fd, FnP K "places_after" "places_after" (top 26) (He.ga K "places_after") fd := c.def_ 26 (d := dOf ("places_after", none) "places_after" "places_after" (top 26)) rfl
  obtain ⟨fd27, F27⟩ : ∃ fd, FnP K "first_clash" "first_clash" (top 27) (He.ga K "first_clash") fd := c.def_ 27 (d := dOf ("first_clash", none) "first_clash" "first_clash" (top 27)) rfl
  obtain ⟨fd28, F28⟩ : ∃ fd, FnP K "first_wrong_move" "first_wrong_move" (top 28) (He.ga K "first_wrong_move") fd := c.def_ 28 (d := dOf ("first_wrong_move", none) "first_wrong_move" "first_wrong_move" (top 28)) rfl
  obtain ⟨fd29, F29⟩ : ∃ fd, FnP K "is_rearrangement" "is_rearrangement" (top 30) (He.ga K "is_rearrangement") fd := c.def_ 29 (d := dOf ("is_rearrangement", none) "is_rearrangement" "is_rearrangement" (top 30)) rfl
  obtain ⟨fd30, F30⟩ : ∃ fd, FnP K "check_rearrangement" "check_rearrangement" (top 29) (He.ga K "check_rearrangement") fd := c.def_ 30 (d := dOf ("check_rearrangement", none) "check_rearrangement" "check_rearrangement" (top 29)) rfl
  obtain ⟨fd31, F31⟩ : ∃ fd, FnP K "rearranged" "rearranged" (top 31) (He.ga K "rearranged") fd := c.def_ 31 (d := dOf ("rearranged", none) "rearranged" "rearranged" (top 31)) rfl
  obtain ⟨fd32, F32⟩ : ∃ fd, FnP K "cost" "cost" (top 32) (He.ga K "cost") fd := c.def_ 32 (d := dOf ("cost", none) "cost" "cost" (top 32)) rfl
  obtain ⟨fd33, F33⟩ : ∃ fd, FnP K "moved_level" "moved_level" (top 33) (He.ga K "moved_level") fd := c.def_ 33 (d := dOf ("moved_level", none) "moved_level" "moved_level" (top 33)) rfl
  obtain ⟨fd34, F34⟩ : ∃ fd, FnP K "check_moves" "check_moves" (top 34) (He.ga K "check_moves") fd := c.def_ 34 (d := dOf ("check_moves", none) "check_moves" "check_moves" (top 34)) rfl
  obtain ⟨fd35, F35⟩ : ∃ fd, FnP K "inverse" "inverse" (top 35) (He.ga K "inverse") fd := c.def_ 35 (d := dOf ("inverse", none) "inverse" "inverse" (top 35)) rfl
  obtain ⟨fd36, F36⟩ : ∃ fd, FnP K "composed" "composed" (top 36) (He.ga K "composed") fd := c.def_ 36 (d := dOf ("composed", none) "composed" "composed" (top 36)) rfl
  obtain ⟨fd37, F37⟩ : ∃ fd, FnP K "_law_rng" "_law_rng" (top 40) (He.ga K "_law_rng") fd := c.def_ 37 (d := dOf ("_law_rng", none) "_law_rng" "_law_rng" (top 40)) rfl
  obtain ⟨fd38, F38⟩ : ∃ fd, FnP K "_law_draw" "_law_draw" (top 41) (He.ga K "_law_draw") fd := c.def_ 38 (d := dOf ("_law_draw", none) "_law_draw" "_law_draw" (top 41)) rfl
  obtain ⟨fd39, F39⟩ : ∃ fd, FnP K "_law_choice" "_law_choice" (top 42) (He.ga K "_law_choice") fd := c.def_ 39 (d := dOf ("_law_choice", none) "_law_choice" "_law_choice" (top 42)) rfl
  obtain ⟨fd40, F40⟩ : ∃ fd, FnP K "_law_shuffled" "_law_shuffled" (top 43) (He.ga K "_law_shuffled") fd := c.def_ 40 (d := dOf ("_law_shuffled", none) "_law_shuffled" "_law_shuffled" (top 43)) rfl
  obtain ⟨fd41, F41⟩ : ∃ fd, FnP K "_law_sizes" "_law_sizes" (top 44) (He.ga K "_law_sizes") fd := c.def_ 41 (d := dOf ("_law_sizes", none) "_law_sizes" "_law_sizes" (top 44)) rfl
  obtain ⟨fd42, F42⟩ : ∃ fd, FnP K "_law_has_space" "_law_has_space" (top 45) (He.ga K "_law_has_space") fd := c.def_ 42 (d := dOf ("_law_has_space", none) "_law_has_space" "_law_has_space" (top 45)) rfl
  obtain ⟨fd43, F43⟩ : ∃ fd, FnP K "_law_blocks" "_law_blocks" (top 46) (He.ga K "_law_blocks") fd := c.def_ 43 (d := dOf ("_law_blocks", none) "_law_blocks" "_law_blocks" (top 46)) rfl
  obtain ⟨fd44, F44⟩ : ∃ fd, FnP K "_law_runs" "_law_runs" (top 47) (He.ga K "_law_runs") fd := c.def_ 44 (d := dOf ("_law_runs", none) "_law_runs" "_law_runs" (top 47)) rfl
  obtain ⟨fd45, F45⟩ : ∃ fd, FnP K "_law_free_runs" "_law_free_runs" (top 48) (He.ga K "_law_free_runs") fd := c.def_ 45 (d := dOf ("_law_free_runs", none) "_law_free_runs" "_law_free_runs" (top 48)) rfl
  obtain ⟨fd46, F46⟩ : ∃ fd, FnP K "_law_place" "_law_place" (top 49) (He.ga K "_law_place") fd := c.def_ 46 (d := dOf ("_law_place", none) "_law_place" "_law_place" (top 49)) rfl
  obtain ⟨fd47, F47⟩ : ∃ fd, FnP K "_law_moves" "_law_moves" (top 50) (He.ga K "_law_moves") fd := c.def_ 47 (d := dOf ("_law_moves", none) "_law_moves" "_law_moves" (top 50)) rfl
  obtain ⟨fd48, F48⟩ : ∃ fd, FnP K "_law_world" "_law_world" (top 51) (He.ga K "_law_world") fd := c.def_ 48 (d := dOf ("_law_world", none) "_law_world" "_law_world" (top 51)) rfl
  obtain ⟨fd49, F49⟩ : ∃ fd, FnP K "_law_made" "_law_made" (top 52) (He.ga K "_law_made") fd := c.def_ 49 (d := dOf ("_law_made", none) "_law_made" "_law_made" (top 52)) rfl
  obtain ⟨fd50, F50⟩ : ∃ fd, FnP K "_law_is_address" "_law_is_address" (top 53) (He.ga K "_law_is_address") fd := c.def_ 50 (d := dOf ("_law_is_address", none) "_law_is_address" "_law_is_address" (top 53)) rfl
  obtain ⟨fd51, F51⟩ : ∃ fd, FnP K "_law_is_move" "_law_is_move" (top 54) (He.ga K "_law_is_move") fd := c.def_ 51 (d := dOf ("_law_is_move", none) "_law_is_move" "_law_is_move" (top 54)) rfl
  obtain ⟨fd52, F52⟩ : ∃ fd, FnP K "_law_list_problem" "_law_list_problem" (top 55) (He.ga K "_law_list_problem") fd := c.def_ 52 (d := dOf ("_law_list_problem", none) "_law_list_problem" "_law_list_problem" (top 55)) rfl
  obtain ⟨fd53, F53⟩ : ∃ fd, FnP K "_law_problem" "_law_problem" (top 56) (He.ga K "_law_problem") fd := c.def_ 53 (d := dOf ("_law_problem", none) "_law_problem" "_law_problem" (top 56)) rfl
  obtain ⟨fd54, F54⟩ : ∃ fd, FnP K "_law_told" "_law_told" (top 57) (He.ga K "_law_told") fd := c.def_ 54 (d := dOf ("_law_told", none) "_law_told" "_law_told" (top 57)) rfl
  obtain ⟨fd55, F55⟩ : ∃ fd, FnP K "_law_is_due" "_law_is_due" (top 58) (He.ga K "_law_is_due") fd := c.def_ 55 (d := dOf ("_law_is_due", none) "_law_is_due" "_law_is_due" (top 58)) rfl
  obtain ⟨fd56, F56⟩ : ∃ fd, FnP K "_law_odd" "_law_odd" (top 59) (He.ga K "_law_odd") fd := c.def_ 56 (d := dOf ("_law_odd", none) "_law_odd" "_law_odd" (top 59)) rfl
  obtain ⟨fd57, F57⟩ : ∃ fd, FnP K "_law_spoilt" "_law_spoilt" (top 60) (He.ga K "_law_spoilt") fd := c.def_ 57 (d := dOf ("_law_spoilt", none) "_law_spoilt" "_law_spoilt" (top 60)) rfl
  obtain ⟨fd58, F58⟩ : ∃ fd, FnP K "_law_into_one" "_law_into_one" (top 61) (He.ga K "_law_into_one") fd := c.def_ 58 (d := dOf ("_law_into_one", none) "_law_into_one" "_law_into_one" (top 61)) rfl
  obtain ⟨fd59, F59⟩ : ∃ fd, FnP K "_law_list_right" "_law_list_right" (top 62) (He.ga K "_law_list_right") fd := c.def_ 59 (d := dOf ("_law_list_right", none) "_law_list_right" "_law_list_right" (top 62)) rfl
  obtain ⟨fd60, F60⟩ : ∃ fd, FnP K "_law_alone_right" "_law_alone_right" (top 63) (He.ga K "_law_alone_right") fd := c.def_ 60 (d := dOf ("_law_alone_right", none) "_law_alone_right" "_law_alone_right" (top 63)) rfl
  obtain ⟨fd61, F61⟩ : ∃ fd, FnP K "_law_eight_right" "_law_eight_right" (top 65) (He.ga K "_law_eight_right") fd := c.def_ 61 (d := dOf ("_law_eight_right", none) "_law_eight_right" "_law_eight_right" (top 65)) rfl
  obtain ⟨fd62, F62⟩ : ∃ fd, FnP K "_law_right" "_law_right" (top 64) (He.ga K "_law_right") fd := c.def_ 62 (d := dOf ("_law_right", none) "_law_right" "_law_right" (top 64)) rfl
  obtain ⟨fd63, F63⟩ : ∃ fd, FnP K "law" "law" (top 66) (He.ga K "law") fd := c.def_ 63 (d := dOf ("law", none) "law" "law" (top 66)) rfl
  have e := hfa.symm.trans (He.glo_ok X G (c.fact 47 (f := .glo "law") rfl))
  cases e
  have b := FunD.bindsA (ps := ["_law_script"]) F63 (fun _ _ _ _ _ _ us hl => match us, hl with | [_], _ => rfl)
  refine ⟨_, fun s v => b s [v] rfl, fun base _ _ TB => ?_⟩
  have D_is_integer := df (P := P) (w := w) (base := base) X G (c.fact 0 (f := .glo "is_integer") rfl) F0 (ps := ["value"]) (fun _ _ _ _ _ _ us hl => match us, hl with | [_], _ => rfl) (ok_is_integer T F0)
  have D_is_integerA := df (P := P) (w := w) (base := base) X G (c.fact 0 (f := .glo "is_integer") rfl) F0 (ps := ["value"]) (fun _ _ _ _ _ _ us hl => match us, hl with | [_], _ => rfl) (ok_is_integerA T F0)
  have D_size_problem := df (P := P) (w := w) (base := base) X G (c.fact 1 (f := .glo "size_problem") rfl) F1 (ps := ["values", "position"]) (fun _ _ _ _ _ _ us hl => match us, hl with | [_, _], _ => rfl) (ok_size_problem T D_is_integer F1)
  have D_check_sizes := df (P := P) (w := w) (base := base) X G (c.fact 2 (f := .glo "check_sizes") rfl) F2 (ps := ["values"]) (fun _ _ _ _ _ _ us hl => match us, hl with | [_], _ => rfl) (ok_check_sizes T D_size_problem F2)
  have D_Sizes : Kf P w K mg base _ "Sizes" ["self", "values"] _ := ⟨⟨fd5, ok_init T D_check_sizes F5, F5.bindsN (fun _ _ _ _ _ _ us hl => match us, hl with | [_, _], _ => rfl)⟩, He.glo_ok X G (c.fact 48 (f := .glo "Sizes") rfl), He.mkr_ok (c.fact 80 (f := .mkr "Sizes") rfl)⟩
  have P_top : Pf P w K mg base 1 "Sizes" "top" (spTop K) := ⟨He.cls_ok (c.fact 78 (f := .cls "Sizes") rfl), _, _, fdP_top, prB_ok xp_top, ok_top T FP_top, FunD.bindsN FP_top (fun _ _ _ _ _ _ us hl => match us, hl with | [_], _ => rfl)⟩
  have MM : Ex.Ei P w K mg base "InvalidMoves" "position" := ⟨⟨fd20, ok_errM T F20, F20.bindsN (fun _ _ _ _ _ _ us hl => match us, hl with | [_, _], _ => rfl)⟩⟩
  have M_has_level : Mf P w K mg base _ "Sizes" "has_level" ["self", "level"] _ := ⟨⟨fd6, ok_has T D_is_integer P_top F6, F6.bindsN (fun _ _ _ _ _ _ us hl => match us, hl with | [_, _], _ => rfl)⟩, He.cls_ok (c.fact 78 (f := .cls "Sizes") rfl), He.meth_ok (c.fact 81 (f := .meth "Sizes" "has_level") rfl)⟩
  have M_check_level : Mf P w K mg base _ "Sizes" "check_level" ["self", "level"] _ := ⟨⟨fd7, ok_check_level T M_has_level F7, F7.bindsN (fun _ _ _ _ _ _ us hl => match us, hl with | [_, _], _ => rfl)⟩, He.cls_ok (c.fact 78 (f := .cls "Sizes") rfl), He.meth_ok (c.fact 82 (f := .meth "Sizes" "check_level") rfl)⟩
  have M_size : Mf P w K mg base _ "Sizes" "size" ["self", "level"] _ := ⟨⟨fd8, ok_size T M_check_level F8, F8.bindsN (fun _ _ _ _ _ _ us hl => match us, hl with | [_, _], _ => rfl)⟩, He.cls_ok (c.fact 78 (f := .cls "Sizes") rfl), He.meth_ok (c.fact 83 (f := .meth "Sizes" "size") rfl)⟩
  have D_is_cells := df (P := P) (w := w) (base := base) X G (c.fact 3 (f := .glo "is_cells") rfl) F3 (ps := ["value"]) (fun _ _ _ _ _ _ us hl => match us, hl with | [_], _ => rfl) (ok_is_cells T D_is_integer F3)
  have D_check_cells := df (P := P) (w := w) (base := base) X G (c.fact 4 (f := .glo "check_cells") rfl) F4 (ps := ["value"]) (fun _ _ _ _ _ _ us hl => match us, hl with | [_], _ => rfl) (ok_check_cells T D_is_cells F4)
  have D_is_address := df (P := P) (w := w) (base := base) X G (c.fact 5 (f := .glo "is_address") rfl) F21 (ps := ["value"]) (fun _ _ _ _ _ _ us hl => match us, hl with | [_], _ => rfl) (ok_is_address T D_is_integer F21)
  have D_is_addressA := df (P := P) (w := w) (base := base) X G (c.fact 5 (f := .glo "is_address") rfl) F21 (ps := ["value"]) (fun _ _ _ _ _ _ us hl => match us, hl with | [_], _ => rfl) (ok_is_addressA T D_is_integerA F21)
  have D_lies_below := df (P := P) (w := w) (base := base) X G (c.fact 6 (f := .glo "lies_below") rfl) F22 (ps := ["sizes", "level", "address", "end"]) (fun _ _ _ _ _ _ us hl => match us, hl with | [_, _, _, _], _ => rfl) (ok_below T M_size F22)
  have D_is_region := df (P := P) (w := w) (base := base) X G (c.fact 7 (f := .glo "is_region") rfl) F23 (ps := ["sizes", "length", "level", "address"]) (fun _ _ _ _ _ _ us hl => match us, hl with | [_, _, _, _], _ => rfl) (ok_is_region T D_check_cells M_has_level D_is_address D_lies_below F23)
  have D_is_regionB := df (P := P) (w := w) (base := base) X G (c.fact 7 (f := .glo "is_region") rfl) F23 (ps := ["sizes", "length", "level", "address"]) (fun _ _ _ _ _ _ us hl => match us, hl with | [_, _, _, _], _ => rfl) (ok_is_regionB T D_check_cells M_has_level D_is_address D_lies_below F23)
  have D_is_move := df (P := P) (w := w) (base := base) X G (c.fact 8 (f := .glo "is_move") rfl) F24 (ps := ["value"]) (fun _ _ _ _ _ _ us hl => match us, hl with | [_], _ => rfl) (ok_is_move T D_is_addressA F24)
  have D_Layout : Kf P w K mg base _ "Layout" ["self", "sizes", "length"] _ := ⟨⟨fd9, ok_new T D_check_cells F9, F9.bindsN (fun _ _ _ _ _ _ us hl => match us, hl with | [_, _, _], _ => rfl)⟩, He.glo_ok X G (c.fact 49 (f := .glo "Layout") rfl), He.mkr_ok (c.fact 85 (f := .mkr "Layout") rfl)⟩
  have M_clone : Mf P w K mg base _ "Layout" "clone" ["self"] _ := ⟨⟨fd19, ok_clone T D_Layout F19, F19.bindsN (fun _ _ _ _ _ _ us hl => match us, hl with | [_], _ => rfl)⟩, He.cls_ok (c.fact 84 (f := .cls "Layout") rfl), He.meth_ok (c.fact 99 (f := .meth "Layout" "clone") rfl)⟩
  have P_sizes : Pf P w K mg base 1 "Layout" "sizes" (spSzs K) := ⟨He.cls_ok (c.fact 84 (f := .cls "Layout") rfl), _, _, fdP_sizes, prB_ok xp_sizes, ok_psizes T FP_sizes, FunD.bindsN FP_sizes (fun _ _ _ _ _ _ us hl => match us, hl with | [_], _ => rfl)⟩
  have P_length : Pf P w K mg base 1 "Layout" "length" (spLen2 K) := ⟨He.cls_ok (c.fact 84 (f := .cls "Layout") rfl), _, _, fdP_length, prB_ok xp_length, ok_plength T FP_length, FunD.bindsN FP_length (fun _ _ _ _ _ _ us hl => match us, hl with | [_], _ => rfl)⟩
  have M_count_below : Mf P w K mg base _ "Layout" "count_below" ["self", "address"] _ := ⟨⟨fd10, ok_cb T F10, F10.bindsN (fun _ _ _ _ _ _ us hl => match us, hl with | [_, _], _ => rfl)⟩, He.cls_ok (c.fact 84 (f := .cls "Layout") rfl), He.meth_ok (c.fact 90 (f := .meth "Layout" "count_below") rfl)⟩
  have M_index_of : Mf P w K mg base _ "Layout" "index_of" ["self", "address"] _ := ⟨⟨fd11, ok_ix T D_is_integer M_count_below F11, F11.bindsN (fun _ _ _ _ _ _ us hl => match us, hl with | [_, _], _ => rfl)⟩, He.cls_ok (c.fact 84 (f := .cls "Layout") rfl), He.meth_ok (c.fact 91 (f := .meth "Layout" "index_of") rfl)⟩
  have M_block_at : Mf P w K mg base _ "Layout" "block_at" ["self", "address"] _ := ⟨⟨fd12, ok_at T D_is_address M_count_below M_size F12, F12.bindsN (fun _ _ _ _ _ _ us hl => match us, hl with | [_, _], _ => rfl)⟩, He.cls_ok (c.fact 84 (f := .cls "Layout") rfl), He.meth_ok (c.fact 92 (f := .meth "Layout" "block_at") rfl)⟩
  have M_first_taken : Mf P w K mg base _ "Layout" "first_taken" ["self", "low", "high"] _ := ⟨⟨fd13, ok_first T M_block_at M_count_below F13, F13.bindsN (fun _ _ _ _ _ _ us hl => match us, hl with | [_, _, _], _ => rfl)⟩, He.cls_ok (c.fact 84 (f := .cls "Layout") rfl), He.meth_ok (c.fact 93 (f := .meth "Layout" "first_taken") rfl)⟩
  have M_put_d : MfD P w K mg base 8 "Layout" "put" ["self", "level", "address", "pinned"] [.bl false] (spPut K) := by
    obtain ⟨ds, vd, bd⟩ := FunD.binds0 F14 (ps := ["self", "level", "address", "pinned"]) 3 (List.cons_ne_nil _ _) rfl (fun D doc pm an cdv ct us ks h1 h2 => match us, ks, h1, h2 with | [_, _, _], [_], _, _ => ⟨_, _, _, _, _, _, rfl, rfl, rfl⟩)
    exact ⟨⟨fd14, ds, ok_put T M_size D_is_region M_first_taken M_count_below F14, vd, bd⟩, He.cls_ok (c.fact 84 (f := .cls "Layout") rfl), He.meth_ok (c.fact 94 (f := .meth "Layout" "put") rfl)⟩
  have M_take_out : Mf P w K mg base _ "Layout" "take_out" ["self", "address"] _ := ⟨⟨fd15, ok_take T M_index_of M_size F15, F15.bindsN (fun _ _ _ _ _ _ us hl => match us, hl with | [_, _], _ => rfl)⟩, He.cls_ok (c.fact 84 (f := .cls "Layout") rfl), He.meth_ok (c.fact 95 (f := .meth "Layout" "take_out") rfl)⟩
  have M_set_pinned : Mf P w K mg base _ "Layout" "set_pinned" ["self", "address", "pinned"] _ := ⟨⟨fd16, ok_pin T M_index_of F16, F16.bindsN (fun _ _ _ _ _ _ us hl => match us, hl with | [_, _, _], _ => rfl)⟩, He.cls_ok (c.fact 84 (f := .cls "Layout") rfl), He.meth_ok (c.fact 96 (f := .meth "Layout" "set_pinned") rfl)⟩
  have M_unpinned_levels : Mf P w K mg base _ "Layout" "unpinned_levels" ["self"] _ := ⟨⟨fd17, ok_levels T F17, F17.bindsN (fun _ _ _ _ _ _ us hl => match us, hl with | [_], _ => rfl)⟩, He.cls_ok (c.fact 84 (f := .cls "Layout") rfl), He.meth_ok (c.fact 97 (f := .meth "Layout" "unpinned_levels") rfl)⟩
  have M_blocks : Mf P w K mg base _ "Layout" "blocks" ["self"] _ := ⟨⟨fd18, ok_blk T F18, F18.bindsN (fun _ _ _ _ _ _ us hl => match us, hl with | [_], _ => rfl)⟩, He.cls_ok (c.fact 84 (f := .cls "Layout") rfl), He.meth_ok (c.fact 98 (f := .meth "Layout" "blocks") rfl)⟩
  have D_first_misfit := df (P := P) (w := w) (base := base) X G (c.fact 9 (f := .glo "first_misfit") rfl) F25 (ps := ["layout", "moves"]) (fun _ _ _ _ _ _ us hl => match us, hl with | [_, _], _ => rfl) (ok_misfit T M_unpinned_levels D_is_move D_is_regionB P_sizes P_length F25)
  have D_places_after := df (P := P) (w := w) (base := base) X G (c.fact 10 (f := .glo "places_after") rfl) F26 (ps := ["layout", "moves"]) (fun _ _ _ _ _ _ us hl => match us, hl with | [_, _], _ => rfl) (ok_places T M_blocks P_sizes M_size F26)
  have D_first_clash := df (P := P) (w := w) (base := base) X G (c.fact 11 (f := .glo "first_clash") rfl) F27 (ps := ["layout", "moves"]) (fun _ _ _ _ _ _ us hl => match us, hl with | [_, _], _ => rfl) (ok_clash T D_places_after F27)
  have D_first_wrong_move := df (P := P) (w := w) (base := base) X G (c.fact 12 (f := .glo "first_wrong_move") rfl) F28 (ps := ["layout", "value"]) (fun _ _ _ _ _ _ us hl => match us, hl with | [_, _], _ => rfl) (ok_wrong T D_first_misfit D_first_clash F28)
  have D_is_rearrangement := df (P := P) (w := w) (base := base) X G (c.fact 13 (f := .glo "is_rearrangement") rfl) F29 (ps := ["layout", "value"]) (fun _ _ _ _ _ _ us hl => match us, hl with | [_, _], _ => rfl) (ok_isR T D_first_wrong_move F29)
  have D_check_rearrangement := dfX (P := P) (w := w) (base := base) X G (c.fact 14 (f := .glo "check_rearrangement") rfl) F30 (ps := ["layout", "value"]) (fun _ _ _ _ _ _ us hl => match us, hl with | [_, _], _ => rfl) (ok_chk T D_first_wrong_move MM F30)
  have D_rearranged := dfX (P := P) (w := w) (base := base) X G (c.fact 15 (f := .glo "rearranged") rfl) F31 (ps := ["layout", "moves"]) (fun _ _ _ _ _ _ us hl => match us, hl with | [_, _], _ => rfl) (ok_rear T D_check_rearrangement M_unpinned_levels M_clone M_take_out M_put_d F31)
  have D_cost := dfX (P := P) (w := w) (base := base) X G (c.fact 16 (f := .glo "cost") rfl) F32 (ps := ["layout", "moves"]) (fun _ _ _ _ _ _ us hl => match us, hl with | [_, _], _ => rfl) (ok_cost T D_check_rearrangement M_unpinned_levels P_sizes M_size F32)
  have D_moved_level := dfX (P := P) (w := w) (base := base) X G (c.fact 17 (f := .glo "moved_level") rfl) F33 (ps := ["layout", "moves"]) (fun _ _ _ _ _ _ us hl => match us, hl with | [_, _], _ => rfl) (ok_lvl T D_check_rearrangement M_unpinned_levels F33)
  have D_check_moves := dfX (P := P) (w := w) (base := base) X G (c.fact 18 (f := .glo "check_moves") rfl) F34 (ps := ["value"]) (fun _ _ _ _ _ _ us hl => match us, hl with | [_], _ => rfl) (ok_checkM T D_is_move MM F34)
  have D_inverse := dfX (P := P) (w := w) (base := base) X G (c.fact 19 (f := .glo "inverse") rfl) F35 (ps := ["moves"]) (fun _ _ _ _ _ _ us hl => match us, hl with | [_], _ => rfl) (ok_inv T D_check_moves F35)
  have D_composed := dfX (P := P) (w := w) (base := base) X G (c.fact 20 (f := .glo "composed") rfl) F36 (ps := ["first", "second"]) (fun _ _ _ _ _ _ us hl => match us, hl with | [_, _], _ => rfl) (ok_comp T D_check_moves F36)
  have D__law_rng := df (P := P) (w := w) (base := base) X G (c.fact 21 (f := .glo "_law_rng") rfl) F37 (ps := ["_law_script", "_law_k"]) (fun _ _ _ _ _ _ us hl => match us, hl with | [_, _], _ => rfl) (ok_rng T F37)
  have D__law_draw := df (P := P) (w := w) (base := base) X G (c.fact 22 (f := .glo "_law_draw") rfl) F38 (ps := ["_law_rng_here", "_law_many"]) (fun _ _ _ _ _ _ us hl => match us, hl with | [_, _], _ => rfl) (ok_draw T F38)
  have D__law_choice := df (P := P) (w := w) (base := base) X G (c.fact 23 (f := .glo "_law_choice") rfl) F39 (ps := ["_law_rng_here", "_law_options"]) (fun _ _ _ _ _ _ us hl => match us, hl with | [_, _], _ => rfl) (ok_choice T D__law_draw F39)
  have D__law_shuffled := df (P := P) (w := w) (base := base) X G (c.fact 24 (f := .glo "_law_shuffled") rfl) F40 (ps := ["_law_rng_here", "_law_values"]) (fun _ _ _ _ _ _ us hl => match us, hl with | [_, _], _ => rfl) (ok_shuf T D__law_draw F40)
  have D__law_sizes := df (P := P) (w := w) (base := base) X G (c.fact 25 (f := .glo "_law_sizes") rfl) F41 (ps := ["_law_rng_here", "_law_levels", "_law_greatest"]) (fun _ _ _ _ _ _ us hl => match us, hl with | [_, _, _], _ => rfl) (ok_sizes T D__law_draw F41)
  have D__law_has_space := df (P := P) (w := w) (base := base) X G (c.fact 26 (f := .glo "_law_has_space") rfl) F42 (ps := ["_law_sizes_here", "_law_length", "_law_blocks_here", "_law_level", "_law_address"]) (fun _ _ _ _ _ _ us hl => match us, hl with | [_, _, _, _, _], _ => rfl) (ok_space T F42)
  have D__law_blocks := df (P := P) (w := w) (base := base) X G (c.fact 27 (f := .glo "_law_blocks") rfl) F43 (ps := ["_law_rng_here", "_law_sizes_here", "_law_length", "_law_many", "_law_one_in"]) (fun _ _ _ _ _ _ us hl => match us, hl with | [_, _, _, _, _], _ => rfl) (ok_blocks T D__law_draw D__law_has_space F43)
  have D__law_runs := df (P := P) (w := w) (base := base) X G (c.fact 28 (f := .glo "_law_runs") rfl) F44 (ps := ["_law_sizes_here", "_law_low", "_law_high"]) (fun _ _ _ _ _ _ us hl => match us, hl with | [_, _, _], _ => rfl) (ok_runs T F44)
  have D__law_free_runs := df (P := P) (w := w) (base := base) X G (c.fact 29 (f := .glo "_law_free_runs") rfl) F45 (ps := ["_law_sizes_here", "_law_length", "_law_blocks_here"]) (fun _ _ _ _ _ _ us hl => match us, hl with | [_, _, _], _ => rfl) (ok_frl T D__law_runs F45)
  have D__law_place := df (P := P) (w := w) (base := base) X G (c.fact 30 (f := .glo "_law_place") rfl) F46 (ps := ["_law_rng_here", "_law_sizes_here", "_law_length", "_law_blocks_here", "_law_level"]) (fun _ _ _ _ _ _ us hl => match us, hl with | [_, _, _, _, _], _ => rfl) (ok_plc T D__law_draw D__law_choice D__law_free_runs F46)
  have D__law_moves := df (P := P) (w := w) (base := base) X G (c.fact 31 (f := .glo "_law_moves") rfl) F47 (ps := ["_law_rng_here", "_law_sizes_here", "_law_length", "_law_blocks_here"]) (fun _ _ _ _ _ _ us hl => match us, hl with | [_, _, _, _], _ => rfl) (ok_movesC T D__law_draw D__law_shuffled D__law_place F47)
  have D__law_world := df (P := P) (w := w) (base := base) X G (c.fact 32 (f := .glo "_law_world") rfl) F48 (ps := ["_law_rng_here"]) (fun _ _ _ _ _ _ us hl => match us, hl with | [_], _ => rfl) (ok_world T D__law_draw D__law_sizes D__law_blocks F48)
  have D__law_made := df (P := P) (w := w) (base := base) X G (c.fact 33 (f := .glo "_law_made") rfl) F49 (ps := ["_law_sizes_here", "_law_length", "_law_blocks_here"]) (fun _ _ _ _ _ _ us hl => match us, hl with | [_, _, _], _ => rfl) (ok_made T D_Sizes D_Layout M_put_d M_set_pinned F49)
  have D__law_is_address := df (P := P) (w := w) (base := base) X G (c.fact 34 (f := .glo "_law_is_address") rfl) F50 (ps := ["_law_value"]) (fun _ _ _ _ _ _ us hl => match us, hl with | [_], _ => rfl) (ok_lawAddr T F50)
  have D__law_is_move := df (P := P) (w := w) (base := base) X G (c.fact 35 (f := .glo "_law_is_move") rfl) F51 (ps := ["_law_value"]) (fun _ _ _ _ _ _ us hl => match us, hl with | [_], _ => rfl) (ok_lawMove T D__law_is_address F51)
  have D__law_list_problem := df (P := P) (w := w) (base := base) X G (c.fact 36 (f := .glo "_law_list_problem") rfl) F52 (ps := ["_law_value"]) (fun _ _ _ _ _ _ us hl => match us, hl with | [_], _ => rfl) (ok_lp T D__law_is_move F52)
  have D__law_problem := df (P := P) (w := w) (base := base) X G (c.fact 37 (f := .glo "_law_problem") rfl) F53 (ps := ["_law_sizes_here", "_law_length", "_law_blocks_here", "_law_value"]) (fun _ _ _ _ _ _ us hl => match us, hl with | [_, _, _, _], _ => rfl) (ok_prob T D__law_is_move F53)
  have D__law_is_due := dfG (P := P) (w := w) (base := base) X G (c.fact 39 (f := .glo "_law_is_due") rfl) F55 (ps := ["_law_told_here", "_law_due"]) (fun _ _ _ _ _ _ us hl => match us, hl with | [_, _], _ => rfl) (ok_due T F55)
  have D__law_odd := df (P := P) (w := w) (base := base) X G (c.fact 40 (f := .glo "_law_odd") rfl) F56 (ps := ["_law_rng_here", "_law_sizes_here", "_law_length", "_law_blocks_here"]) (fun _ _ _ _ _ _ us hl => match us, hl with | [_, _, _, _], _ => rfl) (ok_odd T D__law_draw D__law_choice F56)
  have D__law_spoilt := df (P := P) (w := w) (base := base) X G (c.fact 41 (f := .glo "_law_spoilt") rfl) F57 (ps := ["_law_rng_here", "_law_sizes_here", "_law_length", "_law_blocks_here", "_law_pile"]) (fun _ _ _ _ _ _ us hl => match us, hl with | [_, _, _, _, _], _ => rfl) (ok_spoilt T D__law_draw D__law_choice D__law_odd F57)
  have D__law_into_one := df (P := P) (w := w) (base := base) X G (c.fact 42 (f := .glo "_law_into_one") rfl) F58 (ps := ["_law_rng_here", "_law_sizes_here", "_law_blocks_here", "_law_pile"]) (fun _ _ _ _ _ _ us hl => match us, hl with | [_, _, _, _], _ => rfl) (ok_into T D__law_draw D__law_choice D__law_shuffled F58)
  have KM := kmB_ok xkM
  have inj := injB_ok x_inj
  have tbf := tab_facts c0
  have gO := He.glo_ok X G (c.fact 38 (f := .glo "_law_told") rfl)
  have bO : L2.Binds K fd54 ["_law_call"] [] := F54.bindsN (fun _ _ _ _ _ _ us hl => match us, hl with | [_], _ => rfl)
  have hcd0 := tab_code (tbf "_law_list_right" (by simp [tabNs])).1 F59
  have TB0 : LamX.TabB base mg (cdA K "_law_list_right") (PtK K 0) := TB "_law_list_right" (by simp [tabNs])
  have D__law_list_right := dfG (P := P) (w := w) (base := base) X G (c.fact 43 (f := .glo "_law_list_right") rfl) F59 (ps := ["_law_layout", "_law_value", "_law_due"]) (fun _ _ _ _ _ _ us hl => match us, hl with | [_, _, _], _ => rfl) ((fun F => ok_lr inj T KM D_rearranged D_cost D_moved_level D_is_rearrangement D__law_is_due F54 gO bO TB0 F hcd0) F59)
  have hcd1 := tab_code (tbf "_law_alone_right" (by simp [tabNs])).1 F60
  have TB1 : LamX.TabB base mg (cdA K "_law_alone_right") (PtK K 1) := TB "_law_alone_right" (by simp [tabNs])
  have D__law_alone_right := dfG (P := P) (w := w) (base := base) X G (c.fact 44 (f := .glo "_law_alone_right") rfl) F60 (ps := ["_law_rng_here", "_law_value", "_law_other"]) (fun _ _ _ _ _ _ us hl => match us, hl with | [_, _, _], _ => rfl) ((fun F => ok_ar inj T KM D_inverse D_composed (lp2 D__law_list_problem) D__law_is_due F54 gO bO TB1 F hcd1) F60)
  have D__law_eight_right := dfG (P := P) (w := w) (base := base) X G (c.fact 45 (f := .glo "_law_eight_right") rfl) F61 (ps := ["_law_rng_here"]) (fun _ _ _ _ _ _ us hl => match us, hl with | [_], _ => rfl) (ok_eight T D__law_draw D__law_shuffled D__law_made D__law_list_right F61)
  have D__law_right := dfG (P := P) (w := w) (base := base) X G (c.fact 46 (f := .glo "_law_right") rfl) F62 (ps := ["_law_rng_here"]) (fun _ _ _ _ _ _ us hl => match us, hl with | [_], _ => rfl) (ok_right T D__law_draw D__law_world D__law_made D__law_moves D__law_spoilt D__law_into_one (prob2 D__law_problem) M_blocks D__law_list_right D__law_alone_right F62)
  exact ok_law T D__law_rng D__law_right D__law_eight_right F63
end
end K34
open PySem PySem.W PySem.Calls PyProof.Rows
theorem PySem.Challenge.cw_exactroom_k34_first_problem_of_moves_holds : PySem.Challenge.rw_exactroom_k34_first_problem_of_moves.Holds := by
  w_on; o_law
  refine HandSHeadRun.head_any (r := OpenLaw.row PySem.Challenge.rw_exactroom_k34_first_problem_of_moves) (q := view (OpenLaw.row PySem.Challenge.rw_exactroom_k34_first_problem_of_moves).prog [66]) (H := K34.hk) (ob := K34.ob) (M := 16000)
    (loose := K34.loose) (d := HandSHeadRun.topDef (OpenLaw.row PySem.Challenge.rw_exactroom_k34_first_problem_of_moves).prog 66) (kwd := []) K34.ob_eq
    (by kernel_rfl) (fun s => by kernel_rfl) K34.run (by kernel_rfl) (by kernel_rfl) (by kernel_rfl) (by rfl) (by first | assumption | decide +kernel) (by decide +kernel) ⟨rfl, rfl, rfl, rfl, rfl, by decide +kernel⟩ ?hw ?hc
  case hw => w_witness2
  case hc =>
    refine Gu.walkGT (l := PySem.Challenge.rw_exactroom_k34_first_problem_of_moves) (n := 63) (k := 17) (x := "_law_script") (CX := L2.CX0) rfl (by decide) (by kernel_rfl) ⟨⟨rfl, by decide, by decide⟩, rfl⟩ ?F (fun _ _ _ _ z => z)
    intro w mg fa h Y G hmg0
    obtain ⟨K, KX, c, ht⟩ := Y
    have hmg : mg ("law" : PySem.Str) = some (.ref fa) := by
      have e : (HandSHeadRun.topDef (OpenLaw.row PySem.Challenge.rw_exactroom_k34_first_problem_of_moves).prog 66).name = ("law" : PySem.Str) := by kernel_rfl
      rw [← e]
      exact hmg0
    obtain ⟨fd, hb, hF⟩ := K34.facts (P := (PySem.Challenge.rw_exactroom_k34_first_problem_of_moves).prog) (w := w) KX G hmg c
    have tf := K34.tab_facts c
    refine ⟨K, fd, K34.spLaw K (K34.PtK K), K34.tabNs.map fun x => (Ex.cdA K x, Ex.ptA K x), KX, fun p hp => ?_, fun p hp => ?_, fun p hp => ?_, hb, fun H a ns hl h0 hS => ⟨a, ns, rfl, hS, hl, K34.tabs_nil fun x hx => h0.at_ _ (List.mem_map.mpr ⟨x, hx, rfl⟩), fun _ => rfl⟩, fun base hK hN hT => hF base hK hN fun x hx => hT _ (List.mem_map.mpr ⟨x, hx, rfl⟩)⟩
    · obtain ⟨x, hx, rfl⟩ := List.mem_map.mp hp; exact ht x hx
    · obtain ⟨x, hx, rfl⟩ := List.mem_map.mp hp; exact (tf x hx).2.2
    · obtain ⟨x, hx, rfl⟩ := List.mem_map.mp hp; exact PySem.W.codeHd_of_K KX (tf x hx).2.1

