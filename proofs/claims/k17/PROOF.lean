import PyProof.Rows.All
import Wide.All
import OpenK.AllK
import Wide.FinOn
import PyProof.ReprRoads
import HandS.ForMost
import HandS.ForExc
import HandS.Property
import HandS.ClsMeth
import HandS.Defaults
import HandS.IsInst
import HandS.Wide
import HandS.WideBits
import HandS.Ends
import HandS.HeadEnd
import HandS.Head0
import HandS.Head1
import HandS.Head2
import HandS.HeadHook1
import HandS.HeadHook2
import HandS.Flow
import HandS.Style
import PyProof.LongRange
import HandS.ExcInit
import HandS.ExcField
import HandS.ExcIs
import HandS.TryOnly
import HandS.OwnEq
import KE.KExcInit
import PyProof.ExcBaseAll.ArithmeticError
import PyProof.ExcBaseAll.LookupError
import PyProof.ExcBaseAll.RuntimeError
import HandS.ExcValue
import HandS.TryMany
import HandS.EndTab
import HandS.Walk
import HandS.Comp
import HandS.Iter
import HandS.Dict
import PyProof.StrBlock2
import KE.KStateDown
import Lean
import PySem.Challenge.RW_exactroom_k17_errors_created
set_option Elab.async false
set_option linter.all false
set_option maxRecDepth 100000
set_option maxHeartbeats 4000000
/-! Own layer: defs that are called where no repr is under way (the guards are known to be none), so that repr of data can be walked. -/
namespace Gu
open PySem PySem.Spec PyProof.Rows L2
structure RoomG (k : Nat) (A : Around) : Prop where
  r : Room k A
  g : A.guards = some []
theorem RoomG.mono {j k : Nat} {A : Around} (x : RoomG k A) (h : j ≤ k) : RoomG j A := ⟨x.r.mono h, x.g⟩
theorem RoomG.down {k : Nat} {A : Around} (x : RoomG (k + 1) A) (env : Env) : RoomG k (A.deeper env) := ⟨x.r.deeper env, x.g⟩
structure FnG (P : Program) (w : World) (K : PySem.W.Frag) (mg : Str → Option Value) (base : Heap) (CX : CXT) (k : Nat) (f : Addr) (fd : FuncData) (ps : List Str) (sp : Sp) : Prop where
  len : ∀ vs H Q E, sp vs H Q E → vs.length = ps.length
  run : ∀ (A : Around) (outer : List Env) (s : Shared) (H : Hp) (args : Args) (us : List Value) (vs : List V) (Q : VK) (E : XK),
    RoomG k A → Env0 P w K mg base A outer s H → BindsTo s fd args (ps.zip us) → Vals vs us → sp vs H Q E →
    codeAny (model P w) A (.call (.ref f) args) (CR CX outer P w H s Q E) s
section
variable {P : Program} {w : World} {K : PySem.W.Frag} {mg : Str → Option Value} {base : Heap} {CX : CXT} {k : Nat} {f : Addr} {fd : FuncData} {ps : List Str} {sp : Sp}
theorem FnG.of (F : FnOk P w K mg base CX k f fd ps sp) : FnG P w K mg base CX k f fd ps sp :=
  ⟨F.len, fun A outer s H args us vs Q E hr => F.run A outer s H args us vs Q E hr.r⟩
/-- a def by its body -/
theorem okG {x qual : Str} {params : Arguments} {body : List Stmt} {scope : Scope} {dvs : List V} {kws : List (Str × V)} {N : List Str}
    (F : FunD K x qual params body scope dvs kws f fd) (S : FnScope N ps scope) (len : ∀ vs H Q E, sp vs H Q E → vs.length = ps.length)
    (hbody : ∀ (cdv : Value) (A : Around) (outer : List Env) (s : Shared) (H : Hp) (vs : List V) (Q : VK) (E : XK),
      RoomG k (A.deeper (envOfC qual scope s.heap.objs.size f cdv)) → sp vs H Q E →
      ∃ t, PSs (cxOf CX P w K mg base N qual scope f cdv A outer s H E) body t ∧ t { nx := fun _ H' => Q .non H', rt := Q } (start N vs) H) :
    FnG P w K mg base CX (k + 1) f fd ps sp := by
  obtain ⟨oc, od, dV, kV, doc, pm, an, cdv, ct, osl, rfl, lk, hcd, _, _⟩ := F.ex
  refine ⟨len, fun A outer s H args us vs Q E hr e0 hb rv hsp => ?_⟩
  have KX : K.In s.heap := e0.mod.kin.keeps fun b o e => (e0.bs b o e).1
  have hkinds : ∀ y ∈ ps.zip us, scope.names.lookup y.1 = some .local ∨
      (scope.names.lookup y.1 = some .cell ∧ ((cellsFrom (s.heap.objs.size + 1) scope.names []).lookup y.1).isSome = true) := by
    rintro ⟨n, v⟩ hy
    rcases S.par n (List.of_mem_zip hy).1 with q | q
    · exact .inl q
    · exact .inr ⟨q, PySem.W.cellsFrom_some _ _ _ (.inl q)⟩
  refine codeAny_call_function hr.r.depth (KX _ _ lk) rfl S.co S.gen rfl (PySem.W.codeRec_of KX hcd) (hb _ _ _ _ ?_)
  refine wpAny_newFunctionEnv_cells S.kind hkinds fun env he s1 x => ?_
  subst he
  refine ⟨(e0.mod.nolimit.keeps fun b o e => (e0.bs b o e).1).keeps x.toInCall.keep, codeAny_func ?_⟩
  obtain ⟨t, ht, hq⟩ := hbody cdv A outer s H vs Q E (hr.down _) hsp
  have I := inv_start (CX := CX) (E := E) (N := N) (qual := qual) (f := f) (cd := cdv) S hr.r.hd e0 (len _ _ _ _ hsp) rv x
  refine wpAny_mono (ht.run [] s1 (start N vs) H _ I hq) (fun fl s' hs => ?_) fun e s' hs => hs
  cases fl with
  | ret u =>
    obtain ⟨v, σ', H', J, rv', q⟩ := hs
    exact ⟨v, H', J.os, J.bare, J.base, J.hok, rv', q⟩
  | next =>
    obtain ⟨σ', H', J, q⟩ := hs
    exact ⟨V.non, H', J.os, J.bare, J.base, J.hok, rfl, q⟩
  | brk => exact hs.elim fun _ z => z.elim fun _ z => z.2.elim
  | cont => exact hs.elim fun _ z => z.elim fun _ z => z.2.elim
end
section
variable {X : Cx} {CX : CXT} {k : Nat} {f : Addr} {fd : FuncData} {ps : List Str} {sp : Sp} {dvs : List V} {ds : List Value} {E : XK} {x : Str} {p pos : Pos} {e : Expr} {es : List Expr} {t : TA}
theorem runG {pins : List (Addr × Obj)} {σ : L2.St} {H : Hp} {s : Shared} {Q : VK} {us : List Value} {vs : List V} (F : FnG X.prog X.w X.K X.mg X.base CX k f fd ps sp)
    (hr : RoomG k X.A) (hb : Binds X.K fd ps ds) (hd : Vals dvs ds) (hx : Passes CX X E) (I : Inv X pins σ H s) (r : Vals vs us) (h : sp (vs ++ dvs) H Q E) :
    wpAny (model X.prog X.w) X.A (call (.ref f) us) (EP X pins σ Q) X.xe s := by
  have r2 := r.append hd
  have hl : (us ++ ds).length = ps.length := r2.length.symm.trans (F.len _ _ _ _ h)
  refine wpAny_call (codeAny_mono (F.run X.A X.stack s H ⟨us, []⟩ _ _ Q E hr I.env0 (hb s us I.kIn hl) r2 h) fun r s' hq => ?_)
  match r, hq with
  | .error e, hq => exact hx pins σ H s e s' I hq
  | .ok (.ret u), hq => exact I.after hq
/-- f(e, ..) -/
theorem pe_callG (F : FnG X.prog X.w X.K X.mg X.base CX k f fd ps sp) (hr : RoomG k X.A) (hg : Gl X x) (hm : X.mg x = some (.ref f)) (hk : PySem.W.keepIn X.K (.ref f) = true)
    (hb : Binds X.K fd ps ds) (hd : Vals dvs ds) (hx : Passes CX X E) (ha : PA X (e :: es) t) (hdb : (x == ("__debug__" : Str)) = false := by decide)
    (he : starEach (e :: es) X.env = (false, eval e X.env) :: starEach es X.env := by rfl) (hpl : (backTo pos (starEach es X.env)).any (·.1) = false := by rfl) :
    PE X (.Call (.Name x p) (e :: es) [] pos) (tCall sp dvs E t) :=
  ⟨fun pins s σ H Q I h => wpAny_Call_Name_kw (ld_glob I hg hm (PySem.W.callWith_K (h₀ := X.base) I.ok.mod.kin hk
    (thn (ha.run pos pins s σ H _ I h) fun us s1 ⟨vs, H1, I1, r, q⟩ => ⟨I1.kIn, runG F hr hb hd hx I1 r q⟩) he hpl) hdb)⟩
/-- repr of a list or a tuple of data -/
def rReprD (K : PySem.W.Frag) : List V → Hp → VK → Prop := fun xs H Q => ∃ (a : Addr) (d : PyData), xs = [.ref a] ∧ Dp K H (.ref a) d ∧ d.showable = true ∧ d.hasDict = false ∧ d.depth ≤ 60 ∧ d.shown.length ≤ sizeLine ∧ Q (.str d.shown) H
theorem call_reprD (hr : RoomG k X.A) : CallR X (.builtin "repr") (rReprD X.K) := by
  intro pins s σ H xs us Q I r h
  obtain ⟨a, d, rfl, hd, hs, hn, hdep, hz, q⟩ := h
  obtain ⟨u, rfl, ru⟩ := vals1 r
  obtain rfl : u = Value.ref a := ru
  obtain ⟨as, rd⟩ := Dp.reads I d (.ref a) (.ref a) hd rfl
  have hu := hr.r.units
  exact repr_of_reads' rd hs (PyData.noDict_hsm hn) hr.g (by omega) (fun _ _ e => e) (fun h' u tk hk => ⟨.str d.shown, H, I.kept hk, ⟨u, rfl⟩, q⟩) hz
end
/-- the law's call, from its promise where no repr is under way -/
theorem law_go {P : Program} {w : World} {K : PySem.W.Frag} {mg mb : Str → Option Value} {CX : CXT} {k : Nat} {fa a : Addr} {fd : FuncData} {x : Str} {sp : Sp} {s₁ : Shared} {vs : List Value} {H : Hp}
    (KX : K.In s₁.heap) (hns : s₁.heap.Ns mainGlobals mg) (hb : s₁.heap.Ns builtinsNs mb) (hbb : ∀ x : Str, x ≠ "__name__" → mb x = bootBuiltins x) (hlim : s₁.heap.NoLimit) (hg : s₁.gens = #[])
    (ha : s₁.heap.get? a = some { cls := .type "list", data := .seq vs.toArray }) (hr : RoomG k callerA)
    (F : ∀ base : Heap, K.In base → base.Ns mainGlobals mg → FnG P w K mg base CX k fa fd [x] sp) (hbind : ∀ (s : Shared) (u : Value), BindsTo s fd ⟨[u], []⟩ [(x, u)])
    (hsp : sp [.ref a] H (fun v _ => v = .bl true) fun _ _ _ => False) (hCX : ∀ e s', CX [] H s₁ (fun _ _ _ => False) e s' → False)
    (hO : Only H) (hok : HOk P w H s₁.heap) (hA : ∀ b, H b ≠ none → b = a) (hK : H a ≠ none → K.lookup a = none) :
    codeAny (model P w) callerA (.call (.ref fa) ⟨[.ref a], []⟩) (fun r s' => r = .ok (.ret (.bool true)) ∧ OldK s₁.heap s'.heap ∧ s'.os = s₁.os ∧ AllBare s'.gens) s₁ := by
  have free : ∀ {b : Addr} {o : Obj}, s₁.heap.get? b = some o → (b = a → False) → (hidT s₁.heap H).get? b = some o := fun {b o} e n => hidT_get e (by
    cases q : H b with
    | none => rfl
    | some u => exact (n (hA b (by rw [q]; exact fun z => nomatch z))).elim)
  have nsK : ∀ {b : Addr} {m : Str → Option Value}, s₁.heap.Ns b m → (hidT s₁.heap H).Ns b m := fun {b m} ⟨o, es, ep, e, d, r⟩ => ⟨o, es, ep, free e (fun z => by
    rw [z, ha] at e
    have e' := Option.some.inj e
    rw [← e'] at d
    exact nomatch d), d, r⟩
  have hKb : K.In (hidT s₁.heap H) := fun b o e => hidT_get (KX b o e) (by
    cases q : H b with
    | none => rfl
    | some u =>
      have z : b = a := hA b (by rw [q]; exact fun z => nomatch z)
      rw [z] at e q
      rw [hK (by rw [q]; exact fun z => nomatch z)] at e
      exact nomatch e)
  obtain ⟨mc, l1, l2⟩ := hlim
  have e0 : Env0 P w K mg (hidT s₁.heap H) callerA [] s₁ H :=
    ⟨rfl, ⟨hKb, nsK hns, ⟨mb, nsK hb, hbb⟩, ⟨mc, nsK l1, l2⟩⟩, fun b o e => of_hidT e, Nat.le_of_eq (hidT_size _ _), trivial, fun b hb => absurd (show b ∈ ([] : List Addr) from hb) List.not_mem_nil, hok, .of_eq hg⟩
  refine codeAny_mono ((F _ hKb (nsK hns)).run callerA [] s₁ H ⟨[.ref a], []⟩ [.ref a] [.ref a] _ _ hr e0 (hbind s₁ (.ref a)) (.cons rfl .nil) hsp) fun r s' h => ?_
  match r, h with
  | .error e, h => exact (hCX e s' h).elim
  | .ok (.ret u), h =>
    obtain ⟨v, H', os, bare, un, hok', r', q⟩ := h
    obtain rfl : v = .bl true := q
    obtain rfl : u = Value.bool true := r'
    refine ⟨rfl, OldK.of_keep fun b o e => ?_, os, bare⟩
    cases q : H b with
    | none => exact un.keep b o e q (fun z => absurd (show b ∈ ([] : List Addr) from z) List.not_mem_nil) (fun z => absurd (show b ∈ ([] : List Addr) from z) List.not_mem_nil)
    | some u =>
      rcases hO b with z | ⟨ob, xs, z⟩
      · rw [q] at z
        exact nomatch z
      · obtain ⟨e1, _⟩ := hok b _ z
        obtain ⟨e2, _⟩ := hok' b _ (un.frzs b ob _ z)
        rw [e] at e1
        rw [Option.some.inj e1]
        exact e2
theorem law_callG {P : Program} {w : World} {K : PySem.W.Frag} {mg mb : Str → Option Value} {CX : CXT} {k : Nat} {fa a : Addr} {fd : FuncData} {x : Str} {sp : Sp} {s₁ : Shared} {vs : List Value} {ns : List Int}
    (KX : K.In s₁.heap) (hns : s₁.heap.Ns mainGlobals mg) (hb : s₁.heap.Ns builtinsNs mb) (hbb : ∀ x : Str, x ≠ "__name__" → mb x = bootBuiltins x) (hlim : s₁.heap.NoLimit) (hg : s₁.gens = #[])
    (ha : s₁.heap.get? a = some { cls := .type "list", data := .seq vs.toArray }) (hi : IntsAre vs ns) (hl : ns.length ≤ sizeLine) (hr : RoomG k callerA)
    (F : ∀ base : Heap, K.In base → base.Ns mainGlobals mg → FnG P w K mg base CX k fa fd [x] sp) (hbind : ∀ (s : Shared) (u : Value), BindsTo s fd ⟨[u], []⟩ [(x, u)])
    (hsp : ∀ H : Hp, Only H → SqL K H a (ns.map V.int) → sp [.ref a] H (fun v _ => v = .bl true) fun _ _ _ => False) (hCX : ∀ H e s', CX [] H s₁ (fun _ _ _ => False) e s' → False) :
    codeAny (model P w) callerA (.call (.ref fa) ⟨[.ref a], []⟩) (fun r s' => r = .ok (.ret (.bool true)) ∧ OldK s₁.heap s'.heap ∧ s'.os = s₁.os ∧ AllBare s'.gens) s₁ := by
  have rv := vals_ints hi
  have lenV := hi.length
  cases hk : K.lookup a with
  | some o =>
    have e := (KX a o hk).symm.trans ha
    obtain rfl := Option.some.inj e
    have hO : Only (fun _ => none) := fun _ => .inl rfl
    exact law_go (H := fun _ => none) KX hns hb hbb hlim hg ha hr F hbind
      (hsp _ hO (.inr ⟨_, vs.toArray, _, hk, rfl, rfl, rfl, by rw [List.size_toArray, lenV]; exact hl, by simpa using rv⟩)) (hCX _) hO
      (fun b u z => nomatch (show (none : Option HO) = some u from z)) (fun b z => (z rfl).elim) (fun z => (z rfl).elim)
  | none =>
    let H0 : Hp := fun b => if b = a then some (.frz { cls := .type "list", data := .seq vs.toArray } (.lst (ns.map V.int))) else none
    have at_ : H0 a = some (.frz { cls := .type "list", data := .seq vs.toArray } (.lst (ns.map V.int))) := if_pos rfl
    have off : ∀ b, b ≠ a → H0 b = none := fun b h => if_neg h
    have hO : Only H0 := fun b => by
      by_cases h : b = a
      · rw [h]
        exact .inr ⟨_, _, at_⟩
      · exact .inl (off b h)
    refine law_go (H := H0) KX hns hb hbb hlim hg ha hr F hbind (hsp _ hO (.inl (.inr ⟨_, at_⟩))) (hCX _) hO (fun b u z => ?_) (fun b z => ?_) (fun _ => hk)
    · by_cases h : b = a
      · rw [h, at_] at z
        obtain rfl := Option.some.inj z
        rw [h]
        exact ⟨ha, by rw [List.length_map]; exact hl, vs, _, rv, ha⟩
      · rw [off b h] at z
        exact nomatch z
    · by_cases h : b = a
      · exact h
      · exact (z (off b h)).elim
/-- the end of a law, over a head by facts -/
theorem walkG {l : PySem.W.OpenLaw} {n k : Nat} {q : Program} {loose : List Str} {XP : (Str → Option Value) → Heap → Prop} {YP : World → Heap → Prop} {d : DefRec} {CX : CXT} {x : Str}
    (hn : l.most = some n) (hn2 : n ≤ sizeLine) (hdf : d.params.defaults = []) (hr : RoomG k callerA)
    (F : ∀ (w : World) (mg : Str → Option Value) (fa : Addr) (h : Heap), YP w h → h.Ns mainGlobals mg → mg d.name = some (.ref fa) →
      ∃ (K : PySem.W.Frag) (fd : FuncData) (sp : Sp), K.In h ∧ (∀ (s : Shared) (u : Value), BindsTo s fd ⟨[u], []⟩ [(x, u)]) ∧
        (∀ (H : Hp) (a : Addr) (ns : List Int), ns.length ≤ n → Only H → SqL K H a (ns.map V.int) → sp [.ref a] H (fun v _ => v = .bl true) fun _ _ _ => False) ∧
        ∀ base : Heap, K.In base → base.Ns mainGlobals mg → FnG l.prog w K mg base CX k fa fd [x] sp)
    (hCX : ∀ (H : Hp) (s : Shared) (e : Value) (s' : Shared), CX [] H s (fun _ _ _ => False) e s' → False) :
    PySem.W.WalkO q loose XP YP l.row.toRowW d [] (fun f vs => PySem.call f vs) := by
  refine Att.attach_call hn hdf fun w s₀ s₁ mg mb fa o pm cd doc a vs ns G Y ho hd hcd hmg hobj hints hlen hg => ?_
  obtain ⟨K, fd, sp, KX, hb, hsp, hF⟩ := F w mg fa _ Y G.T.g hmg
  exact law_callG KX G.T.g G.T.b G.T.builtins G.T.nolimit hg hobj hints (Nat.le_trans hlen hn2) hr hF hb (fun H hO hS => hsp H a ns hlen hO hS) fun H e s' => hCX H s₁ e s'
end Gu

set_option Elab.async false
set_option linter.all false
set_option maxRecDepth 100000
set_option maxHeartbeats 4000000
/-! Own layer: defs, methods, makers and properties by their names. -/
namespace Ex
open PySem PySem.Spec PyProof.Rows L2 Gu
section
variable (P : Program) (w : World) (K : PySem.W.Frag) (mg : Str → Option Value) (base : Heap)
/-- the module's def x keeps sp -/
structure Df (k : Nat) (x : Str) (ps : List Str) (sp : Sp) : Prop where
  ex : ∃ fd, FnOk P w K mg base CX0 k (He.ga K x) fd ps sp ∧ Binds K fd ps []
  gl : mg x = some (.ref (He.ga K x))
  kp : PySem.W.keepIn K (.ref (He.ga K x)) = true
structure DfG (k : Nat) (x : Str) (ps : List Str) (sp : Sp) : Prop where
  ex : ∃ fd, FnG P w K mg base CX0 k (He.ga K x) fd ps sp ∧ Binds K fd ps []
  gl : mg x = some (.ref (He.ga K x))
  kp : PySem.W.keepIn K (.ref (He.ga K x)) = true
/-- .. called by keywords ks alone; j: the places of the parameters among the keywords -/
structure DfK (k : Nat) (x : Str) (ps ks : List Str) (j : List Nat) (sp : Sp) : Prop where
  ex : ∃ fd, FnOk P w K mg base CX0 k (He.ga K x) fd ps sp ∧ ∀ (s : Shared) (ws : List Value), ws.length = ks.length → BindsTo s fd ⟨[], ks.zip ws⟩ (ps.zip (j.filterMap fun i => ws[i]?))
  gl : mg x = some (.ref (He.ga K x))
  kp : PySem.W.keepIn K (.ref (He.ga K x)) = true
structure Mf (k : Nat) (c m : Str) (ps : List Str) (sp : Sp) : Prop where
  ex : ∃ fd, FnOk P w K mg base CX0 k (He.ma K (He.ga K c) m) fd ps sp ∧ Binds K fd ps []
  cl : Cls K (He.ga K c)
  me : Meth K (He.ga K c) m (He.ma K (He.ga K c) m)
structure Pf (k : Nat) (c m : Str) (sp : Sp) : Prop where
  cl : Cls K (He.ga K c)
  ex : ∃ (p g : Addr) (fd : FuncData), PropOf K (He.ga K c) m p g ∧ FnOk P w K mg base CX0 k g fd ["self"] sp ∧ Binds K fd ["self"] []
structure Kf (k : Nat) (c : Str) (ps : List Str) (sp : Sp) : Prop where
  ex : ∃ fd, FnOk P w K mg base CX0 k (He.ma K (He.ga K c) "__init__") fd ps sp ∧ Binds K fd ps []
  gl : mg c = some (.ref (He.ga K c))
  mkr : Mk K (He.ga K c) (He.ma K (He.ga K c) "__init__")
end
section
variable {X : Cx} {k j : Nat} {x c m : Str} {ps ks : List Str} {ji : List Nat} {sp : Sp} {p pos apos : Pos} {e o : Expr} {es : List Expr} {kws : List Keyword} {t tk : TA} {ta : TE}
theorem pcall (D : Df X.prog X.w X.K X.mg X.base k x ps sp) (hr : Room j X.A) (ha : PA X (e :: es) t) (hj : k ≤ j := by decide) (hg : Gl X x := by rfl) (hdb : (x == ("__debug__" : Str)) = false := by decide)
    (he : starEach (e :: es) X.env = (false, eval e X.env) :: starEach es X.env := by rfl) (hpl : (backTo pos (starEach es X.env)).any (·.1) = false := by rfl) :
    PE X (.Call (.Name x p) (e :: es) [] pos) (tCall sp [] E0 t) := by
  obtain ⟨fd, F, b⟩ := D.ex
  exact pe_call F (hr.mono hj) hg D.gl D.kp b .nil pass0 ha hdb he hpl
theorem pcallG (D : DfG X.prog X.w X.K X.mg X.base k x ps sp) (hr : RoomG j X.A) (ha : PA X (e :: es) t) (hj : k ≤ j := by decide) (hg : Gl X x := by rfl) (hdb : (x == ("__debug__" : Str)) = false := by decide)
    (he : starEach (e :: es) X.env = (false, eval e X.env) :: starEach es X.env := by rfl) (hpl : (backTo pos (starEach es X.env)).any (·.1) = false := by rfl) :
    PE X (.Call (.Name x p) (e :: es) [] pos) (tCall sp [] E0 t) := by
  obtain ⟨fd, F, b⟩ := D.ex
  exact pe_callG F (hr.mono hj) hg D.gl D.kp b .nil pass0 ha hdb he hpl
def tKw (sp : Sp) (n : Nat) (j : List Nat) (tk : TA) : TE := fun σ H Q => tk σ H fun zs H2 => zs.length = n ∧ sp (j.filterMap fun i => zs[i]?) H2 Q E0
theorem vals_pick {zs : List V} {ws : List Value} (r : Vals zs ws) : ∀ j : List Nat, Vals (j.filterMap fun i => zs[i]?) (j.filterMap fun i => ws[i]?)
  | [] => .nil
  | i :: j => by
    rw [List.filterMap_cons, List.filterMap_cons]
    cases e : zs[i]? with
    | none =>
      rw [r.none_of e]
      exact vals_pick r j
    | some z =>
      obtain ⟨u, hu, ru⟩ := r.get e
      rw [hu]
      exact .cons ru (vals_pick r j)
theorem pcallK (D : DfK X.prog X.w X.K X.mg X.base k x ps ks ji sp) (hr : Room j X.A) (hkw : PK X kws tk) (hj : k ≤ j := by decide) (hg : Gl X x := by rfl)
    (hall : (backToKw pos (keywordEach kws X.env)).all (·.1.isSome) = true := by rfl) (hks : (backToKw pos (keywordEach kws X.env)).filterMap (·.1) = ks := by rfl)
    (hdb : (x == ("__debug__" : Str)) = false := by decide)
    (hpl : ((backTo pos (starEach [] X.env)).any (·.1) || (backToKw pos (keywordEach kws X.env)).any (·.1.isNone)) = false := by rfl) :
    PE X (.Call (.Name x p) [] kws pos) (tKw sp ks.length ji tk) := by
  obtain ⟨fd, F, b⟩ := D.ex
  refine ⟨fun pins s σ H Q I h => wpAny_Call_Name_kw (ld_glob I hg D.gl ?_ hdb)⟩
  refine PySem.W.callWith_KW0 (h₀ := X.base) I.ok.mod.kin D.kp hall (thn (hkw.run pos pins s σ H _ I h) fun ws s2 ⟨zs, H2, I2, rz, l2, q2⟩ => ⟨I2.kIn, ?_⟩) hpl
  rw [hks]
  refine wpAny_call (codeAny_mono (F.run X.A X.stack s2 H2 ⟨[], ks.zip ws⟩ _ _ Q E0 (hr.mono hj) I2.env0 (b s2 ws (rz.length.symm.trans l2)) (vals_pick rz ji) q2) fun r s' hq => ?_)
  match r, hq with
  | .ok (.ret u), hq => exact I2.after hq
theorem pmeth {pl : Sem Bool} (D : Mf X.prog X.w X.K X.mg X.base k c m ps sp) (hr : Room j X.A) (he : PE X o ta) (ha : PA X (e :: es) t) (hj : k ≤ j := by decide)
    (hst : starEach (e :: es) X.env = (false, eval e X.env) :: starEach es X.env := by rfl) (hpl : (backTo pos (starEach es X.env)).any (·.1) = false := by rfl)
    (ht : eval (.Call (.Attribute o m apos) (e :: es) [] pos) X.env = (do
      let ov ← eval o X.env
      standAt apos.atName
      let (f, first) ← holding [ov] (getMethod ov m pl)
      callWith pos f first (backTo pos (starEach (e :: es) X.env)) (backToKw pos (keywordEach [] X.env))) := by rfl) :
    PE X (.Call (.Attribute o m apos) (e :: es) [] pos) (tMeth (He.ga X.K c) m sp [] E0 ta t) := by
  obtain ⟨fd, F, b⟩ := D.ex
  exact pe_meth he D.cl D.me F (hr.mono hj) b .nil pass0 ha hst hpl ht
theorem pmeth0 {pl : Sem Bool} (D : Mf X.prog X.w X.K X.mg X.base k c m ps sp) (hr : Room j X.A) (he : PE X o ta) (hj : k ≤ j := by decide)
    (ht : eval (.Call (.Attribute o m apos) [] [] pos) X.env = (do
      let ov ← eval o X.env
      standAt apos.atName
      let (f, first) ← holding [ov] (getMethod ov m pl)
      callWith pos f first (backTo pos (starEach [] X.env)) (backToKw pos (keywordEach [] X.env))) := by rfl) :
    PE X (.Call (.Attribute o m apos) [] [] pos) (tMeth (He.ga X.K c) m sp [] E0 ta tNil) := by
  obtain ⟨fd, F, b⟩ := D.ex
  exact pe_meth0 he D.cl D.me F (hr.mono hj) b .nil pass0 ht
theorem pprop (D : Pf X.prog X.w X.K X.mg X.base k c m sp) (hr : Room j X.A) (he : PE X o ta) (hj : k + 1 ≤ j := by decide) (hab : attributeBase o m X.env (eval o X.env) = eval o X.env := by rfl) :
    PE X (.Attribute o m pos) (tProp (He.ga X.K c) sp [] E0 ta) := by
  obtain ⟨p, g, fd, hp, F, b⟩ := D.ex
  exact pe_prop he D.cl hp F (hr.mono hj) b .nil pass0 hab
theorem pmake (D : Kf X.prog X.w X.K X.mg X.base k c ps sp) (hr : Room j X.A) (ha : PA X (e :: es) t) (hj : k + 1 ≤ j := by decide) (hg : Gl X c := by rfl) (hdb : (c == ("__debug__" : Str)) = false := by decide)
    (he : starEach (e :: es) X.env = (false, eval e X.env) :: starEach es X.env := by rfl) (hpl : (backTo pos (starEach es X.env)).any (·.1) = false := by rfl) :
    PE X (.Call (.Name c p) (e :: es) [] pos) (tMake (He.ga X.K c) sp [] E0 t) := by
  obtain ⟨fd, F, b⟩ := D.ex
  exact pe_make D.mkr F (hr.mono hj) hg D.gl b .nil pass0 ha hdb he hpl
end
end Ex

set_option Elab.async false
set_option linter.all false
set_option maxRecDepth 100000
set_option maxHeartbeats 4000000
/-! Own layer: range(a, b) of any whole numbers (walked by one or the other iterator of the machine). -/
namespace Ex
open PySem PySem.Spec PyProof.Rows L2 Gu
theorem turn_long {P : Program} {w : World} {K : PySem.W.Frag} {tg : Expr} (it : Addr) (lo : Int) (n : Nat) :
    Turn P w K tg (Itr lo n) [it] it (fun i h => IsLongIter h it (lo + (i : Nat) * 1) ((n : Int) - (i : Nat)) 1) where
  mem := List.mem_singleton.mpr rfl
  obj := fun i h st b hb => by
    obtain rfl := List.mem_singleton.mp hb
    exact ⟨_, st, fun v z => nomatch (show Data.fields _ = Data.cell v from z)⟩
  keep := fun i h h' st k => k it (List.mem_singleton.mpr rfl) _ st
  item := by
    rintro X rfl rfl rfl hc i pins s σ H E I hf st hg
    obtain ⟨f0, f1, f2, f3, f4, f5⟩ := hf it (List.mem_singleton.mpr rfl)
    refine (Walks.longrange (prog := X.prog) (w := X.w) (I.ok.hd hc) it lo 1 n).item i s _ _ hg st fun v h' tk hv st' kk => ?_
    obtain ⟨t, rfl⟩ := hv
    have J : Inv X pins σ H { s with heap := h', toks := tk } := I.turned (fun b o hb e => kk b o (fun z => hb (List.mem_singleton.mp z)) e) f0 f1 f3 f4 f5
    refine ⟨_, rfl, go_of (s := { s with heap := h', toks := tk }) (n := "longrange_iterator") st' rfl rfl (by decide) ⟨.int (lo + i), H, J, ⟨t, ?_⟩, ⟨rfl, rfl⟩, st', fun b hb => (hf b hb).1⟩⟩
    rw [Int.mul_one]
  done := by
    rintro X rfl rfl rfl hc i pins s σ H E I hf st hg
    obtain ⟨f0, f1, f2, f3, f4, f5⟩ := hf it (List.mem_singleton.mpr rfl)
    have hn : n ≤ i := hg
    exact wpAny_pyNext_long_end (I.ok.hd hc) st (by omega) fun h' eb => ⟨rfl, I.turned (t' := s.toks) (fun b o hb e => eb b o hb e) f0 f1 f3 f4 f5⟩
  self := fun _ _ _ _ _ st h => wpAny_pyIter_longiter st h
section
variable {X : Cx} {tg : Expr}
theorem range_any {pins : List (Addr × Obj)} {σ : L2.St} {H : Hp} {s : Shared} {R : It → Hp → Prop} {E : Value → Shared → Prop} {lo hi : Int} {t u v : Tok} {tk : Nat} (I : Inv X pins σ H s) (q : R (Itr lo (hi - lo).toNat) H) :
    wpAny (model X.prog X.w) X.A (pyIter (.ref s.heap.objs.size)) (PIE X pins σ tg R) E { s with heap := s.heap.push { cls := .type "range", data := .fields #[.int lo t, .int hi u, .int 1 v] }, toks := tk } := by
  have J : Inv X pins σ H { s with heap := s.heap.push { cls := .type "range", data := .fields #[.int lo t, .int hi u, .int 1 v] }, toks := tk } := I.kept fun b o e => Heap.get?_push_of_some _ e
  have e1 : lo + ((0 : Nat) : Int) * 1 = lo := by simp
  have e2 : (((hi - lo).toNat : Nat) : Int) - ((0 : Nat) : Int) = Builtin.Range.rangeSize lo hi 1 := by rw [rangeSize_one]; split <;> omega
  have fr : ∀ b ∈ [(s.heap.push { cls := .type "range", data := .fields #[.int lo t, .int hi u, .int 1 v] }).objs.size], _ := fun b hb => by
    obtain rfl := List.mem_singleton.mp hb
    exact J.fpOk (Nat.le_refl _) (J.hok.fresh (Nat.le_refl _))
  cases hs : Builtin.Range.small lo hi 1 with
  | true =>
    refine wpAny_pyIter_range (IsRange.new ..) hs ⟨_, [_], _, _, H, rfl, J.kept (t' := tk) fun b o e => Heap.get?_push_of_some _ e, turn_range _ lo (hi - lo).toNat, ?_, fr, q⟩
    show IsRangeIter _ _ (lo + ((0 : Nat) : Int) * 1) ((((hi - lo).toNat : Nat) : Int) - ((0 : Nat) : Int)) 1
    rw [e1, e2]
    exact Heap.get?_push_size _ rfl
  | false =>
    refine wpAny_pyIter_longrange (IsRange.new ..) hs ⟨_, [_], _, _, H, rfl, J.kept (t' := tk) fun b o e => Heap.get?_push_of_some _ e, turn_long _ lo (hi - lo).toNat, ?_, fr, q⟩
    show IsLongIter _ _ (lo + ((0 : Nat) : Int) * 1) ((((hi - lo).toNat : Nat) : Int) - ((0 : Nat) : Int)) 1
    rw [e1, e2]
    exact Heap.get?_push_size _ rfl
def iRngA (ta : TA) : TI := fun σ H R => ta σ H fun vs H1 => ∃ i j : Int, vs = [.int i, .int j] ∧ R (Itr i (j - i).toNat) H1
theorem pi_rangeA {a b : Expr} {ta : TA} {p pos : Pos} (hg : Gl X "range") (hm : X.mg "range" = none) (ha : PA X [a, b] ta) (hs : starEach [a, b] X.env = [(false, eval a X.env), (false, eval b X.env)] := by rfl)
    (hs2 : starEach [b] X.env = [(false, eval b X.env)] := by rfl) : PI X tg (.Call (.Name "range" p) [a, b] [] pos) (iRngA ta) := by
  refine ⟨fun pins s σ H R I h => Call_ (ld_blt I hg hm boot_range (PyProof.Rows.callWith_type1 (thn (ha.run pos pins s σ H _ I h) fun us s1 ⟨vs, H1, I1, r1, q1⟩ => ?_) (by rw [hs, hs2]) (by rw [hs2]; rfl)))⟩
  obtain ⟨i, j, rfl, q⟩ := q1
  obtain ⟨u, z, rfl, ⟨t, rfl⟩, ⟨t', rfl⟩⟩ := vals2 r1
  exact call_range_2 (range_any I1 q)
end
end Ex

set_option Elab.async false
set_option linter.all false
set_option maxRecDepth 100000
set_option maxHeartbeats 4000000
/-! Own layer: data of any depth, dicts among it, as repr shows it. -/
namespace Ex
open PySem PySem.Spec PyProof.Rows L2 Gu
mutual
inductive Dq (K : PySem.W.Frag) (H : Hp) : V → PyData → Prop
  | non : Dq K H .non .none
  | bl (b : Bool) : Dq K H (.bl b) (.bool b)
  | int (i : Int) : Dq K H (.int i) (.int i)
  | str (x : Str) : Dq K H (.str x) (.str x)
  | lst {a : Addr} {xs : List V} {ds : List PyData} : SqL K H a xs → DqAll K H xs ds → Dq K H (.ref a) (.list ds)
  | tup {a : Addr} {xs : List V} {ds : List PyData} : SqT K H a xs → DqAll K H xs ds → Dq K H (.ref a) (.tuple ds)
  | dct {a : Addr} {kvs : List (Key × V)} {ds : List (PyData × PyData)} : H a = some (.dK kvs) → DqAll K H (kvs.map fun p => kV p.1) (ds.map (·.1)) → DqAll K H (kvs.map (·.2)) (ds.map (·.2)) → Dq K H (.ref a) (.dict ds)
inductive DqAll (K : PySem.W.Frag) (H : Hp) : List V → List PyData → Prop
  | nil : DqAll K H [] []
  | cons {v : V} {vs : List V} {d : PyData} {ds : List PyData} : Dq K H v d → DqAll K H vs ds → DqAll K H (v :: vs) (d :: ds)
end
/-- the table of modules stands in the written part: no list lies there -/
def SysOk (K : PySem.W.Frag) : Prop := ∃ o, K.lookup sysModules = some o ∧ o.cls ≠ .type "list"
section
variable {X : Cx} {pins : List (Addr × Obj)} {σ : L2.St} {H : Hp} {s : Shared}
theorem key_rel {k : Key} {v : Value} (h : keyIs k v = true) : RelV (kV k) v := by
  rcases keyIs_shape h with ⟨i, t, rfl, rfl⟩ | ⟨x, t, rfl, rfl⟩
  · exact ⟨t, rfl⟩
  · exact ⟨t, rfl⟩
theorem not_sys {a : Addr} {o : Obj} (hs : SysOk X.K) (I : Inv X pins σ H s) (ho : s.heap.get? a = some o) (hc : o.cls = .type "list") : a ≠ sysModules := fun z => by
  obtain ⟨u, e, n⟩ := hs
  have h2 := I.kIn _ _ e
  rw [z, h2] at ho
  rw [Option.some.inj ho] at n
  exact n hc
theorem pairs_rel {es : List DictEntry} {vs : List (Key × Value)} (h : Pairs (mixKind X.prog X.w) es vs) : ∀ {kvs : List (Key × V)}, KV kvs vs → Vals (kvs.map fun p => kV p.1) (es.map (·.key)) ∧ Vals (kvs.map (·.2)) (es.map (·.val)) := by
  induction h with
  | nil =>
    intro kvs r
    cases r
    exact ⟨.nil, .nil⟩
  | @cons e kv es vs h1 h2 h3 ih =>
    intro kvs r
    cases r with
    | @cons p _ l _ r1 r2 =>
      obtain ⟨i1, i2⟩ := ih r2
      have k1 : RelV (kV p.1) e.key := by
        rw [r1.1]
        exact key_rel h1
      have k2 : RelV p.2 e.val := by
        rw [h2]
        exact r1.2
      exact ⟨.cons k1 i1, .cons k2 i2⟩
mutual
theorem Dq.reads (hs : SysOk X.K) (I : Inv X pins σ H s) : ∀ {v : V} {d : PyData}, Dq X.K H v d → ∀ u, RelV v u → ∃ as, Reads s.heap u d as ∧ sysModules ∉ as
  | _, _, .non, u, r => by
    cases r
    exact ⟨_, Reads.none, List.not_mem_nil⟩
  | _, _, .bl b, u, r => by
    cases r
    exact ⟨_, Reads.bool b, List.not_mem_nil⟩
  | _, _, .int i, u, r => by
    obtain ⟨t, rfl⟩ := r
    exact ⟨_, Reads.int i t, List.not_mem_nil⟩
  | _, _, .str x, u, r => by
    obtain ⟨t, rfl⟩ := r
    exact ⟨_, Reads.str x t, List.not_mem_nil⟩
  | _, _, .lst (a := a) hq ha, u, r => by
    cases r
    obtain ⟨its, rv, ⟨o, n, ho, hc, _, hd⟩, _⟩ := I.list hq
    obtain ⟨as, hr, na⟩ := Dq.readsAll hs I ha its rv
    refine ⟨_, Reads.list ho hc hd hr, fun hm => ?_⟩
    rcases List.mem_cons.mp hm with z | z
    · exact not_sys hs I ho hc z.symm
    · exact na z
  | _, _, .tup (a := a) hq ha, u, r => by
    cases r
    obtain ⟨its, rv, ⟨o, ho, hc, n, hd⟩, _⟩ := I.tuple hq
    obtain ⟨as, hr, na⟩ := Dq.readsAll hs I ha its rv
    exact ⟨_, Reads.tuple ho hc hd hr, na⟩
  | _, _, .dct (a := a) (kvs := kvs) hq h1 h2, u, r => by
    cases r
    obtain ⟨_, ns, vs, rk, o, es, ep, ho, hx, hd, _, hp, _⟩ := (show ObjOk X.prog X.w H s.heap a (.dK kvs) from I.hok a _ hq)
    obtain ⟨r1, r2⟩ := pairs_rel hp rk
    obtain ⟨as, q1, n1⟩ := Dq.readsAll hs I h1 _ r1
    obtain ⟨bs, q2, n2⟩ := Dq.readsAll hs I h2 _ r2
    refine ⟨_, Reads.dict ho hx.1 hd q1 q2, fun hm => ?_⟩
    rcases List.mem_append.mp hm with z | z
    · rcases List.mem_cons.mp z with z | z
      · rw [← z, beq_self_eq_true] at ns
        cases ns
      · exact n1 z
    · exact n2 z
theorem Dq.readsAll (hs : SysOk X.K) (I : Inv X pins σ H s) : ∀ {vs : List V} {ds : List PyData}, DqAll X.K H vs ds → ∀ us : List Value, Vals vs us → ∃ as, ReadsAll s.heap us ds as ∧ sysModules ∉ as
  | _, _, .nil, us, r => by
    cases r
    exact ⟨_, ReadsAll.nil, List.not_mem_nil⟩
  | _, _, .cons h1 h2, us, r => by
    cases r with
    | cons r1 r2 =>
      obtain ⟨as, q1, n1⟩ := Dq.reads hs I h1 _ r1
      obtain ⟨bs, q2, n2⟩ := Dq.readsAll hs I h2 _ r2
      refine ⟨_, ReadsAll.cons q1 q2, fun hm => ?_⟩
      rcases List.mem_append.mp hm with z | z
      · exact n1 z
      · exact n2 z
end
end
section
variable {X : Cx} {k : Nat}
/-- repr of any data -/
def rReprQ (K : PySem.W.Frag) : List V → Hp → VK → Prop := fun xs H Q => ∃ (v : V) (d : PyData), xs = [v] ∧ Dq K H v d ∧ d.showable = true ∧ d.depth ≤ 60 ∧ d.shown.length ≤ sizeLine ∧ Q (.str d.shown) H
theorem call_reprQ (hr : RoomG k X.A) (hs : SysOk X.K) : CallR X (.builtin "repr") (rReprQ X.K) := by
  intro pins s σ H xs us Q I r h
  obtain ⟨v, d, rfl, hd, hsh, hdep, hz, q⟩ := h
  obtain ⟨u, rfl, ru⟩ := vals1 r
  obtain ⟨as, rd, na⟩ := Dq.reads hs I hd u ru
  have hu := hr.r.units
  cases hd with
  | non =>
    cases ru
    exact PySem.P.repr_of_none ⟨.str _, H, I.tok _, ⟨_, rfl⟩, by simpa only [PyData.shown] using q⟩
  | bl b =>
    cases ru
    exact PySem.P.repr_of_bool ⟨.str _, H, I.tok _, ⟨_, rfl⟩, by simpa only [PyData.shown] using q⟩
  | int i =>
    obtain ⟨t, rfl⟩ := ru
    exact PySem.P.repr_of_int (by simpa [PyData.showable] using hsh) ⟨.str _, H, I.tok _, ⟨_, rfl⟩, by simpa only [PyData.shown] using q⟩
  | str x =>
    obtain ⟨t, rfl⟩ := ru
    exact PySem.P.repr_of_str ⟨.str _, H, I.tok _, ⟨_, rfl⟩, by simpa only [PyData.shown] using q⟩ (by simpa only [PyData.shown] using hz)
  | @lst a xs ds hq ha =>
    obtain rfl : u = Value.ref a := ru
    exact repr_of_reads' rd hsh (fun _ => na) hr.g (by omega) (fun _ _ e => e) (fun h' u tk hk => ⟨.str _, H, I.kept hk, ⟨u, rfl⟩, q⟩) hz
  | @tup a xs ds hq ha =>
    obtain rfl : u = Value.ref a := ru
    exact repr_of_reads' rd hsh (fun _ => na) hr.g (by omega) (fun _ _ e => e) (fun h' u tk hk => ⟨.str _, H, I.kept hk, ⟨u, rfl⟩, q⟩) hz
  | @dct a kvs ds hq h1 h2 =>
    obtain rfl : u = Value.ref a := ru
    exact repr_of_reads' rd hsh (fun _ => na) hr.g (by omega) (fun _ _ e => e) (fun h' u tk hk => ⟨.str _, H, I.kept hk, ⟨u, rfl⟩, q⟩) hz
/-- x is not True, x is not False, of any scalar -/
def rNotBA : R2 := fun x y H Q => ∃ b : Bool, y = .bl b ∧ ((∃ a : Bool, x = .bl a ∧ Q (.bl (!decide (a = b))) H) ∨ (∃ i : Int, x = .int i ∧ Q (.bl true) H))
theorem op_notBA : OpR X (compareOp .IsNot) rNotBA := by
  intro pins s σ H x y v u Q I rx ry h
  obtain ⟨b, rfl, h⟩ := h
  rcases h with ⟨a, rfl, q⟩ | ⟨i, rfl, q⟩
  · exact op_notBl pins s σ H _ _ v u Q I rx ry ⟨a, b, rfl, rfl, q⟩
  · cases (show u = Value.bool b from ry)
    obtain ⟨t, rfl⟩ := (show ∃ t, v = Value.int i t from rx)
    exact wpAny_isNot_other rfl (fun z => nomatch z) ⟨.bl true, H, I, rfl, q⟩
end
end Ex

set_option Elab.async false
set_option linter.all false
set_option maxRecDepth 100000
set_option maxHeartbeats 4000000
/-! Own layer: isinstance of a caught error that has a dict of its own; errors with fields, raised. -/
namespace Ex
open PySem PySem.Spec PySem.Calls PyProof.Rows L2 Gu
section
variable {prog : Program} {w : World} {A : Around} {E : Value → Shared → Prop} {s : Shared} {K : PySem.W.Frag} {x D : Addr} {ox od : Obj}
theorem class_of_exc {Q : Option Value → Shared → Prop} (c : ExcC K D) (X : K.In s.heap) (I : PySem.W.InstAt s.heap x ox D (some od)) (h : Q (some (.ref D)) { s with toks := s.toks + 1 }) :
    wpAny (model prog w) A (getAttr? (.ref x) "__class__") Q E s := by
  have found : PySem.W.findObj K D (some od) "__class__" = some (.bind (.builtin "getset_descriptor.__get__") (.builtin "object.__class__")) :=
    PySem.W.findObj_data (by obtain ⟨cd, e, _⟩ := PySem.W.any_some c.hd; rw [e]; rfl) c.ha c.hn c.ht
  obtain ⟨hp, g, d, t, os⟩ := s
  have lt := I.type (M := model prog w)
  have lg := PySem.W.looks_findIn (M := model prog w) X c.hg
  have lk := PySem.W.looks_findIn (M := model prog w) X c.hk
  have lf := PySem.W.looks_find (M := model prog w) X I found
  have other : (onTheHeap (Value.ref D) && Value.builtin "BaseException.__getattribute__" == Value.builtin "object.__getattribute__") = false := by
    rw [show (Value.builtin "BaseException.__getattribute__" == Value.builtin "object.__getattribute__") = false by decide +kernel]
    rfl
  unfold getAttr? getAttrBy? getAttrBy
  refine wpAny_bind (wpAny_mkText (wpAny_bind (wpAny_attempt (wpAny_holding (wpAny_bind (lt.at (wpAny_bind (lg.at ?own))))))))
  case own =>
    show wpAny _ _ (if (onTheHeap (Value.ref D) && Value.builtin "BaseException.__getattribute__" == Value.builtin "object.__getattribute__") = true then _ else _) _ _ _
    rw [other, if_neg Bool.false_ne_true]
    unfold getAttrByItsOwn hookBefore
    refine wpAny_bind ?_
    rw [if_pos (show onTheHeap (Value.ref D) = true from rfl)]
    refine lk.at (wpAny_bind (wpAny_attempt (wpAny_holding ?_)))
    unfold callGetattribute
    rw [show (false && onTheHeap (Value.builtin "BaseException.__getattribute__")) = false from rfl, if_neg Bool.false_ne_true]
    unfold boundAndCalled
    rw [PySem.F.excAttr_ValueError.ga.bind (.ref x)]
    refine wpAny_bind (wpAny_pure ?_)
    show wpAny _ _ (call (.builtin "BaseException.__getattribute__") [.ref x, .str "__class__" t]) _ _ _
    refine wpAny_call (codeAny_call_builtin PySem.F.excAttr_ValueError.ga.plain PySem.F.entry_bexc_ga
      (@PySem.W.check_slot (model prog w) _ _ ⟨hp, g, d, t + 1, os⟩ "BaseException.__getattribute__" "BaseException" "__getattribute__" (.ref x) [.str "__class__" t] [] _
        (by decide +kernel) (by decide +kernel) (lt.andThen (PySem.W.looks_subIn X c.hs)) (PySem.F.args_bexc_ga (.ref x) (.str "__class__" t)) ?_))
    unfold Builtin.«object.__getattribute__»
    refine wpAny_bind (wpAny_of_eq (a := ((Value.ref x : Value), [Value.str "__class__" t])) (by first | rfl | (simp only [slotArgs]; rfl)) (wpAny_bind (wpAny_pure (wpAny_bind (lt.at (wpAny_bind (lf.at ?_)))))))
    show wpAny _ _ (holding [Value.builtin "object.__class__"] (call (.builtin "getset_descriptor.__get__") [.builtin "object.__class__", .ref x, .ref D]) >>= ret) _ _ _
    refine wpAny_bind (wpAny_holding (wpAny_call (PySem.W.class_get (s := ⟨hp, g, d, t + 1, os⟩) (ox := ox) (od := some od) X I c.hm (wpAny_pure ?_))))
    show wpAny _ _ (handedOut (.ref D)) _ _ _
    rw [PySem.W.handedOut_of (v := .ref D) rfl]
    first
      | exact wpAny_pure (wpAny_pure h)
      | exact wpAny_pure h
      | exact wpAny_pure (wpAny_bind (wpAny_pure (wpAny_pure h)))
theorem kitx_exc (c : ExcC K D) : PySem.W.KitX K (.ref x) (.ref D) (fun h => PySem.W.InstAt h x ox D (some od)) where
  ty := fun _ _ _ I => I.type
  it := fun _ _ X _ => by
    obtain ⟨cd, e, _⟩ := PySem.W.any_some c.hd
    unfold PySem.W.clsIn at e
    split at e
    · rename_i ho
      exact fun A' Q' E' s' k q => by
        unfold isType loadHead
        exact wpAny_bind (wpAny_loadPart (k _ _ (X _ _ ho)) (wpAny_pure q))
    · cases e
  ne := fun h tp dd its n sl X htp => by
    obtain ⟨cd, e, _⟩ := PySem.W.any_some c.hd
    cases q : (Value.ref D == Value.ref tp) with
    | false => rfl
    | true =>
      have z : D = tp := Value.ref.inj (beq_iff_eq.mp q)
      rw [← z] at htp
      unfold PySem.W.clsIn at e
      split at e
      · rename_i ho
        have y := (X _ _ ho).symm.trans htp
        cases y
      · cases e
  ca := fun X I k => class_of_exc c X I k
end
section
variable {X : Cx} {a D : Addr} {oe : Obj} {d : Addr} {pn : List (Addr × Obj)}
/-- the caught error as the machine sees it -/
theorem inst_exc {pins : List (Addr × Obj)} {σ : L2.St} {H : Hp} {s : Shared} {fs : List (Str × V)} (I : Inv (X.suite a ((a, oe) :: pn)) pins σ H s) (hz : Zc (.ref D) (some d) oe) (hf : ∃ vs, oe.data = .fields vs) (hd : H d = some (.xd fs)) :
    ∃ od, PySem.W.InstAt s.heap a oe D (some od) := by
  obtain ⟨hget, _⟩ := I.pin (a, oe) (List.mem_append_left _ List.mem_cons_self)
  obtain ⟨vs, hv⟩ := hf
  obtain ⟨mA, hns, _⟩ := (show ObjOk X.prog X.w H s.heap d (.xd fs) from I.hok d _ hd)
  obtain ⟨od, ho, _⟩ := lookIn_ns hns
  exact ⟨od, hget, hz.1, by unfold PySem.W.notCls; rw [hv] <;> rfl, by rw [hz.2]; exact ho⟩
/-- isinstance(e, c) -/
def rIsX (K : PySem.W.Frag) (D a : Addr) (cls : Value) (d : Option Addr) : List V → Hp → VK → Prop := fun xs H Q => ∃ (c : V) (u : Value) (b : Bool) (dd : Addr) (fs : List (Str × V)), xs = [.ref a, c] ∧ cls = .ref D ∧ d = some dd ∧ ClsV c u ∧ H dd = some (.xd fs) ∧ PySem.W.kitOne K (.ref D) u = some b ∧ Q (.bl b) H
theorem call_isX {cls : Value} {d : Option Addr} (c : ExcC X.K D) (hz : Zc cls d oe) (hf : ∃ vs, oe.data = .fields vs) : CallR (X.suite a ((a, oe) :: pn)) (.builtin "isinstance") (rIsX X.K D a cls d) := by
  intro pins s σ H xs us Q I r h
  obtain ⟨cv, u, b, dd, fs, rfl, rfl, rfl, k, hd, e, q⟩ := h
  obtain ⟨u1, u2, rfl, r1, r2⟩ := vals2 r
  obtain rfl : u1 = Value.ref a := r1
  have e2 := k.eq r2
  subst e2
  obtain ⟨od, J⟩ := inst_exc I hz hf hd
  exact PySem.W.kia_one (kitx_exc c) I.kIn J e (fun z => nomatch z) fun tk => ⟨.bl b, H, I.tok tk, rfl, q⟩
/-- isinstance(e, (c1, c2, ..)) -/
def rIsXT (K : PySem.W.Frag) (D a : Addr) (cls : Value) (d : Option Addr) : List V → Hp → VK → Prop := fun xs H Q => ∃ (tp : Addr) (cs : List V) (us : List Value) (b : Bool) (dd : Addr) (fs : List (Str × V)), xs = [.ref a, .ref tp] ∧ cls = .ref D ∧ d = some dd ∧
  H tp = some (.tup cs) ∧ Paired ClsV cs us ∧ H dd = some (.xd fs) ∧ PySem.W.kitAny K (.ref D) us = some b ∧ Q (.bl b) H
theorem call_isXT {cls : Value} {d : Option Addr} (c : ExcC X.K D) (hz : Zc cls d oe) (hf : ∃ vs, oe.data = .fields vs) : CallR (X.suite a ((a, oe) :: pn)) (.builtin "isinstance") (rIsXT X.K D a cls d) := by
  intro pins s σ H xs us Q I r h
  obtain ⟨tp, cs, ws, b, dd, fs, rfl, rfl, rfl, hT, k, hd, e, q⟩ := h
  obtain ⟨u1, u2, rfl, r1, r2⟩ := vals2 r
  obtain rfl : u1 = Value.ref a := r1
  obtain rfl : u2 = Value.ref tp := r2
  obtain ⟨od, J⟩ := inst_exc I hz hf hd
  obtain ⟨_, its, rv, o, h1, h2, n, h3⟩ := (show ObjOk X.prog X.w H s.heap tp (.tup cs) from I.hok tp _ hT)
  have e3 := ClsV.all k rv
  subst e3
  obtain ⟨oc, odd, dt, sl⟩ := o
  simp only at h2 h3
  subst h2 h3
  exact PySem.W.kia_tup (kitx_exc c) I.kIn J h1 e (fun z => nomatch z) fun tk => ⟨.bl b, H, I.tok tk, rfl, q⟩
end
section
variable {X : Cx}
/-- repr of any data, also while an error is handled -/
theorem call_reprH (hg : X.A.guards = some []) (hu : X.A.units + 64 < cLine) (hs : SysOk X.K) : CallR X (.builtin "repr") (rReprQ X.K) := by
  intro pins s σ H xs us Q I r h
  obtain ⟨v, d, rfl, hd, hsh, hdep, hz, q⟩ := h
  obtain ⟨u, rfl, ru⟩ := vals1 r
  obtain ⟨as, rd, na⟩ := Dq.reads hs I hd u ru
  have viaRef : ∀ {a : Addr}, u = Value.ref a → wpAny (model X.prog X.w) X.A (call (.builtin "repr") [u]) (EP X pins σ Q) X.xe s := fun {a} e => by
    subst e
    exact repr_of_reads' rd hsh (fun _ => na) hg (by omega) (fun _ _ e => e) (fun h' u tk hk => ⟨.str _, H, I.kept hk, ⟨u, rfl⟩, q⟩) hz
  cases hd with
  | non =>
    cases ru
    exact PySem.P.repr_of_none ⟨.str _, H, I.tok _, ⟨_, rfl⟩, by simpa only [PyData.shown] using q⟩
  | bl b =>
    cases ru
    exact PySem.P.repr_of_bool ⟨.str _, H, I.tok _, ⟨_, rfl⟩, by simpa only [PyData.shown] using q⟩
  | int i =>
    obtain ⟨t, rfl⟩ := ru
    exact PySem.P.repr_of_int (by simpa [PyData.showable] using hsh) ⟨.str _, H, I.tok _, ⟨_, rfl⟩, by simpa only [PyData.shown] using q⟩
  | str x =>
    obtain ⟨t, rfl⟩ := ru
    exact PySem.P.repr_of_str ⟨.str _, H, I.tok _, ⟨_, rfl⟩, by simpa only [PyData.shown] using q⟩ (by simpa only [PyData.shown] using hz)
  | lst hq ha => exact viaRef ru
  | tup hq ha => exact viaRef ru
  | dct hq h1 h2 => exact viaRef ru
end
end Ex

set_option Elab.async false
set_option linter.all false
set_option maxRecDepth 100000
set_option maxHeartbeats 4000000
/-! Own layer: len(o) by an own __len__; what repr shows, within bounds; both law-free. -/
namespace Ex
open PySem PySem.Spec PySem.Calls PyProof.Rows L2 Gu
section
variable {X : Cx} {k j : Nat} {c : Str} {ps : List Str} {sp : Sp}
/-- len(o) by the class's own __len__ -/
def rLenO (C : Addr) (sp : Sp) : List V → Hp → VK → Prop := fun xs H Q => ∃ (a dx : Addr) (fs : List (Str × V)), xs = [.ref a] ∧ H a = some (.ins C dx fs) ∧ sp [.ref a] H (fun v H' => ∃ n : Nat, v = .int n ∧ n ≤ sizeLine ∧ Q (.int n) H') E0
theorem call_lenO (D : Mf X.prog X.w X.K X.mg X.base k c "__len__" ps sp) (hr : Room j X.A) (hj : k + 1 ≤ j := by decide) : CallR X (.builtin "len") (rLenO (He.ga X.K c) sp) := by
  intro pins s σ H xs us Q I r h
  obtain ⟨a, dx, fs, rfl, ha, hq⟩ := h
  obtain ⟨u, rfl, ru⟩ := vals1 r
  obtain rfl : u = Value.ref a := ru
  obtain ⟨fd, F, b⟩ := D.ex
  obtain ⟨mA, J, _⟩ := ins_get I.hok ha
  obtain ⟨od, J, _⟩ := J.look
  have rm : Room k X.A.in1 := (hr.mono hj).in1
  refine Calls.call_function_entry kind_len plain_len entry_len (args_len1 _) ?_
  unfold Builtin.«len»
  refine wpAny_bind (m := oneArg "len" _) (wpAny_pure ?_)
  refine wpAny_bind (m := callSpecial? (.ref a) (Str.ofString "__len__")) (PySem.W.special_fn (name := Str.ofString "__len__") (args := []) I.kIn J D.me.at_ (beq_iff_eq.mp D.me.fn) ?_)
  have e0 : Env0 X.prog X.w X.K X.mg X.base X.A.in1 X.stack s H := by
    have e := I.env0
    exact ⟨e.frames, e.mod, e.bs, e.bsz, e.funs, e.frf, e.hok, e.bare⟩
  have hl := F.len _ _ _ _ hq
  refine wpAny_call (codeAny_mono (F.run X.A.in1 X.stack s H ⟨[.ref a], []⟩ [.ref a] [.ref a] _ E0 rm e0 (by
    have := b s [.ref a] I.kIn (by simpa using hl)
    simpa using this) (.cons rfl .nil) hq) fun r s' hq' => ?_)
  match r, hq' with
  | .ok (.ret u), hq' =>
    obtain ⟨v, H', I', rv, n, rfl, hn, q⟩ := I.after hq'
    obtain ⟨t, rfl⟩ := rv
    have hs : sizeLine = 16777216 := sizeLine_eq
    refine wpAny_bind (wpAny_holding (wpAny_pure ?_))
    refine wpAny_bind (wpAny_letGo ?_)
    show wpAny _ _ (if ((n : Nat) : Int) < 0 then _ else _) _ _ _
    rw [if_neg (by omega)]
    show wpAny _ _ (if ((n : Nat) : Int) ≥ 2 ^ 63 then _ else _) _ _ _
    rw [if_neg (by omega)]
    exact wpAny_bind (wpAny_mkInt (wpAny_pure ⟨_, rfl, ⟨.int n, H', I'.tok _, ⟨_, rfl⟩, q⟩⟩))
end
theorem seqT {K : PySem.W.Frag} {H H' : Hp} {a : Addr} {xs : List V} (e : Same H H') (h : SqT K H a xs) : SqT K H' a xs := by
  rcases h with (h | ⟨o, h⟩) | h
  · exact .inl (.inl (e _ _ h))
  · exact .inl (.inr ⟨o, e _ _ h⟩)
  · exact .inr h
mutual
theorem dq_same {K : PySem.W.Frag} {H H' : Hp} (e : Same H H') : ∀ {v : V} {d : PyData}, Dq K H v d → Dq K H' v d
  | _, _, .non => .non
  | _, _, .bl b => .bl b
  | _, _, .int i => .int i
  | _, _, .str x => .str x
  | _, _, .lst hq ha => .lst (e.seq hq) (dqAll_same e ha)
  | _, _, .tup hq ha => .tup (seqT e hq) (dqAll_same e ha)
  | _, _, .dct hq h1 h2 => .dct (e _ _ hq) (dqAll_same e h1) (dqAll_same e h2)
theorem dqAll_same {K : PySem.W.Frag} {H H' : Hp} (e : Same H H') : ∀ {vs : List V} {ds : List PyData}, DqAll K H vs ds → DqAll K H' vs ds
  | _, _, .nil => .nil
  | _, _, .cons h1 h2 => .cons (dq_same e h1) (dqAll_same e h2)
end
/-- a value as repr shows it: nested at most n deep, at most m signs -/
structure Tq (K : PySem.W.Frag) (H : Hp) (v : V) (d : PyData) (n m : Nat) : Prop where
  dq : Dq K H v d
  sh : d.showable = true
  dp : d.depth ≤ n
  ln : d.shown.length ≤ m
structure TqAll (K : PySem.W.Frag) (H : Hp) (xs : List V) (ds : List PyData) (n m : Nat) : Prop where
  dq : DqAll K H xs ds
  sh : PyData.showableAll ds = true
  dp : PyData.depthAll ds ≤ n
  ln : ((PyData.shownAll ds).map (·.length)).sum + 2 * (PyData.shownAll ds).length ≤ xs.length * (m + 2)
section
variable {K : PySem.W.Frag} {H H' : Hp} {n m : Nat}
theorem Tq.same {v : V} {d : PyData} (t : Tq K H v d n m) (e : Same H H') : Tq K H' v d n m := ⟨dq_same e t.dq, t.sh, t.dp, t.ln⟩
theorem Tq.mono {v : V} {d : PyData} {n' m' : Nat} (t : Tq K H v d n m) (h1 : n ≤ n') (h2 : m ≤ m') : Tq K H v d n' m' := ⟨t.dq, t.sh, Nat.le_trans t.dp h1, Nat.le_trans t.ln h2⟩
theorem TqAll.same {xs : List V} {ds : List PyData} (t : TqAll K H xs ds n m) (e : Same H H') : TqAll K H' xs ds n m := ⟨dqAll_same e t.dq, t.sh, t.dp, t.ln⟩
theorem tq_all : ∀ {xs : List V}, (∀ v ∈ xs, ∃ d, Tq K H v d n m) → ∃ ds, TqAll K H xs ds n m
  | [], _ => ⟨[], .nil, rfl, Nat.zero_le _, Nat.zero_le _⟩
  | v :: xs, h => by
    obtain ⟨d, t⟩ := h v List.mem_cons_self
    obtain ⟨ds, a, b, c, e⟩ := tq_all (xs := xs) fun u hu => h u (List.mem_cons_of_mem _ hu)
    refine ⟨d :: ds, .cons t.dq a, ?_, ?_, ?_⟩
    · show (d.showable && PyData.showableAll ds) = true
      rw [t.sh, b]
      rfl
    · show max d.depth (PyData.depthAll ds) ≤ n
      have := t.dp
      omega
    · show (d.shown.length + ((PyData.shownAll ds).map (·.length)).sum) + 2 * ((PyData.shownAll ds).length + 1) ≤ (xs.length + 1) * (m + 2)
      have := t.ln
      rw [Nat.add_mul, Nat.one_mul]
      omega
theorem TqAll.lst {a : Addr} {xs : List V} {ds : List PyData} (t : TqAll K H xs ds n m) (h : H a = some (.lst xs)) : Tq K H (.ref a) (.list ds) (n + 1) (xs.length * (m + 2) + 3) := by
  refine ⟨.lst (SqL.of h) t.dq, t.sh, ?_, ?_⟩
  · show PyData.depthAll ds + 1 ≤ n + 1
    have := t.dp
    omega
  · have e := listText_len_le (PyData.shownAll ds)
    show (listText (PyData.shownAll ds)).length ≤ _
    have := t.ln
    omega
theorem TqAll.tup {a : Addr} {xs : List V} {ds : List PyData} (t : TqAll K H xs ds n m) (h : H a = some (.tup xs)) : Tq K H (.ref a) (.tuple ds) (n + 1) (xs.length * (m + 2) + 3) := by
  refine ⟨.tup (SqT.of h) t.dq, t.sh, ?_, ?_⟩
  · show PyData.depthAll ds + 1 ≤ n + 1
    have := t.dp
    omega
  · have e := tupleText_len_le (PyData.shownAll ds)
    show (tupleText (PyData.shownAll ds)).length ≤ _
    have := t.ln
    omega
theorem tq_non : Tq K H .non .none 0 41 := ⟨.non, rfl, Nat.le_refl _, by decide +kernel⟩
theorem tq_bl (b : Bool) : Tq K H (.bl b) (.bool b) 0 41 := ⟨.bl b, rfl, Nat.le_refl _, by cases b <;> decide +kernel⟩
theorem tq_int {i : Int} (h1 : -(10 ^ 39) ≤ i) (h2 : i ≤ 10 ^ 39) : Tq K H (.int i) (.int i) 0 41 := by
  have b39 : (10 : Int) ^ 39 = 1000000000000000000000000000000000000000 := by decide
  have e : i.natAbs < 10 ^ 40 := by
    have z : (10 : Nat) ^ 40 = 10000000000000000000000000000000000000000 := by decide
    omega
  have a : i.natAbs.log2 < 1920 := Nat.lt_of_lt_of_le (PySem.Flt.log2_lt_of (k := 200) (by decide) (Nat.lt_trans e (by decide))) (by decide)
  refine ⟨.int i, decide_eq_true a, Nat.le_refl _, ?_⟩
  have z := int_text_length_le10 (k := 40) (by decide) e
  show (Str.ofString (toString i)).length ≤ 41
  rw [PySem.ofString_length]
  exact z
theorem tq_text (z : String) (h : (reprText (Str.ofString z)).length ≤ 41) : Tq K H (.str (Str.ofString z)) (.str (Str.ofString z)) 0 41 := ⟨.str _, rfl, Nat.le_refl _, h⟩
theorem tq_dct {a : Addr} (h : H a = some (.dK [])) : Tq K H (.ref a) (.dict []) 1 41 := ⟨.dct h .nil .nil, rfl, by decide, by decide +kernel⟩
end
theorem code_lt {z : String} {c : Nat} (hc : c ∈ (Str.ofString z).cps.toList) : c < 1114112 := by
  have hc2 : c ∈ z.toList.map Char.toNat := by
    rw [← cpsOfBytes_string]
    simpa [Str.ofString] using hc
  obtain ⟨ch, _, rfl⟩ := List.mem_map.mp hc2
  have v : ch.val.toNat < 55296 ∨ (57343 < ch.val.toNat ∧ ch.val.toNat < 1114112) := ch.valid
  show ch.val.toNat < 1114112
  omega
/-- repr of such a value -/
theorem repr_tq {K : PySem.W.Frag} {H : Hp} {v : V} {d : PyData} {n m : Nat} {Q : VK} (t : Tq K H v d n m) (q : Q (.str d.shown) H) (hn : n ≤ 60 := by decide) (hm : m ≤ sizeLine := by decide) : rReprQ K [v] H Q :=
  ⟨v, d, rfl, t.dq, t.sh, Nat.le_trans t.dp hn, Nat.le_trans t.ln hm, q⟩
end Ex

set_option Elab.async false
set_option linter.all false
set_option maxRecDepth 100000
set_option maxHeartbeats 4000000
/-! Own layer: errors with a field over any built-in base (ArithmeticError, LookupError, RuntimeError, ValueError), made and raised. -/
namespace Ex
open PySem PySem.Spec PySem.Calls PyProof.Rows L2 Gu
/-- own classes, then the mro of a built-in base -/
def refsB (tl : List Value) : List Value → Bool
  | .ref _ :: r => refsB tl r
  | l => l == tl
theorem refsB_two (tl : List Value) (l : List Value) (e : refsB tl l = true) : (∃ c r, l = .ref c :: r ∧ refsB tl r = true) ∨ l = tl := by
  cases l with
  | nil => exact .inr (beq_iff_eq.mp e)
  | cons v r => cases v with
    | ref c => exact .inl ⟨c, r, rfl, e⟩
    | _ => exact .inr (beq_iff_eq.mp e)
/-- a built-in base of errors -/
structure BaseE (B : String) (tl : List Value) : Prop where
  ex : ExcBaseFacts B (B ++ ".__new__") (B ++ ".__init__") tl
  pa : ∀ self : Value, refuseLoop self "__setattr__" tl = pure ()
  ob : tl.contains (.type "object") = true
  ne : tl.isEmpty = false
abbrev tailE (B : String) : List Value := [.type B, .type "Exception", .type "BaseException", .type "object"]
theorem base_AE : BaseE "ArithmeticError" (tailE "ArithmeticError") := ⟨F.excBase_ArithmeticError, F.store_ArithmeticError.passes, by decide +kernel, rfl⟩
theorem base_LE : BaseE "LookupError" (tailE "LookupError") := ⟨F.excBase_LookupError, F.store_LookupError.passes, by decide +kernel, rfl⟩
theorem base_RE : BaseE "RuntimeError" (tailE "RuntimeError") := ⟨F.excBase_RuntimeError, F.store_RuntimeError.passes, by decide +kernel, rfl⟩
theorem base_VE : BaseE "ValueError" (tailE "ValueError") := ⟨F.excBase_ValueError, F.store_ValueError.passes, by decide +kernel, rfl⟩
section
variable {B : String} {tl : List Value}
theorem BaseE.pass (b : BaseE B tl) (self : Value) : ∀ l, refsB tl l = true → refuseLoop self "__setattr__" l = pure ()
  | [], e => by
    have z : ([] : List Value) = tl := beq_iff_eq.mp e
    have n := b.ne
    rw [← z] at n
    cases n
  | v :: r, e => by
    rcases refsB_two tl _ e with ⟨c, r', q, h⟩ | q
    · cases q
      rw [refuseLoop_ref]
      exact b.pass self r h
    · rw [q]
      exact b.pa self
theorem BaseE.has (b : BaseE B tl) (Y : String) : ∀ l, refsB tl l = true → l.contains (.type Y) = tl.contains (.type Y)
  | [], e => by
    have z : ([] : List Value) = tl := beq_iff_eq.mp e
    rw [z]
  | v :: r, e => by
    rcases refsB_two tl _ e with ⟨c, r', q, h⟩ | q
    · cases q
      rw [List.contains_cons, b.has Y r h]
      rfl
    · rw [q]
theorem BaseE.some (b : BaseE B tl) {l : List Value} (e : refsB tl l = true) : l.isEmpty = false := by
  cases l with
  | cons _ _ => rfl
  | nil =>
    have z : ([] : List Value) = tl := beq_iff_eq.mp e
    have n := b.ne
    rw [← z] at n
    exact n
end
section
open Builtin Builtin.ObjectAttr
variable {prog : Program} {w : World} {A : Around} {R : Result → Shared → Prop} {hp : Heap} {g : Array GenState} {d : Drawn} {t : Nat} {os : OsState}
/-- the first field of an error is stored by object.__setattr__ -/
theorem first_field {B : String} {tl : List Value} (b : BaseE B tl) {K : W.Frag} {nm : Str} {tk : Tok} {v : Value} {x C : Addr} {fv : Array Value} {cd : ClassData}
    (KX : K.In hp) (hx : hp.get? x = some { cls := .ref C, data := .fields fv }) (hcd : W.clsIn K C = some cd) (mr : refsB tl cd.mro = true) (hdt : cd.hasDict = true) (no : W.findIn K (.ref C) nm = some none)
    (go : ∀ h' tk' dx, (∀ b o, b ≠ x → hp.get? b = some o → h'.get? b = some o) → hp.objs.size ≤ dx → dx ≠ x → h'.get? x = some { cls := .ref C, dict := some dx, data := .fields fv } →
      h'.Ns1 dx (fun y => if y = nm then some v else none) → R (.ok (.ret .none)) ⟨h', g, d, tk', os⟩) :
    codeAny (model prog w) A (.call (.builtin "object.__setattr__") ⟨[.ref x, .str nm tk, v], []⟩) R ⟨hp, g, d, t, os⟩ := by
  have IA : W.InstAt hp x { cls := .ref C, data := .fields fv } C none := ⟨hx, rfl, rfl, trivial⟩
  have so := F.store_object
  have nE := b.some mr
  have isO : cd.mro.contains (.type "object") = true := (b.has "object" _ mr).trans b.ob
  have far : x ≠ hp.objs.size := Nat.ne_of_lt (Heap.lt_size hx)
  have isI : W.Looks (model prog w) hp (isInstance (.ref x) (.type "object")) true := IA.type.andThen (W.looks_mroIn KX (by unfold W.mroIn; rw [hcd, Option.bind_some, if_neg (by rw [nE]; decide), isO]))
  refine codeAny_call_builtin so.slot.plain so.entry (@W.check_slot (model prog w) _ _ ⟨hp, g, d, t, os⟩ "object.__setattr__" "object" "__setattr__" (.ref x) [.str nm tk, v] [] _ so.kind so.split isI (so.args (.ref x) (.str nm tk) v) ?_)
  have lm : W.Looks (model prog w) hp (mroOf (.ref C)) cd.mro := (W.looks_clsIn KX hcd).andThen .now
  have ln : W.Looks (model prog w) hp (storeTaker? none) none := .now
  have lc : W.Looks (model prog w) hp (classData C) cd := W.looks_clsIn KX hcd
  rw [W.osa_eq, refuse_eq]
  refine wpAny_bind (wpAny_bind (IA.type.at (wpAny_bind (lm.at ?_))))
  rw [b.pass _ _ mr]
  refine wpAny_pure (wpAny_bind (IA.type.at (wpAny_bind ((W.looks_findIn KX no).at (wpAny_bind (ln.at ?_))))))
  show wpAny _ _ (storeInOwnDict (.ref x) (.ref C) (.str nm tk) nm v false) _ _ _
  obtain ⟨n1, n2, n3, n4, n5, hd, n7, n8, n9, n10, n11⟩ := cd
  dsimp only at hdt
  subst hdt
  unfold storeInOwnDict ownDictForStores
  repeat (first | with_reducible refine HandSPX.store_in_new ?_ ?_ | with_reducible refine wpAny_loadPart_at hx ?_ | with_reducible refine lc.at ?_ | wp_step)
  · exact ⟨_, #[], _, (Heap.get?_update_ne _ _ _ _ far.symm).trans (Heap.get?_push_at rfl rfl), rfl, fun e he => absurd he (by simp), fun _ => rfl⟩
  · intro h' tk' nn' sb
    have hx1 : (hp.push { cls := .type "dict", data := .dict #[] }).get? x = some { cls := .ref C, data := .fields fv } := Heap.get?_push_of_some _ hx
    exact go h' tk' hp.objs.size (fun c o hc ho => (sb.2 c (Nat.ne_of_lt (Heap.lt_size ho))).trans ((Heap.get?_update_ne _ _ _ _ hc).trans (Heap.get?_push_of_some _ ho))) (Nat.le_refl _) far.symm
      ((sb.2 x far).trans (Heap.get?_update_self _ hx1 rfl)) nn'
end
/-- what the written part says of an error's class over the base B -/
structure OexG (B : String) (tl : List Value) (K : PySem.W.Frag) (C : Addr) : Prop where
  base : BaseE B tl
  cls : ∃ nm q N bs bm sn sub ab col dd k0 k1 k2 k3 k5, K.lookup C = some (excClassObj nm q C N bs bm true sn sub ab col dd k0 k1 k2 k3 k5 (B ++ ".__new__")) ∧ refsB tl bm = true
  sa : PySem.W.findIn K (.ref C) "__setattr__" = some (some (.builtin "object.__setattr__"))
  exC : PySem.W.subIn K (.ref C) (.type "BaseException") = some true
  tyC : PySem.W.typeIn K (.ref C) = some (.type "type")
  kC : PySem.W.keepIn K (.ref C) = true
section
variable {X : Cx} {pins : List (Addr × Obj)} {σ : L2.St} {H : Hp} {s : Shared} {a C dx : Addr} {f : Str} {y : V} {u : Value} {Q : Unit → Shared → Prop} {E : Value → Shared → Prop} {A : Around} {B : String} {tl : List Value}
/-- self.f = y, the first one -/
theorem field_new (T : OexG B tl X.K C) (I : Inv X pins σ H s) (e : H a = some (exo a C none)) (no : PySem.W.findIn X.K (.ref C) f = some none) (ry : RelV y u)
    (go : ∀ dx s', H dx = none → dx ≠ a → Inv X pins σ (upd (upd H dx (exd dx [(f, y)])) a (exo a C (some dx))) s' → Q () s') : wpAny (model X.prog X.w) A (setAttr (.ref a) f u) Q E s := by
  obtain ⟨nm, q, N, bs, bm, sn, sub, ab, col, dd, k0, k1, k2, k3, k5, hC, mr⟩ := T.cls
  have hcl : PySem.W.clsIn X.K C = some { name := nm, bases := bs, mro := .ref C :: bm, ns := N, qualname := q, hasDict := true, slotNames := sn, subclasses := sub, abstract := ab, collection := col, hasDel := false } := by
    unfold PySem.W.clsIn
    rw [hC] <;> rfl
  obtain ⟨t1, at1⟩ := exo_at I.hok e
  obtain ⟨hp, g, dr, tk, os⟩ := s
  refine PySem.W.set_plain I.kIn (ox := { cls := .ref C, dict := none, data := .fields #[.ref t1, .none, .none, .none, .bool false, .none] }) (od := none) ⟨at1, rfl, rfl, trivial⟩ T.sa ?_
  refine first_field T.base I.kIn at1 hcl (show refsB tl (.ref C :: bm) = true from mr) rfl no (fun h' tk' dx k dn dne hx hn => ?_)
  have free : H dx = none := I.hok.fresh dn
  have far : ∀ {b : Addr} {o : Obj}, hp.get? b = some o → b ≠ dx := fun {b o} q => Nat.ne_of_lt (Nat.lt_of_lt_of_le (Heap.lt_size q) dn)
  have na : ∀ {b : Addr}, H b = none → b ≠ a := fun {b} n z => by
    rw [z, e] at n
    cases n
  have at2 : ∀ {b : Addr} {o : HO}, H b = some o → b ≠ a → upd (upd H dx (exd dx [(f, y)])) a (exo a C (some dx)) b = some o := fun {b o} q n => by
    rw [upd_ne n, upd_ne (ne_of_none q free)]
    exact q
  have U : Un X.fs [] H (upd (upd H dx (exd dx [(f, y)])) a (exo a C (some dx))) hp h' := {
    keep := fun b o q n _ _ => k b o (na n) q
    slot := fun b o q n _ _ => ⟨o.slots, k b o (na n) q⟩
    free := fun b o q n _ => (upd_ne (na n)).trans ((upd_ne (far q)).trans n)
    there := fun b o q _ => by
      by_cases hb : b = a
      · rw [hb]
        exact ⟨_, hx⟩
      · exact ⟨o, k b o hb q⟩
    tups := fun b xs q => at2 q (at_ne e q exo_tup)
    frzs := fun b o v q => at2 q (at_ne e q exo_frz)
    tbls := fun b ps q => ⟨#[], by rw [at2 q (at_ne e q exo_tbl)]; simp⟩ }
  refine go dx _ free dne (I.un (t' := tk') U fun b o q => ?_)
  by_cases hb : b = a
  · subst hb
    rw [upd_same] at q
    cases q
    exact exo_ok hx
  · rw [upd_ne hb] at q
    by_cases hd : b = dx
    · subst hd
      rw [upd_same] at q
      cases q
      exact exd_ok hn (relO_put (fs := []) ry fun g => True.intro)
    · rw [upd_ne hd] at q
      refine (I.hok b o q).stay (fun c v hc z => k c v ?_ z) (fun c hc => at2 hc (at_ne e hc exo_own)) (fun c xs hc => at2 hc (at_ne e hc exo_tup))
      rcases hc with hc | hc
      · rw [hc]
        exact hb
      · exact at_ne e hc exo_own
end
/-- self.f = e, the first field of an error -/
def tFst (B : String) (tl : List Value) (K : PySem.W.Frag) (f : Str) (to te : TE) : TS := fun D σ H => te σ H fun y H1 => to σ H1 fun x H2 => ∃ a C : Addr, x = .ref a ∧ OexG B tl K C ∧ PySem.W.findIn K (.ref C) f = some none ∧
  H2 a = some (exo a C none) ∧ ∀ dx, H2 dx = none → dx ≠ a → D.nx σ (upd (upd H2 dx (exd dx [(f, y)])) a (exo a C (some dx)))
section
variable {X : Cx} {o e : Expr} {es : List Expr} {to te : TE} {ta : TA} {f : Str} {p p' pos : Pos} {B : String} {tl : List Value}
theorem ps_fst (ho : PE X o to) (he : PE X e te) (hs : swapsWith e (some (.Attribute o f p')) pos.line X.env = pure false := by rfl) : PS X (.Assign [.Attribute o f p'] e pos) (tFst B tl X.K f to te) := by
  refine ⟨fun pins s σ H D I h => plainObj_wpAny_Assign_Attribute (thn (he.run pins s σ H _ I h) fun v s1 ⟨y, H1, I1, r1, q1⟩ => thn (ho.run pins s1 σ H1 _ I1 q1) fun u s2 ⟨x, H2, I2, r2, a, C, ex, T, no, ea, q⟩ => ?_) hs⟩
  subst ex
  obtain rfl : u = Value.ref a := r2
  exact field_new T I2 ea no r1 fun dx s' n ne J => ⟨σ, _, J, q dx n ne⟩
/-- C(e, ..) for a raise, C's own __init__ keeping sp -/
theorem pmk_oexG {CX : CXT} {x : Str} {C fI : Addr} {k : Nat} {fd : FuncData} {ps : List Str} {sp : Sp} {ds : List Value} {dvs : List V} (T : OexG B tl X.K C) (iC : PySem.W.findIn X.K (.ref C) "__init__" = some (some (.ref fI))) (tI : PySem.W.typeIn X.K (.ref fI) = some (.type "function"))
    (F1 : FnOk X.prog X.w X.K X.mg X.base CX k fI fd ps sp) (hr : Room (k + 1) X.A) (hb : Binds X.K fd ps ds) (hd : Vals dvs ds) (hx : Passes CX X (fun _ _ _ => False)) (hg : Gl X x) (hm : X.mg x = some (.ref C)) (ha : PA X (e :: es) ta)
    (hdb : (x == ("__debug__" : Str)) = false := by decide) (he : starEach (e :: es) X.env = (false, eval e X.env) :: starEach es X.env := by rfl) (hpl : (backTo pos (starEach es X.env)).any (·.1) = false := by rfl) :
    PMk X (.Call (.Name x p) (e :: es) [] pos) (tMkO C sp dvs ta) := by
  intro pins s σ H Q I h
  obtain ⟨nm, q, N, bs, bm, sn, sub, ab, col, dd, k0, k1, k2, k3, k5, hC, mr⟩ := T.cls
  refine wpAny_Call_Name_kw (ld_glob I hg hm (PySem.W.callWith_K (h₀ := X.base) I.ok.mod.kin T.kC (thn (ha.run pos pins s σ H _ I h) fun us s1 ⟨vs, H1, I1, r1, hz, q1⟩ => ⟨I1.kIn, ?_⟩) he hpl) hdb)
  show wpAny _ _ (call (.ref C) us) _ _ _
  obtain ⟨hp, g, dr, tk, os⟩ := s1
  generalize en : hp.objs.size + 1 = n
  have sz : hp.objs.size ≤ n := by omega
  have hq := q1 n (I1.hok.fresh sz)
  generalize ehp : (hp.push (PySem.W.kdv_tup us)).push (PySem.HandSPX.excO C hp.objs.size) = hp2
  have kk : ∀ b o, hp.get? b = some o → hp2.get? b = some o := fun b o e => by
    rw [← ehp]
    exact Heap.get?_push_of_some _ (Heap.get?_push_of_some _ e)
  have hget : hp2.get? n = some (PySem.HandSPX.excO C hp.objs.size) := by
    rw [← ehp, ← en]
    heap_get
  have I2 : Inv X pins σ (upd H1 n (exo n C none)) ⟨hp2, g, dr, tk, os⟩ := I1.laid (t' := tk) kk sz (exo_ok hget)
  have r2 : Vals (V.ref n :: (vs ++ dvs)) (Value.ref n :: (us ++ ds)) := .cons rfl (r1.append hd)
  have hl : (Value.ref n :: us ++ ds).length = ps.length := r2.length.symm.trans (F1.len _ _ _ _ hq)
  have few : us.length ≤ sizeLine := by
    rw [← Paired.length r1, sizeLine_eq]
    omega
  refine wpAny_call (PySem.HandSPX.call_own T.base.ex (fun Y => T.base.has Y bm mr) (I1.kIn _ _ hC) (PySem.W.looks_findIn I1.kIn iC) (fun self => PySem.W.bind_fn I1.kIn self tI) few ?_)
  rw [en, ehp]
  refine codeAny_mono (F1.run _ X.stack _ _ ⟨Value.ref n :: us, []⟩ (Value.ref n :: (us ++ ds)) _ _ (fun _ _ _ => False) (hr.make C us []) (I2.env0.make C us []) (hb _ (Value.ref n :: us) I2.kIn hl) r2 hq) fun r s' hq' => ?_
  match r, hq' with
  | .error er, hq' => exact hx pins σ _ _ er s' I2 hq'
  | .ok (.ret u), hq' =>
    obtain ⟨v, H2, os2, bare2, un2, hok2, rv, ev, d, fs, ea, ed, hd1, q2⟩ := hq'
    subst ev
    obtain ⟨h2, g2, d2, t2, os'⟩ := s'
    exact ⟨rv, mk_end (raises_own T.exC T.tyC) I1 sz kk un2 hok2 os2 bare2 ea ed hd1 q2⟩
end
end Ex

set_option Elab.async false
set_option linter.all false
set_option maxRecDepth 100000
set_option maxHeartbeats 4000000
/-! Own layer: errors made and held as values (their fields, isinstance); list.count of flat items. -/
namespace Ex
open PySem PySem.Spec PySem.Calls PyProof.Rows L2 Gu
section
variable {X : Cx}
/-- xs.count(y), flat items -/
def rCountL (K : PySem.W.Frag) : V → List V → Hp → VK → Prop := fun x xs H Q => ∃ (a : Addr) (ys : List V) (y : V), x = V.ref a ∧ xs = [y] ∧ SqL K H a ys ∧ flatV y = true ∧ ys.all flatV = true ∧ Q (.int (ys.countP (fun z => eqV z y) : Nat)) H
theorem count_flat {y : V} : ∀ {ys : List V} {us : List Value}, Vals ys us → ys.all flatV = true → us.countP (eqU y) = ys.countP (fun z => eqV z y)
  | _, _, .nil, _ => rfl
  | z :: ys, u :: us, .cons r t, f => by
    rw [List.all_cons, Bool.and_eq_true] at f
    rw [List.countP_cons, List.countP_cons, count_flat t f.2, eqU_of r f.1]
theorem mt_countL : MtR X "list.count" (rCountL X.K) := by
  intro pins s σ H x xs v us Q I rx rxs h
  obtain ⟨a, ys, y, rfl, rfl, hs, fy, fys, q⟩ := h
  cases rx
  cases rxs with
  | cons ry rt =>
    rename_i uy ut
    cases rt
    obtain ⟨its, rv, ⟨⟨cls, dd, data, sl⟩, n, ho, hc, hdn, hd⟩, hlen⟩ := I.list hs
    simp only at hc hd
    subst hc hd
    refine call_meets PySem.F.slot_list_count ⟨_, ho, rfl⟩ PySem.F.entry_list_count (PySem.F.args_list_count_2 _ _) (SeqAt.list_countAt a its.toArray n dd sl uy (eqU y)) ⟨ho, fun u' hu' => mem_eqAt ry fy rv fys u' (by simpa using hu'), ?_⟩
    have e : its.toArray.toList.countP (eqU y) = ys.countP (fun z => eqV z y) := count_flat rv fys
    rw [e]
    exact ⟨.int _, H, I.tok _, ⟨_, rfl⟩, q⟩
end
/-- a made error at a: its class, its fields -/
def ErrAt (H : Hp) (a C : Addr) (fs : List (Str × V)) : Prop := (∃ dx, H a = some (exo a C (some dx)) ∧ H dx = some (exd dx fs)) ∨ (fs = [] ∧ H a = some (ExO (.ref C) a))
section
variable {X : Cx} {pins : List (Addr × Obj)} {σ : L2.St} {H : Hp} {s : Shared} {a C : Addr} {fs : List (Str × V)}
/-- it, as the machine sees it -/
theorem inst_err (I : Inv X pins σ H s) (h : ErrAt H a C fs) : ∃ (oe : Obj) (od : Option Obj), PySem.W.InstAt s.heap a oe C od ∧ ((fs = [] ∧ od = none) ∨ ∃ (o : Obj) (mA : Str → Option Value), od = some o ∧ (∀ f, RelO (fs.lookup f) (mA f)) ∧ ∀ f, PySem.W.lookIn f o = some (mA f)) := by
  rcases h with ⟨dx, h1, h2⟩ | ⟨e, h1⟩
  · obtain ⟨t1, at1⟩ := exo_at I.hok h1
    obtain ⟨mA, hns, hr⟩ := exd_at I.hok h2
    obtain ⟨od, ho, hl⟩ := lookIn_ns hns
    exact ⟨_, some od, ⟨at1, rfl, rfl, ho⟩, .inr ⟨od, mA, rfl, hr, fun f => hl f⟩⟩
  · obtain ⟨⟨oe, vs, ho, hz, hd, _⟩, _, _⟩ := (show ObjOk X.prog X.w H s.heap a (ExO (.ref C) a) from I.hok a _ h1)
    exact ⟨oe, none, ⟨ho, hz.1, by unfold PySem.W.notCls; rw [hd] <;> rfl, by rw [hz.2]; trivial⟩, .inl ⟨e, rfl⟩⟩
end
/-- e.f of a made error -/
def tErrF (K : PySem.W.Frag) (f : Str) (te : TE) : TE := fun σ H Q => te σ H fun x H1 => ∃ (a C : Addr) (fs : List (Str × V)) (v : V), x = .ref a ∧ XfC K C ∧ PySem.W.findIn K (.ref C) f = some none ∧ ErrAt H1 a C fs ∧ fs.lookup f = some v ∧ Q v H1
theorem pe_errF {X : Cx} {K : PySem.W.Frag} {e : Expr} {te : TE} {pos : Pos} {n : Str} (he : PE X e te) (hK : X.K = K := by rfl) (hb : attributeBase e n X.env (eval e X.env) = eval e X.env := by rfl) : PE X (.Attribute e n pos) (tErrF K n te) := by
  subst hK
  refine ⟨fun pins s σ H Q I h => ?_⟩
  refine attr_of hb (thn (he.run pins s σ H _ I h) fun u s1 hh => ?_)
  obtain ⟨x, H1, I1, rx, a, C, fs, v, ex, T, no, ea, l, q⟩ := hh
  subst ex
  obtain rfl : u = Value.ref a := rx
  obtain ⟨oe, od, J, z⟩ := inst_err I1 ea
  rcases z with ⟨z, _⟩ | ⟨od, mA, rfl, hr, hl⟩
  · rw [z] at l
    cases l
  obtain ⟨u, hu, ru⟩ := RelO.some_of (v := v) (o := mA n) (by rw [← l]; exact hr n)
  exact HandSPX.exc_get I1.kIn J T.ga T.gg T.exC (PySem.W.findObj_own T.hdC no rfl (by rw [hl, hu])) (handed_of ru) ⟨v, H1, I1.tok _, ru, q⟩
/-- isinstance(e, c) of a made error -/
def rErrI (K : PySem.W.Frag) : List V → Hp → VK → Prop := fun xs H Q => ∃ (a C : Addr) (fs : List (Str × V)) (c : V) (u : Value) (b : Bool), xs = [.ref a, c] ∧ ExcC K C ∧ ErrAt H a C fs ∧ ClsV c u ∧ PySem.W.kitOne K (.ref C) u = some b ∧ Q (.bl b) H
theorem call_errI {X : Cx} : CallR X (.builtin "isinstance") (rErrI X.K) := by
  intro pins s σ H xs us Q I r h
  obtain ⟨a, C, fs, cv, u, b, rfl, c, ea, k, e, q⟩ := h
  obtain ⟨u1, u2, rfl, r1, r2⟩ := vals2 r
  obtain rfl : u1 = Value.ref a := r1
  have e2 := k.eq r2
  subst e2
  obtain ⟨oe, od, J, z⟩ := inst_err I ea
  rcases z with ⟨_, rfl⟩ | ⟨od, _, rfl, _⟩
  · exact PySem.W.kia_one (PySem.W.handS_kitx_exc c.hg c.hk c.hs c.hd c.ha c.hn c.ht c.hm) I.kIn J e (fun z => nomatch z) fun tk => ⟨.bl b, H, I.tok tk, rfl, q⟩
  · exact PySem.W.kia_one (kitx_exc c) I.kIn J e (fun z => nomatch z) fun tk => ⟨.bl b, H, I.tok tk, rfl, q⟩
/-- C(e, ..) as a value, C's own __init__ keeping sp -/
def tMkV (C : Addr) (sp : Sp) (dvs : List V) (ta : TA) : TE := fun σ H Q => ta σ H fun vs H1 => vs.length ≤ 1000 ∧ ∀ n, H1 n = none → sp (.ref n :: (vs ++ dvs)) (upd H1 n (exo n C none)) (fun v H2 => v = .non ∧ Q (.ref n) H2) E0
section
variable {X : Cx} {e : Expr} {es : List Expr} {ta : TA} {p pos : Pos} {B : String} {tl : List Value}
theorem pe_mkVW {W : List V → Hp → VK → Prop} {x : Str} {C fI : Addr} {k j : Nat} {fd : FuncData} {ps : List Str} {sp : Sp} {ds : List Value} {dvs : List V} (T : OexG B tl X.K C) (iC : PySem.W.findIn X.K (.ref C) "__init__" = some (some (.ref fI))) (tI : PySem.W.typeIn X.K (.ref fI) = some (.type "function"))
    (F1 : FnOk X.prog X.w X.K X.mg X.base CX0 k fI fd ps sp) (hr : Room j X.A) (hb : Binds X.K fd ps ds) (hd : Vals dvs ds) (hg : Gl X x) (hm : X.mg x = some (.ref C)) (ha : PA X (e :: es) ta) (hW : ∀ vs H1 Q, W vs H1 Q → vs.length ≤ 1000 ∧ ∀ n, H1 n = none → sp (.ref n :: (vs ++ dvs)) (upd H1 n (exo n C none)) (fun v H2 => v = .non ∧ Q (.ref n) H2) E0) (hj : k + 1 ≤ j := by decide)
    (hdb : (x == ("__debug__" : Str)) = false := by decide) (he : starEach (e :: es) X.env = (false, eval e X.env) :: starEach es X.env := by rfl) (hpl : (backTo pos (starEach es X.env)).any (·.1) = false := by rfl) :
    PE X (.Call (.Name x p) (e :: es) [] pos) (fun σ H Q => ta σ H fun vs H1 => W vs H1 Q) := by
  refine ⟨fun pins s σ H Q I h => ?_⟩
  obtain ⟨nm, q, N, bs, bm, sn, sub, ab, col, dd, k0, k1, k2, k3, k5, hC, mr⟩ := T.cls
  refine wpAny_Call_Name_kw (ld_glob I hg hm (PySem.W.callWith_K (h₀ := X.base) I.ok.mod.kin T.kC (thn (ha.run pos pins s σ H _ I h) fun us s1 ⟨vs, H1, I1, r1, hw⟩ => ⟨I1.kIn, ?_⟩) he hpl) hdb)
  obtain ⟨hz, q1⟩ := hW _ _ _ hw
  show wpAny _ _ (call (.ref C) us) _ _ _
  obtain ⟨hp, g, dr, tk, os⟩ := s1
  generalize en : hp.objs.size + 1 = n
  have sz : hp.objs.size ≤ n := by omega
  have hq := q1 n (I1.hok.fresh sz)
  generalize ehp : (hp.push (PySem.W.kdv_tup us)).push (PySem.HandSPX.excO C hp.objs.size) = hp2
  have kk : ∀ b o, hp.get? b = some o → hp2.get? b = some o := fun b o e => by
    rw [← ehp]
    exact Heap.get?_push_of_some _ (Heap.get?_push_of_some _ e)
  have hget : hp2.get? n = some (PySem.HandSPX.excO C hp.objs.size) := by
    rw [← ehp, ← en]
    heap_get
  have I2 : Inv X pins σ (upd H1 n (exo n C none)) ⟨hp2, g, dr, tk, os⟩ := I1.laid (t' := tk) kk sz (exo_ok hget)
  have r2 : Vals (V.ref n :: (vs ++ dvs)) (Value.ref n :: (us ++ ds)) := .cons rfl (r1.append hd)
  have hl : (Value.ref n :: us ++ ds).length = ps.length := r2.length.symm.trans (F1.len _ _ _ _ hq)
  have few : us.length ≤ sizeLine := by
    rw [← Paired.length r1, sizeLine_eq]
    omega
  refine wpAny_call (PySem.HandSPX.call_own T.base.ex (fun Y => T.base.has Y bm mr) (I1.kIn _ _ hC) (PySem.W.looks_findIn I1.kIn iC) (fun self => PySem.W.bind_fn I1.kIn self tI) few ?_)
  rw [en, ehp]
  refine codeAny_mono (F1.run _ X.stack _ _ ⟨Value.ref n :: us, []⟩ (Value.ref n :: (us ++ ds)) _ _ E0 ((hr.mono hj).make C us []) (I2.env0.make C us []) (hb _ (Value.ref n :: us) I2.kIn hl) r2 hq) fun r s' hq' => ?_
  match r, hq' with
  | .ok (.ret u), hq' =>
    obtain ⟨z, H', I', rz, ez, q⟩ := I2.after hq'
    subst ez
    obtain rfl : u = Value.none := rz
    exact ⟨rfl, .ref n, H', I', rfl, q⟩
theorem pe_mkV {x : Str} {C fI : Addr} {k j : Nat} {fd : FuncData} {ps : List Str} {sp : Sp} {ds : List Value} {dvs : List V} (T : OexG B tl X.K C) (iC : PySem.W.findIn X.K (.ref C) "__init__" = some (some (.ref fI))) (tI : PySem.W.typeIn X.K (.ref fI) = some (.type "function"))
    (F1 : FnOk X.prog X.w X.K X.mg X.base CX0 k fI fd ps sp) (hr : Room j X.A) (hb : Binds X.K fd ps ds) (hd : Vals dvs ds) (hg : Gl X x) (hm : X.mg x = some (.ref C)) (ha : PA X (e :: es) ta) (hj : k + 1 ≤ j := by decide)
    (hdb : (x == ("__debug__" : Str)) = false := by decide) (he : starEach (e :: es) X.env = (false, eval e X.env) :: starEach es X.env := by rfl) (hpl : (backTo pos (starEach es X.env)).any (·.1) = false := by rfl) :
    PE X (.Call (.Name x p) (e :: es) [] pos) (tMkV C sp dvs ta) := pe_mkVW T iC tI F1 hr hb hd hg hm ha (fun _ _ _ z => z) hj hdb he hpl
end
end Ex

set_option Elab.async false
set_option linter.all false
set_option maxRecDepth 100000
set_option maxHeartbeats 4000000
/-! Own layer: several clauses 'except x as n' of one try, all with the same name n. -/
namespace Ex
open PySem PySem.Spec PySem.Calls PyProof.Rows L2 Gu
abbrev Suites : Type := List (Value × (Addr → Value → Option Addr → TS))
/-- what the clauses wish of an error of the body, one after the other: slot i is n's -/
def wAsAll (K : PySem.W.Frag) (i : Nat) (Wout : WX) (D : Ends) : Suites → WX
  | [] => Wout
  | (c, ts) :: r => wAs K c i ts (wAsAll K i Wout D r) D
inductive HdAs (X : Cx) (n : Str) : List ExceptHandler → Suites → Prop
  | nil : HdAs X n [] []
  | cons {x : Str} {c : Value} {ts : Addr → Value → Option Addr → TS} {b0 : Stmt} {su : List Stmt} {np p2 : Pos} {hs : List ExceptHandler} {l : Suites} (hc : Names X x c)
      (hsu : ∀ (a : Addr) (oe : Obj) (cls : Value) (d : Option Addr) (pn : List (Addr × Obj)), Zc cls d oe → (∃ vs, oe.data = .fields vs) → PSs (X.suite a ((a, oe) :: pn)) (b0 :: su) (ts a cls d)) (r : HdAs X n hs l) :
      HdAs X n (.ExceptHandler (some (.Name x np)) (some n) (b0 :: su) p2 :: hs) ((c, ts) :: l)
section
variable {X : Cx} {n : Str} {i : Nat} {body : List Stmt} {h0 : ExceptHandler} {hds : List ExceptHandler} {l : Suites} {pos : Pos} {tb : WX → TS} {Wout : WX}
theorem ps_try_asAll (hs : X.stack = X.env :: X.outer) (hf : X.env.frame = some X.env.locals) (hN : X.N.Nodup) (hi : X.N[i]? = some n) (hln : X.env.kindOf n = some .local) (tk : Takes X Wout)
    (hb : ∀ (W : WX) (pn : List (Addr × Obj)) (xe : Value → Shared → Prop), Takes (X.tr pn xe) W → PassesOwn (model X.prog X.w) X.A X.env xe → PSs (X.tr pn xe) body (tb W))
    (hh : HdAs X n (h0 :: hds) l) : PS X (.Try body (h0 :: hds) [] [] pos) (fun D σ H => tb (wAsAll X.K i Wout D l) D σ H) := by
  refine ⟨fun pins s σ H D I h => ?_⟩
  have ok := I.ok
  have fr : X.A.frames = some (X.env :: X.outer) := by
    rw [ok.frames, hs]
  refine wpAny_Try_except (wpAny_mono ((hb (wAsAll X.K i Wout D l) (X.pn ++ pins) (fun e s1 => wpAny (model X.prog X.w) X.A (noteFrame e X.env) (fun _ s2 => wpAny (model X.prog X.w) X.A (setFlight e none) (fun _ s3 =>
    wpAny (model X.prog X.w) X.A (handleBy e X.env (h0 :: hds)) (SP X pins D) X.xe s3) X.xe s2) X.xe s1) (fun u s' xx => ?_) PassesOwn.looking).run [] s σ H D (I.toTry _) h) (fun f s1 hsp => ?_) (fun e s1 he => he))
  · obtain ⟨a, B, sI, pins', σ1, H1, cls, d, rfl, J0, nb, up, sky, na, os, ag, w⟩ := xx
    have J : Inv X pins σ1 H1 sI := J0.ofTry ok
    rw [hs] at sky
    show wpAny (model X.prog X.w) X.A (noteFrame (.ref a) X.env) _ _ _
    refine Sky.land Zc.steady fr hf sky fun h3 fl up3 => ?_
    have J3 : Inv X pins σ1 H1 { s' with heap := h3 } := J.landed nb fl.1 (up.trans up3) os ag
    obtain ⟨o3, v3, he3, hz3, hd3⟩ := fl.there
    have nfr : a ∉ frs (X.env :: X.outer) := fun hm => by
      obtain ⟨_, o', e', hnf⟩ := fl.2.2.1.mem hm
      rw [he3] at e'
      cases e'
      exact hnf _ hd3
    have nL : a ≠ X.env.locals := fun z => nfr (List.mem_filterMap.mpr ⟨X.env, List.mem_cons_self, by rw [hf, z]⟩)
    have nF : a ∉ X.fs := fun hm => by
      obtain ⟨e, he, q⟩ := List.mem_filterMap.mp hm
      exact nfr (List.mem_filterMap.mpr ⟨e, List.mem_cons_of_mem _ he, q⟩)
    have S3 := J3.suite he3 hd3 na nL nF
    have go : ∀ {hs2 : List ExceptHandler} {l2 : Suites}, HdAs X n hs2 l2 → wAsAll X.K i Wout D l2 cls d σ1 H1 → wpAny (model X.prog X.w) X.A (handleBy (.ref a) X.env hs2) (SP X pins D) X.xe { s' with heap := h3 } := by
      intro hs2 l2 hk
      induction hk with
      | nil =>
        intro w
        refine wpAny_handleBy_nil ?_
        obtain ⟨_, _, _, oe, vs, Tb, oT, tsT, he, hz, hd, h1, hr⟩ := id fl
        unfold PySem.passOn
        refine wpAny_bind (wpAny_field he hd h1 ?_)
        rw [if_neg (show ¬ ((Value.ref Tb == Value.none) = true) from by simp)]
        have fin : wpAny (model X.prog X.w) X.A (setFlight (.ref a) X.env.frame) (fun _ s4 => wpAny (model X.prog X.w) X.A (throw (.ref a) : Sem Flow) (SP X pins D) X.xe s4) X.xe { s' with heap := h3 } := by
          rw [hf]
          exact HandSPX.setFlight_upZ fl fun h4 hh4 up4 => wpAny_throw (tk _ _ ⟨a, B, sI, pins, σ1, H1, cls, d, rfl, J, nb, (up.trans up3).trans up4, .inr (.inr (by rw [hs]; exact hh4)), na, os, ag, w⟩)
        first
          | exact wpAny_bind (wpAny_pure (wpAny_bind fin))
          | exact wpAny_bind fin
      | @cons x c ts b0 su np p2 hs3 l3 hc hsu r ih =>
        intro w
        obtain ⟨b, hb1, yes, no⟩ := w
        refine wpAny_handleBy_cons (codeAny_handlers_test ?_) (by intro q; cases q)
        have lt : PySem.W.Looks (model X.prog X.w) h3 (typeOf (.ref a)) cls := fun A Q E s k q => wpAny_typeOf_ref (k _ _ he3) (by rw [hz3.1]; exact q)
        have lm := PySem.W.exm_one (M := model X.prog X.w) J3.kIn lt hb1
        have name : ∀ {Q : Value → Shared → Prop} {E : Value → Shared → Prop}, Q c { s' with heap := h3 } → wpAny (model X.prog X.w) (X.A.mark (some (.ref a))) (eval (.Name x np) X.env) Q E { s' with heap := h3 } := fun {Q E} q => by
          obtain ⟨hg, hdbg, hm | ⟨hm, hv, hnn⟩⟩ := hc
          · exact ld_glob (X := X.suite a ((a, o3) :: (X.pn ++ pins))) S3 hg hm q hdbg
          · exact ld_blt (X := X.suite a ((a, o3) :: (X.pn ++ pins))) S3 hg hm hv q hnn hdbg
        refine name (lm.here ?_)
        cases b with
        | false =>
          show wpAny _ X.A (handleBy (.ref a) X.env hs3) _ _ _
          exact ih (no rfl)
        | true =>
          refine codeAny_handlers_suite_as (HandSPX.lands_againZ fl fun h4 fl4 up4 => ?_)
          have J4 : Inv X pins σ1 H1 { s' with heap := h4 } := J.landed nb fl4.1 ((up.trans up3).trans up4) os ag
          obtain ⟨o4, v4, he4, hz4, hd4⟩ := fl4.there
          have S4 := J4.suite he4 hd4 na nL nF
          refine store_ok (X := X.suite a ((a, o4) :: (X.pn ++ pins))) (v := .ref a) S4 hN hi (.inl hln) rfl (fun s5 S5 => ?_) (.inr hln)
          refine wpAny_mono ((hsu a o4 cls d (X.pn ++ pins) hz4 ⟨_, hd4⟩).run [] s5 _ H1 _ S5 (yes rfl a na)) (fun f s6 hsp => ?_) (fun _ _ z => False.elim z)
          have out : ∀ {σ6 : L2.St} {H6 : Hp} {Q : Shared → Prop}, Inv (X.suite a ((a, o4) :: (X.pn ++ pins))) [] σ6 H6 s6 → (∀ s7, Inv X pins (σ6.set i none) H6 s7 → Q s7) →
              wpAny (model X.prog X.w) X.A (do bindName X.env n .none; unbindBehindTheSuite X.env n p2) (fun _ s7 => Q s7) X.xe s6 := fun {σ6 H6 Q} S6 hq => gone_ok (S6.unsuite ok) hN hi hln hq
          match f, hsp with
          | .next, ⟨σ6, H6, S6, q6⟩ => exact out S6 fun s7 J7 => ⟨_, _, J7, q6⟩
          | .brk, ⟨σ6, H6, S6, q6⟩ => exact out S6 fun s7 J7 => ⟨_, _, J7, q6⟩
          | .cont, ⟨σ6, H6, S6, q6⟩ => exact out S6 fun s7 J7 => ⟨_, _, J7, q6⟩
          | .ret u, ⟨v6, σ6, H6, S6, r6, q6⟩ => exact out S6 fun s7 J7 => ⟨_, _, _, J7, r6, q6⟩
    exact go hh w
  · match f, hsp with
    | .next, ⟨σ1, H1, J1, q⟩ => exact wpAny_execs_nil ⟨σ1, H1, J1.ofTry ok, q⟩
    | .brk, ⟨σ1, H1, J1, q⟩ => exact ⟨σ1, H1, J1.ofTry ok, q⟩
    | .cont, ⟨σ1, H1, J1, q⟩ => exact ⟨σ1, H1, J1.ofTry ok, q⟩
    | .ret u, ⟨v, σ1, H1, J1, r, q⟩ => exact ⟨v, σ1, H1, J1.ofTry ok, r, q⟩
end
end Ex

set_option Elab.async false
set_option linter.all false
set_option maxRecDepth 100000
set_option maxHeartbeats 4000000
/-! Own layer: defs that make lambdas; the end of a law whose defs write the tables of their code objects, where no repr is under way. -/
namespace Gu
open PySem PySem.Spec PyProof.Rows L2
section
variable {P : Program} {w : World} {K : PySem.W.Frag} {mg : Str → Option Value} {base : Heap} {CX : CXT} {k : Nat} {f : Addr} {fd : FuncData} {ps : List Str} {sp : Sp}
/-- a def by its body, its code object known -/
theorem okGc {x qual : Str} {params : Arguments} {body : List Stmt} {scope : Scope} {dvs : List V} {kws : List (Str × V)} {N : List Str}
    (F : FunD K x qual params body scope dvs kws f fd) (S : FnScope N ps scope) (len : ∀ vs H Q E, sp vs H Q E → vs.length = ps.length)
    (hbody : ∀ (A : Around) (outer : List Env) (s : Shared) (H : Hp) (vs : List V) (Q : VK) (E : XK),
      RoomG k (A.deeper (envOfC qual scope s.heap.objs.size f fd.code)) → sp vs H Q E →
      ∃ t, PSs (cxOf CX P w K mg base N qual scope f fd.code A outer s H E) body t ∧ t { nx := fun _ H' => Q .non H', rt := Q } (start N vs) H) :
    FnG P w K mg base CX (k + 1) f fd ps sp := by
  obtain ⟨oc, od, dV, kV, doc, pm, an, cdv, ct, osl, rfl, lk, hcd, _, _⟩ := F.ex
  refine ⟨len, fun A outer s H args us vs Q E hr e0 hb rv hsp => ?_⟩
  have KX : K.In s.heap := e0.mod.kin.keeps fun b o e => (e0.bs b o e).1
  have kinds : ∀ y ∈ ps.zip us, scope.names.lookup y.1 = some .local ∨
      (scope.names.lookup y.1 = some .cell ∧ ((cellsFrom (s.heap.objs.size + 1) scope.names []).lookup y.1).isSome = true) := fun ⟨n, v⟩ hy => by
    rcases S.par n (List.of_mem_zip hy).1 with q | q
    · exact .inl q
    · exact .inr ⟨q, PySem.W.cellsFrom_some _ _ _ (.inl q)⟩
  refine codeAny_call_function hr.r.depth (KX _ _ lk) rfl S.co S.gen rfl (PySem.W.codeRec_of KX hcd) (hb _ _ _ _ ?_)
  refine wpAny_newFunctionEnv_cells S.kind kinds fun env he s1 x => ?_
  subst he
  refine ⟨(e0.mod.nolimit.keeps fun b o e => (e0.bs b o e).1).keeps x.toInCall.keep, codeAny_func ?_⟩
  obtain ⟨t, ht, hq⟩ := hbody A outer s H vs Q E (hr.down _) hsp
  have I := inv_start (CX := CX) (E := E) (N := N) (qual := qual) (f := f) (cd := cdv) S hr.r.hd e0 (len _ _ _ _ hsp) rv x
  refine wpAny_mono (ht.run [] s1 (start N vs) H _ I hq) (fun fl s' hs => ?_) fun e s' hs => hs
  match fl, hs with
  | .ret u, ⟨v, σ', H', J, rv', q⟩ => exact ⟨v, H', J.os, J.bare, J.base, J.hok, rv', q⟩
  | .next, ⟨σ', H', J, q⟩ => exact ⟨V.non, H', J.os, J.bare, J.base, J.hok, rfl, q⟩
  | .brk, ⟨_, _, z⟩ => exact z.2.elim
  | .cont, ⟨_, _, z⟩ => exact z.2.elim
end
/-- what stands in the heap before the law's call: the script, and the tables of the code objects cs -/
structure Tab0 (cs : List (Addr × Addr)) (H : Hp) : Prop where
  at_ : ∀ p ∈ cs, H p.2 = some (.tbl #[])
theorem law_goT {P : Program} {w : World} {K : PySem.W.Frag} {mg mb : Str → Option Value} {CX : CXT} {k : Nat} {fa a : Addr} {cs : List (Addr × Addr)} {fd : FuncData} {x : Str} {sp : Sp} {s₁ : Shared} {vs : List Value} {H : Hp}
    (KX : K.In s₁.heap) (hns : s₁.heap.Ns mainGlobals mg) (hb : s₁.heap.Ns builtinsNs mb) (hbb : ∀ x : Str, x ≠ "__name__" → mb x = bootBuiltins x) (hlim : s₁.heap.NoLimit) (hg : s₁.gens = #[])
    (tab : ∀ p ∈ cs, s₁.heap.get? p.2 = some { cls := .none, data := .fields #[] }) (cod : ∀ p ∈ cs, PySem.W.CodeHd s₁.heap p.1 p.2)
    (hbm : ∃ (bm : Addr) (ob : Obj), mg "__builtins__" = some (.ref bm) ∧ bm ≠ builtinsNs ∧ s₁.heap.get? bm = some ob ∧ ob.cls = .type "module" ∧ ob.dict = some builtinsNs ∧ ob.data = .plain)
    (ha : s₁.heap.get? a = some { cls := .type "list", data := .seq vs.toArray }) (hr : RoomG k callerA)
    (F : ∀ base : Heap, K.In base → base.Ns mainGlobals mg → (∀ p ∈ cs, LamX.TabB base mg p.1 p.2) → FnG P w K mg base CX k fa fd [x] sp) (hbind : ∀ (s : Shared) (u : Value), BindsTo s fd ⟨[u], []⟩ [(x, u)])
    (hsp : sp [.ref a] H (fun v _ => v = .bl true) fun _ _ _ => False) (hCX : ∀ e s', CX [] H s₁ (fun _ _ _ => False) e s' → False)
    (hT : Tab0 cs H) (hO : ∀ b, H b = none ∨ b ∈ cs.map (·.2) ∨ ∃ o xs, H b = some (.frz o (.lst xs))) (hok : HOk P w H s₁.heap) (hA : ∀ b, H b ≠ none → b = a ∨ b ∈ cs.map (·.2)) (hK : ∀ b, H b ≠ none → K.lookup b = none) :
    codeAny (model P w) callerA (.call (.ref fa) ⟨[.ref a], []⟩) (fun r s' => r = .ok (.ret (.bool true)) ∧ OldK s₁.heap s'.heap ∧ s'.os = s₁.os ∧ AllBare s'.gens) s₁ := by
  have isT : ∀ b : Addr, b ∈ cs.map (·.2) → s₁.heap.get? b = some { cls := .none, data := .fields #[] } := fun b hb => by
    obtain ⟨p, hp, e⟩ := List.mem_map.mp hb
    rw [← e]
    exact tab p hp
  have un : ∀ {b : Addr} {o : Obj}, s₁.heap.get? b = some o → (∀ zs n, o.data ≠ .seq zs n) → o.data ≠ .fields #[] → H b = none := fun {b o} e h1 h2 => by
    cases q : H b with
    | none => rfl
    | some u =>
      rcases hA b (by rw [q]; exact fun z => nomatch z) with z | z
      · rw [z, ha] at e
        exact (h1 _ _ (congrArg Obj.data (Option.some.inj e)).symm).elim
      · rw [isT b z] at e
        exact (h2 (congrArg Obj.data (Option.some.inj e)).symm).elim
  have nsK : ∀ {b : Addr} {m : Str → Option Value}, s₁.heap.Ns b m → (hidT s₁.heap H).Ns b m := fun {b m} ⟨o, es, ep, e, d, r⟩ =>
    ⟨o, es, ep, hidT_get e (un e (fun zs n z => by rw [d] at z; cases z) (fun z => by rw [d] at z; cases z)), d, r⟩
  have kb : K.In (hidT s₁.heap H) := fun b o e => hidT_get (KX b o e) (by
    cases q : H b with
    | none => rfl
    | some u =>
      rw [hK b (by rw [q]; exact fun z => nomatch z)] at e
      cases e)
  obtain ⟨mc, l1, l2⟩ := hlim
  have tb : ∀ p ∈ cs, LamX.TabB (hidT s₁.heap H) mg p.1 p.2 := fun p hp => by
    refine ⟨?_, ?_, fun z => ?_⟩
    · obtain ⟨o, us, file, tf, flags, tg, inF, text, tt, e1, r1, r2, r3, r4⟩ := cod p hp
      refine ⟨o, us, file, tf, flags, tg, inF, text, tt, hidT_get e1 (un e1 (fun zs n z => by rw [r2] at z; cases z) fun z => ?_), r1, r2, r3, r4⟩
      rw [r2] at z
      cases z
      simp at r3
    · obtain ⟨bm, ob, b1, b2, b3, b4, b5, b6⟩ := hbm
      refine ⟨bm, ob, b1, b2, fun q => ?_, fun q => ?_, hidT_get b3 (un b3 (fun zs n z => by rw [b6] at z; cases z) fun z => by rw [b6] at z; cases z), b4, b5, b6⟩
      · obtain ⟨o, es, ep, e, hd, _⟩ := hns
        rw [q, e] at b3
        cases b3
        rw [hd] at b6
        cases b6
      · rw [q, tab p hp] at b3
        cases b3
        cases b6
    · obtain ⟨o, es, ep, e, hd, _⟩ := hns
      rw [z, tab p hp] at e
      cases e
      cases hd
  have e0 : Env0 P w K mg (hidT s₁.heap H) callerA [] s₁ H :=
    ⟨rfl, ⟨kb, nsK hns, ⟨mb, nsK hb, hbb⟩, ⟨mc, nsK l1, l2⟩⟩, fun b o e => of_hidT e, Nat.le_of_eq (hidT_size _ _), trivial, fun b hb => absurd (show b ∈ ([] : List Addr) from hb) List.not_mem_nil, hok, .of_eq hg⟩
  refine codeAny_mono ((F _ kb (nsK hns) tb).run callerA [] s₁ H ⟨[.ref a], []⟩ [.ref a] [.ref a] _ _ hr e0 (hbind s₁ (.ref a)) (.cons rfl .nil) hsp) fun r s' h => ?_
  match r, h with
  | .error e, h => exact (hCX e s' h).elim
  | .ok (.ret u), h =>
    obtain ⟨v, H', os, bare, un', hok', r', q⟩ := h
    obtain rfl : v = .bl true := q
    obtain rfl : u = Value.bool true := r'
    have key : ∀ b o, b ∉ cs.map (·.2) → s₁.heap.get? b = some o → s'.heap.get? b = some o := fun b o nb e => by
      rcases hO b with z | z | ⟨ob, xs, z⟩
      · exact un'.keep b o e z (fun z => absurd (show b ∈ ([] : List Addr) from z) List.not_mem_nil) (fun z => absurd (show b ∈ ([] : List Addr) from z) List.not_mem_nil)
      · exact absurd z nb
      · obtain ⟨e1, _⟩ := hok b _ z
        obtain ⟨e2, _⟩ := hok' b _ (un'.frzs b ob _ z)
        rw [e] at e1
        rw [Option.some.inj e1]
        exact e2
    have more : ∀ p ∈ cs, ∃ m : Array Value, s'.heap.get? p.2 = some { cls := .none, data := .fields m } := fun p hp => by
      obtain ⟨m, z⟩ := un'.tbls p.2 #[] (hT.at_ p hp)
      exact ⟨_, hok' p.2 _ z⟩
    refine ⟨rfl, ⟨fun b o e => ?_, fun b o e => ?_⟩, os, bare⟩
    · by_cases hb : b ∈ cs.map (·.2)
      · obtain ⟨p, hp, ep⟩ := List.mem_map.mp hb
        obtain ⟨m, hm⟩ := more p hp
        rw [← ep] at e ⊢
        rw [tab p hp] at e
        cases e
        exact .inr (.inl ⟨((cod p hp).tab (tab p hp)).isCodeTable, rfl, #[], m, rfl, by rw [Array.empty_append]; exact hm⟩)
      · exact .inl (key b o hb e)
    · by_cases hb : b ∈ cs.map (·.2)
      · obtain ⟨p, hp, ep⟩ := List.mem_map.mp hb
        obtain ⟨m, hm⟩ := more p hp
        rw [← ep]
        exact ⟨_, hm⟩
      · exact ⟨o, key b o hb e⟩
theorem law_callTG {P : Program} {w : World} {K : PySem.W.Frag} {mg mb : Str → Option Value} {CX : CXT} {k : Nat} {fa a : Addr} {cs : List (Addr × Addr)} {fd : FuncData} {x : Str} {sp : Sp} {s₁ : Shared} {vs : List Value} {ns : List Int}
    (KX : K.In s₁.heap) (hns : s₁.heap.Ns mainGlobals mg) (hb : s₁.heap.Ns builtinsNs mb) (hbb : ∀ x : Str, x ≠ "__name__" → mb x = bootBuiltins x) (hlim : s₁.heap.NoLimit) (hg : s₁.gens = #[])
    (tab : ∀ p ∈ cs, s₁.heap.get? p.2 = some { cls := .none, data := .fields #[] }) (nT : ∀ p ∈ cs, K.lookup p.2 = none) (cod : ∀ p ∈ cs, PySem.W.CodeHd s₁.heap p.1 p.2)
    (hbm : ∃ (bm : Addr) (ob : Obj), mg "__builtins__" = some (.ref bm) ∧ bm ≠ builtinsNs ∧ s₁.heap.get? bm = some ob ∧ ob.cls = .type "module" ∧ ob.dict = some builtinsNs ∧ ob.data = .plain)
    (ha : s₁.heap.get? a = some { cls := .type "list", data := .seq vs.toArray }) (hi : IntsAre vs ns) (hl : ns.length ≤ sizeLine) (hr : RoomG k callerA)
    (F : ∀ base : Heap, K.In base → base.Ns mainGlobals mg → (∀ p ∈ cs, LamX.TabB base mg p.1 p.2) → FnG P w K mg base CX k fa fd [x] sp) (hbind : ∀ (s : Shared) (u : Value), BindsTo s fd ⟨[u], []⟩ [(x, u)])
    (hsp : ∀ H : Hp, Tab0 cs H → SqL K H a (ns.map V.int) → sp [.ref a] H (fun v _ => v = .bl true) fun _ _ _ => False) (hCX : ∀ H e s', CX [] H s₁ (fun _ _ _ => False) e s' → False) :
    codeAny (model P w) callerA (.call (.ref fa) ⟨[.ref a], []⟩) (fun r s' => r = .ok (.ret (.bool true)) ∧ OldK s₁.heap s'.heap ∧ s'.os = s₁.os ∧ AllBare s'.gens) s₁ := by
  have rv := vals_ints hi
  have lenV := hi.length
  have isT : ∀ b : Addr, b ∈ cs.map (·.2) → s₁.heap.get? b = some { cls := .none, data := .fields #[] } ∧ K.lookup b = none := fun b hb => by
    obtain ⟨p, hp, e⟩ := List.mem_map.mp hb
    rw [← e]
    exact ⟨tab p hp, nT p hp⟩
  have aT : a ∉ cs.map (·.2) := fun z => by
    have q := (isT a z).1
    rw [ha] at q
    cases congrArg Obj.data (Option.some.inj q)
  have memT : ∀ p ∈ cs, p.2 ∈ cs.map (·.2) := fun p hp => List.mem_map.mpr ⟨p, hp, rfl⟩
  let H0 : Option HO → Hp := fun z b => if b = a then z else if b ∈ cs.map (·.2) then some (.tbl #[]) else none
  have h_a : ∀ z, H0 z a = z := fun z => if_pos rfl
  have h_t : ∀ z b, b ∈ cs.map (·.2) → H0 z b = some (.tbl #[]) := fun z b hb => (if_neg fun e => aT (by rw [← e]; exact hb)).trans (if_pos hb)
  have h_n : ∀ z b, b ≠ a → b ∉ cs.map (·.2) → H0 z b = none := fun z b n hb => (if_neg n).trans (if_neg hb)
  have t0 : ∀ z, Tab0 cs (H0 z) := fun z => ⟨fun p hp => h_t z _ (memT p hp)⟩
  have two : ∀ z b, H0 z b ≠ none → b = a ∨ b ∈ cs.map (·.2) := fun z b h => by
    by_cases h1 : b = a
    · exact .inl h1
    · by_cases h2 : b ∈ cs.map (·.2)
      · exact .inr h2
      · exact (h (h_n z b h1 h2)).elim
  have tok : ∀ z b u, b ∈ cs.map (·.2) → H0 z b = some u → ObjOk P w (H0 z) s₁.heap b u := fun z b u hb e => by
    rw [h_t z b hb] at e
    cases e
    exact (isT b hb).1
  cases hk : K.lookup a with
  | some o =>
    have e := (KX a o hk).symm.trans ha
    obtain rfl := Option.some.inj e
    refine law_goT (H := H0 none) KX hns hb hbb hlim hg tab cod hbm ha hr F hbind (hsp _ (t0 _) (.inr ⟨_, vs.toArray, _, hk, rfl, rfl, rfl, by rw [List.size_toArray, lenV]; exact hl, by simpa using rv⟩)) (hCX _) (t0 _) (fun b => ?_) (fun b u z => ?_) (two _) (fun b z => ?_)
    · by_cases h2 : b ∈ cs.map (·.2)
      · exact .inr (.inl h2)
      · by_cases h1 : b = a
        · exact .inl (by rw [h1]; exact h_a none)
        · exact .inl (h_n _ b h1 h2)
    · rcases two _ b (by rw [z]; exact fun y => nomatch y) with h1 | h2
      · rw [h1, h_a] at z
        cases z
      · exact tok _ b u h2 z
    · rcases two _ b z with h1 | h2
      · rw [h1, h_a] at z
        exact (z rfl).elim
      · exact (isT b h2).2
  | none =>
    refine law_goT (H := H0 (some (.frz { cls := .type "list", data := .seq vs.toArray } (.lst (ns.map V.int))))) KX hns hb hbb hlim hg tab cod hbm ha hr F hbind (hsp _ (t0 _) (.inl (.inr ⟨_, h_a _⟩))) (hCX _) (t0 _) (fun b => ?_) (fun b u z => ?_) (two _) (fun b z => ?_)
    · by_cases h2 : b ∈ cs.map (·.2)
      · exact .inr (.inl h2)
      · by_cases h1 : b = a
        · exact .inr (.inr ⟨_, _, by rw [h1]; exact h_a _⟩)
        · exact .inl (h_n _ b h1 h2)
    · rcases two _ b (by rw [z]; exact fun y => nomatch y) with h1 | h2
      · rw [h1, h_a] at z
        obtain rfl := Option.some.inj z
        rw [h1]
        exact ⟨ha, by rw [List.length_map]; exact hl, vs, _, rv, ha⟩
      · exact tok _ b u h2 z
    · rcases two _ b z with h1 | h2
      · rw [h1]
        exact hk
      · exact (isT b h2).2
/-- the end of a law with tables, over a head by facts -/
theorem walkGT {l : PySem.W.OpenLaw} {n k : Nat} {q : Program} {loose : List Str} {XP : (Str → Option Value) → Heap → Prop} {YP : World → Heap → Prop} {d : DefRec} {CX : CXT} {x : Str}
    (hn : l.most = some n) (hn2 : n ≤ sizeLine) (hdf : d.params.defaults = []) (hr : RoomG k callerA)
    (F : ∀ (w : World) (mg : Str → Option Value) (fa : Addr) (h : Heap), YP w h → h.Ns mainGlobals mg → mg d.name = some (.ref fa) →
      ∃ (K : PySem.W.Frag) (fd : FuncData) (sp : Sp) (cs : List (Addr × Addr)), K.In h ∧ (∀ p ∈ cs, h.get? p.2 = some { cls := .none, data := .fields #[] }) ∧ (∀ p ∈ cs, K.lookup p.2 = none) ∧ (∀ p ∈ cs, PySem.W.CodeHd h p.1 p.2) ∧ (∀ (s : Shared) (u : Value), BindsTo s fd ⟨[u], []⟩ [(x, u)]) ∧
        (∀ (H : Hp) (a : Addr) (ns : List Int), ns.length ≤ n → Tab0 cs H → SqL K H a (ns.map V.int) → sp [.ref a] H (fun v _ => v = .bl true) fun _ _ _ => False) ∧
        ∀ base : Heap, K.In base → base.Ns mainGlobals mg → (∀ p ∈ cs, LamX.TabB base mg p.1 p.2) → FnG l.prog w K mg base CX k fa fd [x] sp)
    (hCX : ∀ (H : Hp) (s : Shared) (e : Value) (s' : Shared), CX [] H s (fun _ _ _ => False) e s' → False) :
    PySem.W.WalkO q loose XP YP l.row.toRowW d [] (fun f vs => PySem.call f vs) := by
  refine Att.attach_call hn hdf fun w s₀ s₁ mg mb fa o pm cd doc a vs ns G Y ho hd hcd hmg hobj hints hlen hg => ?_
  obtain ⟨K, fd, sp, cs, KX, h1, h2, h3, hb, hsp, hF⟩ := F w mg fa _ Y G.T.g hmg
  exact law_callTG KX G.T.g G.T.b G.T.builtins G.T.nolimit hg h1 h2 h3 G.T.bmain hobj hints (Nat.le_trans hlen hn2) hr hF hb (fun H hT hS => hsp H a ns hlen hT hS) fun H e s' => hCX H s₁ e s'
end Gu

set_option Elab.async false
set_option linter.all false
set_option maxRecDepth 100000
set_option maxHeartbeats 4000000
/-! Own layer: defs and methods that may raise, by their names: called where nothing is let out, in a def that lets errors out, in a try's body; by position and by keywords. -/
namespace Ex
open PySem PySem.Spec PySem.Calls PyProof.Rows L2 Gu
theorem passN {X : Cx} : Passes (L2.CX X.prog X.w) X E0 := fun _ _ _ _ _ _ _ ⟨_, _, _, _, _, _, _, _, _, _, _, _, z⟩ => z.elim
theorem passX {X : Cx} {E : XK} (tk : Takes X (fun cls d _ H => E cls d H)) : Passes (L2.CX X.prog X.w) X E := passes_call tk fun _ _ _ _ h => h
structure DfX (P : Program) (w : World) (K : PySem.W.Frag) (mg : Str → Option Value) (base : Heap) (k : Nat) (x : Str) (ps : List Str) (sp : Sp) : Prop where
  ex : ∃ fd, FnOk P w K mg base (L2.CX P w) k (He.ga K x) fd ps sp ∧ Binds K fd ps []
  gl : mg x = some (.ref (He.ga K x))
  kp : PySem.W.keepIn K (.ref (He.ga K x)) = true
structure MfX (P : Program) (w : World) (K : PySem.W.Frag) (mg : Str → Option Value) (base : Heap) (k : Nat) (c m : Str) (ps : List Str) (sp : Sp) : Prop where
  ex : ∃ fd, FnOk P w K mg base (L2.CX P w) k (He.ma K (He.ga K c) m) fd ps sp ∧ Binds K fd ps []
  cl : Cls K (He.ga K c)
  me : Meth K (He.ga K c) m (He.ma K (He.ga K c) m)
/-- .. called by the keywords ks alone behind self; j: the places of the other parameters among the keywords -/
structure MfXK (P : Program) (w : World) (K : PySem.W.Frag) (mg : Str → Option Value) (base : Heap) (k : Nat) (c m : Str) (ps ks : List Str) (j : List Nat) (sp : Sp) : Prop where
  ex : ∃ fd, FnOk P w K mg base (L2.CX P w) k (He.ma K (He.ga K c) m) fd ps sp ∧ ∀ (s : Shared) (u : Value) (ws : List Value), ws.length = ks.length → BindsTo s fd ⟨[u], ks.zip ws⟩ (ps.zip (u :: j.filterMap fun i => ws[i]?))
  cl : Cls K (He.ga K c)
  me : Meth K (He.ga K c) m (He.ma K (He.ga K c) m)
section
variable {X : Cx} {k j : Nat} {x c m : Str} {ps ks : List Str} {ji : List Nat} {sp : Sp} {p pos apos : Pos} {e o : Expr} {es : List Expr} {kws : List Keyword} {t tk : TA} {ta : TE} {E : XK} {W : WX}
theorem pcallX (D : DfX X.prog X.w X.K X.mg X.base k x ps sp) (hr : Room j X.A) (px : Passes (L2.CX X.prog X.w) X E) (ha : PA X (e :: es) t) (hj : k ≤ j := by decide) (hg : Gl X x := by rfl) (hdb : (x == ("__debug__" : Str)) = false := by decide)
    (he : starEach (e :: es) X.env = (false, eval e X.env) :: starEach es X.env := by rfl) (hpl : (backTo pos (starEach es X.env)).any (·.1) = false := by rfl) :
    PE X (.Call (.Name x p) (e :: es) [] pos) (tCall sp [] E t) := by
  obtain ⟨fd, F, b⟩ := D.ex
  exact pe_call F (hr.mono hj) hg D.gl D.kp b .nil px ha hdb he hpl
theorem pmethX {pl : Sem Bool} (D : MfX X.prog X.w X.K X.mg X.base k c m ps sp) (hr : Room j X.A) (px : Passes (L2.CX X.prog X.w) X E) (he : PE X o ta) (ha : PA X (e :: es) t) (hj : k ≤ j := by decide)
    (hst : starEach (e :: es) X.env = (false, eval e X.env) :: starEach es X.env := by rfl) (hpl : (backTo pos (starEach es X.env)).any (·.1) = false := by rfl)
    (ht : eval (.Call (.Attribute o m apos) (e :: es) [] pos) X.env = (do
      let ov ← eval o X.env
      standAt apos.atName
      let (f, first) ← holding [ov] (getMethod ov m pl)
      callWith pos f first (backTo pos (starEach (e :: es) X.env)) (backToKw pos (keywordEach [] X.env))) := by rfl) :
    PE X (.Call (.Attribute o m apos) (e :: es) [] pos) (tMeth (He.ga X.K c) m sp [] E ta t) := by
  obtain ⟨fd, F, b⟩ := D.ex
  exact pe_meth he D.cl D.me F (hr.mono hj) b .nil px ha hst hpl ht
/-- within a comprehension's block the reading names K by hand -/
theorem pmethXB {pl : Sem Bool} (K : PySem.W.Frag) (D : MfX X.prog X.w X.K X.mg X.base k c m ps sp) (hr : Room j X.A) (px : Passes (L2.CX X.prog X.w) X E) (he : PE X o ta) (ha : PA X (e :: es) t) (hj : k ≤ j := by decide) (hK : X.K = K := by rfl)
    (hst : starEach (e :: es) X.env = (false, eval e X.env) :: starEach es X.env := by rfl) (hpl : (backTo pos (starEach es X.env)).any (·.1) = false := by rfl)
    (ht : eval (.Call (.Attribute o m apos) (e :: es) [] pos) X.env = (do
      let ov ← eval o X.env
      standAt apos.atName
      let (f, first) ← holding [ov] (getMethod ov m pl)
      callWith pos f first (backTo pos (starEach (e :: es) X.env)) (backToKw pos (keywordEach [] X.env))) := by rfl) :
    PE X (.Call (.Attribute o m apos) (e :: es) [] pos) (tMeth (He.ga K c) m sp [] E ta t) := by
  subst hK
  exact pmethX D hr px he ha hj hst hpl ht
def tMethKw (C : Addr) (m : Str) (sp : Sp) (n : Nat) (j : List Nat) (E : XK) (ta : TE) (tk : TA) : TE := fun σ H Q => ta σ H fun x H1 => ∃ a dx fs, x = .ref a ∧ H1 a = some (.ins C dx fs) ∧ fs.lookup m = none ∧
  tk σ H1 fun zs H2 => zs.length = n ∧ sp (x :: j.filterMap fun i => zs[i]?) H2 Q E
theorem pmethXK {pl : Sem Bool} (D : MfXK X.prog X.w X.K X.mg X.base k c m ps ks ji sp) (hr : Room j X.A) (px : Passes (L2.CX X.prog X.w) X E) (he : PE X o ta) (hkw : PK X kws tk) (hj : k ≤ j := by decide)
    (hall : (backToKw pos (keywordEach kws X.env)).all (·.1.isSome) = true := by rfl) (hks : (backToKw pos (keywordEach kws X.env)).filterMap (·.1) = ks := by rfl)
    (hpl : ((backTo pos (starEach [] X.env)).any (·.1) || (backToKw pos (keywordEach kws X.env)).any (·.1.isNone)) = false := by rfl)
    (ht : eval (.Call (.Attribute o m apos) [] kws pos) X.env = (do
      let ov ← eval o X.env
      standAt apos.atName
      let (f, first) ← holding [ov] (getMethod ov m pl)
      callWith pos f first (backTo pos (starEach [] X.env)) (backToKw pos (keywordEach kws X.env))) := by rfl) :
    PE X (.Call (.Attribute o m apos) [] kws pos) (tMethKw (He.ga X.K c) m sp ks.length ji E ta tk) := by
  obtain ⟨fd, F, b⟩ := D.ex
  refine ⟨fun pins s σ H Q I h => PySem.W.methodCall_KW (pl := pl) (thn (he.run pins s σ H _ I h) fun u s1 ⟨x, H1, I1, rx, a, dx, fs, ex, ea, l, q⟩ => ?_) ht⟩
  subst ex
  obtain rfl : u = Value.ref a := rx
  refine getmeth_ok I1 ea D.cl D.me l (PySem.W.callWith_KW0 (first := [.ref a]) (h₀ := X.base) I.ok.mod.kin D.me.kp hall (thn (hkw.run pos pins s1 σ H1 _ I1 q) fun ws s2 ⟨zs, H2, I2, rz, hz, q2⟩ => ⟨I2.kIn, ?_⟩) hpl)
  rw [hks]
  have rv : Vals (V.ref a :: ji.filterMap fun i => zs[i]?) (Value.ref a :: ji.filterMap fun i => ws[i]?) := .cons rfl (vals_pick rz ji)
  refine wpAny_call (codeAny_mono (F.run X.A X.stack s2 H2 ⟨[Value.ref a] ++ [], ks.zip ws⟩ _ _ Q E (hr.mono hj) I2.env0 (b s2 (.ref a) ws (rz.length.symm.trans hz)) rv q2) fun r s' hq => ?_)
  match r, hq with
  | .error e, hq => exact px pins σ H2 s2 e s' I2 hq
  | .ok (.ret u), hq => exact I2.after hq
end
section
variable {X : Cx} {k j : Nat} {c m : Str} {ps : List Str} {sp : Sp} {pos apos : Pos} {e o : Expr} {es : List Expr} {t : TA} {ta : TE} {W : WX}
/-- o.m(e, ..) in a try's body -/
def tMethT (C : Addr) (m : Str) (sp : Sp) (E : L2.St → XK) (ta : TE) (t : TA) : TE := fun σ H Q => ta σ H fun x H1 => ∃ a dx fs, x = .ref a ∧ H1 a = some (.ins C dx fs) ∧ fs.lookup m = none ∧ t σ H1 fun vs H2 => sp (x :: vs) H2 Q (E σ)
theorem pmethT {pl : Sem Bool} (D : MfX X.prog X.w X.K X.mg X.base k c m ps sp) (hr : Room j X.A) (tk : Takes X W) (he : PE X o ta) (ha : PA X (e :: es) t) (hj : k ≤ j := by decide)
    (hst : starEach (e :: es) X.env = (false, eval e X.env) :: starEach es X.env := by rfl) (hpl : (backTo pos (starEach es X.env)).any (·.1) = false := by rfl)
    (ht : eval (.Call (.Attribute o m apos) (e :: es) [] pos) X.env = (do
      let ov ← eval o X.env
      standAt apos.atName
      let (f, first) ← holding [ov] (getMethod ov m pl)
      callWith pos f first (backTo pos (starEach (e :: es) X.env)) (backToKw pos (keywordEach [] X.env))) := by rfl) :
    PE X (.Call (.Attribute o m apos) (e :: es) [] pos) (tMethT (He.ga X.K c) m sp (WE W) ta t) := by
  obtain ⟨fd, F, b⟩ := D.ex
  refine ⟨fun pins s σ H Q I h => PySem.W.methodCall_KW (pl := pl) (thn (he.run pins s σ H _ I h) fun u s1 ⟨x, H1, I1, rx, a, dx, fs, ex, ea, l, q⟩ => ?_) ht⟩
  subst ex
  obtain rfl : u = Value.ref a := rx
  refine getmeth_ok I1 ea D.cl D.me l (PySem.W.callWith_K (first := [.ref a]) (h₀ := X.base) I.ok.mod.kin D.me.kp (thn (ha.run pos pins s1 σ H1 _ I1 q) fun us s2 ⟨vs, H2, I2, r, q2⟩ => ⟨I2.kIn, ?_⟩) hst hpl)
  exact run_fnS (E := WE W) (us := .ref a :: us) (vs := .ref a :: vs) F (hr.mono hj) b (passAt tk σ) I2 (.cons rfl r) q2
end
/-! ### facts of an error's class over any base -/
def oexGB (B : String) (K : PySem.W.Frag) (C : Addr) : Bool := match K.lookup C with
  | some ⟨.type "type", _, .cls cd, sl⟩ => (match cd.mro, sl.toList with
    | .ref c :: bm, [_, _, _, _, some (.builtin n), _] => (c == C && n == B ++ ".__new__") && ((!cd.hasDel && cd.hasDict) && refsB (tailE B) bm)
    | _, _ => false)
  | _ => false
theorem oexGB_ok {B : String} {K : PySem.W.Frag} {C : Addr} (h : oexGB B K C = true) :
    ∃ nm q N bs bm sn sub ab col dd k0 k1 k2 k3 k5, K.lookup C = some (excClassObj nm q C N bs bm true sn sub ab col dd k0 k1 k2 k3 k5 (B ++ ".__new__")) ∧ refsB (tailE B) bm = true := by
  unfold oexGB at h
  split at h
  · rename_i dd cd sl ho
    split at h
    · rename_i c bm k0 k1 k2 k3 n k5 hm hs
      obtain ⟨⟨h1, h2⟩, h3⟩ := (He.ba h).imp_left He.ba
      obtain ⟨h4, h5⟩ := He.ba h3
      obtain ⟨h6, h7⟩ := He.ba h4
      have e1 : c = C := beq_iff_eq.mp h1
      have e2 : n = B ++ ".__new__" := beq_iff_eq.mp h2
      have e3 : cd.hasDel = false := by simpa using h6
      subst e1 e2
      obtain ⟨nm, bs, mro, ns, qn, hd, sn, sub, ab, col, del⟩ := cd
      dsimp only at hm e3 h7
      subst hm e3 h7
      have e4 : sl = #[k0, k1, k2, k3, some (.builtin (B ++ ".__new__")), k5] := by
        obtain ⟨l⟩ := sl
        simp only at hs
        rw [hs]
      subst e4
      exact ⟨nm, qn, ns, bs, bm, sn, sub, ab, col, dd, k0, k1, k2, k3, k5, ho, h5⟩
    · cases h
  · cases h
def bOf (a : Option Bool) (b : Bool) : Bool := decide (a = some b)
theorem bOf_ok {a : Option Bool} {b : Bool} (h : bOf a b = true) : a = some b := of_decide_eq_true h
/-- what the rules ask of an error's class at C, over B, with the field n -/
def errG (B : String) (K : PySem.W.Frag) (C : Addr) (n : Str) : Bool := oexGB B K C && (He.eqO (PySem.W.findIn K (.ref C) "__setattr__") (some (some (.builtin "object.__setattr__"))) && (bOf (PySem.W.subIn K (.ref C) (.type "BaseException")) true &&
  (decide (PySem.W.typeIn K (.ref C) = some (.type "type")) && (PySem.W.keepIn K (.ref C) && (xfB K C && (He.eqO (PySem.W.findIn K (.ref C) "__class__") (some (some (.builtin "object.__class__"))) &&
  (He.eqO (PySem.W.specialIn K (.builtin "object.__class__") "__get__") (some (some (.builtin "getset_descriptor.__get__"))) && (bOf (PySem.W.takesIn K (.builtin "object.__class__")) true && (bOf (PySem.W.mroIn K C (.type "object")) true &&
  (He.eqO (PySem.W.findIn K (.ref C) n) (some none) && (He.eqO (PySem.W.findIn K (.ref C) "__init__") (some (some (.ref (He.ma K C "__init__")))) && (decide (PySem.W.typeIn K (.ref (He.ma K C "__init__")) = some (.type "function")) && bOf (PySem.W.exmOne K (.ref C) (.ref C)) true))))))))))))
structure ErrG (B : String) (K : PySem.W.Frag) (C : Addr) (n : Str) : Prop where
  ox : OexG B (tailE B) K C
  xf : XfC K C
  ec : ExcC K C
  no : PySem.W.findIn K (.ref C) n = some none
  ii : PySem.W.findIn K (.ref C) "__init__" = some (some (.ref (He.ma K C "__init__")))
  ti : PySem.W.typeIn K (.ref (He.ma K C "__init__")) = some (.type "function")
  em : PySem.W.exmOne K (.ref C) (.ref C) = some true
theorem errG_ok {B : String} {K : PySem.W.Frag} {C : Addr} {n : Str} (b : BaseE B (tailE B)) (h : errG B K C n = true) : ErrG B K C n := by
  obtain ⟨a1, h⟩ := He.ba h
  obtain ⟨a2, h⟩ := He.ba h
  obtain ⟨a3, h⟩ := He.ba h
  obtain ⟨a4, h⟩ := He.ba h
  obtain ⟨a5, h⟩ := He.ba h
  obtain ⟨a6, h⟩ := He.ba h
  obtain ⟨a7, h⟩ := He.ba h
  obtain ⟨a8, h⟩ := He.ba h
  obtain ⟨a9, h⟩ := He.ba h
  obtain ⟨a10, h⟩ := He.ba h
  obtain ⟨a11, h⟩ := He.ba h
  obtain ⟨a12, h⟩ := He.ba h
  obtain ⟨a13, a14⟩ := He.ba h
  have x := xfB_ok a6
  exact ⟨⟨b, oexGB_ok a1, He.eqO_ok a2, bOf_ok a3, of_decide_eq_true a4, a5⟩, x, ⟨x.ga, x.gg, x.exC, x.hdC, He.eqO_ok a7, He.eqO_ok a8, bOf_ok a9, bOf_ok a10⟩, He.eqO_ok a11, He.eqO_ok a12, of_decide_eq_true a13, bOf_ok a14⟩
/-- an error's __init__ with one field -/
def spErr (C : Addr) (n : Str) : Sp := fun vs H Q _ => ∃ (a : Addr) (v : V), vs = [.ref a, v] ∧ H a = some (exo a C none) ∧ ∀ dx, H dx = none → dx ≠ a → Q .non (upd (upd H dx (exd dx [(n, v)])) a (exo a C (some dx)))
/-- the error's maker, for a raise -/
structure Ei (P : Program) (w : World) (K : PySem.W.Frag) (mg : Str → Option Value) (base : Heap) (c n : Str) : Prop where
  ex : ∃ fd, FnOk P w K mg base CX0 1 (He.ma K (He.ga K c) "__init__") fd ["self", n] (spErr (He.ga K c) n) ∧ Binds K fd ["self", n] []
theorem heap_err {H : Hp} {a dx : Addr} {fs : List (Str × V)} {o1 o2 o3 : HO} (ha : H a = none) (hd : H dx = none) : Same H (upd (del (upd (upd (upd H a o1) dx o2) a o3) a) dx (.xd fs)) := fun b o e => by
  have nb : b ≠ a := ne_of_none e ha
  have nd : b ≠ dx := ne_of_none e hd
  rw [upd_ne nd, del_ne nb, upd_ne nb, upd_ne nd, upd_ne nb]
  exact e
/-- what is asked at a raise of C(v): that the def's own wish of errors holds of it -/
theorem raise_ok {K : PySem.W.Frag} {c n : Str} {v : V} {H : Hp} {E : XK} (q : ∀ d H', H d = none → Same H H' → H' d = some (.xd [(n, v)]) → E (.ref (He.ga K c)) (some d) H') :
    ∀ a, H a = none → spErr (He.ga K c) n (.ref a :: ([v] ++ [])) (upd H a (exo a (He.ga K c) none))
      (fun u H2 => u = .non ∧ ∃ (d : Addr) (fs : List (Str × V)), H2 a = some (exo a (He.ga K c) (some d)) ∧ H2 d = some (exd d fs) ∧ H d = none ∧ E (.ref (He.ga K c)) (some d) (upd (del H2 a) d (.xd fs))) (fun _ _ _ => False) := fun a ha => by
  refine ⟨a, v, rfl, upd_same, fun dx hdx ne => ⟨rfl, dx, [(n, v)], upd_same, ?_, ?_, ?_⟩⟩
  · rw [upd_ne ne, upd_same]
  · rw [upd_ne ne] at hdx
    exact hdx
  · rw [upd_ne ne] at hdx
    exact q dx _ hdx (heap_err ha hdx) upd_same
end Ex

set_option Elab.async false
set_option linter.all false
set_option maxRecDepth 100000
set_option maxHeartbeats 4000000
/-! Own layer: an error made by keywords. -/
namespace PySem
namespace ExKw
open Builtin Builtin.ObjectAttr
section
variable {prog : Program} {w : World} {A : Around} {E : Value → Shared → Prop} {R : Result → Shared → Prop} {h : Heap} {g : Array GenState} {d : Drawn} {t : Nat} {os : OsState}
variable {nm q : Str} {C N : Addr} {bs bm bmB : List Value} {hdct : Bool} {sn : List Str} {sub : List Value} {ab : Bool} {col : Option Bool} {dd : Option Addr} {k0 k1 k2 k3 k5 : Option Value} {B newId initId : String}
theorem kw_check (F : ExcBaseFacts B newId initId bmB) (hT : ∀ X : String, bm.contains (.type X) = bmB.contains (.type X)) {kw : List (Str × Value)} {Q : Unit → Shared → Prop}
    (hC : h.get? C = some (excClassObj nm q C N bs bm hdct sn sub ab col dd k0 k1 k2 k3 k5 newId)) (hq : Q () ⟨h, g, d, t, os⟩) : wpAny (model prog w) A (checkBuiltinCall newId ⟨[.ref C], kw⟩) Q E ⟨h, g, d, t, os⟩ := by
  have has : (Value.ref C :: bm).contains (.type B) = true := by rw [List.contains_cons, hT, F.hasB, Bool.or_true]
  have hst := F.noStar
  simp only [checkBuiltinCall, F.newKind, F.newSplit, F.newRow]
  repeat (first | refine wpAny_loadPart_at hC ?_ | (refine wpAny_isSubtype_exc hC ?_; rw [has]) | refine wpAny_staticBase_exc hC ?_ | refine wpAny_madeBy_exc hC ?_ | simp only [bne_self_eq_false, Bool.false_eq_true, if_false] | wp_step)
  exact hq
theorem kw_new (F : ExcBaseFacts B newId initId bmB) (hT : ∀ X : String, bm.contains (.type X) = bmB.contains (.type X)) {kw : List (Str × Value)}
    (hC : h.get? C = some (excClassObj nm q C N bs bm hdct sn sub ab col dd k0 k1 k2 k3 k5 newId))
    (hq : R (.ok (.ret (.ref (h.objs.size + 1)))) ⟨(h.push (W.kdv_tup [])).push (HandSPX.excO C h.objs.size), g, d, t, os⟩) :
    codeAny (model prog w) A (.builtin newId ⟨[.ref C], kw⟩) R ⟨h, g, d, t, os⟩ := by
  have hends := F.ends
  have hB : (Value.ref C :: bm).contains (.type B) = true := by rw [List.contains_cons, hT, F.hasB, Bool.or_true]
  have hA : (Value.ref C :: bm).contains (.type "AttributeError") = false := by rw [List.contains_cons, hT, F.noAttr]; rfl
  have hN : (Value.ref C :: bm).contains (.type "NameError") = false := by rw [List.contains_cons, hT, F.noName]; rfl
  refine codeAny_builtinAt F.entry ?_
  unfold Builtin.«BaseException.__new__»
  refine wpAt_bind ?_
  show wpAt _ _ _ (stack >>= _) _ _ _
  refine wpAt_bind (wpAt_stack fun p below => wpAt_of_wpAny ?_)
  wp_walk
  refine wpAt_of_wpAny ?_
  rw [F.owner]
  have hrest : ([] : List Value).length ≤ sizeLine := Nat.zero_le _
  repeat (first | with_reducible refine wpAny_madeHere_exc F.canon hC ?_ | with_reducible refine wpAny_loadPart_at hC ?_ | (with_reducible refine wpAny_isSubtype_exc hC ?_; first | rw [hB] | rw [hA] | rw [hN]) | wp_step)
  show R _ _
  rw [Heap.size_push]
  exact hq
theorem kw_check_call {M : Model} {kw : List (Str × Value)} {Q : Unit → Shared → Prop} (hC : h.get? C = some (excClassObj nm q C N bs bm hdct sn sub ab col dd k0 k1 k2 k3 k5 newId))
    (hq : Q () ⟨h, g, d, t, os⟩) : wpAny M A (checkBuiltinCall "type.__call__" ⟨[.ref C], kw⟩) Q E ⟨h, g, d, t, os⟩ := by
  have f3 := tc_sub
  have hT : (⟨h, g, d, t, os⟩ : Shared).TypeIs (.ref C) "type" := ⟨_, hC, rfl⟩
  simp only [checkBuiltinCall, tc_kind, tc_split]
  repeat (any_goals (first | assumption | with_reducible refine wpAny_loadPart_at hC ?_ | with_reducible refine wpAny_onRaise ?_ | with_reducible refine wpAny_map ?_ | wp_step))
theorem kw_type_call (F : ExcBaseFacts B newId initId bmB) (hT : ∀ X : String, bm.contains (.type X) = bmB.contains (.type X)) {kw : List (Str × Value)} {fI : Addr} {Q : Fin → Shared → Prop}
    (hC : h.get? C = some (excClassObj nm q C N bs bm hdct sn sub ab col dd k0 k1 k2 k3 k5 newId))
    (hi : W.Looks (model prog w) h (typeLookup (.ref C) "__init__") (some (.ref fI))) (hb : ∀ self, W.Looks (model prog w) h (bindSpecial (.ref fI) self) (.ref fI, [self]))
    (hq : codeAny (model prog w) A (.call (.ref fI) ⟨[.ref (h.objs.size + 1)], kw⟩)
      (fun r s' => match r with | .ok (.ret v) => v = .none ∧ Q (.done (.ret (.ref (h.objs.size + 1)))) s' | .ok _ => False | .error e => E e s')
      ⟨(h.push (W.kdv_tup [])).push (HandSPX.excO C h.objs.size), g, d, t, os⟩) :
    wpAny (model prog w) A (Builtin.«type.__call__» ⟨[.ref C], kw⟩) Q E ⟨h, g, d, t, os⟩ := by
  repeat (first | with_reducible refine wpAny_loadPart_at hC ?_ | with_reducible refine wpAny_madeBy_exc hC ?_ | wp_step)
  refine codeAny_call_builtin_code (Code.quiet_builtin _ F.quiet) (kw_check F hT hC ?_)
  refine kw_new F hT hC ?_
  show wpAny _ _ _ _ _ _
  have k : ∀ b o, h.get? b = some o → ((h.push (W.kdv_tup [])).push (HandSPX.excO C h.objs.size)).get? b = some o := fun b o e => Heap.get?_push_of_some _ (Heap.get?_push_of_some _ e)
  have hC1 := k _ _ hC
  have hget : ((h.push (W.kdv_tup [])).push (HandSPX.excO C h.objs.size)).get? (h.objs.size + 1) = some (HandSPX.excO C h.objs.size) := by heap_get
  have hcC : (Value.ref C :: bm).contains (.ref C) = true := by simp
  have i1 := hi.keeps k
  have b1 := (hb (.ref (h.objs.size + 1))).keeps k
  unfold isInstance
  repeat (first | with_reducible refine wpAny_loadPart_at hget ?_ | (with_reducible refine wpAny_isSubtype_exc hC1 ?_; rw [hcC]) | wp_step)
  show wpAny _ _ (typeLookup (.ref C) _) _ _ _
  refine i1.at ?_
  refine wpAny_holding (wpAny_bind (b1.at ?_))
  refine wpAny_bind (wpAny_call (codeAny_mono hq fun r s' z => ?_))
  rcases r with e | (v | _ | _ | _) <;> first | exact z | exact z.elim | skip
  obtain ⟨rfl, z⟩ := z
  first
    | exact wpAny_pure (wpAny_pure z)
    | (wp_walk; exact z)
theorem kw_call (F : ExcBaseFacts B newId initId bmB) (hT : ∀ X : String, bm.contains (.type X) = bmB.contains (.type X)) {kw : List (Str × Value)} {fI : Addr}
    (hC : h.get? C = some (excClassObj nm q C N bs bm hdct sn sub ab col dd k0 k1 k2 k3 k5 newId))
    (hi : W.Looks (model prog w) h (typeLookup (.ref C) "__init__") (some (.ref fI))) (hb : ∀ self, W.Looks (model prog w) h (bindSpecial (.ref fI) self) (.ref fI, [self]))
    (hq : codeAny (model prog w) (A.under (.builtin "type.__call__" ⟨[.ref C], kw⟩)) (.call (.ref fI) ⟨[.ref (h.objs.size + 1)], kw⟩) (W.InitBack (h.objs.size + 1) R)
      ⟨(h.push (W.kdv_tup [])).push (HandSPX.excO C h.objs.size), g, d, t, os⟩) :
    codeAny (model prog w) A (.call (.ref C) ⟨[], kw⟩) R ⟨h, g, d, t, os⟩ := by
  have f1 := tc_lookup
  have f2 := tc_bind (.ref C)
  have hTy : (⟨h, g, d, t, os⟩ : Shared).TypeIs (.ref C) "type" := ⟨_, hC, rfl⟩
  refine codeAny_of_tree ?_
  show wpAny _ _ (callAny (.ref C) _) _ _ _
  repeat (any_goals (first | assumption | with_reducible refine wpAny_loadPart_at hC ?_ | wp_step))
  refine ⟨rfl, ?_⟩
  refine codeAny_call_builtin_at (Code.quiet_builtin _ (by decide +kernel)) entry_typeCall (kw_check_call hC (kw_type_call F hT hC hi hb ?_))
  refine codeAny_mono hq fun r s' z => ?_
  rcases r with e | (v | _ | _ | _) <;> exact z
end
end ExKw
end PySem
namespace Ex
open PySem PySem.Spec PySem.Calls PyProof.Rows L2 Gu
/-- C(k = v, ..) as a value; j: the places of the parameters among the keywords -/
def tMkK (C : Addr) (sp : Sp) (n : Nat) (j : List Nat) (tk : TA) : TE := fun σ H Q => tk σ H fun zs H1 => zs.length = n ∧ ∀ a, H1 a = none → sp (.ref a :: (j.filterMap fun i => zs[i]?)) (upd H1 a (exo a C none)) (fun v H2 => v = .non ∧ Q (.ref a) H2) E0
section
variable {X : Cx} {kws : List Keyword} {tk : TA} {p pos : Pos} {B : String} {tl : List Value} {ks : List Str} {ji : List Nat}
theorem pe_mkK {W : List V → Hp → VK → Prop} {x : Str} {C fI : Addr} {k j : Nat} {fd : FuncData} {ps : List Str} {sp : Sp} (T : OexG B tl X.K C) (iC : PySem.W.findIn X.K (.ref C) "__init__" = some (some (.ref fI))) (tI : PySem.W.typeIn X.K (.ref fI) = some (.type "function"))
    (F1 : FnOk X.prog X.w X.K X.mg X.base CX0 k fI fd ps sp) (hr : Room j X.A) (hb : ∀ (s : Shared) (self : Value) (ws : List Value), ws.length = ks.length → BindsTo s fd ⟨[self], ks.zip ws⟩ (ps.zip (self :: (ji.filterMap fun i => ws[i]?))))
    (hg : Gl X x) (hm : X.mg x = some (.ref C)) (hkw : PK X kws tk) (hW : ∀ zs H1 Q, W zs H1 Q → zs.length = ks.length ∧ ∀ a, H1 a = none → sp (.ref a :: (ji.filterMap fun i => zs[i]?)) (upd H1 a (exo a C none)) (fun v H2 => v = .non ∧ Q (.ref a) H2) E0) (hj : k + 1 ≤ j := by decide)
    (hall : (backToKw pos (keywordEach kws X.env)).all (·.1.isSome) = true := by rfl) (hks : (backToKw pos (keywordEach kws X.env)).filterMap (·.1) = ks := by rfl) (hdb : (x == ("__debug__" : Str)) = false := by decide)
    (hpl : ((backTo pos (starEach [] X.env)).any (·.1) || (backToKw pos (keywordEach kws X.env)).any (·.1.isNone)) = false := by rfl) :
    PE X (.Call (.Name x p) [] kws pos) (fun σ H Q => tk σ H fun zs H1 => W zs H1 Q) := by
  obtain ⟨nm, q, N, bs, bm, sn, sub, ab, col, dd, k0, k1, k2, k3, k5, hC, mr⟩ := T.cls
  refine ⟨fun pins s σ H Q I h => wpAny_Call_Name_kw (ld_glob I hg hm ?_ hdb)⟩
  refine PySem.W.callWith_KW0 (h₀ := X.base) I.ok.mod.kin T.kC hall (thn (hkw.run pos pins s σ H _ I h) fun ws s1 ⟨zs, H1, I1, rz, hw⟩ => ⟨I1.kIn, ?_⟩) hpl
  obtain ⟨l2, q1⟩ := hW _ _ _ hw
  rw [hks]
  show wpAny _ _ (call (.ref C) [] (ks.zip ws)) _ _ _
  obtain ⟨hp, g, dr, tk, os⟩ := s1
  generalize en : hp.objs.size + 1 = n
  have sz : hp.objs.size ≤ n := by omega
  have hq := q1 n (I1.hok.fresh sz)
  generalize ehp : (hp.push (PySem.W.kdv_tup [])).push (PySem.HandSPX.excO C hp.objs.size) = hp2
  have kk : ∀ b o, hp.get? b = some o → hp2.get? b = some o := fun b o e => by
    rw [← ehp]
    exact Heap.get?_push_of_some _ (Heap.get?_push_of_some _ e)
  have hget : hp2.get? n = some (PySem.HandSPX.excO C hp.objs.size) := by
    rw [← ehp, ← en]
    heap_get
  have I2 : Inv X pins σ (upd H1 n (exo n C none)) ⟨hp2, g, dr, tk, os⟩ := I1.laid (t' := tk) kk sz (exo_ok hget)
  have r2 : Vals (V.ref n :: (ji.filterMap fun i => zs[i]?)) (Value.ref n :: (ji.filterMap fun i => ws[i]?)) := .cons rfl (vals_pick rz ji)
  refine wpAny_call (PySem.ExKw.kw_call T.base.ex (fun Y => T.base.has Y bm mr) (I1.kIn _ _ hC) (PySem.W.looks_findIn I1.kIn iC) (fun self => PySem.W.bind_fn I1.kIn self tI) ?_)
  rw [en, ehp]
  refine codeAny_mono (F1.run _ X.stack _ _ ⟨[Value.ref n], ks.zip ws⟩ _ _ _ E0 ((hr.mono hj).make C [] (ks.zip ws)) (I2.env0.make C [] (ks.zip ws)) (hb _ (Value.ref n) ws (rz.length.symm.trans l2)) r2 hq) fun r s' hq' => ?_
  match r, hq' with
  | .ok (.ret u), hq' =>
    obtain ⟨z, H', I', rz, ez, q⟩ := I2.after hq'
    subst ez
    obtain rfl : u = Value.none := rz
    exact ⟨rfl, .ref n, H', I', rfl, q⟩
end
end Ex

set_option Elab.async false
set_option linter.all false
set_option maxRecDepth 100000
set_option maxHeartbeats 4000000
/-! Own layer: makers of errors with one or two fields, as values, by position and by keywords. -/
namespace Ex
open PySem PySem.Spec PySem.Calls PyProof.Rows L2 Gu
/-- an error's __init__ with two fields -/
def spErr2 (C : Addr) (n m : Str) : Sp := fun vs H Q _ => ∃ (a : Addr) (u v : V), vs = [.ref a, u, v] ∧ H a = some (exo a C none) ∧
  ∀ dx, H dx = none → dx ≠ a → Q .non (upd (upd (upd H dx (exd dx [(n, u)])) a (exo a C (some dx))) dx (exd dx [(m, v), (n, u)]))
section
variable (P : Program) (w : World) (K : PySem.W.Frag) (mg : Str → Option Value) (base : Heap)
/-- the error class c with the one field n -/
structure E1 (c n : Str) : Prop where
  ex : ∃ B tl fd, OexG B tl K (He.ga K c) ∧ FnOk P w K mg base CX0 1 (He.ma K (He.ga K c) "__init__") fd ["self", n] (spErr (He.ga K c) n) ∧ Binds K fd ["self", n] [] ∧
    ∀ (s : Shared) (self : Value) (ws : List Value), ws.length = ([n] : List Str).length → BindsTo s fd ⟨[self], ([n] : List Str).zip ws⟩ ((["self", n] : List Str).zip (self :: (([0] : List Nat).filterMap fun i => ws[i]?)))
  ii : PySem.W.findIn K (.ref (He.ga K c)) "__init__" = some (some (.ref (He.ma K (He.ga K c) "__init__")))
  ti : PySem.W.typeIn K (.ref (He.ma K (He.ga K c) "__init__")) = some (.type "function")
  gl : mg c = some (.ref (He.ga K c))
  xf : XfC K (He.ga K c)
  no : PySem.W.findIn K (.ref (He.ga K c)) n = some none
/-- .. with the two fields n, m; by keywords m comes first -/
structure E2 (c n m : Str) : Prop where
  ex : ∃ B tl fd, OexG B tl K (He.ga K c) ∧ FnOk P w K mg base CX0 1 (He.ma K (He.ga K c) "__init__") fd ["self", n, m] (spErr2 (He.ga K c) n m) ∧ Binds K fd ["self", n, m] [] ∧
    ∀ (s : Shared) (self : Value) (ws : List Value), ws.length = ([m, n] : List Str).length → BindsTo s fd ⟨[self], ([m, n] : List Str).zip ws⟩ ((["self", n, m] : List Str).zip (self :: (([1, 0] : List Nat).filterMap fun i => ws[i]?)))
  ii : PySem.W.findIn K (.ref (He.ga K c)) "__init__" = some (some (.ref (He.ma K (He.ga K c) "__init__")))
  ti : PySem.W.typeIn K (.ref (He.ma K (He.ga K c) "__init__")) = some (.type "function")
  gl : mg c = some (.ref (He.ga K c))
  xf : XfC K (He.ga K c)
  no : PySem.W.findIn K (.ref (He.ga K c)) n = some none
  nm : PySem.W.findIn K (.ref (He.ga K c)) m = some none
end
/-- the reading: a new error of the class at C with the fields fs -/
def rMk (C : Addr) (fs : List V → Option (List (Str × V))) : List V → Hp → VK → Prop := fun vs H1 Q => ∃ g, fs vs = some g ∧ ∀ a H2, H1 a = none → Same H1 H2 → ErrAt H2 a C g → Q (.ref a) H2
def fs1 (n : Str) : List V → Option (List (Str × V)) | [v] => some [(n, v)] | _ => none
def fs2 (n m : Str) : List V → Option (List (Str × V)) | [u, v] => some [(m, v), (n, u)] | _ => none
def fs2k (n m : Str) : List V → Option (List (Str × V)) | [v, u] => some [(m, v), (n, u)] | _ => none
theorem mk_one {C : Addr} {n : Str} {v : V} {H1 : Hp} {Q : VK} {a : Addr} (ha : H1 a = none) (h : ∀ a H2, H1 a = none → Same H1 H2 → ErrAt H2 a C [(n, v)] → Q (.ref a) H2) :
    spErr C n [.ref a, v] (upd H1 a (exo a C none)) (fun v H2 => v = .non ∧ Q (.ref a) H2) E0 := by
  refine ⟨a, v, rfl, upd_same, fun dx hdx ne => ⟨rfl, h a _ ha (fun b o e => ?_) (.inl ⟨dx, upd_same, ?_⟩)⟩⟩
  · rw [upd_ne ne] at hdx
    rw [upd_ne (ne_of_none e ha), upd_ne (ne_of_none e hdx), upd_ne (ne_of_none e ha)]
    exact e
  · rw [upd_ne ne, upd_same]
theorem mk_two {C : Addr} {n m : Str} {u v : V} {H1 : Hp} {Q : VK} {a : Addr} (ha : H1 a = none) (h : ∀ a H2, H1 a = none → Same H1 H2 → ErrAt H2 a C [(m, v), (n, u)] → Q (.ref a) H2) :
    spErr2 C n m [.ref a, u, v] (upd H1 a (exo a C none)) (fun v H2 => v = .non ∧ Q (.ref a) H2) E0 := by
  refine ⟨a, u, v, rfl, upd_same, fun dx hdx ne => ⟨rfl, h a _ ha (fun b o e => ?_) (.inl ⟨dx, ?_, upd_same⟩)⟩⟩
  · rw [upd_ne ne] at hdx
    rw [upd_ne (ne_of_none e hdx), upd_ne (ne_of_none e ha), upd_ne (ne_of_none e hdx), upd_ne (ne_of_none e ha)]
    exact e
  · rw [upd_ne ne.symm, upd_same]
section
variable {X : Cx} {e : Expr} {es : List Expr} {kws : List Keyword} {ta tk : TA} {p pos : Pos} {c n m : Str} {j : Nat}
theorem pmk1 (D : E1 X.prog X.w X.K X.mg X.base c n) (hr : Room j X.A) (ha : PA X (e :: es) ta) (hj : 2 ≤ j := by decide) (hg : Gl X c := by rfl)
    (hdb : (c == ("__debug__" : Str)) = false := by decide) (he : starEach (e :: es) X.env = (false, eval e X.env) :: starEach es X.env := by rfl) (hpl : (backTo pos (starEach es X.env)).any (·.1) = false := by rfl) :
    PE X (.Call (.Name c p) (e :: es) [] pos) (fun σ H Q => ta σ H fun vs H1 => rMk (He.ga X.K c) (fs1 n) vs H1 Q) := by
  obtain ⟨B, tl, fd, T, F, b, _⟩ := D.ex
  refine pe_mkVW (dvs := []) T D.ii D.ti F hr b .nil hg D.gl ha (fun vs H1 Q h => ?_) hj hdb he hpl
  obtain ⟨g, eg, h⟩ := h
  unfold fs1 at eg
  split at eg
  · cases eg
    exact ⟨(by show 1 ≤ 1000; decide), fun a z => mk_one z h⟩
  · cases eg
theorem pmk1K (D : E1 X.prog X.w X.K X.mg X.base c n) (hr : Room j X.A) (hkw : PK X kws tk) (hj : 2 ≤ j := by decide) (hg : Gl X c := by rfl)
    (hall : (backToKw pos (keywordEach kws X.env)).all (·.1.isSome) = true := by rfl) (hks : (backToKw pos (keywordEach kws X.env)).filterMap (·.1) = [n] := by rfl) (hdb : (c == ("__debug__" : Str)) = false := by decide)
    (hpl : ((backTo pos (starEach [] X.env)).any (·.1) || (backToKw pos (keywordEach kws X.env)).any (·.1.isNone)) = false := by rfl) :
    PE X (.Call (.Name c p) [] kws pos) (fun σ H Q => tk σ H fun vs H1 => rMk (He.ga X.K c) (fs1 n) vs H1 Q) := by
  obtain ⟨B, tl, fd, T, F, _, b⟩ := D.ex
  refine pe_mkK T D.ii D.ti F hr b hg D.gl hkw (fun vs H1 Q h => ?_) hj hall hks hdb hpl
  obtain ⟨g, eg, h⟩ := h
  unfold fs1 at eg
  split at eg
  · cases eg
    exact ⟨rfl, fun a z => mk_one z h⟩
  · cases eg
theorem pmk2 (D : E2 X.prog X.w X.K X.mg X.base c n m) (hr : Room j X.A) (ha : PA X (e :: es) ta) (hj : 2 ≤ j := by decide) (hg : Gl X c := by rfl)
    (hdb : (c == ("__debug__" : Str)) = false := by decide) (he : starEach (e :: es) X.env = (false, eval e X.env) :: starEach es X.env := by rfl) (hpl : (backTo pos (starEach es X.env)).any (·.1) = false := by rfl) :
    PE X (.Call (.Name c p) (e :: es) [] pos) (fun σ H Q => ta σ H fun vs H1 => rMk (He.ga X.K c) (fs2 n m) vs H1 Q) := by
  obtain ⟨B, tl, fd, T, F, b, _⟩ := D.ex
  refine pe_mkVW (dvs := []) T D.ii D.ti F hr b .nil hg D.gl ha (fun vs H1 Q h => ?_) hj hdb he hpl
  obtain ⟨g, eg, h⟩ := h
  unfold fs2 at eg
  split at eg
  · cases eg
    exact ⟨(by show 2 ≤ 1000; decide), fun a z => mk_two z h⟩
  · cases eg
theorem pmk2K (D : E2 X.prog X.w X.K X.mg X.base c n m) (hr : Room j X.A) (hkw : PK X kws tk) (hj : 2 ≤ j := by decide) (hg : Gl X c := by rfl)
    (hall : (backToKw pos (keywordEach kws X.env)).all (·.1.isSome) = true := by rfl) (hks : (backToKw pos (keywordEach kws X.env)).filterMap (·.1) = [m, n] := by rfl) (hdb : (c == ("__debug__" : Str)) = false := by decide)
    (hpl : ((backTo pos (starEach [] X.env)).any (·.1) || (backToKw pos (keywordEach kws X.env)).any (·.1.isNone)) = false := by rfl) :
    PE X (.Call (.Name c p) [] kws pos) (fun σ H Q => tk σ H fun vs H1 => rMk (He.ga X.K c) (fs2k n m) vs H1 Q) := by
  obtain ⟨B, tl, fd, T, F, _, b⟩ := D.ex
  refine pe_mkK T D.ii D.ti F hr b hg D.gl hkw (fun vs H1 Q h => ?_) hj hall hks hdb hpl
  obtain ⟨g, eg, h⟩ := h
  unfold fs2k at eg
  split at eg
  · cases eg
    exact ⟨rfl, fun a z => mk_two z h⟩
  · cases eg
end
end Ex

set_option Elab.async false
set_option linter.all false
set_option maxRecDepth 100000
set_option maxHeartbeats 4000000
namespace K17
open PySem PySem.Spec PyProof.Rows L2 Gu Ex
def top (i : Nat) : Stmt := PySem.Challenge.pw_exactroom_k17_errors_created.main.body.getD i (.Pass ⟨0, 0, 0, 0⟩)
abbrev FnP (K : PySem.W.Frag) (x qual : Str) (st : Stmt) (f : Addr) (fd : FuncData) : Prop := FunD K x qual (defArgs st) (defBody st) (defScope st) [] [] f fd
/-- what the top has left of plain names -/
structure Tx (K : PySem.W.Frag) (mg : Str → Option Value) : Prop where
  n_len : mg "len" = none
  n_isinstance : mg "isinstance" = none
  n_range : mg "range" = none
  n_divmod : mg "divmod" = none
  n_abs : mg "abs" = none
  n_max : mg "max" = none
  n_min : mg "min" = none
  n_enumerate : mg "enumerate" = none
  n_all : mg "all" = none
  n_repr : mg "repr" = none
  n_tuple : mg "tuple" = none
  sys : SysOk K
theorem bT {c : Prop} [Decidable c] (h : c) : V.bl (decide c) = V.bl true := congrArg V.bl (decide_eq_true h)
theorem bF {c : Prop} [Decidable c] (h : ¬ c) : V.bl (decide c) = V.bl false := congrArg V.bl (decide_eq_false h)
theorem ifT {c : Bool} {A B : Prop} (h : c = true) (x : A) : if c = true then A else B := by rw [h]; exact iteT x
theorem ifF {c : Bool} {A B : Prop} (h : c = false) (x : B) : if c = true then A else B := by rw [h]; exact iteF x
theorem vT {a b : Int} (h : a = b) : decide (V.int a = V.int b) = true := decide_eq_true (by rw [h])
theorem vF {a b : Int} (h : a ≠ b) : decide (V.int a = V.int b) = false := decide_eq_false fun z => h (V.int.inj z)
theorem at_map {ns : List Int} {p : Nat} {x : Int} (h : ns[p]? = some x) : atI (ns.map V.int) (p : Int) = some (.int x) := atI_nat (by rw [List.getElem?_map, h]; rfl)
theorem same_upd {H : Hp} {p : Addr} {o : HO} (h : H p = none) : Same H (upd H p o) := fun b x e => by
  rw [upd_ne (ne_of_none e h)]
  exact e
theorem trues_len (i : Nat) : (List.map V.bl (List.replicate i true)).length = i := by simp
theorem trues_more (i : Nat) : List.map V.bl (List.replicate i true) ++ [V.bl true] = List.map V.bl (List.replicate (i + 1) true) := by
  rw [List.replicate_succ', List.map_append]
  rfl
theorem all_trues (i : Nat) : (List.replicate i true).all id = true := by
  rw [List.all_replicate]
  split <;> rfl

theorem at_of {xs : List V} {d : Int} (h0 : 0 ≤ d) (h1 : d < xs.length) : ∃ v, atI xs d = some v ∧ v ∈ xs := by
  obtain ⟨n, rfl⟩ := Int.eq_ofNat_of_zero_le h0
  have hn : n < xs.length := by omega
  exact ⟨xs[n], atI_nat (List.getElem?_eq_getElem hn), List.getElem_mem hn⟩
/-- the drawing list at r -/
def Rng (H : Hp) (r : Addr) : Prop := ∃ a b : Int, H r = some (.lst [.int a, .int b]) ∧ 0 ≤ a ∧ 0 ≤ b ∧ b < 2147483587
/-- only the drawing list at r may have changed -/
def Stp (r : Addr) (H H' : Hp) : Prop := Rng H' r ∧ ∀ b o, b ≠ r → H b = some o → H' b = some o
theorem Stp.trans {r : Addr} {H H1 H2 : Hp} (a : Stp r H H1) (b : Stp r H1 H2) : Stp r H H2 := ⟨b.1, fun c o n e => b.2 c o n (a.2 c o n e)⟩
theorem Stp.refl {r : Addr} {H : Hp} (h : Rng H r) : Stp r H H := ⟨h, fun _ _ _ e => e⟩
/-- the ways of a choice come together: what holds of every value -/
theorem join {α : Type} {G : Prop} (Pc : α → Prop) {R : α → Prop} (h1 : (∀ c, Pc c → R c) → G) (h2 : ∀ c, Pc c → R c) : G := h1 h2
theorem Rng.ne {H : Hp} {r p : Addr} (h : Rng H r) (hp : H p = none) : r ≠ p := fun z => by
  obtain ⟨_, _, e, _⟩ := h
  rw [z, hp] at e
  cases e
theorem Stp.new {r p : Addr} {H H1 : Hp} {o : HO} (a : Stp r H H1) (hp : H1 p = none) : Stp r H (upd H1 p o) := by
  obtain ⟨⟨x, y, e, z⟩, k⟩ := a
  refine ⟨⟨x, y, ?_, z⟩, fun b u n e2 => ?_⟩
  · rw [upd_ne (ne_of_none e hp)]
    exact e
  · rw [upd_ne (ne_of_none (k b u n e2) hp)]
    exact k b u n e2
theorem Stp.free {r p : Addr} {H H1 : Hp} (a : Stp r H H1) (h : H1 p = none) : H p = none := by
  cases e : H p with
  | none => rfl
  | some o =>
    have n : p ≠ r := fun z => (a.1.ne h) z.symm
    rw [a.2 p o n e] at h
    cases h
section
variable {P : Program} {w : World} {K : PySem.W.Frag} {mg : Str → Option Value} {base : Heap} {f : Addr} {fd : FuncData}
def spRng (K : PySem.W.Frag) : Sp := fun vs H Q _ => ∃ (a : Addr) (ns : List Int) (k : Nat), vs = [.ref a, .int k] ∧ SqL K H a (ns.map V.int) ∧ k ≤ 63 ∧ ∀ p H', H p = none → Same H H' → Rng H' p → Q (.ref p) H'
theorem sc__law_rng : FnScope ["_law_script", "_law_k", "_law_cell"] ["_law_script", "_law_k"] (defScope (top 30)) := ⟨rfl, rfl, rfl, by decide +kernel, rfl, by decide +kernel, by decide +kernel⟩
theorem ok_rng (T : Tx K mg) (F : FnP K "_law_rng" "_law_rng" (top 30) f fd) : FnOk P w K mg base CX0 1 f fd ["_law_script", "_law_k"] (spRng K) := by
  refine F.ok sc__law_rng (fun vs H Q E h => ?_) (fun cdv A outer s H vs Q E hr h => ⟨_, PSs.nox (pss_cons (ps_set (i := 2) sc__law_rng.nd rfl (by first | exact Or.inl rfl | exact Or.inr rfl) (pe_ifExp (pt_cmpR op_lt (pv 1) (pe_callB call_len_seq (by rfl) T.n_len (by decide +kernel) (pa_cons (pv 0) pa_nil)) (nomark _)) (pe_callB call_abs (by rfl) T.n_abs (by decide +kernel) (pa_cons (pe_ix ix_list (pv 0) (pv 1) (fun _ _ => rfl)) pa_nil)) pe_int)) (pss_one (ps_ret (pe_lst (pa_cons (pe_callB (call_max2 rfl) (by rfl) T.n_max (by decide +kernel) (pa_cons pe_int (pa_cons (pe_op op_sub (pv 2) (pe_op op_pow pe_int pe_int)) pa_nil))) (pa_cons (pe_op op_add (pe_op op_mod (pe_op op_pow (pe_op op_add (pe_op op_add (pe_op op_mod (pv 2) pe_int) (pe_op op_mul pe_int (pv 1))) pe_int) pe_int) pe_int) pe_int) pa_nil)))))), ?_⟩)
  · obtain ⟨a, ns, k, rfl, _⟩ := h
    rfl
  · obtain ⟨a, ns, k, rfl, hS, hk, q⟩ := h
    refine join (fun c : Int => 0 ≤ c) (R := ?R) (fun tail => ?main) ?tl
    case main =>
      refine ⟨_, rfl, _, rfl, a, _, rfl, .inl hS, _, _, rfl, rfl, _, rfl, ?_⟩
      by_cases hl : (k : Int) < (((ns.map V.int).length : Nat) : Int)
      · have hk2 : k < ns.length := by rw [List.length_map] at hl; omega
        refine ifT (decide_eq_true hl) ?_
        refine ⟨_, rfl, _, rfl, a, _, _, _, rfl, rfl, hS, at_map (List.getElem?_eq_getElem hk2), _, rfl, ?_⟩
        obtain ⟨c, hc, ec⟩ : ∃ c : Int, 0 ≤ c ∧ (if ns[k] < 0 then -ns[k] else ns[k]) = c := ⟨if ns[k] < 0 then -ns[k] else ns[k], by split <;> omega, rfl⟩
        rw [ec]
        exact tail c hc
      · refine ifF (decide_eq_false hl) ?_
        exact tail 0 (by decide)
    case tl =>
      intro c hc
      have c0 := Int.emod_nonneg c (show (2147483543 : Int) ≠ 0 by decide)
      have c1 := Int.emod_lt_of_pos c (show (0 : Int) < 2147483543 by decide)
      refine ⟨_, rfl, _, _, rfl, rfl, ⟨by decide, by decide, by decide⟩, _, _, rfl, rfl, _, _, rfl, ?_⟩
      refine ⟨_, rfl, _, _, rfl, rfl, (by show (0 : Int) < 2147483543; decide), _, rfl, _, _, rfl, rfl, .inl ⟨by decide, by decide⟩, _, _, rfl, rfl, _, _, rfl, rfl, _, _, rfl, rfl, ⟨by decide, by decide, by omega⟩, _, _, rfl, rfl, (by show (0 : Int) < 2147483497; decide), _, _, rfl, rfl, ?_⟩
      refine ⟨(by show 2 ≤ sizeLine; decide), fun p hp => q p _ hp (fun b o e => by rw [upd_ne (ne_of_none e hp)]; exact e) ⟨_, _, upd_same, ?_, ?_, ?_⟩⟩
      · split <;> omega
      · have := Int.emod_nonneg ((c % 2147483543 + 101 * (k : Int) + 7) ^ (2 : Int).toNat) (show (2147483497 : Int) ≠ 0 by decide)
        omega
      · have := Int.emod_lt_of_pos ((c % 2147483543 + 101 * (k : Int) + 7) ^ (2 : Int).toNat) (show (0 : Int) < 2147483497 by decide)
        omega
def spDraw : Sp := fun vs H Q _ => ∃ (r : Addr) (m : Int), vs = [.ref r, .int m] ∧ Rng H r ∧ 1 ≤ m ∧ m ≤ 10 ^ 40 ∧ ∀ d H', 0 ≤ d → d < m → Stp r H H' → Q (.int d) H'
theorem sc__law_draw : FnScope ["_law_rng_here", "_law_many", "_law_mixed", "_law_digit"] ["_law_rng_here", "_law_many"] (defScope (top 31)) := ⟨rfl, rfl, rfl, by decide +kernel, rfl, by decide +kernel, by decide +kernel⟩
theorem ok_draw (T : Tx K mg) (F : FnP K "_law_draw" "_law_draw" (top 31) f fd) : FnOk P w K mg base CX0 1 f fd ["_law_rng_here", "_law_many"] spDraw := by
  refine F.ok sc__law_draw (fun vs H Q E h => ?_) (fun cdv A outer s H vs Q E hr h => ⟨_, PSs.nox (pss_cons (ps_if (pt_cmpR op_gt (pe_ix ix_list (pv 0) pe_int (fun _ _ => rfl)) pe_int (nomark _)) (pss_cons (ps_asg (pe_callB call_divmodW (by rfl) T.n_divmod (by decide +kernel) (pa_cons (pe_ix ix_list (pv 0) pe_int (fun _ _ => rfl)) (pa_cons (pv 1) pa_nil))) (pg_tup (by rfl) (pgs_cons (pg_sub (pv 0) pe_int set_list) (pgs_cons (pg_name (i := 3) sc__law_draw.nd rfl (by first | exact Or.inl rfl | exact Or.inr rfl)) pgs_nil)))) (pss_one (ps_ret (pv 3)))) pss_nil) (pss_cons (ps_asg (pe_op op_mod (pe_op op_add (pe_op op_mul (pe_ix ix_list (pv 0) pe_int (fun _ _ => rfl)) pe_int) pe_int) pe_int) (pg_sub (pv 0) pe_int set_list)) (pss_cons (ps_set (i := 2) sc__law_draw.nd rfl (by first | exact Or.inl rfl | exact Or.inr rfl) (pe_op op_fdivW (pe_op op_mod (pe_op op_mul (pe_ix ix_list (pv 0) pe_int (fun _ _ => rfl)) (pe_ix ix_list (pv 0) pe_int (fun _ _ => rfl))) pe_int) pe_int)) (pss_one (ps_ret (pe_ifExp (pt_cmpR op_lt (pv 1) (pe_op op_pow pe_int pe_int) (nomark _)) (pe_op op_mod (pv 2) (pv 1)) (pe_op op_mod (pe_op op_mul (pe_op op_add (pe_op op_mul (pv 2) pe_int) (pe_ix ix_list (pv 0) pe_int (fun _ _ => rfl))) pe_int) (pv 1)))))))), ?_⟩)
  · obtain ⟨r, m, rfl, _⟩ := h
    rfl
  · obtain ⟨r, m, rfl, ⟨a, b, hR, ha, hb, hb2⟩, m1, m2, q⟩ := h
    have mb : m.natAbs < 2 ^ 200 := by
      have : (10 : Int) ^ 40 < 2 ^ 200 := by decide
      have e : ((2 : Nat) ^ 200 : Nat) = ((2 : Int) ^ 200).natAbs := by decide
      omega
    refine ⟨_, rfl, r, _, _, _, rfl, rfl, SqL.of hR, rfl, _, _, rfl, rfl, _, rfl, ?_⟩
    by_cases h0 : 0 < a
    · refine ifT (decide_eq_true h0) ?_
      refine ⟨_, rfl, r, _, _, _, rfl, rfl, SqL.of hR, rfl, _, rfl, _, _, rfl, ⟨by omega, PyProof.noPylong_of_log2 (Nat.lt_of_lt_of_le (PySem.Flt.log2_lt_of (by decide) mb) (by decide))⟩, fun p hp => ?_⟩
      have nrp : r ≠ p := ne_of_none hR hp
      have hR2 : (upd H p (.tup [.int (a / m), .int (a % m)])) r = some (.lst [.int a, .int b]) := by rw [upd_ne nrp]; exact hR
      refine ⟨p, _, rfl, .inl (.inl upd_same), rfl, _, _, rfl, _, rfl, r, _, _, 0, rfl, rfl, hR2, rfl, _, _, rfl, rfl, ?_⟩
      refine ⟨_, rfl, q _ _ (Int.emod_nonneg _ (by omega)) (Int.emod_lt_of_pos _ (by omega)) ⟨⟨a / m, b, upd_same, Int.ediv_nonneg (by omega) (by omega), hb, hb2⟩, fun c o n e => ?_⟩⟩
      rw [upd_ne n, upd_ne (ne_of_none e hp)]
      exact e
    · refine ifF (decide_eq_false h0) ?_
      have b0 := Int.emod_nonneg (b * 48271 + 10007) (show (2147483587 : Int) ≠ 0 by decide)
      have b1 := Int.emod_lt_of_pos (b * 48271 + 10007) (show (0 : Int) < 2147483587 by decide)
      refine ⟨_, rfl, r, _, _, _, rfl, rfl, SqL.of hR, rfl, _, _, rfl, rfl, .inr ⟨by decide, by decide⟩, _, _, rfl, rfl, _, _, rfl, rfl, (by show (0 : Int) < 2147483587; decide), _, rfl, r, _, _, 1, rfl, rfl, hR, rfl, ?_⟩
      dsimp only
      generalize hB : (b * 48271 + 10007) % 2147483587 = B at *
      have hR2 : (upd H r (.lst [.int a, .int B])) r = some (.lst [.int a, .int B]) := upd_same
      have st : Stp r H (upd H r (.lst [.int a, .int B])) := ⟨⟨a, B, upd_same, ha, b0, b1⟩, fun c o n e => by rw [upd_ne n]; exact e⟩
      refine ⟨_, rfl, r, _, _, _, rfl, rfl, SqL.of hR2, rfl, _, rfl, r, _, _, _, rfl, rfl, SqL.of hR2, rfl, _, _, rfl, rfl, .inl ⟨by omega, by omega⟩, _, _, rfl, rfl, (by show (0 : Int) < 2147483549; decide), _, _, rfl, rfl, wide_div (b := 64) (by decide) (by decide) (by decide) (by decide), ?_⟩
      refine ⟨_, rfl, _, _, rfl, rfl, ⟨by decide, by decide, by decide⟩, _, _, rfl, rfl, _, rfl, ite2 (fun _ => ?_) (fun _ => ?_)⟩
      · exact ⟨_, rfl, _, rfl, _, _, rfl, rfl, (by show (0 : Int) < m; omega), q _ _ (Int.emod_nonneg _ (by omega)) (Int.emod_lt_of_pos _ (by omega)) st⟩
      · refine ⟨_, rfl, _, _, rfl, rfl, .inr ⟨by decide, by decide⟩, _, rfl, r, _, _, _, rfl, rfl, SqL.of hR2, rfl, _, _, rfl, rfl, _, _, rfl, rfl, .inr ⟨by decide, by decide⟩, _, rfl, _, _, rfl, rfl, (by show (0 : Int) < m; omega), ?_⟩
        exact q _ _ (Int.emod_nonneg _ (by omega)) (Int.emod_lt_of_pos _ (by omega)) st
def spChoice : Sp := fun vs H Q _ => ∃ (r o : Addr) (xs : List V), vs = [.ref r, .ref o] ∧ Rng H r ∧ H o = some (.lst xs) ∧ o ≠ r ∧ 1 ≤ xs.length ∧ xs.length ≤ 1000 ∧ ∀ v H', v ∈ xs → Stp r H H' → Q v H'
theorem sc__law_choice : FnScope ["_law_rng_here", "_law_options"] ["_law_rng_here", "_law_options"] (defScope (top 32)) := ⟨rfl, rfl, rfl, by decide +kernel, rfl, by decide +kernel, by decide +kernel⟩
theorem ok_choice (T : Tx K mg) (D__law_draw : Df P w K mg base 1 "_law_draw" ["_law_rng_here", "_law_many"] spDraw) (F : FnP K "_law_choice" "_law_choice" (top 32) f fd) : FnOk P w K mg base CX0 2 f fd ["_law_rng_here", "_law_options"] spChoice := by
  refine F.ok sc__law_choice (fun vs H Q E h => ?_) (fun cdv A outer s H vs Q E hr h => ⟨_, PSs.nox (pss_one (ps_ret (pe_ix ix_list (pv 1) (pcall D__law_draw hr (pa_cons (pv 0) (pa_cons (pe_callB call_len_seq (by rfl) T.n_len (by decide +kernel) (pa_cons (pv 1) pa_nil)) pa_nil))) (fun _ _ => rfl)))), ?_⟩)
  · obtain ⟨r, o, xs, rfl, _⟩ := h
    rfl
  · obtain ⟨r, o, xs, rfl, hR, hO, ne, l1, l2, q⟩ := h
    refine ⟨_, rfl, _, rfl, _, rfl, o, _, rfl, .inl (SqL.of hO), r, _, rfl, hR, by omega, ?_, fun d H1 d0 d1 st => ?_⟩
    · have : (1000 : Int) ≤ 10 ^ 40 := by decide
      omega
    · obtain ⟨v, hv, hm⟩ := at_of d0 d1
      exact ⟨o, _, _, v, rfl, rfl, SqL.of (st.2 o _ ne hO), hv, q v H1 hm st⟩
end
end K17

set_option Elab.async false
set_option linter.all false
set_option maxRecDepth 100000
set_option maxHeartbeats 4000000
namespace K17
open PySem PySem.Spec PyProof.Rows L2 Gu Ex
def firsts : List Str := ["InvalidSizes", "InvalidLevel", "InvalidNumber", "InvalidNumbers", "InvalidAddress", "InvalidName", "InvalidIndex", "InvalidValue", "InvalidMoves", "InvalidCount", "InvalidRequests", "InvalidProgram", "InvalidText", "InvalidCommand", "InvalidOperation"]
def lasts : List Str := ["UnknownBlock", "UnknownName", "UnknownTask", "UnknownTime", "Occupied", "NameTaken", "Pinned", "NotPinned", "NoReservation", "NotReady", "NoRoom", "TooManyPieces"]
/-- the errors' names, the built-in bases -/
structure Te (K : PySem.W.Frag) (mg : Str → Option Value) : Prop where
  g : ∀ c : Str, ((firsts ++ lasts).contains c || c == ("RoomError" : Str)) = true → mg c = some (.ref (He.ga K c))
  n_ValueError : mg "ValueError" = none
  n_LookupError : mg "LookupError" = none
  n_RuntimeError : mg "RuntimeError" = none
  n_ArithmeticError : mg "ArithmeticError" = none
/-- what isinstance tells of an error of the class at C, by name c, over the base b -/
structure Kt (K : PySem.W.Frag) (C : Addr) (c : Str) (b : Nat) : Prop where
  ex : ExcC K C
  own : ∀ d : Str, (firsts ++ lasts).contains d = true → PySem.W.kitOne K (.ref C) (.ref (He.ga K d)) = some (c == d)
  b0 : PySem.W.kitOne K (.ref C) (.ref (He.ga K "RoomError")) = some (b == 0)
  b1 : PySem.W.kitOne K (.ref C) (.type "LookupError") = some (b == 1)
  b2 : PySem.W.kitOne K (.ref C) (.type "RuntimeError") = some (b == 2)
  b3 : PySem.W.kitOne K (.ref C) (.type "ArithmeticError") = some (b == 3)
  bv : PySem.W.kitOne K (.ref C) (.type "ValueError") = some (b == 0)
  lt : b < 4
theorem errAt_same {H H' : Hp} {a C : Addr} {fs : List (Str × V)} (h : ErrAt H a C fs) (s : Same H H') : ErrAt H' a C fs := by
  rcases h with ⟨dx, h1, h2⟩ | ⟨e, h1⟩
  · exact .inl ⟨dx, s _ _ h1, s _ _ h2⟩
  · exact .inr ⟨e, s _ _ h1⟩
section
variable {P : Program} {w : World} {K : PySem.W.Frag} {mg : Str → Option Value} {base : Heap} {f : Addr} {fd : FuncData}
def spBase (K : PySem.W.Frag) : Sp := fun vs H Q _ => ∃ (a C : Addr) (fs : List (Str × V)) (c : Str) (b : Nat), vs = [.ref a] ∧ ErrAt H a C fs ∧ Kt K C c b ∧ ∀ H', Same H H' → Q (.int b) H'
theorem sc__law_base : FnScope ["_law_e", "_law_kinds"] ["_law_e"] (defScope (top 33)) := ⟨rfl, rfl, rfl, by decide +kernel, rfl, by decide +kernel, by decide +kernel⟩
theorem ok_base (T : Tx K mg) (T2 : Te K mg) (F : FnP K "_law_base" "_law_base" (top 33) f fd) : FnOk P w K mg base CX0 1 f fd ["_law_e"] (spBase K) := by
  refine F.ok sc__law_base (fun vs H Q E h => ?_) (fun cdv A outer s H vs Q E hr h => ⟨_, PSs.nox (pss_cons (ps_set (i := 1) sc__law_base.nd rfl (by first | exact Or.inl rfl | exact Or.inr rfl) (pe_lst (pa_cons (pe_callB call_errI (by rfl) T.n_isinstance (by decide +kernel) (pa_cons (pv 0) (pa_cons (pe_glob (v := .ref _) rfl (T2.g "RoomError" (by decide)) rfl) pa_nil))) (pa_cons (pe_callB call_errI (by rfl) T.n_isinstance (by decide +kernel) (pa_cons (pv 0) (pa_cons (pe_bltn (v := .ty "LookupError") (by rfl) T2.n_LookupError (by decide +kernel) rfl) pa_nil))) (pa_cons (pe_callB call_errI (by rfl) T.n_isinstance (by decide +kernel) (pa_cons (pv 0) (pa_cons (pe_bltn (v := .ty "RuntimeError") (by rfl) T2.n_RuntimeError (by decide +kernel) rfl) pa_nil))) pa_nil))))) (pss_cons (ps_expr (pe_bm PySem.F.plainAttrs_list PySem.F.slot_list_append PySem.F.type_list_append mt_append (pv 1) (pa_cons (pe_callB call_errI (by rfl) T.n_isinstance (by decide +kernel) (pa_cons (pv 0) (pa_cons (pe_bltn (v := .ty "ArithmeticError") (by rfl) T2.n_ArithmeticError (by decide +kernel) rfl) pa_nil))) pa_nil))) (pss_one (ps_ret (pe_ifExp (PW.pt (pw_and (pt_cmpR op_eq (pe_bm PySem.F.plainAttrs_list PySem.F.slot_list_count PySem.F.type_list_count mt_countL (pv 1) (pa_cons pe_bl pa_nil)) pe_int (nomark _)) (pw_and1 (pt_cmpR op_eq (pe_ix ix_list (pv 1) pe_int (fun _ _ => rfl)) (pe_callB call_errI (by rfl) T.n_isinstance (by decide +kernel) (pa_cons (pv 0) (pa_cons (pe_bltn (v := .ty "ValueError") (by rfl) T2.n_ValueError (by decide +kernel) rfl) pa_nil))) (nomark _))))) (pe_bm PySem.F.plainAttrs_list PySem.F.slot_list_index PySem.F.type_list_index mt_index (pv 1) (pa_cons pe_bl pa_nil)) pe_non))))), ?_⟩)
  · obtain ⟨a, C, fs, c, b, rfl, _⟩ := h
    rfl
  · obtain ⟨a, C, fs, c, b, rfl, ea, k, q⟩ := h
    refine ⟨_, rfl, a, C, fs, _, _, _, rfl, k.ex, ea, .own _, k.b0, ?_⟩
    refine ⟨_, rfl, a, C, fs, _, _, _, rfl, k.ex, ea, .ty _, k.b1, ?_⟩
    refine ⟨_, rfl, a, C, fs, _, _, _, rfl, k.ex, ea, .ty _, k.b2, (by show 3 ≤ sizeLine; decide), fun l hl => ?_⟩
    have s1 := same_upd (o := .lst [.bl (b == 0), .bl (b == 1), .bl (b == 2)]) hl
    have h1 : (upd H l (.lst [.bl (b == 0), .bl (b == 1), .bl (b == 2)])) l = some (.lst [.bl (b == 0), .bl (b == 1), .bl (b == 2)]) := upd_same
    have e1 := errAt_same ea s1
    generalize upd H l (.lst [.bl (b == 0), .bl (b == 1), .bl (b == 2)]) = H1 at s1 h1 e1
    refine ⟨_, rfl, .inl ⟨rfl, _, SqL.of h1⟩, _, rfl, a, C, fs, _, _, _, rfl, k.ex, e1, .ty _, k.b3, l, _, _, rfl, rfl, h1, (by show 3 < sizeLine; decide), ?_⟩
    have s2 : Same H (upd H1 l (.lst ([.bl (b == 0), .bl (b == 1), .bl (b == 2)] ++ [.bl (b == 3)]))) := fun x o e => by
      rw [upd_ne (ne_of_none e hl)]
      exact s1 x o e
    have h2 : (upd H1 l (.lst ([.bl (b == 0), .bl (b == 1), .bl (b == 2)] ++ [.bl (b == 3)]))) l = some (.lst [.bl (b == 0), .bl (b == 1), .bl (b == 2), .bl (b == 3)]) := upd_same
    have e2 := errAt_same ea s2
    generalize upd H1 l (.lst ([.bl (b == 0), .bl (b == 1), .bl (b == 2)] ++ [.bl (b == 3)])) = H2 at s2 h2 e2
    have b4 : b = 0 ∨ b = 1 ∨ b = 2 ∨ b = 3 := by
      have := k.lt
      omega
    have cnt : List.countP (fun z => eqV z (.bl true)) [V.bl (b == 0), .bl (b == 1), .bl (b == 2), .bl (b == 3)] = 1 := by
      rcases b4 with rfl | rfl | rfl | rfl <;> decide
    have get : [V.bl (b == 0), V.bl (b == 1), V.bl (b == 2), V.bl (b == 3)][b]? = some (.bl true) := by
      rcases b4 with rfl | rfl | rfl | rfl <;> rfl
    have bef : ∀ (m : Nat) (z : V), m < b → [V.bl (b == 0), V.bl (b == 1), V.bl (b == 2), V.bl (b == 3)][m]? = some z → eqV z (.bl true) = false := by
      intro m z hm hz
      rcases b4 with rfl | rfl | rfl | rfl
      · omega
      · obtain rfl : m = 0 := by omega
        cases hz
        rfl
      · rcases (show m = 0 ∨ m = 1 by omega) with rfl | rfl <;> cases hz <;> rfl
      · rcases (show m = 0 ∨ m = 1 ∨ m = 2 by omega) with rfl | rfl | rfl <;> cases hz <;> rfl
    refine ⟨_, rfl, .inl ⟨rfl, _, SqL.of h2⟩, l, _, _, rfl, rfl, SqL.of h2, rfl, rfl, rfl, _, rfl, ifT (by rw [cnt]; exact decide_eq_true rfl) ?_⟩
    refine ⟨_, rfl, l, _, _, _, rfl, rfl, SqL.of h2, rfl, _, rfl, a, C, fs, _, _, _, rfl, k.ex, e2, .ty _, k.bv, rfl, _, rfl, ifT (decide_eq_true rfl) ?_⟩
    exact ⟨_, rfl, .inl ⟨rfl, _, SqL.of h2⟩, l, _, _, b, .bl true, rfl, rfl, SqL.of h2, rfl, rfl, get, rfl, bef, q H2 s2⟩
end
end K17

set_option Elab.async false
set_option linter.all false
set_option maxRecDepth 100000
set_option maxHeartbeats 4000000
namespace K17
open PySem PySem.Spec PyProof.Rows L2 Gu Ex
inductive Refs {α : Type} (f : α → List V) (H : Hp) : List Addr → List α → Prop
  | nil : Refs f H [] []
  | cons {p : Addr} {ps : List Addr} {t : α} {ts : List α} : H p = some (.tup (f t)) → Refs f H ps ts → Refs f H (p :: ps) (t :: ts)
section
variable {α : Type} {f : α → List V} {H H' : Hp} {ps qs : List Addr} {ts us : List α}
theorem Refs.mono (h : Refs f H ps ts) (k : ∀ p xs, H p = some (.tup xs) → H' p = some (.tup xs)) : Refs f H' ps ts := by
  induction h with
  | nil => exact .nil
  | cons a _ ih => exact .cons (k _ _ a) ih
theorem Refs.same (h : Refs f H ps ts) (k : Same H H') : Refs f H' ps ts := h.mono fun p xs e => k p _ e
theorem Refs.app (h : Refs f H ps ts) (h2 : Refs f H qs us) : Refs f H (ps ++ qs) (ts ++ us) := by
  induction h with
  | nil => exact h2
  | cons b _ ih => exact .cons b ih
theorem Refs.one {p : Addr} {t : α} (h : H p = some (.tup (f t))) : Refs f H [p] [t] := .cons h .nil
theorem Refs.len (h : Refs f H ps ts) : ps.length = ts.length := by
  induction h with
  | nil => rfl
  | cons _ _ ih => rw [List.length_cons, List.length_cons, ih]
theorem Refs.get (h : Refs f H ps ts) : ∀ {i : Nat} {p : Addr}, ps[i]? = some p → ∃ t, ts[i]? = some t ∧ H p = some (.tup (f t)) := by
  induction h with
  | nil => intro i p e; cases e
  | cons a _ ih =>
    intro i p e
    cases i with
    | zero =>
      cases e
      exact ⟨_, rfl, a⟩
    | succ i => exact ih e
theorem Refs.at_ (h : Refs f H ps ts) {i : Nat} {t : α} (ht : ts[i]? = some t) : ∃ p, ps[i]? = some p ∧ H p = some (.tup (f t)) := by
  have hi : i < ts.length := (List.getElem?_eq_some_iff.mp ht).1
  have hi2 : i < ps.length := by rw [h.len]; exact hi
  obtain ⟨u, e1, e2⟩ := h.get (List.getElem?_eq_getElem hi2)
  rw [ht] at e1
  cases e1
  exact ⟨_, List.getElem?_eq_getElem hi2, e2⟩
theorem Refs.take (h : Refs f H ps ts) : ∀ n, Refs f H (ps.take n) (ts.take n) := by
  induction h with
  | nil => intro n; simp; exact .nil
  | cons a _ ih =>
    intro n
    cases n with
    | zero => exact .nil
    | succ n => exact .cons a (ih n)
theorem Refs.drop (h : Refs f H ps ts) : ∀ n, Refs f H (ps.drop n) (ts.drop n) := by
  induction h with
  | nil => intro n; simp; exact .nil
  | cons a b ih =>
    intro n
    cases n with
    | zero => exact .cons a b
    | succ n => exact ih n
theorem Refs.map_at {i : Nat} {p : Addr} (h : ps[i]? = some p) : atI (ps.map V.ref) (i : Int) = some (.ref p) := atI_nat (by rw [List.getElem?_map, h]; rfl)
end
theorem take_at {α : Type} {rs : List α} {i : Nat} {t : α} (h : rs[i]? = some t) : rs.take (i + 1) = rs.take i ++ [t] := by
  rw [List.take_add_one, h]
  rfl
theorem ref_of {ps : List Addr} {i : Nat} {x : V} (h : (ps.map V.ref)[i]? = some x) : ∃ p, ps[i]? = some p ∧ x = .ref p := by
  rw [List.getElem?_map] at h
  cases e : ps[i]? with
  | none => rw [e] at h; cases h
  | some p =>
    rw [e] at h
    exact ⟨p, rfl, (Option.some.inj h).symm⟩
def prW (p : Str × Bool) : List V := [.str p.1, .bl p.2]
/-- the pairs so far, at l -/
structure Sx (H G : Hp) (a C : Addr) (fs : List (Str × V)) (l : Addr) (ps : List Addr) (done : List (Str × Bool)) : Prop where
  sm : Same H G
  er : ErrAt G a C fs
  hl : G l = some (.lst (ps.map V.ref))
  rf : Refs prW G ps done
  fr : H l = none
theorem Sx.same {H G G' : Hp} {a C l : Addr} {fs : List (Str × V)} {ps : List Addr} {done : List (Str × Bool)} (x : Sx H G a C fs l ps done) (s : Same G G') : Sx H G' a C fs l ps done := ⟨x.sm.trans s, errAt_same x.er s, s _ _ x.hl, x.rf.same s, x.fr⟩
section
variable {H G : Hp} {a C l : Addr} {fs : List (Str × V)} {ps : List Addr} {done : List (Str × Bool)}
theorem Sx.push (x : Sx H G a C fs l ps done) {t : Addr} {d : Str × Bool} (ht : G t = none) : Sx H (upd (upd G t (.tup (prW d))) l (.lst (ps.map V.ref ++ [.ref t]))) a C fs l (ps ++ [t]) (done ++ [d]) := by
  have nl : l ≠ t := ne_of_none x.hl ht
  have sm : Same H (upd (upd G t (.tup (prW d))) l (.lst (ps.map V.ref ++ [.ref t]))) := fun b o e => by
    rw [upd_ne (ne_of_none e x.fr), upd_ne (ne_of_none (x.sm b o e) ht)]
    exact x.sm b o e
  have kp : ∀ c o, c ≠ l → G c = some o → (upd (upd G t (.tup (prW d))) l (.lst (ps.map V.ref ++ [.ref t]))) c = some o := fun c o n e => by
    rw [upd_ne n, upd_ne (ne_of_none e ht)]
    exact e
  have er : ErrAt (upd (upd G t (.tup (prW d))) l (.lst (ps.map V.ref ++ [.ref t]))) a C fs := by
    rcases x.er with ⟨dx, h1, h2⟩ | ⟨e, h1⟩
    · exact .inl ⟨dx, kp _ _ (ne_of h1 x.hl (fun z => by cases z)) h1, kp _ _ (ne_of h2 x.hl (fun z => by cases z)) h2⟩
    · exact .inr ⟨e, kp _ _ (ne_of h1 x.hl (fun z => by cases z)) h1⟩
  refine ⟨sm, er, ?_, ?_, x.fr⟩
  · rw [upd_same, List.map_append]
    rfl
  · refine (x.rf.mono fun c xs e => kp c _ (fun z => ?_) e).app (.one ?_)
    · rw [z, x.hl] at e
      cases e
    · rw [upd_ne nl.symm, upd_same]
theorem Sx.two (x : Sx H G a C fs l ps done) {t1 t2 m R : Addr} {d1 d2 : Str × Bool} (h1 : G t1 = none) (h2 : (upd G t1 (.tup (prW d1))) t2 = none) (h3 : (upd (upd G t1 (.tup (prW d1))) t2 (.tup (prW d2))) m = none)
    (h4 : (upd (upd (upd G t1 (.tup (prW d1))) t2 (.tup (prW d2))) m (.lst [.ref t1, .ref t2])) R = none) :
    Sx H (upd (upd (upd (upd G t1 (.tup (prW d1))) t2 (.tup (prW d2))) m (.lst [.ref t1, .ref t2])) R (.lst (ps.map V.ref ++ [.ref t1, .ref t2]))) a C fs R (ps ++ [t1, t2]) (done ++ [d1, d2]) := by
  have s1 := same_upd (o := .tup (prW d1)) h1
  have s2 := same_upd (o := .tup (prW d2)) h2
  have s3 := same_upd (o := .lst [.ref t1, .ref t2]) h3
  have s4 := same_upd (o := .lst (ps.map V.ref ++ [.ref t1, .ref t2])) h4
  have s := ((s1.trans s2).trans s3).trans s4
  refine ⟨x.sm.trans s, errAt_same x.er s, ?_, (x.rf.same s).app (.cons (s4 _ _ (s3 _ _ (s2 _ _ upd_same))) (.cons (s4 _ _ (s3 _ _ upd_same)) .nil)), x.sm.free (s1.free (s2.free (s3.free h4)))⟩
  rw [upd_same, List.map_append]
  rfl
end
theorem words_of (c : Str) : ∀ ws : List Str, ((ws.map fun d => (d, c == d)).filter fun p => p.2).map (fun p => V.str p.1) = (ws.filter fun d => c == d).map V.str
  | [] => rfl
  | d :: r => by
    have ih := words_of c r
    rw [List.map_cons]
    cases e : (c == d) with
    | true =>
      rw [List.filter_cons_of_pos (p := fun p : Str × Bool => p.2) rfl, List.filter_cons_of_pos (p := fun d => c == d) e, List.map_cons, List.map_cons, ih]
    | false =>
      rw [List.filter_cons_of_neg (p := fun p : Str × Bool => p.2) (by exact Bool.false_ne_true), List.filter_cons_of_neg (p := fun d => c == d) (by rw [e]; exact Bool.false_ne_true), ih]
theorem filter_atW {bs : List (Str × Bool)} {i : Nat} {b : Str × Bool} (h : bs[i]? = some b) : (bs.take (i + 1)).filter (fun p => p.2) = (bs.take i).filter (fun p => p.2) ++ (if b.2 = true then [b] else []) := by
  rw [take_at h, List.filter_append]
  cases e : b.2 <;> simp [List.filter, e]
section
variable {P : Program} {w : World} {K : PySem.W.Frag} {mg : Str → Option Value} {base : Heap} {f : Addr} {fd : FuncData}
def spWords (K : PySem.W.Frag) (ws : List Str) : Sp := fun vs H Q _ => ∃ (a C : Addr) (fs : List (Str × V)) (c : Str) (b : Nat), vs = [.ref a] ∧ ErrAt H a C fs ∧ Kt K C c b ∧ ∀ l H', H l = none → Same H H' → H' l = some (.lst ((ws.filter fun d => c == d).map V.str)) → Q (.ref l) H'
theorem sc__law_first_words : FnScope ["_law_e", "_law_pairs", "_law_word", "_law_is_so"] ["_law_e"] (defScope (top 34)) := ⟨rfl, rfl, rfl, by decide +kernel, rfl, by decide +kernel, by decide +kernel⟩
theorem ok_law_first_words (T : Tx K mg) (T2 : Te K mg) (F : FnP K "_law_first_words" "_law_first_words" (top 34) f fd) : FnOk P w K mg base CX0 1 f fd ["_law_e"] (spWords K firsts) := by
  refine F.ok sc__law_first_words (fun vs H Q E h => ?_) (fun cdv A outer s H vs Q E hr h => ⟨_, PSs.nox (pss_cons (ps_set (i := 1) sc__law_first_words.nd rfl (by first | exact Or.inl rfl | exact Or.inr rfl) (pe_lst (pa_cons (pe_tup (pa_cons pe_str (pa_cons (pe_callB call_errI (by rfl) T.n_isinstance (by decide +kernel) (pa_cons (pv 0) (pa_cons (pe_glob (v := .ref _) rfl (T2.g "InvalidSizes" (by decide)) rfl) pa_nil))) pa_nil))) (pa_cons (pe_tup (pa_cons pe_str (pa_cons (pe_callB call_errI (by rfl) T.n_isinstance (by decide +kernel) (pa_cons (pv 0) (pa_cons (pe_glob (v := .ref _) rfl (T2.g "InvalidLevel" (by decide)) rfl) pa_nil))) pa_nil))) pa_nil)))) (pss_cons (ps_set (i := 1) sc__law_first_words.nd rfl (by first | exact Or.inl rfl | exact Or.inr rfl) (pe_op op_cat (pv 1) (pe_lst (pa_cons (pe_tup (pa_cons pe_str (pa_cons (pe_callB call_errI (by rfl) T.n_isinstance (by decide +kernel) (pa_cons (pv 0) (pa_cons (pe_glob (v := .ref _) rfl (T2.g "InvalidNumber" (by decide)) rfl) pa_nil))) pa_nil))) (pa_cons (pe_tup (pa_cons pe_str (pa_cons (pe_callB call_errI (by rfl) T.n_isinstance (by decide +kernel) (pa_cons (pv 0) (pa_cons (pe_glob (v := .ref _) rfl (T2.g "InvalidNumbers" (by decide)) rfl) pa_nil))) pa_nil))) pa_nil))))) (pss_cons (ps_set (i := 1) sc__law_first_words.nd rfl (by first | exact Or.inl rfl | exact Or.inr rfl) (pe_op op_cat (pv 1) (pe_lst (pa_cons (pe_tup (pa_cons pe_str (pa_cons (pe_callB call_errI (by rfl) T.n_isinstance (by decide +kernel) (pa_cons (pv 0) (pa_cons (pe_glob (v := .ref _) rfl (T2.g "InvalidAddress" (by decide)) rfl) pa_nil))) pa_nil))) (pa_cons (pe_tup (pa_cons pe_str (pa_cons (pe_callB call_errI (by rfl) T.n_isinstance (by decide +kernel) (pa_cons (pv 0) (pa_cons (pe_glob (v := .ref _) rfl (T2.g "InvalidName" (by decide)) rfl) pa_nil))) pa_nil))) pa_nil))))) (pss_cons (ps_set (i := 1) sc__law_first_words.nd rfl (by first | exact Or.inl rfl | exact Or.inr rfl) (pe_op op_cat (pv 1) (pe_lst (pa_cons (pe_tup (pa_cons pe_str (pa_cons (pe_callB call_errI (by rfl) T.n_isinstance (by decide +kernel) (pa_cons (pv 0) (pa_cons (pe_glob (v := .ref _) rfl (T2.g "InvalidIndex" (by decide)) rfl) pa_nil))) pa_nil))) (pa_cons (pe_tup (pa_cons pe_str (pa_cons (pe_callB call_errI (by rfl) T.n_isinstance (by decide +kernel) (pa_cons (pv 0) (pa_cons (pe_glob (v := .ref _) rfl (T2.g "InvalidValue" (by decide)) rfl) pa_nil))) pa_nil))) pa_nil))))) (pss_cons (ps_set (i := 1) sc__law_first_words.nd rfl (by first | exact Or.inl rfl | exact Or.inr rfl) (pe_op op_cat (pv 1) (pe_lst (pa_cons (pe_tup (pa_cons pe_str (pa_cons (pe_callB call_errI (by rfl) T.n_isinstance (by decide +kernel) (pa_cons (pv 0) (pa_cons (pe_glob (v := .ref _) rfl (T2.g "InvalidMoves" (by decide)) rfl) pa_nil))) pa_nil))) (pa_cons (pe_tup (pa_cons pe_str (pa_cons (pe_callB call_errI (by rfl) T.n_isinstance (by decide +kernel) (pa_cons (pv 0) (pa_cons (pe_glob (v := .ref _) rfl (T2.g "InvalidCount" (by decide)) rfl) pa_nil))) pa_nil))) pa_nil))))) (pss_cons (ps_expr (pe_bm PySem.F.plainAttrs_list PySem.F.slot_list_append PySem.F.type_list_append mt_append (pv 1) (pa_cons (pe_tup (pa_cons pe_str (pa_cons (pe_callB call_errI (by rfl) T.n_isinstance (by decide +kernel) (pa_cons (pv 0) (pa_cons (pe_glob (v := .ref _) rfl (T2.g "InvalidRequests" (by decide)) rfl) pa_nil))) pa_nil))) pa_nil))) (pss_cons (ps_expr (pe_bm PySem.F.plainAttrs_list PySem.F.slot_list_append PySem.F.type_list_append mt_append (pv 1) (pa_cons (pe_tup (pa_cons pe_str (pa_cons (pe_callB call_errI (by rfl) T.n_isinstance (by decide +kernel) (pa_cons (pv 0) (pa_cons (pe_glob (v := .ref _) rfl (T2.g "InvalidProgram" (by decide)) rfl) pa_nil))) pa_nil))) pa_nil))) (pss_cons (ps_set (i := 1) sc__law_first_words.nd rfl (by first | exact Or.inl rfl | exact Or.inr rfl) (pe_op op_cat (pv 1) (pe_lst (pa_cons (pe_tup (pa_cons pe_str (pa_cons (pe_callB call_errI (by rfl) T.n_isinstance (by decide +kernel) (pa_cons (pv 0) (pa_cons (pe_glob (v := .ref _) rfl (T2.g "InvalidText" (by decide)) rfl) pa_nil))) pa_nil))) (pa_cons (pe_tup (pa_cons pe_str (pa_cons (pe_callB call_errI (by rfl) T.n_isinstance (by decide +kernel) (pa_cons (pv 0) (pa_cons (pe_glob (v := .ref _) rfl (T2.g "InvalidCommand" (by decide)) rfl) pa_nil))) pa_nil))) pa_nil))))) (pss_cons (ps_expr (pe_bm PySem.F.plainAttrs_list PySem.F.slot_list_append PySem.F.type_list_append mt_append (pv 1) (pa_cons (pe_tup (pa_cons pe_str (pa_cons (pe_callB call_errI (by rfl) T.n_isinstance (by decide +kernel) (pa_cons (pv 0) (pa_cons (pe_glob (v := .ref _) rfl (T2.g "InvalidOperation" (by decide)) rfl) pa_nil))) pa_nil))) pa_nil))) (pss_one (ps_ret (pe_lc (own := [("_law_word", 2), ("_law_is_so", 3)]) (g := gTup K 2 (gCons (gName 2) (gCons (gName 3) gNil))) rfl sc__law_first_words.nd (pi_list (pv 1)) (blkOk_by (own := [("_law_word", 2), ("_law_is_so", 3)]) (N := ["_law_e", "_law_pairs", "_law_word", "_law_is_so"]) (sc := defScope (top 34)) (by decide +kernel)) (fun _ _ _ _ _ => pg_tup rfl (pgs_cons (pg_name (i := 2) sc__law_first_words.nd rfl (Or.inl rfl)) (pgs_cons (pg_name (i := 3) sc__law_first_words.nd rfl (Or.inl rfl)) pgs_nil))) (fun _ _ _ _ _ => (pts_one (pt_val (pv 3)))) (fun _ _ _ _ _ => (pv 2)))))))))))))), ?_⟩)
  · obtain ⟨a, C, fs, c, b, rfl, _⟩ := h
    rfl
  · obtain ⟨a, C, fs, c, b, rfl, ea, k, q⟩ := h
    have two : 2 ≤ sizeLine := by decide
    have sl : sizeLine = 16777216 := sizeLine_eq
    refine ⟨_, rfl, a, C, fs, _, _, _, rfl, k.ex, ea, .own _, k.own "InvalidSizes" rfl, two, fun t0 ht0 => ?_⟩
    have qt0 := same_upd (o := (.tup [.str "InvalidSizes", .bl (c == "InvalidSizes")])) ht0
    refine ⟨_, rfl, a, C, fs, _, _, _, rfl, k.ex, errAt_same ea qt0, .own _, k.own "InvalidLevel" rfl, two, fun t1 ht1 => ?_⟩
    have qt1 := same_upd (o := (.tup [.str "InvalidLevel", .bl (c == "InvalidLevel")])) ht1
    refine ⟨two, fun l1 hl1 => ?_⟩
    have X1 : Sx H (upd (upd (upd H t0 (.tup [.str "InvalidSizes", .bl (c == "InvalidSizes")])) t1 (.tup [.str "InvalidLevel", .bl (c == "InvalidLevel")])) l1 (.lst [.ref t0, .ref t1])) a C fs l1 [t0, t1] [("InvalidSizes", c == "InvalidSizes"), ("InvalidLevel", c == "InvalidLevel")] := by
      have q3 := same_upd (o := .lst [.ref t0, .ref t1]) hl1
      have s := (qt0.trans qt1).trans q3
      exact ⟨s, errAt_same ea s, upd_same, .cons (q3 _ _ (qt1 _ _ upd_same)) (.cons (q3 _ _ upd_same) .nil), qt0.free (qt1.free hl1)⟩
    generalize upd (upd (upd H t0 (.tup [.str "InvalidSizes", .bl (c == "InvalidSizes")])) t1 (.tup [.str "InvalidLevel", .bl (c == "InvalidLevel")])) l1 (.lst [.ref t0, .ref t1]) = G1 at X1
    refine ⟨_, rfl, _, rfl, a, C, fs, _, _, _, rfl, k.ex, X1.er, .own _, k.own "InvalidNumber" rfl, two, fun t2 ht2 => ?_⟩
    have qt2 := same_upd (o := (.tup [.str "InvalidNumber", .bl (c == "InvalidNumber")])) ht2
    refine ⟨_, rfl, a, C, fs, _, _, _, rfl, k.ex, errAt_same X1.er qt2, .own _, k.own "InvalidNumbers" rfl, two, fun t3 ht3 => ?_⟩
    have qt3 := same_upd (o := (.tup [.str "InvalidNumbers", .bl (c == "InvalidNumbers")])) ht3
    refine ⟨two, fun m1 hm1 => ?_⟩
    have qm1 := same_upd (o := .lst [.ref t2, .ref t3]) hm1
    refine ⟨l1, m1, _, _, rfl, rfl, qm1 _ _ (qt3 _ _ (qt2 _ _ X1.hl)), upd_same, (by show 2 + 2 ≤ sizeLine; decide), fun l2 hl2 => ?_⟩
    have X2 : Sx H (upd (upd (upd (upd G1 t2 (.tup [.str "InvalidNumber", .bl (c == "InvalidNumber")])) t3 (.tup [.str "InvalidNumbers", .bl (c == "InvalidNumbers")])) m1 (.lst [.ref t2, .ref t3])) l2 (.lst ((List.map V.ref [t0, t1]) ++ [.ref t2, .ref t3]))) a C fs l2 [t0, t1, t2, t3] [("InvalidSizes", c == "InvalidSizes"), ("InvalidLevel", c == "InvalidLevel"), ("InvalidNumber", c == "InvalidNumber"), ("InvalidNumbers", c == "InvalidNumbers")] := X1.two (d1 := ("InvalidNumber", c == "InvalidNumber")) (d2 := ("InvalidNumbers", c == "InvalidNumbers")) ht2 ht3 hm1 hl2
    generalize upd (upd (upd (upd G1 t2 (.tup [.str "InvalidNumber", .bl (c == "InvalidNumber")])) t3 (.tup [.str "InvalidNumbers", .bl (c == "InvalidNumbers")])) m1 (.lst [.ref t2, .ref t3])) l2 (.lst ((List.map V.ref [t0, t1]) ++ [.ref t2, .ref t3])) = G2 at X2
    refine ⟨_, rfl, _, rfl, a, C, fs, _, _, _, rfl, k.ex, X2.er, .own _, k.own "InvalidAddress" rfl, two, fun t4 ht4 => ?_⟩
    have qt4 := same_upd (o := (.tup [.str "InvalidAddress", .bl (c == "InvalidAddress")])) ht4
    refine ⟨_, rfl, a, C, fs, _, _, _, rfl, k.ex, errAt_same X2.er qt4, .own _, k.own "InvalidName" rfl, two, fun t5 ht5 => ?_⟩
    have qt5 := same_upd (o := (.tup [.str "InvalidName", .bl (c == "InvalidName")])) ht5
    refine ⟨two, fun m2 hm2 => ?_⟩
    have qm2 := same_upd (o := .lst [.ref t4, .ref t5]) hm2
    refine ⟨l2, m2, _, _, rfl, rfl, qm2 _ _ (qt5 _ _ (qt4 _ _ X2.hl)), upd_same, (by show 4 + 2 ≤ sizeLine; decide), fun l3 hl3 => ?_⟩
    have X3 : Sx H (upd (upd (upd (upd G2 t4 (.tup [.str "InvalidAddress", .bl (c == "InvalidAddress")])) t5 (.tup [.str "InvalidName", .bl (c == "InvalidName")])) m2 (.lst [.ref t4, .ref t5])) l3 (.lst ((List.map V.ref [t0, t1, t2, t3]) ++ [.ref t4, .ref t5]))) a C fs l3 [t0, t1, t2, t3, t4, t5] [("InvalidSizes", c == "InvalidSizes"), ("InvalidLevel", c == "InvalidLevel"), ("InvalidNumber", c == "InvalidNumber"), ("InvalidNumbers", c == "InvalidNumbers"), ("InvalidAddress", c == "InvalidAddress"), ("InvalidName", c == "InvalidName")] := X2.two (d1 := ("InvalidAddress", c == "InvalidAddress")) (d2 := ("InvalidName", c == "InvalidName")) ht4 ht5 hm2 hl3
    generalize upd (upd (upd (upd G2 t4 (.tup [.str "InvalidAddress", .bl (c == "InvalidAddress")])) t5 (.tup [.str "InvalidName", .bl (c == "InvalidName")])) m2 (.lst [.ref t4, .ref t5])) l3 (.lst ((List.map V.ref [t0, t1, t2, t3]) ++ [.ref t4, .ref t5])) = G3 at X3
    refine ⟨_, rfl, _, rfl, a, C, fs, _, _, _, rfl, k.ex, X3.er, .own _, k.own "InvalidIndex" rfl, two, fun t6 ht6 => ?_⟩
    have qt6 := same_upd (o := (.tup [.str "InvalidIndex", .bl (c == "InvalidIndex")])) ht6
    refine ⟨_, rfl, a, C, fs, _, _, _, rfl, k.ex, errAt_same X3.er qt6, .own _, k.own "InvalidValue" rfl, two, fun t7 ht7 => ?_⟩
    have qt7 := same_upd (o := (.tup [.str "InvalidValue", .bl (c == "InvalidValue")])) ht7
    refine ⟨two, fun m3 hm3 => ?_⟩
    have qm3 := same_upd (o := .lst [.ref t6, .ref t7]) hm3
    refine ⟨l3, m3, _, _, rfl, rfl, qm3 _ _ (qt7 _ _ (qt6 _ _ X3.hl)), upd_same, (by show 6 + 2 ≤ sizeLine; decide), fun l4 hl4 => ?_⟩
    have X4 : Sx H (upd (upd (upd (upd G3 t6 (.tup [.str "InvalidIndex", .bl (c == "InvalidIndex")])) t7 (.tup [.str "InvalidValue", .bl (c == "InvalidValue")])) m3 (.lst [.ref t6, .ref t7])) l4 (.lst ((List.map V.ref [t0, t1, t2, t3, t4, t5]) ++ [.ref t6, .ref t7]))) a C fs l4 [t0, t1, t2, t3, t4, t5, t6, t7] [("InvalidSizes", c == "InvalidSizes"), ("InvalidLevel", c == "InvalidLevel"), ("InvalidNumber", c == "InvalidNumber"), ("InvalidNumbers", c == "InvalidNumbers"), ("InvalidAddress", c == "InvalidAddress"), ("InvalidName", c == "InvalidName"), ("InvalidIndex", c == "InvalidIndex"), ("InvalidValue", c == "InvalidValue")] := X3.two (d1 := ("InvalidIndex", c == "InvalidIndex")) (d2 := ("InvalidValue", c == "InvalidValue")) ht6 ht7 hm3 hl4
    generalize upd (upd (upd (upd G3 t6 (.tup [.str "InvalidIndex", .bl (c == "InvalidIndex")])) t7 (.tup [.str "InvalidValue", .bl (c == "InvalidValue")])) m3 (.lst [.ref t6, .ref t7])) l4 (.lst ((List.map V.ref [t0, t1, t2, t3, t4, t5]) ++ [.ref t6, .ref t7])) = G4 at X4
    refine ⟨_, rfl, _, rfl, a, C, fs, _, _, _, rfl, k.ex, X4.er, .own _, k.own "InvalidMoves" rfl, two, fun t8 ht8 => ?_⟩
    have qt8 := same_upd (o := (.tup [.str "InvalidMoves", .bl (c == "InvalidMoves")])) ht8
    refine ⟨_, rfl, a, C, fs, _, _, _, rfl, k.ex, errAt_same X4.er qt8, .own _, k.own "InvalidCount" rfl, two, fun t9 ht9 => ?_⟩
    have qt9 := same_upd (o := (.tup [.str "InvalidCount", .bl (c == "InvalidCount")])) ht9
    refine ⟨two, fun m4 hm4 => ?_⟩
    have qm4 := same_upd (o := .lst [.ref t8, .ref t9]) hm4
    refine ⟨l4, m4, _, _, rfl, rfl, qm4 _ _ (qt9 _ _ (qt8 _ _ X4.hl)), upd_same, (by show 8 + 2 ≤ sizeLine; decide), fun l5 hl5 => ?_⟩
    have X5 : Sx H (upd (upd (upd (upd G4 t8 (.tup [.str "InvalidMoves", .bl (c == "InvalidMoves")])) t9 (.tup [.str "InvalidCount", .bl (c == "InvalidCount")])) m4 (.lst [.ref t8, .ref t9])) l5 (.lst ((List.map V.ref [t0, t1, t2, t3, t4, t5, t6, t7]) ++ [.ref t8, .ref t9]))) a C fs l5 [t0, t1, t2, t3, t4, t5, t6, t7, t8, t9] [("InvalidSizes", c == "InvalidSizes"), ("InvalidLevel", c == "InvalidLevel"), ("InvalidNumber", c == "InvalidNumber"), ("InvalidNumbers", c == "InvalidNumbers"), ("InvalidAddress", c == "InvalidAddress"), ("InvalidName", c == "InvalidName"), ("InvalidIndex", c == "InvalidIndex"), ("InvalidValue", c == "InvalidValue"), ("InvalidMoves", c == "InvalidMoves"), ("InvalidCount", c == "InvalidCount")] := X4.two (d1 := ("InvalidMoves", c == "InvalidMoves")) (d2 := ("InvalidCount", c == "InvalidCount")) ht8 ht9 hm4 hl5
    generalize upd (upd (upd (upd G4 t8 (.tup [.str "InvalidMoves", .bl (c == "InvalidMoves")])) t9 (.tup [.str "InvalidCount", .bl (c == "InvalidCount")])) m4 (.lst [.ref t8, .ref t9])) l5 (.lst ((List.map V.ref [t0, t1, t2, t3, t4, t5, t6, t7]) ++ [.ref t8, .ref t9])) = G5 at X5
    refine ⟨_, rfl, .inl ⟨rfl, _, SqL.of X5.hl⟩, _, rfl, a, C, fs, _, _, _, rfl, k.ex, X5.er, .own _, k.own "InvalidRequests" rfl, two, fun t10 ht10 => ?_⟩
    refine ⟨l5, _, _, rfl, rfl, same_upd ht10 _ _ X5.hl, (by show 10 < sizeLine; decide), ?_⟩
    have X6 : Sx H (upd (upd G5 t10 (.tup [.str "InvalidRequests", .bl (c == "InvalidRequests")])) l5 (.lst ((List.map V.ref [t0, t1, t2, t3, t4, t5, t6, t7, t8, t9]) ++ [.ref t10]))) a C fs l5 [t0, t1, t2, t3, t4, t5, t6, t7, t8, t9, t10] [("InvalidSizes", c == "InvalidSizes"), ("InvalidLevel", c == "InvalidLevel"), ("InvalidNumber", c == "InvalidNumber"), ("InvalidNumbers", c == "InvalidNumbers"), ("InvalidAddress", c == "InvalidAddress"), ("InvalidName", c == "InvalidName"), ("InvalidIndex", c == "InvalidIndex"), ("InvalidValue", c == "InvalidValue"), ("InvalidMoves", c == "InvalidMoves"), ("InvalidCount", c == "InvalidCount"), ("InvalidRequests", c == "InvalidRequests")] := X5.push (d := ("InvalidRequests", c == "InvalidRequests")) ht10
    generalize upd (upd G5 t10 (.tup [.str "InvalidRequests", .bl (c == "InvalidRequests")])) l5 (.lst ((List.map V.ref [t0, t1, t2, t3, t4, t5, t6, t7, t8, t9]) ++ [.ref t10])) = G6 at X6
    refine ⟨_, rfl, .inl ⟨rfl, _, SqL.of X6.hl⟩, _, rfl, a, C, fs, _, _, _, rfl, k.ex, X6.er, .own _, k.own "InvalidProgram" rfl, two, fun t11 ht11 => ?_⟩
    refine ⟨l5, _, _, rfl, rfl, same_upd ht11 _ _ X6.hl, (by show 11 < sizeLine; decide), ?_⟩
    have X7 : Sx H (upd (upd G6 t11 (.tup [.str "InvalidProgram", .bl (c == "InvalidProgram")])) l5 (.lst ((List.map V.ref [t0, t1, t2, t3, t4, t5, t6, t7, t8, t9, t10]) ++ [.ref t11]))) a C fs l5 [t0, t1, t2, t3, t4, t5, t6, t7, t8, t9, t10, t11] [("InvalidSizes", c == "InvalidSizes"), ("InvalidLevel", c == "InvalidLevel"), ("InvalidNumber", c == "InvalidNumber"), ("InvalidNumbers", c == "InvalidNumbers"), ("InvalidAddress", c == "InvalidAddress"), ("InvalidName", c == "InvalidName"), ("InvalidIndex", c == "InvalidIndex"), ("InvalidValue", c == "InvalidValue"), ("InvalidMoves", c == "InvalidMoves"), ("InvalidCount", c == "InvalidCount"), ("InvalidRequests", c == "InvalidRequests"), ("InvalidProgram", c == "InvalidProgram")] := X6.push (d := ("InvalidProgram", c == "InvalidProgram")) ht11
    generalize upd (upd G6 t11 (.tup [.str "InvalidProgram", .bl (c == "InvalidProgram")])) l5 (.lst ((List.map V.ref [t0, t1, t2, t3, t4, t5, t6, t7, t8, t9, t10]) ++ [.ref t11])) = G7 at X7
    refine ⟨_, rfl, _, rfl, a, C, fs, _, _, _, rfl, k.ex, X7.er, .own _, k.own "InvalidText" rfl, two, fun t12 ht12 => ?_⟩
    have qt12 := same_upd (o := (.tup [.str "InvalidText", .bl (c == "InvalidText")])) ht12
    refine ⟨_, rfl, a, C, fs, _, _, _, rfl, k.ex, errAt_same X7.er qt12, .own _, k.own "InvalidCommand" rfl, two, fun t13 ht13 => ?_⟩
    have qt13 := same_upd (o := (.tup [.str "InvalidCommand", .bl (c == "InvalidCommand")])) ht13
    refine ⟨two, fun m7 hm7 => ?_⟩
    have qm7 := same_upd (o := .lst [.ref t12, .ref t13]) hm7
    refine ⟨l5, m7, _, _, rfl, rfl, qm7 _ _ (qt13 _ _ (qt12 _ _ X7.hl)), upd_same, (by show 12 + 2 ≤ sizeLine; decide), fun l8 hl8 => ?_⟩
    have X8 : Sx H (upd (upd (upd (upd G7 t12 (.tup [.str "InvalidText", .bl (c == "InvalidText")])) t13 (.tup [.str "InvalidCommand", .bl (c == "InvalidCommand")])) m7 (.lst [.ref t12, .ref t13])) l8 (.lst ((List.map V.ref [t0, t1, t2, t3, t4, t5, t6, t7, t8, t9, t10, t11]) ++ [.ref t12, .ref t13]))) a C fs l8 [t0, t1, t2, t3, t4, t5, t6, t7, t8, t9, t10, t11, t12, t13] [("InvalidSizes", c == "InvalidSizes"), ("InvalidLevel", c == "InvalidLevel"), ("InvalidNumber", c == "InvalidNumber"), ("InvalidNumbers", c == "InvalidNumbers"), ("InvalidAddress", c == "InvalidAddress"), ("InvalidName", c == "InvalidName"), ("InvalidIndex", c == "InvalidIndex"), ("InvalidValue", c == "InvalidValue"), ("InvalidMoves", c == "InvalidMoves"), ("InvalidCount", c == "InvalidCount"), ("InvalidRequests", c == "InvalidRequests"), ("InvalidProgram", c == "InvalidProgram"), ("InvalidText", c == "InvalidText"), ("InvalidCommand", c == "InvalidCommand")] := X7.two (d1 := ("InvalidText", c == "InvalidText")) (d2 := ("InvalidCommand", c == "InvalidCommand")) ht12 ht13 hm7 hl8
    generalize upd (upd (upd (upd G7 t12 (.tup [.str "InvalidText", .bl (c == "InvalidText")])) t13 (.tup [.str "InvalidCommand", .bl (c == "InvalidCommand")])) m7 (.lst [.ref t12, .ref t13])) l8 (.lst ((List.map V.ref [t0, t1, t2, t3, t4, t5, t6, t7, t8, t9, t10, t11]) ++ [.ref t12, .ref t13])) = G8 at X8
    refine ⟨_, rfl, .inl ⟨rfl, _, SqL.of X8.hl⟩, _, rfl, a, C, fs, _, _, _, rfl, k.ex, X8.er, .own _, k.own "InvalidOperation" rfl, two, fun t14 ht14 => ?_⟩
    refine ⟨l8, _, _, rfl, rfl, same_upd ht14 _ _ X8.hl, (by show 14 < sizeLine; decide), ?_⟩
    have X9 : Sx H (upd (upd G8 t14 (.tup [.str "InvalidOperation", .bl (c == "InvalidOperation")])) l8 (.lst ((List.map V.ref [t0, t1, t2, t3, t4, t5, t6, t7, t8, t9, t10, t11, t12, t13]) ++ [.ref t14]))) a C fs l8 [t0, t1, t2, t3, t4, t5, t6, t7, t8, t9, t10, t11, t12, t13, t14] [("InvalidSizes", c == "InvalidSizes"), ("InvalidLevel", c == "InvalidLevel"), ("InvalidNumber", c == "InvalidNumber"), ("InvalidNumbers", c == "InvalidNumbers"), ("InvalidAddress", c == "InvalidAddress"), ("InvalidName", c == "InvalidName"), ("InvalidIndex", c == "InvalidIndex"), ("InvalidValue", c == "InvalidValue"), ("InvalidMoves", c == "InvalidMoves"), ("InvalidCount", c == "InvalidCount"), ("InvalidRequests", c == "InvalidRequests"), ("InvalidProgram", c == "InvalidProgram"), ("InvalidText", c == "InvalidText"), ("InvalidCommand", c == "InvalidCommand"), ("InvalidOperation", c == "InvalidOperation")] := X8.push (d := ("InvalidOperation", c == "InvalidOperation")) ht14
    generalize upd (upd G8 t14 (.tup [.str "InvalidOperation", .bl (c == "InvalidOperation")])) l8 (.lst ((List.map V.ref [t0, t1, t2, t3, t4, t5, t6, t7, t8, t9, t10, t11, t12, t13]) ++ [.ref t14])) = G9 at X9
    have ew : ([("InvalidSizes", c == "InvalidSizes"), ("InvalidLevel", c == "InvalidLevel"), ("InvalidNumber", c == "InvalidNumber"), ("InvalidNumbers", c == "InvalidNumbers"), ("InvalidAddress", c == "InvalidAddress"), ("InvalidName", c == "InvalidName"), ("InvalidIndex", c == "InvalidIndex"), ("InvalidValue", c == "InvalidValue"), ("InvalidMoves", c == "InvalidMoves"), ("InvalidCount", c == "InvalidCount"), ("InvalidRequests", c == "InvalidRequests"), ("InvalidProgram", c == "InvalidProgram"), ("InvalidText", c == "InvalidText"), ("InvalidCommand", c == "InvalidCommand"), ("InvalidOperation", c == "InvalidOperation")] : List (Str × Bool)) = firsts.map fun d => (d, c == d) := rfl
    rw [ew] at X9
    obtain ⟨ps, eps⟩ : ∃ z, z = [t0, t1, t2, t3, t4, t5, t6, t7, t8, t9, t10, t11, t12, t13, t14] := ⟨_, rfl⟩
    rw [← eps] at X9
    have lw : (firsts.map fun d => (d, c == d)).length = 15 := rfl
    have pl := X9.rf.len
    refine ⟨_, rfl, l8, rfl, ⟨_, SqL.of X9.hl⟩, fun D hD => ?_⟩
    refine lc_list (K := K) (a := l8) (xs := ps.map V.ref) (fun i G => G D = some (.lst ((((firsts.map fun d => (d, c == d)).take i).filter fun p => p.2).map fun p => V.str p.1)) ∧ Same G9 G) ⟨upd_same, same_upd hD⟩ (fun i G _ ⟨_, sm⟩ => SqL.of (sm _ _ X9.hl)) ?_ ?_
    · rintro i x G hx ⟨hG, sm⟩
      obtain ⟨p, hp, rfl⟩ := ref_of hx
      obtain ⟨t, ht, hT⟩ := (X9.rf.same sm).get hp
      have il := (List.getElem?_eq_some_iff.mp ht).1
      have hT' : G p = some (.tup [.str t.1, .bl t.2]) := hT
      have fa := filter_atW ht
      have fl := List.length_filter_le (fun p : Str × Bool => p.2) ((firsts.map fun d => (d, c == d)).take i)
      rw [List.length_take] at fl
      refine ⟨p, _, rfl, .inl (.inl hT'), rfl, _, _, rfl, _, _, rfl, rfl, rfl, _, rfl, _, rfl, ?_⟩
      cases et : t.2 with
      | true =>
        rw [et, if_pos rfl] at fa
        refine iteT ⟨_, rfl, _, hG, (by rw [List.length_map]; omega), ?_, fun x o e => ?_⟩
        · rw [upd_same, fa, List.map_append]
          rfl
        · rw [upd_ne (ne_of_none e hD)]
          exact sm x o e
      | false =>
        rw [et, if_neg Bool.false_ne_true, List.append_nil] at fa
        refine iteF ⟨?_, sm⟩
        rw [fa]
        exact hG
    · rintro G ⟨hG, sm⟩
      rw [List.length_map, pl, List.take_length, words_of] at hG
      exact q D G (X9.sm.free hD) (X9.sm.trans sm) hG
theorem sc__law_last_words : FnScope ["_law_e", "_law_pairs", "_law_word", "_law_is_so"] ["_law_e"] (defScope (top 35)) := ⟨rfl, rfl, rfl, by decide +kernel, rfl, by decide +kernel, by decide +kernel⟩
theorem ok_law_last_words (T : Tx K mg) (T2 : Te K mg) (F : FnP K "_law_last_words" "_law_last_words" (top 35) f fd) : FnOk P w K mg base CX0 1 f fd ["_law_e"] (spWords K lasts) := by
  refine F.ok sc__law_last_words (fun vs H Q E h => ?_) (fun cdv A outer s H vs Q E hr h => ⟨_, PSs.nox (pss_cons (ps_set (i := 1) sc__law_last_words.nd rfl (by first | exact Or.inl rfl | exact Or.inr rfl) (pe_lst (pa_cons (pe_tup (pa_cons pe_str (pa_cons (pe_callB call_errI (by rfl) T.n_isinstance (by decide +kernel) (pa_cons (pv 0) (pa_cons (pe_glob (v := .ref _) rfl (T2.g "UnknownBlock" (by decide)) rfl) pa_nil))) pa_nil))) (pa_cons (pe_tup (pa_cons pe_str (pa_cons (pe_callB call_errI (by rfl) T.n_isinstance (by decide +kernel) (pa_cons (pv 0) (pa_cons (pe_glob (v := .ref _) rfl (T2.g "UnknownName" (by decide)) rfl) pa_nil))) pa_nil))) pa_nil)))) (pss_cons (ps_set (i := 1) sc__law_last_words.nd rfl (by first | exact Or.inl rfl | exact Or.inr rfl) (pe_op op_cat (pv 1) (pe_lst (pa_cons (pe_tup (pa_cons pe_str (pa_cons (pe_callB call_errI (by rfl) T.n_isinstance (by decide +kernel) (pa_cons (pv 0) (pa_cons (pe_glob (v := .ref _) rfl (T2.g "UnknownTask" (by decide)) rfl) pa_nil))) pa_nil))) (pa_cons (pe_tup (pa_cons pe_str (pa_cons (pe_callB call_errI (by rfl) T.n_isinstance (by decide +kernel) (pa_cons (pv 0) (pa_cons (pe_glob (v := .ref _) rfl (T2.g "UnknownTime" (by decide)) rfl) pa_nil))) pa_nil))) pa_nil))))) (pss_cons (ps_set (i := 1) sc__law_last_words.nd rfl (by first | exact Or.inl rfl | exact Or.inr rfl) (pe_op op_cat (pv 1) (pe_lst (pa_cons (pe_tup (pa_cons pe_str (pa_cons (pe_callB call_errI (by rfl) T.n_isinstance (by decide +kernel) (pa_cons (pv 0) (pa_cons (pe_glob (v := .ref _) rfl (T2.g "Occupied" (by decide)) rfl) pa_nil))) pa_nil))) (pa_cons (pe_tup (pa_cons pe_str (pa_cons (pe_callB call_errI (by rfl) T.n_isinstance (by decide +kernel) (pa_cons (pv 0) (pa_cons (pe_glob (v := .ref _) rfl (T2.g "NameTaken" (by decide)) rfl) pa_nil))) pa_nil))) pa_nil))))) (pss_cons (ps_set (i := 1) sc__law_last_words.nd rfl (by first | exact Or.inl rfl | exact Or.inr rfl) (pe_op op_cat (pv 1) (pe_lst (pa_cons (pe_tup (pa_cons pe_str (pa_cons (pe_callB call_errI (by rfl) T.n_isinstance (by decide +kernel) (pa_cons (pv 0) (pa_cons (pe_glob (v := .ref _) rfl (T2.g "Pinned" (by decide)) rfl) pa_nil))) pa_nil))) (pa_cons (pe_tup (pa_cons pe_str (pa_cons (pe_callB call_errI (by rfl) T.n_isinstance (by decide +kernel) (pa_cons (pv 0) (pa_cons (pe_glob (v := .ref _) rfl (T2.g "NotPinned" (by decide)) rfl) pa_nil))) pa_nil))) pa_nil))))) (pss_cons (ps_set (i := 1) sc__law_last_words.nd rfl (by first | exact Or.inl rfl | exact Or.inr rfl) (pe_op op_cat (pv 1) (pe_lst (pa_cons (pe_tup (pa_cons pe_str (pa_cons (pe_callB call_errI (by rfl) T.n_isinstance (by decide +kernel) (pa_cons (pv 0) (pa_cons (pe_glob (v := .ref _) rfl (T2.g "NoReservation" (by decide)) rfl) pa_nil))) pa_nil))) (pa_cons (pe_tup (pa_cons pe_str (pa_cons (pe_callB call_errI (by rfl) T.n_isinstance (by decide +kernel) (pa_cons (pv 0) (pa_cons (pe_glob (v := .ref _) rfl (T2.g "NotReady" (by decide)) rfl) pa_nil))) pa_nil))) pa_nil))))) (pss_cons (ps_set (i := 1) sc__law_last_words.nd rfl (by first | exact Or.inl rfl | exact Or.inr rfl) (pe_op op_cat (pv 1) (pe_lst (pa_cons (pe_tup (pa_cons pe_str (pa_cons (pe_callB call_errI (by rfl) T.n_isinstance (by decide +kernel) (pa_cons (pv 0) (pa_cons (pe_glob (v := .ref _) rfl (T2.g "NoRoom" (by decide)) rfl) pa_nil))) pa_nil))) (pa_cons (pe_tup (pa_cons pe_str (pa_cons (pe_callB call_errI (by rfl) T.n_isinstance (by decide +kernel) (pa_cons (pv 0) (pa_cons (pe_glob (v := .ref _) rfl (T2.g "TooManyPieces" (by decide)) rfl) pa_nil))) pa_nil))) pa_nil))))) (pss_one (ps_ret (pe_lc (own := [("_law_word", 2), ("_law_is_so", 3)]) (g := gTup K 2 (gCons (gName 2) (gCons (gName 3) gNil))) rfl sc__law_last_words.nd (pi_list (pv 1)) (blkOk_by (own := [("_law_word", 2), ("_law_is_so", 3)]) (N := ["_law_e", "_law_pairs", "_law_word", "_law_is_so"]) (sc := defScope (top 35)) (by decide +kernel)) (fun _ _ _ _ _ => pg_tup rfl (pgs_cons (pg_name (i := 2) sc__law_last_words.nd rfl (Or.inl rfl)) (pgs_cons (pg_name (i := 3) sc__law_last_words.nd rfl (Or.inl rfl)) pgs_nil))) (fun _ _ _ _ _ => (pts_one (pt_val (pv 3)))) (fun _ _ _ _ _ => (pv 2))))))))))), ?_⟩)
  · obtain ⟨a, C, fs, c, b, rfl, _⟩ := h
    rfl
  · obtain ⟨a, C, fs, c, b, rfl, ea, k, q⟩ := h
    have two : 2 ≤ sizeLine := by decide
    have sl : sizeLine = 16777216 := sizeLine_eq
    refine ⟨_, rfl, a, C, fs, _, _, _, rfl, k.ex, ea, .own _, k.own "UnknownBlock" rfl, two, fun t0 ht0 => ?_⟩
    have qt0 := same_upd (o := (.tup [.str "UnknownBlock", .bl (c == "UnknownBlock")])) ht0
    refine ⟨_, rfl, a, C, fs, _, _, _, rfl, k.ex, errAt_same ea qt0, .own _, k.own "UnknownName" rfl, two, fun t1 ht1 => ?_⟩
    have qt1 := same_upd (o := (.tup [.str "UnknownName", .bl (c == "UnknownName")])) ht1
    refine ⟨two, fun l1 hl1 => ?_⟩
    have X1 : Sx H (upd (upd (upd H t0 (.tup [.str "UnknownBlock", .bl (c == "UnknownBlock")])) t1 (.tup [.str "UnknownName", .bl (c == "UnknownName")])) l1 (.lst [.ref t0, .ref t1])) a C fs l1 [t0, t1] [("UnknownBlock", c == "UnknownBlock"), ("UnknownName", c == "UnknownName")] := by
      have q3 := same_upd (o := .lst [.ref t0, .ref t1]) hl1
      have s := (qt0.trans qt1).trans q3
      exact ⟨s, errAt_same ea s, upd_same, .cons (q3 _ _ (qt1 _ _ upd_same)) (.cons (q3 _ _ upd_same) .nil), qt0.free (qt1.free hl1)⟩
    generalize upd (upd (upd H t0 (.tup [.str "UnknownBlock", .bl (c == "UnknownBlock")])) t1 (.tup [.str "UnknownName", .bl (c == "UnknownName")])) l1 (.lst [.ref t0, .ref t1]) = G1 at X1
    refine ⟨_, rfl, _, rfl, a, C, fs, _, _, _, rfl, k.ex, X1.er, .own _, k.own "UnknownTask" rfl, two, fun t2 ht2 => ?_⟩
    have qt2 := same_upd (o := (.tup [.str "UnknownTask", .bl (c == "UnknownTask")])) ht2
    refine ⟨_, rfl, a, C, fs, _, _, _, rfl, k.ex, errAt_same X1.er qt2, .own _, k.own "UnknownTime" rfl, two, fun t3 ht3 => ?_⟩
    have qt3 := same_upd (o := (.tup [.str "UnknownTime", .bl (c == "UnknownTime")])) ht3
    refine ⟨two, fun m1 hm1 => ?_⟩
    have qm1 := same_upd (o := .lst [.ref t2, .ref t3]) hm1
    refine ⟨l1, m1, _, _, rfl, rfl, qm1 _ _ (qt3 _ _ (qt2 _ _ X1.hl)), upd_same, (by show 2 + 2 ≤ sizeLine; decide), fun l2 hl2 => ?_⟩
    have X2 : Sx H (upd (upd (upd (upd G1 t2 (.tup [.str "UnknownTask", .bl (c == "UnknownTask")])) t3 (.tup [.str "UnknownTime", .bl (c == "UnknownTime")])) m1 (.lst [.ref t2, .ref t3])) l2 (.lst ((List.map V.ref [t0, t1]) ++ [.ref t2, .ref t3]))) a C fs l2 [t0, t1, t2, t3] [("UnknownBlock", c == "UnknownBlock"), ("UnknownName", c == "UnknownName"), ("UnknownTask", c == "UnknownTask"), ("UnknownTime", c == "UnknownTime")] := X1.two (d1 := ("UnknownTask", c == "UnknownTask")) (d2 := ("UnknownTime", c == "UnknownTime")) ht2 ht3 hm1 hl2
    generalize upd (upd (upd (upd G1 t2 (.tup [.str "UnknownTask", .bl (c == "UnknownTask")])) t3 (.tup [.str "UnknownTime", .bl (c == "UnknownTime")])) m1 (.lst [.ref t2, .ref t3])) l2 (.lst ((List.map V.ref [t0, t1]) ++ [.ref t2, .ref t3])) = G2 at X2
    refine ⟨_, rfl, _, rfl, a, C, fs, _, _, _, rfl, k.ex, X2.er, .own _, k.own "Occupied" rfl, two, fun t4 ht4 => ?_⟩
    have qt4 := same_upd (o := (.tup [.str "Occupied", .bl (c == "Occupied")])) ht4
    refine ⟨_, rfl, a, C, fs, _, _, _, rfl, k.ex, errAt_same X2.er qt4, .own _, k.own "NameTaken" rfl, two, fun t5 ht5 => ?_⟩
    have qt5 := same_upd (o := (.tup [.str "NameTaken", .bl (c == "NameTaken")])) ht5
    refine ⟨two, fun m2 hm2 => ?_⟩
    have qm2 := same_upd (o := .lst [.ref t4, .ref t5]) hm2
    refine ⟨l2, m2, _, _, rfl, rfl, qm2 _ _ (qt5 _ _ (qt4 _ _ X2.hl)), upd_same, (by show 4 + 2 ≤ sizeLine; decide), fun l3 hl3 => ?_⟩
    have X3 : Sx H (upd (upd (upd (upd G2 t4 (.tup [.str "Occupied", .bl (c == "Occupied")])) t5 (.tup [.str "NameTaken", .bl (c == "NameTaken")])) m2 (.lst [.ref t4, .ref t5])) l3 (.lst ((List.map V.ref [t0, t1, t2, t3]) ++ [.ref t4, .ref t5]))) a C fs l3 [t0, t1, t2, t3, t4, t5] [("UnknownBlock", c == "UnknownBlock"), ("UnknownName", c == "UnknownName"), ("UnknownTask", c == "UnknownTask"), ("UnknownTime", c == "UnknownTime"), ("Occupied", c == "Occupied"), ("NameTaken", c == "NameTaken")] := X2.two (d1 := ("Occupied", c == "Occupied")) (d2 := ("NameTaken", c == "NameTaken")) ht4 ht5 hm2 hl3
    generalize upd (upd (upd (upd G2 t4 (.tup [.str "Occupied", .bl (c == "Occupied")])) t5 (.tup [.str "NameTaken", .bl (c == "NameTaken")])) m2 (.lst [.ref t4, .ref t5])) l3 (.lst ((List.map V.ref [t0, t1, t2, t3]) ++ [.ref t4, .ref t5])) = G3 at X3
    refine ⟨_, rfl, _, rfl, a, C, fs, _, _, _, rfl, k.ex, X3.er, .own _, k.own "Pinned" rfl, two, fun t6 ht6 => ?_⟩
    have qt6 := same_upd (o := (.tup [.str "Pinned", .bl (c == "Pinned")])) ht6
    refine ⟨_, rfl, a, C, fs, _, _, _, rfl, k.ex, errAt_same X3.er qt6, .own _, k.own "NotPinned" rfl, two, fun t7 ht7 => ?_⟩
    have qt7 := same_upd (o := (.tup [.str "NotPinned", .bl (c == "NotPinned")])) ht7
    refine ⟨two, fun m3 hm3 => ?_⟩
    have qm3 := same_upd (o := .lst [.ref t6, .ref t7]) hm3
    refine ⟨l3, m3, _, _, rfl, rfl, qm3 _ _ (qt7 _ _ (qt6 _ _ X3.hl)), upd_same, (by show 6 + 2 ≤ sizeLine; decide), fun l4 hl4 => ?_⟩
    have X4 : Sx H (upd (upd (upd (upd G3 t6 (.tup [.str "Pinned", .bl (c == "Pinned")])) t7 (.tup [.str "NotPinned", .bl (c == "NotPinned")])) m3 (.lst [.ref t6, .ref t7])) l4 (.lst ((List.map V.ref [t0, t1, t2, t3, t4, t5]) ++ [.ref t6, .ref t7]))) a C fs l4 [t0, t1, t2, t3, t4, t5, t6, t7] [("UnknownBlock", c == "UnknownBlock"), ("UnknownName", c == "UnknownName"), ("UnknownTask", c == "UnknownTask"), ("UnknownTime", c == "UnknownTime"), ("Occupied", c == "Occupied"), ("NameTaken", c == "NameTaken"), ("Pinned", c == "Pinned"), ("NotPinned", c == "NotPinned")] := X3.two (d1 := ("Pinned", c == "Pinned")) (d2 := ("NotPinned", c == "NotPinned")) ht6 ht7 hm3 hl4
    generalize upd (upd (upd (upd G3 t6 (.tup [.str "Pinned", .bl (c == "Pinned")])) t7 (.tup [.str "NotPinned", .bl (c == "NotPinned")])) m3 (.lst [.ref t6, .ref t7])) l4 (.lst ((List.map V.ref [t0, t1, t2, t3, t4, t5]) ++ [.ref t6, .ref t7])) = G4 at X4
    refine ⟨_, rfl, _, rfl, a, C, fs, _, _, _, rfl, k.ex, X4.er, .own _, k.own "NoReservation" rfl, two, fun t8 ht8 => ?_⟩
    have qt8 := same_upd (o := (.tup [.str "NoReservation", .bl (c == "NoReservation")])) ht8
    refine ⟨_, rfl, a, C, fs, _, _, _, rfl, k.ex, errAt_same X4.er qt8, .own _, k.own "NotReady" rfl, two, fun t9 ht9 => ?_⟩
    have qt9 := same_upd (o := (.tup [.str "NotReady", .bl (c == "NotReady")])) ht9
    refine ⟨two, fun m4 hm4 => ?_⟩
    have qm4 := same_upd (o := .lst [.ref t8, .ref t9]) hm4
    refine ⟨l4, m4, _, _, rfl, rfl, qm4 _ _ (qt9 _ _ (qt8 _ _ X4.hl)), upd_same, (by show 8 + 2 ≤ sizeLine; decide), fun l5 hl5 => ?_⟩
    have X5 : Sx H (upd (upd (upd (upd G4 t8 (.tup [.str "NoReservation", .bl (c == "NoReservation")])) t9 (.tup [.str "NotReady", .bl (c == "NotReady")])) m4 (.lst [.ref t8, .ref t9])) l5 (.lst ((List.map V.ref [t0, t1, t2, t3, t4, t5, t6, t7]) ++ [.ref t8, .ref t9]))) a C fs l5 [t0, t1, t2, t3, t4, t5, t6, t7, t8, t9] [("UnknownBlock", c == "UnknownBlock"), ("UnknownName", c == "UnknownName"), ("UnknownTask", c == "UnknownTask"), ("UnknownTime", c == "UnknownTime"), ("Occupied", c == "Occupied"), ("NameTaken", c == "NameTaken"), ("Pinned", c == "Pinned"), ("NotPinned", c == "NotPinned"), ("NoReservation", c == "NoReservation"), ("NotReady", c == "NotReady")] := X4.two (d1 := ("NoReservation", c == "NoReservation")) (d2 := ("NotReady", c == "NotReady")) ht8 ht9 hm4 hl5
    generalize upd (upd (upd (upd G4 t8 (.tup [.str "NoReservation", .bl (c == "NoReservation")])) t9 (.tup [.str "NotReady", .bl (c == "NotReady")])) m4 (.lst [.ref t8, .ref t9])) l5 (.lst ((List.map V.ref [t0, t1, t2, t3, t4, t5, t6, t7]) ++ [.ref t8, .ref t9])) = G5 at X5
    refine ⟨_, rfl, _, rfl, a, C, fs, _, _, _, rfl, k.ex, X5.er, .own _, k.own "NoRoom" rfl, two, fun t10 ht10 => ?_⟩
    have qt10 := same_upd (o := (.tup [.str "NoRoom", .bl (c == "NoRoom")])) ht10
    refine ⟨_, rfl, a, C, fs, _, _, _, rfl, k.ex, errAt_same X5.er qt10, .own _, k.own "TooManyPieces" rfl, two, fun t11 ht11 => ?_⟩
    have qt11 := same_upd (o := (.tup [.str "TooManyPieces", .bl (c == "TooManyPieces")])) ht11
    refine ⟨two, fun m5 hm5 => ?_⟩
    have qm5 := same_upd (o := .lst [.ref t10, .ref t11]) hm5
    refine ⟨l5, m5, _, _, rfl, rfl, qm5 _ _ (qt11 _ _ (qt10 _ _ X5.hl)), upd_same, (by show 10 + 2 ≤ sizeLine; decide), fun l6 hl6 => ?_⟩
    have X6 : Sx H (upd (upd (upd (upd G5 t10 (.tup [.str "NoRoom", .bl (c == "NoRoom")])) t11 (.tup [.str "TooManyPieces", .bl (c == "TooManyPieces")])) m5 (.lst [.ref t10, .ref t11])) l6 (.lst ((List.map V.ref [t0, t1, t2, t3, t4, t5, t6, t7, t8, t9]) ++ [.ref t10, .ref t11]))) a C fs l6 [t0, t1, t2, t3, t4, t5, t6, t7, t8, t9, t10, t11] [("UnknownBlock", c == "UnknownBlock"), ("UnknownName", c == "UnknownName"), ("UnknownTask", c == "UnknownTask"), ("UnknownTime", c == "UnknownTime"), ("Occupied", c == "Occupied"), ("NameTaken", c == "NameTaken"), ("Pinned", c == "Pinned"), ("NotPinned", c == "NotPinned"), ("NoReservation", c == "NoReservation"), ("NotReady", c == "NotReady"), ("NoRoom", c == "NoRoom"), ("TooManyPieces", c == "TooManyPieces")] := X5.two (d1 := ("NoRoom", c == "NoRoom")) (d2 := ("TooManyPieces", c == "TooManyPieces")) ht10 ht11 hm5 hl6
    generalize upd (upd (upd (upd G5 t10 (.tup [.str "NoRoom", .bl (c == "NoRoom")])) t11 (.tup [.str "TooManyPieces", .bl (c == "TooManyPieces")])) m5 (.lst [.ref t10, .ref t11])) l6 (.lst ((List.map V.ref [t0, t1, t2, t3, t4, t5, t6, t7, t8, t9]) ++ [.ref t10, .ref t11])) = G6 at X6
    have ew : ([("UnknownBlock", c == "UnknownBlock"), ("UnknownName", c == "UnknownName"), ("UnknownTask", c == "UnknownTask"), ("UnknownTime", c == "UnknownTime"), ("Occupied", c == "Occupied"), ("NameTaken", c == "NameTaken"), ("Pinned", c == "Pinned"), ("NotPinned", c == "NotPinned"), ("NoReservation", c == "NoReservation"), ("NotReady", c == "NotReady"), ("NoRoom", c == "NoRoom"), ("TooManyPieces", c == "TooManyPieces")] : List (Str × Bool)) = lasts.map fun d => (d, c == d) := rfl
    rw [ew] at X6
    obtain ⟨ps, eps⟩ : ∃ z, z = [t0, t1, t2, t3, t4, t5, t6, t7, t8, t9, t10, t11] := ⟨_, rfl⟩
    rw [← eps] at X6
    have lw : (lasts.map fun d => (d, c == d)).length = 12 := rfl
    have pl := X6.rf.len
    refine ⟨_, rfl, l6, rfl, ⟨_, SqL.of X6.hl⟩, fun D hD => ?_⟩
    refine lc_list (K := K) (a := l6) (xs := ps.map V.ref) (fun i G => G D = some (.lst ((((lasts.map fun d => (d, c == d)).take i).filter fun p => p.2).map fun p => V.str p.1)) ∧ Same G6 G) ⟨upd_same, same_upd hD⟩ (fun i G _ ⟨_, sm⟩ => SqL.of (sm _ _ X6.hl)) ?_ ?_
    · rintro i x G hx ⟨hG, sm⟩
      obtain ⟨p, hp, rfl⟩ := ref_of hx
      obtain ⟨t, ht, hT⟩ := (X6.rf.same sm).get hp
      have il := (List.getElem?_eq_some_iff.mp ht).1
      have hT' : G p = some (.tup [.str t.1, .bl t.2]) := hT
      have fa := filter_atW ht
      have fl := List.length_filter_le (fun p : Str × Bool => p.2) ((lasts.map fun d => (d, c == d)).take i)
      rw [List.length_take] at fl
      refine ⟨p, _, rfl, .inl (.inl hT'), rfl, _, _, rfl, _, _, rfl, rfl, rfl, _, rfl, _, rfl, ?_⟩
      cases et : t.2 with
      | true =>
        rw [et, if_pos rfl] at fa
        refine iteT ⟨_, rfl, _, hG, (by rw [List.length_map]; omega), ?_, fun x o e => ?_⟩
        · rw [upd_same, fa, List.map_append]
          rfl
        · rw [upd_ne (ne_of_none e hD)]
          exact sm x o e
      | false =>
        rw [et, if_neg Bool.false_ne_true, List.append_nil] at fa
        refine iteF ⟨?_, sm⟩
        rw [fa]
        exact hG
    · rintro G ⟨hG, sm⟩
      rw [List.length_map, pl, List.take_length, words_of] at hG
      exact q D G (X6.sm.free hD) (X6.sm.trans sm) hG
end
end K17

set_option Elab.async false
set_option linter.all false
set_option maxRecDepth 100000
set_option maxHeartbeats 4000000
namespace K17
open PySem PySem.Spec PyProof.Rows L2 Gu Ex
section
variable {P : Program} {w : World} {K : PySem.W.Frag} {mg : Str → Option Value} {base : Heap} {f : Addr} {fd : FuncData}
/-- an error of the class by name c, asked for its own word and base -/
def spIs (K : PySem.W.Frag) : Sp := fun vs H Q _ => ∃ (a C : Addr) (fs : List (Str × V)) (c : Str) (b : Nat), vs = [.ref a, .str c, .int b] ∧ ErrAt H a C fs ∧ Kt K C c b ∧ (firsts.filter fun d => c == d) ++ (lasts.filter fun d => c == d) = [c] ∧ ((PyData.list [.str c]).canLay0 = true ∧ SeqAt.shaped (.list [.str c]) = true) ∧ ∀ H', Same H H' → Q (.bl true) H'
theorem sc__law_is : FnScope ["_law_e", "_law_word", "_law_base_here"] ["_law_e", "_law_word", "_law_base_here"] (defScope (top 36)) := ⟨rfl, rfl, rfl, by decide +kernel, rfl, by decide +kernel, by decide +kernel⟩
theorem ok_is (T : Tx K mg) (D__law_base : Df P w K mg base 1 "_law_base" ["_law_e"] (spBase K)) (D__law_first_words : Df P w K mg base 1 "_law_first_words" ["_law_e"] (spWords K firsts)) (D__law_last_words : Df P w K mg base 1 "_law_last_words" ["_law_e"] (spWords K lasts))
    (F : FnP K "_law_is" "_law_is" (top 36) f fd) : FnOk P w K mg base CX0 2 f fd ["_law_e", "_law_word", "_law_base_here"] (spIs K) := by
  refine F.ok sc__law_is (fun vs H Q E h => ?_) (fun cdv A outer s H vs Q E hr h => ⟨_, PSs.nox (pss_one (ps_ret (pe_and (pe_cmpR (op_eqD hr.units) (pe_op op_cat (pcall D__law_first_words hr (pa_cons (pv 0) pa_nil)) (pcall D__law_last_words hr (pa_cons (pv 0) pa_nil))) (pe_lst (pa_cons (pv 1) pa_nil)) (nomark _)) (pe_one (pe_cmpR op_eq (pcall D__law_base hr (pa_cons (pv 0) pa_nil)) (pv 2) (nomark _)))))), ?_⟩)
  · obtain ⟨a, C, fs, c, b, rfl, _⟩ := h
    rfl
  · obtain ⟨a, C, fs, c, b, rfl, ea, k, hc, hv, q⟩ := h
    refine ⟨_, rfl, a, C, fs, c, b, rfl, ea, k, fun l1 H1 hl1 s1 h1 => ?_⟩
    refine ⟨_, rfl, a, C, fs, c, b, rfl, errAt_same ea s1, k, fun l2 H2 hl2 s2 h2 => ?_⟩
    have len : ((firsts.filter fun d => c == d).map V.str).length + ((lasts.filter fun d => c == d).map V.str).length ≤ sizeLine := by
      rw [← List.length_append, ← List.map_append, hc]
      show 1 ≤ sizeLine
      decide
    refine ⟨l1, l2, _, _, rfl, rfl, s2 _ _ h1, h2, len, fun R hR => ?_⟩
    rw [← List.map_append, hc]
    have s3 := same_upd (o := .lst ([c].map V.str)) hR
    have h3 : (upd H2 R (.lst ([c].map V.str))) R = some (.lst [V.str c]) := upd_same
    generalize upd H2 R (.lst ([c].map V.str)) = H3 at s3 h3
    refine ⟨_, rfl, (by show 1 ≤ sizeLine; decide), fun m hm => ?_⟩
    have s4 := same_upd (o := .lst [V.str c]) hm
    have h4 : (upd H3 m (.lst [V.str c])) m = some (.lst [V.str c]) := upd_same
    generalize upd H3 m (.lst [V.str c]) = H4 at s4 h4
    have ss := ((s1.trans s2).trans s3).trans s4
    have ev : PyData.eqv (.list [.str c]) (.list [.str c]) = true := SeqAt.eqv_refl _ hv.1
    refine ⟨.list [.str c], .list [.str c], .lst (SqL.of (s4 _ _ h3)) (.cons (.str _) .nil), .lst (SqL.of h4) (.cons (.str _) .nil), hv.2, hv.2, _, rfl, ifT ev ?_⟩
    refine ⟨_, rfl, a, C, fs, c, b, rfl, errAt_same ea ss, k, fun H5 s5 => ?_⟩
    refine ⟨_, rfl, rfl, ?_⟩
    rw [decide_eq_true rfl]
    exact q H5 (ss.trans s5)
theorem spell (c : Str) (h : c = "InvalidLevel") : (PyData.list [.str c]).canLay0 = true ∧ SeqAt.shaped (.list [.str c]) = true := by
  subst h
  exact ⟨by decide +kernel, by decide +kernel⟩
end
end K17

set_option Elab.async false
set_option linter.all false
set_option maxRecDepth 100000
set_option maxHeartbeats 4000000
namespace K17
open PySem PySem.Spec PyProof.Rows L2 Gu Ex
section
variable {P : Program} {w : World} {K : PySem.W.Frag} {mg : Str → Option Value} {base : Heap} {f : Addr} {fd : FuncData} {B : String} {tl : List Value}
theorem sc_InvalidLevel_init : FnScope ["self", "value"] ["self", "value"] (defScope (inClass (top 3) 0)) := ⟨rfl, rfl, rfl, by decide +kernel, rfl, by decide +kernel, by decide +kernel⟩
theorem ok_InvalidLevel (o : OexG B tl K (He.ga K "InvalidLevel")) (no : PySem.W.findIn K (.ref (He.ga K "InvalidLevel")) "value" = some none) (F : FnP K "__init__" "InvalidLevel.__init__" (inClass (top 3) 0) f fd) : FnOk P w K mg base CX0 1 f fd ["self", "value"] (spErr (He.ga K "InvalidLevel") "value") := by
  refine F.ok sc_InvalidLevel_init (fun vs H Q E h => ?_) (fun cdv A outer s H vs Q E hr h => ⟨_, PSs.nox (pss_one (ps_fst (B := B) (tl := tl) (pv 0) (pv 1))), ?_⟩)
  · obtain ⟨a, v, rfl, _⟩ := h
    rfl
  · obtain ⟨a, v, rfl, ha, q⟩ := h
    exact ⟨_, rfl, _, rfl, a, _, rfl, o, no, ha, q⟩
theorem sc_InvalidNumber_init : FnScope ["self", "value"] ["self", "value"] (defScope (inClass (top 4) 0)) := ⟨rfl, rfl, rfl, by decide +kernel, rfl, by decide +kernel, by decide +kernel⟩
theorem ok_InvalidNumber (o : OexG B tl K (He.ga K "InvalidNumber")) (no : PySem.W.findIn K (.ref (He.ga K "InvalidNumber")) "value" = some none) (F : FnP K "__init__" "InvalidNumber.__init__" (inClass (top 4) 0) f fd) : FnOk P w K mg base CX0 1 f fd ["self", "value"] (spErr (He.ga K "InvalidNumber") "value") := by
  refine F.ok sc_InvalidNumber_init (fun vs H Q E h => ?_) (fun cdv A outer s H vs Q E hr h => ⟨_, PSs.nox (pss_one (ps_fst (B := B) (tl := tl) (pv 0) (pv 1))), ?_⟩)
  · obtain ⟨a, v, rfl, _⟩ := h
    rfl
  · obtain ⟨a, v, rfl, ha, q⟩ := h
    exact ⟨_, rfl, _, rfl, a, _, rfl, o, no, ha, q⟩
theorem sc_InvalidNumbers_init : FnScope ["self", "position"] ["self", "position"] (defScope (inClass (top 5) 0)) := ⟨rfl, rfl, rfl, by decide +kernel, rfl, by decide +kernel, by decide +kernel⟩
theorem ok_InvalidNumbers (o : OexG B tl K (He.ga K "InvalidNumbers")) (no : PySem.W.findIn K (.ref (He.ga K "InvalidNumbers")) "position" = some none) (F : FnP K "__init__" "InvalidNumbers.__init__" (inClass (top 5) 0) f fd) : FnOk P w K mg base CX0 1 f fd ["self", "position"] (spErr (He.ga K "InvalidNumbers") "position") := by
  refine F.ok sc_InvalidNumbers_init (fun vs H Q E h => ?_) (fun cdv A outer s H vs Q E hr h => ⟨_, PSs.nox (pss_one (ps_fst (B := B) (tl := tl) (pv 0) (pv 1))), ?_⟩)
  · obtain ⟨a, v, rfl, _⟩ := h
    rfl
  · obtain ⟨a, v, rfl, ha, q⟩ := h
    exact ⟨_, rfl, _, rfl, a, _, rfl, o, no, ha, q⟩
theorem sc_InvalidAddress_init : FnScope ["self", "value"] ["self", "value"] (defScope (inClass (top 6) 0)) := ⟨rfl, rfl, rfl, by decide +kernel, rfl, by decide +kernel, by decide +kernel⟩
theorem ok_InvalidAddress (o : OexG B tl K (He.ga K "InvalidAddress")) (no : PySem.W.findIn K (.ref (He.ga K "InvalidAddress")) "value" = some none) (F : FnP K "__init__" "InvalidAddress.__init__" (inClass (top 6) 0) f fd) : FnOk P w K mg base CX0 1 f fd ["self", "value"] (spErr (He.ga K "InvalidAddress") "value") := by
  refine F.ok sc_InvalidAddress_init (fun vs H Q E h => ?_) (fun cdv A outer s H vs Q E hr h => ⟨_, PSs.nox (pss_one (ps_fst (B := B) (tl := tl) (pv 0) (pv 1))), ?_⟩)
  · obtain ⟨a, v, rfl, _⟩ := h
    rfl
  · obtain ⟨a, v, rfl, ha, q⟩ := h
    exact ⟨_, rfl, _, rfl, a, _, rfl, o, no, ha, q⟩
theorem sc_InvalidName_init : FnScope ["self", "value"] ["self", "value"] (defScope (inClass (top 7) 0)) := ⟨rfl, rfl, rfl, by decide +kernel, rfl, by decide +kernel, by decide +kernel⟩
theorem ok_InvalidName (o : OexG B tl K (He.ga K "InvalidName")) (no : PySem.W.findIn K (.ref (He.ga K "InvalidName")) "value" = some none) (F : FnP K "__init__" "InvalidName.__init__" (inClass (top 7) 0) f fd) : FnOk P w K mg base CX0 1 f fd ["self", "value"] (spErr (He.ga K "InvalidName") "value") := by
  refine F.ok sc_InvalidName_init (fun vs H Q E h => ?_) (fun cdv A outer s H vs Q E hr h => ⟨_, PSs.nox (pss_one (ps_fst (B := B) (tl := tl) (pv 0) (pv 1))), ?_⟩)
  · obtain ⟨a, v, rfl, _⟩ := h
    rfl
  · obtain ⟨a, v, rfl, ha, q⟩ := h
    exact ⟨_, rfl, _, rfl, a, _, rfl, o, no, ha, q⟩
theorem sc_InvalidIndex_init : FnScope ["self", "value"] ["self", "value"] (defScope (inClass (top 8) 0)) := ⟨rfl, rfl, rfl, by decide +kernel, rfl, by decide +kernel, by decide +kernel⟩
theorem ok_InvalidIndex (o : OexG B tl K (He.ga K "InvalidIndex")) (no : PySem.W.findIn K (.ref (He.ga K "InvalidIndex")) "value" = some none) (F : FnP K "__init__" "InvalidIndex.__init__" (inClass (top 8) 0) f fd) : FnOk P w K mg base CX0 1 f fd ["self", "value"] (spErr (He.ga K "InvalidIndex") "value") := by
  refine F.ok sc_InvalidIndex_init (fun vs H Q E h => ?_) (fun cdv A outer s H vs Q E hr h => ⟨_, PSs.nox (pss_one (ps_fst (B := B) (tl := tl) (pv 0) (pv 1))), ?_⟩)
  · obtain ⟨a, v, rfl, _⟩ := h
    rfl
  · obtain ⟨a, v, rfl, ha, q⟩ := h
    exact ⟨_, rfl, _, rfl, a, _, rfl, o, no, ha, q⟩
theorem sc_InvalidValue_init : FnScope ["self", "value"] ["self", "value"] (defScope (inClass (top 9) 0)) := ⟨rfl, rfl, rfl, by decide +kernel, rfl, by decide +kernel, by decide +kernel⟩
theorem ok_InvalidValue (o : OexG B tl K (He.ga K "InvalidValue")) (no : PySem.W.findIn K (.ref (He.ga K "InvalidValue")) "value" = some none) (F : FnP K "__init__" "InvalidValue.__init__" (inClass (top 9) 0) f fd) : FnOk P w K mg base CX0 1 f fd ["self", "value"] (spErr (He.ga K "InvalidValue") "value") := by
  refine F.ok sc_InvalidValue_init (fun vs H Q E h => ?_) (fun cdv A outer s H vs Q E hr h => ⟨_, PSs.nox (pss_one (ps_fst (B := B) (tl := tl) (pv 0) (pv 1))), ?_⟩)
  · obtain ⟨a, v, rfl, _⟩ := h
    rfl
  · obtain ⟨a, v, rfl, ha, q⟩ := h
    exact ⟨_, rfl, _, rfl, a, _, rfl, o, no, ha, q⟩
theorem sc_InvalidMoves_init : FnScope ["self", "position"] ["self", "position"] (defScope (inClass (top 10) 0)) := ⟨rfl, rfl, rfl, by decide +kernel, rfl, by decide +kernel, by decide +kernel⟩
theorem ok_InvalidMoves (o : OexG B tl K (He.ga K "InvalidMoves")) (no : PySem.W.findIn K (.ref (He.ga K "InvalidMoves")) "position" = some none) (F : FnP K "__init__" "InvalidMoves.__init__" (inClass (top 10) 0) f fd) : FnOk P w K mg base CX0 1 f fd ["self", "position"] (spErr (He.ga K "InvalidMoves") "position") := by
  refine F.ok sc_InvalidMoves_init (fun vs H Q E h => ?_) (fun cdv A outer s H vs Q E hr h => ⟨_, PSs.nox (pss_one (ps_fst (B := B) (tl := tl) (pv 0) (pv 1))), ?_⟩)
  · obtain ⟨a, v, rfl, _⟩ := h
    rfl
  · obtain ⟨a, v, rfl, ha, q⟩ := h
    exact ⟨_, rfl, _, rfl, a, _, rfl, o, no, ha, q⟩
theorem sc_InvalidCount_init : FnScope ["self", "value"] ["self", "value"] (defScope (inClass (top 11) 0)) := ⟨rfl, rfl, rfl, by decide +kernel, rfl, by decide +kernel, by decide +kernel⟩
theorem ok_InvalidCount (o : OexG B tl K (He.ga K "InvalidCount")) (no : PySem.W.findIn K (.ref (He.ga K "InvalidCount")) "value" = some none) (F : FnP K "__init__" "InvalidCount.__init__" (inClass (top 11) 0) f fd) : FnOk P w K mg base CX0 1 f fd ["self", "value"] (spErr (He.ga K "InvalidCount") "value") := by
  refine F.ok sc_InvalidCount_init (fun vs H Q E h => ?_) (fun cdv A outer s H vs Q E hr h => ⟨_, PSs.nox (pss_one (ps_fst (B := B) (tl := tl) (pv 0) (pv 1))), ?_⟩)
  · obtain ⟨a, v, rfl, _⟩ := h
    rfl
  · obtain ⟨a, v, rfl, ha, q⟩ := h
    exact ⟨_, rfl, _, rfl, a, _, rfl, o, no, ha, q⟩
theorem sc_InvalidRequests_init : FnScope ["self", "position"] ["self", "position"] (defScope (inClass (top 12) 0)) := ⟨rfl, rfl, rfl, by decide +kernel, rfl, by decide +kernel, by decide +kernel⟩
theorem ok_InvalidRequests (o : OexG B tl K (He.ga K "InvalidRequests")) (no : PySem.W.findIn K (.ref (He.ga K "InvalidRequests")) "position" = some none) (F : FnP K "__init__" "InvalidRequests.__init__" (inClass (top 12) 0) f fd) : FnOk P w K mg base CX0 1 f fd ["self", "position"] (spErr (He.ga K "InvalidRequests") "position") := by
  refine F.ok sc_InvalidRequests_init (fun vs H Q E h => ?_) (fun cdv A outer s H vs Q E hr h => ⟨_, PSs.nox (pss_one (ps_fst (B := B) (tl := tl) (pv 0) (pv 1))), ?_⟩)
  · obtain ⟨a, v, rfl, _⟩ := h
    rfl
  · obtain ⟨a, v, rfl, ha, q⟩ := h
    exact ⟨_, rfl, _, rfl, a, _, rfl, o, no, ha, q⟩
theorem sc_InvalidText_init : FnScope ["self", "line"] ["self", "line"] (defScope (inClass (top 14) 0)) := ⟨rfl, rfl, rfl, by decide +kernel, rfl, by decide +kernel, by decide +kernel⟩
theorem ok_InvalidText (o : OexG B tl K (He.ga K "InvalidText")) (no : PySem.W.findIn K (.ref (He.ga K "InvalidText")) "line" = some none) (F : FnP K "__init__" "InvalidText.__init__" (inClass (top 14) 0) f fd) : FnOk P w K mg base CX0 1 f fd ["self", "line"] (spErr (He.ga K "InvalidText") "line") := by
  refine F.ok sc_InvalidText_init (fun vs H Q E h => ?_) (fun cdv A outer s H vs Q E hr h => ⟨_, PSs.nox (pss_one (ps_fst (B := B) (tl := tl) (pv 0) (pv 1))), ?_⟩)
  · obtain ⟨a, v, rfl, _⟩ := h
    rfl
  · obtain ⟨a, v, rfl, ha, q⟩ := h
    exact ⟨_, rfl, _, rfl, a, _, rfl, o, no, ha, q⟩
theorem sc_UnknownBlock_init : FnScope ["self", "value"] ["self", "value"] (defScope (inClass (top 17) 0)) := ⟨rfl, rfl, rfl, by decide +kernel, rfl, by decide +kernel, by decide +kernel⟩
theorem ok_UnknownBlock (o : OexG B tl K (He.ga K "UnknownBlock")) (no : PySem.W.findIn K (.ref (He.ga K "UnknownBlock")) "value" = some none) (F : FnP K "__init__" "UnknownBlock.__init__" (inClass (top 17) 0) f fd) : FnOk P w K mg base CX0 1 f fd ["self", "value"] (spErr (He.ga K "UnknownBlock") "value") := by
  refine F.ok sc_UnknownBlock_init (fun vs H Q E h => ?_) (fun cdv A outer s H vs Q E hr h => ⟨_, PSs.nox (pss_one (ps_fst (B := B) (tl := tl) (pv 0) (pv 1))), ?_⟩)
  · obtain ⟨a, v, rfl, _⟩ := h
    rfl
  · obtain ⟨a, v, rfl, ha, q⟩ := h
    exact ⟨_, rfl, _, rfl, a, _, rfl, o, no, ha, q⟩
theorem sc_UnknownName_init : FnScope ["self", "value"] ["self", "value"] (defScope (inClass (top 18) 0)) := ⟨rfl, rfl, rfl, by decide +kernel, rfl, by decide +kernel, by decide +kernel⟩
theorem ok_UnknownName (o : OexG B tl K (He.ga K "UnknownName")) (no : PySem.W.findIn K (.ref (He.ga K "UnknownName")) "value" = some none) (F : FnP K "__init__" "UnknownName.__init__" (inClass (top 18) 0) f fd) : FnOk P w K mg base CX0 1 f fd ["self", "value"] (spErr (He.ga K "UnknownName") "value") := by
  refine F.ok sc_UnknownName_init (fun vs H Q E h => ?_) (fun cdv A outer s H vs Q E hr h => ⟨_, PSs.nox (pss_one (ps_fst (B := B) (tl := tl) (pv 0) (pv 1))), ?_⟩)
  · obtain ⟨a, v, rfl, _⟩ := h
    rfl
  · obtain ⟨a, v, rfl, ha, q⟩ := h
    exact ⟨_, rfl, _, rfl, a, _, rfl, o, no, ha, q⟩
theorem sc_UnknownTask_init : FnScope ["self", "value"] ["self", "value"] (defScope (inClass (top 19) 0)) := ⟨rfl, rfl, rfl, by decide +kernel, rfl, by decide +kernel, by decide +kernel⟩
theorem ok_UnknownTask (o : OexG B tl K (He.ga K "UnknownTask")) (no : PySem.W.findIn K (.ref (He.ga K "UnknownTask")) "value" = some none) (F : FnP K "__init__" "UnknownTask.__init__" (inClass (top 19) 0) f fd) : FnOk P w K mg base CX0 1 f fd ["self", "value"] (spErr (He.ga K "UnknownTask") "value") := by
  refine F.ok sc_UnknownTask_init (fun vs H Q E h => ?_) (fun cdv A outer s H vs Q E hr h => ⟨_, PSs.nox (pss_one (ps_fst (B := B) (tl := tl) (pv 0) (pv 1))), ?_⟩)
  · obtain ⟨a, v, rfl, _⟩ := h
    rfl
  · obtain ⟨a, v, rfl, ha, q⟩ := h
    exact ⟨_, rfl, _, rfl, a, _, rfl, o, no, ha, q⟩
theorem sc_UnknownTime_init : FnScope ["self", "value"] ["self", "value"] (defScope (inClass (top 20) 0)) := ⟨rfl, rfl, rfl, by decide +kernel, rfl, by decide +kernel, by decide +kernel⟩
theorem ok_UnknownTime (o : OexG B tl K (He.ga K "UnknownTime")) (no : PySem.W.findIn K (.ref (He.ga K "UnknownTime")) "value" = some none) (F : FnP K "__init__" "UnknownTime.__init__" (inClass (top 20) 0) f fd) : FnOk P w K mg base CX0 1 f fd ["self", "value"] (spErr (He.ga K "UnknownTime") "value") := by
  refine F.ok sc_UnknownTime_init (fun vs H Q E h => ?_) (fun cdv A outer s H vs Q E hr h => ⟨_, PSs.nox (pss_one (ps_fst (B := B) (tl := tl) (pv 0) (pv 1))), ?_⟩)
  · obtain ⟨a, v, rfl, _⟩ := h
    rfl
  · obtain ⟨a, v, rfl, ha, q⟩ := h
    exact ⟨_, rfl, _, rfl, a, _, rfl, o, no, ha, q⟩
theorem sc_Occupied_init : FnScope ["self", "address"] ["self", "address"] (defScope (inClass (top 21) 0)) := ⟨rfl, rfl, rfl, by decide +kernel, rfl, by decide +kernel, by decide +kernel⟩
theorem ok_Occupied (o : OexG B tl K (He.ga K "Occupied")) (no : PySem.W.findIn K (.ref (He.ga K "Occupied")) "address" = some none) (F : FnP K "__init__" "Occupied.__init__" (inClass (top 21) 0) f fd) : FnOk P w K mg base CX0 1 f fd ["self", "address"] (spErr (He.ga K "Occupied") "address") := by
  refine F.ok sc_Occupied_init (fun vs H Q E h => ?_) (fun cdv A outer s H vs Q E hr h => ⟨_, PSs.nox (pss_one (ps_fst (B := B) (tl := tl) (pv 0) (pv 1))), ?_⟩)
  · obtain ⟨a, v, rfl, _⟩ := h
    rfl
  · obtain ⟨a, v, rfl, ha, q⟩ := h
    exact ⟨_, rfl, _, rfl, a, _, rfl, o, no, ha, q⟩
theorem sc_NameTaken_init : FnScope ["self", "name"] ["self", "name"] (defScope (inClass (top 22) 0)) := ⟨rfl, rfl, rfl, by decide +kernel, rfl, by decide +kernel, by decide +kernel⟩
theorem ok_NameTaken (o : OexG B tl K (He.ga K "NameTaken")) (no : PySem.W.findIn K (.ref (He.ga K "NameTaken")) "name" = some none) (F : FnP K "__init__" "NameTaken.__init__" (inClass (top 22) 0) f fd) : FnOk P w K mg base CX0 1 f fd ["self", "name"] (spErr (He.ga K "NameTaken") "name") := by
  refine F.ok sc_NameTaken_init (fun vs H Q E h => ?_) (fun cdv A outer s H vs Q E hr h => ⟨_, PSs.nox (pss_one (ps_fst (B := B) (tl := tl) (pv 0) (pv 1))), ?_⟩)
  · obtain ⟨a, v, rfl, _⟩ := h
    rfl
  · obtain ⟨a, v, rfl, ha, q⟩ := h
    exact ⟨_, rfl, _, rfl, a, _, rfl, o, no, ha, q⟩
theorem sc_Pinned_init : FnScope ["self", "name"] ["self", "name"] (defScope (inClass (top 23) 0)) := ⟨rfl, rfl, rfl, by decide +kernel, rfl, by decide +kernel, by decide +kernel⟩
theorem ok_Pinned (o : OexG B tl K (He.ga K "Pinned")) (no : PySem.W.findIn K (.ref (He.ga K "Pinned")) "name" = some none) (F : FnP K "__init__" "Pinned.__init__" (inClass (top 23) 0) f fd) : FnOk P w K mg base CX0 1 f fd ["self", "name"] (spErr (He.ga K "Pinned") "name") := by
  refine F.ok sc_Pinned_init (fun vs H Q E h => ?_) (fun cdv A outer s H vs Q E hr h => ⟨_, PSs.nox (pss_one (ps_fst (B := B) (tl := tl) (pv 0) (pv 1))), ?_⟩)
  · obtain ⟨a, v, rfl, _⟩ := h
    rfl
  · obtain ⟨a, v, rfl, ha, q⟩ := h
    exact ⟨_, rfl, _, rfl, a, _, rfl, o, no, ha, q⟩
theorem sc_NotPinned_init : FnScope ["self", "name"] ["self", "name"] (defScope (inClass (top 24) 0)) := ⟨rfl, rfl, rfl, by decide +kernel, rfl, by decide +kernel, by decide +kernel⟩
theorem ok_NotPinned (o : OexG B tl K (He.ga K "NotPinned")) (no : PySem.W.findIn K (.ref (He.ga K "NotPinned")) "name" = some none) (F : FnP K "__init__" "NotPinned.__init__" (inClass (top 24) 0) f fd) : FnOk P w K mg base CX0 1 f fd ["self", "name"] (spErr (He.ga K "NotPinned") "name") := by
  refine F.ok sc_NotPinned_init (fun vs H Q E h => ?_) (fun cdv A outer s H vs Q E hr h => ⟨_, PSs.nox (pss_one (ps_fst (B := B) (tl := tl) (pv 0) (pv 1))), ?_⟩)
  · obtain ⟨a, v, rfl, _⟩ := h
    rfl
  · obtain ⟨a, v, rfl, ha, q⟩ := h
    exact ⟨_, rfl, _, rfl, a, _, rfl, o, no, ha, q⟩
theorem sc_NoReservation_init : FnScope ["self", "owner"] ["self", "owner"] (defScope (inClass (top 25) 0)) := ⟨rfl, rfl, rfl, by decide +kernel, rfl, by decide +kernel, by decide +kernel⟩
theorem ok_NoReservation (o : OexG B tl K (He.ga K "NoReservation")) (no : PySem.W.findIn K (.ref (He.ga K "NoReservation")) "owner" = some none) (F : FnP K "__init__" "NoReservation.__init__" (inClass (top 25) 0) f fd) : FnOk P w K mg base CX0 1 f fd ["self", "owner"] (spErr (He.ga K "NoReservation") "owner") := by
  refine F.ok sc_NoReservation_init (fun vs H Q E h => ?_) (fun cdv A outer s H vs Q E hr h => ⟨_, PSs.nox (pss_one (ps_fst (B := B) (tl := tl) (pv 0) (pv 1))), ?_⟩)
  · obtain ⟨a, v, rfl, _⟩ := h
    rfl
  · obtain ⟨a, v, rfl, ha, q⟩ := h
    exact ⟨_, rfl, _, rfl, a, _, rfl, o, no, ha, q⟩
theorem sc_NotReady_init : FnScope ["self", "task"] ["self", "task"] (defScope (inClass (top 26) 0)) := ⟨rfl, rfl, rfl, by decide +kernel, rfl, by decide +kernel, by decide +kernel⟩
theorem ok_NotReady (o : OexG B tl K (He.ga K "NotReady")) (no : PySem.W.findIn K (.ref (He.ga K "NotReady")) "task" = some none) (F : FnP K "__init__" "NotReady.__init__" (inClass (top 26) 0) f fd) : FnOk P w K mg base CX0 1 f fd ["self", "task"] (spErr (He.ga K "NotReady") "task") := by
  refine F.ok sc_NotReady_init (fun vs H Q E h => ?_) (fun cdv A outer s H vs Q E hr h => ⟨_, PSs.nox (pss_one (ps_fst (B := B) (tl := tl) (pv 0) (pv 1))), ?_⟩)
  · obtain ⟨a, v, rfl, _⟩ := h
    rfl
  · obtain ⟨a, v, rfl, ha, q⟩ := h
    exact ⟨_, rfl, _, rfl, a, _, rfl, o, no, ha, q⟩
theorem sc_NoRoom_init : FnScope ["self", "level"] ["self", "level"] (defScope (inClass (top 27) 0)) := ⟨rfl, rfl, rfl, by decide +kernel, rfl, by decide +kernel, by decide +kernel⟩
theorem ok_NoRoom (o : OexG B tl K (He.ga K "NoRoom")) (no : PySem.W.findIn K (.ref (He.ga K "NoRoom")) "level" = some none) (F : FnP K "__init__" "NoRoom.__init__" (inClass (top 27) 0) f fd) : FnOk P w K mg base CX0 1 f fd ["self", "level"] (spErr (He.ga K "NoRoom") "level") := by
  refine F.ok sc_NoRoom_init (fun vs H Q E h => ?_) (fun cdv A outer s H vs Q E hr h => ⟨_, PSs.nox (pss_one (ps_fst (B := B) (tl := tl) (pv 0) (pv 1))), ?_⟩)
  · obtain ⟨a, v, rfl, _⟩ := h
    rfl
  · obtain ⟨a, v, rfl, ha, q⟩ := h
    exact ⟨_, rfl, _, rfl, a, _, rfl, o, no, ha, q⟩
theorem sc_TooManyPieces_init : FnScope ["self", "limit"] ["self", "limit"] (defScope (inClass (top 28) 0)) := ⟨rfl, rfl, rfl, by decide +kernel, rfl, by decide +kernel, by decide +kernel⟩
theorem ok_TooManyPieces (o : OexG B tl K (He.ga K "TooManyPieces")) (no : PySem.W.findIn K (.ref (He.ga K "TooManyPieces")) "limit" = some none) (F : FnP K "__init__" "TooManyPieces.__init__" (inClass (top 28) 0) f fd) : FnOk P w K mg base CX0 1 f fd ["self", "limit"] (spErr (He.ga K "TooManyPieces") "limit") := by
  refine F.ok sc_TooManyPieces_init (fun vs H Q E h => ?_) (fun cdv A outer s H vs Q E hr h => ⟨_, PSs.nox (pss_one (ps_fst (B := B) (tl := tl) (pv 0) (pv 1))), ?_⟩)
  · obtain ⟨a, v, rfl, _⟩ := h
    rfl
  · obtain ⟨a, v, rfl, ha, q⟩ := h
    exact ⟨_, rfl, _, rfl, a, _, rfl, o, no, ha, q⟩
theorem sc_InvalidSizes_init : FnScope ["self", "problem", "position"] ["self", "problem", "position"] (defScope (inClass (top 2) 0)) := ⟨rfl, rfl, rfl, by decide +kernel, rfl, by decide +kernel, by decide +kernel⟩
theorem ok_InvalidSizes (o : OexC K (He.ga K "InvalidSizes")) (no : PySem.W.findIn K (.ref (He.ga K "InvalidSizes")) "problem" = some none) (nm : PySem.W.findIn K (.ref (He.ga K "InvalidSizes")) "position" = some none) (F : FnP K "__init__" "InvalidSizes.__init__" (inClass (top 2) 0) f fd) : FnOk P w K mg base CX0 1 f fd ["self", "problem", "position"] (spErr2 (He.ga K "InvalidSizes") "problem" "position") := by
  refine F.ok sc_InvalidSizes_init (fun vs H Q E h => ?_) (fun cdv A outer s H vs Q E hr h => ⟨_, PSs.nox (pss_cons (ps_ost (pv 0) (pv 1)) (pss_one (ps_ost (pv 0) (pv 2)))), ?_⟩)
  · obtain ⟨a, u, v, rfl, _⟩ := h
    rfl
  · obtain ⟨a, u, v, rfl, ha, q⟩ := h
    refine ⟨_, rfl, _, rfl, a, _, rfl, o, no, .inl ⟨ha, fun dx hdx ne => ?_⟩⟩
    exact ⟨_, rfl, _, rfl, a, _, rfl, o, nm, .inr ⟨dx, _, upd_same, (by rw [upd_ne ne, upd_same]), (by show 1 ≤ 900; decide), q dx hdx ne⟩⟩
theorem sc_InvalidProgram_init : FnScope ["self", "task", "path"] ["self", "task", "path"] (defScope (inClass (top 13) 0)) := ⟨rfl, rfl, rfl, by decide +kernel, rfl, by decide +kernel, by decide +kernel⟩
theorem ok_InvalidProgram (o : OexC K (He.ga K "InvalidProgram")) (no : PySem.W.findIn K (.ref (He.ga K "InvalidProgram")) "task" = some none) (nm : PySem.W.findIn K (.ref (He.ga K "InvalidProgram")) "path" = some none) (F : FnP K "__init__" "InvalidProgram.__init__" (inClass (top 13) 0) f fd) : FnOk P w K mg base CX0 1 f fd ["self", "task", "path"] (spErr2 (He.ga K "InvalidProgram") "task" "path") := by
  refine F.ok sc_InvalidProgram_init (fun vs H Q E h => ?_) (fun cdv A outer s H vs Q E hr h => ⟨_, PSs.nox (pss_cons (ps_ost (pv 0) (pv 1)) (pss_one (ps_ost (pv 0) (pv 2)))), ?_⟩)
  · obtain ⟨a, u, v, rfl, _⟩ := h
    rfl
  · obtain ⟨a, u, v, rfl, ha, q⟩ := h
    refine ⟨_, rfl, _, rfl, a, _, rfl, o, no, .inl ⟨ha, fun dx hdx ne => ?_⟩⟩
    exact ⟨_, rfl, _, rfl, a, _, rfl, o, nm, .inr ⟨dx, _, upd_same, (by rw [upd_ne ne, upd_same]), (by show 1 ≤ 900; decide), q dx hdx ne⟩⟩
end
end K17

set_option Elab.async false
set_option linter.all false
set_option maxRecDepth 100000
set_option maxHeartbeats 4000000
namespace K17
open PySem PySem.Spec PyProof.Rows L2 Gu Ex
theorem op_mul_str {X : Cx} : OpR X (binaryOp .Mult) (fun x y H Q => ∃ (i : Str) (n : Int), x = .str i ∧ y = .int n ∧ MulOk i n ∧ Q (.str (Txt.mul i n)) H) := by
  intro pins s σ H x y v u Q I rx ry h
  obtain ⟨i, n, rfl, rfl, ok, q⟩ := h
  obtain ⟨t, rfl⟩ := rx
  obtain ⟨t', rfl⟩ := ry
  exact PySem.SB.mul ok fun t' k => ⟨.str _, H, I.tok _, ⟨_, rfl⟩, q⟩
/-- a value that stays what it is while only the drawing list changes -/
def Val (K : PySem.W.Frag) (r : Addr) (H : Hp) (v : V) : Prop := ∀ H', Stp r H H' → ∃ d, Tq K H' v d 2 100
theorem Val.step {K : PySem.W.Frag} {r : Addr} {H H1 : Hp} {v : V} (h : Val K r H v) (s : Stp r H H1) : Val K r H1 v := fun H' t => h H' (s.trans t)
theorem upd_upd {H : Hp} {p : Addr} {a b : HO} : upd (upd H p a) p b = upd H p b := by
  funext x
  by_cases h : x = p
  · rw [h, upd_same, upd_same]
  · rw [upd_ne h, upd_ne h, upd_ne h]
section
variable {K : PySem.W.Frag} {r p : Addr} {H : Hp}
theorem val_int {x : Int} (h1 : -(10 ^ 39) ≤ x) (h2 : x ≤ 10 ^ 39) : Val K r H (.int x) := fun _ _ => ⟨_, (tq_int h1 h2).mono (by decide) (by decide)⟩
theorem val_non : Val K r H .non := fun _ _ => ⟨_, tq_non.mono (by decide) (by decide)⟩
theorem val_bl (b : Bool) : Val K r H (.bl b) := fun _ _ => ⟨_, (tq_bl b).mono (by decide) (by decide)⟩
theorem val_text (z : Str) (h2 : (reprText z).length ≤ 41) : Val K r H (.str z) := fun _ _ => ⟨.str z, ⟨.str _, rfl, Nat.zero_le _, Nat.le_trans h2 (by decide)⟩⟩
theorem val_lst {xs : List V} {ds : List PyData} (ne : p ≠ r) (h : H p = some (.lst xs)) (hd : ∀ H', DqAll K H' xs ds) (sh : (PyData.list ds).showable = true) (dp : (PyData.list ds).depth ≤ 2) (ln : (PyData.list ds).shown.length ≤ 100) : Val K r H (.ref p) := fun H' st => ⟨_, ⟨.lst (SqL.of (st.2 p _ ne h)) (hd H'), sh, dp, ln⟩⟩
theorem val_tup {xs : List V} {ds : List PyData} (ne : p ≠ r) (h : H p = some (.tup xs)) (hd : ∀ H', DqAll K H' xs ds) (sh : (PyData.tuple ds).showable = true) (dp : (PyData.tuple ds).depth ≤ 2) (ln : (PyData.tuple ds).shown.length ≤ 100) : Val K r H (.ref p) := fun H' st => ⟨_, ⟨.tup (SqT.of (st.2 p _ ne h)) (hd H'), sh, dp, ln⟩⟩
theorem val_dct {kvs : List (Key × V)} {ds : List (PyData × PyData)} (ne : p ≠ r) (h : H p = some (.dK kvs)) (h1 : ∀ H', DqAll K H' (kvs.map fun p => kV p.1) (ds.map (·.1))) (h2 : ∀ H', DqAll K H' (kvs.map (·.2)) (ds.map (·.2)))
    (sh : (PyData.dict ds).showable = true) (dp : (PyData.dict ds).depth ≤ 2) (ln : (PyData.dict ds).shown.length ≤ 100) : Val K r H (.ref p) := fun H' st => ⟨_, ⟨.dct (st.2 p _ ne h) (h1 H') (h2 H'), sh, dp, ln⟩⟩
end
section
variable {P : Program} {w : World} {K : PySem.W.Frag} {mg : Str → Option Value} {base : Heap} {f : Addr} {fd : FuncData}
def spAny (K : PySem.W.Frag) : Sp := fun vs H Q _ => ∃ r : Addr, vs = [.ref r] ∧ Rng H r ∧ ∀ v H', Stp r H H' → Val K r H' v → Q v H'
theorem sc__law_any : FnScope ["_law_rng_here", "_law_far", "_law_some"] ["_law_rng_here"] (defScope (top 37)) := ⟨rfl, rfl, rfl, by decide +kernel, rfl, by decide +kernel, by decide +kernel⟩
theorem ok_any (T : Tx K mg) (D__law_draw : Df P w K mg base 1 "_law_draw" ["_law_rng_here", "_law_many"] spDraw) (D__law_choice : Df P w K mg base 2 "_law_choice" ["_law_rng_here", "_law_options"] spChoice) (F : FnP K "_law_any" "_law_any" (top 37) f fd) :
    FnOk P w K mg base CX0 3 f fd ["_law_rng_here"] (spAny K) := by
  refine F.ok sc__law_any (fun vs H Q E h => ?_) (fun cdv A outer s H vs Q E hr h => ⟨_, PSs.nox (pss_cons (ps_set (i := 1) sc__law_any.nd rfl (by first | exact Or.inl rfl | exact Or.inr rfl) (pe_op op_add (pe_op op_pow pe_int pe_int) (pcall D__law_draw hr (pa_cons (pv 0) (pa_cons (pe_op op_pow pe_int pe_int) pa_nil))))) (pss_cons (ps_set (i := 2) sc__law_any.nd rfl (by first | exact Or.inl rfl | exact Or.inr rfl) (pe_lst (pa_cons pe_non (pa_cons pe_bl (pa_cons pe_bl (pa_cons (pe_un un_neg pe_int) (pa_cons pe_int (pa_cons pe_int (pa_cons pe_int (pa_cons (pv 1) (pa_cons (pe_un un_neg (pv 1)) (pa_cons pe_str (pa_cons pe_str (pa_cons pe_str (pa_cons (pe_tup pa_nil) (pa_cons (pe_lst pa_nil) (pa_cons pe_dnewK (pa_cons (pe_lst (pa_cons pe_int pa_nil)) (pa_cons (pe_tup (pa_cons pe_int pa_nil)) (pa_cons (pe_disp (pps_cons pe_int pe_int pps_nil) (by rfl) (by rfl) (fun z => by cases z) (by decide)) (pa_cons (pe_op op_mul_str pe_str pe_int) pa_nil))))))))))))))))))))) (pss_one (ps_ret (pcall D__law_choice hr (pa_cons (pv 0) (pa_cons (pv 2) pa_nil))))))), ?_⟩)
  · obtain ⟨r, rfl, _⟩ := h
    rfl
  · obtain ⟨r, rfl, hR, q⟩ := h
    have pw20 : CPow 10 20 := ⟨by decide, by decide, by decide⟩
    have pw9 : CPow 10 9 := ⟨by decide, by decide, by decide⟩
    have e40 : (10 : Int) ^ 40 = 10000000000000000000000000000000000000000 := by decide
    have e39 : (10 : Int) ^ 39 = 1000000000000000000000000000000000000000 := by decide
    have e20 : (10 : Int) ^ (20 : Int).toNat = 100000000000000000000 := by decide
    have e9 : (10 : Int) ^ (9 : Int).toNat = 1000000000 := by decide
    refine ⟨_, _, rfl, rfl, pw20, _, rfl, _, _, rfl, rfl, pw9, r, _, rfl, hR, by rw [e9]; decide, by rw [e9, e40]; decide, fun d H1 d0 d1 s1 => ⟨_, _, rfl, rfl, ?_⟩⟩
    rw [e9] at d1
    rw [e20]
    refine ⟨_, rfl, _, rfl, _, rfl, _, rfl, ?_⟩
    refine ⟨(by show 0 ≤ sizeLine; decide), fun p1 h1 => ?_⟩
    have t1 := s1.new (o := .tup []) h1
    have n1 : p1 ≠ r := (s1.1.ne h1).symm
    have k1 : (upd H1 p1 (.tup [])) p1 = some (.tup []) := upd_same
    generalize upd H1 p1 (.tup []) = G1 at t1 k1
    refine ⟨(by show 0 ≤ sizeLine; decide), fun p2 h2 => ?_⟩
    have t2 := t1.new (o := .lst []) h2
    have u2 := (Stp.refl t1.1).new (o := .lst []) h2
    have n2 : p2 ≠ r := (t1.1.ne h2).symm
    have k2 : (upd G1 p2 (.lst [])) p2 = some (.lst []) := upd_same
    generalize upd G1 p2 (.lst []) = G2 at t2 u2 k2
    refine fun p3 h3 => ?_
    have t3 := t2.new (o := .dK []) h3
    have u3 := (Stp.refl t2.1).new (o := .dK []) h3
    have n3 : p3 ≠ r := (t2.1.ne h3).symm
    have k3 : (upd G2 p3 (.dK [])) p3 = some (.dK []) := upd_same
    generalize upd G2 p3 (.dK []) = G3 at t3 u3 k3
    refine ⟨(by show 1 ≤ sizeLine; decide), fun p4 h4 => ?_⟩
    have t4 := t3.new (o := .lst [.int 0]) h4
    have u4 := (Stp.refl t3.1).new (o := .lst [.int 0]) h4
    have n4 : p4 ≠ r := (t3.1.ne h4).symm
    have k4 : (upd G3 p4 (.lst [.int 0])) p4 = some (.lst [.int 0]) := upd_same
    generalize upd G3 p4 (.lst [.int 0]) = G4 at t4 u4 k4
    refine ⟨(by show 1 ≤ sizeLine; decide), fun p5 h5 => ?_⟩
    have t5 := t4.new (o := .tup [.int 1]) h5
    have u5 := (Stp.refl t4.1).new (o := .tup [.int 1]) h5
    have n5 : p5 ≠ r := (t4.1.ne h5).symm
    have k5 : (upd G4 p5 (.tup [.int 1])) p5 = some (.tup [.int 1]) := upd_same
    generalize upd G4 p5 (.tup [.int 1]) = G5 at t5 u5 k5
    refine fun p6 h6 => ⟨upd_same, [(Sum.inl 1, .int 2)], rfl, by decide, ?_⟩
    rw [upd_upd, show mergeK [] [((Sum.inl 1 : Key), V.int 2)] = [((Sum.inl 1 : Key), V.int 2)] from rfl]
    have t6 := t5.new (o := .dK [(Sum.inl 1, .int 2)]) h6
    have u6 := (Stp.refl t5.1).new (o := .dK [(Sum.inl 1, .int 2)]) h6
    have n6 : p6 ≠ r := (t5.1.ne h6).symm
    have k6 : (upd G5 p6 (.dK [(Sum.inl 1, .int 2)])) p6 = some (.dK [(Sum.inl 1, .int 2)]) := upd_same
    generalize upd G5 p6 (.dK [(Sum.inl 1, .int 2)]) = G6 at t6 u6 k6
    refine ⟨_, _, rfl, rfl, ⟨by decide, by decide, by decide +kernel⟩, (by show 19 ≤ sizeLine; decide), fun l hl => ?_⟩
    refine ⟨_, rfl, _, rfl, r, l, _, rfl, (t6.new hl).1, upd_same, (t6.1.ne hl).symm, (by show 1 ≤ 19; decide), (by show 19 ≤ 1000; decide), fun v H7 hv s7 => ?_⟩
    have u7 : Stp r G6 H7 := ((Stp.refl t6.1).new hl).trans s7
    have w5 := u6.trans u7
    have w4 := u5.trans w5
    have w3 := u4.trans w4
    have w2 := u3.trans w3
    have w1 := u2.trans w2
    refine q v H7 (t6.trans u7) ?_
    simp only [List.mem_cons, List.not_mem_nil, or_false] at hv
    rcases hv with rfl | rfl | rfl | rfl | rfl | rfl | rfl | rfl | rfl | rfl | rfl | rfl | rfl | rfl | rfl | rfl | rfl | rfl | rfl
    · exact val_non
    · exact val_bl _
    · exact val_bl _
    · exact val_int (by decide) (by decide)
    · exact val_int (by decide) (by decide)
    · exact val_int (by decide) (by decide)
    · exact val_int (by decide) (by decide)
    · exact val_int (by omega) (by omega)
    · exact val_int (by omega) (by omega)
    · exact val_text _ (by decide +kernel)
    · exact val_text _ (by decide +kernel)
    · exact val_text _ (by decide +kernel)
    · exact val_tup n1 (w1.2 _ _ n1 k1) (fun _ => .nil) (by decide +kernel) (by decide +kernel) (by decide +kernel)
    · exact val_lst n2 (w2.2 _ _ n2 k2) (fun _ => .nil) (by decide +kernel) (by decide +kernel) (by decide +kernel)
    · exact val_dct (ds := []) n3 (w3.2 _ _ n3 k3) (fun _ => .nil) (fun _ => .nil) (by decide +kernel) (by decide +kernel) (by decide +kernel)
    · exact val_lst n4 (w4.2 _ _ n4 k4) (fun _ => .cons (.int 0) .nil) (by decide +kernel) (by decide +kernel) (by decide +kernel)
    · exact val_tup n5 (w5.2 _ _ n5 k5) (fun _ => .cons (.int 1) .nil) (by decide +kernel) (by decide +kernel) (by decide +kernel)
    · exact val_dct (ds := [(.int 1, .int 2)]) n6 (u7.2 _ _ n6 k6) (fun _ => .cons (.int 1) .nil) (fun _ => .cons (.int 2) .nil) (by decide +kernel) (by decide +kernel) (by decide +kernel)
    · exact val_text _ (by decide +kernel)
end
end K17

set_option Elab.async false
set_option linter.all false
set_option maxRecDepth 100000
set_option maxHeartbeats 4000000
namespace K17
open PySem PySem.Spec PyProof.Rows L2 Gu Ex
/-- what the law asks of the error class c over the base b -/
structure Cl (K : PySem.W.Frag) (c : Str) (b : Nat) : Prop where
  kt : Kt K (He.ga K c) c b
  fl : (firsts.filter fun d => c == d) ++ (lasts.filter fun d => c == d) = [c]
  sp : (PyData.list [.str c]).canLay0 = true ∧ SeqAt.shaped (.list [.str c]) = true
/-- errors of the classes cs over the base b -/
inductive Es (K : PySem.W.Frag) (b : Nat) (H : Hp) : List Addr → List Str → Prop
  | nil : Es K b H [] []
  | cons {a : Addr} {c : Str} {fs : List (Str × V)} {as : List Addr} {cs : List Str} : ErrAt H a (He.ga K c) fs → Cl K c b → Es K b H as cs → Es K b H (a :: as) (c :: cs)
theorem Es.at_ {K : PySem.W.Frag} {b : Nat} {H : Hp} : ∀ {as : List Addr} {cs : List Str}, Es K b H as cs → ∀ {i : Nat} {c : Str}, cs[i]? = some c → ∃ a fs, as[i]? = some a ∧ ErrAt H a (He.ga K c) fs ∧ Cl K c b
  | _, _, .nil, i, c, h => by cases h
  | _, _, .cons e cl r, 0, c, h => by
    cases h
    exact ⟨_, _, rfl, e, cl⟩
  | _, _, .cons e cl r, i + 1, c, h => r.at_ h
/-- at a an error whose field n holds v -/
def Fl (K : PySem.W.Frag) (n : Str) (v : V) (H : Hp) (a : Addr) : Prop := ∃ C fs, ErrAt H a C fs ∧ XfC K C ∧ PySem.W.findIn K (.ref C) n = some none ∧ fs.lookup n = some v
theorem Fl.same {K : PySem.W.Frag} {n : Str} {v : V} {H H' : Hp} {a : Addr} (h : Fl K n v H a) (s : Same H H') : Fl K n v H' a := by
  obtain ⟨C, fs, e, x, y, z⟩ := h
  exact ⟨C, fs, errAt_same e s, x, y, z⟩
theorem errAt_lst {H : Hp} {a C l : Addr} {fs : List (Str × V)} {xs ys : List V} (h : ErrAt H a C fs) (hl : H l = some (.lst xs)) : ErrAt (upd H l (.lst ys)) a C fs := by
  have kp : ∀ c o, c ≠ l → H c = some o → (upd H l (.lst ys)) c = some o := fun c o n e => by
    rw [upd_ne n]
    exact e
  rcases h with ⟨dx, h1, h2⟩ | ⟨e, h1⟩
  · exact .inl ⟨dx, kp _ _ (ne_of h1 hl (fun z => by cases z)) h1, kp _ _ (ne_of h2 hl (fun z => by cases z)) h2⟩
  · exact .inr ⟨e, kp _ _ (ne_of h1 hl (fun z => by cases z)) h1⟩
theorem str_of {cs : List Str} {i : Nat} {y : V} (h : (cs.map V.str)[i]? = some y) : ∃ c, cs[i]? = some c ∧ y = .str c := by
  rw [List.getElem?_map] at h
  cases e : cs[i]? with
  | none => rw [e] at h; cases h
  | some c =>
    rw [e] at h
    exact ⟨c, rfl, (Option.some.inj h).symm⟩
theorem ref_at {as : List Addr} {i : Nat} {a : Addr} (h : as[i]? = some a) : atI (as.map V.ref) (i : Int) = some (.ref a) := atI_nat (by rw [List.getElem?_map, h]; rfl)
structure Ers (P : Program) (w : World) (K : PySem.W.Frag) (mg : Str → Option Value) (base : Heap) : Prop where
  InvalidSizes : E2 P w K mg base "InvalidSizes" "problem" "position"
  c_InvalidSizes : Cl K "InvalidSizes" 0
  InvalidLevel : E1 P w K mg base "InvalidLevel" "value"
  c_InvalidLevel : Cl K "InvalidLevel" 0
  InvalidNumber : E1 P w K mg base "InvalidNumber" "value"
  c_InvalidNumber : Cl K "InvalidNumber" 0
  InvalidNumbers : E1 P w K mg base "InvalidNumbers" "position"
  c_InvalidNumbers : Cl K "InvalidNumbers" 0
  InvalidAddress : E1 P w K mg base "InvalidAddress" "value"
  c_InvalidAddress : Cl K "InvalidAddress" 0
  InvalidName : E1 P w K mg base "InvalidName" "value"
  c_InvalidName : Cl K "InvalidName" 0
  InvalidIndex : E1 P w K mg base "InvalidIndex" "value"
  c_InvalidIndex : Cl K "InvalidIndex" 0
  InvalidValue : E1 P w K mg base "InvalidValue" "value"
  c_InvalidValue : Cl K "InvalidValue" 0
  InvalidMoves : E1 P w K mg base "InvalidMoves" "position"
  c_InvalidMoves : Cl K "InvalidMoves" 0
  InvalidCount : E1 P w K mg base "InvalidCount" "value"
  c_InvalidCount : Cl K "InvalidCount" 0
  InvalidRequests : E1 P w K mg base "InvalidRequests" "position"
  c_InvalidRequests : Cl K "InvalidRequests" 0
  InvalidProgram : E2 P w K mg base "InvalidProgram" "task" "path"
  c_InvalidProgram : Cl K "InvalidProgram" 0
  InvalidText : E1 P w K mg base "InvalidText" "line"
  c_InvalidText : Cl K "InvalidText" 0
  c_InvalidOperation : Cl K "InvalidOperation" 0
  c_InvalidCommand : Cl K "InvalidCommand" 0
  UnknownBlock : E1 P w K mg base "UnknownBlock" "value"
  c_UnknownBlock : Cl K "UnknownBlock" 1
  UnknownName : E1 P w K mg base "UnknownName" "value"
  c_UnknownName : Cl K "UnknownName" 1
  UnknownTask : E1 P w K mg base "UnknownTask" "value"
  c_UnknownTask : Cl K "UnknownTask" 1
  UnknownTime : E1 P w K mg base "UnknownTime" "value"
  c_UnknownTime : Cl K "UnknownTime" 1
  Occupied : E1 P w K mg base "Occupied" "address"
  c_Occupied : Cl K "Occupied" 2
  NameTaken : E1 P w K mg base "NameTaken" "name"
  c_NameTaken : Cl K "NameTaken" 2
  Pinned : E1 P w K mg base "Pinned" "name"
  c_Pinned : Cl K "Pinned" 2
  NotPinned : E1 P w K mg base "NotPinned" "name"
  c_NotPinned : Cl K "NotPinned" 2
  NoReservation : E1 P w K mg base "NoReservation" "owner"
  c_NoReservation : Cl K "NoReservation" 2
  NotReady : E1 P w K mg base "NotReady" "task"
  c_NotReady : Cl K "NotReady" 2
  NoRoom : E1 P w K mg base "NoRoom" "level"
  c_NoRoom : Cl K "NoRoom" 3
  TooManyPieces : E1 P w K mg base "TooManyPieces" "limit"
  c_TooManyPieces : Cl K "TooManyPieces" 3
end K17

set_option Elab.async false
set_option linter.all false
set_option maxRecDepth 100000
set_option maxHeartbeats 4000000
namespace K17
open PySem PySem.Spec PyProof.Rows L2 Gu Ex
def Fls (K : PySem.W.Frag) (n : Str) (v : V) (H : Hp) : List Addr → Prop
  | [] => True
  | a :: r => Fl K n v H a ∧ Fls K n v H r
theorem Fls.at_ {K : PySem.W.Frag} {n : Str} {v : V} {H : Hp} : ∀ {as : List Addr}, Fls K n v H as → ∀ {i : Nat} {a : Addr}, as[i]? = some a → Fl K n v H a
  | _ :: _, h, 0, a, e => by
    cases e
    exact h.1
  | _ :: _, h, i + 1, a, e => Fls.at_ h.2 e
theorem tq_rep {K : PySem.W.Frag} {H : Hp} {v : V} {d : PyData} {n m : Nat} (t : Tq K H v d n m) : ∀ k, TqAll K H (List.replicate k v) (List.replicate k d) n m
  | 0 => ⟨.nil, rfl, Nat.zero_le _, Nat.zero_le _⟩
  | k + 1 => by
    obtain ⟨a, b, c, e⟩ := tq_rep t k
    refine ⟨.cons t.dq a, ?_, ?_, ?_⟩
    · show (d.showable && PyData.showableAll (List.replicate k d)) = true
      rw [t.sh, b]
      rfl
    · show max d.depth (PyData.depthAll (List.replicate k d)) ≤ n
      have := t.dp
      omega
    · show (d.shown.length + ((PyData.shownAll (List.replicate k d)).map (·.length)).sum) + 2 * ((PyData.shownAll (List.replicate k d)).length + 1) ≤ ((List.replicate k v).length + 1) * (m + 2)
      have := t.ln
      rw [Nat.add_mul, Nat.one_mul]
      omega
theorem tq_lst {K : PySem.W.Frag} {H : Hp} {v : V} {d : PyData} {a : Addr} (t : Tq K H v d 2 100) (k : Nat) (hk : k ≤ 14) (h : H a = some (.lst (List.replicate k v))) : Tq K H (.ref a) (.list (List.replicate k d)) 3 2000 := by
  refine ((tq_rep t k).lst h).mono (by decide) ?_
  rw [List.length_replicate]
  omega
theorem rep_more (v : V) (i : Nat) : List.replicate i v ++ [v] = List.replicate (i + 1) v := by rw [List.replicate_succ']
section
variable {P : Program} {w : World} {K : PySem.W.Frag} {mg : Str → Option Value} {base : Heap} {f : Addr} {fd : FuncData}
/-- a value that repr shows -/
def spSeen (K : PySem.W.Frag) : Sp := fun vs H Q _ => ∃ (v : V) (d : PyData), vs = [v] ∧ Tq K H v d 2 100 ∧ ∀ H', Same H H' → Q (.bl true) H'
theorem sc__law_values_right : FnScope ["_law_near", "_law_found", "_law_named", "_law_words", "_law_k", "_law_word", "_law_e"] ["_law_near"] (defScope (top 38)) := ⟨rfl, rfl, rfl, by decide +kernel, rfl, by decide +kernel, by decide +kernel⟩
theorem ok_values (T : Tx K mg) (M : Ers P w K mg base) (D__law_is : Df P w K mg base 2 "_law_is" ["_law_e", "_law_word", "_law_base_here"] (spIs K)) (F : FnP K "_law_values_right" "_law_values_right" (top 38) f fd) : FnG P w K mg base CX0 3 f fd ["_law_near"] (spSeen K) := by
  refine okG F sc__law_values_right (fun vs H Q E h => ?_) (fun cdv A outer s H vs Q E hr h => ⟨_, PSs.nox (pss_cons (ps_set (i := 1) sc__law_values_right.nd rfl (by first | exact Or.inl rfl | exact Or.inr rfl) (pe_lst (pa_cons (pmk1 M.InvalidLevel hr.r (pa_cons (pv 0) pa_nil)) (pa_cons (pmk1 M.InvalidNumber hr.r (pa_cons (pv 0) pa_nil)) (pa_cons (pmk1 M.InvalidAddress hr.r (pa_cons (pv 0) pa_nil)) (pa_cons (pmk1 M.InvalidName hr.r (pa_cons (pv 0) pa_nil)) (pa_cons (pmk1 M.InvalidIndex hr.r (pa_cons (pv 0) pa_nil)) pa_nil))))))) (pss_cons (ps_set (i := 1) sc__law_values_right.nd rfl (by first | exact Or.inl rfl | exact Or.inr rfl) (pe_op op_cat (pv 1) (pe_lst (pa_cons (pmk1 M.InvalidValue hr.r (pa_cons (pv 0) pa_nil)) (pa_cons (pmk1 M.InvalidCount hr.r (pa_cons (pv 0) pa_nil)) pa_nil))))) (pss_cons (ps_set (i := 2) sc__law_values_right.nd rfl (by first | exact Or.inl rfl | exact Or.inr rfl) (pe_lst (pa_cons (pmk1K M.InvalidLevel hr.r (pk_cons (pv 0) pk_nil)) (pa_cons (pmk1K M.InvalidNumber hr.r (pk_cons (pv 0) pk_nil)) (pa_cons (pmk1K M.InvalidAddress hr.r (pk_cons (pv 0) pk_nil)) (pa_cons (pmk1K M.InvalidName hr.r (pk_cons (pv 0) pk_nil)) pa_nil)))))) (pss_cons (ps_set (i := 2) sc__law_values_right.nd rfl (by first | exact Or.inl rfl | exact Or.inr rfl) (pe_op op_cat (pv 2) (pe_lst (pa_cons (pmk1K M.InvalidIndex hr.r (pk_cons (pv 0) pk_nil)) (pa_cons (pmk1K M.InvalidValue hr.r (pk_cons (pv 0) pk_nil)) (pa_cons (pmk1K M.InvalidCount hr.r (pk_cons (pv 0) pk_nil)) pa_nil)))))) (pss_cons (ps_set (i := 3) sc__law_values_right.nd rfl (by first | exact Or.inl rfl | exact Or.inr rfl) (pe_lst (pa_cons pe_str (pa_cons pe_str (pa_cons pe_str (pa_cons pe_str (pa_cons pe_str (pa_cons pe_str pa_nil)))))))) (pss_cons (ps_expr (pe_bm PySem.F.plainAttrs_list PySem.F.slot_list_append PySem.F.type_list_append mt_append (pv 3) (pa_cons pe_str pa_nil))) (pss_cons (ps_for PassesOwn.never rfl (pi_enum rfl T.n_enumerate (pa_cons (pv 3) pa_nil)) (pg_tup (by rfl) (pgs_cons (pg_name (i := 4) sc__law_values_right.nd rfl (by first | exact Or.inl rfl | exact Or.inr rfl)) (pgs_cons (pg_name (i := 5) sc__law_values_right.nd rfl (by first | exact Or.inl rfl | exact Or.inr rfl)) pgs_nil))) (pss_one (ps_if (PW.pt (pw_or (pt_not (pt_val (pcall D__law_is hr.r (pa_cons (pe_ix ix_list (pv 1) (pv 4) (fun _ _ => rfl)) (pa_cons (pv 5) (pa_cons pe_int pa_nil)))))) (pw_or1 (pt_not (pt_val (pcall D__law_is hr.r (pa_cons (pe_ix ix_list (pv 2) (pv 4) (fun _ _ => rfl)) (pa_cons (pv 5) (pa_cons pe_int pa_nil))))))))) (pss_one (ps_ret pe_bl)) pss_nil))) (pss_one (ps_ret (pe_cmpR op_eq (pe_callB (call_reprQ hr T.sys) (by rfl) T.n_repr (by decide +kernel) (pa_cons (pe_lc (own := [("_law_e", 6)]) (g := gName 6) rfl sc__law_values_right.nd (pi_list (pe_op op_cat (pv 1) (pv 2))) (blkOk_by (own := [("_law_e", 6)]) (N := ["_law_near", "_law_found", "_law_named", "_law_words", "_law_k", "_law_word", "_law_e"]) (sc := defScope (top 38)) (by decide +kernel)) (fun _ _ _ _ _ => pg_name (i := 6) sc__law_values_right.nd rfl (Or.inl rfl)) (fun _ _ _ _ _ => pts_nil) (fun _ _ _ _ _ => (pe_errF (K := K) (pv 6)))) pa_nil)) (pe_callB (call_reprQ hr T.sys) (by rfl) T.n_repr (by decide +kernel) (pa_cons (pe_op op_rep (pe_lst (pa_cons (pv 0) pa_nil)) pe_int) pa_nil)) (nomark _))))))))))), ?_⟩)
  · obtain ⟨v, d, rfl, _⟩ := h
    rfl
  · obtain ⟨v, d, rfl, tv, q⟩ := h
    refine ⟨_, rfl, _, rfl, fun a1 H1 f1 s1 e_a1 => ?_⟩
    refine ⟨_, rfl, _, rfl, fun a2 H2 f2 s2 e_a2 => ?_⟩
    refine ⟨_, rfl, _, rfl, fun a3 H3 f3 s3 e_a3 => ?_⟩
    refine ⟨_, rfl, _, rfl, fun a4 H4 f4 s4 e_a4 => ?_⟩
    refine ⟨_, rfl, _, rfl, fun a5 H5 f5 s5 e_a5 => ?_⟩
    refine ⟨(by show 5 ≤ sizeLine; decide), fun l00 f6 => ?_⟩
    have s6 := same_upd (o := .lst [.ref a1, .ref a2, .ref a3, .ref a4, .ref a5]) f6
    have h_l00 : (upd H5 l00 (.lst [.ref a1, .ref a2, .ref a3, .ref a4, .ref a5])) l00 = some (.lst [.ref a1, .ref a2, .ref a3, .ref a4, .ref a5]) := upd_same
    generalize upd H5 l00 (.lst [.ref a1, .ref a2, .ref a3, .ref a4, .ref a5]) = H6 at s6 h_l00
    refine ⟨_, rfl, _, rfl, _, rfl, fun a6 H7 f7 s7 e_a6 => ?_⟩
    refine ⟨_, rfl, _, rfl, fun a7 H8 f8 s8 e_a7 => ?_⟩
    refine ⟨(by show 2 ≤ sizeLine; decide), fun l01 f9 => ?_⟩
    have s9 := same_upd (o := .lst [.ref a6, .ref a7]) f9
    have h_l01 : (upd H8 l01 (.lst [.ref a6, .ref a7])) l01 = some (.lst [.ref a6, .ref a7]) := upd_same
    generalize upd H8 l01 (.lst [.ref a6, .ref a7]) = H9 at s9 h_l01
    refine ⟨l00, l01, _, _, rfl, rfl, (((s7.trans s8).trans s9) _ _ h_l00), h_l01, (by show 5 + 2 ≤ sizeLine; decide), fun c01 f10 => ?_⟩
    have s10 := same_upd (o := .lst ([.ref a1, .ref a2, .ref a3, .ref a4, .ref a5] ++ [.ref a6, .ref a7])) f10
    have h_c01 : (upd H9 c01 (.lst ([.ref a1, .ref a2, .ref a3, .ref a4, .ref a5] ++ [.ref a6, .ref a7]))) c01 = some (.lst [.ref a1, .ref a2, .ref a3, .ref a4, .ref a5, .ref a6, .ref a7]) := upd_same
    generalize upd H9 c01 (.lst ([.ref a1, .ref a2, .ref a3, .ref a4, .ref a5] ++ [.ref a6, .ref a7])) = H10 at s10 h_c01
    refine ⟨_, rfl, _, rfl, fun a8 H11 f11 s11 e_a8 => ?_⟩
    refine ⟨_, rfl, _, rfl, fun a9 H12 f12 s12 e_a9 => ?_⟩
    refine ⟨_, rfl, _, rfl, fun a10 H13 f13 s13 e_a10 => ?_⟩
    refine ⟨_, rfl, _, rfl, fun a11 H14 f14 s14 e_a11 => ?_⟩
    refine ⟨(by show 4 ≤ sizeLine; decide), fun l10 f15 => ?_⟩
    have s15 := same_upd (o := .lst [.ref a8, .ref a9, .ref a10, .ref a11]) f15
    have h_l10 : (upd H14 l10 (.lst [.ref a8, .ref a9, .ref a10, .ref a11])) l10 = some (.lst [.ref a8, .ref a9, .ref a10, .ref a11]) := upd_same
    generalize upd H14 l10 (.lst [.ref a8, .ref a9, .ref a10, .ref a11]) = H15 at s15 h_l10
    refine ⟨_, rfl, _, rfl, _, rfl, fun a12 H16 f16 s16 e_a12 => ?_⟩
    refine ⟨_, rfl, _, rfl, fun a13 H17 f17 s17 e_a13 => ?_⟩
    refine ⟨_, rfl, _, rfl, fun a14 H18 f18 s18 e_a14 => ?_⟩
    refine ⟨(by show 3 ≤ sizeLine; decide), fun l11 f19 => ?_⟩
    have s19 := same_upd (o := .lst [.ref a12, .ref a13, .ref a14]) f19
    have h_l11 : (upd H18 l11 (.lst [.ref a12, .ref a13, .ref a14])) l11 = some (.lst [.ref a12, .ref a13, .ref a14]) := upd_same
    generalize upd H18 l11 (.lst [.ref a12, .ref a13, .ref a14]) = H19 at s19 h_l11
    refine ⟨l10, l11, _, _, rfl, rfl, ((((s16.trans s17).trans s18).trans s19) _ _ h_l10), h_l11, (by show 4 + 3 ≤ sizeLine; decide), fun c11 f20 => ?_⟩
    have s20 := same_upd (o := .lst ([.ref a8, .ref a9, .ref a10, .ref a11] ++ [.ref a12, .ref a13, .ref a14])) f20
    have h_c11 : (upd H19 c11 (.lst ([.ref a8, .ref a9, .ref a10, .ref a11] ++ [.ref a12, .ref a13, .ref a14]))) c11 = some (.lst [.ref a8, .ref a9, .ref a10, .ref a11, .ref a12, .ref a13, .ref a14]) := upd_same
    generalize upd H19 c11 (.lst ([.ref a8, .ref a9, .ref a10, .ref a11] ++ [.ref a12, .ref a13, .ref a14])) = H20 at s20 h_c11
    refine ⟨(by show 6 ≤ sizeLine; decide), fun w1 f21 => ?_⟩
    have s21 := same_upd (o := .lst [.str "InvalidLevel", .str "InvalidNumber", .str "InvalidAddress", .str "InvalidName", .str "InvalidIndex", .str "InvalidValue"]) f21
    have h_w1 : (upd H20 w1 (.lst [.str "InvalidLevel", .str "InvalidNumber", .str "InvalidAddress", .str "InvalidName", .str "InvalidIndex", .str "InvalidValue"])) w1 = some (.lst [.str "InvalidLevel", .str "InvalidNumber", .str "InvalidAddress", .str "InvalidName", .str "InvalidIndex", .str "InvalidValue"]) := upd_same
    generalize upd H20 w1 (.lst [.str "InvalidLevel", .str "InvalidNumber", .str "InvalidAddress", .str "InvalidName", .str "InvalidIndex", .str "InvalidValue"]) = H21 at s21 h_w1
    refine ⟨_, rfl, .inl ⟨rfl, _, SqL.of h_w1⟩, w1, _, _, rfl, rfl, h_w1, (by show 6 < sizeLine; decide), ?_⟩
    have s22 : Same H20 (upd H21 w1 (.lst ([.str "InvalidLevel", .str "InvalidNumber", .str "InvalidAddress", .str "InvalidName", .str "InvalidIndex", .str "InvalidValue"] ++ [.str "InvalidCount"]))) := fun b o e => by rw [upd_ne (ne_of_none e f21)]; exact s21 b o e
    have g_w1 : (upd H21 w1 (.lst ([.str "InvalidLevel", .str "InvalidNumber", .str "InvalidAddress", .str "InvalidName", .str "InvalidIndex", .str "InvalidValue"] ++ [.str "InvalidCount"]))) w1 = some (.lst [.str "InvalidLevel", .str "InvalidNumber", .str "InvalidAddress", .str "InvalidName", .str "InvalidIndex", .str "InvalidValue", .str "InvalidCount"]) := upd_same
    generalize upd H21 w1 (.lst ([.str "InvalidLevel", .str "InvalidNumber", .str "InvalidAddress", .str "InvalidName", .str "InvalidIndex", .str "InvalidValue"] ++ [.str "InvalidCount"])) = H22 at s22 g_w1
    have h_w1 := g_w1
    have E1 : Es K 0 H22 [a1, a2, a3, a4, a5, a6, a7] ["InvalidLevel", "InvalidNumber", "InvalidAddress", "InvalidName", "InvalidIndex", "InvalidValue", "InvalidCount"] := (.cons (errAt_same e_a1 (((((((((((((((((((s2.trans s3).trans s4).trans s5).trans s6).trans s7).trans s8).trans s9).trans s10).trans s11).trans s12).trans s13).trans s14).trans s15).trans s16).trans s17).trans s18).trans s19).trans s20).trans s22)) M.c_InvalidLevel (.cons (errAt_same e_a2 ((((((((((((((((((s3.trans s4).trans s5).trans s6).trans s7).trans s8).trans s9).trans s10).trans s11).trans s12).trans s13).trans s14).trans s15).trans s16).trans s17).trans s18).trans s19).trans s20).trans s22)) M.c_InvalidNumber (.cons (errAt_same e_a3 (((((((((((((((((s4.trans s5).trans s6).trans s7).trans s8).trans s9).trans s10).trans s11).trans s12).trans s13).trans s14).trans s15).trans s16).trans s17).trans s18).trans s19).trans s20).trans s22)) M.c_InvalidAddress (.cons (errAt_same e_a4 ((((((((((((((((s5.trans s6).trans s7).trans s8).trans s9).trans s10).trans s11).trans s12).trans s13).trans s14).trans s15).trans s16).trans s17).trans s18).trans s19).trans s20).trans s22)) M.c_InvalidName (.cons (errAt_same e_a5 (((((((((((((((s6.trans s7).trans s8).trans s9).trans s10).trans s11).trans s12).trans s13).trans s14).trans s15).trans s16).trans s17).trans s18).trans s19).trans s20).trans s22)) M.c_InvalidIndex (.cons (errAt_same e_a6 (((((((((((((s8.trans s9).trans s10).trans s11).trans s12).trans s13).trans s14).trans s15).trans s16).trans s17).trans s18).trans s19).trans s20).trans s22)) M.c_InvalidValue (.cons (errAt_same e_a7 ((((((((((((s9.trans s10).trans s11).trans s12).trans s13).trans s14).trans s15).trans s16).trans s17).trans s18).trans s19).trans s20).trans s22)) M.c_InvalidCount .nil)))))))
    have E2 : Es K 0 H22 [a8, a9, a10, a11, a12, a13, a14] ["InvalidLevel", "InvalidNumber", "InvalidAddress", "InvalidName", "InvalidIndex", "InvalidValue", "InvalidCount"] := (.cons (errAt_same e_a8 (((((((((s12.trans s13).trans s14).trans s15).trans s16).trans s17).trans s18).trans s19).trans s20).trans s22)) M.c_InvalidLevel (.cons (errAt_same e_a9 ((((((((s13.trans s14).trans s15).trans s16).trans s17).trans s18).trans s19).trans s20).trans s22)) M.c_InvalidNumber (.cons (errAt_same e_a10 (((((((s14.trans s15).trans s16).trans s17).trans s18).trans s19).trans s20).trans s22)) M.c_InvalidAddress (.cons (errAt_same e_a11 ((((((s15.trans s16).trans s17).trans s18).trans s19).trans s20).trans s22)) M.c_InvalidName (.cons (errAt_same e_a12 ((((s17.trans s18).trans s19).trans s20).trans s22)) M.c_InvalidIndex (.cons (errAt_same e_a13 (((s18.trans s19).trans s20).trans s22)) M.c_InvalidValue (.cons (errAt_same e_a14 ((s19.trans s20).trans s22)) M.c_InvalidCount .nil)))))))
    have FA : Fls K "value" v H22 [a1, a2, a3, a4, a5, a6, a7, a8, a9, a10, a11, a12, a13, a14] := ⟨⟨_, _, (errAt_same e_a1 (((((((((((((((((((s2.trans s3).trans s4).trans s5).trans s6).trans s7).trans s8).trans s9).trans s10).trans s11).trans s12).trans s13).trans s14).trans s15).trans s16).trans s17).trans s18).trans s19).trans s20).trans s22)), M.InvalidLevel.xf, M.InvalidLevel.no, rfl⟩, ⟨⟨_, _, (errAt_same e_a2 ((((((((((((((((((s3.trans s4).trans s5).trans s6).trans s7).trans s8).trans s9).trans s10).trans s11).trans s12).trans s13).trans s14).trans s15).trans s16).trans s17).trans s18).trans s19).trans s20).trans s22)), M.InvalidNumber.xf, M.InvalidNumber.no, rfl⟩, ⟨⟨_, _, (errAt_same e_a3 (((((((((((((((((s4.trans s5).trans s6).trans s7).trans s8).trans s9).trans s10).trans s11).trans s12).trans s13).trans s14).trans s15).trans s16).trans s17).trans s18).trans s19).trans s20).trans s22)), M.InvalidAddress.xf, M.InvalidAddress.no, rfl⟩, ⟨⟨_, _, (errAt_same e_a4 ((((((((((((((((s5.trans s6).trans s7).trans s8).trans s9).trans s10).trans s11).trans s12).trans s13).trans s14).trans s15).trans s16).trans s17).trans s18).trans s19).trans s20).trans s22)), M.InvalidName.xf, M.InvalidName.no, rfl⟩, ⟨⟨_, _, (errAt_same e_a5 (((((((((((((((s6.trans s7).trans s8).trans s9).trans s10).trans s11).trans s12).trans s13).trans s14).trans s15).trans s16).trans s17).trans s18).trans s19).trans s20).trans s22)), M.InvalidIndex.xf, M.InvalidIndex.no, rfl⟩, ⟨⟨_, _, (errAt_same e_a6 (((((((((((((s8.trans s9).trans s10).trans s11).trans s12).trans s13).trans s14).trans s15).trans s16).trans s17).trans s18).trans s19).trans s20).trans s22)), M.InvalidValue.xf, M.InvalidValue.no, rfl⟩, ⟨⟨_, _, (errAt_same e_a7 ((((((((((((s9.trans s10).trans s11).trans s12).trans s13).trans s14).trans s15).trans s16).trans s17).trans s18).trans s19).trans s20).trans s22)), M.InvalidCount.xf, M.InvalidCount.no, rfl⟩, ⟨⟨_, _, (errAt_same e_a8 (((((((((s12.trans s13).trans s14).trans s15).trans s16).trans s17).trans s18).trans s19).trans s20).trans s22)), M.InvalidLevel.xf, M.InvalidLevel.no, rfl⟩, ⟨⟨_, _, (errAt_same e_a9 ((((((((s13.trans s14).trans s15).trans s16).trans s17).trans s18).trans s19).trans s20).trans s22)), M.InvalidNumber.xf, M.InvalidNumber.no, rfl⟩, ⟨⟨_, _, (errAt_same e_a10 (((((((s14.trans s15).trans s16).trans s17).trans s18).trans s19).trans s20).trans s22)), M.InvalidAddress.xf, M.InvalidAddress.no, rfl⟩, ⟨⟨_, _, (errAt_same e_a11 ((((((s15.trans s16).trans s17).trans s18).trans s19).trans s20).trans s22)), M.InvalidName.xf, M.InvalidName.no, rfl⟩, ⟨⟨_, _, (errAt_same e_a12 ((((s17.trans s18).trans s19).trans s20).trans s22)), M.InvalidIndex.xf, M.InvalidIndex.no, rfl⟩, ⟨⟨_, _, (errAt_same e_a13 (((s18.trans s19).trans s20).trans s22)), M.InvalidValue.xf, M.InvalidValue.no, rfl⟩, ⟨⟨_, _, (errAt_same e_a14 ((s19.trans s20).trans s22)), M.InvalidCount.xf, M.InvalidCount.no, rfl⟩, trivial⟩⟩⟩⟩⟩⟩⟩⟩⟩⟩⟩⟩⟩⟩
    have k_c01 : H22 c01 = some (.lst ([a1, a2, a3, a4, a5, a6, a7].map V.ref)) := (((((((((((s11.trans s12).trans s13).trans s14).trans s15).trans s16).trans s17).trans s18).trans s19).trans s20).trans s22) _ _ h_c01)
    have k_c11 : H22 c11 = some (.lst ([a8, a9, a10, a11, a12, a13, a14].map V.ref)) := (s22 _ _ h_c11)
    have k_w : H22 w1 = some (.lst ((["InvalidLevel", "InvalidNumber", "InvalidAddress", "InvalidName", "InvalidIndex", "InvalidValue", "InvalidCount"] : List Str).map V.str)) := h_w1
    have sH : Same H H22 := ((((((((((((((((((((s1.trans s2).trans s3).trans s4).trans s5).trans s6).trans s7).trans s8).trans s9).trans s10).trans s11).trans s12).trans s13).trans s14).trans s15).trans s16).trans s17).trans s18).trans s19).trans s20).trans s22)
    obtain ⟨as, eas⟩ : ∃ z, z = [a1, a2, a3, a4, a5, a6, a7] := ⟨_, rfl⟩
    obtain ⟨bs, ebs⟩ : ∃ z, z = [a8, a9, a10, a11, a12, a13, a14] := ⟨_, rfl⟩
    have la : as.length = 7 := by rw [eas]; rfl
    have lb : bs.length = 7 := by rw [ebs]; rfl
    rw [show ([a1, a2, a3, a4, a5, a6, a7, a8, a9, a10, a11, a12, a13, a14] : List Addr) = as ++ bs by rw [eas, ebs]; rfl] at FA
    rw [← eas] at E1 k_c01
    rw [← ebs] at E2 k_c11
    refine ⟨_, rfl, w1, _, rfl, SqL.of k_w, ?_⟩
    refine for_it (walk_enum (xs := (["InvalidLevel", "InvalidNumber", "InvalidAddress", "InvalidName", "InvalidIndex", "InvalidValue", "InvalidCount"] : List Str).map V.str)) (fun i σ G => Same H22 G ∧ ∃ x y, σ = [some v, some (.ref c01), some (.ref c11), some (.ref w1), x, y, none]) ⟨Same.refl _, none, none, rfl⟩ (fun i σ G _ h => SqL.of (h.1 _ _ k_w)) ?_ ?_
    · rintro i x σ G1 G2 hi ⟨sm, x', y', rfl⟩ ⟨T', y1, y2, rfl, hT, rfl, e1, e2⟩
      cases e1
      obtain ⟨c, hc, rfl⟩ := str_of e2
      have sm2 := sm.trans (same_upd (o := .tup [.int (i : Nat), .str c]) hT)
      refine ⟨T', _, rfl, .inl (.inl upd_same), rfl, _, _, rfl, _, _, rfl, rfl, ?_⟩
      generalize (upd G1 T' (.tup [.int (i : Nat), .str c])) = G at *
      obtain ⟨a, fs, ha, ea, cl⟩ := E1.at_ hc
      obtain ⟨b, gs, hb, eb, _⟩ := E2.at_ hc
      refine ⟨_, rfl, _, rfl, c01, _, _, _, rfl, rfl, SqL.of (sm2 _ _ k_c01), ref_at ha, _, rfl, a, _, fs, c, 0, rfl, errAt_same ea sm2, cl.kt, cl.fl, cl.sp, fun G3 s3 => ⟨_, rfl, ifF rfl ?_⟩⟩
      refine ⟨_, rfl, _, rfl, c11, _, _, _, rfl, rfl, SqL.of ((sm2.trans s3) _ _ k_c11), ref_at hb, _, rfl, b, _, gs, c, 0, rfl, errAt_same eb (sm2.trans s3), cl.kt, cl.fl, cl.sp, fun G4 s4 => ⟨_, rfl, ifF rfl ?_⟩⟩
      exact ⟨sm2.trans (s3.trans s4), _, _, rfl⟩
    · rintro σ G ⟨sm, x, y, rfl⟩
      refine ⟨_, rfl, _, rfl, c01, c11, _, _, rfl, rfl, sm _ _ k_c01, sm _ _ k_c11, (by rw [List.length_map, List.length_map, la, lb]; decide), fun R hR => ?_⟩
      rw [← List.map_append]
      have s5 := sm.trans (same_upd (o := .lst ((as ++ bs).map V.ref)) hR)
      have h5 : (upd G R (.lst ((as ++ bs).map V.ref))) R = some (.lst ((as ++ bs).map V.ref)) := upd_same
      generalize upd G R (.lst ((as ++ bs).map V.ref)) = G5 at s5 h5
      refine ⟨R, rfl, ⟨_, SqL.of h5⟩, fun D hD => ?_⟩
      refine lc_list (K := K) (a := R) (xs := (as ++ bs).map V.ref) (fun i G => G D = some (.lst (List.replicate i v)) ∧ Same G5 G) ⟨upd_same, same_upd hD⟩ (fun i G _ ⟨_, sm⟩ => SqL.of (sm _ _ h5)) ?_ ?_
      · rintro i x G hx ⟨hG, s6⟩
        obtain ⟨p, hp, rfl⟩ := ref_of hx
        have il := (List.getElem?_eq_some_iff.mp hp).1
        rw [List.length_append, la, lb] at il
        obtain ⟨C, fs, ea, xf, no, lk⟩ := (FA.at_ hp).same (s5.trans s6)
        refine ⟨rfl, _, rfl, p, C, fs, v, rfl, xf, no, ea, lk, _, hG, (by rw [List.length_replicate]; have := sizeLine_eq; omega), ?_, fun x o e => ?_⟩
        · rw [upd_same, rep_more]
        · rw [upd_ne (ne_of_none e hD)]
          exact s6 x o e
      · rintro G ⟨hG, s6⟩
        rw [List.length_map, List.length_append, la, lb] at hG
        have t1 := tq_lst (tv.same ((sH.trans s5).trans s6)) 14 (by decide) hG
        refine ⟨_, _, rfl, t1.dq, t1.sh, Nat.le_trans t1.dp (by decide), Nat.le_trans t1.ln (by decide), ?_⟩
        refine ⟨_, rfl, (by show 1 ≤ sizeLine; decide), fun m hm => ?_⟩
        have s7 := s6.trans (same_upd (o := .lst [v]) hm)
        have h7 : (upd G m (.lst [v])) m = some (.lst [v]) := upd_same
        generalize upd G m (.lst [v]) = G7 at s7 h7
        refine ⟨m, 14, _, rfl, rfl, h7, by decide, by decide, (by show 1 * 14 ≤ sizeLine; decide), fun n hn => ?_⟩
        have s8 := (sH.trans s5).trans (s7.trans (same_upd (o := .lst (List.replicate 14 v)) hn))
        have h8 : (upd G7 n (.lst (List.replicate 14 v))) n = some (.lst (List.replicate 14 v)) := upd_same
        have t2 := tq_lst (tv.same s8) 14 (by decide) h8
        refine ⟨_, _, rfl, t2.dq, t2.sh, Nat.le_trans t2.dp (by decide), Nat.le_trans t2.ln (by decide), rfl, ?_⟩
        have e9 := q _ s8
        first | exact e9 | (rw [decide_eq_true rfl]; exact e9)
theorem sc__law_unknown_right : FnScope ["_law_near", "_law_found", "_law_named", "_law_k", "_law_word", "_law_e"] ["_law_near"] (defScope (top 39)) := ⟨rfl, rfl, rfl, by decide +kernel, rfl, by decide +kernel, by decide +kernel⟩
theorem ok_unknown (T : Tx K mg) (M : Ers P w K mg base) (D__law_is : Df P w K mg base 2 "_law_is" ["_law_e", "_law_word", "_law_base_here"] (spIs K)) (F : FnP K "_law_unknown_right" "_law_unknown_right" (top 39) f fd) : FnG P w K mg base CX0 3 f fd ["_law_near"] (spSeen K) := by
  refine okG F sc__law_unknown_right (fun vs H Q E h => ?_) (fun cdv A outer s H vs Q E hr h => ⟨_, PSs.nox (pss_cons (ps_set (i := 1) sc__law_unknown_right.nd rfl (by first | exact Or.inl rfl | exact Or.inr rfl) (pe_lst (pa_cons (pmk1 M.UnknownBlock hr.r (pa_cons (pv 0) pa_nil)) (pa_cons (pmk1 M.UnknownName hr.r (pa_cons (pv 0) pa_nil)) (pa_cons (pmk1 M.UnknownTask hr.r (pa_cons (pv 0) pa_nil)) (pa_cons (pmk1 M.UnknownTime hr.r (pa_cons (pv 0) pa_nil)) pa_nil)))))) (pss_cons (ps_set (i := 2) sc__law_unknown_right.nd rfl (by first | exact Or.inl rfl | exact Or.inr rfl) (pe_lst (pa_cons (pmk1K M.UnknownBlock hr.r (pk_cons (pv 0) pk_nil)) (pa_cons (pmk1K M.UnknownName hr.r (pk_cons (pv 0) pk_nil)) (pa_cons (pmk1K M.UnknownTask hr.r (pk_cons (pv 0) pk_nil)) (pa_cons (pmk1K M.UnknownTime hr.r (pk_cons (pv 0) pk_nil)) pa_nil)))))) (pss_cons (ps_for PassesOwn.never rfl (pi_enum rfl T.n_enumerate (pa_cons (pe_lst (pa_cons pe_str (pa_cons pe_str (pa_cons pe_str (pa_cons pe_str pa_nil))))) pa_nil)) (pg_tup (by rfl) (pgs_cons (pg_name (i := 3) sc__law_unknown_right.nd rfl (by first | exact Or.inl rfl | exact Or.inr rfl)) (pgs_cons (pg_name (i := 4) sc__law_unknown_right.nd rfl (by first | exact Or.inl rfl | exact Or.inr rfl)) pgs_nil))) (pss_one (ps_if (PW.pt (pw_or (pt_not (pt_val (pcall D__law_is hr.r (pa_cons (pe_ix ix_list (pv 1) (pv 3) (fun _ _ => rfl)) (pa_cons (pv 4) (pa_cons pe_int pa_nil)))))) (pw_or1 (pt_not (pt_val (pcall D__law_is hr.r (pa_cons (pe_ix ix_list (pv 2) (pv 3) (fun _ _ => rfl)) (pa_cons (pv 4) (pa_cons pe_int pa_nil))))))))) (pss_one (ps_ret pe_bl)) pss_nil))) (pss_one (ps_ret (pe_cmpR op_eq (pe_callB (call_reprQ hr T.sys) (by rfl) T.n_repr (by decide +kernel) (pa_cons (pe_lc (own := [("_law_e", 5)]) (g := gName 5) rfl sc__law_unknown_right.nd (pi_list (pe_op op_cat (pv 1) (pv 2))) (blkOk_by (own := [("_law_e", 5)]) (N := ["_law_near", "_law_found", "_law_named", "_law_k", "_law_word", "_law_e"]) (sc := defScope (top 39)) (by decide +kernel)) (fun _ _ _ _ _ => pg_name (i := 5) sc__law_unknown_right.nd rfl (Or.inl rfl)) (fun _ _ _ _ _ => pts_nil) (fun _ _ _ _ _ => (pe_errF (K := K) (pv 5)))) pa_nil)) (pe_callB (call_reprQ hr T.sys) (by rfl) T.n_repr (by decide +kernel) (pa_cons (pe_op op_rep (pe_lst (pa_cons (pv 0) pa_nil)) pe_int) pa_nil)) (nomark _))))))), ?_⟩)
  · obtain ⟨v, d, rfl, _⟩ := h
    rfl
  · obtain ⟨v, d, rfl, tv, q⟩ := h
    refine ⟨_, rfl, _, rfl, fun a1 H1 f1 s1 e_a1 => ?_⟩
    refine ⟨_, rfl, _, rfl, fun a2 H2 f2 s2 e_a2 => ?_⟩
    refine ⟨_, rfl, _, rfl, fun a3 H3 f3 s3 e_a3 => ?_⟩
    refine ⟨_, rfl, _, rfl, fun a4 H4 f4 s4 e_a4 => ?_⟩
    refine ⟨(by show 4 ≤ sizeLine; decide), fun l00 f5 => ?_⟩
    have s5 := same_upd (o := .lst [.ref a1, .ref a2, .ref a3, .ref a4]) f5
    have h_l00 : (upd H4 l00 (.lst [.ref a1, .ref a2, .ref a3, .ref a4])) l00 = some (.lst [.ref a1, .ref a2, .ref a3, .ref a4]) := upd_same
    generalize upd H4 l00 (.lst [.ref a1, .ref a2, .ref a3, .ref a4]) = H5 at s5 h_l00
    refine ⟨_, rfl, _, rfl, fun a5 H6 f6 s6 e_a5 => ?_⟩
    refine ⟨_, rfl, _, rfl, fun a6 H7 f7 s7 e_a6 => ?_⟩
    refine ⟨_, rfl, _, rfl, fun a7 H8 f8 s8 e_a7 => ?_⟩
    refine ⟨_, rfl, _, rfl, fun a8 H9 f9 s9 e_a8 => ?_⟩
    refine ⟨(by show 4 ≤ sizeLine; decide), fun l10 f10 => ?_⟩
    have s10 := same_upd (o := .lst [.ref a5, .ref a6, .ref a7, .ref a8]) f10
    have h_l10 : (upd H9 l10 (.lst [.ref a5, .ref a6, .ref a7, .ref a8])) l10 = some (.lst [.ref a5, .ref a6, .ref a7, .ref a8]) := upd_same
    generalize upd H9 l10 (.lst [.ref a5, .ref a6, .ref a7, .ref a8]) = H10 at s10 h_l10
    refine ⟨(by show 4 ≤ sizeLine; decide), fun w1 f11 => ?_⟩
    have s11 := same_upd (o := .lst [.str "UnknownBlock", .str "UnknownName", .str "UnknownTask", .str "UnknownTime"]) f11
    have h_w1 : (upd H10 w1 (.lst [.str "UnknownBlock", .str "UnknownName", .str "UnknownTask", .str "UnknownTime"])) w1 = some (.lst [.str "UnknownBlock", .str "UnknownName", .str "UnknownTask", .str "UnknownTime"]) := upd_same
    generalize upd H10 w1 (.lst [.str "UnknownBlock", .str "UnknownName", .str "UnknownTask", .str "UnknownTime"]) = H11 at s11 h_w1
    have E1 : Es K 1 H11 [a1, a2, a3, a4] ["UnknownBlock", "UnknownName", "UnknownTask", "UnknownTime"] := (.cons (errAt_same e_a1 (((((((((s2.trans s3).trans s4).trans s5).trans s6).trans s7).trans s8).trans s9).trans s10).trans s11)) M.c_UnknownBlock (.cons (errAt_same e_a2 ((((((((s3.trans s4).trans s5).trans s6).trans s7).trans s8).trans s9).trans s10).trans s11)) M.c_UnknownName (.cons (errAt_same e_a3 (((((((s4.trans s5).trans s6).trans s7).trans s8).trans s9).trans s10).trans s11)) M.c_UnknownTask (.cons (errAt_same e_a4 ((((((s5.trans s6).trans s7).trans s8).trans s9).trans s10).trans s11)) M.c_UnknownTime .nil))))
    have E2 : Es K 1 H11 [a5, a6, a7, a8] ["UnknownBlock", "UnknownName", "UnknownTask", "UnknownTime"] := (.cons (errAt_same e_a5 ((((s7.trans s8).trans s9).trans s10).trans s11)) M.c_UnknownBlock (.cons (errAt_same e_a6 (((s8.trans s9).trans s10).trans s11)) M.c_UnknownName (.cons (errAt_same e_a7 ((s9.trans s10).trans s11)) M.c_UnknownTask (.cons (errAt_same e_a8 (s10.trans s11)) M.c_UnknownTime .nil))))
    have FA : Fls K "value" v H11 [a1, a2, a3, a4, a5, a6, a7, a8] := ⟨⟨_, _, (errAt_same e_a1 (((((((((s2.trans s3).trans s4).trans s5).trans s6).trans s7).trans s8).trans s9).trans s10).trans s11)), M.UnknownBlock.xf, M.UnknownBlock.no, rfl⟩, ⟨⟨_, _, (errAt_same e_a2 ((((((((s3.trans s4).trans s5).trans s6).trans s7).trans s8).trans s9).trans s10).trans s11)), M.UnknownName.xf, M.UnknownName.no, rfl⟩, ⟨⟨_, _, (errAt_same e_a3 (((((((s4.trans s5).trans s6).trans s7).trans s8).trans s9).trans s10).trans s11)), M.UnknownTask.xf, M.UnknownTask.no, rfl⟩, ⟨⟨_, _, (errAt_same e_a4 ((((((s5.trans s6).trans s7).trans s8).trans s9).trans s10).trans s11)), M.UnknownTime.xf, M.UnknownTime.no, rfl⟩, ⟨⟨_, _, (errAt_same e_a5 ((((s7.trans s8).trans s9).trans s10).trans s11)), M.UnknownBlock.xf, M.UnknownBlock.no, rfl⟩, ⟨⟨_, _, (errAt_same e_a6 (((s8.trans s9).trans s10).trans s11)), M.UnknownName.xf, M.UnknownName.no, rfl⟩, ⟨⟨_, _, (errAt_same e_a7 ((s9.trans s10).trans s11)), M.UnknownTask.xf, M.UnknownTask.no, rfl⟩, ⟨⟨_, _, (errAt_same e_a8 (s10.trans s11)), M.UnknownTime.xf, M.UnknownTime.no, rfl⟩, trivial⟩⟩⟩⟩⟩⟩⟩⟩
    have k_l00 : H11 l00 = some (.lst ([a1, a2, a3, a4].map V.ref)) := ((((((s6.trans s7).trans s8).trans s9).trans s10).trans s11) _ _ h_l00)
    have k_l10 : H11 l10 = some (.lst ([a5, a6, a7, a8].map V.ref)) := (s11 _ _ h_l10)
    have k_w : H11 w1 = some (.lst ((["UnknownBlock", "UnknownName", "UnknownTask", "UnknownTime"] : List Str).map V.str)) := h_w1
    have sH : Same H H11 := ((((((((((s1.trans s2).trans s3).trans s4).trans s5).trans s6).trans s7).trans s8).trans s9).trans s10).trans s11)
    obtain ⟨as, eas⟩ : ∃ z, z = [a1, a2, a3, a4] := ⟨_, rfl⟩
    obtain ⟨bs, ebs⟩ : ∃ z, z = [a5, a6, a7, a8] := ⟨_, rfl⟩
    have la : as.length = 4 := by rw [eas]; rfl
    have lb : bs.length = 4 := by rw [ebs]; rfl
    rw [show ([a1, a2, a3, a4, a5, a6, a7, a8] : List Addr) = as ++ bs by rw [eas, ebs]; rfl] at FA
    rw [← eas] at E1 k_l00
    rw [← ebs] at E2 k_l10
    refine ⟨w1, _, rfl, SqL.of k_w, ?_⟩
    refine for_it (walk_enum (xs := (["UnknownBlock", "UnknownName", "UnknownTask", "UnknownTime"] : List Str).map V.str)) (fun i σ G => Same H11 G ∧ ∃ x y, σ = [some v, some (.ref l00), some (.ref l10), x, y, none]) ⟨Same.refl _, none, none, rfl⟩ (fun i σ G _ h => SqL.of (h.1 _ _ k_w)) ?_ ?_
    · rintro i x σ G1 G2 hi ⟨sm, x', y', rfl⟩ ⟨T', y1, y2, rfl, hT, rfl, e1, e2⟩
      cases e1
      obtain ⟨c, hc, rfl⟩ := str_of e2
      have sm2 := sm.trans (same_upd (o := .tup [.int (i : Nat), .str c]) hT)
      refine ⟨T', _, rfl, .inl (.inl upd_same), rfl, _, _, rfl, _, _, rfl, rfl, ?_⟩
      generalize (upd G1 T' (.tup [.int (i : Nat), .str c])) = G at *
      obtain ⟨a, fs, ha, ea, cl⟩ := E1.at_ hc
      obtain ⟨b, gs, hb, eb, _⟩ := E2.at_ hc
      refine ⟨_, rfl, _, rfl, l00, _, _, _, rfl, rfl, SqL.of (sm2 _ _ k_l00), ref_at ha, _, rfl, a, _, fs, c, 1, rfl, errAt_same ea sm2, cl.kt, cl.fl, cl.sp, fun G3 s3 => ⟨_, rfl, ifF rfl ?_⟩⟩
      refine ⟨_, rfl, _, rfl, l10, _, _, _, rfl, rfl, SqL.of ((sm2.trans s3) _ _ k_l10), ref_at hb, _, rfl, b, _, gs, c, 1, rfl, errAt_same eb (sm2.trans s3), cl.kt, cl.fl, cl.sp, fun G4 s4 => ⟨_, rfl, ifF rfl ?_⟩⟩
      exact ⟨sm2.trans (s3.trans s4), _, _, rfl⟩
    · rintro σ G ⟨sm, x, y, rfl⟩
      refine ⟨_, rfl, _, rfl, l00, l10, _, _, rfl, rfl, sm _ _ k_l00, sm _ _ k_l10, (by rw [List.length_map, List.length_map, la, lb]; decide), fun R hR => ?_⟩
      rw [← List.map_append]
      have s5 := sm.trans (same_upd (o := .lst ((as ++ bs).map V.ref)) hR)
      have h5 : (upd G R (.lst ((as ++ bs).map V.ref))) R = some (.lst ((as ++ bs).map V.ref)) := upd_same
      generalize upd G R (.lst ((as ++ bs).map V.ref)) = G5 at s5 h5
      refine ⟨R, rfl, ⟨_, SqL.of h5⟩, fun D hD => ?_⟩
      refine lc_list (K := K) (a := R) (xs := (as ++ bs).map V.ref) (fun i G => G D = some (.lst (List.replicate i v)) ∧ Same G5 G) ⟨upd_same, same_upd hD⟩ (fun i G _ ⟨_, sm⟩ => SqL.of (sm _ _ h5)) ?_ ?_
      · rintro i x G hx ⟨hG, s6⟩
        obtain ⟨p, hp, rfl⟩ := ref_of hx
        have il := (List.getElem?_eq_some_iff.mp hp).1
        rw [List.length_append, la, lb] at il
        obtain ⟨C, fs, ea, xf, no, lk⟩ := (FA.at_ hp).same (s5.trans s6)
        refine ⟨rfl, _, rfl, p, C, fs, v, rfl, xf, no, ea, lk, _, hG, (by rw [List.length_replicate]; have := sizeLine_eq; omega), ?_, fun x o e => ?_⟩
        · rw [upd_same, rep_more]
        · rw [upd_ne (ne_of_none e hD)]
          exact s6 x o e
      · rintro G ⟨hG, s6⟩
        rw [List.length_map, List.length_append, la, lb] at hG
        have t1 := tq_lst (tv.same ((sH.trans s5).trans s6)) 8 (by decide) hG
        refine ⟨_, _, rfl, t1.dq, t1.sh, Nat.le_trans t1.dp (by decide), Nat.le_trans t1.ln (by decide), ?_⟩
        refine ⟨_, rfl, (by show 1 ≤ sizeLine; decide), fun m hm => ?_⟩
        have s7 := s6.trans (same_upd (o := .lst [v]) hm)
        have h7 : (upd G m (.lst [v])) m = some (.lst [v]) := upd_same
        generalize upd G m (.lst [v]) = G7 at s7 h7
        refine ⟨m, 8, _, rfl, rfl, h7, by decide, by decide, (by show 1 * 8 ≤ sizeLine; decide), fun n hn => ?_⟩
        have s8 := (sH.trans s5).trans (s7.trans (same_upd (o := .lst (List.replicate 8 v)) hn))
        have h8 : (upd G7 n (.lst (List.replicate 8 v))) n = some (.lst (List.replicate 8 v)) := upd_same
        have t2 := tq_lst (tv.same s8) 8 (by decide) h8
        refine ⟨_, _, rfl, t2.dq, t2.sh, Nat.le_trans t2.dp (by decide), Nat.le_trans t2.ln (by decide), rfl, ?_⟩
        have e9 := q _ s8
        first | exact e9 | (rw [decide_eq_true rfl]; exact e9)
end
end K17

set_option Elab.async false
set_option linter.all false
set_option maxRecDepth 100000
set_option maxHeartbeats 4000000
namespace K17
open PySem PySem.Spec PyProof.Rows L2 Gu Ex
/-- a word that repr and == know -/
structure Wd (w : Str) : Prop where
  c2 : (PyData.list [.str w, .str w]).canLay0 = true
  s2 : SeqAt.shaped (.list [.str w, .str w]) = true
  ln : (reprText w).length ≤ 41
theorem Wd.tq {w : Str} (h : Wd w) {K : PySem.W.Frag} {H : Hp} : Tq K H (.str w) (.str w) 2 100 := ⟨.str _, rfl, Nat.zero_le _, Nat.le_trans h.ln (by decide)⟩
theorem tq_cons {K : PySem.W.Frag} {H : Hp} {n m : Nat} {v : V} {d : PyData} {vs : List V} {ds : List PyData} (t : Tq K H v d n m) (r : TqAll K H vs ds n m) : TqAll K H (v :: vs) (d :: ds) n m := by
  obtain ⟨a, b, c, e⟩ := r
  refine ⟨.cons t.dq a, ?_, ?_, ?_⟩
  · show (d.showable && PyData.showableAll ds) = true
    rw [t.sh, b]
    rfl
  · show max d.depth (PyData.depthAll ds) ≤ n
    have := t.dp
    omega
  · show (d.shown.length + ((PyData.shownAll ds).map (·.length)).sum) + 2 * ((PyData.shownAll ds).length + 1) ≤ (vs.length + 1) * (m + 2)
    have := t.ln
    rw [Nat.add_mul, Nat.one_mul]
    omega
theorem tq_nil {K : PySem.W.Frag} {H : Hp} {n m : Nat} : TqAll K H [] [] n m := ⟨.nil, rfl, Nat.zero_le _, Nat.zero_le _⟩
/-- an error class of the ValueError family without an own __init__ -/
structure E0c (K : PySem.W.Frag) (mg : Str → Option Value) (c : Str) : Prop where
  ex : PySem.W.excIn K (He.ga K c) (tailE "ValueError") "ValueError.__new__" = true
  gl : mg c = some (.ref (He.ga K c))
  kp : PySem.W.keepIn K (.ref (He.ga K c)) = true
theorem pmk0 {X : Cx} {c : Str} {e : Expr} {ta : TE} {p pos : Pos} (D : E0c X.K X.mg c) (he : PE X e ta) (hg : Gl X c := by rfl) (hs : starEach [e] X.env = (false, eval e X.env) :: starEach [] X.env := by rfl) (hdb : (c == ("__debug__" : Str)) = false := by decide) :
    PE X (.Call (.Name c p) [e] [] pos) (fun σ H Q => ta σ H fun _ H1 => ∀ a, H1 a = none → Q (.ref a) (upd H1 a (ExO (.ref (He.ga X.K c)) a))) := pe_exc1 PySem.F.excBase_ValueError D.ex D.gl D.kp hg he hs hdb
theorem errAt_new {H : Hp} {a C : Addr} : ErrAt (upd H a (ExO (.ref C) a)) a C [] := .inr ⟨rfl, upd_same⟩
section
variable {P : Program} {w : World} {K : PySem.W.Frag} {mg : Str → Option Value} {base : Heap} {f : Addr} {fd : FuncData}
def spPos (K : PySem.W.Frag) : Sp := fun vs H Q _ => ∃ (n : Int) (c : Str), vs = [.int n, .str c] ∧ 0 ≤ n ∧ n < 1000000 ∧ Wd c ∧ ∀ H', Same H H' → Q (.bl true) H'
theorem sc__law_positions_right : FnScope ["_law_whole", "_law_word", "_law_found", "_law_named", "_law_k", "_law_kind", "_law_e"] ["_law_whole", "_law_word"] (defScope (top 40)) := ⟨rfl, rfl, rfl, by decide +kernel, rfl, by decide +kernel, by decide +kernel⟩
theorem ok_positions (T : Tx K mg) (M : Ers P w K mg base) (D__law_is : Df P w K mg base 2 "_law_is" ["_law_e", "_law_word", "_law_base_here"] (spIs K)) (F : FnP K "_law_positions_right" "_law_positions_right" (top 40) f fd) : FnG P w K mg base CX0 3 f fd ["_law_whole", "_law_word"] (spPos K) := by
  refine okG F sc__law_positions_right (fun vs H Q E h => ?_) (fun cdv A outer s H vs Q E hr h => ⟨_, PSs.nox (pss_cons (ps_set (i := 2) sc__law_positions_right.nd rfl (by first | exact Or.inl rfl | exact Or.inr rfl) (pe_lst (pa_cons (pmk1 M.InvalidNumbers hr.r (pa_cons (pv 0) pa_nil)) (pa_cons (pmk1 M.InvalidMoves hr.r (pa_cons (pv 0) pa_nil)) (pa_cons (pmk1 M.InvalidRequests hr.r (pa_cons (pv 0) pa_nil)) (pa_cons (pmk2 M.InvalidSizes hr.r (pa_cons (pv 1) (pa_cons (pv 0) pa_nil))) pa_nil)))))) (pss_cons (ps_set (i := 3) sc__law_positions_right.nd rfl (by first | exact Or.inl rfl | exact Or.inr rfl) (pe_lst (pa_cons (pmk1K M.InvalidNumbers hr.r (pk_cons (pv 0) pk_nil)) (pa_cons (pmk1K M.InvalidMoves hr.r (pk_cons (pv 0) pk_nil)) (pa_cons (pmk1K M.InvalidRequests hr.r (pk_cons (pv 0) pk_nil)) pa_nil))))) (pss_cons (ps_expr (pe_bm PySem.F.plainAttrs_list PySem.F.slot_list_append PySem.F.type_list_append mt_append (pv 3) (pa_cons (pmk2K M.InvalidSizes hr.r (pk_cons (pv 0) (pk_cons (pv 1) pk_nil))) pa_nil))) (pss_cons (ps_for PassesOwn.never rfl (pi_enum rfl T.n_enumerate (pa_cons (pe_lst (pa_cons pe_str (pa_cons pe_str (pa_cons pe_str (pa_cons pe_str pa_nil))))) pa_nil)) (pg_tup (by rfl) (pgs_cons (pg_name (i := 4) sc__law_positions_right.nd rfl (by first | exact Or.inl rfl | exact Or.inr rfl)) (pgs_cons (pg_name (i := 5) sc__law_positions_right.nd rfl (by first | exact Or.inl rfl | exact Or.inr rfl)) pgs_nil))) (pss_one (ps_if (PW.pt (pw_or (pt_not (pt_val (pcall D__law_is hr.r (pa_cons (pe_ix ix_list (pv 2) (pv 4) (fun _ _ => rfl)) (pa_cons (pv 5) (pa_cons pe_int pa_nil)))))) (pw_or1 (pt_not (pt_val (pcall D__law_is hr.r (pa_cons (pe_ix ix_list (pv 3) (pv 4) (fun _ _ => rfl)) (pa_cons (pv 5) (pa_cons pe_int pa_nil))))))))) (pss_one (ps_ret pe_bl)) pss_nil))) (pss_cons (ps_if (pt_cmpR op_ne (pe_callB (call_reprQ hr T.sys) (by rfl) T.n_repr (by decide +kernel) (pa_cons (pe_lc (own := [("_law_e", 6)]) (g := gName 6) rfl sc__law_positions_right.nd (pi_list (pe_op op_cat (pv 2) (pv 3))) (blkOk_by (own := [("_law_e", 6)]) (N := ["_law_whole", "_law_word", "_law_found", "_law_named", "_law_k", "_law_kind", "_law_e"]) (sc := defScope (top 40)) (by decide +kernel)) (fun _ _ _ _ _ => pg_name (i := 6) sc__law_positions_right.nd rfl (Or.inl rfl)) (fun _ _ _ _ _ => pts_nil) (fun _ _ _ _ _ => (pe_errF (K := K) (pv 6)))) pa_nil)) (pe_callB (call_reprQ hr T.sys) (by rfl) T.n_repr (by decide +kernel) (pa_cons (pe_op op_rep (pe_lst (pa_cons (pv 0) pa_nil)) pe_int) pa_nil)) (nomark _)) (pss_one (ps_ret pe_bl)) pss_nil) (pss_one (ps_ret (pe_cmpR (op_eqD hr.r.units) (pe_lst (pa_cons (pe_errF (K := K) (pe_ix ix_list (pv 2) pe_int (fun _ _ => rfl))) (pa_cons (pe_errF (K := K) (pe_ix ix_list (pv 3) pe_int (fun _ _ => rfl))) pa_nil))) (pe_lst (pa_cons (pv 1) (pa_cons (pv 1) pa_nil))) (nomark _))))))))), ?_⟩)
  · obtain ⟨n, c, rfl, _⟩ := h
    rfl
  · obtain ⟨n, c, rfl, n0, n1, wd, q⟩ := h
    have b39 : (10 : Int) ^ 39 = 1000000000000000000000000000000000000000 := by decide
    have tw : ∀ H, Tq K H (.int n) (.int n) 2 100 := fun H => (tq_int (by omega) (by omega)).mono (by decide) (by decide)
    refine ⟨_, rfl, _, rfl, fun a1 H1 f1 s1 e_a1 => ?_⟩
    refine ⟨_, rfl, _, rfl, fun a2 H2 f2 s2 e_a2 => ?_⟩
    refine ⟨_, rfl, _, rfl, fun a3 H3 f3 s3 e_a3 => ?_⟩
    refine ⟨_, rfl, _, rfl, _, rfl, fun a4 H4 f4 s4 e_a4 => ?_⟩
    refine ⟨(by show 4 ≤ sizeLine; decide), fun l0 f5 => ?_⟩
    have s5 := same_upd (o := .lst [.ref a1, .ref a2, .ref a3, .ref a4]) f5
    have h_l0 : (upd H4 l0 (.lst [.ref a1, .ref a2, .ref a3, .ref a4])) l0 = some (.lst [.ref a1, .ref a2, .ref a3, .ref a4]) := upd_same
    generalize upd H4 l0 (.lst [.ref a1, .ref a2, .ref a3, .ref a4]) = H5 at s5 h_l0
    refine ⟨_, rfl, _, rfl, fun a5 H6 f6 s6 e_a5 => ?_⟩
    refine ⟨_, rfl, _, rfl, fun a6 H7 f7 s7 e_a6 => ?_⟩
    refine ⟨_, rfl, _, rfl, fun a7 H8 f8 s8 e_a7 => ?_⟩
    refine ⟨(by show 3 ≤ sizeLine; decide), fun l1 f9 => ?_⟩
    have s9 := same_upd (o := .lst [.ref a5, .ref a6, .ref a7]) f9
    have h_l1 : (upd H8 l1 (.lst [.ref a5, .ref a6, .ref a7])) l1 = some (.lst [.ref a5, .ref a6, .ref a7]) := upd_same
    generalize upd H8 l1 (.lst [.ref a5, .ref a6, .ref a7]) = H9 at s9 h_l1
    refine ⟨_, rfl, .inl ⟨rfl, _, SqL.of h_l1⟩, _, rfl, _, rfl, _, rfl, fun a8 H10 f10 s10 e_a8 => ?_⟩
    refine ⟨l1, _, _, rfl, rfl, (s10 _ _ h_l1), (by show 3 < sizeLine; decide), ?_⟩
    have s11 : Same H8 (upd H10 l1 (.lst ([.ref a5, .ref a6, .ref a7] ++ [.ref a8]))) := fun b o e => by rw [upd_ne (ne_of_none e f9)]; exact (s9.trans s10) b o e
    have g_l1 : (upd H10 l1 (.lst ([.ref a5, .ref a6, .ref a7] ++ [.ref a8]))) l1 = some (.lst [.ref a5, .ref a6, .ref a7, .ref a8]) := upd_same
    have e2_a8 := errAt_lst (ys := ([.ref a5, .ref a6, .ref a7] ++ [.ref a8])) e_a8 (s10 _ _ h_l1)
    generalize upd H10 l1 (.lst ([.ref a5, .ref a6, .ref a7] ++ [.ref a8])) = H11 at s11 g_l1 e2_a8
    have e_a8 := e2_a8
    have h_l1 := g_l1
    refine ⟨(by show 4 ≤ sizeLine; decide), fun w1 f12 => ?_⟩
    have s12 := same_upd (o := .lst [.str "InvalidNumbers", .str "InvalidMoves", .str "InvalidRequests", .str "InvalidSizes"]) f12
    have h_w1 : (upd H11 w1 (.lst [.str "InvalidNumbers", .str "InvalidMoves", .str "InvalidRequests", .str "InvalidSizes"])) w1 = some (.lst [.str "InvalidNumbers", .str "InvalidMoves", .str "InvalidRequests", .str "InvalidSizes"]) := upd_same
    generalize upd H11 w1 (.lst [.str "InvalidNumbers", .str "InvalidMoves", .str "InvalidRequests", .str "InvalidSizes"]) = H12 at s12 h_w1
    have E1 : Es K 0 H12 [a1, a2, a3, a4] ["InvalidNumbers", "InvalidMoves", "InvalidRequests", "InvalidSizes"] := (.cons (errAt_same e_a1 ((((((((s2.trans s3).trans s4).trans s5).trans s6).trans s7).trans s8).trans s11).trans s12)) M.c_InvalidNumbers (.cons (errAt_same e_a2 (((((((s3.trans s4).trans s5).trans s6).trans s7).trans s8).trans s11).trans s12)) M.c_InvalidMoves (.cons (errAt_same e_a3 ((((((s4.trans s5).trans s6).trans s7).trans s8).trans s11).trans s12)) M.c_InvalidRequests (.cons (errAt_same e_a4 (((((s5.trans s6).trans s7).trans s8).trans s11).trans s12)) M.c_InvalidSizes .nil))))
    have E2 : Es K 0 H12 [a5, a6, a7, a8] ["InvalidNumbers", "InvalidMoves", "InvalidRequests", "InvalidSizes"] := (.cons (errAt_same e_a5 (((s7.trans s8).trans s11).trans s12)) M.c_InvalidNumbers (.cons (errAt_same e_a6 ((s8.trans s11).trans s12)) M.c_InvalidMoves (.cons (errAt_same e_a7 (s11.trans s12)) M.c_InvalidRequests (.cons (errAt_same e_a8 s12) M.c_InvalidSizes .nil))))
    have FA : Fls K "position" (.int n) H12 [a1, a2, a3, a4, a5, a6, a7, a8] := ⟨⟨_, _, (errAt_same e_a1 ((((((((s2.trans s3).trans s4).trans s5).trans s6).trans s7).trans s8).trans s11).trans s12)), M.InvalidNumbers.xf, M.InvalidNumbers.no, rfl⟩, ⟨⟨_, _, (errAt_same e_a2 (((((((s3.trans s4).trans s5).trans s6).trans s7).trans s8).trans s11).trans s12)), M.InvalidMoves.xf, M.InvalidMoves.no, rfl⟩, ⟨⟨_, _, (errAt_same e_a3 ((((((s4.trans s5).trans s6).trans s7).trans s8).trans s11).trans s12)), M.InvalidRequests.xf, M.InvalidRequests.no, rfl⟩, ⟨⟨_, _, (errAt_same e_a4 (((((s5.trans s6).trans s7).trans s8).trans s11).trans s12)), M.InvalidSizes.xf, M.InvalidSizes.nm, rfl⟩, ⟨⟨_, _, (errAt_same e_a5 (((s7.trans s8).trans s11).trans s12)), M.InvalidNumbers.xf, M.InvalidNumbers.no, rfl⟩, ⟨⟨_, _, (errAt_same e_a6 ((s8.trans s11).trans s12)), M.InvalidMoves.xf, M.InvalidMoves.no, rfl⟩, ⟨⟨_, _, (errAt_same e_a7 (s11.trans s12)), M.InvalidRequests.xf, M.InvalidRequests.no, rfl⟩, ⟨⟨_, _, (errAt_same e_a8 s12), M.InvalidSizes.xf, M.InvalidSizes.nm, rfl⟩, trivial⟩⟩⟩⟩⟩⟩⟩⟩
    have k_l0 : H12 l0 = some (.lst ([a1, a2, a3, a4].map V.ref)) := (((((s6.trans s7).trans s8).trans s11).trans s12) _ _ h_l0)
    have k_l1 : H12 l1 = some (.lst ([a5, a6, a7, a8].map V.ref)) := (s12 _ _ h_l1)
    have k_w : H12 w1 = some (.lst ((["InvalidNumbers", "InvalidMoves", "InvalidRequests", "InvalidSizes"] : List Str).map V.str)) := h_w1
    have sH : Same H H12 := (((((((((s1.trans s2).trans s3).trans s4).trans s5).trans s6).trans s7).trans s8).trans s11).trans s12)
    obtain ⟨as, eas⟩ : ∃ z, z = [a1, a2, a3, a4] := ⟨_, rfl⟩
    obtain ⟨bs, ebs⟩ : ∃ z, z = [a5, a6, a7, a8] := ⟨_, rfl⟩
    have la : as.length = 4 := by rw [eas]; rfl
    have lb : bs.length = 4 := by rw [ebs]; rfl
    rw [show ([a1, a2, a3, a4, a5, a6, a7, a8] : List Addr) = as ++ bs by rw [eas, ebs]; rfl] at FA
    rw [← eas] at E1 k_l0
    rw [← ebs] at E2 k_l1
    have P4 : ErrAt H12 a4 (He.ga K "InvalidSizes") [("position", .int n), ("problem", .str c)] := (errAt_same e_a4 (((((s5.trans s6).trans s7).trans s8).trans s11).trans s12))
    have P8 : ErrAt H12 a8 (He.ga K "InvalidSizes") [("position", .int n), ("problem", .str c)] := (errAt_same e_a8 s12)
    have i4 : as[3]? = some a4 := by rw [eas]; rfl
    have i8 : bs[3]? = some a8 := by rw [ebs]; rfl
    refine ⟨w1, _, rfl, SqL.of k_w, ?_⟩
    refine for_it (walk_enum (xs := (["InvalidNumbers", "InvalidMoves", "InvalidRequests", "InvalidSizes"] : List Str).map V.str)) (fun i σ G => Same H12 G ∧ ∃ x y, σ = [some (.int n), some (.str c), some (.ref l0), some (.ref l1), x, y, none]) ⟨Same.refl _, none, none, rfl⟩ (fun i σ G _ h => SqL.of (h.1 _ _ k_w)) ?_ ?_
    · rintro i x σ G1 G2 hi ⟨sm, x', y', rfl⟩ ⟨T', y1, y2, rfl, hT, rfl, e1, e2⟩
      cases e1
      obtain ⟨c', hc, rfl⟩ := str_of e2
      have sm2 := sm.trans (same_upd (o := .tup [.int (i : Nat), .str c']) hT)
      refine ⟨T', _, rfl, .inl (.inl upd_same), rfl, _, _, rfl, _, _, rfl, rfl, ?_⟩
      generalize (upd G1 T' (.tup [.int (i : Nat), .str c'])) = G at *
      obtain ⟨a, fs, ha, ea, cl⟩ := E1.at_ hc
      obtain ⟨b, gs, hb, eb, _⟩ := E2.at_ hc
      refine ⟨_, rfl, _, rfl, l0, _, _, _, rfl, rfl, SqL.of (sm2 _ _ k_l0), ref_at ha, _, rfl, a, _, fs, c', 0, rfl, errAt_same ea sm2, cl.kt, cl.fl, cl.sp, fun G3 s3 => ⟨_, rfl, ifF rfl ?_⟩⟩
      refine ⟨_, rfl, _, rfl, l1, _, _, _, rfl, rfl, SqL.of ((sm2.trans s3) _ _ k_l1), ref_at hb, _, rfl, b, _, gs, c', 0, rfl, errAt_same eb (sm2.trans s3), cl.kt, cl.fl, cl.sp, fun G4 s4 => ⟨_, rfl, ifF rfl ?_⟩⟩
      exact ⟨sm2.trans (s3.trans s4), _, _, rfl⟩
    · rintro σ G ⟨sm, x, y, rfl⟩
      refine ⟨_, rfl, _, rfl, l0, l1, _, _, rfl, rfl, sm _ _ k_l0, sm _ _ k_l1, (by rw [List.length_map, List.length_map, la, lb]; decide), fun R hR => ?_⟩
      rw [← List.map_append]
      have s5 := sm.trans (same_upd (o := .lst ((as ++ bs).map V.ref)) hR)
      have h5 : (upd G R (.lst ((as ++ bs).map V.ref))) R = some (.lst ((as ++ bs).map V.ref)) := upd_same
      generalize upd G R (.lst ((as ++ bs).map V.ref)) = G5 at s5 h5
      refine ⟨R, rfl, ⟨_, SqL.of h5⟩, fun D hD => ?_⟩
      refine lc_list (K := K) (a := R) (xs := (as ++ bs).map V.ref) (fun i G => G D = some (.lst (List.replicate i (.int n))) ∧ Same G5 G) ⟨upd_same, same_upd hD⟩ (fun i G _ ⟨_, sm⟩ => SqL.of (sm _ _ h5)) ?_ ?_
      · rintro i x G hx ⟨hG, s6⟩
        obtain ⟨p, hp, rfl⟩ := ref_of hx
        have il := (List.getElem?_eq_some_iff.mp hp).1
        rw [List.length_append, la, lb] at il
        obtain ⟨C, fs, ea, xf, no, lk⟩ := (FA.at_ hp).same (s5.trans s6)
        refine ⟨rfl, _, rfl, p, C, fs, (.int n), rfl, xf, no, ea, lk, _, hG, (by rw [List.length_replicate]; have := sizeLine_eq; omega), ?_, fun x o e => ?_⟩
        · rw [upd_same, rep_more]
        · rw [upd_ne (ne_of_none e hD)]
          exact s6 x o e
      · rintro G ⟨hG, s6⟩
        rw [List.length_map, List.length_append, la, lb] at hG
        have t1 := tq_lst (tw _) 8 (by decide) hG
        refine ⟨_, _, rfl, t1.dq, t1.sh, Nat.le_trans t1.dp (by decide), Nat.le_trans t1.ln (by decide), ?_⟩
        refine ⟨_, rfl, (by show 1 ≤ sizeLine; decide), fun m hm => ?_⟩
        have s7 := s6.trans (same_upd (o := .lst [(.int n)]) hm)
        have h7 : (upd G m (.lst [(.int n)])) m = some (.lst [(.int n)]) := upd_same
        generalize upd G m (.lst [(.int n)]) = G7 at s7 h7
        refine ⟨m, 8, _, rfl, rfl, h7, by decide, by decide, (by show 1 * 8 ≤ sizeLine; decide), fun k hk => ?_⟩
        have s8 := s5.trans (s7.trans (same_upd (o := .lst (List.replicate 8 (.int n))) hk))
        have h8 : (upd G7 k (.lst (List.replicate 8 (.int n)))) k = some (.lst (List.replicate 8 (.int n))) := upd_same
        have t2 := tq_lst (tw _) 8 (by decide) h8
        refine ⟨_, _, rfl, t2.dq, t2.sh, Nat.le_trans t2.dp (by decide), Nat.le_trans t2.ln (by decide), rfl, _, rfl, ifF (by rw [decide_eq_true rfl]; rfl) ?_⟩
        refine ⟨_, rfl, l0, _, _, _, rfl, rfl, SqL.of (s8 _ _ k_l0), ref_at i4, a4, _, _, _, rfl, M.InvalidSizes.xf, M.InvalidSizes.no, errAt_same P4 s8, rfl, ?_⟩
        refine ⟨_, rfl, l1, _, _, _, rfl, rfl, SqL.of (s8 _ _ k_l1), ref_at i8, a8, _, _, _, rfl, M.InvalidSizes.xf, M.InvalidSizes.no, errAt_same P8 s8, rfl, (by show 2 ≤ sizeLine; decide), fun u hu => ?_⟩
        have s9 := s8.trans (same_upd (o := .lst [.str c, .str c]) hu)
        have h9 : ∀ H : Hp, (upd H u (.lst [.str c, .str c])) u = some (.lst [.str c, .str c]) := fun H => upd_same
        refine ⟨_, rfl, _, rfl, (by show 2 ≤ sizeLine; decide), fun v hv => ?_⟩
        have s10 := same_upd (o := .lst [.str c, .str c]) hv
        have h10 : ∀ H : Hp, (upd H v (.lst [.str c, .str c])) v = some (.lst [.str c, .str c]) := fun H => upd_same
        have ev : PyData.eqv (.list [.str c, .str c]) (.list [.str c, .str c]) = true := SeqAt.eqv_refl _ wd.c2
        refine ⟨.list [.str c, .str c], .list [.str c, .str c], .lst (SqL.of (s10 _ _ (h9 _))) (.cons (.str _) (.cons (.str _) .nil)), .lst (SqL.of (h10 _)) (.cons (.str _) (.cons (.str _) .nil)), wd.s2, wd.s2, ?_⟩
        rw [ev]
        exact q _ (sH.trans (s9.trans s10))
def spTxt (K : PySem.W.Frag) : Sp := fun vs H Q _ => ∃ (n : Int) (c : Str) (v : V) (d : PyData), vs = [.int n, .str c, v] ∧ 0 ≤ n ∧ n < 1000000 ∧ Wd c ∧ Tq K H v d 2 100 ∧ ∀ H', Same H H' → Q (.bl true) H'
theorem sc__law_texts_right : FnScope ["_law_whole", "_law_word", "_law_road", "_law_told", "_law_found", "_law_named", "_law_k", "_law_kind"] ["_law_whole", "_law_word", "_law_road"] (defScope (top 41)) := ⟨rfl, rfl, rfl, by decide +kernel, rfl, by decide +kernel, by decide +kernel⟩
theorem ok_texts (T : Tx K mg) (M : Ers P w K mg base) (D__law_is : Df P w K mg base 2 "_law_is" ["_law_e", "_law_word", "_law_base_here"] (spIs K)) (O1 : E0c K mg "InvalidOperation") (O2 : E0c K mg "InvalidCommand") (F : FnP K "_law_texts_right" "_law_texts_right" (top 41) f fd) : FnG P w K mg base CX0 3 f fd ["_law_whole", "_law_word", "_law_road"] (spTxt K) := by
  refine okG F sc__law_texts_right (fun vs H Q E h => ?_) (fun cdv A outer s H vs Q E hr h => ⟨_, PSs.nox (pss_cons (ps_par (by rfl) sc__law_texts_right.nd (i := 4) (j := 5) rfl rfl (by decide) rfl rfl (pa_cons (pe_lst (pa_cons (pmk1 M.InvalidText hr.r (pa_cons (pv 0) pa_nil)) (pa_cons (pmk2 M.InvalidProgram hr.r (pa_cons (pv 1) (pa_cons (pv 2) pa_nil))) pa_nil))) (pa_cons (pe_lst (pa_cons (pmk1K M.InvalidText hr.r (pk_cons (pv 0) pk_nil)) pa_nil)) pa_nil)) (by rfl)) (pss_cons (ps_expr (pe_bm PySem.F.plainAttrs_list PySem.F.slot_list_append PySem.F.type_list_append mt_append (pv 5) (pa_cons (pmk2K M.InvalidProgram hr.r (pk_cons (pv 2) (pk_cons (pv 1) pk_nil))) pa_nil))) (pss_cons (ps_for PassesOwn.never rfl (pi_enum rfl T.n_enumerate (pa_cons (pe_lst (pa_cons pe_str (pa_cons pe_str pa_nil))) pa_nil)) (pg_tup (by rfl) (pgs_cons (pg_name (i := 6) sc__law_texts_right.nd rfl (by first | exact Or.inl rfl | exact Or.inr rfl)) (pgs_cons (pg_name (i := 7) sc__law_texts_right.nd rfl (by first | exact Or.inl rfl | exact Or.inr rfl)) pgs_nil))) (pss_one (ps_if (PW.pt (pw_or (pt_not (pt_val (pcall D__law_is hr.r (pa_cons (pe_ix ix_list (pv 4) (pv 6) (fun _ _ => rfl)) (pa_cons (pv 7) (pa_cons pe_int pa_nil)))))) (pw_or1 (pt_not (pt_val (pcall D__law_is hr.r (pa_cons (pe_ix ix_list (pv 5) (pv 6) (fun _ _ => rfl)) (pa_cons (pv 7) (pa_cons pe_int pa_nil))))))))) (pss_one (ps_ret pe_bl)) pss_nil))) (pss_cons (ps_set (i := 3) sc__law_texts_right.nd rfl (by first | exact Or.inl rfl | exact Or.inr rfl) (pe_lst (pa_cons (pe_errF (K := K) (pe_ix ix_list (pv 4) pe_int (fun _ _ => rfl))) (pa_cons (pe_errF (K := K) (pe_ix ix_list (pv 5) pe_int (fun _ _ => rfl))) (pa_cons (pe_errF (K := K) (pe_ix ix_list (pv 4) pe_int (fun _ _ => rfl))) (pa_cons (pe_errF (K := K) (pe_ix ix_list (pv 5) pe_int (fun _ _ => rfl))) (pa_cons (pe_errF (K := K) (pe_ix ix_list (pv 4) pe_int (fun _ _ => rfl))) (pa_cons (pe_errF (K := K) (pe_ix ix_list (pv 5) pe_int (fun _ _ => rfl))) pa_nil)))))))) (pss_cons (ps_if (pt_cmpR op_ne (pe_callB (call_reprQ hr T.sys) (by rfl) T.n_repr (by decide +kernel) (pa_cons (pv 3) pa_nil)) (pe_callB (call_reprQ hr T.sys) (by rfl) T.n_repr (by decide +kernel) (pa_cons (pe_lst (pa_cons (pv 0) (pa_cons (pv 0) (pa_cons (pv 1) (pa_cons (pv 1) (pa_cons (pv 2) (pa_cons (pv 2) pa_nil))))))) pa_nil)) (nomark _)) (pss_one (ps_ret pe_bl)) pss_nil) (pss_one (ps_ret (pe_and (pcall D__law_is hr.r (pa_cons (pmk0 O1 (pv 1)) (pa_cons pe_str (pa_cons pe_int pa_nil)))) (pe_one (pcall D__law_is hr.r (pa_cons (pmk0 O2 (pv 1)) (pa_cons pe_str (pa_cons pe_int pa_nil))))))))))))), ?_⟩)
  · obtain ⟨n, c, v, d, rfl, _⟩ := h
    rfl
  · obtain ⟨n, c, v, d, rfl, n0, n1, wd, tv, q⟩ := h
    have b39 : (10 : Int) ^ 39 = 1000000000000000000000000000000000000000 := by decide
    have tw : ∀ H, Tq K H (.int n) (.int n) 2 100 := fun H => (tq_int (by omega) (by omega)).mono (by decide) (by decide)
    refine ⟨_, rfl, _, rfl, fun a1 H1 f1 s1 e_a1 => ?_⟩
    refine ⟨_, rfl, _, rfl, _, rfl, fun a2 H2 f2 s2 e_a2 => ?_⟩
    refine ⟨(by show 2 ≤ sizeLine; decide), fun l0 f3 => ?_⟩
    have s3 := same_upd (o := .lst [.ref a1, .ref a2]) f3
    have h_l0 : (upd H2 l0 (.lst [.ref a1, .ref a2])) l0 = some (.lst [.ref a1, .ref a2]) := upd_same
    generalize upd H2 l0 (.lst [.ref a1, .ref a2]) = H3 at s3 h_l0
    refine ⟨_, rfl, _, rfl, fun a3 H4 f4 s4 e_a3 => ?_⟩
    refine ⟨(by show 1 ≤ sizeLine; decide), fun l1 f5 => ?_⟩
    have s5 := same_upd (o := .lst [.ref a3]) f5
    have h_l1 : (upd H4 l1 (.lst [.ref a3])) l1 = some (.lst [.ref a3]) := upd_same
    generalize upd H4 l1 (.lst [.ref a3]) = H5 at s5 h_l1
    refine ⟨_, _, rfl, ?_⟩
    refine ⟨_, rfl, .inl ⟨rfl, _, SqL.of h_l1⟩, _, rfl, _, rfl, _, rfl, fun a4 H6 f6 s6 e_a4 => ?_⟩
    refine ⟨l1, _, _, rfl, rfl, (s6 _ _ h_l1), (by show 1 < sizeLine; decide), ?_⟩
    have s7 : Same H4 (upd H6 l1 (.lst ([.ref a3] ++ [.ref a4]))) := fun b o e => by rw [upd_ne (ne_of_none e f5)]; exact (s5.trans s6) b o e
    have g_l1 : (upd H6 l1 (.lst ([.ref a3] ++ [.ref a4]))) l1 = some (.lst [.ref a3, .ref a4]) := upd_same
    have e2_a4 := errAt_lst (ys := ([.ref a3] ++ [.ref a4])) e_a4 (s6 _ _ h_l1)
    generalize upd H6 l1 (.lst ([.ref a3] ++ [.ref a4])) = H7 at s7 g_l1 e2_a4
    have e_a4 := e2_a4
    have h_l1 := g_l1
    refine ⟨(by show 2 ≤ sizeLine; decide), fun w1 f8 => ?_⟩
    have s8 := same_upd (o := .lst [.str "InvalidText", .str "InvalidProgram"]) f8
    have h_w1 : (upd H7 w1 (.lst [.str "InvalidText", .str "InvalidProgram"])) w1 = some (.lst [.str "InvalidText", .str "InvalidProgram"]) := upd_same
    generalize upd H7 w1 (.lst [.str "InvalidText", .str "InvalidProgram"]) = H8 at s8 h_w1
    have E1 : Es K 0 H8 [a1, a2] ["InvalidText", "InvalidProgram"] := (.cons (errAt_same e_a1 ((((s2.trans s3).trans s4).trans s7).trans s8)) M.c_InvalidText (.cons (errAt_same e_a2 (((s3.trans s4).trans s7).trans s8)) M.c_InvalidProgram .nil))
    have E2 : Es K 0 H8 [a3, a4] ["InvalidText", "InvalidProgram"] := (.cons (errAt_same e_a3 (s7.trans s8)) M.c_InvalidText (.cons (errAt_same e_a4 s8) M.c_InvalidProgram .nil))
    have k_l0 : H8 l0 = some (.lst ([a1, a2].map V.ref)) := (((s4.trans s7).trans s8) _ _ h_l0)
    have k_l1 : H8 l1 = some (.lst ([a3, a4].map V.ref)) := (s8 _ _ h_l1)
    have k_w : H8 w1 = some (.lst ((["InvalidText", "InvalidProgram"] : List Str).map V.str)) := h_w1
    have sH : Same H H8 := (((((s1.trans s2).trans s3).trans s4).trans s7).trans s8)
    obtain ⟨as, eas⟩ : ∃ z, z = [a1, a2] := ⟨_, rfl⟩
    obtain ⟨bs, ebs⟩ : ∃ z, z = [a3, a4] := ⟨_, rfl⟩
    have la : as.length = 2 := by rw [eas]; rfl
    have lb : bs.length = 2 := by rw [ebs]; rfl
    rw [← eas] at E1 k_l0
    rw [← ebs] at E2 k_l1
    have P_a1 : ErrAt H8 a1 (He.ga K "InvalidText") [("line", .int n)] := (errAt_same e_a1 ((((s2.trans s3).trans s4).trans s7).trans s8))
    have P_a3 : ErrAt H8 a3 (He.ga K "InvalidText") [("line", .int n)] := (errAt_same e_a3 (s7.trans s8))
    have P_a2 : ErrAt H8 a2 (He.ga K "InvalidProgram") [("path", v), ("task", .str c)] := (errAt_same e_a2 (((s3.trans s4).trans s7).trans s8))
    have P_a4 : ErrAt H8 a4 (He.ga K "InvalidProgram") [("path", v), ("task", .str c)] := (errAt_same e_a4 s8)
    have i1 : as[0]? = some a1 := by rw [eas]; rfl
    have i2 : as[1]? = some a2 := by rw [eas]; rfl
    have i3 : bs[0]? = some a3 := by rw [ebs]; rfl
    have i4 : bs[1]? = some a4 := by rw [ebs]; rfl
    refine ⟨w1, _, rfl, SqL.of k_w, ?_⟩
    refine for_it (walk_enum (xs := (["InvalidText", "InvalidProgram"] : List Str).map V.str)) (fun i σ G => Same H8 G ∧ ∃ x y, σ = [some (.int n), some (.str c), some v, none, some (.ref l0), some (.ref l1), x, y]) ⟨Same.refl _, none, none, rfl⟩ (fun i σ G _ h => SqL.of (h.1 _ _ k_w)) ?_ ?_
    · rintro i x σ G1 G2 hi ⟨sm, x', y', rfl⟩ ⟨T', y1, y2, rfl, hT, rfl, e1, e2⟩
      cases e1
      obtain ⟨c', hc, rfl⟩ := str_of e2
      have sm2 := sm.trans (same_upd (o := .tup [.int (i : Nat), .str c']) hT)
      refine ⟨T', _, rfl, .inl (.inl upd_same), rfl, _, _, rfl, _, _, rfl, rfl, ?_⟩
      generalize (upd G1 T' (.tup [.int (i : Nat), .str c'])) = G at *
      obtain ⟨a, fs, ha, ea, cl⟩ := E1.at_ hc
      obtain ⟨b, gs, hb, eb, _⟩ := E2.at_ hc
      refine ⟨_, rfl, _, rfl, l0, _, _, _, rfl, rfl, SqL.of (sm2 _ _ k_l0), ref_at ha, _, rfl, a, _, fs, c', 0, rfl, errAt_same ea sm2, cl.kt, cl.fl, cl.sp, fun G3 s3 => ⟨_, rfl, ifF rfl ?_⟩⟩
      refine ⟨_, rfl, _, rfl, l1, _, _, _, rfl, rfl, SqL.of ((sm2.trans s3) _ _ k_l1), ref_at hb, _, rfl, b, _, gs, c', 0, rfl, errAt_same eb (sm2.trans s3), cl.kt, cl.fl, cl.sp, fun G4 s4 => ⟨_, rfl, ifF rfl ?_⟩⟩
      exact ⟨sm2.trans (s3.trans s4), _, _, rfl⟩
    · rintro σ G ⟨sm, x, y, rfl⟩
      refine ⟨_, rfl, l0, _, _, _, rfl, rfl, SqL.of (sm _ _ k_l0), ref_at i1, a1, _, _, _, rfl, M.InvalidText.xf, M.InvalidText.no, errAt_same P_a1 sm, rfl, ?_⟩
      refine ⟨_, rfl, l1, _, _, _, rfl, rfl, SqL.of (sm _ _ k_l1), ref_at i3, a3, _, _, _, rfl, M.InvalidText.xf, M.InvalidText.no, errAt_same P_a3 sm, rfl, ?_⟩
      refine ⟨_, rfl, l0, _, _, _, rfl, rfl, SqL.of (sm _ _ k_l0), ref_at i2, a2, _, _, _, rfl, M.InvalidProgram.xf, M.InvalidProgram.no, errAt_same P_a2 sm, rfl, ?_⟩
      refine ⟨_, rfl, l1, _, _, _, rfl, rfl, SqL.of (sm _ _ k_l1), ref_at i4, a4, _, _, _, rfl, M.InvalidProgram.xf, M.InvalidProgram.no, errAt_same P_a4 sm, rfl, ?_⟩
      refine ⟨_, rfl, l0, _, _, _, rfl, rfl, SqL.of (sm _ _ k_l0), ref_at i2, a2, _, _, _, rfl, M.InvalidProgram.xf, M.InvalidProgram.nm, errAt_same P_a2 sm, rfl, ?_⟩
      refine ⟨_, rfl, l1, _, _, _, rfl, rfl, SqL.of (sm _ _ k_l1), ref_at i4, a4, _, _, _, rfl, M.InvalidProgram.xf, M.InvalidProgram.nm, errAt_same P_a4 sm, rfl, (by show 6 ≤ sizeLine; decide), fun L hL => ?_⟩
      have s5 := sm.trans (same_upd (o := .lst [.int n, .int n, .str c, .str c, v, v]) hL)
      have h5 : (upd G L (.lst [.int n, .int n, .str c, .str c, v, v])) L = some (.lst [.int n, .int n, .str c, .str c, v, v]) := upd_same
      generalize upd G L (.lst [.int n, .int n, .str c, .str c, v, v]) = G5 at s5 h5
      have al : ∀ H', Same H H' → TqAll K H' [.int n, .int n, .str c, .str c, v, v] [.int n, .int n, .str c, .str c, d, d] 2 100 := fun H' s => tq_cons (tw _) (tq_cons (tw _) (tq_cons wd.tq (tq_cons wd.tq (tq_cons (tv.same s) (tq_cons (tv.same s) tq_nil)))))
      have t1 : Tq K _ (.ref L) _ 3 2000 := ((al _ (sH.trans s5)).lst h5).mono (by decide) (by show 6 * 102 + 3 ≤ 2000; decide)
      refine ⟨_, rfl, _, _, rfl, t1.dq, t1.sh, Nat.le_trans t1.dp (by decide), Nat.le_trans t1.ln (by decide), ?_⟩
      refine ⟨_, rfl, _, rfl, _, rfl, _, rfl, _, rfl, _, rfl, (by show 6 ≤ sizeLine; decide), fun m hm => ?_⟩
      have s6 := s5.trans (same_upd (o := .lst [.int n, .int n, .str c, .str c, v, v]) hm)
      have h6 : (upd G5 m (.lst [.int n, .int n, .str c, .str c, v, v])) m = some (.lst [.int n, .int n, .str c, .str c, v, v]) := upd_same
      generalize upd G5 m (.lst [.int n, .int n, .str c, .str c, v, v]) = G6 at s6 h6
      have t2 : Tq K _ (.ref m) _ 3 2000 := ((al _ (sH.trans s6)).lst h6).mono (by decide) (by show 6 * 102 + 3 ≤ 2000; decide)
      refine ⟨_, _, rfl, t2.dq, t2.sh, Nat.le_trans t2.dp (by decide), Nat.le_trans t2.ln (by decide), rfl, _, rfl, ifF (by rw [decide_eq_true rfl]; rfl) ?_⟩
      refine ⟨_, rfl, fun o1 g1 => ?_⟩
      have s7 := s6.trans (same_upd (o := ExO (.ref (He.ga K "InvalidOperation")) o1) g1)
      have e7 : ErrAt (upd G6 o1 (ExO (.ref (He.ga K "InvalidOperation")) o1)) o1 (He.ga K "InvalidOperation") [] := errAt_new
      refine ⟨o1, _, [], "InvalidOperation", 0, rfl, e7, M.c_InvalidOperation.kt, M.c_InvalidOperation.fl, M.c_InvalidOperation.sp, fun G8 s8 => ⟨_, rfl, ifT rfl ?_⟩⟩
      refine ⟨_, rfl, fun o2 g2 => ?_⟩
      have s9 := (s7.trans s8).trans (same_upd (o := ExO (.ref (He.ga K "InvalidCommand")) o2) g2)
      have e9 : ErrAt (upd G8 o2 (ExO (.ref (He.ga K "InvalidCommand")) o2)) o2 (He.ga K "InvalidCommand") [] := errAt_new
      exact ⟨o2, _, [], "InvalidCommand", 0, rfl, e9, M.c_InvalidCommand.kt, M.c_InvalidCommand.fl, M.c_InvalidCommand.sp, fun G10 s10 => q _ (sH.trans (s9.trans s10))⟩
end
end K17

set_option Elab.async false
set_option linter.all false
set_option maxRecDepth 100000
set_option maxHeartbeats 4000000
namespace K17
open PySem PySem.Spec PyProof.Rows L2 Gu Ex
section
variable {P : Program} {w : World} {K : PySem.W.Frag} {mg : Str → Option Value} {base : Heap} {f : Addr} {fd : FuncData}
/-- the i-th of two errors of one class with one field -/
theorem two_at {n c : Str} {v : V} {b i : Nat} {H H' : Hp} {as : List Addr} (E : Es K b H as [c, c]) (F : Fls K n v H as) (hi : i < 2) (s : Same H H') : ∃ a fs, as[i]? = some a ∧ ErrAt H' a (He.ga K c) fs ∧ Cl K c b ∧ Fl K n v H' a := by
  have hc : ([c, c] : List Str)[i]? = some c := by
    rcases (show i = 0 ∨ i = 1 by omega) with rfl | rfl <;> rfl
  obtain ⟨a, fs, e1, e2, e3⟩ := E.at_ hc
  exact ⟨a, fs, e1, errAt_same e2 s, e3, (F.at_ e1).same s⟩
theorem ref_at0 {as : List Addr} {i : Nat} {a : Addr} (h : as[i]? = some a) : atI (as.map V.ref) (0 + (i : Int)) = some (.ref a) := by
  rw [Int.zero_add]
  exact ref_at h
theorem sc__law_states_right : FnScope ["_law_whole", "_law_word", "_law_found", "_law_taken", "_law_k", "_law_kind", "_law_owned", "_law_ready", "_law_told"] ["_law_whole", "_law_word"] (defScope (top 42)) := ⟨rfl, rfl, rfl, by decide +kernel, rfl, by decide +kernel, by decide +kernel⟩
theorem ok_states (T : Tx K mg) (M : Ers P w K mg base) (D__law_is : Df P w K mg base 2 "_law_is" ["_law_e", "_law_word", "_law_base_here"] (spIs K)) (F : FnP K "_law_states_right" "_law_states_right" (top 42) f fd) : FnG P w K mg base CX0 3 f fd ["_law_whole", "_law_word"] (spPos K) := by
  refine okG F sc__law_states_right (fun vs H Q E h => ?_) (fun cdv A outer s H vs Q E hr h => ⟨_, PSs.nox (pss_cons (ps_set (i := 2) sc__law_states_right.nd rfl (by first | exact Or.inl rfl | exact Or.inr rfl) (pe_lst (pa_cons (pmk1 M.NameTaken hr.r (pa_cons (pv 1) pa_nil)) (pa_cons (pmk1 M.Pinned hr.r (pa_cons (pv 1) pa_nil)) (pa_cons (pmk1 M.NotPinned hr.r (pa_cons (pv 1) pa_nil)) (pa_cons (pmk1K M.NameTaken hr.r (pk_cons (pv 1) pk_nil)) (pa_cons (pmk1K M.Pinned hr.r (pk_cons (pv 1) pk_nil)) pa_nil))))))) (pss_cons (ps_expr (pe_bm PySem.F.plainAttrs_list PySem.F.slot_list_append PySem.F.type_list_append mt_append (pv 2) (pa_cons (pmk1K M.NotPinned hr.r (pk_cons (pv 1) pk_nil)) pa_nil))) (pss_cons (ps_for PassesOwn.never rfl (pi_enum rfl T.n_enumerate (pa_cons (pe_op op_rep (pe_lst (pa_cons pe_str (pa_cons pe_str (pa_cons pe_str pa_nil)))) pe_int) pa_nil)) (pg_tup (by rfl) (pgs_cons (pg_name (i := 4) sc__law_states_right.nd rfl (by first | exact Or.inl rfl | exact Or.inr rfl)) (pgs_cons (pg_name (i := 5) sc__law_states_right.nd rfl (by first | exact Or.inl rfl | exact Or.inr rfl)) pgs_nil))) (pss_one (ps_if (PW.pt (pw_or (pt_not (pt_val (pcall D__law_is hr.r (pa_cons (pe_ix ix_list (pv 2) (pv 4) (fun _ _ => rfl)) (pa_cons (pv 5) (pa_cons pe_int pa_nil)))))) (pw_or1 (pt_cmpR op_ne (pe_errF (K := K) (pe_ix ix_list (pv 2) (pv 4) (fun _ _ => rfl))) (pv 1) (nomark _))))) (pss_one (ps_ret pe_bl)) pss_nil))) (pss_cons (ps_par (by rfl) sc__law_states_right.nd (i := 6) (j := 7) rfl rfl (by decide) rfl rfl (pa_cons (pe_lst (pa_cons (pmk1 M.NoReservation hr.r (pa_cons (pv 1) pa_nil)) (pa_cons (pmk1K M.NoReservation hr.r (pk_cons (pv 1) pk_nil)) pa_nil))) (pa_cons (pe_lst (pa_cons (pmk1 M.NotReady hr.r (pa_cons (pv 1) pa_nil)) (pa_cons (pmk1K M.NotReady hr.r (pk_cons (pv 1) pk_nil)) pa_nil))) pa_nil)) (by rfl)) (pss_cons (ps_set (i := 3) sc__law_states_right.nd rfl (by first | exact Or.inl rfl | exact Or.inr rfl) (pe_lst (pa_cons (pmk1 M.Occupied hr.r (pa_cons (pv 0) pa_nil)) (pa_cons (pmk1K M.Occupied hr.r (pk_cons (pv 0) pk_nil)) pa_nil)))) (pss_cons (ps_for PassesOwn.never rfl (pi_range1 rfl T.n_range (pa_cons pe_int pa_nil)) (pg_name (i := 4) sc__law_states_right.nd rfl (by first | exact Or.inl rfl | exact Or.inr rfl)) (pss_cons (ps_set (i := 8) sc__law_states_right.nd rfl (by first | exact Or.inl rfl | exact Or.inr rfl) (pe_lst (pa_cons (pcall D__law_is hr.r (pa_cons (pe_ix ix_list (pv 6) (pv 4) (fun _ _ => rfl)) (pa_cons pe_str (pa_cons pe_int pa_nil)))) (pa_cons (pcall D__law_is hr.r (pa_cons (pe_ix ix_list (pv 7) (pv 4) (fun _ _ => rfl)) (pa_cons pe_str (pa_cons pe_int pa_nil)))) pa_nil)))) (pss_cons (ps_if (pt_cmpR (op_neD hr.r.units) (pe_op op_cat (pv 8) (pe_lst (pa_cons (pcall D__law_is hr.r (pa_cons (pe_ix ix_list (pv 3) (pv 4) (fun _ _ => rfl)) (pa_cons pe_str (pa_cons pe_int pa_nil)))) pa_nil))) (pe_op op_rep (pe_lst (pa_cons pe_bl pa_nil)) pe_int) (nomark _)) (pss_one (ps_ret pe_bl)) pss_nil) (pss_one (ps_if (pt_cmpR op_ne (pe_callB (call_reprQ hr T.sys) (by rfl) T.n_repr (by decide +kernel) (pa_cons (pe_lst (pa_cons (pe_errF (K := K) (pe_ix ix_list (pv 6) (pv 4) (fun _ _ => rfl))) (pa_cons (pe_errF (K := K) (pe_ix ix_list (pv 7) (pv 4) (fun _ _ => rfl))) (pa_cons (pe_errF (K := K) (pe_ix ix_list (pv 3) (pv 4) (fun _ _ => rfl))) pa_nil)))) pa_nil)) (pe_callB (call_reprQ hr T.sys) (by rfl) T.n_repr (by decide +kernel) (pa_cons (pe_lst (pa_cons (pv 1) (pa_cons (pv 1) (pa_cons (pv 0) pa_nil)))) pa_nil)) (nomark _)) (pss_one (ps_ret pe_bl)) pss_nil))))) (pss_one (ps_ret pe_bl)))))))), ?_⟩)
  · obtain ⟨n, c, rfl, _⟩ := h
    rfl
  · obtain ⟨n, c, rfl, n0, n1, wd, q⟩ := h
    have b39 : (10 : Int) ^ 39 = 1000000000000000000000000000000000000000 := by decide
    have tw : ∀ H, Tq K H (.int n) (.int n) 2 100 := fun H => (tq_int (by omega) (by omega)).mono (by decide) (by decide)
    refine ⟨_, rfl, _, rfl, fun a1 H1 f1 s1 e_a1 => ?_⟩
    refine ⟨_, rfl, _, rfl, fun a2 H2 f2 s2 e_a2 => ?_⟩
    refine ⟨_, rfl, _, rfl, fun a3 H3 f3 s3 e_a3 => ?_⟩
    refine ⟨_, rfl, _, rfl, fun a4 H4 f4 s4 e_a4 => ?_⟩
    refine ⟨_, rfl, _, rfl, fun a5 H5 f5 s5 e_a5 => ?_⟩
    refine ⟨(by show 5 ≤ sizeLine; decide), fun l0 f6 => ?_⟩
    have s6 := same_upd (o := .lst [.ref a1, .ref a2, .ref a3, .ref a4, .ref a5]) f6
    have h_l0 : (upd H5 l0 (.lst [.ref a1, .ref a2, .ref a3, .ref a4, .ref a5])) l0 = some (.lst [.ref a1, .ref a2, .ref a3, .ref a4, .ref a5]) := upd_same
    generalize upd H5 l0 (.lst [.ref a1, .ref a2, .ref a3, .ref a4, .ref a5]) = H6 at s6 h_l0
    refine ⟨_, rfl, .inl ⟨rfl, _, SqL.of h_l0⟩, _, rfl, _, rfl, fun a6 H7 f7 s7 e_a6 => ?_⟩
    refine ⟨l0, _, _, rfl, rfl, (s7 _ _ h_l0), (by show 5 < sizeLine; decide), ?_⟩
    have s8 : Same H5 (upd H7 l0 (.lst ([.ref a1, .ref a2, .ref a3, .ref a4, .ref a5] ++ [.ref a6]))) := fun b o e => by rw [upd_ne (ne_of_none e f6)]; exact (s6.trans s7) b o e
    have g_l0 : (upd H7 l0 (.lst ([.ref a1, .ref a2, .ref a3, .ref a4, .ref a5] ++ [.ref a6]))) l0 = some (.lst [.ref a1, .ref a2, .ref a3, .ref a4, .ref a5, .ref a6]) := upd_same
    have e2_a6 := errAt_lst (ys := ([.ref a1, .ref a2, .ref a3, .ref a4, .ref a5] ++ [.ref a6])) e_a6 (s7 _ _ h_l0)
    generalize upd H7 l0 (.lst ([.ref a1, .ref a2, .ref a3, .ref a4, .ref a5] ++ [.ref a6])) = H8 at s8 g_l0 e2_a6
    have e_a6 := e2_a6
    have h_l0 := g_l0
    refine ⟨(by show 3 ≤ sizeLine; decide), fun w0 f9 => ?_⟩
    have s9 := same_upd (o := .lst [.str "NameTaken", .str "Pinned", .str "NotPinned"]) f9
    have h_w0 : (upd H8 w0 (.lst [.str "NameTaken", .str "Pinned", .str "NotPinned"])) w0 = some (.lst [.str "NameTaken", .str "Pinned", .str "NotPinned"]) := upd_same
    generalize upd H8 w0 (.lst [.str "NameTaken", .str "Pinned", .str "NotPinned"]) = H9 at s9 h_w0
    refine ⟨w0, 2, _, rfl, rfl, h_w0, by decide, by decide, (by show 3 * 2 ≤ sizeLine; decide), fun w1 f10 => ?_⟩
    have s10 := same_upd (o := (.lst (List.replicate (Int.toNat 2) [.str "NameTaken", .str "Pinned", .str "NotPinned"]).flatten)) f10
    have h_w1 : (upd H9 w1 (.lst (List.replicate (Int.toNat 2) [.str "NameTaken", .str "Pinned", .str "NotPinned"]).flatten)) w1 = some (.lst [.str "NameTaken", .str "Pinned", .str "NotPinned", .str "NameTaken", .str "Pinned", .str "NotPinned"]) := upd_same
    generalize upd H9 w1 (.lst (List.replicate (Int.toNat 2) [.str "NameTaken", .str "Pinned", .str "NotPinned"]).flatten) = H10 at s10 h_w1
    have E1 : Es K 2 H10 [a1, a2, a3, a4, a5, a6] ["NameTaken", "Pinned", "NotPinned", "NameTaken", "Pinned", "NotPinned"] := (.cons (errAt_same e_a1 ((((((s2.trans s3).trans s4).trans s5).trans s8).trans s9).trans s10)) M.c_NameTaken (.cons (errAt_same e_a2 (((((s3.trans s4).trans s5).trans s8).trans s9).trans s10)) M.c_Pinned (.cons (errAt_same e_a3 ((((s4.trans s5).trans s8).trans s9).trans s10)) M.c_NotPinned (.cons (errAt_same e_a4 (((s5.trans s8).trans s9).trans s10)) M.c_NameTaken (.cons (errAt_same e_a5 ((s8.trans s9).trans s10)) M.c_Pinned (.cons (errAt_same e_a6 (s9.trans s10)) M.c_NotPinned .nil))))))
    have FA : Fls K "name" (.str c) H10 [a1, a2, a3, a4, a5, a6] := ⟨⟨_, _, (errAt_same e_a1 ((((((s2.trans s3).trans s4).trans s5).trans s8).trans s9).trans s10)), M.NameTaken.xf, M.NameTaken.no, rfl⟩, ⟨⟨_, _, (errAt_same e_a2 (((((s3.trans s4).trans s5).trans s8).trans s9).trans s10)), M.Pinned.xf, M.Pinned.no, rfl⟩, ⟨⟨_, _, (errAt_same e_a3 ((((s4.trans s5).trans s8).trans s9).trans s10)), M.NotPinned.xf, M.NotPinned.no, rfl⟩, ⟨⟨_, _, (errAt_same e_a4 (((s5.trans s8).trans s9).trans s10)), M.NameTaken.xf, M.NameTaken.no, rfl⟩, ⟨⟨_, _, (errAt_same e_a5 ((s8.trans s9).trans s10)), M.Pinned.xf, M.Pinned.no, rfl⟩, ⟨⟨_, _, (errAt_same e_a6 (s9.trans s10)), M.NotPinned.xf, M.NotPinned.no, rfl⟩, trivial⟩⟩⟩⟩⟩⟩
    have k_l0 : H10 l0 = some (.lst ([a1, a2, a3, a4, a5, a6].map V.ref)) := ((s9.trans s10) _ _ h_l0)
    have k_w : H10 w1 = some (.lst ((["NameTaken", "Pinned", "NotPinned", "NameTaken", "Pinned", "NotPinned"] : List Str).map V.str)) := h_w1
    have sH : Same H H10 := (((((((s1.trans s2).trans s3).trans s4).trans s5).trans s8).trans s9).trans s10)
    generalize [a1, a2, a3, a4, a5, a6] = as at E1 FA k_l0
    refine ⟨w1, _, rfl, SqL.of k_w, ?_⟩
    refine for_it (walk_enum (xs := (["NameTaken", "Pinned", "NotPinned", "NameTaken", "Pinned", "NotPinned"] : List Str).map V.str)) (fun i σ G => Same H10 G ∧ ∃ x y, σ = [some (.int n), some (.str c), some (.ref l0), none, x, y, none, none, none]) ⟨Same.refl _, none, none, rfl⟩ (fun i σ G _ h => SqL.of (h.1 _ _ k_w)) ?_ ?_
    · rintro i x σ G1 G2 hi ⟨sm, x', y', rfl⟩ ⟨T', y1, y2, rfl, hT, rfl, e1, e2⟩
      cases e1
      obtain ⟨c', hc, rfl⟩ := str_of e2
      have sm2 := sm.trans (same_upd (o := .tup [.int (i : Nat), .str c']) hT)
      refine ⟨T', _, rfl, .inl (.inl upd_same), rfl, _, _, rfl, _, _, rfl, rfl, ?_⟩
      generalize (upd G1 T' (.tup [.int (i : Nat), .str c'])) = G at *
      obtain ⟨a, fs, ha, ea, cl⟩ := E1.at_ hc
      refine ⟨_, rfl, _, rfl, l0, _, _, _, rfl, rfl, SqL.of (sm2 _ _ k_l0), ref_at ha, _, rfl, a, _, fs, c', 2, rfl, errAt_same ea sm2, cl.kt, cl.fl, cl.sp, fun G3 s3 => ⟨_, rfl, ifF rfl ?_⟩⟩
      have sm3 := sm2.trans s3
      obtain ⟨C, gs, eb, xf, no, lk⟩ := (FA.at_ ha).same sm3
      refine ⟨_, rfl, _, rfl, l0, _, _, _, rfl, rfl, SqL.of (sm3 _ _ k_l0), ref_at ha, a, C, gs, _, rfl, xf, no, eb, lk, _, rfl, rfl, _, rfl, ifF (by rw [decide_eq_true rfl]; rfl) ?_⟩
      exact ⟨sm3, _, _, rfl⟩
    · rintro σ G ⟨sm, x, y, rfl⟩
      refine ⟨_, rfl, _, rfl, fun a7 J1 g1 u1 e_a7 => ?_⟩
      refine ⟨_, rfl, _, rfl, fun a8 J2 g2 u2 e_a8 => ?_⟩
      refine ⟨(by show 2 ≤ sizeLine; decide), fun lo g3 => ?_⟩
      have u3 := same_upd (o := .lst [.ref a7, .ref a8]) g3
      have h_lo : (upd J2 lo (.lst [.ref a7, .ref a8])) lo = some (.lst [.ref a7, .ref a8]) := upd_same
      generalize upd J2 lo (.lst [.ref a7, .ref a8]) = J3 at u3 h_lo
      refine ⟨_, rfl, _, rfl, fun a9 J4 g4 u4 e_a9 => ?_⟩
      refine ⟨_, rfl, _, rfl, fun a10 J5 g5 u5 e_a10 => ?_⟩
      refine ⟨(by show 2 ≤ sizeLine; decide), fun lr g6 => ?_⟩
      have u6 := same_upd (o := .lst [.ref a9, .ref a10]) g6
      have h_lr : (upd J5 lr (.lst [.ref a9, .ref a10])) lr = some (.lst [.ref a9, .ref a10]) := upd_same
      generalize upd J5 lr (.lst [.ref a9, .ref a10]) = J6 at u6 h_lr
      refine ⟨_, _, rfl, ?_⟩
      refine ⟨_, rfl, _, rfl, fun a11 J7 g7 u7 e_a11 => ?_⟩
      refine ⟨_, rfl, _, rfl, fun a12 J8 g8 u8 e_a12 => ?_⟩
      refine ⟨(by show 2 ≤ sizeLine; decide), fun lt g9 => ?_⟩
      have u9 := same_upd (o := .lst [.ref a11, .ref a12]) g9
      have h_lt : (upd J8 lt (.lst [.ref a11, .ref a12])) lt = some (.lst [.ref a11, .ref a12]) := upd_same
      generalize upd J8 lt (.lst [.ref a11, .ref a12]) = J9 at u9 h_lt
      have sJ : Same G J9 := ((((((((u1.trans u2).trans u3).trans u4).trans u5).trans u6).trans u7).trans u8).trans u9)
      have E_lo : Es K 2 J9 [a7, a8] ["NoReservation", "NoReservation"] := (.cons (errAt_same e_a7 (((((((u2.trans u3).trans u4).trans u5).trans u6).trans u7).trans u8).trans u9)) M.c_NoReservation (.cons (errAt_same e_a8 ((((((u3.trans u4).trans u5).trans u6).trans u7).trans u8).trans u9)) M.c_NoReservation .nil))
      have F_lo : Fls K "owner" (.str c) J9 [a7, a8] := ⟨⟨_, _, (errAt_same e_a7 (((((((u2.trans u3).trans u4).trans u5).trans u6).trans u7).trans u8).trans u9)), M.NoReservation.xf, M.NoReservation.no, rfl⟩, ⟨⟨_, _, (errAt_same e_a8 ((((((u3.trans u4).trans u5).trans u6).trans u7).trans u8).trans u9)), M.NoReservation.xf, M.NoReservation.no, rfl⟩, trivial⟩⟩
      have k_lo : J9 lo = some (.lst ([a7, a8].map V.ref)) := ((((((u4.trans u5).trans u6).trans u7).trans u8).trans u9) _ _ h_lo)
      generalize [a7, a8] = as_lo at E_lo F_lo k_lo
      have E_lr : Es K 2 J9 [a9, a10] ["NotReady", "NotReady"] := (.cons (errAt_same e_a9 ((((u5.trans u6).trans u7).trans u8).trans u9)) M.c_NotReady (.cons (errAt_same e_a10 (((u6.trans u7).trans u8).trans u9)) M.c_NotReady .nil))
      have F_lr : Fls K "task" (.str c) J9 [a9, a10] := ⟨⟨_, _, (errAt_same e_a9 ((((u5.trans u6).trans u7).trans u8).trans u9)), M.NotReady.xf, M.NotReady.no, rfl⟩, ⟨⟨_, _, (errAt_same e_a10 (((u6.trans u7).trans u8).trans u9)), M.NotReady.xf, M.NotReady.no, rfl⟩, trivial⟩⟩
      have k_lr : J9 lr = some (.lst ([a9, a10].map V.ref)) := (((u7.trans u8).trans u9) _ _ h_lr)
      generalize [a9, a10] = as_lr at E_lr F_lr k_lr
      have E_lt : Es K 2 J9 [a11, a12] ["Occupied", "Occupied"] := (.cons (errAt_same e_a11 (u8.trans u9)) M.c_Occupied (.cons (errAt_same e_a12 u9) M.c_Occupied .nil))
      have F_lt : Fls K "address" (.int n) J9 [a11, a12] := ⟨⟨_, _, (errAt_same e_a11 (u8.trans u9)), M.Occupied.xf, M.Occupied.no, rfl⟩, ⟨⟨_, _, (errAt_same e_a12 u9), M.Occupied.xf, M.Occupied.no, rfl⟩, trivial⟩⟩
      have k_lt : J9 lt = some (.lst ([a11, a12].map V.ref)) := h_lt
      generalize [a11, a12] = as_lt at E_lt F_lt k_lt
      refine ⟨2, rfl, by decide, by decide, ?_⟩
      refine for_range (fun i σ G => Same J9 G ∧ ∃ x y z, σ = [some (.int n), some (.str c), some (.ref l0), some (.ref lt), x, y, some (.ref lo), some (.ref lr), z]) ⟨Same.refl _, _, _, _, rfl⟩ ?_ ?_
      · rintro i σ G0 hi ⟨u0, x', y', z', rfl⟩
        have hi2 : i < 2 := by omega
        obtain ⟨p1, f1, i1, e1, c1, _⟩ := two_at E_lo F_lo hi2 u0
        refine ⟨_, rfl, _, rfl, lo, _, _, _, rfl, rfl, SqL.of (u0 _ _ k_lo), ref_at0 i1, p1, _, f1, "NoReservation", 2, rfl, e1, c1.kt, c1.fl, c1.sp, fun G1 v1 => ?_⟩
        have u1 := u0.trans v1
        obtain ⟨p2, f2, i2, e2, c2, _⟩ := two_at E_lr F_lr hi2 u1
        refine ⟨_, rfl, _, rfl, lr, _, _, _, rfl, rfl, SqL.of (u1 _ _ k_lr), ref_at0 i2, p2, _, f2, "NotReady", 2, rfl, e2, c2.kt, c2.fl, c2.sp, fun G2 v2 => ?_⟩
        have u2 := u1.trans v2
        refine ⟨(by show 2 ≤ sizeLine; decide), fun t ht => ?_⟩
        have u3 := u2.trans (same_upd (o := .lst [.bl true, .bl true]) ht)
        have h3 : (upd G2 t (.lst [.bl true, .bl true])) t = some (.lst [.bl true, .bl true]) := upd_same
        generalize upd G2 t (.lst [.bl true, .bl true]) = G3 at u3 h3
        obtain ⟨p3, f3, i3, e3, c3, _⟩ := two_at E_lt F_lt hi2 u3
        refine ⟨_, rfl, _, rfl, _, rfl, lt, _, _, _, rfl, rfl, SqL.of (u3 _ _ k_lt), ref_at0 i3, p3, _, f3, "Occupied", 2, rfl, e3, c3.kt, c3.fl, c3.sp, fun G4 v4 => ?_⟩
        have u4 := u3.trans v4
        refine ⟨(by show 1 ≤ sizeLine; decide), fun t1 ht1 => ?_⟩
        have v5 := same_upd (o := .lst [.bl true]) ht1
        have h5 : (upd G4 t1 (.lst [.bl true])) t1 = some (.lst [.bl true]) := upd_same
        generalize upd G4 t1 (.lst [.bl true]) = G5 at v5 h5
        refine ⟨t, t1, _, _, rfl, rfl, v5 _ _ (v4 _ _ h3), h5, (by show 2 + 1 ≤ sizeLine; decide), fun t2 ht2 => ?_⟩
        have v6 := same_upd (o := .lst ([.bl true, .bl true] ++ [.bl true])) ht2
        have h6 : (upd G5 t2 (.lst ([.bl true, .bl true] ++ [.bl true]))) t2 = some (.lst [.bl true, .bl true, .bl true]) := upd_same
        have u6 := (u4.trans v5).trans v6
        generalize upd G5 t2 (.lst ([.bl true, .bl true] ++ [.bl true])) = G6 at u6 h6
        refine ⟨(by show 1 ≤ sizeLine; decide), fun t3 ht3 => ?_⟩
        have v7 := same_upd (o := .lst [.bl true]) ht3
        have h7 : (upd G6 t3 (.lst [.bl true])) t3 = some (.lst [.bl true]) := upd_same
        generalize upd G6 t3 (.lst [.bl true]) = G7 at v7 h7
        refine ⟨t3, 3, _, rfl, rfl, h7, by decide, by decide, (by show 1 * 3 ≤ sizeLine; decide), fun t4 ht4 => ?_⟩
        have v8 := same_upd (o := (.lst (List.replicate (Int.toNat 3) [.bl true]).flatten)) ht4
        have h8 : (upd G7 t4 (.lst (List.replicate (Int.toNat 3) [.bl true]).flatten)) t4 = some (.lst [.bl true, .bl true, .bl true]) := upd_same
        have u8 := (u6.trans v7).trans v8
        have h68 := v8 _ _ (v7 _ _ h6)
        generalize upd G7 t4 (.lst (List.replicate (Int.toNat 3) [.bl true]).flatten) = G8 at v8 u8 h8 h68
        refine ⟨.list [.bool true, .bool true, .bool true], .list [.bool true, .bool true, .bool true], .lst (SqL.of h68) (.cons (.bl _) (.cons (.bl _) (.cons (.bl _) .nil))), .lst (SqL.of h8) (.cons (.bl _) (.cons (.bl _) (.cons (.bl _) .nil))), rfl, rfl, _, rfl, ifF rfl ?_⟩
        obtain ⟨p1, f1, i1, _, _, C1, g1, e1, x1, n1', l1⟩ := two_at E_lo F_lo hi2 u8
        obtain ⟨p2, f2, i2, _, _, C2, g2, e2, x2, n2, l2⟩ := two_at E_lr F_lr hi2 u8
        obtain ⟨p3, f3, i3, _, _, C3, g3, e3, x3, n3, l3⟩ := two_at E_lt F_lt hi2 u8
        refine ⟨_, rfl, _, rfl, lo, _, _, _, rfl, rfl, SqL.of (u8 _ _ k_lo), ref_at0 i1, p1, C1, g1, _, rfl, x1, n1', e1, l1, ?_⟩
        refine ⟨_, rfl, _, rfl, lr, _, _, _, rfl, rfl, SqL.of (u8 _ _ k_lr), ref_at0 i2, p2, C2, g2, _, rfl, x2, n2, e2, l2, ?_⟩
        refine ⟨_, rfl, _, rfl, lt, _, _, _, rfl, rfl, SqL.of (u8 _ _ k_lt), ref_at0 i3, p3, C3, g3, _, rfl, x3, n3, e3, l3, (by show 3 ≤ sizeLine; decide), fun t5 ht5 => ?_⟩
        have u9 := u8.trans (same_upd (o := .lst [.str c, .str c, .int n]) ht5)
        have h9 : (upd G8 t5 (.lst [.str c, .str c, .int n])) t5 = some (.lst [.str c, .str c, .int n]) := upd_same
        generalize upd G8 t5 (.lst [.str c, .str c, .int n]) = G9 at u9 h9
        have al : ∀ H', TqAll K H' [.str c, .str c, .int n] [.str c, .str c, .int n] 2 100 := fun H' => tq_cons wd.tq (tq_cons wd.tq (tq_cons (tw _) tq_nil))
        have t1 : Tq K _ (.ref t5) _ 3 2000 := ((al _).lst h9).mono (by decide) (by show 3 * 102 + 3 ≤ 2000; decide)
        refine ⟨_, _, rfl, t1.dq, t1.sh, Nat.le_trans t1.dp (by decide), Nat.le_trans t1.ln (by decide), ?_⟩
        refine ⟨_, rfl, _, rfl, _, rfl, (by show 3 ≤ sizeLine; decide), fun t6 ht6 => ?_⟩
        have u10 := u9.trans (same_upd (o := .lst [.str c, .str c, .int n]) ht6)
        have h10 : (upd G9 t6 (.lst [.str c, .str c, .int n])) t6 = some (.lst [.str c, .str c, .int n]) := upd_same
        have t2 : Tq K _ (.ref t6) _ 3 2000 := ((al _).lst h10).mono (by decide) (by show 3 * 102 + 3 ≤ 2000; decide)
        refine ⟨_, _, rfl, t2.dq, t2.sh, Nat.le_trans t2.dp (by decide), Nat.le_trans t2.ln (by decide), rfl, _, rfl, ifF (by rw [decide_eq_true rfl]; rfl) ?_⟩
        exact ⟨u10, _, _, _, rfl⟩
      · rintro σ G0 ⟨u0, x, y, z, rfl⟩
        exact q _ (sH.trans (sm.trans (sJ.trans u0)))
def spSum (K : PySem.W.Frag) : Sp := fun vs H Q _ => ∃ n : Int, vs = [.int n] ∧ 0 ≤ n ∧ n < 1000000 ∧ ∀ H', Same H H' → Q (.bl true) H'
theorem sc__law_sums_right : FnScope ["_law_whole", "_law_k", "_law_short", "_law_many"] ["_law_whole"] (defScope (top 43)) := ⟨rfl, rfl, rfl, by decide +kernel, rfl, by decide +kernel, by decide +kernel⟩
theorem ok_sums (T : Tx K mg) (M : Ers P w K mg base) (D__law_is : Df P w K mg base 2 "_law_is" ["_law_e", "_law_word", "_law_base_here"] (spIs K)) (F : FnP K "_law_sums_right" "_law_sums_right" (top 43) f fd) : FnG P w K mg base CX0 3 f fd ["_law_whole"] (spSum K) := by
  refine okG F sc__law_sums_right (fun vs H Q E h => ?_) (fun cdv A outer s H vs Q E hr h => ⟨_, PSs.nox (pss_cons (ps_par (by rfl) sc__law_sums_right.nd (i := 2) (j := 3) rfl rfl (by decide) rfl rfl (pa_cons (pe_lst (pa_cons (pmk1 M.NoRoom hr.r (pa_cons (pv 0) pa_nil)) (pa_cons (pmk1K M.NoRoom hr.r (pk_cons (pv 0) pk_nil)) pa_nil))) (pa_cons (pe_lst (pa_cons (pmk1 M.TooManyPieces hr.r (pa_cons (pv 0) pa_nil)) (pa_cons (pmk1K M.TooManyPieces hr.r (pk_cons (pv 0) pk_nil)) pa_nil))) pa_nil)) (by rfl)) (pss_cons (ps_for PassesOwn.never rfl (pi_range1 rfl T.n_range (pa_cons pe_int pa_nil)) (pg_name (i := 1) sc__law_sums_right.nd rfl (by first | exact Or.inl rfl | exact Or.inr rfl)) (pss_cons (ps_if (PW.pt (pw_or (pt_not (pt_val (pcall D__law_is hr.r (pa_cons (pe_ix ix_list (pv 2) (pv 1) (fun _ _ => rfl)) (pa_cons pe_str (pa_cons pe_int pa_nil)))))) (pw_or1 (pt_not (pt_val (pcall D__law_is hr.r (pa_cons (pe_ix ix_list (pv 3) (pv 1) (fun _ _ => rfl)) (pa_cons pe_str (pa_cons pe_int pa_nil))))))))) (pss_one (ps_ret pe_bl)) pss_nil) (pss_one (ps_if (pt_cmpR op_ne (pe_callB (call_reprQ hr T.sys) (by rfl) T.n_repr (by decide +kernel) (pa_cons (pe_lst (pa_cons (pe_errF (K := K) (pe_ix ix_list (pv 2) (pv 1) (fun _ _ => rfl))) (pa_cons (pe_errF (K := K) (pe_ix ix_list (pv 3) (pv 1) (fun _ _ => rfl))) pa_nil))) pa_nil)) (pe_callB (call_reprQ hr T.sys) (by rfl) T.n_repr (by decide +kernel) (pa_cons (pe_lst (pa_cons (pv 0) (pa_cons (pv 0) pa_nil))) pa_nil)) (nomark _)) (pss_one (ps_ret pe_bl)) pss_nil)))) (pss_one (ps_ret pe_bl)))), ?_⟩)
  · obtain ⟨n, rfl, _⟩ := h
    rfl
  · obtain ⟨n, rfl, n0, n1, q⟩ := h
    have b39 : (10 : Int) ^ 39 = 1000000000000000000000000000000000000000 := by decide
    have tw : ∀ H, Tq K H (.int n) (.int n) 2 100 := fun H => (tq_int (by omega) (by omega)).mono (by decide) (by decide)
    refine ⟨_, rfl, _, rfl, fun a1 H1 f1 s1 e_a1 => ?_⟩
    refine ⟨_, rfl, _, rfl, fun a2 H2 f2 s2 e_a2 => ?_⟩
    refine ⟨(by show 2 ≤ sizeLine; decide), fun ls f3 => ?_⟩
    have s3 := same_upd (o := .lst [.ref a1, .ref a2]) f3
    have h_ls : (upd H2 ls (.lst [.ref a1, .ref a2])) ls = some (.lst [.ref a1, .ref a2]) := upd_same
    generalize upd H2 ls (.lst [.ref a1, .ref a2]) = H3 at s3 h_ls
    refine ⟨_, rfl, _, rfl, fun a3 H4 f4 s4 e_a3 => ?_⟩
    refine ⟨_, rfl, _, rfl, fun a4 H5 f5 s5 e_a4 => ?_⟩
    refine ⟨(by show 2 ≤ sizeLine; decide), fun lm f6 => ?_⟩
    have s6 := same_upd (o := .lst [.ref a3, .ref a4]) f6
    have h_lm : (upd H5 lm (.lst [.ref a3, .ref a4])) lm = some (.lst [.ref a3, .ref a4]) := upd_same
    generalize upd H5 lm (.lst [.ref a3, .ref a4]) = H6 at s6 h_lm
    refine ⟨_, _, rfl, ?_⟩
    have sH : Same H H6 := (((((s1.trans s2).trans s3).trans s4).trans s5).trans s6)
    have E_ls : Es K 3 H6 [a1, a2] ["NoRoom", "NoRoom"] := (.cons (errAt_same e_a1 ((((s2.trans s3).trans s4).trans s5).trans s6)) M.c_NoRoom (.cons (errAt_same e_a2 (((s3.trans s4).trans s5).trans s6)) M.c_NoRoom .nil))
    have F_ls : Fls K "level" (.int n) H6 [a1, a2] := ⟨⟨_, _, (errAt_same e_a1 ((((s2.trans s3).trans s4).trans s5).trans s6)), M.NoRoom.xf, M.NoRoom.no, rfl⟩, ⟨⟨_, _, (errAt_same e_a2 (((s3.trans s4).trans s5).trans s6)), M.NoRoom.xf, M.NoRoom.no, rfl⟩, trivial⟩⟩
    have k_ls : H6 ls = some (.lst ([a1, a2].map V.ref)) := (((s4.trans s5).trans s6) _ _ h_ls)
    generalize [a1, a2] = as_ls at E_ls F_ls k_ls
    have E_lm : Es K 3 H6 [a3, a4] ["TooManyPieces", "TooManyPieces"] := (.cons (errAt_same e_a3 (s5.trans s6)) M.c_TooManyPieces (.cons (errAt_same e_a4 s6) M.c_TooManyPieces .nil))
    have F_lm : Fls K "limit" (.int n) H6 [a3, a4] := ⟨⟨_, _, (errAt_same e_a3 (s5.trans s6)), M.TooManyPieces.xf, M.TooManyPieces.no, rfl⟩, ⟨⟨_, _, (errAt_same e_a4 s6), M.TooManyPieces.xf, M.TooManyPieces.no, rfl⟩, trivial⟩⟩
    have k_lm : H6 lm = some (.lst ([a3, a4].map V.ref)) := h_lm
    generalize [a3, a4] = as_lm at E_lm F_lm k_lm
    refine ⟨2, rfl, by decide, by decide, ?_⟩
    refine for_range (fun i σ G => Same H6 G ∧ ∃ x, σ = [some (.int n), x, some (.ref ls), some (.ref lm)]) ⟨Same.refl _, _, rfl⟩ ?_ ?_
    · rintro i σ G0 hi ⟨u0, x', rfl⟩
      have hi2 : i < 2 := by omega
      obtain ⟨p1, f1, i1, e1, c1, _⟩ := two_at E_ls F_ls hi2 u0
      refine ⟨_, rfl, _, rfl, ls, _, _, _, rfl, rfl, SqL.of (u0 _ _ k_ls), ref_at0 i1, p1, _, f1, "NoRoom", 3, rfl, e1, c1.kt, c1.fl, c1.sp, fun G1 v1 => ⟨_, rfl, ifF rfl ?_⟩⟩
      have u1 := u0.trans v1
      obtain ⟨p2, f2, i2, e2, c2, _⟩ := two_at E_lm F_lm hi2 u1
      refine ⟨_, rfl, _, rfl, lm, _, _, _, rfl, rfl, SqL.of (u1 _ _ k_lm), ref_at0 i2, p2, _, f2, "TooManyPieces", 3, rfl, e2, c2.kt, c2.fl, c2.sp, fun G2 v2 => ⟨_, rfl, ifF rfl ?_⟩⟩
      have u8 := u1.trans v2
      obtain ⟨p1, f1, i1, _, _, C1, g1, e1, x1, m1, l1⟩ := two_at E_ls F_ls hi2 u8
      obtain ⟨p2, f2, i2, _, _, C2, g2, e2, x2, m2, l2⟩ := two_at E_lm F_lm hi2 u8
      refine ⟨_, rfl, _, rfl, ls, _, _, _, rfl, rfl, SqL.of (u8 _ _ k_ls), ref_at0 i1, p1, C1, g1, _, rfl, x1, m1, e1, l1, ?_⟩
      refine ⟨_, rfl, _, rfl, lm, _, _, _, rfl, rfl, SqL.of (u8 _ _ k_lm), ref_at0 i2, p2, C2, g2, _, rfl, x2, m2, e2, l2, (by show 2 ≤ sizeLine; decide), fun t5 ht5 => ?_⟩
      have u9 := u8.trans (same_upd (o := .lst [.int n, .int n]) ht5)
      have h9 : (upd G2 t5 (.lst [.int n, .int n])) t5 = some (.lst [.int n, .int n]) := upd_same
      generalize upd G2 t5 (.lst [.int n, .int n]) = G9 at u9 h9
      have al : ∀ H', TqAll K H' [.int n, .int n] [.int n, .int n] 2 100 := fun H' => tq_cons (tw _) (tq_cons (tw _) tq_nil)
      have t1 : Tq K _ (.ref t5) _ 3 2000 := ((al _).lst h9).mono (by decide) (by show 2 * 102 + 3 ≤ 2000; decide)
      refine ⟨_, _, rfl, t1.dq, t1.sh, Nat.le_trans t1.dp (by decide), Nat.le_trans t1.ln (by decide), ?_⟩
      refine ⟨_, rfl, _, rfl, (by show 2 ≤ sizeLine; decide), fun t6 ht6 => ?_⟩
      have u10 := u9.trans (same_upd (o := .lst [.int n, .int n]) ht6)
      have h10 : (upd G9 t6 (.lst [.int n, .int n])) t6 = some (.lst [.int n, .int n]) := upd_same
      have t2 : Tq K _ (.ref t6) _ 3 2000 := ((al _).lst h10).mono (by decide) (by show 2 * 102 + 3 ≤ 2000; decide)
      refine ⟨_, _, rfl, t2.dq, t2.sh, Nat.le_trans t2.dp (by decide), Nat.le_trans t2.ln (by decide), rfl, _, rfl, ifF (by rw [decide_eq_true rfl]; rfl) ?_⟩
      exact ⟨u10, _, rfl⟩
    · rintro σ G0 ⟨u0, x, rfl⟩
      exact q _ (sH.trans u0)
end
end K17

set_option Elab.async false
set_option linter.all false
set_option maxRecDepth 100000
set_option maxHeartbeats 4000000
namespace K17
open PySem PySem.Spec PyProof.Rows L2 Gu Ex
theorem wd_of {v : V} (h : v ∈ [V.str "a", V.str "ann", V.str "list", V.str "count", V.str "zebra"]) : ∃ c, v = .str c ∧ Wd c := by
  simp only [List.mem_cons, List.not_mem_nil, or_false] at h
  rcases h with rfl | rfl | rfl | rfl | rfl
  · exact ⟨_, rfl, by decide +kernel, by decide +kernel, by decide +kernel⟩
  · exact ⟨_, rfl, by decide +kernel, by decide +kernel, by decide +kernel⟩
  · exact ⟨_, rfl, by decide +kernel, by decide +kernel, by decide +kernel⟩
  · exact ⟨_, rfl, by decide +kernel, by decide +kernel, by decide +kernel⟩
  · exact ⟨_, rfl, by decide +kernel, by decide +kernel, by decide +kernel⟩
theorem tq_road {K : PySem.W.Frag} {H : Hp} : ∀ {is : List Int}, (∀ i ∈ is, 0 ≤ i ∧ i < 9) → TqAll K H (is.map V.int) (is.map PyData.int) 0 1
  | [], _ => tq_nil
  | i :: is, h => by
    have hi := h i List.mem_cons_self
    refine tq_cons ⟨.int i, ?_, Nat.zero_le _, ?_⟩ (tq_road fun j hj => h j (List.mem_cons_of_mem _ hj))
    · obtain ⟨n, rfl⟩ := Int.eq_ofNat_of_zero_le hi.1
      rcases (show n = 0 ∨ n = 1 ∨ n = 2 ∨ n = 3 ∨ n = 4 ∨ n = 5 ∨ n = 6 ∨ n = 7 ∨ n = 8 by omega) with rfl | rfl | rfl | rfl | rfl | rfl | rfl | rfl | rfl <;> decide +kernel
    · obtain ⟨n, rfl⟩ := Int.eq_ofNat_of_zero_le hi.1
      rcases (show n = 0 ∨ n = 1 ∨ n = 2 ∨ n = 3 ∨ n = 4 ∨ n = 5 ∨ n = 6 ∨ n = 7 ∨ n = 8 by omega) with rfl | rfl | rfl | rfl | rfl | rfl | rfl | rfl | rfl <;> decide +kernel
theorem Stp.same {r : Addr} {H H' : Hp} (h : Rng H r) (s : Same H H') : Stp r H H' := by
  obtain ⟨a, b, e, z⟩ := h
  exact ⟨⟨a, b, s _ _ e, z⟩, fun c o _ e => s c o e⟩
section
variable {P : Program} {w : World} {K : PySem.W.Frag} {mg : Str → Option Value} {base : Heap} {f : Addr} {fd : FuncData}
def spRight (K : PySem.W.Frag) : Sp := fun vs H Q _ => ∃ r : Addr, vs = [.ref r] ∧ Rng H r ∧ ∀ H', Stp r H H' → Q (.bl true) H'
theorem sc__law_right : FnScope ["_law_rng_here", "_law_road", "_law_e", "_law_near", "_law_whole", "_law_word", "_law_turn"] ["_law_rng_here"] (defScope (top 44)) := ⟨rfl, rfl, rfl, by decide +kernel, rfl, by decide +kernel, by decide +kernel⟩
theorem ok_right (T : Tx K mg) (D__law_any : Df P w K mg base 3 "_law_any" ["_law_rng_here"] (spAny K)) (D__law_draw : Df P w K mg base 1 "_law_draw" ["_law_rng_here", "_law_many"] spDraw) (D__law_choice : Df P w K mg base 2 "_law_choice" ["_law_rng_here", "_law_options"] spChoice)
    (D__law_values_right : DfG P w K mg base 3 "_law_values_right" ["_law_near"] (spSeen K)) (D__law_unknown_right : DfG P w K mg base 3 "_law_unknown_right" ["_law_near"] (spSeen K)) (D__law_positions_right : DfG P w K mg base 3 "_law_positions_right" ["_law_whole", "_law_word"] (spPos K))
    (D__law_texts_right : DfG P w K mg base 3 "_law_texts_right" ["_law_whole", "_law_word", "_law_road"] (spTxt K)) (D__law_states_right : DfG P w K mg base 3 "_law_states_right" ["_law_whole", "_law_word"] (spPos K)) (D__law_sums_right : DfG P w K mg base 3 "_law_sums_right" ["_law_whole"] (spSum K))
    (O0 : E0c K mg "RoomError") (k : Kt K (He.ga K "RoomError") "RoomError" 0) (D__law_base : Df P w K mg base 1 "_law_base" ["_law_e"] (spBase K)) (D__law_first_words : Df P w K mg base 1 "_law_first_words" ["_law_e"] (spWords K firsts)) (D__law_last_words : Df P w K mg base 1 "_law_last_words" ["_law_e"] (spWords K lasts))
    (F : FnP K "_law_right" "_law_right" (top 44) f fd) : FnG P w K mg base CX0 4 f fd ["_law_rng_here"] (spRight K) := by
  refine okG F sc__law_right (fun vs H Q E h => ?_) (fun cdv A outer s H vs Q E hr h => ⟨_, PSs.nox (pss_cons (ps_par3 (by rfl) sc__law_right.nd (i := 3) (j := 4) (l := 5) rfl rfl rfl (by decide) (by decide) (by decide) rfl rfl rfl (pa_cons (pcall D__law_any hr.r (pa_cons (pv 0) pa_nil)) (pa_cons (pcall D__law_draw hr.r (pa_cons (pv 0) (pa_cons (pe_op op_pow pe_int pe_int) pa_nil))) (pa_cons (pcall D__law_choice hr.r (pa_cons (pv 0) (pa_cons (pe_lst (pa_cons pe_str (pa_cons pe_str (pa_cons pe_str (pa_cons pe_str (pa_cons pe_str pa_nil)))))) pa_nil))) pa_nil))) (by rfl)) (pss_cons (ps_set (i := 1) sc__law_right.nd rfl (by first | exact Or.inl rfl | exact Or.inr rfl) (pe_callTy call_tuple_of (by rfl) T.n_tuple (by decide +kernel) (pa_cons (pe_lc (own := [("_law_turn", 6)]) (g := gName 6) rfl sc__law_right.nd (pi_range1 rfl T.n_range (pa_cons (pcall D__law_draw hr.r (pa_cons (pv 0) (pa_cons pe_int pa_nil))) pa_nil)) (blkOk_by (own := [("_law_turn", 6)]) (N := ["_law_rng_here", "_law_road", "_law_e", "_law_near", "_law_whole", "_law_word", "_law_turn"]) (sc := defScope (top 44)) (by decide +kernel)) (fun _ _ _ _ _ => pg_name (i := 6) sc__law_right.nd rfl (Or.inl rfl)) (fun _ _ _ _ _ => pts_nil) (fun _ _ _ _ _ => (pcall D__law_draw hr.r (pa_cons (pv 0) (pa_cons pe_int pa_nil))))) pa_nil))) (pss_cons (ps_if (PW.pt (pw_or (pt_not (pt_val (pcallG D__law_values_right hr (pa_cons (pv 3) pa_nil)))) (pw_or (pt_not (pt_val (pcallG D__law_unknown_right hr (pa_cons (pv 3) pa_nil)))) (pw_or1 (pt_not (pt_val (pcallG D__law_positions_right hr (pa_cons (pv 4) (pa_cons (pv 5) pa_nil))))))))) (pss_one (ps_ret pe_bl)) pss_nil) (pss_cons (ps_if (PW.pt (pw_or (pt_not (pt_val (pcallG D__law_texts_right hr (pa_cons (pv 4) (pa_cons (pv 5) (pa_cons (pv 1) pa_nil)))))) (pw_or1 (pt_not (pt_val (pcallG D__law_states_right hr (pa_cons (pv 4) (pa_cons (pv 5) pa_nil)))))))) (pss_one (ps_ret pe_bl)) pss_nil) (pss_cons (ps_set (i := 2) sc__law_right.nd rfl (by first | exact Or.inl rfl | exact Or.inr rfl) (pmk0 O0 pe_str)) (pss_one (ps_ret (pe_and (pcallG D__law_sums_right hr (pa_cons (pv 4) pa_nil)) (pe_and (pe_cmpR (op_eqD hr.r.units) (pe_op op_cat (pcall D__law_first_words hr.r (pa_cons (pv 2) pa_nil)) (pcall D__law_last_words hr.r (pa_cons (pv 2) pa_nil))) (pe_lst pa_nil) (nomark _)) (pe_one (pe_cmpR op_eq (pcall D__law_base hr.r (pa_cons (pv 2) pa_nil)) pe_int (nomark _)))))))))))), ?_⟩)
  · obtain ⟨r, rfl, _⟩ := h
    rfl
  · obtain ⟨r, rfl, hR, q⟩ := h
    have pw6 : CPow 10 6 := ⟨by decide, by decide, by decide⟩
    have e6 : (10 : Int) ^ (6 : Int).toNat = 1000000 := by decide
    have e40 : (10 : Int) ^ 40 = 10000000000000000000000000000000000000000 := by decide
    refine ⟨_, rfl, r, rfl, hR, fun near H1 t1 val => ?_⟩
    refine ⟨_, rfl, _, _, rfl, rfl, pw6, r, _, rfl, t1.1, by rw [e6]; decide, by rw [e6, e40]; decide, fun n H2 n0 n1 t2 => ?_⟩
    rw [e6] at n1
    refine ⟨_, rfl, (by show 5 ≤ sizeLine; decide), fun l hl => ?_⟩
    have t3 := t2.new (o := .lst [.str "a", .str "ann", .str "list", .str "count", .str "zebra"]) hl
    have nl : l ≠ r := (t2.1.ne hl).symm
    refine ⟨r, l, _, rfl, t3.1, upd_same, nl, (by show 1 ≤ 5; decide), (by show 5 ≤ 1000; decide), fun v H3 hv t4 => ?_⟩
    obtain ⟨c, rfl, wd⟩ := wd_of hv
    refine ⟨_, _, _, rfl, ?_⟩
    have t5 := t3.trans t4
    refine ⟨_, rfl, r, 4, rfl, t5.1, by decide, by rw [e40]; decide, fun j H4 j0 j1 t6 => ?_⟩
    refine ⟨j, rfl, by omega, by omega, fun D hD => ?_⟩
    have nD : D ≠ r := (t6.1.ne hD).symm
    have t7 := (t5.trans t6).new (o := .lst []) hD
    have fD := (t5.trans t6).free hD
    have hD0 : (upd H4 D (.lst [])) D = some (.lst (([] : List Int).map V.int)) := upd_same
    refine lc_range (fun i G => ∃ ms : List Int, ms.length = i ∧ G D = some (.lst (ms.map V.int)) ∧ (∀ x ∈ ms, 0 ≤ x ∧ x < 9) ∧ Stp r H1 G) ⟨[], rfl, hD0, fun _ z => absurd z List.not_mem_nil, t7⟩ ?_ ?_
    · rintro i G hi ⟨ms, lm, hG, hms, tG⟩
      refine ⟨rfl, _, rfl, r, 9, rfl, tG.1, by decide, by rw [e40]; decide, fun x G1 x0 x1 u1 => ?_⟩
      refine ⟨_, u1.2 _ _ nD hG, (by rw [List.length_map]; have := sizeLine_eq; omega), ms ++ [x], (by rw [List.length_append, lm]; rfl), ?_, fun y hy => ?_, ?_⟩
      · rw [upd_same, List.map_append]
        rfl
      · rcases List.mem_append.mp hy with z | z
        · exact hms y z
        · rw [List.mem_singleton.mp z]
          exact ⟨x0, x1⟩
      · obtain ⟨⟨a, b, e, z⟩, kp⟩ := tG.trans u1
        refine ⟨⟨a, b, by rw [upd_ne nD.symm]; exact e, z⟩, fun c o nc ec => ?_⟩
        rw [upd_ne (ne_of_none ec fD)]
        exact kp c o nc ec
    rintro G ⟨ms, lm, hG, hms, tG⟩
    refine ⟨D, _, rfl, .inl ⟨SqL.of hG, fun tp htp => ?_⟩⟩
    have t8 := tG.new (o := .tup (ms.map V.int)) htp
    have hT : (upd G tp (.tup (ms.map V.int))) tp = some (.tup (ms.map V.int)) := upd_same
    have st := t1.trans t8
    generalize upd G tp (.tup (ms.map V.int)) = G0 at t8 hT st
    obtain ⟨d, tv⟩ := val G0 t8
    have tr : Tq K G0 (.ref tp) (.tuple (ms.map PyData.int)) 2 100 := ((tq_road hms).tup hT).mono (by decide) (by rw [List.length_map]; omega)
    refine ⟨_, rfl, near, d, rfl, tv, fun G1 s1 => ⟨_, rfl, ifF rfl ?_⟩⟩
    refine ⟨_, rfl, near, d, rfl, tv.same s1, fun G2 s2 => ⟨_, rfl, ifF rfl ?_⟩⟩
    refine ⟨_, rfl, _, rfl, n, c, rfl, n0, n1, wd, fun G3 s3 => ⟨_, rfl, ifF rfl ?_⟩⟩
    have u3 := (s1.trans s2).trans s3
    refine ⟨_, rfl, _, rfl, _, rfl, n, c, _, _, rfl, n0, n1, wd, tr.same u3, fun G4 s4 => ⟨_, rfl, ifF rfl ?_⟩⟩
    refine ⟨_, rfl, _, rfl, n, c, rfl, n0, n1, wd, fun G5 s5 => ⟨_, rfl, ifF rfl ?_⟩⟩
    refine fun a ha => ?_
    have u6 := ((u3.trans s4).trans s5).trans (same_upd (o := ExO (.ref (He.ga K "RoomError")) a) ha)
    have ea : ErrAt (upd G5 a (ExO (.ref (He.ga K "RoomError")) a)) a (He.ga K "RoomError") [] := errAt_new
    refine ⟨_, rfl, n, rfl, n0, n1, fun G7 s7 => ⟨_, rfl, ifT rfl ?_⟩⟩
    have e7 := errAt_same ea s7
    refine ⟨_, rfl, a, _, [], "RoomError", 0, rfl, e7, k, fun l1 G8 hl1 s8 h8 => ?_⟩
    refine ⟨_, rfl, a, _, [], "RoomError", 0, rfl, errAt_same e7 s8, k, fun l2 G9 hl2 s9 h9 => ?_⟩
    have w1 : (firsts.filter fun d => ("RoomError" : Str) == d).map V.str = [] := by rfl
    have w2 : (lasts.filter fun d => ("RoomError" : Str) == d).map V.str = [] := by rfl
    rw [w1] at h8
    rw [w2] at h9
    refine ⟨l1, l2, _, _, rfl, rfl, s9 _ _ h8, h9, (by show 0 + 0 ≤ sizeLine; decide), fun R hR => ?_⟩
    have s10 := same_upd (o := .lst ([] ++ [])) hR
    have h10 : (upd G9 R (.lst ([] ++ []))) R = some (.lst []) := upd_same
    generalize upd G9 R (.lst ([] ++ [])) = G10 at s10 h10
    refine ⟨(by show 0 ≤ sizeLine; decide), fun m hm => ?_⟩
    have s11 := same_upd (o := .lst []) hm
    have h11 : (upd G10 m (.lst [])) m = some (.lst []) := upd_same
    generalize upd G10 m (.lst []) = G11 at s11 h11
    have v11 := (((s8.trans s9).trans s10).trans s11)
    refine ⟨.list [], .list [], .lst (SqL.of (s11 _ _ h10)) .nil, .lst (SqL.of h11) .nil, rfl, rfl, _, rfl, ifT rfl ?_⟩
    refine ⟨_, rfl, a, _, [], "RoomError", 0, rfl, errAt_same e7 v11, k, fun G12 s12 => ?_⟩
    refine ⟨rfl, ?_⟩
    have uu := ((u6.trans s7).trans v11).trans s12
    exact q G12 (st.trans (Stp.same st.1 uu))
def spLaw (K : PySem.W.Frag) : Sp := fun vs H Q _ => ∃ (a : Addr) (ns : List Int), vs = [.ref a] ∧ SqL K H a (ns.map V.int) ∧ ns.length ≤ 63 ∧ ∀ H', Q (.bl true) H'
theorem sc_law : FnScope ["_law_script", "_law_k"] ["_law_script"] (defScope (top 45)) := ⟨rfl, rfl, rfl, by decide +kernel, rfl, by decide +kernel, by decide +kernel⟩
theorem ok_law (T : Tx K mg) (D__law_rng : Df P w K mg base 1 "_law_rng" ["_law_script", "_law_k"] (spRng K)) (D__law_right : DfG P w K mg base 4 "_law_right" ["_law_rng_here"] (spRight K))
    (F : FnP K "law" "law" (top 45) f fd) : FnG P w K mg base CX0 5 f fd ["_law_script"] (spLaw K) := by
  refine okG F sc_law (fun vs H Q E h => ?_) (fun cdv A outer s H vs Q E hr h => ⟨_, PSs.nox (pss_one (ps_ret (pe_callB (cr_all rfl) (by rfl) T.n_all (by decide +kernel) (pa_cons (pe_lc (own := [("_law_k", 1)]) (g := gName 1) rfl sc_law.nd (pi_range1 rfl T.n_range (pa_cons (pe_callB (call_max2 rfl) (by rfl) T.n_max (by decide +kernel) (pa_cons pe_int (pa_cons (pe_callB (call_min2 rfl) (by rfl) T.n_min (by decide +kernel) (pa_cons (pe_callB call_len_seq (by rfl) T.n_len (by decide +kernel) (pa_cons (pv 0) pa_nil)) (pa_cons pe_int pa_nil))) pa_nil))) pa_nil)) (blkOk_by (own := [("_law_k", 1)]) (N := ["_law_script", "_law_k"]) (sc := defScope (top 45)) (by decide +kernel)) (fun _ _ _ _ _ => pg_name (i := 1) sc_law.nd rfl (Or.inl rfl)) (fun _ _ _ _ _ => pts_nil) (fun _ _ _ _ _ => (pcallG D__law_right hr (pa_cons (pcall D__law_rng hr.r (pa_cons (pv 0) (pa_cons (pv 1) pa_nil))) pa_nil)))) pa_nil)))), ?_⟩)
  · obtain ⟨a, ns, rfl, _⟩ := h
    rfl
  · obtain ⟨a, ns, rfl, hS, hlen, q⟩ := h
    refine ⟨_, rfl, a, _, rfl, .inl hS, _, _, rfl, _, _, rfl, ?_⟩
    obtain ⟨j, ej, j1, j2⟩ : ∃ j : Int, (if (if (4 : Int) < ((ns.map V.int).length : Int) then 4 else ((ns.map V.int).length : Int)) > 1 then (if (4 : Int) < ((ns.map V.int).length : Int) then 4 else ((ns.map V.int).length : Int)) else 1) = j ∧ 1 ≤ j ∧ j ≤ 4 := by
      refine ⟨_, rfl, ?_, ?_⟩
      · split <;> omega
      · split <;> split <;> omega
    refine ⟨j, (by rw [ej]), by omega, by omega, fun D hD => ?_⟩
    refine lc_range (fun i H' => H' D = some (.lst ((List.replicate i true).map V.bl)) ∧ Same H H') ⟨upd_same, same_upd hD⟩ ?_ ?_
    · rintro i H' hi ⟨hD', sm⟩
      have hi2 : i < 4 := by omega
      refine ⟨rfl, _, rfl, _, rfl, a, ns, i, (by rw [Int.zero_add]; rfl), sm.seq hS, by omega, fun p H1 hp sm1 rg => ?_⟩
      refine ⟨p, rfl, rg, fun H2 st => ?_⟩
      have nDp : D ≠ p := ne_of_none hD' hp
      have hD2 := st.2 D _ nDp (sm1 _ _ hD')
      refine ⟨_, hD2, (by rw [trues_len]; have := sizeLine_eq; omega), by rw [upd_same, trues_more], fun b o e => ?_⟩
      have e' := sm b o e
      rw [upd_ne (ne_of_none e hD)]
      exact st.2 b o (ne_of_none e' hp) (sm1 b o e')
    · rintro H' ⟨hD', sm⟩
      refine ⟨D, List.replicate j.toNat true, rfl, SqL.of hD', ?_⟩
      rw [all_trues]
      exact q _
end
end K17

set_option Elab.async false
set_option linter.all false
set_option maxRecDepth 100000
set_option maxHeartbeats 0
namespace Ex
open PySem PySem.Spec PyProof.Rows L2 Gu
/-! ### facts of a class beyond those by names: constants, a property -/
def cvB (K : PySem.W.Frag) (C : Addr) (f : Str) (i : Int) : Bool := match PySem.W.findCls K (.ref C) (.type "type") f with
  | some (.val (.int j _)) => decide (j = i)
  | _ => false
theorem cvB_ok {K : PySem.W.Frag} {C : Addr} {f : Str} {i : Int} (h : cvB K C f i = true) : ∃ u, ClX.CVal K C (.type "type") f (.int i) u := by
  unfold cvB at h
  split at h
  · rename_i j t e
    have ej : j = i := of_decide_eq_true h
    exact ⟨_, e, t, by rw [ej]⟩
  · cases h
def rdB (K : PySem.W.Frag) (C : Addr) : Bool := PySem.W.readsIn K C (.type "type") && He.eqO (PySem.W.specialIn K (.ref C) "__getattribute__") (some (some (.builtin "type.__getattribute__")))
theorem rdB_ok {K : PySem.W.Frag} {C : Addr} (h : rdB K C = true) : ClX.CRead K C (.type "type") := by
  obtain ⟨h1, h2⟩ := He.ba h
  exact ⟨h1, He.eqO_ok h2⟩
def prA (K : PySem.W.Frag) (C : Addr) (f : Str) : Addr := match PySem.W.findIn K (.ref C) f with
  | some (some (.ref p)) => p
  | _ => 0
def pgA (K : PySem.W.Frag) (C : Addr) (f : Str) : Addr := match PySem.W.recIn K (prA K C f) "property" with
  | some (.ref g :: _) => g
  | _ => 0
def prB (K : PySem.W.Frag) (C : Addr) (f : Str) : Bool := He.eqO (PySem.W.findIn K (.ref C) f) (some (some (.ref (prA K C f)))) &&
  (He.eqO (PySem.W.specialIn K (.ref (prA K C f)) "__get__") (some (some (.builtin "property.__get__"))) && (decide (PySem.W.takesIn K (.ref (prA K C f)) = some true) &&
    (match PySem.W.recIn K (prA K C f) "property" with
    | some (.ref _ :: _) => true
    | _ => false)))
theorem prB_ok {K : PySem.W.Frag} {C : Addr} {f : Str} (h : prB K C f = true) : PropOf K C f (prA K C f) (pgA K C f) := by
  obtain ⟨h1, h⟩ := He.ba h
  obtain ⟨h2, h⟩ := He.ba h
  obtain ⟨h3, h4⟩ := He.ba h
  refine ⟨He.eqO_ok h1, He.eqO_ok h2, of_decide_eq_true h3, ?_⟩
  unfold pgA
  split at h4
  · rename_i g r e
    rw [e]
    exact ⟨r, rfl⟩
  · cases h4
/-- the def at an address -/
def fnAt (K : PySem.W.Frag) (a : Addr) : He.FnW := match K.lookup a with
  | some ⟨_, _, .func fd, _⟩ => some (fd.name, fd.qualname, fd.params, fd.body, fd.scope, fd.globals, fd.closure, fd.builtins)
  | _ => none
def okAt (K : PySem.W.Frag) (a : Addr) (qual : Str) : Bool := PySem.W.keepIn K (.ref a) && (match K.lookup a with
  | some ⟨_, _, .func fd, _⟩ => PySem.W.codeIn K fd.code qual && (He.dflB K fd.defaults [] && He.kwdB K fd.kwdefaults [])
  | _ => false)
theorem fun_at {K : PySem.W.Frag} {a : Addr} {name qual : Str} {params : Arguments} {body : List Stmt} {scope : Scope} (e : fnAt K a = some (name, qual, params, .stmts body, scope, mainGlobals, [], builtinsNs)) (c : okAt K a qual = true) :
    ∃ fd, FunD K name qual params body scope [] [] a fd := by
  obtain ⟨kp, c2⟩ := He.ba c
  unfold fnAt at e
  split at e
  · rename_i oc od fd sl q
    rw [q] at c2
    obtain ⟨k1, k2⟩ := He.ba c2
    obtain ⟨k3, k4⟩ := He.ba k2
    obtain ⟨n1, n2, n3, n4, n5, n6, n7, n8, n9, n10, n11, n12, n13, n14, n15⟩ := fd
    simp only [Option.some.injEq, Prod.mk.injEq] at e
    obtain ⟨rfl, rfl, rfl, rfl, rfl, rfl, rfl, rfl⟩ := e
    exact ⟨_, ⟨oc, od, n8, n9, n10, n11, n12, n13, n14, sl, rfl, q, k1, He.dflB_ok k3, He.kwdB_ok k4⟩, kp⟩
  · cases e
def sysB (K : PySem.W.Frag) : Bool := match K.lookup sysModules with
  | some o => decide (o.cls ≠ .type "list")
  | none => false
end Ex

set_option Elab.async false
set_option linter.all false
set_option maxRecDepth 100000
set_option maxHeartbeats 0
namespace K17
open PySem PySem.Spec PyProof.Rows L2 Gu Ex
/-! ### facts for the end: what isinstance tells of the errors' classes -/
def vesB (K : PySem.W.Frag) (C : Addr) : Bool := match K.lookup C with
  | some ⟨_, _, .cls cd, _⟩ => (match cd.mro with
    | .ref _ :: bm => PySem.HandSPX.refsVE bm
    | _ => false)
  | _ => false
theorem oexC_of {K : PySem.W.Frag} {C : Addr} {n : Str} (e : ErrG "ValueError" K C n) (h : vesB K C = true) : OexC K C := by
  obtain ⟨nm, q, N, bs, bm, sn, sub, ab, col, dd, k0, k1, k2, k3, k5, hC, _⟩ := e.ox.cls
  refine ⟨⟨nm, q, N, bs, bm, sn, sub, ab, col, dd, k0, k1, k2, k3, k5, hC, ?_⟩, e.ox.sa, e.ox.exC, e.ox.tyC, e.ox.kC⟩
  unfold vesB at h
  rw [hC] at h
  exact h
def ecB (K : PySem.W.Frag) (C : Addr) : Bool := xfB K C && (He.eqO (PySem.W.findIn K (.ref C) "__class__") (some (some (.builtin "object.__class__"))) &&
  (He.eqO (PySem.W.specialIn K (.builtin "object.__class__") "__get__") (some (some (.builtin "getset_descriptor.__get__"))) && (bOf (PySem.W.takesIn K (.builtin "object.__class__")) true && bOf (PySem.W.mroIn K C (.type "object")) true)))
theorem ecB_ok {K : PySem.W.Frag} {C : Addr} (h : ecB K C = true) : ExcC K C := by
  obtain ⟨a1, h⟩ := He.ba h
  obtain ⟨a2, h⟩ := He.ba h
  obtain ⟨a3, h⟩ := He.ba h
  obtain ⟨a4, a5⟩ := He.ba h
  have x := xfB_ok a1
  exact ⟨x.ga, x.gg, x.exC, x.hdC, He.eqO_ok a2, He.eqO_ok a3, bOf_ok a4, bOf_ok a5⟩
def ktB (K : PySem.W.Frag) (c : Str) (b : Nat) : Bool := (firsts ++ lasts).all (fun d => bOf (PySem.W.kitOne K (.ref (He.ga K c)) (.ref (He.ga K d))) (c == d)) && (bOf (PySem.W.kitOne K (.ref (He.ga K c)) (.ref (He.ga K "RoomError"))) (b == 0) &&
  (bOf (PySem.W.kitOne K (.ref (He.ga K c)) (.type "LookupError")) (b == 1) && (bOf (PySem.W.kitOne K (.ref (He.ga K c)) (.type "RuntimeError")) (b == 2) && (bOf (PySem.W.kitOne K (.ref (He.ga K c)) (.type "ArithmeticError")) (b == 3) &&
  bOf (PySem.W.kitOne K (.ref (He.ga K c)) (.type "ValueError")) (b == 0)))))
theorem ktB_ok {K : PySem.W.Frag} {c : Str} {b : Nat} (e : ExcC K (He.ga K c)) (lt : b < 4) (h : ktB K c b = true) : Kt K (He.ga K c) c b := by
  obtain ⟨a1, h⟩ := He.ba h
  obtain ⟨a2, h⟩ := He.ba h
  obtain ⟨a3, h⟩ := He.ba h
  obtain ⟨a4, h⟩ := He.ba h
  obtain ⟨a5, a6⟩ := He.ba h
  exact ⟨e, fun d hd => bOf_ok (List.all_eq_true.mp a1 d (List.contains_iff_mem.mp hd)), bOf_ok a2, bOf_ok a3, bOf_ok a4, bOf_ok a5, bOf_ok a6, lt⟩
theorem te_of {K : PySem.W.Frag} {mg : Str → Option Value} (h : ∀ c ∈ firsts ++ lasts ++ [("RoomError" : Str)], mg c = some (.ref (He.ga K c))) (n1 : mg "ValueError" = none) (n2 : mg "LookupError" = none) (n3 : mg "RuntimeError" = none) (n4 : mg "ArithmeticError" = none) : Te K mg := by
  refine ⟨fun c hc => h c ?_, n1, n2, n3, n4⟩
  rcases (Bool.or_eq_true _ _).mp hc with z | z
  · exact List.mem_append_left _ (List.contains_iff_mem.mp z)
  · exact List.mem_append_right _ (List.mem_singleton.mpr (beq_iff_eq.mp z))
section
variable {P : Program} {w : World} {K : PySem.W.Frag} {mg : Str → Option Value} {base : Heap} {fd : FuncData} {c n m name qual : Str} {params : Arguments} {body : List Stmt} {scope : Scope} {B : String}
theorem kw_bind {f : Addr} {ps ks : List Str} {j : List Nat} (F : FunD K name qual params body scope [] [] f fd)
    (hb : ∀ (kV doc pm : Value) (an : Option Addr) (cdv ct u : Value) (ws : List Value), ws.length = ks.length → bindArgs (PySem.W.fnOf name qual params body scope .none kV doc pm an cdv ct) ⟨[u], ks.zip ws⟩ = pure (ps.zip (u :: j.filterMap fun i => ws[i]?)))
    (s : Shared) (u : Value) (ws : List Value) (hl : ws.length = ks.length) : BindsTo s fd ⟨[u], ks.zip ws⟩ (ps.zip (u :: j.filterMap fun i => ws[i]?)) := by
  obtain ⟨oc, od, dV, kV, doc, pm, an, cdv, ct, osl, rfl, lk, hcd, hD, hK⟩ := F.ex
  rcases hD with ⟨_, rfl⟩ | ⟨e, _⟩
  · exact .of_eq (hb kV doc pm an cdv ct u ws hl)
  · exact absurd rfl e
theorem e1_ok (F : FunD K name qual params body scope [] [] (He.ma K (He.ga K c) "__init__") fd) (e : ErrG B K (He.ga K c) n) (gl : mg c = some (.ref (He.ga K c))) (ok : FnOk P w K mg base CX0 1 (He.ma K (He.ga K c) "__init__") fd ["self", n] (spErr (He.ga K c) n)) (b : Binds K fd ["self", n] [])
    (hb : ∀ (kV doc pm : Value) (an : Option Addr) (cdv ct u : Value) (ws : List Value), ws.length = ([n] : List Str).length → bindArgs (PySem.W.fnOf name qual params body scope .none kV doc pm an cdv ct) ⟨[u], ([n] : List Str).zip ws⟩ = pure ((["self", n] : List Str).zip (u :: ([0] : List Nat).filterMap fun i => ws[i]?))) :
    E1 P w K mg base c n := ⟨⟨B, _, fd, e.ox, ok, b, kw_bind F hb⟩, e.ii, e.ti, gl, e.xf, e.no⟩
theorem e2_ok (F : FunD K name qual params body scope [] [] (He.ma K (He.ga K c) "__init__") fd) (e : ErrG B K (He.ga K c) n) (nm : PySem.W.findIn K (.ref (He.ga K c)) m = some none) (gl : mg c = some (.ref (He.ga K c))) (ok : FnOk P w K mg base CX0 1 (He.ma K (He.ga K c) "__init__") fd ["self", n, m] (spErr2 (He.ga K c) n m)) (b : Binds K fd ["self", n, m] [])
    (hb : ∀ (kV doc pm : Value) (an : Option Addr) (cdv ct u : Value) (ws : List Value), ws.length = ([m, n] : List Str).length → bindArgs (PySem.W.fnOf name qual params body scope .none kV doc pm an cdv ct) ⟨[u], ([m, n] : List Str).zip ws⟩ = pure ((["self", n, m] : List Str).zip (u :: ([1, 0] : List Nat).filterMap fun i => ws[i]?))) :
    E2 P w K mg base c n m := ⟨⟨B, _, fd, e.ox, ok, b, kw_bind F hb⟩, e.ii, e.ti, gl, e.xf, e.no, nm⟩
end
end K17

set_option Elab.async false
set_option linter.all false
set_option maxRecDepth 100000
set_option maxHeartbeats 0
namespace K17
open PySem PySem.Spec PyProof.Rows L2 Gu Ex
abbrev R : PySem.W.OpenRow := PySem.W.OpenLaw.row PySem.Challenge.rw_exactroom_k17_errors_created
def dOf (a : Str × Option Str) (x q : Str) (st : Stmt) : He.DefD := ⟨a, x, q, defArgs st, defBody st, defScope st, [], []⟩
def dOfK (a : Str × Option Str) (x q : Str) (st : Stmt) (kw : List (Str × He.Dv)) : He.DefD := ⟨a, x, q, defArgs st, defBody st, defScope st, [], kw⟩
def fn : List He.DefD := [dOf ("InvalidSizes", some "__init__") "__init__" "InvalidSizes.__init__" (inClass (top 2) 0),
  dOf ("InvalidLevel", some "__init__") "__init__" "InvalidLevel.__init__" (inClass (top 3) 0),
  dOf ("InvalidNumber", some "__init__") "__init__" "InvalidNumber.__init__" (inClass (top 4) 0),
  dOf ("InvalidNumbers", some "__init__") "__init__" "InvalidNumbers.__init__" (inClass (top 5) 0),
  dOf ("InvalidAddress", some "__init__") "__init__" "InvalidAddress.__init__" (inClass (top 6) 0),
  dOf ("InvalidName", some "__init__") "__init__" "InvalidName.__init__" (inClass (top 7) 0),
  dOf ("InvalidIndex", some "__init__") "__init__" "InvalidIndex.__init__" (inClass (top 8) 0),
  dOf ("InvalidValue", some "__init__") "__init__" "InvalidValue.__init__" (inClass (top 9) 0),
  dOf ("InvalidMoves", some "__init__") "__init__" "InvalidMoves.__init__" (inClass (top 10) 0),
  dOf ("InvalidCount", some "__init__") "__init__" "InvalidCount.__init__" (inClass (top 11) 0),
  dOf ("InvalidRequests", some "__init__") "__init__" "InvalidRequests.__init__" (inClass (top 12) 0),
  dOf ("InvalidProgram", some "__init__") "__init__" "InvalidProgram.__init__" (inClass (top 13) 0),
  dOf ("InvalidText", some "__init__") "__init__" "InvalidText.__init__" (inClass (top 14) 0),
  dOf ("UnknownBlock", some "__init__") "__init__" "UnknownBlock.__init__" (inClass (top 17) 0),
  dOf ("UnknownName", some "__init__") "__init__" "UnknownName.__init__" (inClass (top 18) 0),
  dOf ("UnknownTask", some "__init__") "__init__" "UnknownTask.__init__" (inClass (top 19) 0),
  dOf ("UnknownTime", some "__init__") "__init__" "UnknownTime.__init__" (inClass (top 20) 0),
  dOf ("Occupied", some "__init__") "__init__" "Occupied.__init__" (inClass (top 21) 0),
  dOf ("NameTaken", some "__init__") "__init__" "NameTaken.__init__" (inClass (top 22) 0),
  dOf ("Pinned", some "__init__") "__init__" "Pinned.__init__" (inClass (top 23) 0),
  dOf ("NotPinned", some "__init__") "__init__" "NotPinned.__init__" (inClass (top 24) 0),
  dOf ("NoReservation", some "__init__") "__init__" "NoReservation.__init__" (inClass (top 25) 0),
  dOf ("NotReady", some "__init__") "__init__" "NotReady.__init__" (inClass (top 26) 0),
  dOf ("NoRoom", some "__init__") "__init__" "NoRoom.__init__" (inClass (top 27) 0),
  dOf ("TooManyPieces", some "__init__") "__init__" "TooManyPieces.__init__" (inClass (top 28) 0),
  dOf ("_law_rng", none) "_law_rng" "_law_rng" (top 30),
  dOf ("_law_draw", none) "_law_draw" "_law_draw" (top 31),
  dOf ("_law_choice", none) "_law_choice" "_law_choice" (top 32),
  dOf ("_law_base", none) "_law_base" "_law_base" (top 33),
  dOf ("_law_first_words", none) "_law_first_words" "_law_first_words" (top 34),
  dOf ("_law_last_words", none) "_law_last_words" "_law_last_words" (top 35),
  dOf ("_law_is", none) "_law_is" "_law_is" (top 36),
  dOf ("_law_any", none) "_law_any" "_law_any" (top 37),
  dOf ("_law_values_right", none) "_law_values_right" "_law_values_right" (top 38),
  dOf ("_law_unknown_right", none) "_law_unknown_right" "_law_unknown_right" (top 39),
  dOf ("_law_positions_right", none) "_law_positions_right" "_law_positions_right" (top 40),
  dOf ("_law_texts_right", none) "_law_texts_right" "_law_texts_right" (top 41),
  dOf ("_law_states_right", none) "_law_states_right" "_law_states_right" (top 42),
  dOf ("_law_sums_right", none) "_law_sums_right" "_law_sums_right" (top 43),
  dOf ("_law_right", none) "_law_right" "_law_right" (top 44),
  dOf ("law", none) "law" "law" (top 45)]
def fa : List He.Fa := [.glo "_law_rng", .glo "_law_draw", .glo "_law_choice", .glo "_law_base", .glo "_law_first_words", .glo "_law_last_words", .glo "_law_is", .glo "_law_any", .glo "_law_values_right", .glo "_law_unknown_right", .glo "_law_positions_right", .glo "_law_texts_right", .glo "_law_states_right", .glo "_law_sums_right", .glo "_law_right", .glo "law", .glo "InvalidSizes", .glo "InvalidLevel", .glo "InvalidNumber", .glo "InvalidNumbers", .glo "InvalidAddress", .glo "InvalidName", .glo "InvalidIndex", .glo "InvalidValue", .glo "InvalidMoves", .glo "InvalidCount", .glo "InvalidRequests", .glo "InvalidProgram", .glo "InvalidText", .glo "InvalidOperation", .glo "InvalidCommand", .glo "UnknownBlock", .glo "UnknownName", .glo "UnknownTask", .glo "UnknownTime", .glo "Occupied", .glo "NameTaken", .glo "Pinned", .glo "NotPinned", .glo "NoReservation", .glo "NotReady", .glo "NoRoom", .glo "TooManyPieces", .glo "RoomError", .free "len", .free "isinstance", .free "range", .free "divmod", .free "abs", .free "max", .free "min", .free "enumerate", .free "all", .free "repr", .free "tuple", .free "ValueError", .free "LookupError", .free "RuntimeError", .free "ArithmeticError"]
def exB (K : PySem.W.Frag) : Bool := (sysB K && (errG "ValueError" K (He.ga K "InvalidSizes") "problem" && (He.eqO (PySem.W.findIn K (.ref (He.ga K "InvalidSizes")) "position") (some none) && (vesB K (He.ga K "InvalidSizes") && (ktB K "InvalidSizes" 0 && (errG "ValueError" K (He.ga K "InvalidLevel") "value" && (ktB K "InvalidLevel" 0 && (errG "ValueError" K (He.ga K "InvalidNumber") "value" && (ktB K "InvalidNumber" 0 && (errG "ValueError" K (He.ga K "InvalidNumbers") "position" && (ktB K "InvalidNumbers" 0 && (errG "ValueError" K (He.ga K "InvalidAddress") "value" && (ktB K "InvalidAddress" 0 && (errG "ValueError" K (He.ga K "InvalidName") "value" && (ktB K "InvalidName" 0 && (errG "ValueError" K (He.ga K "InvalidIndex") "value" && (ktB K "InvalidIndex" 0 && (errG "ValueError" K (He.ga K "InvalidValue") "value" && (ktB K "InvalidValue" 0 && (errG "ValueError" K (He.ga K "InvalidMoves") "position" && (ktB K "InvalidMoves" 0 && (errG "ValueError" K (He.ga K "InvalidCount") "value" && (ktB K "InvalidCount" 0 && (errG "ValueError" K (He.ga K "InvalidRequests") "position" && (ktB K "InvalidRequests" 0 && (errG "ValueError" K (He.ga K "InvalidProgram") "task" && (He.eqO (PySem.W.findIn K (.ref (He.ga K "InvalidProgram")) "path") (some none) && (vesB K (He.ga K "InvalidProgram") && (ktB K "InvalidProgram" 0 && (errG "ValueError" K (He.ga K "InvalidText") "line" && (ktB K "InvalidText" 0 && (ecB K (He.ga K "InvalidOperation") && (ktB K "InvalidOperation" 0 && (ecB K (He.ga K "InvalidCommand") && (ktB K "InvalidCommand" 0 && (errG "LookupError" K (He.ga K "UnknownBlock") "value" && (ktB K "UnknownBlock" 1 && (errG "LookupError" K (He.ga K "UnknownName") "value" && (ktB K "UnknownName" 1 && (errG "LookupError" K (He.ga K "UnknownTask") "value" && (ktB K "UnknownTask" 1 && (errG "LookupError" K (He.ga K "UnknownTime") "value" && (ktB K "UnknownTime" 1 && (errG "RuntimeError" K (He.ga K "Occupied") "address" && (ktB K "Occupied" 2 && (errG "RuntimeError" K (He.ga K "NameTaken") "name" && (ktB K "NameTaken" 2 && (errG "RuntimeError" K (He.ga K "Pinned") "name" && (ktB K "Pinned" 2 && (errG "RuntimeError" K (He.ga K "NotPinned") "name" && (ktB K "NotPinned" 2 && (errG "RuntimeError" K (He.ga K "NoReservation") "owner" && (ktB K "NoReservation" 2 && (errG "RuntimeError" K (He.ga K "NotReady") "task" && (ktB K "NotReady" 2 && (errG "ArithmeticError" K (He.ga K "NoRoom") "level" && (ktB K "NoRoom" 3 && (errG "ArithmeticError" K (He.ga K "TooManyPieces") "limit" && (ktB K "TooManyPieces" 3 && (ecB K (He.ga K "RoomError") && (ktB K "RoomError" 0 && ((PySem.W.excIn K (He.ga K "InvalidOperation") (tailE "ValueError") "ValueError.__new__" && PySem.W.keepIn K (.ref (He.ga K "InvalidOperation"))) && ((PySem.W.excIn K (He.ga K "InvalidCommand") (tailE "ValueError") "ValueError.__new__" && PySem.W.keepIn K (.ref (He.ga K "InvalidCommand"))) && ((PySem.W.excIn K (He.ga K "RoomError") (tailE "ValueError") "ValueError.__new__" && PySem.W.keepIn K (.ref (He.ga K "RoomError"))) && true))))))))))))))))))))))))))))))))))))))))))))))))))))))))))))))))
abbrev AlE : Type := He.AlD × Bool
def ob0 (K : PySem.W.Frag) : AlE := (He.obsD fa fn K, exB K)
def vl0 : AlE := (He.valD fn, true)
def ob1 (g : Addr → Option Obj) : AlE := ob0 (He.frG g (cStatics :: sysModules :: He.asD g 5))
def hk : PySem.W.Hook where
  α := AlE
  obs := fun s => ob1 s.heap.get?
  val := fun _ => vl0
  says := fun _ h => ∃ K : PySem.W.Frag, K.In h ∧ ob0 K = vl0
  of := fun _ _ e => ⟨_, He.frG_in, e⟩
  keeps := fun _ _ _ ⟨K, hK, c⟩ k => ⟨K, PySem.W.Frag.In.keeps hK k, c⟩
def ob (s : PySem.W.SharedT) : AlE := ob1 (HandSHeadRun.getT s)
theorem ob_eq (s : PySem.W.SharedT) : ob s = hk.obs s.abs := by
  have e : HandSHeadRun.getT s = s.abs.heap.get? := funext (HandSHeadRun.getT_eq s)
  show ob1 (HandSHeadRun.getT s) = ob1 s.abs.heap.get?
  rw [e]
def loose : List Str := ("RoomError" : Str) :: ("InvalidSizes" : Str) :: ("InvalidLevel" : Str) :: ("InvalidNumber" : Str) :: ("InvalidNumbers" : Str) :: ("InvalidAddress" : Str) :: ("InvalidName" : Str) :: ("InvalidIndex" : Str) :: ("InvalidValue" : Str) :: ("InvalidMoves" : Str) :: ("InvalidCount" : Str) :: ("InvalidRequests" : Str) :: ("InvalidProgram" : Str) :: ("InvalidText" : Str) :: ("InvalidOperation" : Str) :: ("InvalidCommand" : Str) :: ("UnknownBlock" : Str) :: ("UnknownName" : Str) :: ("UnknownTask" : Str) :: ("UnknownTime" : Str) :: ("Occupied" : Str) :: ("NameTaken" : Str) :: ("Pinned" : Str) :: ("NotPinned" : Str) :: ("NoReservation" : Str) :: ("NotReady" : Str) :: ("NoRoom" : Str) :: ("TooManyPieces" : Str) :: ("_law_rng" : Str) :: ("_law_draw" : Str) :: ("_law_choice" : Str) :: ("_law_base" : Str) :: ("_law_first_words" : Str) :: ("_law_last_words" : Str) :: ("_law_is" : Str) :: ("_law_any" : Str) :: ("_law_values_right" : Str) :: ("_law_unknown_right" : Str) :: ("_law_positions_right" : Str) :: ("_law_texts_right" : Str) :: ("_law_states_right" : Str) :: ("_law_sums_right" : Str) :: ("_law_right" : Str) :: []
def kk (s : PySem.W.SharedT) : PySem.W.Frag := He.frG (HandSHeadRun.getT s) (cStatics :: sysModules :: He.asD (HandSHeadRun.getT s) 5)
noncomputable def ends (w : World) (os : OsState) : Option PySem.W.SharedT := HandSHeadRun.endF (HandSHeadRun.stepQ (HandSHeadRun.denQ HandSHeadRun.tabQ) R.prog w) 16000 R.prog w os
theorem in_parts {σ A B E : Type} {o : Option σ} {a : σ → A} {b : σ → B} {c d : σ → Bool} {e : σ → E} {f : σ → Bool} {x1 : A} {x2 : B} {x5 : E} (h1 : o.map a = some x1) (h2 : o.map b = some x2) (h3 : o.map c = some true) (h4 : o.map d = some true)
    (h5 : o.map e = some x5) (h6 : o.map f = some true) : o.map (fun s => (a s, b s, (((c s && d s), e s), f s))) = some (x1, x2, ((true, x5), true)) := by
  cases o with
  | none => cases h1
  | some s =>
    have g1 : a s = x1 := Option.some.inj h1
    have g2 : b s = x2 := Option.some.inj h2
    have g3 : c s = true := Option.some.inj h3
    have g4 : d s = true := Option.some.inj h4
    have g5 : e s = x5 := Option.some.inj h5
    have g6 : f s = true := Option.some.inj h6
    show some (a s, b s, (((c s && d s), e s), f s)) = _
    rw [g1, g2, g3, g4, g5, g6]
    rfl
end K17

set_option Elab.async false
set_option linter.all false
set_option maxRecDepth 100000
set_option maxHeartbeats 0
namespace K17
open PySem PySem.Spec PyProof.Rows L2 Gu Ex PySem.W PySem.Calls
theorem r_looks (w : World) (os : OsState) : (ends w os).map (fun s => HandSHeadRun.looksF R.prog (boot_heap w.params) s.abs) = some true := by kernel_rfl
theorem r_seen (w : World) (os : OsState) : (ends w os).map (fun s => HandSHeadRun.seenQ (PySem.W.view R.prog [45]) loose (PySem.importedModules R.prog.main.body) (fun s => PySem.W.xlAt (PySem.W.view R.prog [45]) [] s && PySem.W.recOk R.toRowW.records s) s.abs) = some (PySem.W.openGood (PySem.W.view R.prog [45]) loose) := by kernel_rfl
end K17

set_option Elab.async false
set_option linter.all false
set_option maxRecDepth 100000
set_option maxHeartbeats 0
namespace K17
open PySem PySem.Spec PyProof.Rows L2 Gu Ex
theorem r_fa (w : World) (os : OsState) : (ends w os).map (fun s => fa.all fun f => f.ok (kk s)) = some true := by kernel_rfl
end K17

set_option Elab.async false
set_option linter.all false
set_option maxRecDepth 100000
set_option maxHeartbeats 0
namespace K17
open PySem PySem.Spec PyProof.Rows L2 Gu Ex
theorem r_fn (w : World) (os : OsState) : (ends w os).map (fun s => fn.all fun d => d.ok (kk s)) = some true := by kernel_rfl
end K17

set_option Elab.async false
set_option linter.all false
set_option maxRecDepth 100000
set_option maxHeartbeats 0
namespace K17
open PySem PySem.Spec PyProof.Rows L2 Gu Ex
theorem r_fw (w : World) (os : OsState) : (ends w os).map (fun s => fn.map fun d => He.fnW (kk s) d.at_) = some (fn.map He.DefD.val) := by kernel_rfl
end K17

set_option Elab.async false
set_option linter.all false
set_option maxRecDepth 100000
set_option maxHeartbeats 0
namespace K17
open PySem PySem.Spec PyProof.Rows L2 Gu Ex
theorem r_ex (w : World) (os : OsState) : (ends w os).map (fun s => exB (kk s)) = some true := by kernel_rfl
end K17

set_option Elab.async false
set_option linter.all false
set_option maxRecDepth 100000
set_option maxHeartbeats 0
namespace K17
open PySem PySem.Spec PyProof.Rows L2 Gu Ex
theorem run (w : World) : HandSHeadRun.RunEq R (PySem.W.view R.prog [45]) hk ob 16000 loose w :=
  fun os => in_parts (r_looks w os) (r_seen w os) (r_fa w os) (r_fn w os) (r_fw w os) (r_ex w os)
section
variable {P : Program} {w : World} {K : PySem.W.Frag} {h : Heap} {mg : Str → Option Value} {base : Heap}
theorem tx (X : K.In h) (G : h.Ns mainGlobals mg) (c : He.SaysD fa fn K) (x : exB K = true) : Tx K mg := by
  obtain ⟨x4, x⟩ := He.ba x
  obtain ⟨eg_InvalidSizes, x⟩ := He.ba x
  obtain ⟨nm_InvalidSizes, x⟩ := He.ba x
  obtain ⟨ve_InvalidSizes, x⟩ := He.ba x
  obtain ⟨kt_InvalidSizes, x⟩ := He.ba x
  obtain ⟨eg_InvalidLevel, x⟩ := He.ba x
  obtain ⟨kt_InvalidLevel, x⟩ := He.ba x
  obtain ⟨eg_InvalidNumber, x⟩ := He.ba x
  obtain ⟨kt_InvalidNumber, x⟩ := He.ba x
  obtain ⟨eg_InvalidNumbers, x⟩ := He.ba x
  obtain ⟨kt_InvalidNumbers, x⟩ := He.ba x
  obtain ⟨eg_InvalidAddress, x⟩ := He.ba x
  obtain ⟨kt_InvalidAddress, x⟩ := He.ba x
  obtain ⟨eg_InvalidName, x⟩ := He.ba x
  obtain ⟨kt_InvalidName, x⟩ := He.ba x
  obtain ⟨eg_InvalidIndex, x⟩ := He.ba x
  obtain ⟨kt_InvalidIndex, x⟩ := He.ba x
  obtain ⟨eg_InvalidValue, x⟩ := He.ba x
  obtain ⟨kt_InvalidValue, x⟩ := He.ba x
  obtain ⟨eg_InvalidMoves, x⟩ := He.ba x
  obtain ⟨kt_InvalidMoves, x⟩ := He.ba x
  obtain ⟨eg_InvalidCount, x⟩ := He.ba x
  obtain ⟨kt_InvalidCount, x⟩ := He.ba x
  obtain ⟨eg_InvalidRequests, x⟩ := He.ba x
  obtain ⟨kt_InvalidRequests, x⟩ := He.ba x
  obtain ⟨eg_InvalidProgram, x⟩ := He.ba x
  obtain ⟨nm_InvalidProgram, x⟩ := He.ba x
  obtain ⟨ve_InvalidProgram, x⟩ := He.ba x
  obtain ⟨kt_InvalidProgram, x⟩ := He.ba x
  obtain ⟨eg_InvalidText, x⟩ := He.ba x
  obtain ⟨kt_InvalidText, x⟩ := He.ba x
  obtain ⟨ec_InvalidOperation, x⟩ := He.ba x
  obtain ⟨kt_InvalidOperation, x⟩ := He.ba x
  obtain ⟨ec_InvalidCommand, x⟩ := He.ba x
  obtain ⟨kt_InvalidCommand, x⟩ := He.ba x
  obtain ⟨eg_UnknownBlock, x⟩ := He.ba x
  obtain ⟨kt_UnknownBlock, x⟩ := He.ba x
  obtain ⟨eg_UnknownName, x⟩ := He.ba x
  obtain ⟨kt_UnknownName, x⟩ := He.ba x
  obtain ⟨eg_UnknownTask, x⟩ := He.ba x
  obtain ⟨kt_UnknownTask, x⟩ := He.ba x
  obtain ⟨eg_UnknownTime, x⟩ := He.ba x
  obtain ⟨kt_UnknownTime, x⟩ := He.ba x
  obtain ⟨eg_Occupied, x⟩ := He.ba x
  obtain ⟨kt_Occupied, x⟩ := He.ba x
  obtain ⟨eg_NameTaken, x⟩ := He.ba x
  obtain ⟨kt_NameTaken, x⟩ := He.ba x
  obtain ⟨eg_Pinned, x⟩ := He.ba x
  obtain ⟨kt_Pinned, x⟩ := He.ba x
  obtain ⟨eg_NotPinned, x⟩ := He.ba x
  obtain ⟨kt_NotPinned, x⟩ := He.ba x
  obtain ⟨eg_NoReservation, x⟩ := He.ba x
  obtain ⟨kt_NoReservation, x⟩ := He.ba x
  obtain ⟨eg_NotReady, x⟩ := He.ba x
  obtain ⟨kt_NotReady, x⟩ := He.ba x
  obtain ⟨eg_NoRoom, x⟩ := He.ba x
  obtain ⟨kt_NoRoom, x⟩ := He.ba x
  obtain ⟨eg_TooManyPieces, x⟩ := He.ba x
  obtain ⟨kt_TooManyPieces, x⟩ := He.ba x
  obtain ⟨ec_RoomError, x⟩ := He.ba x
  obtain ⟨kt_RoomError, x⟩ := He.ba x
  obtain ⟨ex_InvalidOperation, x⟩ := He.ba x
  obtain ⟨ex_InvalidCommand, x⟩ := He.ba x
  obtain ⟨ex_RoomError, x⟩ := He.ba x
  have hsys : SysOk K := by
    unfold sysB at x4
    split at x4
    · rename_i o e
      exact ⟨o, e, of_decide_eq_true x4⟩
    · cases x4
  exact ⟨He.free_ok X G (c.fact 44 (f := .free "len") rfl),
    He.free_ok X G (c.fact 45 (f := .free "isinstance") rfl),
    He.free_ok X G (c.fact 46 (f := .free "range") rfl),
    He.free_ok X G (c.fact 47 (f := .free "divmod") rfl),
    He.free_ok X G (c.fact 48 (f := .free "abs") rfl),
    He.free_ok X G (c.fact 49 (f := .free "max") rfl),
    He.free_ok X G (c.fact 50 (f := .free "min") rfl),
    He.free_ok X G (c.fact 51 (f := .free "enumerate") rfl),
    He.free_ok X G (c.fact 52 (f := .free "all") rfl),
    He.free_ok X G (c.fact 53 (f := .free "repr") rfl),
    He.free_ok X G (c.fact 54 (f := .free "tuple") rfl),
    hsys⟩
theorem df {x : Str} {ps : List Str} {sp : Sp} {k : Nat} {st : Stmt} {fd : FuncData} (X : K.In h) (G : h.Ns mainGlobals mg) (g : (He.Fa.glo x).ok K = true) (F : FnP K x x st (He.ga K x) fd)
    (hb : ∀ (kV doc pm : Value) (an : Option Addr) (cdv ct : Value) (us : List Value), us.length = ps.length → bindArgs (PySem.W.fnOf x x (defArgs st) (defBody st) (defScope st) .none kV doc pm an cdv ct) ⟨us, []⟩ = pure (ps.zip us))
    (ok : FnOk P w K mg base CX0 k (He.ga K x) fd ps sp) : Df P w K mg base k x ps sp := ⟨⟨fd, ok, F.bindsN hb⟩, He.glo_ok X G g, F.kp⟩
theorem dfG {x : Str} {ps : List Str} {sp : Sp} {k : Nat} {st : Stmt} {fd : FuncData} (X : K.In h) (G : h.Ns mainGlobals mg) (g : (He.Fa.glo x).ok K = true) (F : FnP K x x st (He.ga K x) fd)
    (hb : ∀ (kV doc pm : Value) (an : Option Addr) (cdv ct : Value) (us : List Value), us.length = ps.length → bindArgs (PySem.W.fnOf x x (defArgs st) (defBody st) (defScope st) .none kV doc pm an cdv ct) ⟨us, []⟩ = pure (ps.zip us))
    (ok : FnG P w K mg base CX0 k (He.ga K x) fd ps sp) : DfG P w K mg base k x ps sp := ⟨⟨fd, ok, F.bindsN hb⟩, He.glo_ok X G g, F.kp⟩
theorem dfK {x : Str} {ps ks : List Str} {j : List Nat} {sp : Sp} {k : Nat} {st : Stmt} {fd : FuncData} (X : K.In h) (G : h.Ns mainGlobals mg) (g : (He.Fa.glo x).ok K = true) (F : FnP K x x st (He.ga K x) fd)
    (hb : ∀ (kV doc pm : Value) (an : Option Addr) (cdv ct : Value) (ws : List Value), ws.length = ks.length → bindArgs (PySem.W.fnOf x x (defArgs st) (defBody st) (defScope st) .none kV doc pm an cdv ct) ⟨[], ks.zip ws⟩ = pure (ps.zip (j.filterMap fun i => ws[i]?)))
    (ok : FnOk P w K mg base CX0 k (He.ga K x) fd ps sp) : DfK P w K mg base k x ps ks j sp := by
  refine ⟨⟨fd, ok, fun s ws hl => ?_⟩, He.glo_ok X G g, F.kp⟩
  obtain ⟨oc, od, dV, kV, doc, pm, an, cdv, ct, osl, rfl, lk, hcd, hD, hK⟩ := F.ex
  rcases hD with ⟨_, rfl⟩ | ⟨e, _⟩
  · exact .of_eq (hb kV doc pm an cdv ct ws hl)
  · exact absurd rfl e
theorem facts {f : Addr} (X : K.In h) (G : h.Ns mainGlobals mg) (hfa : mg ("law" : Str) = some (.ref f)) (c0 : ob0 K = vl0) :
    ∃ fd : FuncData, (∀ (s : Shared) (v : Value), BindsTo s fd ⟨[v], []⟩ [("_law_script", v)]) ∧ ∀ base : Heap, K.In base → base.Ns mainGlobals mg → FnG P w K mg base CX0 5 f fd ["_law_script"] (spLaw K) := by
  have c : He.SaysD fa fn K := congrArg (fun z : AlE => z.1) c0
  have x : exB K = true := congrArg (fun z : AlE => z.2) c0
  have T := tx X G c x
  obtain ⟨x4, x⟩ := He.ba x
  obtain ⟨eg_InvalidSizes, x⟩ := He.ba x
  obtain ⟨nm_InvalidSizes, x⟩ := He.ba x
  obtain ⟨ve_InvalidSizes, x⟩ := He.ba x
  obtain ⟨kt_InvalidSizes, x⟩ := He.ba x
  obtain ⟨eg_InvalidLevel, x⟩ := He.ba x
  obtain ⟨kt_InvalidLevel, x⟩ := He.ba x
  obtain ⟨eg_InvalidNumber, x⟩ := He.ba x
  obtain ⟨kt_InvalidNumber, x⟩ := He.ba x
  obtain ⟨eg_InvalidNumbers, x⟩ := He.ba x
  obtain ⟨kt_InvalidNumbers, x⟩ := He.ba x
  obtain ⟨eg_InvalidAddress, x⟩ := He.ba x
  obtain ⟨kt_InvalidAddress, x⟩ := He.ba x
  obtain ⟨eg_InvalidName, x⟩ := He.ba x
  obtain ⟨kt_InvalidName, x⟩ := He.ba x
  obtain ⟨eg_InvalidIndex, x⟩ := He.ba x
  obtain ⟨kt_InvalidIndex, x⟩ := He.ba x
  obtain ⟨eg_InvalidValue, x⟩ := He.ba x
  obtain ⟨kt_InvalidValue, x⟩ := He.ba x
  obtain ⟨eg_InvalidMoves, x⟩ := He.ba x
  obtain ⟨kt_InvalidMoves, x⟩ := He.ba x
  obtain ⟨eg_InvalidCount, x⟩ := He.ba x
  obtain ⟨kt_InvalidCount, x⟩ := He.ba x
  obtain ⟨eg_InvalidRequests, x⟩ := He.ba x
  obtain ⟨kt_InvalidRequests, x⟩ := He.ba x
  obtain ⟨eg_InvalidProgram, x⟩ := He.ba x
  obtain ⟨nm_InvalidProgram, x⟩ := He.ba x
  obtain ⟨ve_InvalidProgram, x⟩ := He.ba x
  obtain ⟨kt_InvalidProgram, x⟩ := He.ba x
  obtain ⟨eg_InvalidText, x⟩ := He.ba x
  obtain ⟨kt_InvalidText, x⟩ := He.ba x
  obtain ⟨ec_InvalidOperation, x⟩ := He.ba x
  obtain ⟨kt_InvalidOperation, x⟩ := He.ba x
  obtain ⟨ec_InvalidCommand, x⟩ := He.ba x
  obtain ⟨kt_InvalidCommand, x⟩ := He.ba x
  obtain ⟨eg_UnknownBlock, x⟩ := He.ba x
  obtain ⟨kt_UnknownBlock, x⟩ := He.ba x
  obtain ⟨eg_UnknownName, x⟩ := He.ba x
  obtain ⟨kt_UnknownName, x⟩ := He.ba x
  obtain ⟨eg_UnknownTask, x⟩ := He.ba x
  obtain ⟨kt_UnknownTask, x⟩ := He.ba x
  obtain ⟨eg_UnknownTime, x⟩ := He.ba x
  obtain ⟨kt_UnknownTime, x⟩ := He.ba x
  obtain ⟨eg_Occupied, x⟩ := He.ba x
  obtain ⟨kt_Occupied, x⟩ := He.ba x
  obtain ⟨eg_NameTaken, x⟩ := He.ba x
  obtain ⟨kt_NameTaken, x⟩ := He.ba x
  obtain ⟨eg_Pinned, x⟩ := He.ba x
  obtain ⟨kt_Pinned, x⟩ := He.ba x
  obtain ⟨eg_NotPinned, x⟩ := He.ba x
  obtain ⟨kt_NotPinned, x⟩ := He.ba x
  obtain ⟨eg_NoReservation, x⟩ := He.ba x
  obtain ⟨kt_NoReservation, x⟩ := He.ba x
  obtain ⟨eg_NotReady, x⟩ := He.ba x
  obtain ⟨kt_NotReady, x⟩ := He.ba x
  obtain ⟨eg_NoRoom, x⟩ := He.ba x
  obtain ⟨kt_NoRoom, x⟩ := He.ba x
  obtain ⟨eg_TooManyPieces, x⟩ := He.ba x
  obtain ⟨kt_TooManyPieces, x⟩ := He.ba x
  obtain ⟨ec_RoomError, x⟩ := He.ba x
  obtain ⟨kt_RoomError, x⟩ := He.ba x
  obtain ⟨ex_InvalidOperation, x⟩ := He.ba x
  obtain ⟨ex_InvalidCommand, x⟩ := He.ba x
  obtain ⟨ex_RoomError, x⟩ := He.ba x
  obtain ⟨fd0, F0⟩ : ∃ fd, FnP K "__init__" "InvalidSizes.__init__" (inClass (top 2) 0) (He.ma K (He.ga K "InvalidSizes") "__init__") fd := c.def_ 0 (d := dOf ("InvalidSizes", some "__init__") "__init__" "InvalidSizes.__init__" (inClass (top 2) 0)) rfl
  obtain ⟨fd1, F1⟩ : ∃ fd, FnP K "__init__" "InvalidLevel.__init__" (inClass (top 3) 0) (He.ma K (He.ga K "InvalidLevel") "__init__") fd := c.def_ 1 (d := dOf ("InvalidLevel", some "__init__") "__init__" "InvalidLevel.__init__" (inClass (top 3) 0)) rfl
  obtain ⟨fd2, F2⟩ : ∃ fd, FnP K "__init__" "InvalidNumber.__init__" (inClass (top 4) 0) (He.ma K (He.ga K "InvalidNumber") "__init__") fd := c.def_ 2 (d := dOf ("InvalidNumber", some "__init__") "__init__" "InvalidNumber.__init__" (inClass (top 4) 0)) rfl
  obtain ⟨fd3, F3⟩ : ∃ fd, FnP K "__init__" "InvalidNumbers.__init__" (inClass (top 5) 0) (He.ma K (He.ga K "InvalidNumbers") "__init__") fd := c.def_ 3 (d := dOf ("InvalidNumbers", some "__init__") "__init__" "InvalidNumbers.__init__" (inClass (top 5) 0)) rfl
  obtain ⟨fd4, F4⟩ : ∃ fd, FnP K "__init__" "InvalidAddress.__init__" (inClass (top 6) 0) (He.ma K (He.ga K "InvalidAddress") "__init__") fd := c.def_ 4 (d := dOf ("InvalidAddress", some "__init__") "__init__" "InvalidAddress.__init__" (inClass (top 6) 0)) rfl
  obtain ⟨fd5, F5⟩ : ∃ fd, FnP K "__init__" "InvalidName.__init__" (inClass (top 7) 0) (He.ma K (He.ga K "InvalidName") "__init__") fd := c.def_ 5 (d := dOf ("InvalidName", some "__init__") "__init__" "InvalidName.__init__" (inClass (top 7) 0)) rfl
  obtain ⟨fd6, F6⟩ : ∃ fd, FnP K "__init__" "InvalidIndex.__init__" (inClass (top 8) 0) (He.ma K (He.ga K "InvalidIndex") "__init__") fd := c.def_ 6 (d := dOf ("InvalidIndex", some "__init__") "__init__" "InvalidIndex.__init__" (inClass (top 8) 0)) rfl
  obtain ⟨fd7, F7⟩ : ∃ fd, FnP K "__init__" "InvalidValue.__init__" (inClass (top 9) 0) (He.ma K (He.ga K "InvalidValue") "__init__") fd := c.def_ 7 (d := dOf ("InvalidValue", some "__init__") "__init__" "InvalidValue.__init__" (inClass (top 9) 0)) rfl
  obtain ⟨fd8, F8⟩ : ∃ fd, FnP K "__init__" "InvalidMoves.__init__" (inClass (top 10) 0) (He.ma K (He.ga K "InvalidMoves") "__init__") fd := c.def_ 8 (d := dOf ("InvalidMoves", some "__init__") "__init__" "InvalidMoves.__init__" (inClass (top 10) 0)) rfl
  obtain ⟨fd9, F9⟩ : ∃ fd, FnP K "__init__" "InvalidCount.__init__" (inClass (top 11) 0) (He.ma K (He.ga K "InvalidCount") "__init__") fd := c.def_ 9 (d := dOf ("InvalidCount", some "__init__") "__init__" "InvalidCount.__init__" (inClass (top 11) 0)) rfl
  obtain ⟨fd10, F10⟩ : ∃ fd, FnP K "__init__" "InvalidRequests.__init__" (inClass (top 12) 0) (He.ma K (He.ga K "InvalidRequests") "__init__") fd := c.def_ 10 (d := dOf ("InvalidRequests", some "__init__") "__init__" "InvalidRequests.__init__" (inClass (top 12) 0)) rfl
  obtain ⟨fd11, F11⟩ : ∃ fd, FnP K "__init__" "InvalidProgram.__init__" (inClass (top 13) 0) (He.ma K (He.ga K "InvalidProgram") "__init__") fd := c.def_ 11 (d := dOf ("InvalidProgram", some "__init__") "__init__" "InvalidProgram.__init__" (inClass (top 13) 0)) rfl
  obtain ⟨fd12, F12⟩ : ∃ fd, FnP K "__init__" "InvalidText.__init__" (inClass (top 14) 0) (He.ma K (He.ga K "InvalidText") "__init__") fd := c.def_ 12 (d := dOf ("InvalidText", some "__init__") "__init__" "InvalidText.__init__" (inClass (top 14) 0)) rfl
  obtain ⟨fd13, F13⟩ : ∃ fd, FnP K "__init__" "UnknownBlock.__init__" (inClass (top 17) 0) (He.ma K (He.ga K "UnknownBlock") "__init__") fd := c.def_ 13 (d := dOf ("UnknownBlock", some "__init__") "__init__" "UnknownBlock.__init__" (inClass (top 17) 0)) rfl
  obtain ⟨fd14, F14⟩ : ∃ fd, FnP K "__init__" "UnknownName.__init__" (inClass (top 18) 0) (He.ma K (He.ga K "UnknownName") "__init__") fd := c.def_ 14 (d := dOf ("UnknownName", some "__init__") "__init__" "UnknownName.__init__" (inClass (top 18) 0)) rfl
  obtain ⟨fd15, F15⟩ : ∃ fd, FnP K "__init__" "UnknownTask.__init__" (inClass (top 19) 0) (He.ma K (He.ga K "UnknownTask") "__init__") fd := c.def_ 15 (d := dOf ("UnknownTask", some "__init__") "__init__" "UnknownTask.__init__" (inClass (top 19) 0)) rfl
  obtain ⟨fd16, F16⟩ : ∃ fd, FnP K "__init__" "UnknownTime.__init__" (inClass (top 20) 0) (He.ma K (He.ga K "UnknownTime") "__init__") fd := c.def_ 16 (d := dOf ("UnknownTime", some "__init__") "__init__" "UnknownTime.__init__" (inClass (top 20) 0)) rfl
  obtain ⟨fd17, F17⟩ : ∃ fd, FnP K "__init__" "Occupied.__init__" (inClass (top 21) 0) (He.ma K (He.ga K "Occupied") "__init__") fd := c.def_ 17 (d := dOf ("Occupied", some "__init__") "__init__" "Occupied.__init__" (inClass (top 21) 0)) rfl
  obtain ⟨fd18, F18⟩ : ∃ fd, FnP K "__init__" "NameTaken.__init__" (inClass (top 22) 0) (He.ma K (He.ga K "NameTaken") "__init__") fd := c.def_ 18 (d := dOf ("NameTaken", some "__init__") "__init__" "NameTaken.__init__" (inClass (top 22) 0)) rfl
  obtain ⟨fd19, F19⟩ : ∃ fd, FnP K "__init__" "Pinned.__init__" (inClass (top 23) 0) (He.ma K (He.ga K "Pinned") "__init__") fd := c.def_ 19 (d := dOf ("Pinned", some "__init__") "__init__" "Pinned.__init__" (inClass (top 23) 0)) rfl
  obtain ⟨fd20, F20⟩ : ∃ fd, FnP K "__init__" "NotPinned.__init__" (inClass (top 24) 0) (He.ma K (He.ga K "NotPinned") "__init__") fd := c.def_ 20 (d := dOf ("NotPinned", some "__init__") "__init__" "NotPinned.__init__" (inClass (top 24) 0)) rfl
  obtain ⟨fd21, F21⟩ : ∃ fd, FnP K "__init__" "NoReservation.__init__" (inClass (top 25) 0) (He.ma K (He.ga K "NoReservation") "__init__") fd := c.def_ 21 (d := dOf ("NoReservation", some "__init__") "__init__" "NoReservation.__init__" (inClass (top 25) 0)) rfl
  obtain ⟨fd22, F22⟩ : ∃ fd, FnP K "__init__" "NotReady.__init__" (inClass (top 26) 0) (He.ma K (He.ga K "NotReady") "__init__") fd := c.def_ 22 (d := dOf ("NotReady", some "__init__") "__init__" "NotReady.__init__" (inClass (top 26) 0)) rfl
  obtain ⟨fd23, F23⟩ : ∃ fd, FnP K "__init__" "NoRoom.__init__" (inClass (top 27) 0) (He.ma K (He.ga K "NoRoom") "__init__") fd := c.def_ 23 (d := dOf ("NoRoom", some "__init__") "__init__" "NoRoom.__init__" (inClass (top 27) 0)) rfl
  obtain ⟨fd24, F24⟩ : ∃ fd, FnP K "__init__" "TooManyPieces.__init__" (inClass (top 28) 0) (He.ma K (He.ga K "TooManyPieces") "__init__") fd := c.def_ 24 (d := dOf ("TooManyPieces", some "__init__") "__init__" "TooManyPieces.__init__" (inClass (top 28) 0)) rfl
  obtain ⟨fd25, F25⟩ : ∃ fd, FnP K "_law_rng" "_law_rng" (top 30) (He.ga K "_law_rng") fd := c.def_ 25 (d := dOf ("_law_rng", none) "_law_rng" "_law_rng" (top 30)) rfl
  obtain ⟨fd26, F26⟩ : ∃ fd, FnP K "_law_draw" "_law_draw" (top 31) (He.ga K "_law_draw") fd := c.def_ 26 (d := dOf ("_law_draw", none) "_law_draw" "_law_draw" (top 31)) rfl
  obtain ⟨fd27, F27⟩ : ∃ fd, FnP K "_law_choice" "_law_choice" (top 32) (He.ga K "_law_choice") fd := c.def_ 27 (d := dOf ("_law_choice", none) "_law_choice" "_law_choice" (top 32)) rfl
  obtain ⟨fd28, F28⟩ : ∃ fd, FnP K "_law_base" "_law_base" (top 33) (He.ga K "_law_base") fd := c.def_ 28 (d := dOf ("_law_base", none) "_law_base" "_law_base" (top 33)) rfl
  obtain ⟨fd29, F29⟩ : ∃ fd, FnP K "_law_first_words" "_law_first_words" (top 34) (He.ga K "_law_first_words") fd := c.def_ 29 (d := dOf ("_law_first_words", none) "_law_first_words" "_law_first_words" (top 34)) rfl
  obtain ⟨fd30, F30⟩ : ∃ fd, FnP K "_law_last_words" "_law_last_words" (top 35) (He.ga K "_law_last_words") fd := c.def_ 30 (d := dOf ("_law_last_words", none) "_law_last_words" "_law_last_words" (top 35)) rfl
  obtain ⟨fd31, F31⟩ : ∃ fd, FnP K "_law_is" "_law_is" (top 36) (He.ga K "_law_is") fd := c.def_ 31 (d := dOf ("_law_is", none) "_law_is" "_law_is" (top 36)) rfl
  obtain ⟨fd32, F32⟩ : ∃ fd, FnP K "_law_any" "_law_any" (top 37) (He.ga K "_law_any") fd := c.def_ 32 (d := dOf ("_law_any", none) "_law_any" "_law_any" (top 37)) rfl
  obtain ⟨fd33, F33⟩ : ∃ fd, FnP K "_law_values_right" "_law_values_right" (top 38) (He.ga K "_law_values_right") fd := c.def_ 33 (d := dOf ("_law_values_right", none) "_law_values_right" "_law_values_right" (top 38)) rfl
  obtain ⟨fd34, F34⟩ : ∃ fd, FnP K "_law_unknown_right" "_law_unknown_right" (top 39) (He.ga K "_law_unknown_right") fd := c.def_ 34 (d := dOf ("_law_unknown_right", none) "_law_unknown_right" "_law_unknown_right" (top 39)) rfl
  obtain ⟨fd35, F35⟩ : ∃ fd, FnP K "_law_positions_right" "_law_positions_right" (top 40) (He.ga K "_law_positions_right") fd := c.def_ 35 (d := dOf ("_law_positions_right", none) "_law_positions_right" "_law_positions_right" (top 40)) rfl
  obtain ⟨fd36, F36⟩ : ∃ fd, FnP K "_law_texts_right" "_law_texts_right" (top 41) (He.ga K "_law_texts_right") fd := c.def_ 36 (d := dOf ("_law_texts_right", none) "_law_texts_right" "_law_texts_right" (top 41)) rfl
  obtain ⟨fd37, F37⟩ : ∃ fd, FnP K "_law_states_right" "_law_states_right" (top 42) (He.ga K "_law_states_right") fd := c.def_ 37 (d := dOf ("_law_states_right", none) "_law_states_right" "_law_states_right" (top 42)) rfl
  obtain ⟨fd38, F38⟩ : ∃ fd, FnP K "_law_sums_right" "_law_sums_right" (top 43) (He.ga K "_law_sums_right") fd := c.def_ 38 (d := dOf ("_law_sums_right", none) "_law_sums_right" "_law_sums_right" (top 43)) rfl
  obtain ⟨fd39, F39⟩ : ∃ fd, FnP K "_law_right" "_law_right" (top 44) (He.ga K "_law_right") fd := c.def_ 39 (d := dOf ("_law_right", none) "_law_right" "_law_right" (top 44)) rfl
  obtain ⟨fd40, F40⟩ : ∃ fd, FnP K "law" "law" (top 45) (He.ga K "law") fd := c.def_ 40 (d := dOf ("law", none) "law" "law" (top 45)) rfl
  have e := hfa.symm.trans (He.glo_ok X G (c.fact 15 (f := .glo "law") rfl))
  cases e
  have b := FunD.bindsA (ps := ["_law_script"]) F40 (fun _ _ _ _ _ _ us hl => match us, hl with | [_], _ => rfl)
  refine ⟨_, fun s v => b s [v] rfl, fun base _ _ => ?_⟩
  have gA : ∀ c ∈ firsts ++ lasts ++ [("RoomError" : Str)], mg c = some (.ref (He.ga K c)) := (List.forall_mem_cons.mpr ⟨He.glo_ok X G (c.fact 16 (f := .glo "InvalidSizes") rfl), (List.forall_mem_cons.mpr ⟨He.glo_ok X G (c.fact 17 (f := .glo "InvalidLevel") rfl), (List.forall_mem_cons.mpr ⟨He.glo_ok X G (c.fact 18 (f := .glo "InvalidNumber") rfl), (List.forall_mem_cons.mpr ⟨He.glo_ok X G (c.fact 19 (f := .glo "InvalidNumbers") rfl), (List.forall_mem_cons.mpr ⟨He.glo_ok X G (c.fact 20 (f := .glo "InvalidAddress") rfl), (List.forall_mem_cons.mpr ⟨He.glo_ok X G (c.fact 21 (f := .glo "InvalidName") rfl), (List.forall_mem_cons.mpr ⟨He.glo_ok X G (c.fact 22 (f := .glo "InvalidIndex") rfl), (List.forall_mem_cons.mpr ⟨He.glo_ok X G (c.fact 23 (f := .glo "InvalidValue") rfl), (List.forall_mem_cons.mpr ⟨He.glo_ok X G (c.fact 24 (f := .glo "InvalidMoves") rfl), (List.forall_mem_cons.mpr ⟨He.glo_ok X G (c.fact 25 (f := .glo "InvalidCount") rfl), (List.forall_mem_cons.mpr ⟨He.glo_ok X G (c.fact 26 (f := .glo "InvalidRequests") rfl), (List.forall_mem_cons.mpr ⟨He.glo_ok X G (c.fact 27 (f := .glo "InvalidProgram") rfl), (List.forall_mem_cons.mpr ⟨He.glo_ok X G (c.fact 28 (f := .glo "InvalidText") rfl), (List.forall_mem_cons.mpr ⟨He.glo_ok X G (c.fact 30 (f := .glo "InvalidCommand") rfl), (List.forall_mem_cons.mpr ⟨He.glo_ok X G (c.fact 29 (f := .glo "InvalidOperation") rfl), (List.forall_mem_cons.mpr ⟨He.glo_ok X G (c.fact 31 (f := .glo "UnknownBlock") rfl), (List.forall_mem_cons.mpr ⟨He.glo_ok X G (c.fact 32 (f := .glo "UnknownName") rfl), (List.forall_mem_cons.mpr ⟨He.glo_ok X G (c.fact 33 (f := .glo "UnknownTask") rfl), (List.forall_mem_cons.mpr ⟨He.glo_ok X G (c.fact 34 (f := .glo "UnknownTime") rfl), (List.forall_mem_cons.mpr ⟨He.glo_ok X G (c.fact 35 (f := .glo "Occupied") rfl), (List.forall_mem_cons.mpr ⟨He.glo_ok X G (c.fact 36 (f := .glo "NameTaken") rfl), (List.forall_mem_cons.mpr ⟨He.glo_ok X G (c.fact 37 (f := .glo "Pinned") rfl), (List.forall_mem_cons.mpr ⟨He.glo_ok X G (c.fact 38 (f := .glo "NotPinned") rfl), (List.forall_mem_cons.mpr ⟨He.glo_ok X G (c.fact 39 (f := .glo "NoReservation") rfl), (List.forall_mem_cons.mpr ⟨He.glo_ok X G (c.fact 40 (f := .glo "NotReady") rfl), (List.forall_mem_cons.mpr ⟨He.glo_ok X G (c.fact 41 (f := .glo "NoRoom") rfl), (List.forall_mem_cons.mpr ⟨He.glo_ok X G (c.fact 42 (f := .glo "TooManyPieces") rfl), (List.forall_mem_cons.mpr ⟨He.glo_ok X G (c.fact 43 (f := .glo "RoomError") rfl), (fun _ z => absurd z List.not_mem_nil)⟩)⟩)⟩)⟩)⟩)⟩)⟩)⟩)⟩)⟩)⟩)⟩)⟩)⟩)⟩)⟩)⟩)⟩)⟩)⟩)⟩)⟩)⟩)⟩)⟩)⟩)⟩)⟩)
  have T2 : Te K mg := te_of gA (He.free_ok X G (c.fact 55 (f := .free "ValueError") rfl)) (He.free_ok X G (c.fact 56 (f := .free "LookupError") rfl)) (He.free_ok X G (c.fact 57 (f := .free "RuntimeError") rfl)) (He.free_ok X G (c.fact 58 (f := .free "ArithmeticError") rfl))
  have e_InvalidSizes := errG_ok base_VE eg_InvalidSizes
  have M_InvalidSizes : E2 P w K mg base "InvalidSizes" "problem" "position" := e2_ok F0 e_InvalidSizes (He.eqO_ok nm_InvalidSizes) (He.glo_ok X G (c.fact 16 (f := .glo "InvalidSizes") rfl)) (ok_InvalidSizes (oexC_of e_InvalidSizes ve_InvalidSizes) e_InvalidSizes.no (He.eqO_ok nm_InvalidSizes) F0) (F0.bindsN (fun _ _ _ _ _ _ us hl => match us, hl with | [_, _, _], _ => rfl)) (fun _ _ _ _ _ _ _ ws hl => match ws, hl with | [_, _], _ => rfl)
  have c_InvalidSizes : Cl K "InvalidSizes" 0 := ⟨ktB_ok e_InvalidSizes.ec (by decide) kt_InvalidSizes, by decide +kernel, by decide +kernel, by decide +kernel⟩
  have e_InvalidLevel := errG_ok base_VE eg_InvalidLevel
  have M_InvalidLevel : E1 P w K mg base "InvalidLevel" "value" := e1_ok F1 e_InvalidLevel (He.glo_ok X G (c.fact 17 (f := .glo "InvalidLevel") rfl)) (ok_InvalidLevel e_InvalidLevel.ox e_InvalidLevel.no F1) (F1.bindsN (fun _ _ _ _ _ _ us hl => match us, hl with | [_, _], _ => rfl)) (fun _ _ _ _ _ _ _ ws hl => match ws, hl with | [_], _ => rfl)
  have c_InvalidLevel : Cl K "InvalidLevel" 0 := ⟨ktB_ok e_InvalidLevel.ec (by decide) kt_InvalidLevel, by decide +kernel, by decide +kernel, by decide +kernel⟩
  have e_InvalidNumber := errG_ok base_VE eg_InvalidNumber
  have M_InvalidNumber : E1 P w K mg base "InvalidNumber" "value" := e1_ok F2 e_InvalidNumber (He.glo_ok X G (c.fact 18 (f := .glo "InvalidNumber") rfl)) (ok_InvalidNumber e_InvalidNumber.ox e_InvalidNumber.no F2) (F2.bindsN (fun _ _ _ _ _ _ us hl => match us, hl with | [_, _], _ => rfl)) (fun _ _ _ _ _ _ _ ws hl => match ws, hl with | [_], _ => rfl)
  have c_InvalidNumber : Cl K "InvalidNumber" 0 := ⟨ktB_ok e_InvalidNumber.ec (by decide) kt_InvalidNumber, by decide +kernel, by decide +kernel, by decide +kernel⟩
  have e_InvalidNumbers := errG_ok base_VE eg_InvalidNumbers
  have M_InvalidNumbers : E1 P w K mg base "InvalidNumbers" "position" := e1_ok F3 e_InvalidNumbers (He.glo_ok X G (c.fact 19 (f := .glo "InvalidNumbers") rfl)) (ok_InvalidNumbers e_InvalidNumbers.ox e_InvalidNumbers.no F3) (F3.bindsN (fun _ _ _ _ _ _ us hl => match us, hl with | [_, _], _ => rfl)) (fun _ _ _ _ _ _ _ ws hl => match ws, hl with | [_], _ => rfl)
  have c_InvalidNumbers : Cl K "InvalidNumbers" 0 := ⟨ktB_ok e_InvalidNumbers.ec (by decide) kt_InvalidNumbers, by decide +kernel, by decide +kernel, by decide +kernel⟩
  have e_InvalidAddress := errG_ok base_VE eg_InvalidAddress
  have M_InvalidAddress : E1 P w K mg base "InvalidAddress" "value" := e1_ok F4 e_InvalidAddress (He.glo_ok X G (c.fact 20 (f := .glo "InvalidAddress") rfl)) (ok_InvalidAddress e_InvalidAddress.ox e_InvalidAddress.no F4) (F4.bindsN (fun _ _ _ _ _ _ us hl => match us, hl with | [_, _], _ => rfl)) (fun _ _ _ _ _ _ _ ws hl => match ws, hl with | [_], _ => rfl)
  have c_InvalidAddress : Cl K "InvalidAddress" 0 := ⟨ktB_ok e_InvalidAddress.ec (by decide) kt_InvalidAddress, by decide +kernel, by decide +kernel, by decide +kernel⟩
  have e_InvalidName := errG_ok base_VE eg_InvalidName
  have M_InvalidName : E1 P w K mg base "InvalidName" "value" := e1_ok F5 e_InvalidName (He.glo_ok X G (c.fact 21 (f := .glo "InvalidName") rfl)) (ok_InvalidName e_InvalidName.ox e_InvalidName.no F5) (F5.bindsN (fun _ _ _ _ _ _ us hl => match us, hl with | [_, _], _ => rfl)) (fun _ _ _ _ _ _ _ ws hl => match ws, hl with | [_], _ => rfl)
  have c_InvalidName : Cl K "InvalidName" 0 := ⟨ktB_ok e_InvalidName.ec (by decide) kt_InvalidName, by decide +kernel, by decide +kernel, by decide +kernel⟩
  have e_InvalidIndex := errG_ok base_VE eg_InvalidIndex
  have M_InvalidIndex : E1 P w K mg base "InvalidIndex" "value" := e1_ok F6 e_InvalidIndex (He.glo_ok X G (c.fact 22 (f := .glo "InvalidIndex") rfl)) (ok_InvalidIndex e_InvalidIndex.ox e_InvalidIndex.no F6) (F6.bindsN (fun _ _ _ _ _ _ us hl => match us, hl with | [_, _], _ => rfl)) (fun _ _ _ _ _ _ _ ws hl => match ws, hl with | [_], _ => rfl)
  have c_InvalidIndex : Cl K "InvalidIndex" 0 := ⟨ktB_ok e_InvalidIndex.ec (by decide) kt_InvalidIndex, by decide +kernel, by decide +kernel, by decide +kernel⟩
  have e_InvalidValue := errG_ok base_VE eg_InvalidValue
  have M_InvalidValue : E1 P w K mg base "InvalidValue" "value" := e1_ok F7 e_InvalidValue (He.glo_ok X G (c.fact 23 (f := .glo "InvalidValue") rfl)) (ok_InvalidValue e_InvalidValue.ox e_InvalidValue.no F7) (F7.bindsN (fun _ _ _ _ _ _ us hl => match us, hl with | [_, _], _ => rfl)) (fun _ _ _ _ _ _ _ ws hl => match ws, hl with | [_], _ => rfl)
  have c_InvalidValue : Cl K "InvalidValue" 0 := ⟨ktB_ok e_InvalidValue.ec (by decide) kt_InvalidValue, by decide +kernel, by decide +kernel, by decide +kernel⟩
  have e_InvalidMoves := errG_ok base_VE eg_InvalidMoves
  have M_InvalidMoves : E1 P w K mg base "InvalidMoves" "position" := e1_ok F8 e_InvalidMoves (He.glo_ok X G (c.fact 24 (f := .glo "InvalidMoves") rfl)) (ok_InvalidMoves e_InvalidMoves.ox e_InvalidMoves.no F8) (F8.bindsN (fun _ _ _ _ _ _ us hl => match us, hl with | [_, _], _ => rfl)) (fun _ _ _ _ _ _ _ ws hl => match ws, hl with | [_], _ => rfl)
  have c_InvalidMoves : Cl K "InvalidMoves" 0 := ⟨ktB_ok e_InvalidMoves.ec (by decide) kt_InvalidMoves, by decide +kernel, by decide +kernel, by decide +kernel⟩
  have e_InvalidCount := errG_ok base_VE eg_InvalidCount
  have M_InvalidCount : E1 P w K mg base "InvalidCount" "value" := e1_ok F9 e_InvalidCount (He.glo_ok X G (c.fact 25 (f := .glo "InvalidCount") rfl)) (ok_InvalidCount e_InvalidCount.ox e_InvalidCount.no F9) (F9.bindsN (fun _ _ _ _ _ _ us hl => match us, hl with | [_, _], _ => rfl)) (fun _ _ _ _ _ _ _ ws hl => match ws, hl with | [_], _ => rfl)
  have c_InvalidCount : Cl K "InvalidCount" 0 := ⟨ktB_ok e_InvalidCount.ec (by decide) kt_InvalidCount, by decide +kernel, by decide +kernel, by decide +kernel⟩
  have e_InvalidRequests := errG_ok base_VE eg_InvalidRequests
  have M_InvalidRequests : E1 P w K mg base "InvalidRequests" "position" := e1_ok F10 e_InvalidRequests (He.glo_ok X G (c.fact 26 (f := .glo "InvalidRequests") rfl)) (ok_InvalidRequests e_InvalidRequests.ox e_InvalidRequests.no F10) (F10.bindsN (fun _ _ _ _ _ _ us hl => match us, hl with | [_, _], _ => rfl)) (fun _ _ _ _ _ _ _ ws hl => match ws, hl with | [_], _ => rfl)
  have c_InvalidRequests : Cl K "InvalidRequests" 0 := ⟨ktB_ok e_InvalidRequests.ec (by decide) kt_InvalidRequests, by decide +kernel, by decide +kernel, by decide +kernel⟩
  have e_InvalidProgram := errG_ok base_VE eg_InvalidProgram
  have M_InvalidProgram : E2 P w K mg base "InvalidProgram" "task" "path" := e2_ok F11 e_InvalidProgram (He.eqO_ok nm_InvalidProgram) (He.glo_ok X G (c.fact 27 (f := .glo "InvalidProgram") rfl)) (ok_InvalidProgram (oexC_of e_InvalidProgram ve_InvalidProgram) e_InvalidProgram.no (He.eqO_ok nm_InvalidProgram) F11) (F11.bindsN (fun _ _ _ _ _ _ us hl => match us, hl with | [_, _, _], _ => rfl)) (fun _ _ _ _ _ _ _ ws hl => match ws, hl with | [_, _], _ => rfl)
  have c_InvalidProgram : Cl K "InvalidProgram" 0 := ⟨ktB_ok e_InvalidProgram.ec (by decide) kt_InvalidProgram, by decide +kernel, by decide +kernel, by decide +kernel⟩
  have e_InvalidText := errG_ok base_VE eg_InvalidText
  have M_InvalidText : E1 P w K mg base "InvalidText" "line" := e1_ok F12 e_InvalidText (He.glo_ok X G (c.fact 28 (f := .glo "InvalidText") rfl)) (ok_InvalidText e_InvalidText.ox e_InvalidText.no F12) (F12.bindsN (fun _ _ _ _ _ _ us hl => match us, hl with | [_, _], _ => rfl)) (fun _ _ _ _ _ _ _ ws hl => match ws, hl with | [_], _ => rfl)
  have c_InvalidText : Cl K "InvalidText" 0 := ⟨ktB_ok e_InvalidText.ec (by decide) kt_InvalidText, by decide +kernel, by decide +kernel, by decide +kernel⟩
  have c_InvalidOperation : Cl K "InvalidOperation" 0 := ⟨ktB_ok (ecB_ok ec_InvalidOperation) (by decide) kt_InvalidOperation, by decide +kernel, by decide +kernel, by decide +kernel⟩
  have c_InvalidCommand : Cl K "InvalidCommand" 0 := ⟨ktB_ok (ecB_ok ec_InvalidCommand) (by decide) kt_InvalidCommand, by decide +kernel, by decide +kernel, by decide +kernel⟩
  have e_UnknownBlock := errG_ok base_LE eg_UnknownBlock
  have M_UnknownBlock : E1 P w K mg base "UnknownBlock" "value" := e1_ok F13 e_UnknownBlock (He.glo_ok X G (c.fact 31 (f := .glo "UnknownBlock") rfl)) (ok_UnknownBlock e_UnknownBlock.ox e_UnknownBlock.no F13) (F13.bindsN (fun _ _ _ _ _ _ us hl => match us, hl with | [_, _], _ => rfl)) (fun _ _ _ _ _ _ _ ws hl => match ws, hl with | [_], _ => rfl)
  have c_UnknownBlock : Cl K "UnknownBlock" 1 := ⟨ktB_ok e_UnknownBlock.ec (by decide) kt_UnknownBlock, by decide +kernel, by decide +kernel, by decide +kernel⟩
  have e_UnknownName := errG_ok base_LE eg_UnknownName
  have M_UnknownName : E1 P w K mg base "UnknownName" "value" := e1_ok F14 e_UnknownName (He.glo_ok X G (c.fact 32 (f := .glo "UnknownName") rfl)) (ok_UnknownName e_UnknownName.ox e_UnknownName.no F14) (F14.bindsN (fun _ _ _ _ _ _ us hl => match us, hl with | [_, _], _ => rfl)) (fun _ _ _ _ _ _ _ ws hl => match ws, hl with | [_], _ => rfl)
  have c_UnknownName : Cl K "UnknownName" 1 := ⟨ktB_ok e_UnknownName.ec (by decide) kt_UnknownName, by decide +kernel, by decide +kernel, by decide +kernel⟩
  have e_UnknownTask := errG_ok base_LE eg_UnknownTask
  have M_UnknownTask : E1 P w K mg base "UnknownTask" "value" := e1_ok F15 e_UnknownTask (He.glo_ok X G (c.fact 33 (f := .glo "UnknownTask") rfl)) (ok_UnknownTask e_UnknownTask.ox e_UnknownTask.no F15) (F15.bindsN (fun _ _ _ _ _ _ us hl => match us, hl with | [_, _], _ => rfl)) (fun _ _ _ _ _ _ _ ws hl => match ws, hl with | [_], _ => rfl)
  have c_UnknownTask : Cl K "UnknownTask" 1 := ⟨ktB_ok e_UnknownTask.ec (by decide) kt_UnknownTask, by decide +kernel, by decide +kernel, by decide +kernel⟩
  have e_UnknownTime := errG_ok base_LE eg_UnknownTime
  have M_UnknownTime : E1 P w K mg base "UnknownTime" "value" := e1_ok F16 e_UnknownTime (He.glo_ok X G (c.fact 34 (f := .glo "UnknownTime") rfl)) (ok_UnknownTime e_UnknownTime.ox e_UnknownTime.no F16) (F16.bindsN (fun _ _ _ _ _ _ us hl => match us, hl with | [_, _], _ => rfl)) (fun _ _ _ _ _ _ _ ws hl => match ws, hl with | [_], _ => rfl)
  have c_UnknownTime : Cl K "UnknownTime" 1 := ⟨ktB_ok e_UnknownTime.ec (by decide) kt_UnknownTime, by decide +kernel, by decide +kernel, by decide +kernel⟩
  have e_Occupied := errG_ok base_RE eg_Occupied
  have M_Occupied : E1 P w K mg base "Occupied" "address" := e1_ok F17 e_Occupied (He.glo_ok X G (c.fact 35 (f := .glo "Occupied") rfl)) (ok_Occupied e_Occupied.ox e_Occupied.no F17) (F17.bindsN (fun _ _ _ _ _ _ us hl => match us, hl with | [_, _], _ => rfl)) (fun _ _ _ _ _ _ _ ws hl => match ws, hl with | [_], _ => rfl)
  have c_Occupied : Cl K "Occupied" 2 := ⟨ktB_ok e_Occupied.ec (by decide) kt_Occupied, by decide +kernel, by decide +kernel, by decide +kernel⟩
  have e_NameTaken := errG_ok base_RE eg_NameTaken
  have M_NameTaken : E1 P w K mg base "NameTaken" "name" := e1_ok F18 e_NameTaken (He.glo_ok X G (c.fact 36 (f := .glo "NameTaken") rfl)) (ok_NameTaken e_NameTaken.ox e_NameTaken.no F18) (F18.bindsN (fun _ _ _ _ _ _ us hl => match us, hl with | [_, _], _ => rfl)) (fun _ _ _ _ _ _ _ ws hl => match ws, hl with | [_], _ => rfl)
  have c_NameTaken : Cl K "NameTaken" 2 := ⟨ktB_ok e_NameTaken.ec (by decide) kt_NameTaken, by decide +kernel, by decide +kernel, by decide +kernel⟩
  have e_Pinned := errG_ok base_RE eg_Pinned
  have M_Pinned : E1 P w K mg base "Pinned" "name" := e1_ok F19 e_Pinned (He.glo_ok X G (c.fact 37 (f := .glo "Pinned") rfl)) (ok_Pinned e_Pinned.ox e_Pinned.no F19) (F19.bindsN (fun _ _ _ _ _ _ us hl => match us, hl with | [_, _], _ => rfl)) (fun _ _ _ _ _ _ _ ws hl => match ws, hl with | [_], _ => rfl)
  have c_Pinned : Cl K "Pinned" 2 := ⟨ktB_ok e_Pinned.ec (by decide) kt_Pinned, by decide +kernel, by decide +kernel, by decide +kernel⟩
  have e_NotPinned := errG_ok base_RE eg_NotPinned
  have M_NotPinned : E1 P w K mg base "NotPinned" "name" := e1_ok F20 e_NotPinned (He.glo_ok X G (c.fact 38 (f := .glo "NotPinned") rfl)) (ok_NotPinned e_NotPinned.ox e_NotPinned.no F20) (F20.bindsN (fun _ _ _ _ _ _ us hl => match us, hl with | [_, _], _ => rfl)) (fun _ _ _ _ _ _ _ ws hl => match ws, hl with | [_], _ => rfl)
  have c_NotPinned : Cl K "NotPinned" 2 := ⟨ktB_ok e_NotPinned.ec (by decide) kt_NotPinned, by decide +kernel, by decide +kernel, by decide +kernel⟩
  have e_NoReservation := errG_ok base_RE eg_NoReservation
  have M_NoReservation : E1 P w K mg base "NoReservation" "owner" := e1_ok F21 e_NoReservation (He.glo_ok X G (c.fact 39 (f := .glo "NoReservation") rfl)) (ok_NoReservation e_NoReservation.ox e_NoReservation.no F21) (F21.bindsN (fun _ _ _ _ _ _ us hl => match us, hl with | [_, _], _ => rfl)) (fun _ _ _ _ _ _ _ ws hl => match ws, hl with | [_], _ => rfl)
  have c_NoReservation : Cl K "NoReservation" 2 := ⟨ktB_ok e_NoReservation.ec (by decide) kt_NoReservation, by decide +kernel, by decide +kernel, by decide +kernel⟩
  have e_NotReady := errG_ok base_RE eg_NotReady
  have M_NotReady : E1 P w K mg base "NotReady" "task" := e1_ok F22 e_NotReady (He.glo_ok X G (c.fact 40 (f := .glo "NotReady") rfl)) (ok_NotReady e_NotReady.ox e_NotReady.no F22) (F22.bindsN (fun _ _ _ _ _ _ us hl => match us, hl with | [_, _], _ => rfl)) (fun _ _ _ _ _ _ _ ws hl => match ws, hl with | [_], _ => rfl)
  have c_NotReady : Cl K "NotReady" 2 := ⟨ktB_ok e_NotReady.ec (by decide) kt_NotReady, by decide +kernel, by decide +kernel, by decide +kernel⟩
  have e_NoRoom := errG_ok base_AE eg_NoRoom
  have M_NoRoom : E1 P w K mg base "NoRoom" "level" := e1_ok F23 e_NoRoom (He.glo_ok X G (c.fact 41 (f := .glo "NoRoom") rfl)) (ok_NoRoom e_NoRoom.ox e_NoRoom.no F23) (F23.bindsN (fun _ _ _ _ _ _ us hl => match us, hl with | [_, _], _ => rfl)) (fun _ _ _ _ _ _ _ ws hl => match ws, hl with | [_], _ => rfl)
  have c_NoRoom : Cl K "NoRoom" 3 := ⟨ktB_ok e_NoRoom.ec (by decide) kt_NoRoom, by decide +kernel, by decide +kernel, by decide +kernel⟩
  have e_TooManyPieces := errG_ok base_AE eg_TooManyPieces
  have M_TooManyPieces : E1 P w K mg base "TooManyPieces" "limit" := e1_ok F24 e_TooManyPieces (He.glo_ok X G (c.fact 42 (f := .glo "TooManyPieces") rfl)) (ok_TooManyPieces e_TooManyPieces.ox e_TooManyPieces.no F24) (F24.bindsN (fun _ _ _ _ _ _ us hl => match us, hl with | [_, _], _ => rfl)) (fun _ _ _ _ _ _ _ ws hl => match ws, hl with | [_], _ => rfl)
  have c_TooManyPieces : Cl K "TooManyPieces" 3 := ⟨ktB_ok e_TooManyPieces.ec (by decide) kt_TooManyPieces, by decide +kernel, by decide +kernel, by decide +kernel⟩
  have M : Ers P w K mg base := ⟨M_InvalidSizes, c_InvalidSizes, M_InvalidLevel, c_InvalidLevel, M_InvalidNumber, c_InvalidNumber, M_InvalidNumbers, c_InvalidNumbers, M_InvalidAddress, c_InvalidAddress, M_InvalidName, c_InvalidName, M_InvalidIndex, c_InvalidIndex, M_InvalidValue, c_InvalidValue, M_InvalidMoves, c_InvalidMoves, M_InvalidCount, c_InvalidCount, M_InvalidRequests, c_InvalidRequests, M_InvalidProgram, c_InvalidProgram, M_InvalidText, c_InvalidText, c_InvalidOperation, c_InvalidCommand, M_UnknownBlock, c_UnknownBlock, M_UnknownName, c_UnknownName, M_UnknownTask, c_UnknownTask, M_UnknownTime, c_UnknownTime, M_Occupied, c_Occupied, M_NameTaken, c_NameTaken, M_Pinned, c_Pinned, M_NotPinned, c_NotPinned, M_NoReservation, c_NoReservation, M_NotReady, c_NotReady, M_NoRoom, c_NoRoom, M_TooManyPieces, c_TooManyPieces⟩
  have k0 : Kt K (He.ga K "RoomError") "RoomError" 0 := ktB_ok (ecB_ok ec_RoomError) (by decide) kt_RoomError
  have O1 : E0c K mg "InvalidOperation" := by
    obtain ⟨z1, z2⟩ := He.ba ex_InvalidOperation
    exact ⟨z1, He.glo_ok X G (c.fact 29 (f := .glo "InvalidOperation") rfl), z2⟩
  have O2 : E0c K mg "InvalidCommand" := by
    obtain ⟨z1, z2⟩ := He.ba ex_InvalidCommand
    exact ⟨z1, He.glo_ok X G (c.fact 30 (f := .glo "InvalidCommand") rfl), z2⟩
  have O0 : E0c K mg "RoomError" := by
    obtain ⟨z1, z2⟩ := He.ba ex_RoomError
    exact ⟨z1, He.glo_ok X G (c.fact 43 (f := .glo "RoomError") rfl), z2⟩
  have D__law_rng := df (P := P) (w := w) (base := base) X G (c.fact 0 (f := .glo "_law_rng") rfl) F25 (ps := ["_law_script", "_law_k"]) (fun _ _ _ _ _ _ us hl => match us, hl with | [_, _], _ => rfl) (ok_rng T F25)
  have D__law_draw := df (P := P) (w := w) (base := base) X G (c.fact 1 (f := .glo "_law_draw") rfl) F26 (ps := ["_law_rng_here", "_law_many"]) (fun _ _ _ _ _ _ us hl => match us, hl with | [_, _], _ => rfl) (ok_draw T F26)
  have D__law_choice := df (P := P) (w := w) (base := base) X G (c.fact 2 (f := .glo "_law_choice") rfl) F27 (ps := ["_law_rng_here", "_law_options"]) (fun _ _ _ _ _ _ us hl => match us, hl with | [_, _], _ => rfl) (ok_choice T D__law_draw F27)
  have D__law_base := df (P := P) (w := w) (base := base) X G (c.fact 3 (f := .glo "_law_base") rfl) F28 (ps := ["_law_e"]) (fun _ _ _ _ _ _ us hl => match us, hl with | [_], _ => rfl) (ok_base T T2 F28)
  have D__law_first_words := df (P := P) (w := w) (base := base) X G (c.fact 4 (f := .glo "_law_first_words") rfl) F29 (ps := ["_law_e"]) (fun _ _ _ _ _ _ us hl => match us, hl with | [_], _ => rfl) (ok_law_first_words T T2 F29)
  have D__law_last_words := df (P := P) (w := w) (base := base) X G (c.fact 5 (f := .glo "_law_last_words") rfl) F30 (ps := ["_law_e"]) (fun _ _ _ _ _ _ us hl => match us, hl with | [_], _ => rfl) (ok_law_last_words T T2 F30)
  have D__law_is := df (P := P) (w := w) (base := base) X G (c.fact 6 (f := .glo "_law_is") rfl) F31 (ps := ["_law_e", "_law_word", "_law_base_here"]) (fun _ _ _ _ _ _ us hl => match us, hl with | [_, _, _], _ => rfl) (ok_is T D__law_base D__law_first_words D__law_last_words F31)
  have D__law_any := df (P := P) (w := w) (base := base) X G (c.fact 7 (f := .glo "_law_any") rfl) F32 (ps := ["_law_rng_here"]) (fun _ _ _ _ _ _ us hl => match us, hl with | [_], _ => rfl) (ok_any T D__law_draw D__law_choice F32)
  have D__law_values_right := dfG (P := P) (w := w) (base := base) X G (c.fact 8 (f := .glo "_law_values_right") rfl) F33 (ps := ["_law_near"]) (fun _ _ _ _ _ _ us hl => match us, hl with | [_], _ => rfl) (ok_values T M D__law_is F33)
  have D__law_unknown_right := dfG (P := P) (w := w) (base := base) X G (c.fact 9 (f := .glo "_law_unknown_right") rfl) F34 (ps := ["_law_near"]) (fun _ _ _ _ _ _ us hl => match us, hl with | [_], _ => rfl) (ok_unknown T M D__law_is F34)
  have D__law_positions_right := dfG (P := P) (w := w) (base := base) X G (c.fact 10 (f := .glo "_law_positions_right") rfl) F35 (ps := ["_law_whole", "_law_word"]) (fun _ _ _ _ _ _ us hl => match us, hl with | [_, _], _ => rfl) (ok_positions T M D__law_is F35)
  have D__law_texts_right := dfG (P := P) (w := w) (base := base) X G (c.fact 11 (f := .glo "_law_texts_right") rfl) F36 (ps := ["_law_whole", "_law_word", "_law_road"]) (fun _ _ _ _ _ _ us hl => match us, hl with | [_, _, _], _ => rfl) (ok_texts T M D__law_is O1 O2 F36)
  have D__law_states_right := dfG (P := P) (w := w) (base := base) X G (c.fact 12 (f := .glo "_law_states_right") rfl) F37 (ps := ["_law_whole", "_law_word"]) (fun _ _ _ _ _ _ us hl => match us, hl with | [_, _], _ => rfl) (ok_states T M D__law_is F37)
  have D__law_sums_right := dfG (P := P) (w := w) (base := base) X G (c.fact 13 (f := .glo "_law_sums_right") rfl) F38 (ps := ["_law_whole"]) (fun _ _ _ _ _ _ us hl => match us, hl with | [_], _ => rfl) (ok_sums T M D__law_is F38)
  have D__law_right := dfG (P := P) (w := w) (base := base) X G (c.fact 14 (f := .glo "_law_right") rfl) F39 (ps := ["_law_rng_here"]) (fun _ _ _ _ _ _ us hl => match us, hl with | [_], _ => rfl) (ok_right T D__law_any D__law_draw D__law_choice D__law_values_right D__law_unknown_right D__law_positions_right D__law_texts_right D__law_states_right D__law_sums_right O0 k0 D__law_base D__law_first_words D__law_last_words F39)
  exact ok_law T D__law_rng D__law_right F40
end
end K17
open PySem PySem.W PySem.Calls PyProof.Rows
theorem PySem.Challenge.cw_exactroom_k17_errors_created_holds : PySem.Challenge.rw_exactroom_k17_errors_created.Holds := by
  w_on; o_law
  refine HandSHeadRun.head_any (r := OpenLaw.row PySem.Challenge.rw_exactroom_k17_errors_created) (q := view (OpenLaw.row PySem.Challenge.rw_exactroom_k17_errors_created).prog [45]) (H := K17.hk) (ob := K17.ob) (M := 16000)
    (loose := K17.loose) (d := HandSHeadRun.topDef (OpenLaw.row PySem.Challenge.rw_exactroom_k17_errors_created).prog 45) (kwd := []) K17.ob_eq
    (by kernel_rfl) (fun s => by kernel_rfl) K17.run (by kernel_rfl) (by kernel_rfl) (by kernel_rfl) (by rfl) (by first | assumption | decide +kernel) (by decide +kernel) ⟨rfl, rfl, rfl, rfl, rfl, by decide +kernel⟩ ?hw ?hc
  case hw => w_witness2
  case hc =>
    refine Gu.walkG (l := PySem.Challenge.rw_exactroom_k17_errors_created) (n := 63) (k := 5) (x := "_law_script") (CX := L2.CX0) rfl (by decide) (by kernel_rfl) ⟨⟨rfl, by decide, by decide⟩, rfl⟩ ?F (fun _ _ _ _ z => z)
    intro w mg fa h Y G hmg0
    obtain ⟨K, KX, c⟩ := Y
    have hmg : mg ("law" : PySem.Str) = some (.ref fa) := by
      have e : (HandSHeadRun.topDef (OpenLaw.row PySem.Challenge.rw_exactroom_k17_errors_created).prog 45).name = ("law" : PySem.Str) := by kernel_rfl
      rw [← e]
      exact hmg0
    obtain ⟨fd, hb, hF⟩ := K17.facts (P := (PySem.Challenge.rw_exactroom_k17_errors_created).prog) (w := w) KX G hmg c
    exact ⟨K, fd, K17.spLaw K, KX, hb, fun H a ns hl _ hS => ⟨a, ns, rfl, hS, hl, fun _ => rfl⟩, hF⟩

