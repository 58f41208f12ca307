import PyProof.Rows.All
import Wide.All
import OpenK.AllK
import Wide.FinOn
import PyProof.ReprRoads
import HandS.ForMost
import HandS.ForExc
import HandS.Property
import HandS.ClsMeth
import HandS.Defaults
import HandS.IsInst
import HandS.Wide
import HandS.WideBits
import HandS.Ends
import HandS.HeadEnd
import HandS.Head0
import HandS.Head1
import HandS.Head2
import HandS.HeadHook1
import HandS.HeadHook2
import HandS.Flow
import HandS.Style
import PyProof.LongRange
import HandS.ExcInit
import HandS.ExcField
import HandS.ExcIs
import HandS.TryOnly
import HandS.OwnEq
import HandS.Iter
import HandS.Comp
import KE.KExcInit
import PyProof.ExcBaseAll.ArithmeticError
import PyProof.ExcBaseAll.LookupError
import PyProof.ExcBaseAll.RuntimeError
import HandS.TryMany
import HandS.EndTab
import HandS.Dict
import HandS.Walk
import HandS.Lambda
import KE.KStateDown
import Lean
import KE.KNestM
import PySem.Challenge.RW_exactroom_k13_whole_pieces_of_objects
set_option Elab.async false
set_option linter.all false
set_option maxRecDepth 100000
set_option maxHeartbeats 4000000
/-! Own layer: defs that are called where no repr is under way (the guards are known to be none), so that repr of data can be walked. -/
namespace Gu
open PySem PySem.Spec PyProof.Rows L2
structure RoomG (k : Nat) (A : Around) : Prop where
  r : Room k A
  g : A.guards = some []
theorem RoomG.mono {j k : Nat} {A : Around} (x : RoomG k A) (h : j ≤ k) : RoomG j A := ⟨x.r.mono h, x.g⟩
theorem RoomG.down {k : Nat} {A : Around} (x : RoomG (k + 1) A) (env : Env) : RoomG k (A.deeper env) := ⟨x.r.deeper env, x.g⟩
structure FnG (P : Program) (w : World) (K : PySem.W.Frag) (mg : Str → Option Value) (base : Heap) (CX : CXT) (k : Nat) (f : Addr) (fd : FuncData) (ps : List Str) (sp : Sp) : Prop where
  len : ∀ vs H Q E, sp vs H Q E → vs.length = ps.length
  run : ∀ (A : Around) (outer : List Env) (s : Shared) (H : Hp) (args : Args) (us : List Value) (vs : List V) (Q : VK) (E : XK),
    RoomG k A → Env0 P w K mg base A outer s H → BindsTo s fd args (ps.zip us) → Vals vs us → sp vs H Q E →
    codeAny (model P w) A (.call (.ref f) args) (CR CX outer P w H s Q E) s
section
variable {P : Program} {w : World} {K : PySem.W.Frag} {mg : Str → Option Value} {base : Heap} {CX : CXT} {k : Nat} {f : Addr} {fd : FuncData} {ps : List Str} {sp : Sp}
theorem FnG.of (F : FnOk P w K mg base CX k f fd ps sp) : FnG P w K mg base CX k f fd ps sp :=
  ⟨F.len, fun A outer s H args us vs Q E hr => F.run A outer s H args us vs Q E hr.r⟩
/-- a def by its body -/
theorem okG {x qual : Str} {params : Arguments} {body : List Stmt} {scope : Scope} {dvs : List V} {kws : List (Str × V)} {N : List Str}
    (F : FunD K x qual params body scope dvs kws f fd) (S : FnScope N ps scope) (len : ∀ vs H Q E, sp vs H Q E → vs.length = ps.length)
    (hbody : ∀ (cdv : Value) (A : Around) (outer : List Env) (s : Shared) (H : Hp) (vs : List V) (Q : VK) (E : XK),
      RoomG k (A.deeper (envOfC qual scope s.heap.objs.size f cdv)) → sp vs H Q E →
      ∃ t, PSs (cxOf CX P w K mg base N qual scope f cdv A outer s H E) body t ∧ t { nx := fun _ H' => Q .non H', rt := Q } (start N vs) H) :
    FnG P w K mg base CX (k + 1) f fd ps sp := by
  obtain ⟨oc, od, dV, kV, doc, pm, an, cdv, ct, osl, rfl, lk, hcd, _, _⟩ := F.ex
  refine ⟨len, fun A outer s H args us vs Q E hr e0 hb rv hsp => ?_⟩
  have KX : K.In s.heap := e0.mod.kin.keeps fun b o e => (e0.bs b o e).1
  have hkinds : ∀ y ∈ ps.zip us, scope.names.lookup y.1 = some .local ∨
      (scope.names.lookup y.1 = some .cell ∧ ((cellsFrom (s.heap.objs.size + 1) scope.names []).lookup y.1).isSome = true) := by
    rintro ⟨n, v⟩ hy
    rcases S.par n (List.of_mem_zip hy).1 with q | q
    · exact .inl q
    · exact .inr ⟨q, PySem.W.cellsFrom_some _ _ _ (.inl q)⟩
  refine codeAny_call_function hr.r.depth (KX _ _ lk) rfl S.co S.gen rfl (PySem.W.codeRec_of KX hcd) (hb _ _ _ _ ?_)
  refine wpAny_newFunctionEnv_cells S.kind hkinds fun env he s1 x => ?_
  subst he
  refine ⟨(e0.mod.nolimit.keeps fun b o e => (e0.bs b o e).1).keeps x.toInCall.keep, codeAny_func ?_⟩
  obtain ⟨t, ht, hq⟩ := hbody cdv A outer s H vs Q E (hr.down _) hsp
  have I := inv_start (CX := CX) (E := E) (N := N) (qual := qual) (f := f) (cd := cdv) S hr.r.hd e0 (len _ _ _ _ hsp) rv x
  refine wpAny_mono (ht.run [] s1 (start N vs) H _ I hq) (fun fl s' hs => ?_) fun e s' hs => hs
  cases fl with
  | ret u =>
    obtain ⟨v, σ', H', J, rv', q⟩ := hs
    exact ⟨v, H', J.os, J.bare, J.base, J.hok, rv', q⟩
  | next =>
    obtain ⟨σ', H', J, q⟩ := hs
    exact ⟨V.non, H', J.os, J.bare, J.base, J.hok, rfl, q⟩
  | brk => exact hs.elim fun _ z => z.elim fun _ z => z.2.elim
  | cont => exact hs.elim fun _ z => z.elim fun _ z => z.2.elim
end
section
variable {X : Cx} {CX : CXT} {k : Nat} {f : Addr} {fd : FuncData} {ps : List Str} {sp : Sp} {dvs : List V} {ds : List Value} {E : XK} {x : Str} {p pos : Pos} {e : Expr} {es : List Expr} {t : TA}
theorem runG {pins : List (Addr × Obj)} {σ : L2.St} {H : Hp} {s : Shared} {Q : VK} {us : List Value} {vs : List V} (F : FnG X.prog X.w X.K X.mg X.base CX k f fd ps sp)
    (hr : RoomG k X.A) (hb : Binds X.K fd ps ds) (hd : Vals dvs ds) (hx : Passes CX X E) (I : Inv X pins σ H s) (r : Vals vs us) (h : sp (vs ++ dvs) H Q E) :
    wpAny (model X.prog X.w) X.A (call (.ref f) us) (EP X pins σ Q) X.xe s := by
  have r2 := r.append hd
  have hl : (us ++ ds).length = ps.length := r2.length.symm.trans (F.len _ _ _ _ h)
  refine wpAny_call (codeAny_mono (F.run X.A X.stack s H ⟨us, []⟩ _ _ Q E hr I.env0 (hb s us I.kIn hl) r2 h) fun r s' hq => ?_)
  match r, hq with
  | .error e, hq => exact hx pins σ H s e s' I hq
  | .ok (.ret u), hq => exact I.after hq
/-- f(e, ..) -/
theorem pe_callG (F : FnG X.prog X.w X.K X.mg X.base CX k f fd ps sp) (hr : RoomG k X.A) (hg : Gl X x) (hm : X.mg x = some (.ref f)) (hk : PySem.W.keepIn X.K (.ref f) = true)
    (hb : Binds X.K fd ps ds) (hd : Vals dvs ds) (hx : Passes CX X E) (ha : PA X (e :: es) t) (hdb : (x == ("__debug__" : Str)) = false := by decide)
    (he : starEach (e :: es) X.env = (false, eval e X.env) :: starEach es X.env := by rfl) (hpl : (backTo pos (starEach es X.env)).any (·.1) = false := by rfl) :
    PE X (.Call (.Name x p) (e :: es) [] pos) (tCall sp dvs E t) :=
  ⟨fun pins s σ H Q I h => wpAny_Call_Name_kw (ld_glob I hg hm (PySem.W.callWith_K (h₀ := X.base) I.ok.mod.kin hk
    (thn (ha.run pos pins s σ H _ I h) fun us s1 ⟨vs, H1, I1, r, q⟩ => ⟨I1.kIn, runG F hr hb hd hx I1 r q⟩) he hpl) hdb)⟩
/-- repr of a list or a tuple of data -/
def rReprD (K : PySem.W.Frag) : List V → Hp → VK → Prop := fun xs H Q => ∃ (a : Addr) (d : PyData), xs = [.ref a] ∧ Dp K H (.ref a) d ∧ d.showable = true ∧ d.hasDict = false ∧ d.depth ≤ 60 ∧ d.shown.length ≤ sizeLine ∧ Q (.str d.shown) H
theorem call_reprD (hr : RoomG k X.A) : CallR X (.builtin "repr") (rReprD X.K) := by
  intro pins s σ H xs us Q I r h
  obtain ⟨a, d, rfl, hd, hs, hn, hdep, hz, q⟩ := h
  obtain ⟨u, rfl, ru⟩ := vals1 r
  obtain rfl : u = Value.ref a := ru
  obtain ⟨as, rd⟩ := Dp.reads I d (.ref a) (.ref a) hd rfl
  have hu := hr.r.units
  exact repr_of_reads' rd hs (PyData.noDict_hsm hn) hr.g (by omega) (fun _ _ e => e) (fun h' u tk hk => ⟨.str d.shown, H, I.kept hk, ⟨u, rfl⟩, q⟩) hz
end
/-- the law's call, from its promise where no repr is under way -/
theorem law_go {P : Program} {w : World} {K : PySem.W.Frag} {mg mb : Str → Option Value} {CX : CXT} {k : Nat} {fa a : Addr} {fd : FuncData} {x : Str} {sp : Sp} {s₁ : Shared} {vs : List Value} {H : Hp}
    (KX : K.In s₁.heap) (hns : s₁.heap.Ns mainGlobals mg) (hb : s₁.heap.Ns builtinsNs mb) (hbb : ∀ x : Str, x ≠ "__name__" → mb x = bootBuiltins x) (hlim : s₁.heap.NoLimit) (hg : s₁.gens = #[])
    (ha : s₁.heap.get? a = some { cls := .type "list", data := .seq vs.toArray }) (hr : RoomG k callerA)
    (F : ∀ base : Heap, K.In base → base.Ns mainGlobals mg → FnG P w K mg base CX k fa fd [x] sp) (hbind : ∀ (s : Shared) (u : Value), BindsTo s fd ⟨[u], []⟩ [(x, u)])
    (hsp : sp [.ref a] H (fun v _ => v = .bl true) fun _ _ _ => False) (hCX : ∀ e s', CX [] H s₁ (fun _ _ _ => False) e s' → False)
    (hO : Only H) (hok : HOk P w H s₁.heap) (hA : ∀ b, H b ≠ none → b = a) (hK : H a ≠ none → K.lookup a = none) :
    codeAny (model P w) callerA (.call (.ref fa) ⟨[.ref a], []⟩) (fun r s' => r = .ok (.ret (.bool true)) ∧ OldK s₁.heap s'.heap ∧ s'.os = s₁.os ∧ AllBare s'.gens) s₁ := by
  have free : ∀ {b : Addr} {o : Obj}, s₁.heap.get? b = some o → (b = a → False) → (hidT s₁.heap H).get? b = some o := fun {b o} e n => hidT_get e (by
    cases q : H b with
    | none => rfl
    | some u => exact (n (hA b (by rw [q]; exact fun z => nomatch z))).elim)
  have nsK : ∀ {b : Addr} {m : Str → Option Value}, s₁.heap.Ns b m → (hidT s₁.heap H).Ns b m := fun {b m} ⟨o, es, ep, e, d, r⟩ => ⟨o, es, ep, free e (fun z => by
    rw [z, ha] at e
    have e' := Option.some.inj e
    rw [← e'] at d
    exact nomatch d), d, r⟩
  have hKb : K.In (hidT s₁.heap H) := fun b o e => hidT_get (KX b o e) (by
    cases q : H b with
    | none => rfl
    | some u =>
      have z : b = a := hA b (by rw [q]; exact fun z => nomatch z)
      rw [z] at e q
      rw [hK (by rw [q]; exact fun z => nomatch z)] at e
      exact nomatch e)
  obtain ⟨mc, l1, l2⟩ := hlim
  have e0 : Env0 P w K mg (hidT s₁.heap H) callerA [] s₁ H :=
    ⟨rfl, ⟨hKb, nsK hns, ⟨mb, nsK hb, hbb⟩, ⟨mc, nsK l1, l2⟩⟩, fun b o e => of_hidT e, Nat.le_of_eq (hidT_size _ _), trivial, fun b hb => absurd (show b ∈ ([] : List Addr) from hb) List.not_mem_nil, hok, .of_eq hg⟩
  refine codeAny_mono ((F _ hKb (nsK hns)).run callerA [] s₁ H ⟨[.ref a], []⟩ [.ref a] [.ref a] _ _ hr e0 (hbind s₁ (.ref a)) (.cons rfl .nil) hsp) fun r s' h => ?_
  match r, h with
  | .error e, h => exact (hCX e s' h).elim
  | .ok (.ret u), h =>
    obtain ⟨v, H', os, bare, un, hok', r', q⟩ := h
    obtain rfl : v = .bl true := q
    obtain rfl : u = Value.bool true := r'
    refine ⟨rfl, OldK.of_keep fun b o e => ?_, os, bare⟩
    cases q : H b with
    | none => exact un.keep b o e q (fun z => absurd (show b ∈ ([] : List Addr) from z) List.not_mem_nil) (fun z => absurd (show b ∈ ([] : List Addr) from z) List.not_mem_nil)
    | some u =>
      rcases hO b with z | ⟨ob, xs, z⟩
      · rw [q] at z
        exact nomatch z
      · obtain ⟨e1, _⟩ := hok b _ z
        obtain ⟨e2, _⟩ := hok' b _ (un.frzs b ob _ z)
        rw [e] at e1
        rw [Option.some.inj e1]
        exact e2
theorem law_callG {P : Program} {w : World} {K : PySem.W.Frag} {mg mb : Str → Option Value} {CX : CXT} {k : Nat} {fa a : Addr} {fd : FuncData} {x : Str} {sp : Sp} {s₁ : Shared} {vs : List Value} {ns : List Int}
    (KX : K.In s₁.heap) (hns : s₁.heap.Ns mainGlobals mg) (hb : s₁.heap.Ns builtinsNs mb) (hbb : ∀ x : Str, x ≠ "__name__" → mb x = bootBuiltins x) (hlim : s₁.heap.NoLimit) (hg : s₁.gens = #[])
    (ha : s₁.heap.get? a = some { cls := .type "list", data := .seq vs.toArray }) (hi : IntsAre vs ns) (hl : ns.length ≤ sizeLine) (hr : RoomG k callerA)
    (F : ∀ base : Heap, K.In base → base.Ns mainGlobals mg → FnG P w K mg base CX k fa fd [x] sp) (hbind : ∀ (s : Shared) (u : Value), BindsTo s fd ⟨[u], []⟩ [(x, u)])
    (hsp : ∀ H : Hp, Only H → SqL K H a (ns.map V.int) → sp [.ref a] H (fun v _ => v = .bl true) fun _ _ _ => False) (hCX : ∀ H e s', CX [] H s₁ (fun _ _ _ => False) e s' → False) :
    codeAny (model P w) callerA (.call (.ref fa) ⟨[.ref a], []⟩) (fun r s' => r = .ok (.ret (.bool true)) ∧ OldK s₁.heap s'.heap ∧ s'.os = s₁.os ∧ AllBare s'.gens) s₁ := by
  have rv := vals_ints hi
  have lenV := hi.length
  cases hk : K.lookup a with
  | some o =>
    have e := (KX a o hk).symm.trans ha
    obtain rfl := Option.some.inj e
    have hO : Only (fun _ => none) := fun _ => .inl rfl
    exact law_go (H := fun _ => none) KX hns hb hbb hlim hg ha hr F hbind
      (hsp _ hO (.inr ⟨_, vs.toArray, _, hk, rfl, rfl, rfl, by rw [List.size_toArray, lenV]; exact hl, by simpa using rv⟩)) (hCX _) hO
      (fun b u z => nomatch (show (none : Option HO) = some u from z)) (fun b z => (z rfl).elim) (fun z => (z rfl).elim)
  | none =>
    let H0 : Hp := fun b => if b = a then some (.frz { cls := .type "list", data := .seq vs.toArray } (.lst (ns.map V.int))) else none
    have at_ : H0 a = some (.frz { cls := .type "list", data := .seq vs.toArray } (.lst (ns.map V.int))) := if_pos rfl
    have off : ∀ b, b ≠ a → H0 b = none := fun b h => if_neg h
    have hO : Only H0 := fun b => by
      by_cases h : b = a
      · rw [h]
        exact .inr ⟨_, _, at_⟩
      · exact .inl (off b h)
    refine law_go (H := H0) KX hns hb hbb hlim hg ha hr F hbind (hsp _ hO (.inl (.inr ⟨_, at_⟩))) (hCX _) hO (fun b u z => ?_) (fun b z => ?_) (fun _ => hk)
    · by_cases h : b = a
      · rw [h, at_] at z
        obtain rfl := Option.some.inj z
        rw [h]
        exact ⟨ha, by rw [List.length_map]; exact hl, vs, _, rv, ha⟩
      · rw [off b h] at z
        exact nomatch z
    · by_cases h : b = a
      · exact h
      · exact (z (off b h)).elim
/-- the end of a law, over a head by facts -/
theorem walkG {l : PySem.W.OpenLaw} {n k : Nat} {q : Program} {loose : List Str} {XP : (Str → Option Value) → Heap → Prop} {YP : World → Heap → Prop} {d : DefRec} {CX : CXT} {x : Str}
    (hn : l.most = some n) (hn2 : n ≤ sizeLine) (hdf : d.params.defaults = []) (hr : RoomG k callerA)
    (F : ∀ (w : World) (mg : Str → Option Value) (fa : Addr) (h : Heap), YP w h → h.Ns mainGlobals mg → mg d.name = some (.ref fa) →
      ∃ (K : PySem.W.Frag) (fd : FuncData) (sp : Sp), K.In h ∧ (∀ (s : Shared) (u : Value), BindsTo s fd ⟨[u], []⟩ [(x, u)]) ∧
        (∀ (H : Hp) (a : Addr) (ns : List Int), ns.length ≤ n → Only H → SqL K H a (ns.map V.int) → sp [.ref a] H (fun v _ => v = .bl true) fun _ _ _ => False) ∧
        ∀ base : Heap, K.In base → base.Ns mainGlobals mg → FnG l.prog w K mg base CX k fa fd [x] sp)
    (hCX : ∀ (H : Hp) (s : Shared) (e : Value) (s' : Shared), CX [] H s (fun _ _ _ => False) e s' → False) :
    PySem.W.WalkO q loose XP YP l.row.toRowW d [] (fun f vs => PySem.call f vs) := by
  refine Att.attach_call hn hdf fun w s₀ s₁ mg mb fa o pm cd doc a vs ns G Y ho hd hcd hmg hobj hints hlen hg => ?_
  obtain ⟨K, fd, sp, KX, hb, hsp, hF⟩ := F w mg fa _ Y G.T.g hmg
  exact law_callG KX G.T.g G.T.b G.T.builtins G.T.nolimit hg hobj hints (Nat.le_trans hlen hn2) hr hF hb (fun H hO hS => hsp H a ns hlen hO hS) fun H e s' => hCX H s₁ e s'
end Gu

set_option Elab.async false
set_option linter.all false
set_option maxRecDepth 100000
set_option maxHeartbeats 4000000
/-! Own layer: defs, methods, makers and properties by their names. -/
namespace Ex
open PySem PySem.Spec PyProof.Rows L2 Gu
section
variable (P : Program) (w : World) (K : PySem.W.Frag) (mg : Str → Option Value) (base : Heap)
/-- the module's def x keeps sp -/
structure Df (k : Nat) (x : Str) (ps : List Str) (sp : Sp) : Prop where
  ex : ∃ fd, FnOk P w K mg base CX0 k (He.ga K x) fd ps sp ∧ Binds K fd ps []
  gl : mg x = some (.ref (He.ga K x))
  kp : PySem.W.keepIn K (.ref (He.ga K x)) = true
structure DfG (k : Nat) (x : Str) (ps : List Str) (sp : Sp) : Prop where
  ex : ∃ fd, FnG P w K mg base CX0 k (He.ga K x) fd ps sp ∧ Binds K fd ps []
  gl : mg x = some (.ref (He.ga K x))
  kp : PySem.W.keepIn K (.ref (He.ga K x)) = true
/-- .. called by keywords ks alone; j: the places of the parameters among the keywords -/
structure DfK (k : Nat) (x : Str) (ps ks : List Str) (j : List Nat) (sp : Sp) : Prop where
  ex : ∃ fd, FnOk P w K mg base CX0 k (He.ga K x) fd ps sp ∧ ∀ (s : Shared) (ws : List Value), ws.length = ks.length → BindsTo s fd ⟨[], ks.zip ws⟩ (ps.zip (j.filterMap fun i => ws[i]?))
  gl : mg x = some (.ref (He.ga K x))
  kp : PySem.W.keepIn K (.ref (He.ga K x)) = true
structure Mf (k : Nat) (c m : Str) (ps : List Str) (sp : Sp) : Prop where
  ex : ∃ fd, FnOk P w K mg base CX0 k (He.ma K (He.ga K c) m) fd ps sp ∧ Binds K fd ps []
  cl : Cls K (He.ga K c)
  me : Meth K (He.ga K c) m (He.ma K (He.ga K c) m)
structure Pf (k : Nat) (c m : Str) (sp : Sp) : Prop where
  cl : Cls K (He.ga K c)
  ex : ∃ (p g : Addr) (fd : FuncData), PropOf K (He.ga K c) m p g ∧ FnOk P w K mg base CX0 k g fd ["self"] sp ∧ Binds K fd ["self"] []
structure Kf (k : Nat) (c : Str) (ps : List Str) (sp : Sp) : Prop where
  ex : ∃ fd, FnOk P w K mg base CX0 k (He.ma K (He.ga K c) "__init__") fd ps sp ∧ Binds K fd ps []
  gl : mg c = some (.ref (He.ga K c))
  mkr : Mk K (He.ga K c) (He.ma K (He.ga K c) "__init__")
end
section
variable {X : Cx} {k j : Nat} {x c m : Str} {ps ks : List Str} {ji : List Nat} {sp : Sp} {p pos apos : Pos} {e o : Expr} {es : List Expr} {kws : List Keyword} {t tk : TA} {ta : TE}
theorem pcall (D : Df X.prog X.w X.K X.mg X.base k x ps sp) (hr : Room j X.A) (ha : PA X (e :: es) t) (hj : k ≤ j := by decide) (hg : Gl X x := by rfl) (hdb : (x == ("__debug__" : Str)) = false := by decide)
    (he : starEach (e :: es) X.env = (false, eval e X.env) :: starEach es X.env := by rfl) (hpl : (backTo pos (starEach es X.env)).any (·.1) = false := by rfl) :
    PE X (.Call (.Name x p) (e :: es) [] pos) (tCall sp [] E0 t) := by
  obtain ⟨fd, F, b⟩ := D.ex
  exact pe_call F (hr.mono hj) hg D.gl D.kp b .nil pass0 ha hdb he hpl
theorem pcallG (D : DfG X.prog X.w X.K X.mg X.base k x ps sp) (hr : RoomG j X.A) (ha : PA X (e :: es) t) (hj : k ≤ j := by decide) (hg : Gl X x := by rfl) (hdb : (x == ("__debug__" : Str)) = false := by decide)
    (he : starEach (e :: es) X.env = (false, eval e X.env) :: starEach es X.env := by rfl) (hpl : (backTo pos (starEach es X.env)).any (·.1) = false := by rfl) :
    PE X (.Call (.Name x p) (e :: es) [] pos) (tCall sp [] E0 t) := by
  obtain ⟨fd, F, b⟩ := D.ex
  exact pe_callG F (hr.mono hj) hg D.gl D.kp b .nil pass0 ha hdb he hpl
def tKw (sp : Sp) (n : Nat) (j : List Nat) (tk : TA) : TE := fun σ H Q => tk σ H fun zs H2 => zs.length = n ∧ sp (j.filterMap fun i => zs[i]?) H2 Q E0
theorem vals_pick {zs : List V} {ws : List Value} (r : Vals zs ws) : ∀ j : List Nat, Vals (j.filterMap fun i => zs[i]?) (j.filterMap fun i => ws[i]?)
  | [] => .nil
  | i :: j => by
    rw [List.filterMap_cons, List.filterMap_cons]
    cases e : zs[i]? with
    | none =>
      rw [r.none_of e]
      exact vals_pick r j
    | some z =>
      obtain ⟨u, hu, ru⟩ := r.get e
      rw [hu]
      exact .cons ru (vals_pick r j)
theorem pcallK (D : DfK X.prog X.w X.K X.mg X.base k x ps ks ji sp) (hr : Room j X.A) (hkw : PK X kws tk) (hj : k ≤ j := by decide) (hg : Gl X x := by rfl)
    (hall : (backToKw pos (keywordEach kws X.env)).all (·.1.isSome) = true := by rfl) (hks : (backToKw pos (keywordEach kws X.env)).filterMap (·.1) = ks := by rfl)
    (hdb : (x == ("__debug__" : Str)) = false := by decide)
    (hpl : ((backTo pos (starEach [] X.env)).any (·.1) || (backToKw pos (keywordEach kws X.env)).any (·.1.isNone)) = false := by rfl) :
    PE X (.Call (.Name x p) [] kws pos) (tKw sp ks.length ji tk) := by
  obtain ⟨fd, F, b⟩ := D.ex
  refine ⟨fun pins s σ H Q I h => wpAny_Call_Name_kw (ld_glob I hg D.gl ?_ hdb)⟩
  refine PySem.W.callWith_KW0 (h₀ := X.base) I.ok.mod.kin D.kp hall (thn (hkw.run pos pins s σ H _ I h) fun ws s2 ⟨zs, H2, I2, rz, l2, q2⟩ => ⟨I2.kIn, ?_⟩) hpl
  rw [hks]
  refine wpAny_call (codeAny_mono (F.run X.A X.stack s2 H2 ⟨[], ks.zip ws⟩ _ _ Q E0 (hr.mono hj) I2.env0 (b s2 ws (rz.length.symm.trans l2)) (vals_pick rz ji) q2) fun r s' hq => ?_)
  match r, hq with
  | .ok (.ret u), hq => exact I2.after hq
theorem pmeth {pl : Sem Bool} (D : Mf X.prog X.w X.K X.mg X.base k c m ps sp) (hr : Room j X.A) (he : PE X o ta) (ha : PA X (e :: es) t) (hj : k ≤ j := by decide)
    (hst : starEach (e :: es) X.env = (false, eval e X.env) :: starEach es X.env := by rfl) (hpl : (backTo pos (starEach es X.env)).any (·.1) = false := by rfl)
    (ht : eval (.Call (.Attribute o m apos) (e :: es) [] pos) X.env = (do
      let ov ← eval o X.env
      standAt apos.atName
      let (f, first) ← holding [ov] (getMethod ov m pl)
      callWith pos f first (backTo pos (starEach (e :: es) X.env)) (backToKw pos (keywordEach [] X.env))) := by rfl) :
    PE X (.Call (.Attribute o m apos) (e :: es) [] pos) (tMeth (He.ga X.K c) m sp [] E0 ta t) := by
  obtain ⟨fd, F, b⟩ := D.ex
  exact pe_meth he D.cl D.me F (hr.mono hj) b .nil pass0 ha hst hpl ht
theorem pmeth0 {pl : Sem Bool} (D : Mf X.prog X.w X.K X.mg X.base k c m ps sp) (hr : Room j X.A) (he : PE X o ta) (hj : k ≤ j := by decide)
    (ht : eval (.Call (.Attribute o m apos) [] [] pos) X.env = (do
      let ov ← eval o X.env
      standAt apos.atName
      let (f, first) ← holding [ov] (getMethod ov m pl)
      callWith pos f first (backTo pos (starEach [] X.env)) (backToKw pos (keywordEach [] X.env))) := by rfl) :
    PE X (.Call (.Attribute o m apos) [] [] pos) (tMeth (He.ga X.K c) m sp [] E0 ta tNil) := by
  obtain ⟨fd, F, b⟩ := D.ex
  exact pe_meth0 he D.cl D.me F (hr.mono hj) b .nil pass0 ht
theorem pprop (D : Pf X.prog X.w X.K X.mg X.base k c m sp) (hr : Room j X.A) (he : PE X o ta) (hj : k + 1 ≤ j := by decide) (hab : attributeBase o m X.env (eval o X.env) = eval o X.env := by rfl) :
    PE X (.Attribute o m pos) (tProp (He.ga X.K c) sp [] E0 ta) := by
  obtain ⟨p, g, fd, hp, F, b⟩ := D.ex
  exact pe_prop he D.cl hp F (hr.mono hj) b .nil pass0 hab
theorem pmake (D : Kf X.prog X.w X.K X.mg X.base k c ps sp) (hr : Room j X.A) (ha : PA X (e :: es) t) (hj : k + 1 ≤ j := by decide) (hg : Gl X c := by rfl) (hdb : (c == ("__debug__" : Str)) = false := by decide)
    (he : starEach (e :: es) X.env = (false, eval e X.env) :: starEach es X.env := by rfl) (hpl : (backTo pos (starEach es X.env)).any (·.1) = false := by rfl) :
    PE X (.Call (.Name c p) (e :: es) [] pos) (tMake (He.ga X.K c) sp [] E0 t) := by
  obtain ⟨fd, F, b⟩ := D.ex
  exact pe_make D.mkr F (hr.mono hj) hg D.gl b .nil pass0 ha hdb he hpl
end
end Ex

set_option Elab.async false
set_option linter.all false
set_option maxRecDepth 100000
set_option maxHeartbeats 4000000
/-! Own layer: range(a, b) of any whole numbers (walked by one or the other iterator of the machine). -/
namespace Ex
open PySem PySem.Spec PyProof.Rows L2 Gu
theorem turn_long {P : Program} {w : World} {K : PySem.W.Frag} {tg : Expr} (it : Addr) (lo : Int) (n : Nat) :
    Turn P w K tg (Itr lo n) [it] it (fun i h => IsLongIter h it (lo + (i : Nat) * 1) ((n : Int) - (i : Nat)) 1) where
  mem := List.mem_singleton.mpr rfl
  obj := fun i h st b hb => by
    obtain rfl := List.mem_singleton.mp hb
    exact ⟨_, st, fun v z => nomatch (show Data.fields _ = Data.cell v from z)⟩
  keep := fun i h h' st k => k it (List.mem_singleton.mpr rfl) _ st
  item := by
    rintro X rfl rfl rfl hc i pins s σ H E I hf st hg
    obtain ⟨f0, f1, f2, f3, f4, f5⟩ := hf it (List.mem_singleton.mpr rfl)
    refine (Walks.longrange (prog := X.prog) (w := X.w) (I.ok.hd hc) it lo 1 n).item i s _ _ hg st fun v h' tk hv st' kk => ?_
    obtain ⟨t, rfl⟩ := hv
    have J : Inv X pins σ H { s with heap := h', toks := tk } := I.turned (fun b o hb e => kk b o (fun z => hb (List.mem_singleton.mp z)) e) f0 f1 f3 f4 f5
    refine ⟨_, rfl, go_of (s := { s with heap := h', toks := tk }) (n := "longrange_iterator") st' rfl rfl (by decide) ⟨.int (lo + i), H, J, ⟨t, ?_⟩, ⟨rfl, rfl⟩, st', fun b hb => (hf b hb).1⟩⟩
    rw [Int.mul_one]
  done := by
    rintro X rfl rfl rfl hc i pins s σ H E I hf st hg
    obtain ⟨f0, f1, f2, f3, f4, f5⟩ := hf it (List.mem_singleton.mpr rfl)
    have hn : n ≤ i := hg
    exact wpAny_pyNext_long_end (I.ok.hd hc) st (by omega) fun h' eb => ⟨rfl, I.turned (t' := s.toks) (fun b o hb e => eb b o hb e) f0 f1 f3 f4 f5⟩
  self := fun _ _ _ _ _ st h => wpAny_pyIter_longiter st h
section
variable {X : Cx} {tg : Expr}
theorem range_any {pins : List (Addr × Obj)} {σ : L2.St} {H : Hp} {s : Shared} {R : It → Hp → Prop} {E : Value → Shared → Prop} {lo hi : Int} {t u v : Tok} {tk : Nat} (I : Inv X pins σ H s) (q : R (Itr lo (hi - lo).toNat) H) :
    wpAny (model X.prog X.w) X.A (pyIter (.ref s.heap.objs.size)) (PIE X pins σ tg R) E { s with heap := s.heap.push { cls := .type "range", data := .fields #[.int lo t, .int hi u, .int 1 v] }, toks := tk } := by
  have J : Inv X pins σ H { s with heap := s.heap.push { cls := .type "range", data := .fields #[.int lo t, .int hi u, .int 1 v] }, toks := tk } := I.kept fun b o e => Heap.get?_push_of_some _ e
  have e1 : lo + ((0 : Nat) : Int) * 1 = lo := by simp
  have e2 : (((hi - lo).toNat : Nat) : Int) - ((0 : Nat) : Int) = Builtin.Range.rangeSize lo hi 1 := by rw [rangeSize_one]; split <;> omega
  have fr : ∀ b ∈ [(s.heap.push { cls := .type "range", data := .fields #[.int lo t, .int hi u, .int 1 v] }).objs.size], _ := fun b hb => by
    obtain rfl := List.mem_singleton.mp hb
    exact J.fpOk (Nat.le_refl _) (J.hok.fresh (Nat.le_refl _))
  cases hs : Builtin.Range.small lo hi 1 with
  | true =>
    refine wpAny_pyIter_range (IsRange.new ..) hs ⟨_, [_], _, _, H, rfl, J.kept (t' := tk) fun b o e => Heap.get?_push_of_some _ e, turn_range _ lo (hi - lo).toNat, ?_, fr, q⟩
    show IsRangeIter _ _ (lo + ((0 : Nat) : Int) * 1) ((((hi - lo).toNat : Nat) : Int) - ((0 : Nat) : Int)) 1
    rw [e1, e2]
    exact Heap.get?_push_size _ rfl
  | false =>
    refine wpAny_pyIter_longrange (IsRange.new ..) hs ⟨_, [_], _, _, H, rfl, J.kept (t' := tk) fun b o e => Heap.get?_push_of_some _ e, turn_long _ lo (hi - lo).toNat, ?_, fr, q⟩
    show IsLongIter _ _ (lo + ((0 : Nat) : Int) * 1) ((((hi - lo).toNat : Nat) : Int) - ((0 : Nat) : Int)) 1
    rw [e1, e2]
    exact Heap.get?_push_size _ rfl
def iRngA (ta : TA) : TI := fun σ H R => ta σ H fun vs H1 => ∃ i j : Int, vs = [.int i, .int j] ∧ R (Itr i (j - i).toNat) H1
theorem pi_rangeA {a b : Expr} {ta : TA} {p pos : Pos} (hg : Gl X "range") (hm : X.mg "range" = none) (ha : PA X [a, b] ta) (hs : starEach [a, b] X.env = [(false, eval a X.env), (false, eval b X.env)] := by rfl)
    (hs2 : starEach [b] X.env = [(false, eval b X.env)] := by rfl) : PI X tg (.Call (.Name "range" p) [a, b] [] pos) (iRngA ta) := by
  refine ⟨fun pins s σ H R I h => Call_ (ld_blt I hg hm boot_range (PyProof.Rows.callWith_type1 (thn (ha.run pos pins s σ H _ I h) fun us s1 ⟨vs, H1, I1, r1, q1⟩ => ?_) (by rw [hs, hs2]) (by rw [hs2]; rfl)))⟩
  obtain ⟨i, j, rfl, q⟩ := q1
  obtain ⟨u, z, rfl, ⟨t, rfl⟩, ⟨t', rfl⟩⟩ := vals2 r1
  exact call_range_2 (range_any I1 q)
end
end Ex

set_option linter.all false
/-! The mathematics of counted regions. -/
namespace M15
theorem div_is {x s q r : Int} (h : x = s * q + r) (h0 : 0 ≤ r) (h1 : r < s) : x / s = q := by
  have e : r + s * q = x := by rw [h, Int.add_comm]
  exact ((Int.ediv_emod_unique (by omega)).mpr ⟨e, h0, h1⟩).1
/-- the number of multiples below x, rounded up -/
def C (s x : Int) : Int := (x + s - 1) / s
theorem parts (s x : Int) (h : 1 ≤ s) : x = s * (x / s) + x % s ∧ 0 ≤ x % s ∧ x % s < s :=
  ⟨(Int.mul_ediv_add_emod x s).symm, Int.emod_nonneg _ (by omega), Int.emod_lt_of_pos _ (by omega)⟩
theorem C_of {s x q r : Int} (hs : 1 ≤ s) (h : x = s * q + r) (h0 : 0 ≤ r) (h1 : r < s) : C s x = if r = 0 then q else q + 1 := by
  unfold C
  by_cases z : r = 0
  · rw [if_pos z]
    exact div_is (r := s - 1) (by omega) (by omega) (by omega)
  · rw [if_neg z]
    refine div_is (r := r - 1) ?_ (by omega) (by omega)
    have e : s * (q + 1) = s * q + s := by rw [Int.mul_add, Int.mul_one]
    omega
theorem C_step {s x : Int} (hs : 1 ≤ s) : C s (x + 1) = C s x + (if x % s = 0 then 1 else 0) := by
  obtain ⟨e, h0, h1⟩ := parts s x hs
  have a : C s (x + 1) = x / s + 1 := by
    unfold C
    have e2 : s * (x / s + 1) = s * (x / s) + s := by rw [Int.mul_add, Int.mul_one]
    exact div_is (r := x % s) (by omega) h0 h1
  rw [a, C_of hs e h0 h1]
  by_cases z : x % s = 0
  · rw [if_pos z, if_pos z]
  · rw [if_neg z, if_neg z]
    omega
theorem C_mono {s : Int} (hs : 1 ≤ s) (x : Int) (n : Nat) : C s x ≤ C s (x + n) := by
  induction n with
  | zero => simp
  | succ n ih =>
    have e := C_step (s := s) (x := x + n) hs
    rw [show x + ((n + 1 : Nat) : Int) = x + n + 1 by omega, e]
    split <;> omega
theorem C_le {s : Int} (hs : 1 ≤ s) {x y : Int} (h : x ≤ y) : C s x ≤ C s y := by
  have e := C_mono hs x (y - x).toNat
  rw [show x + (((y - x).toNat : Nat) : Int) = y by omega] at e
  exact e
/-- how many of the first n addresses from b on begin a region that ends by e -/
def cnt (s b e : Int) : Nat → Nat
  | 0 => 0
  | n + 1 => cnt s b e n + if (b + n) % s = 0 ∧ b + n + s ≤ e then 1 else 0
theorem cnt_is {s b e : Int} (hs : 1 ≤ s) : ∀ n : Nat, ((cnt s b e n : Nat) : Int) = if C s (min (b + n) (e - s + 1)) > C s b then C s (min (b + n) (e - s + 1)) - C s b else 0
  | 0 => by
    have h : C s (min (b + (0 : Nat)) (e - s + 1)) ≤ C s b := C_le hs (by omega)
    rw [if_neg (by omega)]
    rfl
  | n + 1 => by
    have ih := cnt_is (s := s) (b := b) (e := e) hs n
    show (((cnt s b e n + if (b + n) % s = 0 ∧ b + n + s ≤ e then 1 else 0 : Nat)) : Int) = _
    by_cases hb : b + n + s ≤ e
    · rw [show min (b + ((n + 1 : Nat) : Int)) (e - s + 1) = b + n + 1 by omega, C_step hs]
      rw [show min (b + (n : Int)) (e - s + 1) = b + n by omega] at ih
      have m := C_mono hs b n
      by_cases z : (b + n) % s = 0
      · rw [if_pos ⟨z, hb⟩, if_pos z]
        split at ih <;> split <;> omega
      · rw [if_neg (fun q => z q.1), if_neg z]
        split at ih <;> split <;> omega
    · rw [if_neg (fun q => hb q.2)]
      rw [show min (b + ((n + 1 : Nat) : Int)) (e - s + 1) = e - s + 1 by omega]
      rw [show min (b + (n : Int)) (e - s + 1) = e - s + 1 by omega] at ih
      omega
/-- the greatest of 0 and the difference -/
def cntM (s b e : Int) : Int := if e / s - C s b > 0 then e / s - C s b else 0
theorem C_end {s e : Int} : C s (e - s + 1) = e / s := by
  unfold C
  rw [show e - s + 1 + s - 1 = e by omega]
theorem cnt_all {s b e : Int} (hs : 1 ≤ s) (hb : b ≤ e) : ((cnt s b e (e - b).toNat : Nat) : Int) = cntM s b e := by
  rw [cnt_is hs, show min (b + (((e - b).toNat : Nat) : Int)) (e - s + 1) = e - s + 1 by omega, C_end]
  unfold cntM
  split <;> split <;> omega
theorem up_is {s a : Int} (hs : 1 ≤ s) : -(-a / s) = C s a := by
  obtain ⟨e, h0, h1⟩ := parts s a hs
  rw [C_of hs e h0 h1]
  by_cases z : a % s = 0
  · rw [if_pos z]
    have : -a / s = -(a / s) := div_is (r := 0) (by rw [Int.mul_neg]; omega) (by omega) (by omega)
    omega
  · rw [if_neg z]
    have e2 : s * (-(a / s) - 1) = -(s * (a / s)) - s := by rw [Int.mul_sub, Int.mul_neg, Int.mul_one]
    have : -a / s = -(a / s) - 1 := div_is (r := s - a % s) (by omega) (by omega) (by omega)
    omega
theorem quot_is {s a e : Int} (hs : 1 ≤ s) : ((e - e % s) - -(-a / s) * s) / s = e / s - C s a := by
  obtain ⟨h, h0, h1⟩ := parts s e hs
  rw [up_is hs]
  refine div_is (r := 0) ?_ (by omega) (by omega)
  have x1 : C s a * s = s * C s a := Int.mul_comm _ _
  have x2 : s * (e / s - C s a) = s * (e / s) - s * C s a := Int.mul_sub _ _ _
  omega
/-- a region across the cut -/
theorem across {s b c e : Int} (hs : 1 ≤ s) (h1 : b ≤ c) (h2 : c ≤ e) :
    cntM s b c + cntM s c e + (if b ≤ c - c % s ∧ c - c % s < c ∧ c - c % s + s ≤ e ∧ c % s ≠ 0 then 1 else 0) = cntM s b e := by
  obtain ⟨ec, c0, c1⟩ := parts s c hs
  obtain ⟨ee, e0, e1⟩ := parts s e hs
  obtain ⟨eb, b0, b1⟩ := parts s b hs
  have hCc := C_of hs ec c0 c1
  have hCb := C_of hs eb b0 b1
  have m1 : C s b ≤ C s c := C_le hs h1
  have m2 : c / s ≤ e / s := Int.ediv_le_ediv (by omega) h2
  have m3 : b / s ≤ c / s := Int.ediv_le_ediv (by omega) h1
  unfold cntM
  -- quotients: qb qc qe
  generalize hqb : b / s = qb at *
  generalize hqc : c / s = qc at *
  generalize hqe : e / s = qe at *
  have k1 : b ≤ c - c % s ↔ C s b ≤ qc := by
    have t : c - c % s = s * qc := by omega
    rw [t, hCb]
    constructor
    · intro h
      by_cases z : b % s = 0
      · rw [if_pos z]
        exact m3
      · rw [if_neg z]
        refine Int.not_lt.mp fun hn => ?_
        have : qc = qb := by omega
        rw [this] at h
        omega
    · intro h
      by_cases z : b % s = 0
      · rw [if_pos z] at h
        have := Int.mul_le_mul_of_nonneg_left h (show (0 : Int) ≤ s by omega)
        omega
      · rw [if_neg z] at h
        have := Int.mul_le_mul_of_nonneg_left h (show (0 : Int) ≤ s by omega)
        rw [Int.mul_add, Int.mul_one] at this
        omega
  have k2 : c - c % s + s ≤ e ↔ qc + 1 ≤ qe := by
    have t : c - c % s + s = s * (qc + 1) := by rw [Int.mul_add, Int.mul_one]; omega
    rw [t]
    constructor
    · intro h
      refine Int.not_lt.mp fun hn => ?_
      have := Int.mul_le_mul_of_nonneg_left (show qe ≤ qc by omega) (show (0 : Int) ≤ s by omega)
      have : s * (qc + 1) = s * qc + s := by rw [Int.mul_add, Int.mul_one]
      omega
    · intro h
      have := Int.mul_le_mul_of_nonneg_left h (show (0 : Int) ≤ s by omega)
      omega
  have hI : (if b ≤ c - c % s ∧ c - c % s < c ∧ c - c % s + s ≤ e ∧ c % s ≠ 0 then (1 : Int) else 0) = if c % s ≠ 0 ∧ C s b ≤ qc ∧ qc + 1 ≤ qe then 1 else 0 := by
    by_cases y : c % s ≠ 0 ∧ C s b ≤ qc ∧ qc + 1 ≤ qe
    · rw [if_pos y, if_pos ⟨k1.mpr y.2.1, by omega, k2.mpr y.2.2, y.1⟩]
    · rw [if_neg y, if_neg fun q => y ⟨q.2.2.2, k1.mp q.1, k2.mp q.2.2.1⟩]
  rw [hI]
  have hc3 : C s c = qc ∧ c % s = 0 ∨ C s c = qc + 1 ∧ c % s ≠ 0 := by
    by_cases z : c % s = 0
    · rw [if_pos z] at hCc
      exact .inl ⟨hCc, z⟩
    · rw [if_neg z] at hCc
      exact .inr ⟨hCc, z⟩
  clear hCc hCb k1 k2 hI
  generalize C s b = cb at *
  generalize C s c = cc at *
  rcases hc3 with ⟨rfl, z⟩ | ⟨rfl, z⟩
  · rw [if_neg (c := c % s ≠ 0 ∧ cb ≤ cc ∧ cc + 1 ≤ qe) fun q => q.1 z]
    split <;> split <;> split <;> omega
  · by_cases y : cb ≤ qc ∧ qc + 1 ≤ qe
    · rw [if_pos (c := c % s ≠ 0 ∧ cb ≤ qc ∧ qc + 1 ≤ qe) ⟨z, y.1, y.2⟩]
      split <;> split <;> split <;> omega
    · rw [if_neg (c := c % s ≠ 0 ∧ cb ≤ qc ∧ qc + 1 ≤ qe) fun q => y q.2]
      split <;> split <;> split <;> omega
end M15

set_option Elab.async false
set_option linter.all false
set_option maxRecDepth 100000
set_option maxHeartbeats 4000000
/-! Own layer: data of any depth, dicts among it, as repr shows it. -/
namespace Ex
open PySem PySem.Spec PyProof.Rows L2 Gu
mutual
inductive Dq (K : PySem.W.Frag) (H : Hp) : V → PyData → Prop
  | non : Dq K H .non .none
  | bl (b : Bool) : Dq K H (.bl b) (.bool b)
  | int (i : Int) : Dq K H (.int i) (.int i)
  | str (x : Str) : Dq K H (.str x) (.str x)
  | lst {a : Addr} {xs : List V} {ds : List PyData} : SqL K H a xs → DqAll K H xs ds → Dq K H (.ref a) (.list ds)
  | tup {a : Addr} {xs : List V} {ds : List PyData} : SqT K H a xs → DqAll K H xs ds → Dq K H (.ref a) (.tuple ds)
  | dct {a : Addr} {kvs : List (Key × V)} {ds : List (PyData × PyData)} : H a = some (.dK kvs) → DqAll K H (kvs.map fun p => kV p.1) (ds.map (·.1)) → DqAll K H (kvs.map (·.2)) (ds.map (·.2)) → Dq K H (.ref a) (.dict ds)
inductive DqAll (K : PySem.W.Frag) (H : Hp) : List V → List PyData → Prop
  | nil : DqAll K H [] []
  | cons {v : V} {vs : List V} {d : PyData} {ds : List PyData} : Dq K H v d → DqAll K H vs ds → DqAll K H (v :: vs) (d :: ds)
end
/-- the table of modules stands in the written part: no list lies there -/
def SysOk (K : PySem.W.Frag) : Prop := ∃ o, K.lookup sysModules = some o ∧ o.cls ≠ .type "list"
section
variable {X : Cx} {pins : List (Addr × Obj)} {σ : L2.St} {H : Hp} {s : Shared}
theorem key_rel {k : Key} {v : Value} (h : keyIs k v = true) : RelV (kV k) v := by
  rcases keyIs_shape h with ⟨i, t, rfl, rfl⟩ | ⟨x, t, rfl, rfl⟩
  · exact ⟨t, rfl⟩
  · exact ⟨t, rfl⟩
theorem not_sys {a : Addr} {o : Obj} (hs : SysOk X.K) (I : Inv X pins σ H s) (ho : s.heap.get? a = some o) (hc : o.cls = .type "list") : a ≠ sysModules := fun z => by
  obtain ⟨u, e, n⟩ := hs
  have h2 := I.kIn _ _ e
  rw [z, h2] at ho
  rw [Option.some.inj ho] at n
  exact n hc
theorem pairs_rel {es : List DictEntry} {vs : List (Key × Value)} (h : Pairs (mixKind X.prog X.w) es vs) : ∀ {kvs : List (Key × V)}, KV kvs vs → Vals (kvs.map fun p => kV p.1) (es.map (·.key)) ∧ Vals (kvs.map (·.2)) (es.map (·.val)) := by
  induction h with
  | nil =>
    intro kvs r
    cases r
    exact ⟨.nil, .nil⟩
  | @cons e kv es vs h1 h2 h3 ih =>
    intro kvs r
    cases r with
    | @cons p _ l _ r1 r2 =>
      obtain ⟨i1, i2⟩ := ih r2
      have k1 : RelV (kV p.1) e.key := by
        rw [r1.1]
        exact key_rel h1
      have k2 : RelV p.2 e.val := by
        rw [h2]
        exact r1.2
      exact ⟨.cons k1 i1, .cons k2 i2⟩
mutual
theorem Dq.reads (hs : SysOk X.K) (I : Inv X pins σ H s) : ∀ {v : V} {d : PyData}, Dq X.K H v d → ∀ u, RelV v u → ∃ as, Reads s.heap u d as ∧ sysModules ∉ as
  | _, _, .non, u, r => by
    cases r
    exact ⟨_, Reads.none, List.not_mem_nil⟩
  | _, _, .bl b, u, r => by
    cases r
    exact ⟨_, Reads.bool b, List.not_mem_nil⟩
  | _, _, .int i, u, r => by
    obtain ⟨t, rfl⟩ := r
    exact ⟨_, Reads.int i t, List.not_mem_nil⟩
  | _, _, .str x, u, r => by
    obtain ⟨t, rfl⟩ := r
    exact ⟨_, Reads.str x t, List.not_mem_nil⟩
  | _, _, .lst (a := a) hq ha, u, r => by
    cases r
    obtain ⟨its, rv, ⟨o, n, ho, hc, _, hd⟩, _⟩ := I.list hq
    obtain ⟨as, hr, na⟩ := Dq.readsAll hs I ha its rv
    refine ⟨_, Reads.list ho hc hd hr, fun hm => ?_⟩
    rcases List.mem_cons.mp hm with z | z
    · exact not_sys hs I ho hc z.symm
    · exact na z
  | _, _, .tup (a := a) hq ha, u, r => by
    cases r
    obtain ⟨its, rv, ⟨o, ho, hc, n, hd⟩, _⟩ := I.tuple hq
    obtain ⟨as, hr, na⟩ := Dq.readsAll hs I ha its rv
    exact ⟨_, Reads.tuple ho hc hd hr, na⟩
  | _, _, .dct (a := a) (kvs := kvs) hq h1 h2, u, r => by
    cases r
    obtain ⟨_, ns, vs, rk, o, es, ep, ho, hx, hd, _, hp, _⟩ := (show ObjOk X.prog X.w H s.heap a (.dK kvs) from I.hok a _ hq)
    obtain ⟨r1, r2⟩ := pairs_rel hp rk
    obtain ⟨as, q1, n1⟩ := Dq.readsAll hs I h1 _ r1
    obtain ⟨bs, q2, n2⟩ := Dq.readsAll hs I h2 _ r2
    refine ⟨_, Reads.dict ho hx.1 hd q1 q2, fun hm => ?_⟩
    rcases List.mem_append.mp hm with z | z
    · rcases List.mem_cons.mp z with z | z
      · rw [← z, beq_self_eq_true] at ns
        cases ns
      · exact n1 z
    · exact n2 z
theorem Dq.readsAll (hs : SysOk X.K) (I : Inv X pins σ H s) : ∀ {vs : List V} {ds : List PyData}, DqAll X.K H vs ds → ∀ us : List Value, Vals vs us → ∃ as, ReadsAll s.heap us ds as ∧ sysModules ∉ as
  | _, _, .nil, us, r => by
    cases r
    exact ⟨_, ReadsAll.nil, List.not_mem_nil⟩
  | _, _, .cons h1 h2, us, r => by
    cases r with
    | cons r1 r2 =>
      obtain ⟨as, q1, n1⟩ := Dq.reads hs I h1 _ r1
      obtain ⟨bs, q2, n2⟩ := Dq.readsAll hs I h2 _ r2
      refine ⟨_, ReadsAll.cons q1 q2, fun hm => ?_⟩
      rcases List.mem_append.mp hm with z | z
      · exact n1 z
      · exact n2 z
end
end
section
variable {X : Cx} {k : Nat}
/-- repr of any data -/
def rReprQ (K : PySem.W.Frag) : List V → Hp → VK → Prop := fun xs H Q => ∃ (v : V) (d : PyData), xs = [v] ∧ Dq K H v d ∧ d.showable = true ∧ d.depth ≤ 60 ∧ d.shown.length ≤ sizeLine ∧ Q (.str d.shown) H
theorem call_reprQ (hr : RoomG k X.A) (hs : SysOk X.K) : CallR X (.builtin "repr") (rReprQ X.K) := by
  intro pins s σ H xs us Q I r h
  obtain ⟨v, d, rfl, hd, hsh, hdep, hz, q⟩ := h
  obtain ⟨u, rfl, ru⟩ := vals1 r
  obtain ⟨as, rd, na⟩ := Dq.reads hs I hd u ru
  have hu := hr.r.units
  cases hd with
  | non =>
    cases ru
    exact PySem.P.repr_of_none ⟨.str _, H, I.tok _, ⟨_, rfl⟩, by simpa only [PyData.shown] using q⟩
  | bl b =>
    cases ru
    exact PySem.P.repr_of_bool ⟨.str _, H, I.tok _, ⟨_, rfl⟩, by simpa only [PyData.shown] using q⟩
  | int i =>
    obtain ⟨t, rfl⟩ := ru
    exact PySem.P.repr_of_int (by simpa [PyData.showable] using hsh) ⟨.str _, H, I.tok _, ⟨_, rfl⟩, by simpa only [PyData.shown] using q⟩
  | str x =>
    obtain ⟨t, rfl⟩ := ru
    exact PySem.P.repr_of_str ⟨.str _, H, I.tok _, ⟨_, rfl⟩, by simpa only [PyData.shown] using q⟩ (by simpa only [PyData.shown] using hz)
  | @lst a xs ds hq ha =>
    obtain rfl : u = Value.ref a := ru
    exact repr_of_reads' rd hsh (fun _ => na) hr.g (by omega) (fun _ _ e => e) (fun h' u tk hk => ⟨.str _, H, I.kept hk, ⟨u, rfl⟩, q⟩) hz
  | @tup a xs ds hq ha =>
    obtain rfl : u = Value.ref a := ru
    exact repr_of_reads' rd hsh (fun _ => na) hr.g (by omega) (fun _ _ e => e) (fun h' u tk hk => ⟨.str _, H, I.kept hk, ⟨u, rfl⟩, q⟩) hz
  | @dct a kvs ds hq h1 h2 =>
    obtain rfl : u = Value.ref a := ru
    exact repr_of_reads' rd hsh (fun _ => na) hr.g (by omega) (fun _ _ e => e) (fun h' u tk hk => ⟨.str _, H, I.kept hk, ⟨u, rfl⟩, q⟩) hz
/-- x is not True, x is not False, of any scalar -/
def rNotBA : R2 := fun x y H Q => ∃ b : Bool, y = .bl b ∧ ((∃ a : Bool, x = .bl a ∧ Q (.bl (!decide (a = b))) H) ∨ (∃ i : Int, x = .int i ∧ Q (.bl true) H))
theorem op_notBA : OpR X (compareOp .IsNot) rNotBA := by
  intro pins s σ H x y v u Q I rx ry h
  obtain ⟨b, rfl, h⟩ := h
  rcases h with ⟨a, rfl, q⟩ | ⟨i, rfl, q⟩
  · exact op_notBl pins s σ H _ _ v u Q I rx ry ⟨a, b, rfl, rfl, q⟩
  · cases (show u = Value.bool b from ry)
    obtain ⟨t, rfl⟩ := (show ∃ t, v = Value.int i t from rx)
    exact wpAny_isNot_other rfl (fun z => nomatch z) ⟨.bl true, H, I, rfl, q⟩
end
end Ex

set_option Elab.async false
set_option linter.all false
set_option maxRecDepth 100000
set_option maxHeartbeats 4000000
/-! Own layer: isinstance of a caught error that has a dict of its own; errors with fields, raised. -/
namespace Ex
open PySem PySem.Spec PySem.Calls PyProof.Rows L2 Gu
section
variable {prog : Program} {w : World} {A : Around} {E : Value → Shared → Prop} {s : Shared} {K : PySem.W.Frag} {x D : Addr} {ox od : Obj}
theorem class_of_exc {Q : Option Value → Shared → Prop} (c : ExcC K D) (X : K.In s.heap) (I : PySem.W.InstAt s.heap x ox D (some od)) (h : Q (some (.ref D)) { s with toks := s.toks + 1 }) :
    wpAny (model prog w) A (getAttr? (.ref x) "__class__") Q E s := by
  have found : PySem.W.findObj K D (some od) "__class__" = some (.bind (.builtin "getset_descriptor.__get__") (.builtin "object.__class__")) :=
    PySem.W.findObj_data (by obtain ⟨cd, e, _⟩ := PySem.W.any_some c.hd; rw [e]; rfl) c.ha c.hn c.ht
  obtain ⟨hp, g, d, t, os⟩ := s
  have lt := I.type (M := model prog w)
  have lg := PySem.W.looks_findIn (M := model prog w) X c.hg
  have lk := PySem.W.looks_findIn (M := model prog w) X c.hk
  have lf := PySem.W.looks_find (M := model prog w) X I found
  have other : (onTheHeap (Value.ref D) && Value.builtin "BaseException.__getattribute__" == Value.builtin "object.__getattribute__") = false := by
    rw [show (Value.builtin "BaseException.__getattribute__" == Value.builtin "object.__getattribute__") = false by decide +kernel]
    rfl
  unfold getAttr? getAttrBy? getAttrBy
  refine wpAny_bind (wpAny_mkText (wpAny_bind (wpAny_attempt (wpAny_holding (wpAny_bind (lt.at (wpAny_bind (lg.at ?own))))))))
  case own =>
    show wpAny _ _ (if (onTheHeap (Value.ref D) && Value.builtin "BaseException.__getattribute__" == Value.builtin "object.__getattribute__") = true then _ else _) _ _ _
    rw [other, if_neg Bool.false_ne_true]
    unfold getAttrByItsOwn hookBefore
    refine wpAny_bind ?_
    rw [if_pos (show onTheHeap (Value.ref D) = true from rfl)]
    refine lk.at (wpAny_bind (wpAny_attempt (wpAny_holding ?_)))
    unfold callGetattribute
    rw [show (false && onTheHeap (Value.builtin "BaseException.__getattribute__")) = false from rfl, if_neg Bool.false_ne_true]
    unfold boundAndCalled
    rw [PySem.F.excAttr_ValueError.ga.bind (.ref x)]
    refine wpAny_bind (wpAny_pure ?_)
    show wpAny _ _ (call (.builtin "BaseException.__getattribute__") [.ref x, .str "__class__" t]) _ _ _
    refine wpAny_call (codeAny_call_builtin PySem.F.excAttr_ValueError.ga.plain PySem.F.entry_bexc_ga
      (@PySem.W.check_slot (model prog w) _ _ ⟨hp, g, d, t + 1, os⟩ "BaseException.__getattribute__" "BaseException" "__getattribute__" (.ref x) [.str "__class__" t] [] _
        (by decide +kernel) (by decide +kernel) (lt.andThen (PySem.W.looks_subIn X c.hs)) (PySem.F.args_bexc_ga (.ref x) (.str "__class__" t)) ?_))
    unfold Builtin.«object.__getattribute__»
    refine wpAny_bind (wpAny_of_eq (a := ((Value.ref x : Value), [Value.str "__class__" t])) (by first | rfl | (simp only [slotArgs]; rfl)) (wpAny_bind (wpAny_pure (wpAny_bind (lt.at (wpAny_bind (lf.at ?_)))))))
    show wpAny _ _ (holding [Value.builtin "object.__class__"] (call (.builtin "getset_descriptor.__get__") [.builtin "object.__class__", .ref x, .ref D]) >>= ret) _ _ _
    refine wpAny_bind (wpAny_holding (wpAny_call (PySem.W.class_get (s := ⟨hp, g, d, t + 1, os⟩) (ox := ox) (od := some od) X I c.hm (wpAny_pure ?_))))
    show wpAny _ _ (handedOut (.ref D)) _ _ _
    rw [PySem.W.handedOut_of (v := .ref D) rfl]
    first
      | exact wpAny_pure (wpAny_pure h)
      | exact wpAny_pure h
      | exact wpAny_pure (wpAny_bind (wpAny_pure (wpAny_pure h)))
theorem kitx_exc (c : ExcC K D) : PySem.W.KitX K (.ref x) (.ref D) (fun h => PySem.W.InstAt h x ox D (some od)) where
  ty := fun _ _ _ I => I.type
  it := fun _ _ X _ => by
    obtain ⟨cd, e, _⟩ := PySem.W.any_some c.hd
    unfold PySem.W.clsIn at e
    split at e
    · rename_i ho
      exact fun A' Q' E' s' k q => by
        unfold isType loadHead
        exact wpAny_bind (wpAny_loadPart (k _ _ (X _ _ ho)) (wpAny_pure q))
    · cases e
  ne := fun h tp dd its n sl X htp => by
    obtain ⟨cd, e, _⟩ := PySem.W.any_some c.hd
    cases q : (Value.ref D == Value.ref tp) with
    | false => rfl
    | true =>
      have z : D = tp := Value.ref.inj (beq_iff_eq.mp q)
      rw [← z] at htp
      unfold PySem.W.clsIn at e
      split at e
      · rename_i ho
        have y := (X _ _ ho).symm.trans htp
        cases y
      · cases e
  ca := fun X I k => class_of_exc c X I k
end
section
variable {X : Cx} {a D : Addr} {oe : Obj} {d : Addr} {pn : List (Addr × Obj)}
/-- the caught error as the machine sees it -/
theorem inst_exc {pins : List (Addr × Obj)} {σ : L2.St} {H : Hp} {s : Shared} {fs : List (Str × V)} (I : Inv (X.suite a ((a, oe) :: pn)) pins σ H s) (hz : Zc (.ref D) (some d) oe) (hf : ∃ vs, oe.data = .fields vs) (hd : H d = some (.xd fs)) :
    ∃ od, PySem.W.InstAt s.heap a oe D (some od) := by
  obtain ⟨hget, _⟩ := I.pin (a, oe) (List.mem_append_left _ List.mem_cons_self)
  obtain ⟨vs, hv⟩ := hf
  obtain ⟨mA, hns, _⟩ := (show ObjOk X.prog X.w H s.heap d (.xd fs) from I.hok d _ hd)
  obtain ⟨od, ho, _⟩ := lookIn_ns hns
  exact ⟨od, hget, hz.1, by unfold PySem.W.notCls; rw [hv] <;> rfl, by rw [hz.2]; exact ho⟩
/-- isinstance(e, c) -/
def rIsX (K : PySem.W.Frag) (D a : Addr) (cls : Value) (d : Option Addr) : List V → Hp → VK → Prop := fun xs H Q => ∃ (c : V) (u : Value) (b : Bool) (dd : Addr) (fs : List (Str × V)), xs = [.ref a, c] ∧ cls = .ref D ∧ d = some dd ∧ ClsV c u ∧ H dd = some (.xd fs) ∧ PySem.W.kitOne K (.ref D) u = some b ∧ Q (.bl b) H
theorem call_isX {cls : Value} {d : Option Addr} (c : ExcC X.K D) (hz : Zc cls d oe) (hf : ∃ vs, oe.data = .fields vs) : CallR (X.suite a ((a, oe) :: pn)) (.builtin "isinstance") (rIsX X.K D a cls d) := by
  intro pins s σ H xs us Q I r h
  obtain ⟨cv, u, b, dd, fs, rfl, rfl, rfl, k, hd, e, q⟩ := h
  obtain ⟨u1, u2, rfl, r1, r2⟩ := vals2 r
  obtain rfl : u1 = Value.ref a := r1
  have e2 := k.eq r2
  subst e2
  obtain ⟨od, J⟩ := inst_exc I hz hf hd
  exact PySem.W.kia_one (kitx_exc c) I.kIn J e (fun z => nomatch z) fun tk => ⟨.bl b, H, I.tok tk, rfl, q⟩
/-- isinstance(e, (c1, c2, ..)) -/
def rIsXT (K : PySem.W.Frag) (D a : Addr) (cls : Value) (d : Option Addr) : List V → Hp → VK → Prop := fun xs H Q => ∃ (tp : Addr) (cs : List V) (us : List Value) (b : Bool) (dd : Addr) (fs : List (Str × V)), xs = [.ref a, .ref tp] ∧ cls = .ref D ∧ d = some dd ∧
  H tp = some (.tup cs) ∧ Paired ClsV cs us ∧ H dd = some (.xd fs) ∧ PySem.W.kitAny K (.ref D) us = some b ∧ Q (.bl b) H
theorem call_isXT {cls : Value} {d : Option Addr} (c : ExcC X.K D) (hz : Zc cls d oe) (hf : ∃ vs, oe.data = .fields vs) : CallR (X.suite a ((a, oe) :: pn)) (.builtin "isinstance") (rIsXT X.K D a cls d) := by
  intro pins s σ H xs us Q I r h
  obtain ⟨tp, cs, ws, b, dd, fs, rfl, rfl, rfl, hT, k, hd, e, q⟩ := h
  obtain ⟨u1, u2, rfl, r1, r2⟩ := vals2 r
  obtain rfl : u1 = Value.ref a := r1
  obtain rfl : u2 = Value.ref tp := r2
  obtain ⟨od, J⟩ := inst_exc I hz hf hd
  obtain ⟨_, its, rv, o, h1, h2, n, h3⟩ := (show ObjOk X.prog X.w H s.heap tp (.tup cs) from I.hok tp _ hT)
  have e3 := ClsV.all k rv
  subst e3
  obtain ⟨oc, odd, dt, sl⟩ := o
  simp only at h2 h3
  subst h2 h3
  exact PySem.W.kia_tup (kitx_exc c) I.kIn J h1 e (fun z => nomatch z) fun tk => ⟨.bl b, H, I.tok tk, rfl, q⟩
end
section
variable {X : Cx}
/-- repr of any data, also while an error is handled -/
theorem call_reprH (hg : X.A.guards = some []) (hu : X.A.units + 64 < cLine) (hs : SysOk X.K) : CallR X (.builtin "repr") (rReprQ X.K) := by
  intro pins s σ H xs us Q I r h
  obtain ⟨v, d, rfl, hd, hsh, hdep, hz, q⟩ := h
  obtain ⟨u, rfl, ru⟩ := vals1 r
  obtain ⟨as, rd, na⟩ := Dq.reads hs I hd u ru
  have viaRef : ∀ {a : Addr}, u = Value.ref a → wpAny (model X.prog X.w) X.A (call (.builtin "repr") [u]) (EP X pins σ Q) X.xe s := fun {a} e => by
    subst e
    exact repr_of_reads' rd hsh (fun _ => na) hg (by omega) (fun _ _ e => e) (fun h' u tk hk => ⟨.str _, H, I.kept hk, ⟨u, rfl⟩, q⟩) hz
  cases hd with
  | non =>
    cases ru
    exact PySem.P.repr_of_none ⟨.str _, H, I.tok _, ⟨_, rfl⟩, by simpa only [PyData.shown] using q⟩
  | bl b =>
    cases ru
    exact PySem.P.repr_of_bool ⟨.str _, H, I.tok _, ⟨_, rfl⟩, by simpa only [PyData.shown] using q⟩
  | int i =>
    obtain ⟨t, rfl⟩ := ru
    exact PySem.P.repr_of_int (by simpa [PyData.showable] using hsh) ⟨.str _, H, I.tok _, ⟨_, rfl⟩, by simpa only [PyData.shown] using q⟩
  | str x =>
    obtain ⟨t, rfl⟩ := ru
    exact PySem.P.repr_of_str ⟨.str _, H, I.tok _, ⟨_, rfl⟩, by simpa only [PyData.shown] using q⟩ (by simpa only [PyData.shown] using hz)
  | lst hq ha => exact viaRef ru
  | tup hq ha => exact viaRef ru
  | dct hq h1 h2 => exact viaRef ru
end
end Ex

set_option Elab.async false
set_option linter.all false
set_option maxRecDepth 100000
set_option maxHeartbeats 4000000
/-! Own layer: len(o) by an own __len__; what repr shows, within bounds; both law-free. -/
namespace Ex
open PySem PySem.Spec PySem.Calls PyProof.Rows L2 Gu
section
variable {X : Cx} {k j : Nat} {c : Str} {ps : List Str} {sp : Sp}
/-- len(o) by the class's own __len__ -/
def rLenO (C : Addr) (sp : Sp) : List V → Hp → VK → Prop := fun xs H Q => ∃ (a dx : Addr) (fs : List (Str × V)), xs = [.ref a] ∧ H a = some (.ins C dx fs) ∧ sp [.ref a] H (fun v H' => ∃ n : Nat, v = .int n ∧ n ≤ sizeLine ∧ Q (.int n) H') E0
theorem call_lenO (D : Mf X.prog X.w X.K X.mg X.base k c "__len__" ps sp) (hr : Room j X.A) (hj : k + 1 ≤ j := by decide) : CallR X (.builtin "len") (rLenO (He.ga X.K c) sp) := by
  intro pins s σ H xs us Q I r h
  obtain ⟨a, dx, fs, rfl, ha, hq⟩ := h
  obtain ⟨u, rfl, ru⟩ := vals1 r
  obtain rfl : u = Value.ref a := ru
  obtain ⟨fd, F, b⟩ := D.ex
  obtain ⟨mA, J, _⟩ := ins_get I.hok ha
  obtain ⟨od, J, _⟩ := J.look
  have rm : Room k X.A.in1 := (hr.mono hj).in1
  refine Calls.call_function_entry kind_len plain_len entry_len (args_len1 _) ?_
  unfold Builtin.«len»
  refine wpAny_bind (m := oneArg "len" _) (wpAny_pure ?_)
  refine wpAny_bind (m := callSpecial? (.ref a) (Str.ofString "__len__")) (PySem.W.special_fn (name := Str.ofString "__len__") (args := []) I.kIn J D.me.at_ (beq_iff_eq.mp D.me.fn) ?_)
  have e0 : Env0 X.prog X.w X.K X.mg X.base X.A.in1 X.stack s H := by
    have e := I.env0
    exact ⟨e.frames, e.mod, e.bs, e.bsz, e.funs, e.frf, e.hok, e.bare⟩
  have hl := F.len _ _ _ _ hq
  refine wpAny_call (codeAny_mono (F.run X.A.in1 X.stack s H ⟨[.ref a], []⟩ [.ref a] [.ref a] _ E0 rm e0 (by
    have := b s [.ref a] I.kIn (by simpa using hl)
    simpa using this) (.cons rfl .nil) hq) fun r s' hq' => ?_)
  match r, hq' with
  | .ok (.ret u), hq' =>
    obtain ⟨v, H', I', rv, n, rfl, hn, q⟩ := I.after hq'
    obtain ⟨t, rfl⟩ := rv
    have hs : sizeLine = 16777216 := sizeLine_eq
    refine wpAny_bind (wpAny_holding (wpAny_pure ?_))
    refine wpAny_bind (wpAny_letGo ?_)
    show wpAny _ _ (if ((n : Nat) : Int) < 0 then _ else _) _ _ _
    rw [if_neg (by omega)]
    show wpAny _ _ (if ((n : Nat) : Int) ≥ 2 ^ 63 then _ else _) _ _ _
    rw [if_neg (by omega)]
    exact wpAny_bind (wpAny_mkInt (wpAny_pure ⟨_, rfl, ⟨.int n, H', I'.tok _, ⟨_, rfl⟩, q⟩⟩))
end
theorem seqT {K : PySem.W.Frag} {H H' : Hp} {a : Addr} {xs : List V} (e : Same H H') (h : SqT K H a xs) : SqT K H' a xs := by
  rcases h with (h | ⟨o, h⟩) | h
  · exact .inl (.inl (e _ _ h))
  · exact .inl (.inr ⟨o, e _ _ h⟩)
  · exact .inr h
mutual
theorem dq_same {K : PySem.W.Frag} {H H' : Hp} (e : Same H H') : ∀ {v : V} {d : PyData}, Dq K H v d → Dq K H' v d
  | _, _, .non => .non
  | _, _, .bl b => .bl b
  | _, _, .int i => .int i
  | _, _, .str x => .str x
  | _, _, .lst hq ha => .lst (e.seq hq) (dqAll_same e ha)
  | _, _, .tup hq ha => .tup (seqT e hq) (dqAll_same e ha)
  | _, _, .dct hq h1 h2 => .dct (e _ _ hq) (dqAll_same e h1) (dqAll_same e h2)
theorem dqAll_same {K : PySem.W.Frag} {H H' : Hp} (e : Same H H') : ∀ {vs : List V} {ds : List PyData}, DqAll K H vs ds → DqAll K H' vs ds
  | _, _, .nil => .nil
  | _, _, .cons h1 h2 => .cons (dq_same e h1) (dqAll_same e h2)
end
/-- a value as repr shows it: nested at most n deep, at most m signs -/
structure Tq (K : PySem.W.Frag) (H : Hp) (v : V) (d : PyData) (n m : Nat) : Prop where
  dq : Dq K H v d
  sh : d.showable = true
  dp : d.depth ≤ n
  ln : d.shown.length ≤ m
structure TqAll (K : PySem.W.Frag) (H : Hp) (xs : List V) (ds : List PyData) (n m : Nat) : Prop where
  dq : DqAll K H xs ds
  sh : PyData.showableAll ds = true
  dp : PyData.depthAll ds ≤ n
  ln : ((PyData.shownAll ds).map (·.length)).sum + 2 * (PyData.shownAll ds).length ≤ xs.length * (m + 2)
section
variable {K : PySem.W.Frag} {H H' : Hp} {n m : Nat}
theorem Tq.same {v : V} {d : PyData} (t : Tq K H v d n m) (e : Same H H') : Tq K H' v d n m := ⟨dq_same e t.dq, t.sh, t.dp, t.ln⟩
theorem Tq.mono {v : V} {d : PyData} {n' m' : Nat} (t : Tq K H v d n m) (h1 : n ≤ n') (h2 : m ≤ m') : Tq K H v d n' m' := ⟨t.dq, t.sh, Nat.le_trans t.dp h1, Nat.le_trans t.ln h2⟩
theorem TqAll.same {xs : List V} {ds : List PyData} (t : TqAll K H xs ds n m) (e : Same H H') : TqAll K H' xs ds n m := ⟨dqAll_same e t.dq, t.sh, t.dp, t.ln⟩
theorem tq_all : ∀ {xs : List V}, (∀ v ∈ xs, ∃ d, Tq K H v d n m) → ∃ ds, TqAll K H xs ds n m
  | [], _ => ⟨[], .nil, rfl, Nat.zero_le _, Nat.zero_le _⟩
  | v :: xs, h => by
    obtain ⟨d, t⟩ := h v List.mem_cons_self
    obtain ⟨ds, a, b, c, e⟩ := tq_all (xs := xs) fun u hu => h u (List.mem_cons_of_mem _ hu)
    refine ⟨d :: ds, .cons t.dq a, ?_, ?_, ?_⟩
    · show (d.showable && PyData.showableAll ds) = true
      rw [t.sh, b]
      rfl
    · show max d.depth (PyData.depthAll ds) ≤ n
      have := t.dp
      omega
    · show (d.shown.length + ((PyData.shownAll ds).map (·.length)).sum) + 2 * ((PyData.shownAll ds).length + 1) ≤ (xs.length + 1) * (m + 2)
      have := t.ln
      rw [Nat.add_mul, Nat.one_mul]
      omega
theorem TqAll.lst {a : Addr} {xs : List V} {ds : List PyData} (t : TqAll K H xs ds n m) (h : H a = some (.lst xs)) : Tq K H (.ref a) (.list ds) (n + 1) (xs.length * (m + 2) + 3) := by
  refine ⟨.lst (SqL.of h) t.dq, t.sh, ?_, ?_⟩
  · show PyData.depthAll ds + 1 ≤ n + 1
    have := t.dp
    omega
  · have e := listText_len_le (PyData.shownAll ds)
    show (listText (PyData.shownAll ds)).length ≤ _
    have := t.ln
    omega
theorem TqAll.tup {a : Addr} {xs : List V} {ds : List PyData} (t : TqAll K H xs ds n m) (h : H a = some (.tup xs)) : Tq K H (.ref a) (.tuple ds) (n + 1) (xs.length * (m + 2) + 3) := by
  refine ⟨.tup (SqT.of h) t.dq, t.sh, ?_, ?_⟩
  · show PyData.depthAll ds + 1 ≤ n + 1
    have := t.dp
    omega
  · have e := tupleText_len_le (PyData.shownAll ds)
    show (tupleText (PyData.shownAll ds)).length ≤ _
    have := t.ln
    omega
theorem tq_non : Tq K H .non .none 0 41 := ⟨.non, rfl, Nat.le_refl _, by decide +kernel⟩
theorem tq_bl (b : Bool) : Tq K H (.bl b) (.bool b) 0 41 := ⟨.bl b, rfl, Nat.le_refl _, by cases b <;> decide +kernel⟩
theorem tq_int {i : Int} (h1 : -(10 ^ 39) ≤ i) (h2 : i ≤ 10 ^ 39) : Tq K H (.int i) (.int i) 0 41 := by
  have b39 : (10 : Int) ^ 39 = 1000000000000000000000000000000000000000 := by decide
  have e : i.natAbs < 10 ^ 40 := by
    have z : (10 : Nat) ^ 40 = 10000000000000000000000000000000000000000 := by decide
    omega
  have a : i.natAbs.log2 < 1920 := Nat.lt_of_lt_of_le (PySem.Flt.log2_lt_of (k := 200) (by decide) (Nat.lt_trans e (by decide))) (by decide)
  refine ⟨.int i, decide_eq_true a, Nat.le_refl _, ?_⟩
  have z := int_text_length_le10 (k := 40) (by decide) e
  show (Str.ofString (toString i)).length ≤ 41
  rw [PySem.ofString_length]
  exact z
theorem tq_text (z : String) (h : (reprText (Str.ofString z)).length ≤ 41) : Tq K H (.str (Str.ofString z)) (.str (Str.ofString z)) 0 41 := ⟨.str _, rfl, Nat.le_refl _, h⟩
theorem tq_dct {a : Addr} (h : H a = some (.dK [])) : Tq K H (.ref a) (.dict []) 1 41 := ⟨.dct h .nil .nil, rfl, by decide, by decide +kernel⟩
end
theorem code_lt {z : String} {c : Nat} (hc : c ∈ (Str.ofString z).cps.toList) : c < 1114112 := by
  have hc2 : c ∈ z.toList.map Char.toNat := by
    rw [← cpsOfBytes_string]
    simpa [Str.ofString] using hc
  obtain ⟨ch, _, rfl⟩ := List.mem_map.mp hc2
  have v : ch.val.toNat < 55296 ∨ (57343 < ch.val.toNat ∧ ch.val.toNat < 1114112) := ch.valid
  show ch.val.toNat < 1114112
  omega
/-- repr of such a value -/
theorem repr_tq {K : PySem.W.Frag} {H : Hp} {v : V} {d : PyData} {n m : Nat} {Q : VK} (t : Tq K H v d n m) (q : Q (.str d.shown) H) (hn : n ≤ 60 := by decide) (hm : m ≤ sizeLine := by decide) : rReprQ K [v] H Q :=
  ⟨v, d, rfl, t.dq, t.sh, Nat.le_trans t.dp hn, Nat.le_trans t.ln hm, q⟩
end Ex

set_option Elab.async false
set_option linter.all false
set_option maxRecDepth 100000
set_option maxHeartbeats 4000000
/-! Own layer: range(a, b, c) of any whole numbers a, b and a step from 1 to 2^30; a comprehension over it. -/
namespace Ex
open PySem PySem.Spec PyProof.Rows L2 Gu
theorem turn_longC {P : Program} {w : World} {K : PySem.W.Frag} {tg : Expr} (it : Addr) (lo c : Int) (n : Nat) :
    Turn P w K tg (Itc lo c n) [it] it (fun i h => IsLongIter h it (lo + (i : Nat) * c) ((n : Int) - (i : Nat)) c) where
  mem := List.mem_singleton.mpr rfl
  obj := fun i h st b hb => by
    obtain rfl := List.mem_singleton.mp hb
    exact ⟨_, st, fun v z => nomatch (show Data.fields _ = Data.cell v from z)⟩
  keep := fun i h h' st k => k it (List.mem_singleton.mpr rfl) _ st
  item := by
    rintro X rfl rfl rfl hc i pins s σ H E I hf st hg
    obtain ⟨f0, f1, f2, f3, f4, f5⟩ := hf it (List.mem_singleton.mpr rfl)
    refine (Walks.longrange (prog := X.prog) (w := X.w) (I.ok.hd hc) it lo c n).item i s _ _ hg st fun v h' tk hv st' kk => ?_
    obtain ⟨t, rfl⟩ := hv
    have J : Inv X pins σ H { s with heap := h', toks := tk } := I.turned (fun b o hb e => kk b o (fun z => hb (List.mem_singleton.mp z)) e) f0 f1 f3 f4 f5
    exact ⟨_, rfl, go_of (s := { s with heap := h', toks := tk }) (n := "longrange_iterator") st' rfl rfl (by decide) ⟨.int (lo + (i : Nat) * c), H, J, ⟨t, rfl⟩, ⟨rfl, rfl⟩, st', fun b hb => (hf b hb).1⟩⟩
  done := by
    rintro X rfl rfl rfl hc i pins s σ H E I hf st hg
    obtain ⟨f0, f1, f2, f3, f4, f5⟩ := hf it (List.mem_singleton.mpr rfl)
    have hn : n ≤ i := hg
    exact wpAny_pyNext_long_end (I.ok.hd hc) st (by omega) fun h' eb => ⟨rfl, I.turned (t' := s.toks) (fun b o hb e => eb b o hb e) f0 f1 f3 f4 f5⟩
  self := fun _ _ _ _ _ st h => wpAny_pyIter_longiter st h
section
variable {X : Cx} {tg : Expr}
theorem range_anyC {pins : List (Addr × Obj)} {σ : L2.St} {H : Hp} {s : Shared} {R : It → Hp → Prop} {E : Value → Shared → Prop} {lo hi c : Int} {t u v : Tok} {tk : Nat} (I : Inv X pins σ H s) (q : R (Itc lo c (Builtin.Range.rangeSize lo hi c).toNat) H) :
    wpAny (model X.prog X.w) X.A (pyIter (.ref s.heap.objs.size)) (PIE X pins σ tg R) E { s with heap := s.heap.push { cls := .type "range", data := .fields #[.int lo t, .int hi u, .int c v] }, toks := tk } := by
  have J : Inv X pins σ H { s with heap := s.heap.push { cls := .type "range", data := .fields #[.int lo t, .int hi u, .int c v] }, toks := tk } := I.kept fun b o e => Heap.get?_push_of_some _ e
  have e1 : lo + ((0 : Nat) : Int) * c = lo := by simp
  have e2 : (((Builtin.Range.rangeSize lo hi c).toNat : Nat) : Int) - ((0 : Nat) : Int) = Builtin.Range.rangeSize lo hi c := by
    rw [← rangeSize_toNat]
    simp
  have fr : ∀ b ∈ [(s.heap.push { cls := .type "range", data := .fields #[.int lo t, .int hi u, .int c v] }).objs.size], _ := fun b hb => by
    obtain rfl := List.mem_singleton.mp hb
    exact J.fpOk (Nat.le_refl _) (J.hok.fresh (Nat.le_refl _))
  cases hs : Builtin.Range.small lo hi c with
  | true =>
    refine wpAny_pyIter_range (IsRange.new ..) hs ⟨_, [_], _, _, H, rfl, J.kept (t' := tk) fun b o e => Heap.get?_push_of_some _ e, turn_rangeC _ lo c (Builtin.Range.rangeSize lo hi c).toNat, ?_, fr, q⟩
    show IsRangeIter _ _ (lo + ((0 : Nat) : Int) * c) ((((Builtin.Range.rangeSize lo hi c).toNat : Nat) : Int) - ((0 : Nat) : Int)) c
    rw [e1, e2]
    exact Heap.get?_push_size _ rfl
  | false =>
    refine wpAny_pyIter_longrange (IsRange.new ..) hs ⟨_, [_], _, _, H, rfl, J.kept (t' := tk) fun b o e => Heap.get?_push_of_some _ e, turn_longC _ lo c (Builtin.Range.rangeSize lo hi c).toNat, ?_, fr, q⟩
    show IsLongIter _ _ (lo + ((0 : Nat) : Int) * c) ((((Builtin.Range.rangeSize lo hi c).toNat : Nat) : Int) - ((0 : Nat) : Int)) c
    rw [e1, e2]
    exact Heap.get?_push_size _ rfl
/-- how many turns range(i, j, c) has -/
def stepsN (i j c : Int) : Nat := (Builtin.Range.rangeSize i j c).toNat
def iRngS (ta : TA) : TI := fun σ H R => ta σ H fun vs H1 => ∃ i j c : Int, vs = [.int i, .int j, .int c] ∧ 1 ≤ c ∧ c < 1073741824 ∧ R (Itc i c (stepsN i j c)) H1
theorem pi_rangeS {a b c : Expr} {ta : TA} {p pos : Pos} (hg : Gl X "range") (hm : X.mg "range" = none) (ha : PA X [a, b, c] ta)
    (hs : starEach [a, b, c] X.env = (false, eval a X.env) :: starEach [b, c] X.env := by rfl) (hpl : (backTo pos (starEach [b, c] X.env)).any (·.1) = false := by rfl) :
    PI X tg (.Call (.Name "range" p) [a, b, c] [] pos) (iRngS ta) := by
  refine ⟨fun pins s σ H R I h => ?_⟩
  refine Call_ (ld_blt I hg hm boot_range (PyProof.Rows.callWith_type1 (thn (ha.run pos pins s σ H _ I h) fun us s1 ⟨vs, H1, I1, r1, q1⟩ => ?_) hs hpl))
  obtain ⟨i, j, k, e, c0, c1, q⟩ := q1
  subst e
  cases r1 with
  | cons r rr =>
    cases rr with
    | cons r' rr =>
      cases rr with
      | cons r'' rr =>
        cases rr
        obtain ⟨t, rfl⟩ := r
        obtain ⟨t', rfl⟩ := r'
        obtain ⟨t'', rfl⟩ := r''
        exact call_range_3 (by omega) (range_anyC (tk := s1.toks) I1 q) (.inl (PyProof.noPylong_small (by omega)))
end
theorem steps_le {i j c : Int} (hc : 1 ≤ c) (h : j - i ≤ 100) : stepsN i j c ≤ 100 := by
  unfold stepsN Builtin.Range.rangeSize
  rw [if_pos (by omega)]
  split
  · have h1 := Int.ediv_le_self c (show (0 : Int) ≤ j - i - 1 by omega)
    omega
  · decide
/-- the turns reach every step below the end, and no other -/
theorem steps_lt {i j c : Int} (hc : 1 ≤ c) (n : Nat) : n < stepsN i j c ↔ i + (n : Int) * c < j := by
  unfold stepsN Builtin.Range.rangeSize
  rw [if_pos (by omega)]
  by_cases hij : i < j
  · rw [if_pos hij]
    have d0 : 0 ≤ (j - i - 1) / c := Int.ediv_nonneg (by omega) (by omega)
    have e1 := Int.mul_ediv_add_emod (j - i - 1) c
    have e2 := Int.emod_nonneg (j - i - 1) (show c ≠ 0 by omega)
    have e3 := Int.emod_lt_of_pos (j - i - 1) (show 0 < c by omega)
    generalize (j - i - 1) / c = q at *
    constructor
    · intro h
      have h2 : (n : Int) ≤ q := by omega
      have h3 := Int.mul_le_mul_of_nonneg_left h2 (show 0 ≤ c by omega)
      have h4 : (n : Int) * c = c * n := Int.mul_comm _ _
      omega
    · intro h
      have h4 : (n : Int) * c = c * n := Int.mul_comm _ _
      have h2 : (n : Int) ≤ q := by
        refine Int.not_lt.mp fun z => ?_
        have h3 := Int.mul_le_mul_of_nonneg_left (show q + 1 ≤ (n : Int) by omega) (show 0 ≤ c by omega)
        rw [Int.mul_add, Int.mul_one] at h3
        omega
      omega
  · rw [if_neg hij]
    have : 0 ≤ (n : Int) * c := Int.mul_nonneg (by omega) (by omega)
    constructor
    · intro h
      have : n < (0 : Int).toNat := h
      exact absurd this (Nat.not_lt_zero _)
    · intro h
      omega
/-- a comprehension over such a range -/
theorem lc_rangeC {lo c : Int} {n : Nat} {g : TG} {tt : TT} {te : TE} {vs : List Nat} {σ : L2.St} {H1 : Hp} {D : Addr} {Qd : Hp → Prop} (Pv : Nat → Hp → Prop) (h0 : Pv 0 (upd H1 D (.lst [])))
    (hs : ∀ i H, i < n → Pv i H → g (.int (lo + (i : Nat) * c)) (wipe σ vs) H fun σ2 H2 => wipe σ2 vs = wipe σ vs ∧ tt σ2 H2 fun b H3 =>
      if b = true then te σ2 H3 fun y H4 => ∃ acc, H4 D = some (.lst acc) ∧ acc.length < sizeLine ∧ Pv (i + 1) (upd H4 D (.lst (acc ++ [y]))) else Pv (i + 1) H3) (hd : ∀ H, Pv n H → Qd H) :
    ∃ W : Nat → Nat → Hp → Prop, (∃ m, W 0 m (upd H1 D (.lst []))) ∧ ∀ i m H, W i m H →
      ((Itc lo c n).stop i H ∧ Qd H) ∨ ((Itc lo c n).go i H ∧ ∃ Nx : Hp → Prop, (∀ H', Nx H' → ∃ m', m' < m ∧ W (i + 1) m' H') ∧ ∀ x H', (Itc lo c n).yld i H x H' → g x (wipe σ vs) H' fun σ2 H2 => wipe σ2 vs = wipe σ vs ∧ tt σ2 H2 fun b H3 =>
        if b = true then te σ2 H3 fun y H4 => ∃ acc, H4 D = some (.lst acc) ∧ acc.length < sizeLine ∧ Nx (upd H4 D (.lst (acc ++ [y]))) else Nx H3) := by
  refine ⟨fun i m H => m = n - i ∧ i ≤ n ∧ Pv i H, ⟨n, by simp, Nat.zero_le _, h0⟩, ?_⟩
  rintro i m H ⟨rfl, hi, p⟩
  by_cases hlt : i < n
  · refine .inr ⟨hlt, Pv (i + 1), fun H' p' => ⟨n - (i + 1), by omega, rfl, hlt, p'⟩, fun x H' y => ?_⟩
    obtain ⟨e, y⟩ := y
    subst e y
    exact hs i _ hlt p
  · have e : i = n := by omega
    subst e
    exact .inl ⟨Nat.le_refl _, hd H p⟩
end Ex

set_option Elab.async false
set_option linter.all false
/-! The mathematics of maximal regions: sizes that divide each other, a range from lo to hi. -/
namespace M16
structure Ch (s : Nat → Int) (m : Nat) : Prop where
  m1 : 1 ≤ m
  one : s 0 = 1
  pos : ∀ k, k < m → 1 ≤ s k
  dv : ∀ k, k + 1 < m → s k ∣ s (k + 1)
theorem Ch.dvd {s : Nat → Int} {m : Nat} (c : Ch s m) {j : Nat} : ∀ {k : Nat}, j ≤ k → k < m → s j ∣ s k
  | 0, h, _ => by
    rw [show j = 0 by omega]
    exact Int.dvd_refl _
  | k + 1, h, hk => by
    by_cases e : j = k + 1
    · rw [e]
      exact Int.dvd_refl _
    · exact Int.dvd_trans (Ch.dvd c (show j ≤ k by omega) (by omega)) (c.dv k hk)
theorem gap {z q e : Int} (h1 : z ∣ q) (h2 : z ∣ e) (h : q < e) : q + z ≤ e := by
  have := Int.le_of_dvd (by omega) (Int.dvd_sub h2 h1)
  omega
theorem mod0 {z x : Int} (h : z ∣ x) : x % z = 0 := Int.emod_eq_zero_of_dvd h
theorem dvd0 {z x : Int} (h : x % z = 0) : z ∣ x := Int.dvd_of_emod_eq_zero h
theorem fl_dvd (z x : Int) : z ∣ x - x % z := ⟨x / z, by have := Int.mul_ediv_add_emod x z; omega⟩
theorem fl_le {z : Int} (x : Int) (hz : 1 ≤ z) : x - x % z ≤ x := by
  have := Int.emod_nonneg x (show z ≠ 0 by omega)
  omega
theorem fl_lt {z : Int} (x : Int) (hz : 1 ≤ z) : x < x - x % z + z := by
  have := Int.emod_lt_of_pos x (show 0 < z by omega)
  omega
theorem fl_eq {z q x : Int} (hz : 1 ≤ z) (h : z ∣ q) (h1 : q ≤ x) (h2 : x < q + z) : x - x % z = q := by
  have a := fl_le x hz
  have b := fl_lt x hz
  have d := fl_dvd z x
  rcases Int.lt_trichotomy (x - x % z) q with e | e | e
  · have := gap d h e
    omega
  · exact e
  · have := gap h d e
    omega
theorem fl_ge {z q x : Int} (hz : 1 ≤ z) (h : z ∣ q) (h1 : q ≤ x) : q ≤ x - x % z := by
  have b := fl_lt x hz
  refine Int.not_lt.mp fun e => ?_
  have := gap (fl_dvd z x) h e
  omega
/-- the least multiple from a on -/
def nx (z a : Int) : Int := -(-a / z) * z
theorem nx_is (z a : Int) : nx z a = a + (-a) % z := by
  have e := Int.mul_ediv_add_emod (-a) z
  have h : nx z a = -(z * (-a / z)) := by
    unfold nx
    rw [Int.neg_mul, Int.mul_comm]
  omega
theorem nx_dvd (z a : Int) : z ∣ nx z a := ⟨-(-a / z), by unfold nx; rw [Int.mul_comm]⟩
theorem nx_ge {z : Int} (a : Int) (hz : 1 ≤ z) : a ≤ nx z a := by
  have := Int.emod_nonneg (-a) (show z ≠ 0 by omega)
  rw [nx_is]
  omega
theorem nx_lt {z : Int} (a : Int) (hz : 1 ≤ z) : nx z a < a + z := by
  have := Int.emod_lt_of_pos (-a) (show 0 < z by omega)
  rw [nx_is]
  omega
theorem nx_least {z a q : Int} (hz : 1 ≤ z) (h : z ∣ q) (ha : a ≤ q) : nx z a ≤ q := by
  refine Int.not_lt.mp fun e => ?_
  have := gap h (nx_dvd z a) e
  have := nx_lt a hz
  omega
theorem nx_self {z a : Int} (hz : 1 ≤ z) (h : z ∣ a) : nx z a = a := by
  have := nx_ge a hz
  have := nx_least hz h (Int.le_refl a)
  omega
/-- count_regions is positive just if the first region ends by b -/
theorem cnt_pos {z a b : Int} (hz : 1 ≤ z) : 0 < ((b - b % z) - nx z a) / z ↔ nx z a + z ≤ b := by
  have h : (1 : Int) ≤ ((b - b % z) - nx z a) / z ↔ 1 * z ≤ (b - b % z) - nx z a := Int.le_ediv_iff_mul_le (by omega)
  rw [Int.one_mul] at h
  have l := fl_le b hz
  constructor
  · intro k
    have := h.mp (by omega)
    omega
  · intro k
    have d : z ∣ nx z a + z := Int.dvd_add (nx_dvd z a) (Int.dvd_refl z)
    have := fl_ge hz d k
    have := h.mpr (by omega)
    omega
section
variable (s : Nat → Int) (m : Nat) (hi : Int)
def Lies (a : Int) (k : Nat) : Prop := a % s k = 0 ∧ a + s k ≤ hi
instance (a : Int) (k : Nat) : Decidable (Lies s hi a k) := inferInstanceAs (Decidable (a % s k = 0 ∧ a + s k ≤ hi))
/-- the highest level of a region at a, sought from n down -/
def lev (a : Int) : Nat → Nat
  | 0 => 0
  | n + 1 => if Lies s hi a (n + 1) then n + 1 else lev a n
def L (a : Int) : Nat := lev s hi a (m - 1)
def en (a : Int) : Int := if L s m hi a + 1 < m ∧ nx (s (L s m hi a + 1)) a + s (L s m hi a + 1) ≤ hi then nx (s (L s m hi a + 1)) a else hi - hi % s (L s m hi a)
/-- no region that lies in the range goes across a -/
def B (lo a : Int) : Prop := ∀ j, j < m → a % s j ≠ 0 → ¬ (lo ≤ a - a % s j ∧ a - a % s j + s j ≤ hi)
abbrev Run : Type := Nat × Int × Int
def run (a : Int) : Run := (L s m hi a, a, (en s m hi a - a) / s (L s m hi a))
def lay : Nat → Int → List Run
  | 0, _ => []
  | n + 1, a => if a < hi then run s m hi a :: lay n (en s m hi a) else []
def R (a : Int) : List Run := lay s m hi (hi - a).toNat a
end
section
variable {s : Nat → Int} {m : Nat} {hi a lo : Int}
theorem lev_le : ∀ n, lev s hi a n ≤ n
  | 0 => Nat.le_refl _
  | n + 1 => by
    show (if Lies s hi a (n + 1) then n + 1 else lev s hi a n) ≤ n + 1
    split
    · exact Nat.le_refl _
    · have := lev_le n
      omega
theorem lev_lies (h0 : Lies s hi a 0) : ∀ n, Lies s hi a (lev s hi a n)
  | 0 => h0
  | n + 1 => by
    show Lies s hi a (if Lies s hi a (n + 1) then n + 1 else lev s hi a n)
    split
    · assumption
    · exact lev_lies h0 n
theorem lev_max : ∀ n j, j ≤ n → lev s hi a n < j → ¬ Lies s hi a j
  | 0, j, h, h2 => by
    have : lev s hi a 0 = 0 := rfl
    omega
  | n + 1, j, h, h2 => by
    have e : lev s hi a (n + 1) = if Lies s hi a (n + 1) then n + 1 else lev s hi a n := rfl
    by_cases hl : Lies s hi a (n + 1)
    · rw [e, if_pos hl] at h2
      omega
    · rw [e, if_neg hl] at h2
      by_cases ej : j = n + 1
      · rw [ej]
        exact hl
      · exact lev_max n j (by omega) h2
theorem lies0 (c : Ch s m) (h : a < hi) : Lies s hi a 0 := by
  unfold Lies
  rw [c.one]
  exact ⟨Int.emod_one a, by omega⟩
theorem L_lt (c : Ch s m) : L s m hi a < m := by
  have := lev_le (s := s) (hi := hi) (a := a) (m - 1)
  have := c.m1
  show lev s hi a (m - 1) < m
  omega
theorem L_lies (c : Ch s m) (h : a < hi) : Lies s hi a (L s m hi a) := lev_lies (lies0 c h) _
theorem L_max (c : Ch s m) {j : Nat} (hj : j < m) (h : L s m hi a < j) : ¬ Lies s hi a j := lev_max (m - 1) j (by omega) h
theorem lies_down (c : Ch s m) {j k : Nat} (h : j ≤ k) (hk : k < m) (x : Lies s hi a k) : Lies s hi a j := by
  have d := c.dvd h hk
  have p := c.pos k hk
  have l := Int.le_of_dvd (by omega) d
  exact ⟨mod0 (Int.dvd_trans d (dvd0 x.1)), by have := x.2; omega⟩
theorem en1 (c1 : L s m hi a + 1 < m ∧ nx (s (L s m hi a + 1)) a + s (L s m hi a + 1) ≤ hi) : en s m hi a = nx (s (L s m hi a + 1)) a := if_pos c1
theorem en2 (c2 : ¬ (L s m hi a + 1 < m ∧ nx (s (L s m hi a + 1)) a + s (L s m hi a + 1) ≤ hi)) : en s m hi a = hi - hi % s (L s m hi a) := if_neg c2
theorem en_gt (c : Ch s m) (h : a < hi) : a < en s m hi a := by
  have hl := L_lies c h
  have hm := L_lt (a := a) (hi := hi) c
  by_cases c1 : L s m hi a + 1 < m ∧ nx (s (L s m hi a + 1)) a + s (L s m hi a + 1) ≤ hi
  · rw [en1 c1]
    have z := c.pos _ c1.1
    have g := nx_ge a z
    refine Int.not_le.mp fun hle => ?_
    have e : a = nx (s (L s m hi a + 1)) a := by omega
    refine L_max c c1.1 (Nat.lt_succ_self _) ⟨mod0 ?_, ?_⟩
    · have d := nx_dvd (s (L s m hi a + 1)) a
      rw [← e] at d
      exact d
    · have := c1.2
      rw [← e] at this
      exact this
  · rw [en2 c1]
    have z := c.pos _ hm
    have := fl_ge (x := hi) z (Int.dvd_add (dvd0 hl.1) (Int.dvd_refl _)) hl.2
    omega
theorem en_le (c : Ch s m) : en s m hi a ≤ hi := by
  by_cases c1 : L s m hi a + 1 < m ∧ nx (s (L s m hi a + 1)) a + s (L s m hi a + 1) ≤ hi
  · rw [en1 c1]
    have := c.pos _ c1.1
    have := c1.2
    omega
  · rw [en2 c1]
    exact fl_le hi (c.pos _ (L_lt c))
theorem en_dvd (c : Ch s m) : s (L s m hi a) ∣ en s m hi a := by
  by_cases c1 : L s m hi a + 1 < m ∧ nx (s (L s m hi a + 1)) a + s (L s m hi a + 1) ≤ hi
  · rw [en1 c1]
    exact Int.dvd_trans (c.dv _ c1.1) (nx_dvd _ _)
  · rw [en2 c1]
    exact fl_dvd _ _
/-- one way up, the other down -/
theorem up (c : Ch s m) (c1 : L s m hi a + 1 < m ∧ nx (s (L s m hi a + 1)) a + s (L s m hi a + 1) ≤ hi) : en s m hi a < hi ∧ L s m hi a < L s m hi (en s m hi a) := by
  have z := c.pos _ c1.1
  have e := en1 c1
  have h2 := c1.2
  rw [← e] at h2
  refine ⟨by omega, Nat.lt_of_not_le fun hle => ?_⟩
  refine L_max (a := en s m hi a) c c1.1 (by omega) ⟨mod0 ?_, h2⟩
  rw [e]
  exact nx_dvd _ _
def NoHi (s : Nat → Int) (m : Nat) (hi a : Int) : Prop := ¬ (L s m hi a + 1 < m ∧ nx (s (L s m hi a + 1)) a + s (L s m hi a + 1) ≤ hi)
theorem down (c : Ch s m) (c2 : NoHi s m hi a) (h : en s m hi a < hi) : L s m hi (en s m hi a) < L s m hi a ∧ NoHi s m hi (en s m hi a) := by
  have e := en2 c2
  have hm := L_lt (a := a) (hi := hi) c
  have z := c.pos _ hm
  have l := fl_lt hi z
  have dk : s (L s m hi a) ∣ en s m hi a := en_dvd c
  have lt : L s m hi (en s m hi a) < L s m hi a := Nat.lt_of_not_le fun hle => by
    have x := lies_down c hle (L_lt c) (L_lies c h)
    have := x.2
    omega
  refine ⟨lt, fun c1 => ?_⟩
  have d := Int.dvd_trans (c.dvd (show L s m hi (en s m hi a) + 1 ≤ L s m hi a by omega) hm) dk
  have n := nx_self (c.pos _ c1.1) d
  have k := c1.2
  rw [n] at k
  exact L_max (a := en s m hi a) c c1.1 (Nat.lt_succ_self _) ⟨mod0 d, k⟩
theorem other (c : Ch s m) (h : en s m hi a < hi) : L s m hi a ≠ L s m hi (en s m hi a) := by
  by_cases c1 : L s m hi a + 1 < m ∧ nx (s (L s m hi a + 1)) a + s (L s m hi a + 1) ≤ hi
  · have := (up c c1).2
    omega
  · have := (down c c1 h).1
    omega
theorem B_lo (c : Ch s m) : B s m hi lo lo := fun j hj n h => by
  have := Int.emod_nonneg lo (show s j ≠ 0 by have := c.pos j hj; omega)
  omega
theorem B_next (c : Ch s m) (h : a < hi) (b : B s m hi lo a) : B s m hi lo (en s m hi a) := fun j hj n ⟨h1, h2⟩ => by
  have hm := L_lt (a := a) (hi := hi) c
  have zj := c.pos j hj
  have q0 := fl_dvd (s j) (en s m hi a)
  have q1 := fl_le (en s m hi a) zj
  have q2 := fl_lt (en s m hi a) zj
  have gt := en_gt c h
  have nq : en s m hi a - en s m hi a % s j < en s m hi a := by
    have := Int.emod_nonneg (en s m hi a) (show s j ≠ 0 by omega)
    omega
  generalize en s m hi a - en s m hi a % s j = q at *
  have hk : L s m hi a < j := Nat.lt_of_not_le fun hle => n (mod0 (Int.dvd_trans (c.dvd hle hm) (en_dvd c)))
  have k1 : L s m hi a + 1 < m := by omega
  have z1 := c.pos _ k1
  have dq : s (L s m hi a + 1) ∣ q := Int.dvd_trans (c.dvd (by omega) hj) q0
  have lz : s (L s m hi a + 1) ≤ s j := Int.le_of_dvd (by omega) (c.dvd (by omega) hj)
  have qa : q < a := by
    by_cases c1 : L s m hi a + 1 < m ∧ nx (s (L s m hi a + 1)) a + s (L s m hi a + 1) ≤ hi
    · have e := en1 c1
      have l := nx_lt a z1
      have d := nx_dvd (s (L s m hi a + 1)) a
      rw [← e] at l d
      have := gap dq d nq
      omega
    · refine Int.not_le.mp fun ha => c1 ⟨k1, ?_⟩
      have := nx_least z1 dq ha
      omega
  have f := fl_eq zj q0 (show q ≤ a by omega) (by omega)
  refine b j hj ?_ ?_
  · omega
  · rw [f]
    exact ⟨h1, h2⟩
/-- no higher region around an address of the run lies in the range -/
theorem no_high (c : Ch s m) (h : a < hi) (b : B s m hi lo a) (k1 : L s m hi a + 1 < m) {x : Int} (x1 : a ≤ x) (x2 : x < en s m hi a) :
    ¬ (lo ≤ x - x % s (L s m hi a + 1) ∧ x - x % s (L s m hi a + 1) + s (L s m hi a + 1) ≤ hi) := fun ⟨h1, h2⟩ => by
  have z1 := c.pos _ k1
  have q0 := fl_dvd (s (L s m hi a + 1)) x
  have q1 := fl_le x z1
  have q2 := fl_lt x z1
  generalize x - x % s (L s m hi a + 1) = q at *
  by_cases qa : q < a
  · have f := fl_eq z1 q0 (show q ≤ a by omega) (by omega)
    refine b _ k1 ?_ ?_
    · omega
    · rw [f]
      exact ⟨h1, h2⟩
  · have n := nx_least z1 q0 (show a ≤ q by omega)
    by_cases c1 : L s m hi a + 1 < m ∧ nx (s (L s m hi a + 1)) a + s (L s m hi a + 1) ≤ hi
    · rw [en1 c1] at x2
      omega
    · exact c1 ⟨k1, by omega⟩
theorem top_in (c : Ch s m) (h : a < hi) {x : Int} (x1 : a ≤ x) (x2 : x < en s m hi a) : a ≤ x - x % s (L s m hi a) ∧ x - x % s (L s m hi a) + s (L s m hi a) ≤ en s m hi a := by
  have z := c.pos _ (L_lt (a := a) (hi := hi) c)
  have l := fl_le x z
  refine ⟨fl_ge z (dvd0 (L_lies c h).1) x1, gap (fl_dvd _ _) (en_dvd c) (by omega)⟩
theorem top_max (c : Ch s m) (h : a < hi) (b : B s m hi lo a) {x : Int} (x1 : a ≤ x) (x2 : x < en s m hi a) {j : Nat} (hj : j < m) (h1 : lo ≤ x - x % s j) (h2 : x - x % s j + s j ≤ hi) : j ≤ L s m hi a := by
  refine Nat.le_of_not_lt fun hlt => ?_
  have k1 : L s m hi a + 1 < m := by omega
  have z1 := c.pos _ k1
  have zj := c.pos j hj
  have d := c.dvd (show L s m hi a + 1 ≤ j by omega) hj
  have g1 := fl_ge (x := x) z1 (Int.dvd_trans d (fl_dvd (s j) x)) (fl_le x zj)
  have g2 := gap (fl_dvd (s (L s m hi a + 1)) x) (Int.dvd_add (Int.dvd_trans d (fl_dvd (s j) x)) d) (show x - x % s (L s m hi a + 1) < x - x % s j + s j by
    have := fl_le x z1
    have := fl_lt x zj
    omega)
  exact no_high c h b k1 x1 x2 ⟨by omega, by omega⟩
theorem lay_eq (c : Ch s m) : ∀ n n' a, (hi - a).toNat ≤ n → (hi - a).toNat ≤ n' → lay s m hi n a = lay s m hi n' a
  | 0, 0, _, _, _ => rfl
  | 0, n' + 1, a, h, _ => by
    show ([] : List Run) = if a < hi then run s m hi a :: lay s m hi n' (en s m hi a) else []
    rw [if_neg (by omega)]
  | n + 1, 0, a, _, h => by
    show (if a < hi then run s m hi a :: lay s m hi n (en s m hi a) else []) = []
    rw [if_neg (by omega)]
  | n + 1, n' + 1, a, h, h' => by
    show (if a < hi then run s m hi a :: lay s m hi n (en s m hi a) else []) = if a < hi then run s m hi a :: lay s m hi n' (en s m hi a) else []
    by_cases e : a < hi
    · have g := en_gt c e
      rw [if_pos e, if_pos e, lay_eq c n n' (en s m hi a) (by omega) (by omega)]
    · rw [if_neg e, if_neg e]
theorem R_end (h : ¬ a < hi) : R s m hi a = [] := by
  unfold R
  rw [show (hi - a).toNat = 0 by omega]
  rfl
theorem R_step (c : Ch s m) (h : a < hi) : R s m hi a = run s m hi a :: R s m hi (en s m hi a) := by
  unfold R
  obtain ⟨n, e⟩ : ∃ n, (hi - a).toNat = n + 1 := ⟨(hi - a).toNat - 1, by omega⟩
  rw [e]
  show (if a < hi then run s m hi a :: lay s m hi n (en s m hi a) else []) = _
  have g := en_gt c h
  rw [if_pos h, lay_eq c n (hi - en s m hi a).toNat (en s m hi a) (by omega) (Nat.le_refl _)]
theorem R_down (c : Ch s m) : ∀ (n : Nat) (a : Int), (hi - a).toNat ≤ n → a < hi → NoHi s m hi a → (R s m hi a).length ≤ L s m hi a + 1
  | 0, a, h, h2, _ => by omega
  | n + 1, a, h, h2, c2 => by
    rw [R_step c h2, List.length_cons]
    by_cases e : en s m hi a < hi
    · obtain ⟨d1, d2⟩ := down c c2 e
      have g := en_gt c h2
      have := R_down c n (en s m hi a) (by omega) e d2
      omega
    · rw [R_end e]
      simp
theorem R_len (c : Ch s m) : ∀ (n : Nat) (a : Int), (hi - a).toNat ≤ n → a < hi → (R s m hi a).length + L s m hi a ≤ 2 * m
  | 0, a, h, h2 => by omega
  | n + 1, a, h, h2 => by
    have l := L_lt (a := a) (hi := hi) c
    by_cases c1 : L s m hi a + 1 < m ∧ nx (s (L s m hi a + 1)) a + s (L s m hi a + 1) ≤ hi
    · obtain ⟨u1, u2⟩ := up c c1
      have g := en_gt c h2
      have := R_len c n (en s m hi a) (by omega) u1
      rw [R_step c h2, List.length_cons]
      omega
    · have := R_down c (n + 1) a h h2 c1
      omega
theorem R_short (c : Ch s m) (h8 : m ≤ 8) : (R s m hi a).length ≤ 16 := by
  by_cases h : a < hi
  · have := R_len c _ a (Nat.le_refl _) h
    omega
  · rw [R_end h]
    simp
/-- a place between two runs -/
structure Mid (s : Nat → Int) (m : Nat) (hi lo a : Int) (done : List Run) : Prop where
  eq : R s m hi lo = done ++ R s m hi a
  lo_le : lo ≤ a
  le_hi : a ≤ hi
  bd : B s m hi lo a
  last : a < hi → ∀ t, done.getLast? = some t → t.1 ≠ L s m hi a
theorem mid0 (c : Ch s m) (h : lo ≤ hi) : Mid s m hi lo lo [] := ⟨rfl, Int.le_refl _, h, B_lo c, fun _ t e => by cases e⟩
theorem Mid.next {done : List Run} (c : Ch s m) (M : Mid s m hi lo a done) (h : a < hi) : Mid s m hi lo (en s m hi a) (done ++ [run s m hi a]) := by
  have g := en_gt c h
  have l := M.lo_le
  refine ⟨?_, by omega, en_le c, B_next c h M.bd, fun h2 t e => ?_⟩
  · rw [M.eq, R_step c h, List.append_assoc]
    rfl
  · rw [List.getLast?_concat] at e
    cases e
    exact other c h2
/-- the number of cells of a run -/
theorem run_cells (c : Ch s m) (h : a < hi) : (en s m hi a - a) / s (L s m hi a) * s (L s m hi a) = en s m hi a - a := Int.ediv_mul_cancel (Int.dvd_sub (en_dvd c) (dvd0 (L_lies c h).1))
theorem run_one (c : Ch s m) (h : a < hi) : 1 ≤ (en s m hi a - a) / s (L s m hi a) := by
  have z := c.pos _ (L_lt (a := a) (hi := hi) c)
  have g := gap (dvd0 (L_lies c h).1) (en_dvd c) (en_gt c h)
  exact (Int.le_ediv_iff_mul_le (by omega)).mpr (by omega)
/-- multiples of z below y, from 0 on -/
def cd (z y : Int) : Int := (y + z - 1) / z
theorem cd_zero {z : Int} (hz : 1 ≤ z) : cd z 0 = 0 := by
  unfold cd
  exact Int.ediv_eq_zero_of_lt (by omega) (by omega)
theorem cd_mul {z y : Int} (hz : 1 ≤ z) (h : z ∣ y) : cd z y = y / z := by
  obtain ⟨q, rfl⟩ := h
  unfold cd
  rw [show z * q + z - 1 = (z - 1) + z * q by omega, Int.add_mul_ediv_left _ _ (by omega), Int.mul_ediv_cancel_left _ (by omega), Int.ediv_eq_zero_of_lt (by omega) (by omega)]
  omega
theorem cd_next {z y : Int} (hz : 1 ≤ z) (h : z ∣ y) : cd z (y + 1) = y / z + 1 := by
  obtain ⟨q, rfl⟩ := h
  unfold cd
  rw [show z * q + 1 + z - 1 = z * (q + 1) by rw [Int.mul_add]; omega, Int.mul_ediv_cancel_left _ (by omega), Int.mul_ediv_cancel_left _ (by omega)]
theorem cd_stay {z y : Int} (hz : 1 ≤ z) (h : ¬ z ∣ y) : cd z (y + 1) = cd z y := by
  unfold cd
  have e := Int.mul_ediv_add_emod y z
  have e1 := Int.emod_nonneg y (show z ≠ 0 by omega)
  have e2 := Int.emod_lt_of_pos y (show 0 < z by omega)
  have n : y % z ≠ 0 := fun q => h (dvd0 q)
  have a1 : (y + 1 + z - 1) / z = y / z + 1 := by
    rw [show y + 1 + z - 1 = (y % z) + z * (y / z + 1) by rw [Int.mul_add]; omega, Int.add_mul_ediv_left _ _ (by omega), Int.ediv_eq_zero_of_lt e1 e2]
    omega
  have a2 : (y + z - 1) / z = y / z + 1 := by
    rw [show y + z - 1 = (y % z - 1) + z * (y / z + 1) by rw [Int.mul_add]; omega, Int.add_mul_ediv_left _ _ (by omega), Int.ediv_eq_zero_of_lt (by omega) (by omega)]
    omega
  rw [a1, a2]
end
end M16

/-! The mathematics of pieces: counts by remainders, the level of a number, the fewest blocks. -/
namespace M13
open M16
/-- what is left for level k -/
def rest (s : Nat → Int) (m : Nat) (n : Int) (k : Nat) : Int := if k + 1 < m then n % s (k + 1) else n
def cnt (s : Nat → Int) (m : Nat) (n : Int) (k : Nat) : Int := rest s m n k / s k
section
variable {s : Nat → Int} {m : Nat}
theorem rest_nn (c : Ch s m) {n : Int} (hn : 0 ≤ n) (k : Nat) : 0 ≤ rest s m n k := by
  unfold rest
  split
  · rename_i h
    have := c.pos _ h
    exact Int.emod_nonneg _ (by omega)
  · exact hn
theorem rest_le (c : Ch s m) {n : Int} (hn : 0 ≤ n) (k : Nat) : rest s m n k ≤ n := by
  unfold rest
  split
  · rename_i h
    have p := c.pos _ h
    have e := Int.mul_ediv_add_emod n (s (k + 1))
    have q := Int.mul_nonneg (show (0 : Int) ≤ s (k + 1) by omega) (Int.ediv_nonneg hn (show (0 : Int) ≤ s (k + 1) by omega))
    omega
  · exact Int.le_refl _
theorem cnt_nn (c : Ch s m) {n : Int} (hn : 0 ≤ n) {k : Nat} (hk : k < m) : 0 ≤ cnt s m n k := Int.ediv_nonneg (rest_nn c hn k) (by have := c.pos k hk; omega)
theorem rest_next (c : Ch s m) (n : Int) {k : Nat} (hk : k < m) : rest s m n k % s k = n % s k := by
  unfold rest
  split
  · rename_i h
    exact Int.emod_emod_of_dvd n (c.dv k h)
  · rfl
/-- cnt k cells of level k: what is between the remainders -/
theorem cnt_mul (c : Ch s m) (n : Int) {k : Nat} (hk : k < m) : cnt s m n k * s k = rest s m n k - n % s k := by
  have dv := Int.mul_ediv_add_emod (rest s m n k) (s k)
  rw [rest_next c n hk] at dv
  unfold cnt
  rw [Int.mul_comm]
  omega
/-- sums of the j highest levels -/
def from_ (f : Nat → Int) (m : Nat) : Nat → Int
  | 0 => 0
  | j + 1 => f (m - (j + 1)) + from_ f m j
theorem from_is (c : Ch s m) (n : Int) : ∀ j, j + 1 ≤ m → from_ (fun k => cnt s m n k * s k) m (j + 1) = n - n % s (m - (j + 1))
  | 0, h => by
    show cnt s m n (m - (0 + 1)) * s (m - (0 + 1)) + 0 = _
    rw [cnt_mul c n (by omega)]
    unfold rest
    rw [if_neg (by omega)]
    omega
  | j + 1, h => by
    have ih := from_is c n j (by omega)
    show cnt s m n (m - (j + 1 + 1)) * s (m - (j + 1 + 1)) + from_ _ m (j + 1) = _
    rw [ih, cnt_mul c n (by omega)]
    unfold rest
    rw [if_pos (by omega), show m - (j + 1 + 1) + 1 = m - (j + 1) by omega]
    omega
/-- the greatest level whose size is at most n -/
def IsLv (s : Nat → Int) (m : Nat) (n : Int) (k : Nat) : Prop := k < m ∧ s k ≤ n ∧ ∀ j, k < j → j < m → n < s j
theorem lv_high (c : Ch s m) {n : Int} {k j : Nat} (hn : 0 ≤ n) (h : IsLv s m n k) (hj : k < j) (hm : j < m) : cnt s m n j = 0 := by
  have := h.2.2 j hj hm
  have r1 := rest_nn c hn j
  have r2 := rest_le c hn j
  unfold cnt
  exact Int.ediv_eq_zero_of_lt r1 (by omega)
theorem lv_pos (c : Ch s m) {n : Int} {k : Nat} (hn : 0 ≤ n) (h : IsLv s m n k) : 0 < cnt s m n k := by
  obtain ⟨h1, h2, h3⟩ := h
  have e : rest s m n k = n := by
    unfold rest
    split
    · rename_i hk
      exact Int.emod_eq_of_lt hn (h3 (k + 1) (by omega) hk)
    · rfl
  unfold cnt
  rw [e]
  have := c.pos k h1
  have e1 := Int.mul_ediv_add_emod n (s k)
  have e2 := Int.emod_lt_of_pos n (show 0 < s k by omega)
  by_cases z : n / s k ≤ 0
  · have := Int.mul_le_mul_of_nonneg_left z (show (0 : Int) ≤ s k by omega)
    rw [Int.mul_zero] at this
    omega
  · omega
end
end M13
namespace M13
open M16
/-- how many blocks greedily -/
def F (s : Nat → Int) : Nat → Int → Int
  | 0, _ => 0
  | m + 1, n => n / s m + F s m (n % s m)
theorem _root_.M16.Ch.less {s : Nat → Int} {m : Nat} (c : Ch s (m + 1 + 1)) : Ch s (m + 1) := ⟨by omega, c.one, fun k h => c.pos k (by omega), fun k h => c.dv k (by omega)⟩
theorem cnt_less {s : Nat → Int} {m : Nat} (c : Ch s (m + 1)) (n : Int) {k : Nat} (hk : k < m) : cnt s (m + 1) n k = cnt s m (n % s m) k := by
  unfold cnt rest
  rw [if_pos (by omega)]
  by_cases h : k + 1 < m
  · rw [if_pos h, Int.emod_emod_of_dvd n (c.dvd (by omega) (by omega))]
  · rw [if_neg h, show k + 1 = m by omega]
theorem F_sum {s : Nat → Int} : ∀ (m : Nat) (n : Int), Ch s m → ((List.range m).map (cnt s m n)).sum = F s m n
  | 0, n, c => rfl
  | m + 1, n, c => by
    have e1 : (List.range m).map (cnt s (m + 1) n) = (List.range m).map (cnt s m (n % s m)) := List.map_congr_left fun k hk => cnt_less c n (List.mem_range.mp hk)
    have e2 : cnt s (m + 1) n m = n / s m := by
      unfold cnt rest
      rw [if_neg (by omega)]
    rw [List.range_succ, List.map_append, List.sum_append, e1]
    show _ + (cnt s (m + 1) n m + 0) = n / s m + F s m (n % s m)
    rw [e2]
    cases m with
    | zero =>
      show 0 + (n / s 0 + 0) = n / s 0 + 0
      omega
    | succ m =>
      rw [F_sum (m + 1) _ c.less]
      omega
theorem F_zero {s : Nat → Int} : ∀ m, F s m 0 = 0
  | 0 => rfl
  | m + 1 => by
    show (0 : Int) / s m + F s m (0 % s m) = 0
    rw [Int.zero_ediv, Int.zero_emod, F_zero m]
    rfl
/-- what stands below level j is the same with a multiple of it more -/
theorem F_more {s : Nat → Int} : ∀ (m j : Nat) (r c : Int), Ch s m → j < m → 0 ≤ r → r < s j → 0 ≤ c → s j ∣ c → F s m r ≤ F s m (r + c)
  | 0, j, r, c, ch, hj, _, _, _, _ => by omega
  | m + 1, j, r, c, ch, hj, r0, r1, c0, dv => by
    have pm := ch.pos m (by omega)
    have pj := ch.pos j hj
    show r / s m + F s m (r % s m) ≤ (r + c) / s m + F s m ((r + c) % s m)
    have q0 : 0 ≤ (r + c) / s m := Int.ediv_nonneg (by omega) (by omega)
    have le : s j ≤ s m := Int.le_of_dvd (by omega) (ch.dvd (by omega) (by omega))
    rw [Int.ediv_eq_zero_of_lt r0 (show r < s m by omega), Int.emod_eq_of_lt r0 (show r < s m by omega)]
    have e := Int.mul_ediv_add_emod (r + c) (s m)
    by_cases h : j = m
    · subst h
      obtain ⟨t, rfl⟩ := dv
      rw [Int.add_mul_emod_self_left, Int.emod_eq_of_lt r0 r1]
      omega
    · generalize (r + c) / s m = q at *
      have e2 : (r + c) % s m = r + (c - s m * q) := by omega
      rw [e2]
      have d2 : s j ∣ c - s m * q := Int.dvd_sub dv (Int.dvd_trans (ch.dvd (show j ≤ m by omega) (by omega)) (Int.dvd_mul_right _ _))
      have n2 := Int.emod_nonneg (r + c) (show s m ≠ 0 by omega)
      have c2 : 0 ≤ c - s m * q := by
        obtain ⟨t, ht⟩ := d2
        rw [ht] at e2 ⊢
        have t0 : 0 ≤ t := by
          apply Int.le_of_lt_add_one
          by_cases z : t + 1 ≤ 0
          · have := Int.mul_le_mul_of_nonneg_left z (show (0 : Int) ≤ s j by omega)
            rw [Int.mul_add, Int.mul_one, Int.mul_zero] at this
            omega
          · omega
        exact Int.mul_nonneg (by omega) t0
      cases m with
      | zero => omega
      | succ m =>
        have := F_more (m + 1) j r (c - s (m + 1) * q) ch.less (by omega) r0 r1 c2 d2
        omega
/-- a block more is at most one block more -/
theorem F_add {s : Nat → Int} : ∀ (m j : Nat) (n : Int), Ch s m → j < m → 0 ≤ n → F s m (n + s j) ≤ F s m n + 1
  | 0, j, n, ch, hj, _ => by omega
  | m + 1, j, n, ch, hj, n0 => by
    have pm := ch.pos m (by omega)
    have pj := ch.pos j hj
    have le : s j ≤ s m := Int.le_of_dvd (by omega) (ch.dvd (by omega) (by omega))
    show (n + s j) / s m + F s m ((n + s j) % s m) ≤ n / s m + F s m (n % s m) + 1
    by_cases h : j = m
    · subst h
      rw [Int.add_ediv_of_dvd_right (Int.dvd_refl _), Int.ediv_self (by omega), Int.add_emod_right]
      omega
    · cases m with
      | zero => omega
      | succ m =>
        have e := Int.mul_ediv_add_emod n (s (m + 1))
        have r0 := Int.emod_nonneg n (show s (m + 1) ≠ 0 by omega)
        have r1 := Int.emod_lt_of_pos n (show 0 < s (m + 1) by omega)
        generalize n / s (m + 1) = q at *
        generalize n % s (m + 1) = r at *
        have e3 : n + s j = (r + s j) + s (m + 1) * q := by omega
        rw [e3, Int.add_mul_ediv_left _ _ (by omega), Int.add_mul_emod_self_left]
        by_cases h2 : r + s j < s (m + 1)
        · rw [Int.ediv_eq_zero_of_lt (by omega) h2, Int.emod_eq_of_lt (by omega) h2]
          have := F_add (m + 1) j r ch.less (by omega) r0
          omega
        · have e4 : (r + s j) = (r + s j - s (m + 1)) + s (m + 1) * 1 := by omega
          have lt : r + s j - s (m + 1) < s j := by omega
          rw [e4, Int.add_mul_ediv_left _ _ (by omega), Int.add_mul_emod_self_left, Int.ediv_eq_zero_of_lt (by omega) (show r + s j - s (m + 1) < s (m + 1) by omega), Int.emod_eq_of_lt (by omega) (show r + s j - s (m + 1) < s (m + 1) by omega)]
          have := F_more (m + 1) j (r + s j - s (m + 1)) (s (m + 1) - s j) ch.less (by omega) (by omega) lt (by omega) (Int.dvd_sub (ch.dvd (by omega) (by omega)) (Int.dvd_refl _))
          rw [show r + s j - s (m + 1) + (s (m + 1) - s j) = r by omega] at this
          omega
/-- some block less is one block less -/
theorem F_sub {s : Nat → Int} : ∀ (m : Nat) (n : Int), Ch s m → 1 ≤ n → ∃ j, j < m ∧ s j ≤ n ∧ F s m n = 1 + F s m (n - s j)
  | 0, n, ch, _ => absurd ch.m1 (by omega)
  | m + 1, n, ch, n1 => by
    have pm := ch.pos m (by omega)
    by_cases h : s m ≤ n
    · refine ⟨m, by omega, h, ?_⟩
      show n / s m + F s m (n % s m) = 1 + ((n - s m) / s m + F s m ((n - s m) % s m))
      have e : n = (n - s m) + s m * 1 := by omega
      have e1 : n / s m = (n - s m) / s m + 1 := by
        conv => lhs; rw [e]
        exact Int.add_mul_ediv_left _ _ (by omega)
      have e2 : n % s m = (n - s m) % s m := by
        conv => lhs; rw [e]
        exact Int.add_mul_emod_self_left _ _ _
      rw [e1, e2]
      omega
    · cases m with
      | zero =>
        have := ch.one
        omega
      | succ m =>
        obtain ⟨j, h1, h2, h3⟩ := F_sub (m + 1) n ch.less n1
        have pj := ch.pos j (by omega)
        refine ⟨j, by omega, h2, ?_⟩
        show n / s (m + 1) + F s (m + 1) (n % s (m + 1)) = 1 + ((n - s j) / s (m + 1) + F s (m + 1) ((n - s j) % s (m + 1)))
        rw [Int.ediv_eq_zero_of_lt (by omega) (by omega), Int.emod_eq_of_lt (by omega) (by omega), Int.ediv_eq_zero_of_lt (by omega) (by omega), Int.emod_eq_of_lt (by omega) (by omega), h3]
        omega
end M13

set_option Elab.async false
set_option linter.all false
set_option maxRecDepth 100000
set_option maxHeartbeats 4000000
/-! Own layer: errors with a field over any built-in base (ArithmeticError, LookupError, RuntimeError, ValueError), made and raised. -/
namespace Ex
open PySem PySem.Spec PySem.Calls PyProof.Rows L2 Gu
/-- own classes, then the mro of a built-in base -/
def refsB (tl : List Value) : List Value → Bool
  | .ref _ :: r => refsB tl r
  | l => l == tl
theorem refsB_two (tl : List Value) (l : List Value) (e : refsB tl l = true) : (∃ c r, l = .ref c :: r ∧ refsB tl r = true) ∨ l = tl := by
  cases l with
  | nil => exact .inr (beq_iff_eq.mp e)
  | cons v r => cases v with
    | ref c => exact .inl ⟨c, r, rfl, e⟩
    | _ => exact .inr (beq_iff_eq.mp e)
/-- a built-in base of errors -/
structure BaseE (B : String) (tl : List Value) : Prop where
  ex : ExcBaseFacts B (B ++ ".__new__") (B ++ ".__init__") tl
  pa : ∀ self : Value, refuseLoop self "__setattr__" tl = pure ()
  ob : tl.contains (.type "object") = true
  ne : tl.isEmpty = false
abbrev tailE (B : String) : List Value := [.type B, .type "Exception", .type "BaseException", .type "object"]
theorem base_AE : BaseE "ArithmeticError" (tailE "ArithmeticError") := ⟨F.excBase_ArithmeticError, F.store_ArithmeticError.passes, by decide +kernel, rfl⟩
theorem base_LE : BaseE "LookupError" (tailE "LookupError") := ⟨F.excBase_LookupError, F.store_LookupError.passes, by decide +kernel, rfl⟩
theorem base_RE : BaseE "RuntimeError" (tailE "RuntimeError") := ⟨F.excBase_RuntimeError, F.store_RuntimeError.passes, by decide +kernel, rfl⟩
theorem base_VE : BaseE "ValueError" (tailE "ValueError") := ⟨F.excBase_ValueError, F.store_ValueError.passes, by decide +kernel, rfl⟩
section
variable {B : String} {tl : List Value}
theorem BaseE.pass (b : BaseE B tl) (self : Value) : ∀ l, refsB tl l = true → refuseLoop self "__setattr__" l = pure ()
  | [], e => by
    have z : ([] : List Value) = tl := beq_iff_eq.mp e
    have n := b.ne
    rw [← z] at n
    cases n
  | v :: r, e => by
    rcases refsB_two tl _ e with ⟨c, r', q, h⟩ | q
    · cases q
      rw [refuseLoop_ref]
      exact b.pass self r h
    · rw [q]
      exact b.pa self
theorem BaseE.has (b : BaseE B tl) (Y : String) : ∀ l, refsB tl l = true → l.contains (.type Y) = tl.contains (.type Y)
  | [], e => by
    have z : ([] : List Value) = tl := beq_iff_eq.mp e
    rw [z]
  | v :: r, e => by
    rcases refsB_two tl _ e with ⟨c, r', q, h⟩ | q
    · cases q
      rw [List.contains_cons, b.has Y r h]
      rfl
    · rw [q]
theorem BaseE.some (b : BaseE B tl) {l : List Value} (e : refsB tl l = true) : l.isEmpty = false := by
  cases l with
  | cons _ _ => rfl
  | nil =>
    have z : ([] : List Value) = tl := beq_iff_eq.mp e
    have n := b.ne
    rw [← z] at n
    exact n
end
section
open Builtin Builtin.ObjectAttr
variable {prog : Program} {w : World} {A : Around} {R : Result → Shared → Prop} {hp : Heap} {g : Array GenState} {d : Drawn} {t : Nat} {os : OsState}
/-- the first field of an error is stored by object.__setattr__ -/
theorem first_field {B : String} {tl : List Value} (b : BaseE B tl) {K : W.Frag} {nm : Str} {tk : Tok} {v : Value} {x C : Addr} {fv : Array Value} {cd : ClassData}
    (KX : K.In hp) (hx : hp.get? x = some { cls := .ref C, data := .fields fv }) (hcd : W.clsIn K C = some cd) (mr : refsB tl cd.mro = true) (hdt : cd.hasDict = true) (no : W.findIn K (.ref C) nm = some none)
    (go : ∀ h' tk' dx, (∀ b o, b ≠ x → hp.get? b = some o → h'.get? b = some o) → hp.objs.size ≤ dx → dx ≠ x → h'.get? x = some { cls := .ref C, dict := some dx, data := .fields fv } →
      h'.Ns1 dx (fun y => if y = nm then some v else none) → R (.ok (.ret .none)) ⟨h', g, d, tk', os⟩) :
    codeAny (model prog w) A (.call (.builtin "object.__setattr__") ⟨[.ref x, .str nm tk, v], []⟩) R ⟨hp, g, d, t, os⟩ := by
  have IA : W.InstAt hp x { cls := .ref C, data := .fields fv } C none := ⟨hx, rfl, rfl, trivial⟩
  have so := F.store_object
  have nE := b.some mr
  have isO : cd.mro.contains (.type "object") = true := (b.has "object" _ mr).trans b.ob
  have far : x ≠ hp.objs.size := Nat.ne_of_lt (Heap.lt_size hx)
  have isI : W.Looks (model prog w) hp (isInstance (.ref x) (.type "object")) true := IA.type.andThen (W.looks_mroIn KX (by unfold W.mroIn; rw [hcd, Option.bind_some, if_neg (by rw [nE]; decide), isO]))
  refine codeAny_call_builtin so.slot.plain so.entry (@W.check_slot (model prog w) _ _ ⟨hp, g, d, t, os⟩ "object.__setattr__" "object" "__setattr__" (.ref x) [.str nm tk, v] [] _ so.kind so.split isI (so.args (.ref x) (.str nm tk) v) ?_)
  have lm : W.Looks (model prog w) hp (mroOf (.ref C)) cd.mro := (W.looks_clsIn KX hcd).andThen .now
  have ln : W.Looks (model prog w) hp (storeTaker? none) none := .now
  have lc : W.Looks (model prog w) hp (classData C) cd := W.looks_clsIn KX hcd
  rw [W.osa_eq, refuse_eq]
  refine wpAny_bind (wpAny_bind (IA.type.at (wpAny_bind (lm.at ?_))))
  rw [b.pass _ _ mr]
  refine wpAny_pure (wpAny_bind (IA.type.at (wpAny_bind ((W.looks_findIn KX no).at (wpAny_bind (ln.at ?_))))))
  show wpAny _ _ (storeInOwnDict (.ref x) (.ref C) (.str nm tk) nm v false) _ _ _
  obtain ⟨n1, n2, n3, n4, n5, hd, n7, n8, n9, n10, n11⟩ := cd
  dsimp only at hdt
  subst hdt
  unfold storeInOwnDict ownDictForStores
  repeat (first | with_reducible refine HandSPX.store_in_new ?_ ?_ | with_reducible refine wpAny_loadPart_at hx ?_ | with_reducible refine lc.at ?_ | wp_step)
  · exact ⟨_, #[], _, (Heap.get?_update_ne _ _ _ _ far.symm).trans (Heap.get?_push_at rfl rfl), rfl, fun e he => absurd he (by simp), fun _ => rfl⟩
  · intro h' tk' nn' sb
    have hx1 : (hp.push { cls := .type "dict", data := .dict #[] }).get? x = some { cls := .ref C, data := .fields fv } := Heap.get?_push_of_some _ hx
    exact go h' tk' hp.objs.size (fun c o hc ho => (sb.2 c (Nat.ne_of_lt (Heap.lt_size ho))).trans ((Heap.get?_update_ne _ _ _ _ hc).trans (Heap.get?_push_of_some _ ho))) (Nat.le_refl _) far.symm
      ((sb.2 x far).trans (Heap.get?_update_self _ hx1 rfl)) nn'
end
/-- what the written part says of an error's class over the base B -/
structure OexG (B : String) (tl : List Value) (K : PySem.W.Frag) (C : Addr) : Prop where
  base : BaseE B tl
  cls : ∃ nm q N bs bm sn sub ab col dd k0 k1 k2 k3 k5, K.lookup C = some (excClassObj nm q C N bs bm true sn sub ab col dd k0 k1 k2 k3 k5 (B ++ ".__new__")) ∧ refsB tl bm = true
  sa : PySem.W.findIn K (.ref C) "__setattr__" = some (some (.builtin "object.__setattr__"))
  exC : PySem.W.subIn K (.ref C) (.type "BaseException") = some true
  tyC : PySem.W.typeIn K (.ref C) = some (.type "type")
  kC : PySem.W.keepIn K (.ref C) = true
section
variable {X : Cx} {pins : List (Addr × Obj)} {σ : L2.St} {H : Hp} {s : Shared} {a C dx : Addr} {f : Str} {y : V} {u : Value} {Q : Unit → Shared → Prop} {E : Value → Shared → Prop} {A : Around} {B : String} {tl : List Value}
/-- self.f = y, the first one -/
theorem field_new (T : OexG B tl X.K C) (I : Inv X pins σ H s) (e : H a = some (exo a C none)) (no : PySem.W.findIn X.K (.ref C) f = some none) (ry : RelV y u)
    (go : ∀ dx s', H dx = none → dx ≠ a → Inv X pins σ (upd (upd H dx (exd dx [(f, y)])) a (exo a C (some dx))) s' → Q () s') : wpAny (model X.prog X.w) A (setAttr (.ref a) f u) Q E s := by
  obtain ⟨nm, q, N, bs, bm, sn, sub, ab, col, dd, k0, k1, k2, k3, k5, hC, mr⟩ := T.cls
  have hcl : PySem.W.clsIn X.K C = some { name := nm, bases := bs, mro := .ref C :: bm, ns := N, qualname := q, hasDict := true, slotNames := sn, subclasses := sub, abstract := ab, collection := col, hasDel := false } := by
    unfold PySem.W.clsIn
    rw [hC] <;> rfl
  obtain ⟨t1, at1⟩ := exo_at I.hok e
  obtain ⟨hp, g, dr, tk, os⟩ := s
  refine PySem.W.set_plain I.kIn (ox := { cls := .ref C, dict := none, data := .fields #[.ref t1, .none, .none, .none, .bool false, .none] }) (od := none) ⟨at1, rfl, rfl, trivial⟩ T.sa ?_
  refine first_field T.base I.kIn at1 hcl (show refsB tl (.ref C :: bm) = true from mr) rfl no (fun h' tk' dx k dn dne hx hn => ?_)
  have free : H dx = none := I.hok.fresh dn
  have far : ∀ {b : Addr} {o : Obj}, hp.get? b = some o → b ≠ dx := fun {b o} q => Nat.ne_of_lt (Nat.lt_of_lt_of_le (Heap.lt_size q) dn)
  have na : ∀ {b : Addr}, H b = none → b ≠ a := fun {b} n z => by
    rw [z, e] at n
    cases n
  have at2 : ∀ {b : Addr} {o : HO}, H b = some o → b ≠ a → upd (upd H dx (exd dx [(f, y)])) a (exo a C (some dx)) b = some o := fun {b o} q n => by
    rw [upd_ne n, upd_ne (ne_of_none q free)]
    exact q
  have U : Un X.fs [] H (upd (upd H dx (exd dx [(f, y)])) a (exo a C (some dx))) hp h' := {
    keep := fun b o q n _ _ => k b o (na n) q
    slot := fun b o q n _ _ => ⟨o.slots, k b o (na n) q⟩
    free := fun b o q n _ => (upd_ne (na n)).trans ((upd_ne (far q)).trans n)
    there := fun b o q _ => by
      by_cases hb : b = a
      · rw [hb]
        exact ⟨_, hx⟩
      · exact ⟨o, k b o hb q⟩
    tups := fun b xs q => at2 q (at_ne e q exo_tup)
    frzs := fun b o v q => at2 q (at_ne e q exo_frz)
    tbls := fun b ps q => ⟨#[], by rw [at2 q (at_ne e q exo_tbl)]; simp⟩ }
  refine go dx _ free dne (I.un (t' := tk') U fun b o q => ?_)
  by_cases hb : b = a
  · subst hb
    rw [upd_same] at q
    cases q
    exact exo_ok hx
  · rw [upd_ne hb] at q
    by_cases hd : b = dx
    · subst hd
      rw [upd_same] at q
      cases q
      exact exd_ok hn (relO_put (fs := []) ry fun g => True.intro)
    · rw [upd_ne hd] at q
      refine (I.hok b o q).stay (fun c v hc z => k c v ?_ z) (fun c hc => at2 hc (at_ne e hc exo_own)) (fun c xs hc => at2 hc (at_ne e hc exo_tup))
      rcases hc with hc | hc
      · rw [hc]
        exact hb
      · exact at_ne e hc exo_own
end
/-- self.f = e, the first field of an error -/
def tFst (B : String) (tl : List Value) (K : PySem.W.Frag) (f : Str) (to te : TE) : TS := fun D σ H => te σ H fun y H1 => to σ H1 fun x H2 => ∃ a C : Addr, x = .ref a ∧ OexG B tl K C ∧ PySem.W.findIn K (.ref C) f = some none ∧
  H2 a = some (exo a C none) ∧ ∀ dx, H2 dx = none → dx ≠ a → D.nx σ (upd (upd H2 dx (exd dx [(f, y)])) a (exo a C (some dx)))
section
variable {X : Cx} {o e : Expr} {es : List Expr} {to te : TE} {ta : TA} {f : Str} {p p' pos : Pos} {B : String} {tl : List Value}
theorem ps_fst (ho : PE X o to) (he : PE X e te) (hs : swapsWith e (some (.Attribute o f p')) pos.line X.env = pure false := by rfl) : PS X (.Assign [.Attribute o f p'] e pos) (tFst B tl X.K f to te) := by
  refine ⟨fun pins s σ H D I h => plainObj_wpAny_Assign_Attribute (thn (he.run pins s σ H _ I h) fun v s1 ⟨y, H1, I1, r1, q1⟩ => thn (ho.run pins s1 σ H1 _ I1 q1) fun u s2 ⟨x, H2, I2, r2, a, C, ex, T, no, ea, q⟩ => ?_) hs⟩
  subst ex
  obtain rfl : u = Value.ref a := r2
  exact field_new T I2 ea no r1 fun dx s' n ne J => ⟨σ, _, J, q dx n ne⟩
/-- C(e, ..) for a raise, C's own __init__ keeping sp -/
theorem pmk_oexG {CX : CXT} {x : Str} {C fI : Addr} {k : Nat} {fd : FuncData} {ps : List Str} {sp : Sp} {ds : List Value} {dvs : List V} (T : OexG B tl X.K C) (iC : PySem.W.findIn X.K (.ref C) "__init__" = some (some (.ref fI))) (tI : PySem.W.typeIn X.K (.ref fI) = some (.type "function"))
    (F1 : FnOk X.prog X.w X.K X.mg X.base CX k fI fd ps sp) (hr : Room (k + 1) X.A) (hb : Binds X.K fd ps ds) (hd : Vals dvs ds) (hx : Passes CX X (fun _ _ _ => False)) (hg : Gl X x) (hm : X.mg x = some (.ref C)) (ha : PA X (e :: es) ta)
    (hdb : (x == ("__debug__" : Str)) = false := by decide) (he : starEach (e :: es) X.env = (false, eval e X.env) :: starEach es X.env := by rfl) (hpl : (backTo pos (starEach es X.env)).any (·.1) = false := by rfl) :
    PMk X (.Call (.Name x p) (e :: es) [] pos) (tMkO C sp dvs ta) := by
  intro pins s σ H Q I h
  obtain ⟨nm, q, N, bs, bm, sn, sub, ab, col, dd, k0, k1, k2, k3, k5, hC, mr⟩ := T.cls
  refine wpAny_Call_Name_kw (ld_glob I hg hm (PySem.W.callWith_K (h₀ := X.base) I.ok.mod.kin T.kC (thn (ha.run pos pins s σ H _ I h) fun us s1 ⟨vs, H1, I1, r1, hz, q1⟩ => ⟨I1.kIn, ?_⟩) he hpl) hdb)
  show wpAny _ _ (call (.ref C) us) _ _ _
  obtain ⟨hp, g, dr, tk, os⟩ := s1
  generalize en : hp.objs.size + 1 = n
  have sz : hp.objs.size ≤ n := by omega
  have hq := q1 n (I1.hok.fresh sz)
  generalize ehp : (hp.push (PySem.W.kdv_tup us)).push (PySem.HandSPX.excO C hp.objs.size) = hp2
  have kk : ∀ b o, hp.get? b = some o → hp2.get? b = some o := fun b o e => by
    rw [← ehp]
    exact Heap.get?_push_of_some _ (Heap.get?_push_of_some _ e)
  have hget : hp2.get? n = some (PySem.HandSPX.excO C hp.objs.size) := by
    rw [← ehp, ← en]
    heap_get
  have I2 : Inv X pins σ (upd H1 n (exo n C none)) ⟨hp2, g, dr, tk, os⟩ := I1.laid (t' := tk) kk sz (exo_ok hget)
  have r2 : Vals (V.ref n :: (vs ++ dvs)) (Value.ref n :: (us ++ ds)) := .cons rfl (r1.append hd)
  have hl : (Value.ref n :: us ++ ds).length = ps.length := r2.length.symm.trans (F1.len _ _ _ _ hq)
  have few : us.length ≤ sizeLine := by
    rw [← Paired.length r1, sizeLine_eq]
    omega
  refine wpAny_call (PySem.HandSPX.call_own T.base.ex (fun Y => T.base.has Y bm mr) (I1.kIn _ _ hC) (PySem.W.looks_findIn I1.kIn iC) (fun self => PySem.W.bind_fn I1.kIn self tI) few ?_)
  rw [en, ehp]
  refine codeAny_mono (F1.run _ X.stack _ _ ⟨Value.ref n :: us, []⟩ (Value.ref n :: (us ++ ds)) _ _ (fun _ _ _ => False) (hr.make C us []) (I2.env0.make C us []) (hb _ (Value.ref n :: us) I2.kIn hl) r2 hq) fun r s' hq' => ?_
  match r, hq' with
  | .error er, hq' => exact hx pins σ _ _ er s' I2 hq'
  | .ok (.ret u), hq' =>
    obtain ⟨v, H2, os2, bare2, un2, hok2, rv, ev, d, fs, ea, ed, hd1, q2⟩ := hq'
    subst ev
    obtain ⟨h2, g2, d2, t2, os'⟩ := s'
    exact ⟨rv, mk_end (raises_own T.exC T.tyC) I1 sz kk un2 hok2 os2 bare2 ea ed hd1 q2⟩
end
end Ex

set_option Elab.async false
set_option linter.all false
set_option maxRecDepth 100000
set_option maxHeartbeats 4000000
/-! Own layer: several clauses 'except x as n' of one try, all with the same name n. -/
namespace Ex
open PySem PySem.Spec PySem.Calls PyProof.Rows L2 Gu
abbrev Suites : Type := List (Value × (Addr → Value → Option Addr → TS))
/-- what the clauses wish of an error of the body, one after the other: slot i is n's -/
def wAsAll (K : PySem.W.Frag) (i : Nat) (Wout : WX) (D : Ends) : Suites → WX
  | [] => Wout
  | (c, ts) :: r => wAs K c i ts (wAsAll K i Wout D r) D
inductive HdAs (X : Cx) (n : Str) : List ExceptHandler → Suites → Prop
  | nil : HdAs X n [] []
  | cons {x : Str} {c : Value} {ts : Addr → Value → Option Addr → TS} {b0 : Stmt} {su : List Stmt} {np p2 : Pos} {hs : List ExceptHandler} {l : Suites} (hc : Names X x c)
      (hsu : ∀ (a : Addr) (oe : Obj) (cls : Value) (d : Option Addr) (pn : List (Addr × Obj)), Zc cls d oe → (∃ vs, oe.data = .fields vs) → PSs (X.suite a ((a, oe) :: pn)) (b0 :: su) (ts a cls d)) (r : HdAs X n hs l) :
      HdAs X n (.ExceptHandler (some (.Name x np)) (some n) (b0 :: su) p2 :: hs) ((c, ts) :: l)
section
variable {X : Cx} {n : Str} {i : Nat} {body : List Stmt} {h0 : ExceptHandler} {hds : List ExceptHandler} {l : Suites} {pos : Pos} {tb : WX → TS} {Wout : WX}
theorem ps_try_asAll (hs : X.stack = X.env :: X.outer) (hf : X.env.frame = some X.env.locals) (hN : X.N.Nodup) (hi : X.N[i]? = some n) (hln : X.env.kindOf n = some .local) (tk : Takes X Wout)
    (hb : ∀ (W : WX) (pn : List (Addr × Obj)) (xe : Value → Shared → Prop), Takes (X.tr pn xe) W → PassesOwn (model X.prog X.w) X.A X.env xe → PSs (X.tr pn xe) body (tb W))
    (hh : HdAs X n (h0 :: hds) l) : PS X (.Try body (h0 :: hds) [] [] pos) (fun D σ H => tb (wAsAll X.K i Wout D l) D σ H) := by
  refine ⟨fun pins s σ H D I h => ?_⟩
  have ok := I.ok
  have fr : X.A.frames = some (X.env :: X.outer) := by
    rw [ok.frames, hs]
  refine wpAny_Try_except (wpAny_mono ((hb (wAsAll X.K i Wout D l) (X.pn ++ pins) (fun e s1 => wpAny (model X.prog X.w) X.A (noteFrame e X.env) (fun _ s2 => wpAny (model X.prog X.w) X.A (setFlight e none) (fun _ s3 =>
    wpAny (model X.prog X.w) X.A (handleBy e X.env (h0 :: hds)) (SP X pins D) X.xe s3) X.xe s2) X.xe s1) (fun u s' xx => ?_) PassesOwn.looking).run [] s σ H D (I.toTry _) h) (fun f s1 hsp => ?_) (fun e s1 he => he))
  · obtain ⟨a, B, sI, pins', σ1, H1, cls, d, rfl, J0, nb, up, sky, na, os, ag, w⟩ := xx
    have J : Inv X pins σ1 H1 sI := J0.ofTry ok
    rw [hs] at sky
    show wpAny (model X.prog X.w) X.A (noteFrame (.ref a) X.env) _ _ _
    refine Sky.land Zc.steady fr hf sky fun h3 fl up3 => ?_
    have J3 : Inv X pins σ1 H1 { s' with heap := h3 } := J.landed nb fl.1 (up.trans up3) os ag
    obtain ⟨o3, v3, he3, hz3, hd3⟩ := fl.there
    have nfr : a ∉ frs (X.env :: X.outer) := fun hm => by
      obtain ⟨_, o', e', hnf⟩ := fl.2.2.1.mem hm
      rw [he3] at e'
      cases e'
      exact hnf _ hd3
    have nL : a ≠ X.env.locals := fun z => nfr (List.mem_filterMap.mpr ⟨X.env, List.mem_cons_self, by rw [hf, z]⟩)
    have nF : a ∉ X.fs := fun hm => by
      obtain ⟨e, he, q⟩ := List.mem_filterMap.mp hm
      exact nfr (List.mem_filterMap.mpr ⟨e, List.mem_cons_of_mem _ he, q⟩)
    have S3 := J3.suite he3 hd3 na nL nF
    have go : ∀ {hs2 : List ExceptHandler} {l2 : Suites}, HdAs X n hs2 l2 → wAsAll X.K i Wout D l2 cls d σ1 H1 → wpAny (model X.prog X.w) X.A (handleBy (.ref a) X.env hs2) (SP X pins D) X.xe { s' with heap := h3 } := by
      intro hs2 l2 hk
      induction hk with
      | nil =>
        intro w
        refine wpAny_handleBy_nil ?_
        obtain ⟨_, _, _, oe, vs, Tb, oT, tsT, he, hz, hd, h1, hr⟩ := id fl
        unfold PySem.passOn
        refine wpAny_bind (wpAny_field he hd h1 ?_)
        rw [if_neg (show ¬ ((Value.ref Tb == Value.none) = true) from by simp)]
        have fin : wpAny (model X.prog X.w) X.A (setFlight (.ref a) X.env.frame) (fun _ s4 => wpAny (model X.prog X.w) X.A (throw (.ref a) : Sem Flow) (SP X pins D) X.xe s4) X.xe { s' with heap := h3 } := by
          rw [hf]
          exact HandSPX.setFlight_upZ fl fun h4 hh4 up4 => wpAny_throw (tk _ _ ⟨a, B, sI, pins, σ1, H1, cls, d, rfl, J, nb, (up.trans up3).trans up4, .inr (.inr (by rw [hs]; exact hh4)), na, os, ag, w⟩)
        first
          | exact wpAny_bind (wpAny_pure (wpAny_bind fin))
          | exact wpAny_bind fin
      | @cons x c ts b0 su np p2 hs3 l3 hc hsu r ih =>
        intro w
        obtain ⟨b, hb1, yes, no⟩ := w
        refine wpAny_handleBy_cons (codeAny_handlers_test ?_) (by intro q; cases q)
        have lt : PySem.W.Looks (model X.prog X.w) h3 (typeOf (.ref a)) cls := fun A Q E s k q => wpAny_typeOf_ref (k _ _ he3) (by rw [hz3.1]; exact q)
        have lm := PySem.W.exm_one (M := model X.prog X.w) J3.kIn lt hb1
        have name : ∀ {Q : Value → Shared → Prop} {E : Value → Shared → Prop}, Q c { s' with heap := h3 } → wpAny (model X.prog X.w) (X.A.mark (some (.ref a))) (eval (.Name x np) X.env) Q E { s' with heap := h3 } := fun {Q E} q => by
          obtain ⟨hg, hdbg, hm | ⟨hm, hv, hnn⟩⟩ := hc
          · exact ld_glob (X := X.suite a ((a, o3) :: (X.pn ++ pins))) S3 hg hm q hdbg
          · exact ld_blt (X := X.suite a ((a, o3) :: (X.pn ++ pins))) S3 hg hm hv q hnn hdbg
        refine name (lm.here ?_)
        cases b with
        | false =>
          show wpAny _ X.A (handleBy (.ref a) X.env hs3) _ _ _
          exact ih (no rfl)
        | true =>
          refine codeAny_handlers_suite_as (HandSPX.lands_againZ fl fun h4 fl4 up4 => ?_)
          have J4 : Inv X pins σ1 H1 { s' with heap := h4 } := J.landed nb fl4.1 ((up.trans up3).trans up4) os ag
          obtain ⟨o4, v4, he4, hz4, hd4⟩ := fl4.there
          have S4 := J4.suite he4 hd4 na nL nF
          refine store_ok (X := X.suite a ((a, o4) :: (X.pn ++ pins))) (v := .ref a) S4 hN hi (.inl hln) rfl (fun s5 S5 => ?_) (.inr hln)
          refine wpAny_mono ((hsu a o4 cls d (X.pn ++ pins) hz4 ⟨_, hd4⟩).run [] s5 _ H1 _ S5 (yes rfl a na)) (fun f s6 hsp => ?_) (fun _ _ z => False.elim z)
          have out : ∀ {σ6 : L2.St} {H6 : Hp} {Q : Shared → Prop}, Inv (X.suite a ((a, o4) :: (X.pn ++ pins))) [] σ6 H6 s6 → (∀ s7, Inv X pins (σ6.set i none) H6 s7 → Q s7) →
              wpAny (model X.prog X.w) X.A (do bindName X.env n .none; unbindBehindTheSuite X.env n p2) (fun _ s7 => Q s7) X.xe s6 := fun {σ6 H6 Q} S6 hq => gone_ok (S6.unsuite ok) hN hi hln hq
          match f, hsp with
          | .next, ⟨σ6, H6, S6, q6⟩ => exact out S6 fun s7 J7 => ⟨_, _, J7, q6⟩
          | .brk, ⟨σ6, H6, S6, q6⟩ => exact out S6 fun s7 J7 => ⟨_, _, J7, q6⟩
          | .cont, ⟨σ6, H6, S6, q6⟩ => exact out S6 fun s7 J7 => ⟨_, _, J7, q6⟩
          | .ret u, ⟨v6, σ6, H6, S6, r6, q6⟩ => exact out S6 fun s7 J7 => ⟨_, _, _, J7, r6, q6⟩
    exact go hh w
  · match f, hsp with
    | .next, ⟨σ1, H1, J1, q⟩ => exact wpAny_execs_nil ⟨σ1, H1, J1.ofTry ok, q⟩
    | .brk, ⟨σ1, H1, J1, q⟩ => exact ⟨σ1, H1, J1.ofTry ok, q⟩
    | .cont, ⟨σ1, H1, J1, q⟩ => exact ⟨σ1, H1, J1.ofTry ok, q⟩
    | .ret u, ⟨v, σ1, H1, J1, r, q⟩ => exact ⟨v, σ1, H1, J1.ofTry ok, r, q⟩
end
end Ex

set_option Elab.async false
set_option linter.all false
set_option maxRecDepth 100000
set_option maxHeartbeats 4000000
/-! Own layer: defs that make lambdas; the end of a law whose defs write the tables of their code objects, where no repr is under way. -/
namespace Gu
open PySem PySem.Spec PyProof.Rows L2
section
variable {P : Program} {w : World} {K : PySem.W.Frag} {mg : Str → Option Value} {base : Heap} {CX : CXT} {k : Nat} {f : Addr} {fd : FuncData} {ps : List Str} {sp : Sp}
/-- a def by its body, its code object known -/
theorem okGc {x qual : Str} {params : Arguments} {body : List Stmt} {scope : Scope} {dvs : List V} {kws : List (Str × V)} {N : List Str}
    (F : FunD K x qual params body scope dvs kws f fd) (S : FnScope N ps scope) (len : ∀ vs H Q E, sp vs H Q E → vs.length = ps.length)
    (hbody : ∀ (A : Around) (outer : List Env) (s : Shared) (H : Hp) (vs : List V) (Q : VK) (E : XK),
      RoomG k (A.deeper (envOfC qual scope s.heap.objs.size f fd.code)) → sp vs H Q E →
      ∃ t, PSs (cxOf CX P w K mg base N qual scope f fd.code A outer s H E) body t ∧ t { nx := fun _ H' => Q .non H', rt := Q } (start N vs) H) :
    FnG P w K mg base CX (k + 1) f fd ps sp := by
  obtain ⟨oc, od, dV, kV, doc, pm, an, cdv, ct, osl, rfl, lk, hcd, _, _⟩ := F.ex
  refine ⟨len, fun A outer s H args us vs Q E hr e0 hb rv hsp => ?_⟩
  have KX : K.In s.heap := e0.mod.kin.keeps fun b o e => (e0.bs b o e).1
  have kinds : ∀ y ∈ ps.zip us, scope.names.lookup y.1 = some .local ∨
      (scope.names.lookup y.1 = some .cell ∧ ((cellsFrom (s.heap.objs.size + 1) scope.names []).lookup y.1).isSome = true) := fun ⟨n, v⟩ hy => by
    rcases S.par n (List.of_mem_zip hy).1 with q | q
    · exact .inl q
    · exact .inr ⟨q, PySem.W.cellsFrom_some _ _ _ (.inl q)⟩
  refine codeAny_call_function hr.r.depth (KX _ _ lk) rfl S.co S.gen rfl (PySem.W.codeRec_of KX hcd) (hb _ _ _ _ ?_)
  refine wpAny_newFunctionEnv_cells S.kind kinds fun env he s1 x => ?_
  subst he
  refine ⟨(e0.mod.nolimit.keeps fun b o e => (e0.bs b o e).1).keeps x.toInCall.keep, codeAny_func ?_⟩
  obtain ⟨t, ht, hq⟩ := hbody A outer s H vs Q E (hr.down _) hsp
  have I := inv_start (CX := CX) (E := E) (N := N) (qual := qual) (f := f) (cd := cdv) S hr.r.hd e0 (len _ _ _ _ hsp) rv x
  refine wpAny_mono (ht.run [] s1 (start N vs) H _ I hq) (fun fl s' hs => ?_) fun e s' hs => hs
  match fl, hs with
  | .ret u, ⟨v, σ', H', J, rv', q⟩ => exact ⟨v, H', J.os, J.bare, J.base, J.hok, rv', q⟩
  | .next, ⟨σ', H', J, q⟩ => exact ⟨V.non, H', J.os, J.bare, J.base, J.hok, rfl, q⟩
  | .brk, ⟨_, _, z⟩ => exact z.2.elim
  | .cont, ⟨_, _, z⟩ => exact z.2.elim
end
/-- what stands in the heap before the law's call: the script, and the tables of the code objects cs -/
structure Tab0 (cs : List (Addr × Addr)) (H : Hp) : Prop where
  at_ : ∀ p ∈ cs, H p.2 = some (.tbl #[])
theorem law_goT {P : Program} {w : World} {K : PySem.W.Frag} {mg mb : Str → Option Value} {CX : CXT} {k : Nat} {fa a : Addr} {cs : List (Addr × Addr)} {fd : FuncData} {x : Str} {sp : Sp} {s₁ : Shared} {vs : List Value} {H : Hp}
    (KX : K.In s₁.heap) (hns : s₁.heap.Ns mainGlobals mg) (hb : s₁.heap.Ns builtinsNs mb) (hbb : ∀ x : Str, x ≠ "__name__" → mb x = bootBuiltins x) (hlim : s₁.heap.NoLimit) (hg : s₁.gens = #[])
    (tab : ∀ p ∈ cs, s₁.heap.get? p.2 = some { cls := .none, data := .fields #[] }) (cod : ∀ p ∈ cs, PySem.W.CodeHd s₁.heap p.1 p.2)
    (hbm : ∃ (bm : Addr) (ob : Obj), mg "__builtins__" = some (.ref bm) ∧ bm ≠ builtinsNs ∧ s₁.heap.get? bm = some ob ∧ ob.cls = .type "module" ∧ ob.dict = some builtinsNs ∧ ob.data = .plain)
    (ha : s₁.heap.get? a = some { cls := .type "list", data := .seq vs.toArray }) (hr : RoomG k callerA)
    (F : ∀ base : Heap, K.In base → base.Ns mainGlobals mg → (∀ p ∈ cs, LamX.TabB base mg p.1 p.2) → FnG P w K mg base CX k fa fd [x] sp) (hbind : ∀ (s : Shared) (u : Value), BindsTo s fd ⟨[u], []⟩ [(x, u)])
    (hsp : sp [.ref a] H (fun v _ => v = .bl true) fun _ _ _ => False) (hCX : ∀ e s', CX [] H s₁ (fun _ _ _ => False) e s' → False)
    (hT : Tab0 cs H) (hO : ∀ b, H b = none ∨ b ∈ cs.map (·.2) ∨ ∃ o xs, H b = some (.frz o (.lst xs))) (hok : HOk P w H s₁.heap) (hA : ∀ b, H b ≠ none → b = a ∨ b ∈ cs.map (·.2)) (hK : ∀ b, H b ≠ none → K.lookup b = none) :
    codeAny (model P w) callerA (.call (.ref fa) ⟨[.ref a], []⟩) (fun r s' => r = .ok (.ret (.bool true)) ∧ OldK s₁.heap s'.heap ∧ s'.os = s₁.os ∧ AllBare s'.gens) s₁ := by
  have isT : ∀ b : Addr, b ∈ cs.map (·.2) → s₁.heap.get? b = some { cls := .none, data := .fields #[] } := fun b hb => by
    obtain ⟨p, hp, e⟩ := List.mem_map.mp hb
    rw [← e]
    exact tab p hp
  have un : ∀ {b : Addr} {o : Obj}, s₁.heap.get? b = some o → (∀ zs n, o.data ≠ .seq zs n) → o.data ≠ .fields #[] → H b = none := fun {b o} e h1 h2 => by
    cases q : H b with
    | none => rfl
    | some u =>
      rcases hA b (by rw [q]; exact fun z => nomatch z) with z | z
      · rw [z, ha] at e
        exact (h1 _ _ (congrArg Obj.data (Option.some.inj e)).symm).elim
      · rw [isT b z] at e
        exact (h2 (congrArg Obj.data (Option.some.inj e)).symm).elim
  have nsK : ∀ {b : Addr} {m : Str → Option Value}, s₁.heap.Ns b m → (hidT s₁.heap H).Ns b m := fun {b m} ⟨o, es, ep, e, d, r⟩ =>
    ⟨o, es, ep, hidT_get e (un e (fun zs n z => by rw [d] at z; cases z) (fun z => by rw [d] at z; cases z)), d, r⟩
  have kb : K.In (hidT s₁.heap H) := fun b o e => hidT_get (KX b o e) (by
    cases q : H b with
    | none => rfl
    | some u =>
      rw [hK b (by rw [q]; exact fun z => nomatch z)] at e
      cases e)
  obtain ⟨mc, l1, l2⟩ := hlim
  have tb : ∀ p ∈ cs, LamX.TabB (hidT s₁.heap H) mg p.1 p.2 := fun p hp => by
    refine ⟨?_, ?_, fun z => ?_⟩
    · obtain ⟨o, us, file, tf, flags, tg, inF, text, tt, e1, r1, r2, r3, r4⟩ := cod p hp
      refine ⟨o, us, file, tf, flags, tg, inF, text, tt, hidT_get e1 (un e1 (fun zs n z => by rw [r2] at z; cases z) fun z => ?_), r1, r2, r3, r4⟩
      rw [r2] at z
      cases z
      simp at r3
    · obtain ⟨bm, ob, b1, b2, b3, b4, b5, b6⟩ := hbm
      refine ⟨bm, ob, b1, b2, fun q => ?_, fun q => ?_, hidT_get b3 (un b3 (fun zs n z => by rw [b6] at z; cases z) fun z => by rw [b6] at z; cases z), b4, b5, b6⟩
      · obtain ⟨o, es, ep, e, hd, _⟩ := hns
        rw [q, e] at b3
        cases b3
        rw [hd] at b6
        cases b6
      · rw [q, tab p hp] at b3
        cases b3
        cases b6
    · obtain ⟨o, es, ep, e, hd, _⟩ := hns
      rw [z, tab p hp] at e
      cases e
      cases hd
  have e0 : Env0 P w K mg (hidT s₁.heap H) callerA [] s₁ H :=
    ⟨rfl, ⟨kb, nsK hns, ⟨mb, nsK hb, hbb⟩, ⟨mc, nsK l1, l2⟩⟩, fun b o e => of_hidT e, Nat.le_of_eq (hidT_size _ _), trivial, fun b hb => absurd (show b ∈ ([] : List Addr) from hb) List.not_mem_nil, hok, .of_eq hg⟩
  refine codeAny_mono ((F _ kb (nsK hns) tb).run callerA [] s₁ H ⟨[.ref a], []⟩ [.ref a] [.ref a] _ _ hr e0 (hbind s₁ (.ref a)) (.cons rfl .nil) hsp) fun r s' h => ?_
  match r, h with
  | .error e, h => exact (hCX e s' h).elim
  | .ok (.ret u), h =>
    obtain ⟨v, H', os, bare, un', hok', r', q⟩ := h
    obtain rfl : v = .bl true := q
    obtain rfl : u = Value.bool true := r'
    have key : ∀ b o, b ∉ cs.map (·.2) → s₁.heap.get? b = some o → s'.heap.get? b = some o := fun b o nb e => by
      rcases hO b with z | z | ⟨ob, xs, z⟩
      · exact un'.keep b o e z (fun z => absurd (show b ∈ ([] : List Addr) from z) List.not_mem_nil) (fun z => absurd (show b ∈ ([] : List Addr) from z) List.not_mem_nil)
      · exact absurd z nb
      · obtain ⟨e1, _⟩ := hok b _ z
        obtain ⟨e2, _⟩ := hok' b _ (un'.frzs b ob _ z)
        rw [e] at e1
        rw [Option.some.inj e1]
        exact e2
    have more : ∀ p ∈ cs, ∃ m : Array Value, s'.heap.get? p.2 = some { cls := .none, data := .fields m } := fun p hp => by
      obtain ⟨m, z⟩ := un'.tbls p.2 #[] (hT.at_ p hp)
      exact ⟨_, hok' p.2 _ z⟩
    refine ⟨rfl, ⟨fun b o e => ?_, fun b o e => ?_⟩, os, bare⟩
    · by_cases hb : b ∈ cs.map (·.2)
      · obtain ⟨p, hp, ep⟩ := List.mem_map.mp hb
        obtain ⟨m, hm⟩ := more p hp
        rw [← ep] at e ⊢
        rw [tab p hp] at e
        cases e
        exact .inr (.inl ⟨((cod p hp).tab (tab p hp)).isCodeTable, rfl, #[], m, rfl, by rw [Array.empty_append]; exact hm⟩)
      · exact .inl (key b o hb e)
    · by_cases hb : b ∈ cs.map (·.2)
      · obtain ⟨p, hp, ep⟩ := List.mem_map.mp hb
        obtain ⟨m, hm⟩ := more p hp
        rw [← ep]
        exact ⟨_, hm⟩
      · exact ⟨o, key b o hb e⟩
theorem law_callTG {P : Program} {w : World} {K : PySem.W.Frag} {mg mb : Str → Option Value} {CX : CXT} {k : Nat} {fa a : Addr} {cs : List (Addr × Addr)} {fd : FuncData} {x : Str} {sp : Sp} {s₁ : Shared} {vs : List Value} {ns : List Int}
    (KX : K.In s₁.heap) (hns : s₁.heap.Ns mainGlobals mg) (hb : s₁.heap.Ns builtinsNs mb) (hbb : ∀ x : Str, x ≠ "__name__" → mb x = bootBuiltins x) (hlim : s₁.heap.NoLimit) (hg : s₁.gens = #[])
    (tab : ∀ p ∈ cs, s₁.heap.get? p.2 = some { cls := .none, data := .fields #[] }) (nT : ∀ p ∈ cs, K.lookup p.2 = none) (cod : ∀ p ∈ cs, PySem.W.CodeHd s₁.heap p.1 p.2)
    (hbm : ∃ (bm : Addr) (ob : Obj), mg "__builtins__" = some (.ref bm) ∧ bm ≠ builtinsNs ∧ s₁.heap.get? bm = some ob ∧ ob.cls = .type "module" ∧ ob.dict = some builtinsNs ∧ ob.data = .plain)
    (ha : s₁.heap.get? a = some { cls := .type "list", data := .seq vs.toArray }) (hi : IntsAre vs ns) (hl : ns.length ≤ sizeLine) (hr : RoomG k callerA)
    (F : ∀ base : Heap, K.In base → base.Ns mainGlobals mg → (∀ p ∈ cs, LamX.TabB base mg p.1 p.2) → FnG P w K mg base CX k fa fd [x] sp) (hbind : ∀ (s : Shared) (u : Value), BindsTo s fd ⟨[u], []⟩ [(x, u)])
    (hsp : ∀ H : Hp, Tab0 cs H → SqL K H a (ns.map V.int) → sp [.ref a] H (fun v _ => v = .bl true) fun _ _ _ => False) (hCX : ∀ H e s', CX [] H s₁ (fun _ _ _ => False) e s' → False) :
    codeAny (model P w) callerA (.call (.ref fa) ⟨[.ref a], []⟩) (fun r s' => r = .ok (.ret (.bool true)) ∧ OldK s₁.heap s'.heap ∧ s'.os = s₁.os ∧ AllBare s'.gens) s₁ := by
  have rv := vals_ints hi
  have lenV := hi.length
  have isT : ∀ b : Addr, b ∈ cs.map (·.2) → s₁.heap.get? b = some { cls := .none, data := .fields #[] } ∧ K.lookup b = none := fun b hb => by
    obtain ⟨p, hp, e⟩ := List.mem_map.mp hb
    rw [← e]
    exact ⟨tab p hp, nT p hp⟩
  have aT : a ∉ cs.map (·.2) := fun z => by
    have q := (isT a z).1
    rw [ha] at q
    cases congrArg Obj.data (Option.some.inj q)
  have memT : ∀ p ∈ cs, p.2 ∈ cs.map (·.2) := fun p hp => List.mem_map.mpr ⟨p, hp, rfl⟩
  let H0 : Option HO → Hp := fun z b => if b = a then z else if b ∈ cs.map (·.2) then some (.tbl #[]) else none
  have h_a : ∀ z, H0 z a = z := fun z => if_pos rfl
  have h_t : ∀ z b, b ∈ cs.map (·.2) → H0 z b = some (.tbl #[]) := fun z b hb => (if_neg fun e => aT (by rw [← e]; exact hb)).trans (if_pos hb)
  have h_n : ∀ z b, b ≠ a → b ∉ cs.map (·.2) → H0 z b = none := fun z b n hb => (if_neg n).trans (if_neg hb)
  have t0 : ∀ z, Tab0 cs (H0 z) := fun z => ⟨fun p hp => h_t z _ (memT p hp)⟩
  have two : ∀ z b, H0 z b ≠ none → b = a ∨ b ∈ cs.map (·.2) := fun z b h => by
    by_cases h1 : b = a
    · exact .inl h1
    · by_cases h2 : b ∈ cs.map (·.2)
      · exact .inr h2
      · exact (h (h_n z b h1 h2)).elim
  have tok : ∀ z b u, b ∈ cs.map (·.2) → H0 z b = some u → ObjOk P w (H0 z) s₁.heap b u := fun z b u hb e => by
    rw [h_t z b hb] at e
    cases e
    exact (isT b hb).1
  cases hk : K.lookup a with
  | some o =>
    have e := (KX a o hk).symm.trans ha
    obtain rfl := Option.some.inj e
    refine law_goT (H := H0 none) KX hns hb hbb hlim hg tab cod hbm ha hr F hbind (hsp _ (t0 _) (.inr ⟨_, vs.toArray, _, hk, rfl, rfl, rfl, by rw [List.size_toArray, lenV]; exact hl, by simpa using rv⟩)) (hCX _) (t0 _) (fun b => ?_) (fun b u z => ?_) (two _) (fun b z => ?_)
    · by_cases h2 : b ∈ cs.map (·.2)
      · exact .inr (.inl h2)
      · by_cases h1 : b = a
        · exact .inl (by rw [h1]; exact h_a none)
        · exact .inl (h_n _ b h1 h2)
    · rcases two _ b (by rw [z]; exact fun y => nomatch y) with h1 | h2
      · rw [h1, h_a] at z
        cases z
      · exact tok _ b u h2 z
    · rcases two _ b z with h1 | h2
      · rw [h1, h_a] at z
        exact (z rfl).elim
      · exact (isT b h2).2
  | none =>
    refine law_goT (H := H0 (some (.frz { cls := .type "list", data := .seq vs.toArray } (.lst (ns.map V.int))))) KX hns hb hbb hlim hg tab cod hbm ha hr F hbind (hsp _ (t0 _) (.inl (.inr ⟨_, h_a _⟩))) (hCX _) (t0 _) (fun b => ?_) (fun b u z => ?_) (two _) (fun b z => ?_)
    · by_cases h2 : b ∈ cs.map (·.2)
      · exact .inr (.inl h2)
      · by_cases h1 : b = a
        · exact .inr (.inr ⟨_, _, by rw [h1]; exact h_a _⟩)
        · exact .inl (h_n _ b h1 h2)
    · rcases two _ b (by rw [z]; exact fun y => nomatch y) with h1 | h2
      · rw [h1, h_a] at z
        obtain rfl := Option.some.inj z
        rw [h1]
        exact ⟨ha, by rw [List.length_map]; exact hl, vs, _, rv, ha⟩
      · exact tok _ b u h2 z
    · rcases two _ b z with h1 | h2
      · rw [h1]
        exact hk
      · exact (isT b h2).2
/-- the end of a law with tables, over a head by facts -/
theorem walkGT {l : PySem.W.OpenLaw} {n k : Nat} {q : Program} {loose : List Str} {XP : (Str → Option Value) → Heap → Prop} {YP : World → Heap → Prop} {d : DefRec} {CX : CXT} {x : Str}
    (hn : l.most = some n) (hn2 : n ≤ sizeLine) (hdf : d.params.defaults = []) (hr : RoomG k callerA)
    (F : ∀ (w : World) (mg : Str → Option Value) (fa : Addr) (h : Heap), YP w h → h.Ns mainGlobals mg → mg d.name = some (.ref fa) →
      ∃ (K : PySem.W.Frag) (fd : FuncData) (sp : Sp) (cs : List (Addr × Addr)), K.In h ∧ (∀ p ∈ cs, h.get? p.2 = some { cls := .none, data := .fields #[] }) ∧ (∀ p ∈ cs, K.lookup p.2 = none) ∧ (∀ p ∈ cs, PySem.W.CodeHd h p.1 p.2) ∧ (∀ (s : Shared) (u : Value), BindsTo s fd ⟨[u], []⟩ [(x, u)]) ∧
        (∀ (H : Hp) (a : Addr) (ns : List Int), ns.length ≤ n → Tab0 cs H → SqL K H a (ns.map V.int) → sp [.ref a] H (fun v _ => v = .bl true) fun _ _ _ => False) ∧
        ∀ base : Heap, K.In base → base.Ns mainGlobals mg → (∀ p ∈ cs, LamX.TabB base mg p.1 p.2) → FnG l.prog w K mg base CX k fa fd [x] sp)
    (hCX : ∀ (H : Hp) (s : Shared) (e : Value) (s' : Shared), CX [] H s (fun _ _ _ => False) e s' → False) :
    PySem.W.WalkO q loose XP YP l.row.toRowW d [] (fun f vs => PySem.call f vs) := by
  refine Att.attach_call hn hdf fun w s₀ s₁ mg mb fa o pm cd doc a vs ns G Y ho hd hcd hmg hobj hints hlen hg => ?_
  obtain ⟨K, fd, sp, cs, KX, h1, h2, h3, hb, hsp, hF⟩ := F w mg fa _ Y G.T.g hmg
  exact law_callTG KX G.T.g G.T.b G.T.builtins G.T.nolimit hg h1 h2 h3 G.T.bmain hobj hints (Nat.le_trans hlen hn2) hr hF hb (fun H hT hS => hsp H a ns hlen hT hS) fun H e s' => hCX H s₁ e s'
end Gu

set_option Elab.async false
set_option linter.all false
set_option maxRecDepth 100000
set_option maxHeartbeats 4000000
/-! Own layer: defs and methods that may raise, by their names: called where nothing is let out, in a def that lets errors out, in a try's body; by position and by keywords. -/
namespace Ex
open PySem PySem.Spec PySem.Calls PyProof.Rows L2 Gu
theorem passN {X : Cx} : Passes (L2.CX X.prog X.w) X E0 := fun _ _ _ _ _ _ _ ⟨_, _, _, _, _, _, _, _, _, _, _, _, z⟩ => z.elim
theorem passX {X : Cx} {E : XK} (tk : Takes X (fun cls d _ H => E cls d H)) : Passes (L2.CX X.prog X.w) X E := passes_call tk fun _ _ _ _ h => h
structure DfX (P : Program) (w : World) (K : PySem.W.Frag) (mg : Str → Option Value) (base : Heap) (k : Nat) (x : Str) (ps : List Str) (sp : Sp) : Prop where
  ex : ∃ fd, FnOk P w K mg base (L2.CX P w) k (He.ga K x) fd ps sp ∧ Binds K fd ps []
  gl : mg x = some (.ref (He.ga K x))
  kp : PySem.W.keepIn K (.ref (He.ga K x)) = true
structure MfX (P : Program) (w : World) (K : PySem.W.Frag) (mg : Str → Option Value) (base : Heap) (k : Nat) (c m : Str) (ps : List Str) (sp : Sp) : Prop where
  ex : ∃ fd, FnOk P w K mg base (L2.CX P w) k (He.ma K (He.ga K c) m) fd ps sp ∧ Binds K fd ps []
  cl : Cls K (He.ga K c)
  me : Meth K (He.ga K c) m (He.ma K (He.ga K c) m)
/-- .. called by the keywords ks alone behind self; j: the places of the other parameters among the keywords -/
structure MfXK (P : Program) (w : World) (K : PySem.W.Frag) (mg : Str → Option Value) (base : Heap) (k : Nat) (c m : Str) (ps ks : List Str) (j : List Nat) (sp : Sp) : Prop where
  ex : ∃ fd, FnOk P w K mg base (L2.CX P w) k (He.ma K (He.ga K c) m) fd ps sp ∧ ∀ (s : Shared) (u : Value) (ws : List Value), ws.length = ks.length → BindsTo s fd ⟨[u], ks.zip ws⟩ (ps.zip (u :: j.filterMap fun i => ws[i]?))
  cl : Cls K (He.ga K c)
  me : Meth K (He.ga K c) m (He.ma K (He.ga K c) m)
section
variable {X : Cx} {k j : Nat} {x c m : Str} {ps ks : List Str} {ji : List Nat} {sp : Sp} {p pos apos : Pos} {e o : Expr} {es : List Expr} {kws : List Keyword} {t tk : TA} {ta : TE} {E : XK} {W : WX}
theorem pcallX (D : DfX X.prog X.w X.K X.mg X.base k x ps sp) (hr : Room j X.A) (px : Passes (L2.CX X.prog X.w) X E) (ha : PA X (e :: es) t) (hj : k ≤ j := by decide) (hg : Gl X x := by rfl) (hdb : (x == ("__debug__" : Str)) = false := by decide)
    (he : starEach (e :: es) X.env = (false, eval e X.env) :: starEach es X.env := by rfl) (hpl : (backTo pos (starEach es X.env)).any (·.1) = false := by rfl) :
    PE X (.Call (.Name x p) (e :: es) [] pos) (tCall sp [] E t) := by
  obtain ⟨fd, F, b⟩ := D.ex
  exact pe_call F (hr.mono hj) hg D.gl D.kp b .nil px ha hdb he hpl
theorem pmethX {pl : Sem Bool} (D : MfX X.prog X.w X.K X.mg X.base k c m ps sp) (hr : Room j X.A) (px : Passes (L2.CX X.prog X.w) X E) (he : PE X o ta) (ha : PA X (e :: es) t) (hj : k ≤ j := by decide)
    (hst : starEach (e :: es) X.env = (false, eval e X.env) :: starEach es X.env := by rfl) (hpl : (backTo pos (starEach es X.env)).any (·.1) = false := by rfl)
    (ht : eval (.Call (.Attribute o m apos) (e :: es) [] pos) X.env = (do
      let ov ← eval o X.env
      standAt apos.atName
      let (f, first) ← holding [ov] (getMethod ov m pl)
      callWith pos f first (backTo pos (starEach (e :: es) X.env)) (backToKw pos (keywordEach [] X.env))) := by rfl) :
    PE X (.Call (.Attribute o m apos) (e :: es) [] pos) (tMeth (He.ga X.K c) m sp [] E ta t) := by
  obtain ⟨fd, F, b⟩ := D.ex
  exact pe_meth he D.cl D.me F (hr.mono hj) b .nil px ha hst hpl ht
/-- within a comprehension's block the reading names K by hand -/
theorem pmethXB {pl : Sem Bool} (K : PySem.W.Frag) (D : MfX X.prog X.w X.K X.mg X.base k c m ps sp) (hr : Room j X.A) (px : Passes (L2.CX X.prog X.w) X E) (he : PE X o ta) (ha : PA X (e :: es) t) (hj : k ≤ j := by decide) (hK : X.K = K := by rfl)
    (hst : starEach (e :: es) X.env = (false, eval e X.env) :: starEach es X.env := by rfl) (hpl : (backTo pos (starEach es X.env)).any (·.1) = false := by rfl)
    (ht : eval (.Call (.Attribute o m apos) (e :: es) [] pos) X.env = (do
      let ov ← eval o X.env
      standAt apos.atName
      let (f, first) ← holding [ov] (getMethod ov m pl)
      callWith pos f first (backTo pos (starEach (e :: es) X.env)) (backToKw pos (keywordEach [] X.env))) := by rfl) :
    PE X (.Call (.Attribute o m apos) (e :: es) [] pos) (tMeth (He.ga K c) m sp [] E ta t) := by
  subst hK
  exact pmethX D hr px he ha hj hst hpl ht
def tMethKw (C : Addr) (m : Str) (sp : Sp) (n : Nat) (j : List Nat) (E : XK) (ta : TE) (tk : TA) : TE := fun σ H Q => ta σ H fun x H1 => ∃ a dx fs, x = .ref a ∧ H1 a = some (.ins C dx fs) ∧ fs.lookup m = none ∧
  tk σ H1 fun zs H2 => zs.length = n ∧ sp (x :: j.filterMap fun i => zs[i]?) H2 Q E
theorem pmethXK {pl : Sem Bool} (D : MfXK X.prog X.w X.K X.mg X.base k c m ps ks ji sp) (hr : Room j X.A) (px : Passes (L2.CX X.prog X.w) X E) (he : PE X o ta) (hkw : PK X kws tk) (hj : k ≤ j := by decide)
    (hall : (backToKw pos (keywordEach kws X.env)).all (·.1.isSome) = true := by rfl) (hks : (backToKw pos (keywordEach kws X.env)).filterMap (·.1) = ks := by rfl)
    (hpl : ((backTo pos (starEach [] X.env)).any (·.1) || (backToKw pos (keywordEach kws X.env)).any (·.1.isNone)) = false := by rfl)
    (ht : eval (.Call (.Attribute o m apos) [] kws pos) X.env = (do
      let ov ← eval o X.env
      standAt apos.atName
      let (f, first) ← holding [ov] (getMethod ov m pl)
      callWith pos f first (backTo pos (starEach [] X.env)) (backToKw pos (keywordEach kws X.env))) := by rfl) :
    PE X (.Call (.Attribute o m apos) [] kws pos) (tMethKw (He.ga X.K c) m sp ks.length ji E ta tk) := by
  obtain ⟨fd, F, b⟩ := D.ex
  refine ⟨fun pins s σ H Q I h => PySem.W.methodCall_KW (pl := pl) (thn (he.run pins s σ H _ I h) fun u s1 ⟨x, H1, I1, rx, a, dx, fs, ex, ea, l, q⟩ => ?_) ht⟩
  subst ex
  obtain rfl : u = Value.ref a := rx
  refine getmeth_ok I1 ea D.cl D.me l (PySem.W.callWith_KW0 (first := [.ref a]) (h₀ := X.base) I.ok.mod.kin D.me.kp hall (thn (hkw.run pos pins s1 σ H1 _ I1 q) fun ws s2 ⟨zs, H2, I2, rz, hz, q2⟩ => ⟨I2.kIn, ?_⟩) hpl)
  rw [hks]
  have rv : Vals (V.ref a :: ji.filterMap fun i => zs[i]?) (Value.ref a :: ji.filterMap fun i => ws[i]?) := .cons rfl (vals_pick rz ji)
  refine wpAny_call (codeAny_mono (F.run X.A X.stack s2 H2 ⟨[Value.ref a] ++ [], ks.zip ws⟩ _ _ Q E (hr.mono hj) I2.env0 (b s2 (.ref a) ws (rz.length.symm.trans hz)) rv q2) fun r s' hq => ?_)
  match r, hq with
  | .error e, hq => exact px pins σ H2 s2 e s' I2 hq
  | .ok (.ret u), hq => exact I2.after hq
end
section
variable {X : Cx} {k j : Nat} {c m : Str} {ps : List Str} {sp : Sp} {pos apos : Pos} {e o : Expr} {es : List Expr} {t : TA} {ta : TE} {W : WX}
/-- o.m(e, ..) in a try's body -/
def tMethT (C : Addr) (m : Str) (sp : Sp) (E : L2.St → XK) (ta : TE) (t : TA) : TE := fun σ H Q => ta σ H fun x H1 => ∃ a dx fs, x = .ref a ∧ H1 a = some (.ins C dx fs) ∧ fs.lookup m = none ∧ t σ H1 fun vs H2 => sp (x :: vs) H2 Q (E σ)
theorem pmethT {pl : Sem Bool} (D : MfX X.prog X.w X.K X.mg X.base k c m ps sp) (hr : Room j X.A) (tk : Takes X W) (he : PE X o ta) (ha : PA X (e :: es) t) (hj : k ≤ j := by decide)
    (hst : starEach (e :: es) X.env = (false, eval e X.env) :: starEach es X.env := by rfl) (hpl : (backTo pos (starEach es X.env)).any (·.1) = false := by rfl)
    (ht : eval (.Call (.Attribute o m apos) (e :: es) [] pos) X.env = (do
      let ov ← eval o X.env
      standAt apos.atName
      let (f, first) ← holding [ov] (getMethod ov m pl)
      callWith pos f first (backTo pos (starEach (e :: es) X.env)) (backToKw pos (keywordEach [] X.env))) := by rfl) :
    PE X (.Call (.Attribute o m apos) (e :: es) [] pos) (tMethT (He.ga X.K c) m sp (WE W) ta t) := by
  obtain ⟨fd, F, b⟩ := D.ex
  refine ⟨fun pins s σ H Q I h => PySem.W.methodCall_KW (pl := pl) (thn (he.run pins s σ H _ I h) fun u s1 ⟨x, H1, I1, rx, a, dx, fs, ex, ea, l, q⟩ => ?_) ht⟩
  subst ex
  obtain rfl : u = Value.ref a := rx
  refine getmeth_ok I1 ea D.cl D.me l (PySem.W.callWith_K (first := [.ref a]) (h₀ := X.base) I.ok.mod.kin D.me.kp (thn (ha.run pos pins s1 σ H1 _ I1 q) fun us s2 ⟨vs, H2, I2, r, q2⟩ => ⟨I2.kIn, ?_⟩) hst hpl)
  exact run_fnS (E := WE W) (us := .ref a :: us) (vs := .ref a :: vs) F (hr.mono hj) b (passAt tk σ) I2 (.cons rfl r) q2
end
/-! ### facts of an error's class over any base -/
def oexGB (B : String) (K : PySem.W.Frag) (C : Addr) : Bool := match K.lookup C with
  | some ⟨.type "type", _, .cls cd, sl⟩ => (match cd.mro, sl.toList with
    | .ref c :: bm, [_, _, _, _, some (.builtin n), _] => (c == C && n == B ++ ".__new__") && ((!cd.hasDel && cd.hasDict) && refsB (tailE B) bm)
    | _, _ => false)
  | _ => false
theorem oexGB_ok {B : String} {K : PySem.W.Frag} {C : Addr} (h : oexGB B K C = true) :
    ∃ nm q N bs bm sn sub ab col dd k0 k1 k2 k3 k5, K.lookup C = some (excClassObj nm q C N bs bm true sn sub ab col dd k0 k1 k2 k3 k5 (B ++ ".__new__")) ∧ refsB (tailE B) bm = true := by
  unfold oexGB at h
  split at h
  · rename_i dd cd sl ho
    split at h
    · rename_i c bm k0 k1 k2 k3 n k5 hm hs
      obtain ⟨⟨h1, h2⟩, h3⟩ := (He.ba h).imp_left He.ba
      obtain ⟨h4, h5⟩ := He.ba h3
      obtain ⟨h6, h7⟩ := He.ba h4
      have e1 : c = C := beq_iff_eq.mp h1
      have e2 : n = B ++ ".__new__" := beq_iff_eq.mp h2
      have e3 : cd.hasDel = false := by simpa using h6
      subst e1 e2
      obtain ⟨nm, bs, mro, ns, qn, hd, sn, sub, ab, col, del⟩ := cd
      dsimp only at hm e3 h7
      subst hm e3 h7
      have e4 : sl = #[k0, k1, k2, k3, some (.builtin (B ++ ".__new__")), k5] := by
        obtain ⟨l⟩ := sl
        simp only at hs
        rw [hs]
      subst e4
      exact ⟨nm, qn, ns, bs, bm, sn, sub, ab, col, dd, k0, k1, k2, k3, k5, ho, h5⟩
    · cases h
  · cases h
def bOf (a : Option Bool) (b : Bool) : Bool := decide (a = some b)
theorem bOf_ok {a : Option Bool} {b : Bool} (h : bOf a b = true) : a = some b := of_decide_eq_true h
/-- what the rules ask of an error's class at C, over B, with the field n -/
def errG (B : String) (K : PySem.W.Frag) (C : Addr) (n : Str) : Bool := oexGB B K C && (He.eqO (PySem.W.findIn K (.ref C) "__setattr__") (some (some (.builtin "object.__setattr__"))) && (bOf (PySem.W.subIn K (.ref C) (.type "BaseException")) true &&
  (decide (PySem.W.typeIn K (.ref C) = some (.type "type")) && (PySem.W.keepIn K (.ref C) && (xfB K C && (He.eqO (PySem.W.findIn K (.ref C) "__class__") (some (some (.builtin "object.__class__"))) &&
  (He.eqO (PySem.W.specialIn K (.builtin "object.__class__") "__get__") (some (some (.builtin "getset_descriptor.__get__"))) && (bOf (PySem.W.takesIn K (.builtin "object.__class__")) true && (bOf (PySem.W.mroIn K C (.type "object")) true &&
  (He.eqO (PySem.W.findIn K (.ref C) n) (some none) && (He.eqO (PySem.W.findIn K (.ref C) "__init__") (some (some (.ref (He.ma K C "__init__")))) && (decide (PySem.W.typeIn K (.ref (He.ma K C "__init__")) = some (.type "function")) && bOf (PySem.W.exmOne K (.ref C) (.ref C)) true))))))))))))
structure ErrG (B : String) (K : PySem.W.Frag) (C : Addr) (n : Str) : Prop where
  ox : OexG B (tailE B) K C
  xf : XfC K C
  ec : ExcC K C
  no : PySem.W.findIn K (.ref C) n = some none
  ii : PySem.W.findIn K (.ref C) "__init__" = some (some (.ref (He.ma K C "__init__")))
  ti : PySem.W.typeIn K (.ref (He.ma K C "__init__")) = some (.type "function")
  em : PySem.W.exmOne K (.ref C) (.ref C) = some true
theorem errG_ok {B : String} {K : PySem.W.Frag} {C : Addr} {n : Str} (b : BaseE B (tailE B)) (h : errG B K C n = true) : ErrG B K C n := by
  obtain ⟨a1, h⟩ := He.ba h
  obtain ⟨a2, h⟩ := He.ba h
  obtain ⟨a3, h⟩ := He.ba h
  obtain ⟨a4, h⟩ := He.ba h
  obtain ⟨a5, h⟩ := He.ba h
  obtain ⟨a6, h⟩ := He.ba h
  obtain ⟨a7, h⟩ := He.ba h
  obtain ⟨a8, h⟩ := He.ba h
  obtain ⟨a9, h⟩ := He.ba h
  obtain ⟨a10, h⟩ := He.ba h
  obtain ⟨a11, h⟩ := He.ba h
  obtain ⟨a12, h⟩ := He.ba h
  obtain ⟨a13, a14⟩ := He.ba h
  have x := xfB_ok a6
  exact ⟨⟨b, oexGB_ok a1, He.eqO_ok a2, bOf_ok a3, of_decide_eq_true a4, a5⟩, x, ⟨x.ga, x.gg, x.exC, x.hdC, He.eqO_ok a7, He.eqO_ok a8, bOf_ok a9, bOf_ok a10⟩, He.eqO_ok a11, He.eqO_ok a12, of_decide_eq_true a13, bOf_ok a14⟩
/-- an error's __init__ with one field -/
def spErr (C : Addr) (n : Str) : Sp := fun vs H Q _ => ∃ (a : Addr) (v : V), vs = [.ref a, v] ∧ H a = some (exo a C none) ∧ ∀ dx, H dx = none → dx ≠ a → Q .non (upd (upd H dx (exd dx [(n, v)])) a (exo a C (some dx)))
/-- the error's maker, for a raise -/
structure Ei (P : Program) (w : World) (K : PySem.W.Frag) (mg : Str → Option Value) (base : Heap) (c n : Str) : Prop where
  ex : ∃ fd, FnOk P w K mg base CX0 1 (He.ma K (He.ga K c) "__init__") fd ["self", n] (spErr (He.ga K c) n) ∧ Binds K fd ["self", n] []
theorem heap_err {H : Hp} {a dx : Addr} {fs : List (Str × V)} {o1 o2 o3 : HO} (ha : H a = none) (hd : H dx = none) : Same H (upd (del (upd (upd (upd H a o1) dx o2) a o3) a) dx (.xd fs)) := fun b o e => by
  have nb : b ≠ a := ne_of_none e ha
  have nd : b ≠ dx := ne_of_none e hd
  rw [upd_ne nd, del_ne nb, upd_ne nb, upd_ne nd, upd_ne nb]
  exact e
/-- what is asked at a raise of C(v): that the def's own wish of errors holds of it -/
theorem raise_ok {K : PySem.W.Frag} {c n : Str} {v : V} {H : Hp} {E : XK} (q : ∀ d H', H d = none → Same H H' → H' d = some (.xd [(n, v)]) → E (.ref (He.ga K c)) (some d) H') :
    ∀ a, H a = none → spErr (He.ga K c) n (.ref a :: ([v] ++ [])) (upd H a (exo a (He.ga K c) none))
      (fun u H2 => u = .non ∧ ∃ (d : Addr) (fs : List (Str × V)), H2 a = some (exo a (He.ga K c) (some d)) ∧ H2 d = some (exd d fs) ∧ H d = none ∧ E (.ref (He.ga K c)) (some d) (upd (del H2 a) d (.xd fs))) (fun _ _ _ => False) := fun a ha => by
  refine ⟨a, v, rfl, upd_same, fun dx hdx ne => ⟨rfl, dx, [(n, v)], upd_same, ?_, ?_, ?_⟩⟩
  · rw [upd_ne ne, upd_same]
  · rw [upd_ne ne] at hdx
    exact hdx
  · rw [upd_ne ne] at hdx
    exact q dx _ hdx (heap_err ha hdx) upd_same
end Ex

set_option Elab.async false
set_option linter.all false
set_option maxRecDepth 100000
set_option maxHeartbeats 4000000
namespace K13
open PySem PySem.Spec PyProof.Rows L2 Gu Ex
def top (i : Nat) : Stmt := PySem.Challenge.pw_exactroom_k13_whole_pieces_of_objects.main.body.getD i (.Pass ⟨0, 0, 0, 0⟩)
abbrev FnP (K : PySem.W.Frag) (x qual : Str) (st : Stmt) (f : Addr) (fd : FuncData) : Prop := FunD K x qual (defArgs st) (defBody st) (defScope st) [] [] f fd
abbrev cS (K : PySem.W.Frag) : Addr := He.ga K "Sizes"
abbrev cN (K : PySem.W.Frag) : Addr := He.ga K "InvalidNumber"
abbrev cL (K : PySem.W.Frag) : Addr := He.ga K "InvalidLevel"
abbrev cT (K : PySem.W.Frag) : Addr := He.ga K "TooManyPieces"
/-- what the top has left -/
structure Tx (K : PySem.W.Frag) (mg : Str → Option Value) : Prop where
  n_len : mg "len" = none
  n_isinstance : mg "isinstance" = none
  n_int : mg "int" = none
  n_bool : mg "bool" = none
  n_list : mg "list" = none
  n_range : mg "range" = none
  n_divmod : mg "divmod" = none
  n_abs : mg "abs" = none
  n_max : mg "max" = none
  n_min : mg "min" = none
  n_all : mg "all" = none
  n_repr : mg "repr" = none
  n_sum : mg "sum" = none
  n_reversed : mg "reversed" = none
  n_enumerate : mg "enumerate" = none
  n_ArithmeticError : mg "ArithmeticError" = none
  g_Sizes : mg "Sizes" = some (.ref (cS K))
  cl : Cls K (cS K)
  nSL : NoAttr K (cS K) "size_list"
  rd : ClX.CRead K (cS K) (.type "type")
  kS : ∃ u, ClX.CVal K (cS K) (.type "type") "MAX_SIZE" (.int 1000000000) u
  kN : ∃ u, ClX.CVal K (cS K) (.type "type") "MAX_SIZES" (.int 8) u
  kC : ∃ u, ClX.CVal K (cS K) (.type "type") "MAX_CELLS" (.int 1000000000000) u
  kP : ∃ u, Con K (cS K) "MAX_PIECES" (.int 64) u
  sys : SysOk K
  g_InvalidNumber : mg "InvalidNumber" = some (.ref (cN K))
  g_InvalidLevel : mg "InvalidLevel" = some (.ref (cL K))
  g_TooManyPieces : mg "TooManyPieces" = some (.ref (cT K))
  g_NoRoom : mg "NoRoom" = some (.ref (He.ga K "NoRoom"))
  g_RoomError : mg "RoomError" = some (.ref (He.ga K "RoomError"))
  eN : ErrG "ValueError" K (cN K) "value"
  eL : ErrG "ValueError" K (cL K) "value"
  eT : ErrG "ArithmeticError" K (cT K) "limit"
  emL : PySem.W.exmOne K (.ref (cL K)) (.ref (cN K)) = some false
  kA : PySem.W.kitOne K (.ref (cT K)) (.type "ArithmeticError") = some true
  kO : PySem.W.kitAny K (.ref (cT K)) [.ref (He.ga K "NoRoom"), .ref (He.ga K "RoomError")] = some false
theorem bT {c : Prop} [Decidable c] (h : c) : V.bl (decide c) = V.bl true := congrArg V.bl (decide_eq_true h)
theorem bF {c : Prop} [Decidable c] (h : ¬ c) : V.bl (decide c) = V.bl false := congrArg V.bl (decide_eq_false h)
theorem ifT {c : Bool} {A B : Prop} (h : c = true) (x : A) : if c = true then A else B := by rw [h]; exact iteT x
theorem ifF {c : Bool} {A B : Prop} (h : c = false) (x : B) : if c = true then A else B := by rw [h]; exact iteF x
theorem vT {a b : Int} (h : a = b) : decide (V.int a = V.int b) = true := decide_eq_true (by rw [h])
theorem vF {a b : Int} (h : a ≠ b) : decide (V.int a = V.int b) = false := decide_eq_false fun z => h (V.int.inj z)
theorem same_upd {H : Hp} {p : Addr} {o : HO} (h : H p = none) : Same H (upd H p o) := fun b x e => by
  rw [upd_ne (ne_of_none e h)]
  exact e
/-- values of any kind -/
inductive Any (H : Hp) : V → Prop
  | non : Any H .non
  | bl (b : Bool) : Any H (.bl b)
  | int (i : Int) : Any H (.int i)
  | str (x : Str) : (x.length ≤ 1000 ∧ ∀ c ∈ x.cps.toList, c < 1114112) → Any H (.str x)
  | lst {a : Addr} {xs : List V} : H a = some (.lst xs) → Any H (.ref a)
  | tup {a : Addr} {xs : List V} : H a = some (.tup xs) → Any H (.ref a)
  | dct {a : Addr} {kvs : List (Key × V)} : H a = some (.dK kvs) → Any H (.ref a)
def isI : V → Bool
  | .int _ => true
  | _ => false
def isB : V → Bool
  | .bl _ => true
  | _ => false
def isS : V → Bool
  | .str _ => true
  | _ => false
theorem Any.ty {K : PySem.W.Frag} {H : Hp} {v : V} (h : Any H v) : ∃ T, TyX K H v (.type T) ∧ kitB T "int" = some (isI v || isB v) ∧ kitB T "bool" = some (isB v) ∧ kitB T "str" = some (isS v) := by
  cases h with
  | non => exact ⟨"NoneType", .base .non, (show kitB "NoneType" "int" = some false by decide +kernel), (show kitB "NoneType" "bool" = some false by decide +kernel), (show kitB "NoneType" "str" = some false by decide +kernel)⟩
  | bl b => exact ⟨"bool", .base (.bl b), (show kitB "bool" "int" = some true by decide +kernel), (show kitB "bool" "bool" = some true by decide +kernel), (show kitB "bool" "str" = some false by decide +kernel)⟩
  | int i => exact ⟨"int", .base (.int i), (show kitB "int" "int" = some true by decide +kernel), (show kitB "int" "bool" = some false by decide +kernel), (show kitB "int" "str" = some false by decide +kernel)⟩
  | str x _ => exact ⟨"str", .base (.str x), (show kitB "str" "int" = some false by decide +kernel), (show kitB "str" "bool" = some false by decide +kernel), (show kitB "str" "str" = some true by decide +kernel)⟩
  | lst e => exact ⟨"list", .base (.lst e), (show kitB "list" "int" = some false by decide +kernel), (show kitB "list" "bool" = some false by decide +kernel), (show kitB "list" "str" = some false by decide +kernel)⟩
  | tup e => exact ⟨"tuple", .base (.tup e), (show kitB "tuple" "int" = some false by decide +kernel), (show kitB "tuple" "bool" = some false by decide +kernel), (show kitB "tuple" "str" = some false by decide +kernel)⟩
  | dct e => exact ⟨"dict", .base (.dK e), (show kitB "dict" "int" = some false by decide +kernel), (show kitB "dict" "bool" = some false by decide +kernel), (show kitB "dict" "str" = some false by decide +kernel)⟩
theorem Any.same {H H' : Hp} {v : V} (h : Any H v) (s : Same H H') : Any H' v := by
  cases h with
  | non => exact .non
  | bl b => exact .bl b
  | int i => exact .int i
  | str x l => exact .str x l
  | lst e => exact .lst (s _ _ e)
  | tup e => exact .tup (s _ _ e)
  | dct e => exact .dct (s _ _ e)
def cellsB : V → Bool
  | .int i => decide (1 ≤ i ∧ i ≤ 1000000000000)
  | _ => false
section
variable {P : Program} {w : World} {K : PySem.W.Frag} {mg : Str → Option Value} {base : Heap} {f : Addr} {fd : FuncData}
def spInt : Sp := fun vs H Q _ => ∃ v : V, vs = [v] ∧ Any H v ∧ Q (.bl (isI v)) H
theorem sc_is_integer : FnScope ["value"] ["value"] (defScope (top 9)) := ⟨rfl, rfl, rfl, by decide +kernel, rfl, by decide +kernel, by decide +kernel⟩
theorem ok_is_integer (T : Tx K mg) (F : FnP K "is_integer" "is_integer" (top 9) f fd) : FnOk P w K mg base CX0 1 f fd ["value"] spInt := by
  refine F.ok sc_is_integer (fun vs H Q E h => ?_) (fun cdv A outer s H vs Q E hr h => ⟨_, PSs.nox (pss_one (ps_ret (pe_and (pe_callB call_isi (by rfl) T.n_isinstance (by decide +kernel) (pa_cons (pv 0) (pa_cons (pe_bltn (v := .ty "int") (by rfl) T.n_int (by decide +kernel) rfl) pa_nil))) (pe_one (pe_not (pe_callB call_isi (by rfl) T.n_isinstance (by decide +kernel) (pa_cons (pv 0) (pa_cons (pe_bltn (v := .ty "bool") (by rfl) T.n_bool (by decide +kernel) rfl) pa_nil)))))))), ?_⟩)
  · obtain ⟨v, rfl, _⟩ := h
    rfl
  · obtain ⟨v, rfl, hv, q⟩ := h
    obtain ⟨Ty, ty, k1, k2, _⟩ := hv.ty (K := K)
    refine ⟨_, rfl, _, _, _, _, _, rfl, .ty "int", ty, kit_ty k1, _, rfl, ?_⟩
    cases e : (isI v || isB v) with
    | true =>
      refine iteT ⟨_, rfl, _, _, _, _, _, rfl, .ty "bool", ty, kit_ty k2, _, rfl, ?_⟩
      have e2 : (!isB v) = isI v := by cases v <;> first | rfl | cases e
      rw [e2]
      exact q
    | false =>
      have e2 : isI v = false := by cases v <;> first | rfl | cases e
      rw [e2] at q
      exact iteF q
def spCells : Sp := fun vs H Q _ => ∃ v : V, vs = [v] ∧ Any H v ∧ Q (.bl (cellsB v)) H
theorem sc_is_cells : FnScope ["value"] ["value"] (defScope (top 10)) := ⟨rfl, rfl, rfl, by decide +kernel, rfl, by decide +kernel, by decide +kernel⟩
theorem ok_is_cells (T : Tx K mg) (D_is_integer : Df P w K mg base 1 "is_integer" ["value"] spInt) (F : FnP K "is_cells" "is_cells" (top 10) f fd) : FnOk P w K mg base CX0 2 f fd ["value"] spCells := by
  refine F.ok sc_is_cells (fun vs H Q E h => ?_) (fun cdv A outer s H vs Q E hr h => ⟨_, PSs.nox (pss_one (ps_ret (pe_and (pcall D_is_integer hr (pa_cons (pv 0) pa_nil)) (pe_one (pe_chain op_le op_le pe_int (pv 0) (ClX.pe_cval (pe_glob (v := .ref _) rfl T.g_Sizes rfl))))))), ?_⟩)
  · obtain ⟨v, rfl, _⟩ := h
    rfl
  · obtain ⟨v, rfl, hv, q⟩ := h
    obtain ⟨u, cC⟩ := T.kC
    refine ⟨_, rfl, v, rfl, hv, _, rfl, ?_⟩
    cases v with
    | int i =>
      refine iteT ⟨_, rfl, _, _, rfl, rfl, _, rfl, ?_⟩
      by_cases h1 : (1 : Int) ≤ i
      · refine ifT (decide_eq_true h1) ⟨_, _, _, _, rfl, T.rd, cC, _, _, rfl, rfl, ?_⟩
        have e : cellsB (.int i) = decide (i ≤ 1000000000000) := by
          show decide (1 ≤ i ∧ i ≤ 1000000000000) = _
          by_cases h2 : i ≤ 1000000000000
          · rw [decide_eq_true ⟨h1, h2⟩, decide_eq_true h2]
          · rw [decide_eq_false fun z => h2 z.2, decide_eq_false h2]
        rw [e] at q
        exact q
      · have e : cellsB (.int i) = false := decide_eq_false fun z => h1 z.1
        rw [e] at q
        exact ifF (decide_eq_false h1) q
    | _ => exact iteF q
theorem sc_InvalidNumber_init : FnScope ["self", "value"] ["self", "value"] (defScope (inClass (top 5) 0)) := ⟨rfl, rfl, rfl, by decide +kernel, rfl, by decide +kernel, by decide +kernel⟩
theorem ok_errN (T : Tx K mg) (F : FnP K "__init__" "InvalidNumber.__init__" (inClass (top 5) 0) f fd) : FnOk P w K mg base CX0 1 f fd ["self", "value"] (spErr (cN K) "value") := by
  refine F.ok sc_InvalidNumber_init (fun vs H Q E h => ?_) (fun cdv A outer s H vs Q E hr h => ⟨_, PSs.nox (pss_one (ps_fst (B := "ValueError") (tl := tailE "ValueError") (pv 0) (pv 1))), ?_⟩)
  · obtain ⟨a, v, rfl, _⟩ := h
    rfl
  · obtain ⟨a, v, rfl, ha, q⟩ := h
    exact ⟨_, rfl, _, rfl, a, cN K, rfl, T.eN.ox, T.eN.no, ha, q⟩
theorem sc_InvalidLevel_init : FnScope ["self", "value"] ["self", "value"] (defScope (inClass (top 4) 0)) := ⟨rfl, rfl, rfl, by decide +kernel, rfl, by decide +kernel, by decide +kernel⟩
theorem ok_errL (T : Tx K mg) (F : FnP K "__init__" "InvalidLevel.__init__" (inClass (top 4) 0) f fd) : FnOk P w K mg base CX0 1 f fd ["self", "value"] (spErr (cL K) "value") := by
  refine F.ok sc_InvalidLevel_init (fun vs H Q E h => ?_) (fun cdv A outer s H vs Q E hr h => ⟨_, PSs.nox (pss_one (ps_fst (B := "ValueError") (tl := tailE "ValueError") (pv 0) (pv 1))), ?_⟩)
  · obtain ⟨a, v, rfl, _⟩ := h
    rfl
  · obtain ⟨a, v, rfl, ha, q⟩ := h
    exact ⟨_, rfl, _, rfl, a, cL K, rfl, T.eL.ox, T.eL.no, ha, q⟩
theorem sc_TooManyPieces_init : FnScope ["self", "limit"] ["self", "limit"] (defScope (inClass (top 7) 0)) := ⟨rfl, rfl, rfl, by decide +kernel, rfl, by decide +kernel, by decide +kernel⟩
theorem ok_errT (T : Tx K mg) (F : FnP K "__init__" "TooManyPieces.__init__" (inClass (top 7) 0) f fd) : FnOk P w K mg base CX0 1 f fd ["self", "limit"] (spErr (cT K) "limit") := by
  refine F.ok sc_TooManyPieces_init (fun vs H Q E h => ?_) (fun cdv A outer s H vs Q E hr h => ⟨_, PSs.nox (pss_one (ps_fst (B := "ArithmeticError") (tl := tailE "ArithmeticError") (pv 0) (pv 1))), ?_⟩)
  · obtain ⟨a, v, rfl, _⟩ := h
    rfl
  · obtain ⟨a, v, rfl, ha, q⟩ := h
    exact ⟨_, rfl, _, rfl, a, cT K, rfl, T.eT.ox, T.eT.no, ha, q⟩
def spCheckC (K : PySem.W.Frag) : Sp := fun vs H Q E => ∃ v : V, vs = [v] ∧ Any H v ∧ (cellsB v = true → Q .non H) ∧ (cellsB v = false → ∀ d H', H d = none → Same H H' → H' d = some (.xd [("value", v)]) → E (.ref (cN K)) (some d) H')
theorem sc_check_cells : FnScope ["value"] ["value"] (defScope (top 11)) := ⟨rfl, rfl, rfl, by decide +kernel, rfl, by decide +kernel, by decide +kernel⟩
theorem ok_check_cells (T : Tx K mg) (D_is_cells : Df P w K mg base 2 "is_cells" ["value"] spCells) (M : Ei P w K mg base "InvalidNumber" "value") (F : FnP K "check_cells" "check_cells" (top 11) f fd) : FnOk P w K mg base (L2.CX P w) 4 f fd ["value"] (spCheckC K) := by
  obtain ⟨fdI, FI, bI⟩ := M.ex
  refine F.ok sc_check_cells (fun vs H Q E h => ?_) (fun cdv A outer s H vs Q E hr h => ⟨_, (pss_one (ps_if (pt_not (pt_val (pcall D_is_cells hr (pa_cons (pv 0) pa_nil)))) (pss_one (ps_raise rfl (takes_of (E := E) rfl rfl rfl rfl) (pmk_oexG T.eN.ox T.eN.ii T.eN.ti FI (hr.mono (by decide)) bI .nil pass0 rfl T.g_InvalidNumber (pa_cons (pv 0) pa_nil)))) pss_nil)), ?_⟩)
  · obtain ⟨v, rfl, _⟩ := h
    rfl
  · obtain ⟨v, rfl, hv, q1, q2⟩ := h
    refine ⟨_, rfl, v, rfl, hv, _, rfl, ?_⟩
    cases e : cellsB v with
    | true => exact iteF (q1 e)
    | false => exact iteT ⟨_, rfl, (by show 1 ≤ 1000; decide), raise_ok (q2 e)⟩
end
end K13

set_option Elab.async false
set_option linter.all false
set_option maxRecDepth 100000
set_option maxHeartbeats 4000000
namespace K13
open PySem PySem.Spec PyProof.Rows L2 Gu Ex
/-- a list of sizes -/
structure Good (ns : List Int) : Prop where
  len : 1 ≤ ns.length ∧ ns.length ≤ 8
  one : ns[0]? = some 1
  rng : ∀ (i : Nat) x, ns[i]? = some x → 1 ≤ x ∧ x ≤ 1000000000
  up : ∀ (i : Nat) x y, ns[i]? = some x → ns[i + 1]? = some y → x < y ∧ y % x = 0
def szF (l : Addr) : List (Str × V) := [("size_list", V.ref l)]
theorem szF_get (l : Addr) : (szF l).lookup ("size_list" : Str) = some (.ref l) := by simp [szF, List.lookup]
theorem szF_no (l : Addr) {m : Str} (h : (m == ("size_list" : Str)) = false) : (szF l).lookup m = none := by simp [szF, List.lookup, h]
/-- at p an object of Sizes with the list ns -/
def SzAt (C : Addr) (H : Hp) (p : Addr) (ns : List Int) : Prop := ∃ dx l, H p = some (.ins C dx (szF l)) ∧ H l = some (.lst (ns.map V.int))
theorem putF_new (l : Addr) : putF "size_list" (V.ref l) [] = szF l := rfl
section
variable {P : Program} {w : World} {K : PySem.W.Frag} {mg : Str → Option Value} {base : Heap} {f : Addr} {fd : FuncData}
/-- a good list at a, a place in it -/
def spProblem (K : PySem.W.Frag) : Sp := fun vs H Q _ => ∃ (a : Addr) (ns : List Int) (p : Nat), vs = [.ref a, .int p] ∧ SqL K H a (ns.map V.int) ∧ Good ns ∧ p < ns.length ∧ Q .non H
theorem at_map {ns : List Int} {p : Nat} {x : Int} (h : ns[p]? = some x) : atI (ns.map V.int) (p : Int) = some (.int x) := atI_nat (by rw [List.getElem?_map, h]; rfl)
theorem sc_size_problem : FnScope ["values", "position", "size", "before"] ["values", "position"] (defScope (top 12)) := ⟨rfl, rfl, rfl, by decide +kernel, rfl, by decide +kernel, by decide +kernel⟩
theorem ok_size_problem (T : Tx K mg) (D_is_integer : Df P w K mg base 1 "is_integer" ["value"] spInt) (F : FnP K "size_problem" "size_problem" (top 12) f fd) :
    FnOk P w K mg base CX0 2 f fd ["values", "position"] (spProblem K) := by
  refine F.ok sc_size_problem (fun vs H Q E h => ?_) (fun cdv A outer s H vs Q E hr h => ⟨_, PSs.nox (pss_cons (ps_set (i := 2) sc_size_problem.nd rfl (by first | exact Or.inl rfl | exact Or.inr rfl) (pe_ix ix_list (pv 0) (pv 1) (fun _ _ => rfl))) (pss_cons (ps_if (PW.pt (pw_or (pt_not (pt_val (pcall D_is_integer hr (pa_cons (pv 2) pa_nil)))) (pw_or1 (pt_not (pt_chain op_le op_le pe_int (pv 2) (ClX.pe_cval (pe_glob (v := .ref _) rfl T.g_Sizes rfl))))))) (pss_one (ps_ret pe_str)) pss_nil) (pss_cons (ps_if (pt_cmpR op_eq (pv 1) pe_int (nomark _)) (pss_one (ps_ret (pe_ifExp (pt_cmpR op_eq (pv 2) pe_int (nomark _)) pe_non pe_str))) pss_nil) (pss_cons (ps_set (i := 3) sc_size_problem.nd rfl (by first | exact Or.inl rfl | exact Or.inr rfl) (pe_ix ix_list (pv 0) (pe_op op_sub (pv 1) pe_int) (fun _ _ => rfl))) (pss_cons (ps_if (PW.pt (pw_or (pt_cmpR op_le (pv 2) (pv 3) (nomark _)) (pw_or1 (pt_cmpR op_ne (pe_op op_mod (pv 2) (pv 3)) pe_int (nomark _))))) (pss_one (ps_ret pe_str)) pss_nil) (pss_one (ps_ret pe_non))))))), ?_⟩)
  · obtain ⟨a, ns, p, rfl, _⟩ := h
    rfl
  · obtain ⟨a, ns, p, rfl, hS, g, hp, q⟩ := h
    have hx : ns[p]? = some ns[p] := List.getElem?_eq_getElem hp
    obtain ⟨b1, b2⟩ := g.rng p _ hx
    obtain ⟨u, kS⟩ := T.kS
    refine ⟨_, rfl, _, rfl, a, _, _, _, rfl, rfl, hS, at_map hx, ?_⟩
    refine ⟨_, rfl, _, rfl, .int _, true, rfl, iteF ?_⟩
    refine ⟨_, rfl, _, _, rfl, rfl, true, bT b1, iteT ?_⟩
    refine ⟨_, _, _, _, rfl, T.rd, kS, _, _, rfl, rfl, true, bT b2, iteF ?_⟩
    by_cases h0 : p = 0
    · subst h0
      have e1 : ns[0] = 1 := Option.some.inj (hx.symm.trans g.one)
      exact ⟨_, rfl, rfl, _, rfl, ifT (vT rfl) ⟨_, rfl, rfl, _, rfl, ifT (vT e1) q⟩⟩
    · refine ⟨_, rfl, rfl, _, rfl, ifF (vF (by omega)) ?_⟩
      have hp1 : p - 1 < ns.length := by omega
      have hy : ns[p - 1]? = some ns[p - 1] := List.getElem?_eq_getElem hp1
      have hx2 : ns[p - 1 + 1]? = some ns[p] := by rw [show p - 1 + 1 = p by omega]; exact hx
      obtain ⟨u1, u2⟩ := g.up (p - 1) _ _ hy hx2
      have u3 := (g.rng _ _ hy).1
      refine ⟨_, rfl, _, rfl, _, _, rfl, rfl, a, _, _, _, rfl, rfl, hS, (by rw [show ((p : Int) - 1) = ((p - 1 : Nat) : Int) by omega]; exact at_map hy), ?_⟩
      refine ⟨_, rfl, _, rfl, _, _, rfl, rfl, false, bF (by omega), iteF ?_⟩
      refine ⟨_, rfl, _, rfl, _, _, rfl, rfl, (by show (0 : Int) < _; omega), rfl, false, ?_, iteF q⟩
      exact congrArg V.bl (by rw [vT u2]; rfl)
/-- a good list -/
def spCheck (K : PySem.W.Frag) : Sp := fun vs H Q _ => ∃ (a : Addr) (ns : List Int), vs = [.ref a] ∧ SqL K H a (ns.map V.int) ∧ TyX K H (.ref a) (.type "list") ∧ Good ns ∧ Q .non H
theorem sc_check_sizes : FnScope ["values", "position", "problem"] ["values"] (defScope (top 13)) := ⟨rfl, rfl, rfl, by decide +kernel, rfl, by decide +kernel, by decide +kernel⟩
theorem ok_check_sizes (T : Tx K mg) (D_size_problem : Df P w K mg base 2 "size_problem" ["values", "position"] (spProblem K)) (F : FnP K "check_sizes" "check_sizes" (top 13) f fd) :
    FnOk P w K mg base CX0 3 f fd ["values"] (spCheck K) := by
  refine F.ok sc_check_sizes (fun vs H Q E h => ?_) (fun cdv A outer s H vs Q E hr h => ⟨_, PSs.nox (pss_cons (ps_if (pt_not (pt_val (pe_callB call_isi (by rfl) T.n_isinstance (by decide +kernel) (pa_cons (pv 0) (pa_cons (pe_bltn (v := .ty "list") (by rfl) T.n_list (by decide +kernel) rfl) pa_nil))))) (pss_one ps_never) pss_nil) (pss_cons (ps_for PassesOwn.never rfl (pi_range1 rfl T.n_range (pa_cons (pe_callB call_len_seq (by rfl) T.n_len (by decide +kernel) (pa_cons (pv 0) pa_nil)) pa_nil)) (pg_name (i := 1) sc_check_sizes.nd rfl (by first | exact Or.inl rfl | exact Or.inr rfl)) (pss_cons (ps_set (i := 2) sc_check_sizes.nd rfl (by first | exact Or.inl rfl | exact Or.inr rfl) (pcall D_size_problem hr (pa_cons (pv 0) (pa_cons (pv 1) pa_nil)))) (pss_one (ps_if (pt_cmpR op_notN (pv 2) pe_non (nomark _)) (pss_one ps_never) pss_nil)))) (pss_one (ps_if (pt_not (pt_chain op_le op_le pe_int (pe_callB call_len_seq (by rfl) T.n_len (by decide +kernel) (pa_cons (pv 0) pa_nil)) (ClX.pe_cval (pe_glob (v := .ref _) rfl T.g_Sizes rfl)))) (pss_one ps_never) pss_nil)))), ?_⟩)
  · obtain ⟨a, ns, rfl, _⟩ := h
    rfl
  · obtain ⟨a, ns, rfl, hS, ty, g, q⟩ := h
    obtain ⟨u, kN⟩ := T.kN
    obtain ⟨l1, l2⟩ := g.len
    refine ⟨_, rfl, _, _, _, _, true, rfl, .ty "list", ty, kit_ty (by decide +kernel), true, rfl, iteF ?_⟩
    refine ⟨_, rfl, a, _, rfl, .inl hS, _, rfl, (by simp only [List.length_map]; omega), (by simp only [List.length_map]; omega), ?_⟩
    refine for_range (fun i σ H' => H' = H ∧ ∃ x y, σ = [some (.ref a), x, y]) ⟨rfl, none, none, rfl⟩ ?_ ?_
    · rintro i σ H' hi ⟨rfl, x, y, rfl⟩
      have hi2 : i < ns.length := by simpa using hi
      refine ⟨_, rfl, _, rfl, a, ns, i, (by rw [Int.zero_add]; rfl), hS, g, hi2, ?_⟩
      exact ⟨_, rfl, rfl, false, rfl, iteF ⟨rfl, _, _, rfl⟩⟩
    · rintro σ H' ⟨rfl, x, y, rfl⟩
      refine ⟨_, rfl, a, _, rfl, .inl hS, _, _, rfl, rfl, true, bT (by simp only [List.length_map]; omega), iteT ?_⟩
      exact ⟨_, _, _, _, rfl, T.rd, kN, _, _, rfl, rfl, true, bT (by simp only [List.length_map]; omega), iteF q⟩
def spMade (K : PySem.W.Frag) : Sp := fun vs H Q _ => ∃ (x dx a : Addr) (ns : List Int), vs = [.ref x, .ref a] ∧ H x = some (.ins (He.ga K "Sizes") dx []) ∧ SqL K H a (ns.map V.int) ∧ TyX K H (.ref a) (.type "list") ∧ Good ns ∧
  ∀ l, H l = none → Q .non (upd (upd H l (.lst (ns.map V.int))) x (.ins (He.ga K "Sizes") dx (szF l)))
theorem sc_Sizes_init : FnScope ["self", "values"] ["self", "values"] (defScope (inClass (top 14) 4)) := ⟨rfl, rfl, rfl, by decide +kernel, rfl, by decide +kernel, by decide +kernel⟩
theorem ok_init (T : Tx K mg) (D_check_sizes : Df P w K mg base 3 "check_sizes" ["values"] (spCheck K)) (F : FnP K "__init__" "Sizes.__init__" (inClass (top 14) 4) f fd) :
    FnOk P w K mg base CX0 4 f fd ["self", "values"] (spMade K) := by
  refine F.ok sc_Sizes_init (fun vs H Q E h => ?_) (fun cdv A outer s H vs Q E hr h => ⟨_, PSs.nox (pss_cons (ps_expr (pcall D_check_sizes hr (pa_cons (pv 1) pa_nil))) (pss_one (ps_fld (pv 0) (pe_callTy call_list_of (by rfl) T.n_list (by decide +kernel) (pa_cons (pv 1) pa_nil)) rfl))), ?_⟩)
  · obtain ⟨x, dx, a, ns, rfl, _⟩ := h
    rfl
  · obtain ⟨x, dx, a, ns, rfl, hx, hS, ty, g, q⟩ := h
    refine ⟨_, rfl, a, ns, rfl, hS, ty, g, ?_⟩
    refine ⟨_, rfl, a, _, rfl, .inl hS, fun l hl => ?_⟩
    refine ⟨_, rfl, x, He.ga K "Sizes", dx, [], rfl, (by rw [upd_ne (ne_of_none hx hl)]; exact hx), T.cl, T.nSL, (by show 0 < 1000; decide), ?_⟩
    exact q l hl
def spTop (K : PySem.W.Frag) : Sp := fun vs H Q _ => ∃ (p : Addr) (ns : List Int), vs = [.ref p] ∧ SzAt (He.ga K "Sizes") H p ns ∧ Q (.int ((ns.length : Int) - 1)) H
theorem sc_top : FnScope ["self"] ["self"] (defScope (inClass (top 14) 10)) := ⟨rfl, rfl, rfl, by decide +kernel, rfl, by decide +kernel, by decide +kernel⟩
theorem ok_top (T : Tx K mg) (F : FnP K "top" "Sizes.top" (inClass (top 14) 10) f fd) : FnOk P w K mg base CX0 1 f fd ["self"] (spTop K) := by
  refine F.ok sc_top (fun vs H Q E h => ?_) (fun cdv A outer s H vs Q E hr h => ⟨_, PSs.nox (pss_one (ps_ret (pe_op op_sub (pe_callB call_len_seq (by rfl) T.n_len (by decide +kernel) (pa_cons (pe_fld (pv 0) rfl) pa_nil)) pe_int))), ?_⟩)
  · obtain ⟨p, ns, rfl, _⟩ := h
    rfl
  · obtain ⟨p, ns, rfl, ⟨dx, l, h1, h2⟩, q⟩ := h
    refine ⟨_, rfl, p, _, dx, _, _, rfl, h1, T.cl, T.nSL, szF_get l, l, _, rfl, .inl (SqL.of h2), _, _, rfl, rfl, ?_⟩
    rw [List.length_map]
    exact q
/-- is it a level? -/
def lvB (n : Nat) : V → Bool
  | .int i => decide (0 ≤ i ∧ i < n)
  | _ => false
def spHas (K : PySem.W.Frag) : Sp := fun vs H Q _ => ∃ (p : Addr) (ns : List Int) (v : V), vs = [.ref p, v] ∧ SzAt (He.ga K "Sizes") H p ns ∧ Any H v ∧ Q (.bl (lvB ns.length v)) H
theorem sc_has_level : FnScope ["self", "level"] ["self", "level"] (defScope (inClass (top 14) 12)) := ⟨rfl, rfl, rfl, by decide +kernel, rfl, by decide +kernel, by decide +kernel⟩
theorem ok_has (T : Tx K mg) (D_is_integer : Df P w K mg base 1 "is_integer" ["value"] spInt) (P_top : Pf P w K mg base 1 "Sizes" "top" (spTop K)) (F : FnP K "has_level" "Sizes.has_level" (inClass (top 14) 12) f fd) :
    FnOk P w K mg base CX0 3 f fd ["self", "level"] (spHas K) := by
  refine F.ok sc_has_level (fun vs H Q E h => ?_) (fun cdv A outer s H vs Q E hr h => ⟨_, PSs.nox (pss_one (ps_ret (pe_and (pcall D_is_integer hr (pa_cons (pv 1) pa_nil)) (pe_one (pe_chain op_le op_le pe_int (pv 1) (pprop P_top hr (pv 0))))))), ?_⟩)
  · obtain ⟨p, ns, v, rfl, _⟩ := h
    rfl
  · obtain ⟨p, ns, v, rfl, hz, hv, q⟩ := h
    obtain ⟨dx, l, h1, h2⟩ := id hz
    refine ⟨_, rfl, v, rfl, hv, _, rfl, ?_⟩
    cases v with
    | int i =>
      refine iteT ⟨_, rfl, _, _, rfl, rfl, _, rfl, ?_⟩
      by_cases h0 : (0 : Int) ≤ i
      · refine ifT (decide_eq_true h0) ⟨_, rfl, p, dx, _, rfl, h1, p, ns, rfl, hz, _, _, rfl, rfl, ?_⟩
        have e : lvB ns.length (.int i) = decide (i ≤ (ns.length : Int) - 1) := by
          show decide (0 ≤ i ∧ i < (ns.length : Int)) = _
          by_cases h2 : i ≤ (ns.length : Int) - 1
          · rw [decide_eq_true h2, decide_eq_true ⟨h0, by omega⟩]
          · rw [decide_eq_false h2, decide_eq_false fun z => h2 (by omega)]
        rw [e] at q
        exact q
      · have e : lvB ns.length (.int i) = false := decide_eq_false fun z => h0 z.1
        rw [e] at q
        exact ifF (decide_eq_false h0) q
    | _ => exact iteF q
theorem lv_nat {n : Nat} {v : V} (h : lvB n v = true) : ∃ i : Nat, v = .int (i : Int) ∧ i < n := by
  cases v with
  | int i =>
    obtain ⟨h1, h2⟩ := of_decide_eq_true (show decide (0 ≤ i ∧ i < (n : Int)) = true from h)
    obtain ⟨k, rfl⟩ := Int.eq_ofNat_of_zero_le h1
    exact ⟨k, rfl, by omega⟩
  | _ => cases h
theorem lv_of {n i : Nat} (h : i < n) : lvB n (.int (i : Int)) = true := decide_eq_true ⟨by omega, by omega⟩
theorem cells_int {v : V} (h : cellsB v = true) : ∃ n, v = .int n ∧ 1 ≤ n ∧ n ≤ 1000000000000 := by
  cases v with
  | int i => exact ⟨i, rfl, of_decide_eq_true (show decide (1 ≤ i ∧ i ≤ 1000000000000) = true from h)⟩
  | _ => cases h
/-- the def's wish of errors holds of an error of c that has v -/
def Raised (K : PySem.W.Frag) (c n : Str) (v : V) (H : Hp) (E : XK) : Prop := ∀ d H', H d = none → Same H H' → H' d = some (.xd [(n, v)]) → E (.ref (He.ga K c)) (some d) H'
theorem Raised.same {K : PySem.W.Frag} {c n : Str} {v : V} {H H1 : Hp} {E : XK} (h : Raised K c n v H E) (s : Same H H1) : Raised K c n v H1 E := fun d H' e s2 x => h d H' (s.free e) (s.trans s2) x
theorem SzAt.same {C p : Addr} {H H' : Hp} {ns : List Int} (h : SzAt C H p ns) (s : Same H H') : SzAt C H' p ns := by
  obtain ⟨dx, l, a, b⟩ := h
  exact ⟨dx, l, s _ _ a, s _ _ b⟩
def sz (ns : List Int) (k : Nat) : Int := ns.getD k 0
theorem sz_at {ns : List Int} {k : Nat} (h : k < ns.length) : ns[k]? = some (sz ns k) := by
  unfold sz
  rw [List.getD_eq_getElem?_getD, List.getElem?_eq_getElem h]
  rfl
theorem chain {ns : List Int} (g : Good ns) : M16.Ch (sz ns) ns.length := by
  refine ⟨g.len.1, ?_, fun k h => (g.rng k _ (sz_at h)).1, fun k h => Int.dvd_of_emod_eq_zero (g.up k _ _ (sz_at (by omega)) (sz_at h)).2⟩
  have := (sz_at (ns := ns) (k := 0) (by have := g.len.1; omega)).symm.trans g.one
  exact Option.some.inj this
theorem sz_le {ns : List Int} (g : Good ns) {k : Nat} (h : k < ns.length) : sz ns k ≤ 1000000000 := (g.rng k _ (sz_at h)).2
theorem at_sz {ns : List Int} {k : Nat} (h : k < ns.length) : atI (ns.map V.int) (k : Int) = some (.int (sz ns k)) := at_map (sz_at h)
theorem div_ok {i s : Int} (h1 : 1 ≤ s) (h2 : s ≤ 1000000000) : CDivW i s := wide_div (b := 64) (by omega) (by omega) (by decide) (by decide)
def spAll (K : PySem.W.Frag) : Sp := fun vs H Q _ => ∃ (p : Addr) (ns : List Int), vs = [.ref p] ∧ SzAt (He.ga K "Sizes") H p ns ∧ ∀ l, H l = none → Q (.ref l) (upd H l (.lst (ns.map V.int)))
theorem sc_all_sizes : FnScope ["self"] ["self"] (defScope (inClass (top 14) 11)) := ⟨rfl, rfl, rfl, by decide +kernel, rfl, by decide +kernel, by decide +kernel⟩
theorem ok_all (T : Tx K mg) (F : FnP K "all_sizes" "Sizes.all_sizes" (inClass (top 14) 11) f fd) : FnOk P w K mg base CX0 1 f fd ["self"] (spAll K) := by
  refine F.ok sc_all_sizes (fun vs H Q E h => ?_) (fun cdv A outer s H vs Q E hr h => ⟨_, PSs.nox (pss_one (ps_ret (pe_callTy call_list_of (by rfl) T.n_list (by decide +kernel) (pa_cons (pe_fld (pv 0) rfl) pa_nil)))), ?_⟩)
  · obtain ⟨p, ns, rfl, _⟩ := h
    rfl
  · obtain ⟨p, ns, rfl, ⟨dx, l, h1, h2⟩, q⟩ := h
    exact ⟨_, rfl, p, _, dx, _, _, rfl, h1, T.cl, T.nSL, szF_get l, l, _, rfl, .inl (SqL.of h2), q⟩
def spCheckL (K : PySem.W.Frag) : Sp := fun vs H Q E => ∃ (p : Addr) (ns : List Int) (v : V), vs = [.ref p, v] ∧ SzAt (cS K) H p ns ∧ Any H v ∧ (lvB ns.length v = true → Q .non H) ∧ (lvB ns.length v = false → Raised K "InvalidLevel" "value" v H E)
theorem sc_check_level : FnScope ["self", "level"] ["self", "level"] (defScope (inClass (top 14) 13)) := ⟨rfl, rfl, rfl, by decide +kernel, rfl, by decide +kernel, by decide +kernel⟩
theorem ok_check_level (T : Tx K mg) (M_has_level : Mf P w K mg base 3 "Sizes" "has_level" ["self", "level"] (spHas K)) (M : Ei P w K mg base "InvalidLevel" "value") (F : FnP K "check_level" "Sizes.check_level" (inClass (top 14) 13) f fd) :
    FnOk P w K mg base (L2.CX P w) 4 f fd ["self", "level"] (spCheckL K) := by
  obtain ⟨fdI, FI, bI⟩ := M.ex
  refine F.ok sc_check_level (fun vs H Q E h => ?_) (fun cdv A outer s H vs Q E hr h => ⟨_, (pss_one (ps_if (pt_not (pt_val (pmeth M_has_level hr (pv 0) (pa_cons (pv 1) pa_nil)))) (pss_one (ps_raise rfl (takes_of (E := E) rfl rfl rfl rfl) (pmk_oexG T.eL.ox T.eL.ii T.eL.ti FI (hr.mono (by decide)) bI .nil pass0 rfl T.g_InvalidLevel (pa_cons (pv 1) pa_nil)))) pss_nil)), ?_⟩)
  · obtain ⟨p, ns, v, rfl, _⟩ := h
    rfl
  · obtain ⟨p, ns, v, rfl, hz, hv, q1, q2⟩ := h
    obtain ⟨dx, l, h1, h2⟩ := id hz
    refine ⟨_, rfl, p, dx, _, rfl, h1, szF_no l (by decide +kernel), _, rfl, p, ns, v, rfl, hz, hv, _, rfl, ?_⟩
    cases e : lvB ns.length v with
    | true => exact iteF (q1 e)
    | false => exact iteT ⟨_, rfl, (by show 1 ≤ 1000; decide), raise_ok (q2 e)⟩
def spSize (K : PySem.W.Frag) : Sp := fun vs H Q E => ∃ (p : Addr) (ns : List Int) (v : V), vs = [.ref p, v] ∧ SzAt (cS K) H p ns ∧ Any H v ∧ (∀ i : Nat, v = .int (i : Int) → i < ns.length → Q (.int (sz ns i)) H) ∧ (lvB ns.length v = false → Raised K "InvalidLevel" "value" v H E)
theorem sc_size : FnScope ["self", "level"] ["self", "level"] (defScope (inClass (top 14) 14)) := ⟨rfl, rfl, rfl, by decide +kernel, rfl, by decide +kernel, by decide +kernel⟩
theorem ok_size (T : Tx K mg) (M_check_level : MfX P w K mg base 4 "Sizes" "check_level" ["self", "level"] (spCheckL K)) (F : FnP K "size" "Sizes.size" (inClass (top 14) 14) f fd) :
    FnOk P w K mg base (L2.CX P w) 5 f fd ["self", "level"] (spSize K) := by
  refine F.ok sc_size (fun vs H Q E h => ?_) (fun cdv A outer s H vs Q E hr h => ⟨_, (pss_cons (ps_expr (pmethX M_check_level hr (passX (takes_of (E := E) rfl rfl rfl rfl)) (pv 0) (pa_cons (pv 1) pa_nil))) (pss_one (ps_ret (pe_ix ix_list (pe_fld (pv 0) rfl) (pv 1) (fun _ _ => rfl))))), ?_⟩)
  · obtain ⟨p, ns, v, rfl, _⟩ := h
    rfl
  · obtain ⟨p, ns, v, rfl, hz, hv, q1, q2⟩ := h
    obtain ⟨dx, l, h1, h2⟩ := id hz
    refine ⟨_, rfl, p, dx, _, rfl, h1, szF_no l (by decide +kernel), _, rfl, p, ns, v, rfl, hz, hv, fun e => ?_, q2⟩
    obtain ⟨i, rfl, hi⟩ := lv_nat e
    exact ⟨_, rfl, p, _, dx, _, _, rfl, h1, T.cl, T.nSL, szF_get l, _, rfl, l, _, _, _, rfl, rfl, SqL.of h2, at_sz hi, q1 i rfl hi⟩
def spWhole (K : PySem.W.Frag) : Sp := fun vs H Q E => ∃ (p : Addr) (ns : List Int) (c v : V), vs = [.ref p, c, v] ∧ SzAt (cS K) H p ns ∧ Good ns ∧ Any H c ∧ Any H v ∧
  (∀ (n : Int) (i : Nat), c = .int n → cellsB c = true → v = .int (i : Int) → i < ns.length → Q (.int (n - n % sz ns i)) H) ∧ (cellsB c = false → Raised K "InvalidNumber" "value" c H E) ∧ (lvB ns.length v = false → Raised K "InvalidLevel" "value" v H E)
theorem sc_whole : FnScope ["self", "cells", "level"] ["self", "cells", "level"] (defScope (inClass (top 14) 16)) := ⟨rfl, rfl, rfl, by decide +kernel, rfl, by decide +kernel, by decide +kernel⟩
theorem ok_whole (T : Tx K mg) (D_check_cells : DfX P w K mg base 4 "check_cells" ["value"] (spCheckC K)) (M_size : MfX P w K mg base 5 "Sizes" "size" ["self", "level"] (spSize K)) (F : FnP K "whole" "Sizes.whole" (inClass (top 14) 16) f fd) :
    FnOk P w K mg base (L2.CX P w) 6 f fd ["self", "cells", "level"] (spWhole K) := by
  refine F.ok sc_whole (fun vs H Q E h => ?_) (fun cdv A outer s H vs Q E hr h => ⟨_, (pss_cons (ps_expr (pcallX D_check_cells hr (passX (takes_of (E := E) rfl rfl rfl rfl)) (pa_cons (pv 1) pa_nil))) (pss_one (ps_ret (pe_op op_sub (pv 1) (pe_op op_mod (pv 1) (pmethX M_size hr (passX (takes_of (E := E) rfl rfl rfl rfl)) (pv 0) (pa_cons (pv 2) pa_nil))))))), ?_⟩)
  · obtain ⟨p, ns, c, v, rfl, _⟩ := h
    rfl
  · obtain ⟨p, ns, c, v, rfl, hz, g, hc, hv, q1, q2, q3⟩ := h
    obtain ⟨dx, l, h1, h2⟩ := id hz
    refine ⟨_, rfl, c, rfl, hc, fun e => ?_, q2⟩
    obtain ⟨n, rfl, n1, n2⟩ := cells_int e
    refine ⟨_, rfl, _, rfl, _, rfl, p, dx, _, rfl, h1, szF_no l (by decide +kernel), _, rfl, p, ns, v, rfl, hz, hv, fun i ev hi => ?_, q3⟩
    have := (chain g).pos i hi
    exact ⟨_, _, rfl, rfl, (by show (0 : Int) < sz ns i; omega), _, _, rfl, rfl, q1 n i rfl e ev hi⟩
def spLv (K : PySem.W.Frag) : Sp := fun vs H Q E => ∃ (p : Addr) (ns : List Int) (c : V), vs = [.ref p, c] ∧ SzAt (cS K) H p ns ∧ Good ns ∧ Any H c ∧
  (∀ (n : Int) (k : Nat), c = .int n → cellsB c = true → M13.IsLv (sz ns) ns.length n k → Q (.int (k : Int)) H) ∧ (cellsB c = false → Raised K "InvalidNumber" "value" c H E)
theorem sc_level_of : FnScope ["self", "cells", "level"] ["self", "cells"] (defScope (inClass (top 14) 15)) := ⟨rfl, rfl, rfl, by decide +kernel, rfl, by decide +kernel, by decide +kernel⟩
theorem ok_level_of (T : Tx K mg) (D_check_cells : DfX P w K mg base 4 "check_cells" ["value"] (spCheckC K)) (P_top : Pf P w K mg base 1 "Sizes" "top" (spTop K)) (F : FnP K "level_of" "Sizes.level_of" (inClass (top 14) 15) f fd) :
    FnOk P w K mg base (L2.CX P w) 5 f fd ["self", "cells"] (spLv K) := by
  refine F.ok sc_level_of (fun vs H Q E h => ?_) (fun cdv A outer s H vs Q E hr h => ⟨_, (pss_cons (ps_expr (pcallX D_check_cells hr (passX (takes_of (E := E) rfl rfl rfl rfl)) (pa_cons (pv 1) pa_nil))) (pss_cons (ps_set (i := 2) sc_level_of.nd rfl (by first | exact Or.inl rfl | exact Or.inr rfl) (pprop P_top hr (pv 0))) (pss_cons (ps_while (passes_of rfl) (pt_cmpR op_gt (pe_ix ix_list (pe_fld (pv 0) rfl) (pv 2) (fun _ _ => rfl)) (pv 1) (nomark _)) (pss_one (ps_aug (i := 2) sc_level_of.nd rfl (by first | exact Or.inl rfl | exact Or.inr rfl) pe_int ip_sub))) (pss_one (ps_ret (pv 2)))))), ?_⟩)
  · obtain ⟨p, ns, c, rfl, _⟩ := h
    rfl
  · obtain ⟨p, ns, c, rfl, hz, g, hc, q1, q2⟩ := h
    obtain ⟨dx, l, h1, h2⟩ := id hz
    refine ⟨_, rfl, c, rfl, hc, fun e => ?_, q2⟩
    obtain ⟨n, rfl, n1, n2⟩ := cells_int e
    have l1 := g.len.1
    refine ⟨_, rfl, p, dx, _, rfl, h1, p, ns, rfl, hz, ?_⟩
    refine ⟨fun m σ G => G = H ∧ ∃ k : Nat, m = k ∧ k < ns.length ∧ (∀ j, k < j → j < ns.length → n < sz ns j) ∧ σ = [some (.ref p), some (.int n), some (.int (k : Int))], ⟨ns.length - 1, rfl, ns.length - 1, rfl, by omega, fun j a b => by omega, ?_⟩, ?_⟩
    · rw [show (((ns.length - 1 : Nat) : Int)) = (ns.length : Int) - 1 by omega]
      rfl
    · rintro m σ G ⟨rfl, k, em, hk, hj, rfl⟩
      refine ⟨_, rfl, p, _, dx, _, _, rfl, h1, T.cl, T.nSL, szF_get l, _, rfl, l, _, _, _, rfl, rfl, SqL.of h2, at_sz hk, _, rfl, _, _, rfl, rfl, _, rfl, ?_⟩
      by_cases hc2 : sz ns k > n
      · refine ifT (decide_eq_true hc2) ?_
        have k0 : k ≠ 0 := fun z => by
          have := (chain g).one
          rw [z] at hc2
          omega
        refine ⟨fun σ' H' => H' = G ∧ σ' = [some (.ref p), some (.int n), some (.int ((k : Int) - 1))], ?_, ⟨_, rfl, _, _, rfl, rfl, rfl, rfl⟩⟩
        rintro σ' H' ⟨rfl, rfl⟩
        refine ⟨k - 1, by omega, rfl, k - 1, rfl, by omega, fun j a b => ?_, by rw [show ((k - 1 : Nat) : Int) = (k : Int) - 1 by omega]⟩
        by_cases z : j = k
        · rw [z]
          exact hc2
        · exact hj j (by omega) b
      · exact ifF (decide_eq_false hc2) ⟨_, rfl, q1 n k rfl e ⟨hk, by omega, hj⟩⟩
/-- how many blocks of each level -/
def cnts (ns : List Int) (n : Int) : List Int := (List.range ns.length).map (M13.cnt (sz ns) ns.length n)
theorem cnts_len (ns : List Int) (n : Int) : (cnts ns n).length = ns.length := by
  unfold cnts
  rw [List.length_map, List.length_range]
theorem cnts_at {ns : List Int} {n : Int} {k : Nat} (h : k < ns.length) : (cnts ns n)[k]? = some (M13.cnt (sz ns) ns.length n k) := by
  unfold cnts
  rw [List.getElem?_map, List.getElem?_range h]
  rfl
/-- the highest i levels, falling -/
def falls (ns : List Int) (n : Int) (i : Nat) : List Int := (List.range i).map fun j => M13.cnt (sz ns) ns.length n (ns.length - 1 - j)
theorem falls_more (ns : List Int) (n : Int) (i : Nat) : falls ns n i ++ [M13.cnt (sz ns) ns.length n (ns.length - 1 - i)] = falls ns n (i + 1) := by
  unfold falls
  rw [List.range_succ, List.map_append]
  rfl
theorem falls_len (ns : List Int) (n : Int) (i : Nat) : (falls ns n i).length = i := by
  unfold falls
  rw [List.length_map, List.length_range]
theorem falls_all (ns : List Int) (n : Int) : (falls ns n ns.length).reverse = cnts ns n := by
  apply List.ext_getElem?
  intro k
  by_cases h : k < ns.length
  · rw [List.getElem?_reverse (by rw [falls_len]; exact h), falls_len, cnts_at h]
    unfold falls
    rw [List.getElem?_map, List.getElem?_range (by omega)]
    show some (M13.cnt _ _ _ (ns.length - 1 - (ns.length - 1 - k))) = _
    rw [show ns.length - 1 - (ns.length - 1 - k) = k by omega]
  · rw [List.getElem?_eq_none (by rw [List.length_reverse, falls_len]; omega), List.getElem?_eq_none (by rw [cnts_len]; omega)]
def spCounts (K : PySem.W.Frag) : Sp := fun vs H Q E => ∃ (p : Addr) (ns : List Int) (c : V), vs = [.ref p, c] ∧ SzAt (cS K) H p ns ∧ Good ns ∧ Any H c ∧
  (∀ n a H', c = .int n → cellsB c = true → H a = none → Same H H' → H' a = some (.lst ((cnts ns n).map V.int)) → Q (.ref a) H') ∧ (cellsB c = false → Raised K "InvalidNumber" "value" c H E)
theorem sc_counts : FnScope ["self", "cells", "rest", "falling", "size"] ["self", "cells"] (defScope (inClass (top 14) 17)) := ⟨rfl, rfl, rfl, by decide +kernel, rfl, by decide +kernel, by decide +kernel⟩
theorem ok_counts (T : Tx K mg) (D_check_cells : DfX P w K mg base 4 "check_cells" ["value"] (spCheckC K)) (F : FnP K "counts" "Sizes.counts" (inClass (top 14) 17) f fd) :
    FnOk P w K mg base (L2.CX P w) 5 f fd ["self", "cells"] (spCounts K) := by
  refine F.ok sc_counts (fun vs H Q E h => ?_) (fun cdv A outer s H vs Q E hr h => ⟨_, (pss_cons (ps_expr (pcallX D_check_cells hr (passX (takes_of (E := E) rfl rfl rfl rfl)) (pa_cons (pv 1) pa_nil))) (pss_cons (ps_set (i := 2) sc_counts.nd rfl (by first | exact Or.inl rfl | exact Or.inr rfl) (pv 1)) (pss_cons (ps_set (i := 3) sc_counts.nd rfl (by first | exact Or.inl rfl | exact Or.inr rfl) (pe_lst pa_nil)) (pss_cons (ps_for (passes_of rfl) rfl (pi_reversed rfl T.n_reversed (pa_cons (pe_fld (pv 0) rfl) pa_nil)) (pg_name (i := 4) sc_counts.nd rfl (by first | exact Or.inl rfl | exact Or.inr rfl)) (pss_cons (ps_expr (pe_bm PySem.F.plainAttrs_list PySem.F.slot_list_append PySem.F.type_list_append mt_append (pv 3) (pa_cons (pe_op op_fdivW (pv 2) (pv 4)) pa_nil))) (pss_one (ps_set (i := 2) sc_counts.nd rfl (by first | exact Or.inl rfl | exact Or.inr rfl) (pe_op op_mod (pv 2) (pv 4)))))) (pss_one (ps_ret (pe_revL (pv 3)))))))), ?_⟩)
  · obtain ⟨p, ns, c, rfl, _⟩ := h
    rfl
  · obtain ⟨p, ns, c, rfl, hz, g, hc, q1, q2⟩ := h
    obtain ⟨dx, l, h1, h2⟩ := id hz
    refine ⟨_, rfl, c, rfl, hc, fun e => ?_, q2⟩
    obtain ⟨n, rfl, n1, n2⟩ := cells_int e
    have ch := chain g
    have l8 := g.len
    refine ⟨_, rfl, (by show 0 ≤ sizeLine; decide), fun a ha => ?_⟩
    have sm : Same H (upd H a (.lst [])) := same_upd ha
    refine ⟨_, rfl, p, _, dx, _, _, rfl, sm _ _ h1, T.cl, T.nSL, szF_get l, l, _, rfl, SqL.of (sm _ _ h2), ?_⟩
    refine for_it (walk_rev (xs := ns.map V.int)) (fun i σ G => ∃ (x : Option V), σ = [some (.ref p), some (.int n), some (.int (if i = 0 then n else n % sz ns (ns.length - i))), some (.ref a), x] ∧ G = upd H a (.lst ((falls ns n i).map V.int))) ⟨none, rfl, rfl⟩ (fun i σ G _ ⟨_, _, eG⟩ => by subst eG; exact SqL.of (same_upd ha _ _ h2)) ?_ ?_
    · rintro i x σ G G2 hi ⟨x0, rfl, rfl⟩ ⟨rfl, hx⟩
      rw [List.length_map] at hi hx
      have km : ns.length - 1 - i < ns.length := by omega
      rw [List.getElem?_map, sz_at km] at hx
      obtain rfl := (Option.some.inj hx).symm
      have ps := ch.pos _ km
      have er : (if i = 0 then n else n % sz ns (ns.length - i)) = M13.rest (sz ns) ns.length n (ns.length - 1 - i) := by
        unfold M13.rest
        by_cases h0 : i = 0
        · rw [if_pos h0, if_neg (by omega)]
        · rw [if_neg h0, if_pos (by omega), show ns.length - 1 - i + 1 = ns.length - i by omega]
      refine ⟨_, rfl, .inl ⟨rfl, _, SqL.of upd_same⟩, _, rfl, _, rfl, _, _, rfl, rfl, div_ok ps (sz_le g km), a, _, _, rfl, rfl, upd_same, small1000 (by rw [List.length_map, falls_len]; omega), ?_⟩
      refine ⟨_, rfl, _, rfl, _, _, rfl, rfl, (by show (0 : Int) < sz ns _; omega), some (.int (sz ns (ns.length - 1 - i))), ?_, ?_⟩
      · rw [er, if_neg (show ¬ i + 1 = 0 by omega), show ns.length - (i + 1) = ns.length - 1 - i by omega, ← M13.rest_next ch n km]
        rfl
      · rw [er, upd_upd, ← falls_more, List.map_append]
        rfl
    · rintro σ G ⟨x0, rfl, rfl⟩
      rw [List.length_map]
      refine ⟨_, rfl, a, _, rfl, SqL.of upd_same, fun b hb => ?_⟩
      rw [← List.map_reverse, falls_all]
      refine q1 n b _ rfl e ?_ ((same_upd ha).trans (same_upd hb)) upd_same
      exact (same_upd ha).free hb
end
end K13

set_option Elab.async false
set_option linter.all false
set_option maxRecDepth 100000
set_option maxHeartbeats 4000000
namespace K13
open PySem PySem.Spec PyProof.Rows L2 Gu Ex
/-- the drawing list at r -/
def Rng (H : Hp) (r : Addr) : Prop := ∃ a b : Int, H r = some (.lst [.int a, .int b]) ∧ 0 ≤ a ∧ 0 ≤ b ∧ b < 2147483587
/-- only the drawing list at r may have changed -/
def Stp (r : Addr) (H H' : Hp) : Prop := Rng H' r ∧ ∀ b o, b ≠ r → H b = some o → H' b = some o
theorem Stp.trans {r : Addr} {H H1 H2 : Hp} (a : Stp r H H1) (b : Stp r H1 H2) : Stp r H H2 := ⟨b.1, fun c o n e => b.2 c o n (a.2 c o n e)⟩
theorem Stp.refl {r : Addr} {H : Hp} (h : Rng H r) : Stp r H H := ⟨h, fun _ _ _ e => e⟩
/-- the ways of a choice come together: what holds of every value -/
theorem join {α : Type} {G : Prop} (Pc : α → Prop) {R : α → Prop} (h1 : (∀ c, Pc c → R c) → G) (h2 : ∀ c, Pc c → R c) : G := h1 h2
theorem Rng.ne {H : Hp} {r p : Addr} (h : Rng H r) (hp : H p = none) : r ≠ p := fun z => by
  obtain ⟨_, _, e, _⟩ := h
  rw [z, hp] at e
  cases e
theorem Stp.new {r p : Addr} {H H1 : Hp} {o : HO} (a : Stp r H H1) (hp : H1 p = none) : Stp r H (upd H1 p o) := by
  obtain ⟨⟨x, y, e, z⟩, k⟩ := a
  refine ⟨⟨x, y, ?_, z⟩, fun b u n e2 => ?_⟩
  · rw [upd_ne (ne_of_none e hp)]
    exact e
  · rw [upd_ne (ne_of_none (k b u n e2) hp)]
    exact k b u n e2
theorem Stp.free {r p : Addr} {H H1 : Hp} (a : Stp r H H1) (h : H1 p = none) : H p = none := by
  cases e : H p with
  | none => rfl
  | some o =>
    have n : p ≠ r := fun z => (a.1.ne h) z.symm
    rw [a.2 p o n e] at h
    cases h
section
variable {P : Program} {w : World} {K : PySem.W.Frag} {mg : Str → Option Value} {base : Heap} {f : Addr} {fd : FuncData}
def spRng (K : PySem.W.Frag) : Sp := fun vs H Q _ => ∃ (a : Addr) (ns : List Int) (k : Nat), vs = [.ref a, .int k] ∧ SqL K H a (ns.map V.int) ∧ k ≤ 63 ∧ ∀ p H', H p = none → Same H H' → Rng H' p → Q (.ref p) H'
theorem sc__law_rng : FnScope ["_law_script", "_law_k", "_law_cell"] ["_law_script", "_law_k"] (defScope (top 16)) := ⟨rfl, rfl, rfl, by decide +kernel, rfl, by decide +kernel, by decide +kernel⟩
theorem ok_rng (T : Tx K mg) (F : FnP K "_law_rng" "_law_rng" (top 16) f fd) : FnOk P w K mg base CX0 1 f fd ["_law_script", "_law_k"] (spRng K) := by
  refine F.ok sc__law_rng (fun vs H Q E h => ?_) (fun cdv A outer s H vs Q E hr h => ⟨_, PSs.nox (pss_cons (ps_set (i := 2) sc__law_rng.nd rfl (by first | exact Or.inl rfl | exact Or.inr rfl) (pe_ifExp (pt_cmpR op_lt (pv 1) (pe_callB call_len_seq (by rfl) T.n_len (by decide +kernel) (pa_cons (pv 0) pa_nil)) (nomark _)) (pe_callB call_abs (by rfl) T.n_abs (by decide +kernel) (pa_cons (pe_ix ix_list (pv 0) (pv 1) (fun _ _ => rfl)) pa_nil)) pe_int)) (pss_one (ps_ret (pe_lst (pa_cons (pe_callB (call_max2 rfl) (by rfl) T.n_max (by decide +kernel) (pa_cons pe_int (pa_cons (pe_op op_sub (pv 2) (pe_op op_pow pe_int pe_int)) pa_nil))) (pa_cons (pe_op op_add (pe_op op_mod (pe_op op_pow (pe_op op_add (pe_op op_add (pe_op op_mod (pv 2) pe_int) (pe_op op_mul pe_int (pv 1))) pe_int) pe_int) pe_int) pe_int) pa_nil)))))), ?_⟩)
  · obtain ⟨a, ns, k, rfl, _⟩ := h
    rfl
  · obtain ⟨a, ns, k, rfl, hS, hk, q⟩ := h
    refine join (fun c : Int => 0 ≤ c) (R := ?R) (fun tail => ?main) ?tl
    case main =>
      refine ⟨_, rfl, _, rfl, a, _, rfl, .inl hS, _, _, rfl, rfl, _, rfl, ?_⟩
      by_cases hl : (k : Int) < (((ns.map V.int).length : Nat) : Int)
      · have hk2 : k < ns.length := by rw [List.length_map] at hl; omega
        refine ifT (decide_eq_true hl) ?_
        refine ⟨_, rfl, _, rfl, a, _, _, _, rfl, rfl, hS, at_map (List.getElem?_eq_getElem hk2), _, rfl, ?_⟩
        obtain ⟨c, hc, ec⟩ : ∃ c : Int, 0 ≤ c ∧ (if ns[k] < 0 then -ns[k] else ns[k]) = c := ⟨if ns[k] < 0 then -ns[k] else ns[k], by split <;> omega, rfl⟩
        rw [ec]
        exact tail c hc
      · refine ifF (decide_eq_false hl) ?_
        exact tail 0 (by decide)
    case tl =>
      intro c hc
      have c0 := Int.emod_nonneg c (show (2147483543 : Int) ≠ 0 by decide)
      have c1 := Int.emod_lt_of_pos c (show (0 : Int) < 2147483543 by decide)
      refine ⟨_, rfl, _, _, rfl, rfl, ⟨by decide, by decide, by decide⟩, _, _, rfl, rfl, _, _, rfl, ?_⟩
      refine ⟨_, rfl, _, _, rfl, rfl, (by show (0 : Int) < 2147483543; decide), _, rfl, _, _, rfl, rfl, .inl ⟨by decide, by decide⟩, _, _, rfl, rfl, _, _, rfl, rfl, _, _, rfl, rfl, ⟨by decide, by decide, by omega⟩, _, _, rfl, rfl, (by show (0 : Int) < 2147483497; decide), _, _, rfl, rfl, ?_⟩
      refine ⟨(by show 2 ≤ sizeLine; decide), fun p hp => q p _ hp (fun b o e => by rw [upd_ne (ne_of_none e hp)]; exact e) ⟨_, _, upd_same, ?_, ?_, ?_⟩⟩
      · split <;> omega
      · have := Int.emod_nonneg ((c % 2147483543 + 101 * (k : Int) + 7) ^ (2 : Int).toNat) (show (2147483497 : Int) ≠ 0 by decide)
        omega
      · have := Int.emod_lt_of_pos ((c % 2147483543 + 101 * (k : Int) + 7) ^ (2 : Int).toNat) (show (0 : Int) < 2147483497 by decide)
        omega
def spDraw : Sp := fun vs H Q _ => ∃ (r : Addr) (m : Int), vs = [.ref r, .int m] ∧ Rng H r ∧ 1 ≤ m ∧ m ≤ 10 ^ 40 ∧ ∀ d H', 0 ≤ d → d < m → Stp r H H' → Q (.int d) H'
theorem sc__law_draw : FnScope ["_law_rng_here", "_law_many", "_law_mixed", "_law_digit"] ["_law_rng_here", "_law_many"] (defScope (top 17)) := ⟨rfl, rfl, rfl, by decide +kernel, rfl, by decide +kernel, by decide +kernel⟩
theorem ok_draw (T : Tx K mg) (F : FnP K "_law_draw" "_law_draw" (top 17) f fd) : FnOk P w K mg base CX0 1 f fd ["_law_rng_here", "_law_many"] spDraw := by
  refine F.ok sc__law_draw (fun vs H Q E h => ?_) (fun cdv A outer s H vs Q E hr h => ⟨_, PSs.nox (pss_cons (ps_if (pt_cmpR op_gt (pe_ix ix_list (pv 0) pe_int (fun _ _ => rfl)) pe_int (nomark _)) (pss_cons (ps_asg (pe_callB call_divmodW (by rfl) T.n_divmod (by decide +kernel) (pa_cons (pe_ix ix_list (pv 0) pe_int (fun _ _ => rfl)) (pa_cons (pv 1) pa_nil))) (pg_tup (by rfl) (pgs_cons (pg_sub (pv 0) pe_int set_list) (pgs_cons (pg_name (i := 3) sc__law_draw.nd rfl (by first | exact Or.inl rfl | exact Or.inr rfl)) pgs_nil)))) (pss_one (ps_ret (pv 3)))) pss_nil) (pss_cons (ps_asg (pe_op op_mod (pe_op op_add (pe_op op_mul (pe_ix ix_list (pv 0) pe_int (fun _ _ => rfl)) pe_int) pe_int) pe_int) (pg_sub (pv 0) pe_int set_list)) (pss_cons (ps_set (i := 2) sc__law_draw.nd rfl (by first | exact Or.inl rfl | exact Or.inr rfl) (pe_op op_fdivW (pe_op op_mod (pe_op op_mul (pe_ix ix_list (pv 0) pe_int (fun _ _ => rfl)) (pe_ix ix_list (pv 0) pe_int (fun _ _ => rfl))) pe_int) pe_int)) (pss_one (ps_ret (pe_ifExp (pt_cmpR op_lt (pv 1) (pe_op op_pow pe_int pe_int) (nomark _)) (pe_op op_mod (pv 2) (pv 1)) (pe_op op_mod (pe_op op_mul (pe_op op_add (pe_op op_mul (pv 2) pe_int) (pe_ix ix_list (pv 0) pe_int (fun _ _ => rfl))) pe_int) (pv 1)))))))), ?_⟩)
  · obtain ⟨r, m, rfl, _⟩ := h
    rfl
  · obtain ⟨r, m, rfl, ⟨a, b, hR, ha, hb, hb2⟩, m1, m2, q⟩ := h
    have mb : m.natAbs < 2 ^ 200 := by
      have : (10 : Int) ^ 40 < 2 ^ 200 := by decide
      have e : ((2 : Nat) ^ 200 : Nat) = ((2 : Int) ^ 200).natAbs := by decide
      omega
    refine ⟨_, rfl, r, _, _, _, rfl, rfl, SqL.of hR, rfl, _, _, rfl, rfl, _, rfl, ?_⟩
    by_cases h0 : 0 < a
    · refine ifT (decide_eq_true h0) ?_
      refine ⟨_, rfl, r, _, _, _, rfl, rfl, SqL.of hR, rfl, _, rfl, _, _, rfl, ⟨by omega, PyProof.noPylong_of_log2 (Nat.lt_of_lt_of_le (PySem.Flt.log2_lt_of (by decide) mb) (by decide))⟩, fun p hp => ?_⟩
      have nrp : r ≠ p := ne_of_none hR hp
      have hR2 : (upd H p (.tup [.int (a / m), .int (a % m)])) r = some (.lst [.int a, .int b]) := by rw [upd_ne nrp]; exact hR
      refine ⟨p, _, rfl, .inl (.inl upd_same), rfl, _, _, rfl, _, rfl, r, _, _, 0, rfl, rfl, hR2, rfl, _, _, rfl, rfl, ?_⟩
      refine ⟨_, rfl, q _ _ (Int.emod_nonneg _ (by omega)) (Int.emod_lt_of_pos _ (by omega)) ⟨⟨a / m, b, upd_same, Int.ediv_nonneg (by omega) (by omega), hb, hb2⟩, fun c o n e => ?_⟩⟩
      rw [upd_ne n, upd_ne (ne_of_none e hp)]
      exact e
    · refine ifF (decide_eq_false h0) ?_
      have b0 := Int.emod_nonneg (b * 48271 + 10007) (show (2147483587 : Int) ≠ 0 by decide)
      have b1 := Int.emod_lt_of_pos (b * 48271 + 10007) (show (0 : Int) < 2147483587 by decide)
      refine ⟨_, rfl, r, _, _, _, rfl, rfl, SqL.of hR, rfl, _, _, rfl, rfl, .inr ⟨by decide, by decide⟩, _, _, rfl, rfl, _, _, rfl, rfl, (by show (0 : Int) < 2147483587; decide), _, rfl, r, _, _, 1, rfl, rfl, hR, rfl, ?_⟩
      dsimp only
      generalize hB : (b * 48271 + 10007) % 2147483587 = B at *
      have hR2 : (upd H r (.lst [.int a, .int B])) r = some (.lst [.int a, .int B]) := upd_same
      have st : Stp r H (upd H r (.lst [.int a, .int B])) := ⟨⟨a, B, upd_same, ha, b0, b1⟩, fun c o n e => by rw [upd_ne n]; exact e⟩
      refine ⟨_, rfl, r, _, _, _, rfl, rfl, SqL.of hR2, rfl, _, rfl, r, _, _, _, rfl, rfl, SqL.of hR2, rfl, _, _, rfl, rfl, .inl ⟨by omega, by omega⟩, _, _, rfl, rfl, (by show (0 : Int) < 2147483549; decide), _, _, rfl, rfl, wide_div (b := 64) (by decide) (by decide) (by decide) (by decide), ?_⟩
      refine ⟨_, rfl, _, _, rfl, rfl, ⟨by decide, by decide, by decide⟩, _, _, rfl, rfl, _, rfl, ite2 (fun _ => ?_) (fun _ => ?_)⟩
      · exact ⟨_, rfl, _, rfl, _, _, rfl, rfl, (by show (0 : Int) < m; omega), q _ _ (Int.emod_nonneg _ (by omega)) (Int.emod_lt_of_pos _ (by omega)) st⟩
      · refine ⟨_, rfl, _, _, rfl, rfl, .inr ⟨by decide, by decide⟩, _, rfl, r, _, _, _, rfl, rfl, SqL.of hR2, rfl, _, _, rfl, rfl, _, _, rfl, rfl, .inr ⟨by decide, by decide⟩, _, rfl, _, _, rfl, rfl, (by show (0 : Int) < m; omega), ?_⟩
        exact q _ _ (Int.emod_nonneg _ (by omega)) (Int.emod_lt_of_pos _ (by omega)) st
theorem at_of {α : Type} {xs : List α} {d : Int} (h0 : 0 ≤ d) (h1 : d < xs.length) : ∃ v, atI xs d = some v ∧ v ∈ xs := by
  obtain ⟨n, rfl⟩ := Int.eq_ofNat_of_zero_le h0
  have hn : n < xs.length := by omega
  exact ⟨xs[n], atI_nat (List.getElem?_eq_getElem hn), List.getElem_mem hn⟩
def spChoice : Sp := fun vs H Q _ => ∃ (r o : Addr) (xs : List V), vs = [.ref r, .ref o] ∧ Rng H r ∧ H o = some (.lst xs) ∧ o ≠ r ∧ 1 ≤ xs.length ∧ xs.length ≤ 1000 ∧ ∀ v H', v ∈ xs → Stp r H H' → Q v H'
theorem sc__law_choice : FnScope ["_law_rng_here", "_law_options"] ["_law_rng_here", "_law_options"] (defScope (top 18)) := ⟨rfl, rfl, rfl, by decide +kernel, rfl, by decide +kernel, by decide +kernel⟩
theorem ok_choice (T : Tx K mg) (D__law_draw : Df P w K mg base 1 "_law_draw" ["_law_rng_here", "_law_many"] spDraw) (F : FnP K "_law_choice" "_law_choice" (top 18) f fd) : FnOk P w K mg base CX0 2 f fd ["_law_rng_here", "_law_options"] spChoice := by
  refine F.ok sc__law_choice (fun vs H Q E h => ?_) (fun cdv A outer s H vs Q E hr h => ⟨_, PSs.nox (pss_one (ps_ret (pe_ix ix_list (pv 1) (pcall D__law_draw hr (pa_cons (pv 0) (pa_cons (pe_callB call_len_seq (by rfl) T.n_len (by decide +kernel) (pa_cons (pv 1) pa_nil)) pa_nil))) (fun _ _ => rfl)))), ?_⟩)
  · obtain ⟨r, o, xs, rfl, _⟩ := h
    rfl
  · obtain ⟨r, o, xs, rfl, hR, hO, ne, l1, l2, q⟩ := h
    refine ⟨_, rfl, _, rfl, _, rfl, o, _, rfl, .inl (SqL.of hO), r, _, rfl, hR, by omega, ?_, fun d H1 d0 d1 st => ?_⟩
    · have : (1000 : Int) ≤ 10 ^ 40 := by decide
      omega
    · obtain ⟨v, hv, hm⟩ := at_of d0 d1
      exact ⟨o, _, _, v, rfl, rfl, SqL.of (st.2 o _ ne hO), hv, q v H1 hm st⟩
theorem good_one : Good [1] := ⟨⟨by decide, by decide⟩, rfl, fun i x h => by
    cases i with
    | zero => cases h; decide
    | succ i => simp at h, fun i x y h1 h2 => by
    cases i with
    | zero => simp at h2
    | succ i => simp at h1⟩
theorem good_more {ns : List Int} {x k : Int} (g : Good ns) (hl : ns.length < 8) (hx : ns[ns.length - 1]? = some x) (hk : 2 ≤ k) (hm : x * k ≤ 1000000000) : Good (ns ++ [x * k]) := by
  have l := g.len
  have xr := g.rng _ _ hx
  have gt : x < x * k := by
    have := Int.mul_le_mul_of_nonneg_left hk (show (0 : Int) ≤ x by omega)
    omega
  refine ⟨⟨by rw [List.length_append, List.length_singleton]; omega, by rw [List.length_append, List.length_singleton]; omega⟩, ?_, fun i y h => ?_, fun i y z h1 h2 => ?_⟩
  · rw [List.getElem?_append_left (by omega)]
    exact g.one
  · by_cases hi : i < ns.length
    · rw [List.getElem?_append_left hi] at h
      exact g.rng i y h
    · rw [List.getElem?_append_right (by omega)] at h
      have hi2 : i - ns.length = 0 := by
        cases e : i - ns.length with
        | zero => rfl
        | succ n => rw [e] at h; simp at h
      rw [hi2] at h
      have e : x * k = y := Option.some.inj h
      omega
  · by_cases hi : i + 1 < ns.length
    · rw [List.getElem?_append_left hi] at h2
      rw [List.getElem?_append_left (by omega)] at h1
      exact g.up i y z h1 h2
    · by_cases hi2 : i + 1 = ns.length
      · rw [List.getElem?_append_left (by omega)] at h1
        rw [List.getElem?_append_right (by omega), hi2, Nat.sub_self] at h2
        have e : x * k = z := Option.some.inj h2
        rw [show i = ns.length - 1 by omega, hx] at h1
        have e2 : x = y := Option.some.inj h1
        rw [← e, ← e2]
        exact ⟨gt, Int.mul_emod_right x k⟩
      · rw [List.getElem?_append_right (by omega)] at h2
        cases e : i + 1 - ns.length with
        | zero => omega
        | succ n => rw [e] at h2; simp at h2
def spSizes : Sp := fun vs H Q _ => ∃ (r : Addr) (lv gr : Int), vs = [.ref r, .int lv, .int gr] ∧ Rng H r ∧ 1 ≤ lv ∧ lv ≤ 8 ∧ 2 ≤ gr ∧ gr ≤ 1000000 ∧
  ∀ l ns H', Good ns → H l = none → H' l = some (.lst (ns.map V.int)) → Stp r H H' → Q (.ref l) H'
theorem at_last (ys : List Int) (x : Int) : atI ((ys ++ [x]).map V.int) (-1) = some (.int x) := by
  rw [List.map_append]
  exact atI_last _ _
theorem last_of : ∀ {ns : List Int}, 1 ≤ ns.length → ∃ ys x, ns = ys ++ [x]
  | [], h => absurd h (by decide)
  | [x], _ => ⟨[], x, rfl⟩
  | a :: b :: r, _ => by
    obtain ⟨ys, x, e⟩ := last_of (ns := b :: r) (by simp)
    exact ⟨a :: ys, x, by rw [e]; rfl⟩
theorem last_get (ys : List Int) (x : Int) : (ys ++ [x])[(ys ++ [x]).length - 1]? = some x := by
  rw [List.length_append, List.length_singleton, Nat.add_sub_cancel, List.getElem?_append_right (Nat.le_refl _), Nat.sub_self]
  rfl
theorem sc__law_sizes : FnScope ["_law_rng_here", "_law_levels", "_law_greatest", "_law_result", "_law_k", "_law_factor"] ["_law_rng_here", "_law_levels", "_law_greatest"] (defScope (top 19)) := ⟨rfl, rfl, rfl, by decide +kernel, rfl, by decide +kernel, by decide +kernel⟩
theorem ok_sizes (T : Tx K mg) (D__law_draw : Df P w K mg base 1 "_law_draw" ["_law_rng_here", "_law_many"] spDraw) (F : FnP K "_law_sizes" "_law_sizes" (top 19) f fd) :
    FnOk P w K mg base CX0 2 f fd ["_law_rng_here", "_law_levels", "_law_greatest"] spSizes := by
  refine F.ok sc__law_sizes (fun vs H Q E h => ?_) (fun cdv A outer s H vs Q E hr h => ⟨_, PSs.nox (pss_cons (ps_set (i := 3) sc__law_sizes.nd rfl (by first | exact Or.inl rfl | exact Or.inr rfl) (pe_lst (pa_cons pe_int pa_nil))) (pss_cons (ps_for PassesOwn.never rfl (pi_range1 rfl T.n_range (pa_cons (pcall D__law_draw hr (pa_cons (pv 0) (pa_cons (pv 1) pa_nil))) pa_nil)) (pg_name (i := 4) sc__law_sizes.nd rfl (by first | exact Or.inl rfl | exact Or.inr rfl)) (pss_cons (ps_set (i := 5) sc__law_sizes.nd rfl (by first | exact Or.inl rfl | exact Or.inr rfl) (pe_ix ix_list (pe_lst (pa_cons pe_int (pa_cons pe_int (pa_cons pe_int (pa_cons pe_int (pa_cons (pe_op op_add pe_int (pcall D__law_draw hr (pa_cons (pv 0) (pa_cons (pe_op op_sub (pv 2) pe_int) pa_nil)))) pa_nil)))))) (pcall D__law_draw hr (pa_cons (pv 0) (pa_cons pe_int pa_nil))) (fun _ _ => rfl))) (pss_one (ps_if (PW.pt (pw_and (pt_cmpR op_le (pe_op op_mul (pe_ix ix_list (pv 3) (pe_un un_neg pe_int) (fun _ _ => rfl)) (pv 5)) (pe_op op_pow pe_int pe_int) (nomark _)) (pw_and1 (pt_cmpR op_le (pv 5) (pv 2) (nomark _))))) (pss_one (ps_expr (pe_bm PySem.F.plainAttrs_list PySem.F.slot_list_append PySem.F.type_list_append mt_append (pv 3) (pa_cons (pe_op op_mul (pe_ix ix_list (pv 3) (pe_un un_neg pe_int) (fun _ _ => rfl)) (pv 5)) pa_nil)))) pss_nil)))) (pss_one (ps_ret (pv 3))))), ?_⟩)
  · obtain ⟨r, lv, gr, rfl, _⟩ := h
    rfl
  · obtain ⟨r, lv, gr, rfl, hR, l1, l2, g1, g2, q⟩ := h
    have big : (10 : Int) ^ 40 = 10000000000000000000000000000000000000000 := by decide
    refine ⟨(by show 1 ≤ sizeLine; decide), fun l hl => ?_⟩
    have nrl : r ≠ l := hR.ne hl
    have s0 : Stp r H (upd H l (.lst [.int 1])) := (Stp.refl hR).new hl
    refine ⟨_, rfl, _, rfl, r, lv, rfl, s0.1, l1, by omega, fun d H1 d0 d1 s1 => ?_⟩
    refine ⟨d, rfl, by omega, by omega, ?_⟩
    have s01 := s0.trans s1
    refine for_range (fun i σ H' => ∃ ns x y, σ = [some (.ref r), some (.int lv), some (.int gr), some (.ref l), x, y] ∧ Good ns ∧ ns.length ≤ i + 1 ∧ H' l = some (.lst (ns.map V.int)) ∧ Stp r H H') ⟨[1], none, none, rfl, good_one, by simp, s1.2 l _ nrl.symm upd_same, s01⟩ ?_ ?_
    · rintro i σ H' hi ⟨ns, x, y, rfl, g, hlen, hL, st⟩
      have hi8 : i < 8 := by omega
      obtain ⟨ys, z, rfl⟩ := last_of g.len.1
      have zr := g.rng _ _ (last_get ys z)
      refine ⟨_, rfl, _, rfl, _, _, rfl, rfl, r, gr - 1, rfl, st.1, by omega, by omega, fun d1 H1 a0 a1 t1 => ?_⟩
      have st1 := st.trans t1
      have hL1 : H1 l = some (.lst ((ys ++ [z]).map V.int)) := t1.2 l _ nrl.symm hL
      refine ⟨_, _, rfl, rfl, (by show 5 ≤ sizeLine; decide), fun t ht => ?_⟩
      have st2 := st1.new (o := .lst [.int 2, .int 2, .int 3, .int 4, .int (2 + d1)]) ht
      have nrt : r ≠ t := st1.1.ne ht
      have hL2 : (upd H1 t (.lst [.int 2, .int 2, .int 3, .int 4, .int (2 + d1)])) l = some (.lst ((ys ++ [z]).map V.int)) := by rw [upd_ne (ne_of_none hL1 ht)]; exact hL1
      refine ⟨_, rfl, r, 5, rfl, st2.1, by decide, by omega, fun d2 H3 b0 b1 t3 => ?_⟩
      have st3 := st2.trans t3
      have hL3 : H3 l = some (.lst ((ys ++ [z]).map V.int)) := t3.2 l _ nrl.symm hL2
      obtain ⟨v, hv, hm⟩ := at_of (α := V) (xs := [.int 2, .int 2, .int 3, .int 4, .int (2 + d1)]) b0 b1
      obtain ⟨k, rfl, k2⟩ : ∃ k : Int, v = .int k ∧ 2 ≤ k := by
        simp only [List.mem_cons, List.not_mem_nil, or_false] at hm
        rcases hm with rfl | rfl | rfl | rfl | rfl
        · exact ⟨_, rfl, by omega⟩
        · exact ⟨_, rfl, by omega⟩
        · exact ⟨_, rfl, by omega⟩
        · exact ⟨_, rfl, by omega⟩
        · exact ⟨_, rfl, by omega⟩
      refine ⟨t, _, _, _, rfl, rfl, SqL.of (t3.2 t _ nrt.symm upd_same), hv, ?_⟩
      refine ⟨_, rfl, _, rfl, l, _, _, _, rfl, rfl, SqL.of hL3, at_last ys z, _, rfl, _, _, rfl, rfl, .inl ⟨by omega, by omega⟩, _, _, rfl, rfl, ⟨by decide, by decide, by decide⟩, _, _, rfl, rfl, _, rfl, ?_⟩
      by_cases hc : z * k ≤ 10 ^ (9 : Int).toNat
      · refine ifT (decide_eq_true hc) ?_
        refine ⟨_, rfl, _, rfl, _, _, rfl, rfl, _, rfl, ite2 (fun hk => ?_) (fun _ => ?_)⟩
        · refine ⟨_, rfl, .inl ⟨rfl, _, SqL.of hL3⟩, _, rfl, _, rfl, l, _, _, _, rfl, rfl, SqL.of hL3, at_last ys z, _, rfl, _, _, rfl, rfl, .inl ⟨by omega, by omega⟩, l, _, _, rfl, rfl, hL3, ?_, ?_⟩
          · exact small1000 (by rw [List.length_map]; omega)
          · have hc2 : z * k ≤ 1000000000 := hc
            refine ⟨(ys ++ [z]) ++ [z * k], _, _, rfl, good_more g (by omega) (last_get ys z) k2 hc2, by rw [List.length_append (bs := [z * k]), List.length_singleton]; omega, ?_, ?_⟩
            · rw [upd_same, List.map_append (l₂ := [z * k])]
              rfl
            · obtain ⟨⟨x1, x2, e1, e2⟩, kk⟩ := st3
              refine ⟨⟨x1, x2, by rw [upd_ne nrl]; exact e1, e2⟩, fun b o n e => ?_⟩
              rw [upd_ne (ne_of_none e hl)]
              exact kk b o n e
        · exact ⟨_, _, _, rfl, g, by omega, hL3, st3⟩
      · exact ifF (decide_eq_false hc) ⟨_, _, _, rfl, g, by omega, hL3, st3⟩
    · rintro σ H' ⟨ns, x, y, rfl, g, hlen, hL, st⟩
      exact ⟨_, rfl, q l ns H' g hl hL st⟩
theorem Stp.same {r : Addr} {H H' : Hp} (h : Rng H r) (s : Same H H') : Stp r H H' := by
  obtain ⟨a, b, e, z⟩ := h
  exact ⟨⟨a, b, s _ _ e, z⟩, fun c o _ e => s c o e⟩
theorem Stp.at {r D : Addr} {M H' : Hp} {o : HO} (s : Stp r M H') (hD : M D = none) (n : D ≠ r) : Stp r M (upd H' D o) := by
  obtain ⟨⟨a, b, e, z⟩, k⟩ := s
  refine ⟨⟨a, b, by rw [upd_ne n.symm]; exact e, z⟩, fun c u m h => ?_⟩
  rw [upd_ne (ne_of_none h hD)]
  exact k c u m h
def trues (i : Nat) : List V := (List.replicate i true).map V.bl
theorem trues_more (i : Nat) : trues i ++ [V.bl true] = trues (i + 1) := by
  unfold trues
  rw [List.replicate_succ', List.map_append]
  rfl
theorem trues_len (i : Nat) : (trues i).length = i := by
  unfold trues
  rw [List.length_map, List.length_replicate]
theorem all_trues (i : Nat) : (List.replicate i true).all id = true := by
  rw [List.all_replicate]
  split <;> rfl
end
end K13

set_option Elab.async false
set_option linter.all false
set_option maxRecDepth 100000
set_option maxHeartbeats 4000000
namespace K13
open PySem PySem.Spec PyProof.Rows L2 Gu Ex
/-- the levels of the pieces, falling: those of the highest i levels -/
def lvls (ns : List Int) (n : Int) : Nat → List Int
  | 0 => []
  | i + 1 => lvls ns n i ++ List.replicate (M13.cnt (sz ns) ns.length n (ns.length - 1 - i)).toNat ((ns.length - 1 - i : Nat) : Int)
def pcs (ns : List Int) (n : Int) : List Int := lvls ns n ns.length
theorem falls_sum (ns : List Int) (n : Int) (i : Nat) : (falls ns n (i + 1)).sum = (falls ns n i).sum + M13.cnt (sz ns) ns.length n (ns.length - 1 - i) := by
  rw [← falls_more, List.sum_append]
  show _ + (_ + 0) = _
  omega
theorem falls_nn {ns : List Int} (g : Good ns) {n : Int} (hn : 0 ≤ n) : ∀ i, i ≤ ns.length → 0 ≤ (falls ns n i).sum ∧ ((lvls ns n i).length : Int) = (falls ns n i).sum
  | 0, _ => ⟨Int.le_refl _, rfl⟩
  | i + 1, h => by
    obtain ⟨h1, h2⟩ := falls_nn g hn i (by omega)
    have c0 := M13.cnt_nn (chain g) hn (k := ns.length - 1 - i) (by omega)
    rw [falls_sum]
    refine ⟨by omega, ?_⟩
    show (((lvls ns n i ++ List.replicate _ _).length : Nat) : Int) = _
    rw [List.length_append, List.length_replicate]
    omega
theorem falls_up {ns : List Int} (g : Good ns) {n : Int} (hn : 0 ≤ n) {i : Nat} : ∀ d, i + d ≤ ns.length → (falls ns n i).sum ≤ (falls ns n (i + d)).sum
  | 0, _ => Int.le_refl _
  | d + 1, h => by
    have ih := falls_up g hn (i := i) d (by omega)
    have c0 := M13.cnt_nn (chain g) hn (k := ns.length - 1 - (i + d)) (by omega)
    rw [show i + (d + 1) = (i + d) + 1 by omega, falls_sum]
    omega
theorem sum_rev : ∀ l : List Int, l.reverse.sum = l.sum
  | [] => rfl
  | x :: l => by
    rw [List.reverse_cons, List.sum_append, sum_rev l]
    show _ + (x + 0) = x + l.sum
    omega
theorem falls_le {ns : List Int} (g : Good ns) {n : Int} (hn : 0 ≤ n) {i : Nat} (hi : i ≤ ns.length) : (falls ns n i).sum ≤ (cnts ns n).sum := by
  have h := falls_up g hn (i := i) (ns.length - i) (by omega)
  rw [show i + (ns.length - i) = ns.length by omega] at h
  rw [← falls_all, sum_rev]
  exact h
theorem cnt_le {ns : List Int} (g : Good ns) {n : Int} (hn : 0 ≤ n) {i : Nat} (hi : i < ns.length) (h : (cnts ns n).sum ≤ 64) : 0 ≤ M13.cnt (sz ns) ns.length n (ns.length - 1 - i) ∧ M13.cnt (sz ns) ns.length n (ns.length - 1 - i) ≤ 64 ∧ (lvls ns n i).length + (M13.cnt (sz ns) ns.length n (ns.length - 1 - i)).toNat ≤ 64 := by
  have h1 := falls_le g hn (i := i + 1) (by omega)
  obtain ⟨h2, h3⟩ := falls_nn g hn i (by omega)
  have c0 := M13.cnt_nn (chain g) hn (k := ns.length - 1 - i) (by omega)
  rw [falls_sum] at h1
  omega
theorem flat_one (k : Nat) (v : V) : (List.replicate k [v]).flatten = List.replicate k v := by
  induction k with
  | zero => rfl
  | succ k ih =>
    rw [List.replicate_succ, List.flatten_cons, ih, List.replicate_succ]
    rfl
section
variable {P : Program} {w : World} {K : PySem.W.Frag} {mg : Str → Option Value} {base : Heap} {f : Addr} {fd : FuncData}
def spPieces (K : PySem.W.Frag) : Sp := fun vs H Q E => ∃ (p : Addr) (ns : List Int) (c : V), vs = [.ref p, c] ∧ SzAt (cS K) H p ns ∧ Good ns ∧ Any H c ∧
  (∀ n a H', c = .int n → cellsB c = true → (cnts ns n).sum ≤ 64 → H a = none → Same H H' → H' a = some (.lst ((pcs ns n).map V.int)) → Q (.ref a) H') ∧ (cellsB c = false → Raised K "InvalidNumber" "value" c H E) ∧
  (∀ n, c = .int n → cellsB c = true → (cnts ns n).sum > 64 → Raised K "TooManyPieces" "limit" (.int 64) H E)
theorem sc_pieces : FnScope ["self", "cells", "counts", "levels", "level"] ["self", "cells"] (defScope (inClass (top 14) 18)) := ⟨rfl, rfl, rfl, by decide +kernel, rfl, by decide +kernel, by decide +kernel⟩
theorem ok_pieces (T : Tx K mg) (M_counts : MfX P w K mg base 5 "Sizes" "counts" ["self", "cells"] (spCounts K)) (P_top : Pf P w K mg base 1 "Sizes" "top" (spTop K)) (M : Ei P w K mg base "TooManyPieces" "limit") (F : FnP K "pieces" "Sizes.pieces" (inClass (top 14) 18) f fd) :
    FnOk P w K mg base (L2.CX P w) 6 f fd ["self", "cells"] (spPieces K) := by
  obtain ⟨fdI, FI, bI⟩ := M.ex
  refine F.ok sc_pieces (fun vs H Q E h => ?_) (fun cdv A outer s H vs Q E hr h => ⟨_, (pss_cons (ps_set (i := 2) sc_pieces.nd rfl (by first | exact Or.inl rfl | exact Or.inr rfl) (pmethX M_counts hr (passX (takes_of (E := E) rfl rfl rfl rfl)) (pv 0) (pa_cons (pv 1) pa_nil))) (pss_cons (ps_if (pt_cmpR op_gt (pe_callB (cr_sum rfl) (by rfl) T.n_sum (by decide +kernel) (pa_cons (pv 2) pa_nil)) (pe_con (pv 0) rfl) (nomark _)) (pss_one (ps_raise rfl (takes_of (E := E) rfl rfl rfl rfl) (pmk_oexG T.eT.ox T.eT.ii T.eT.ti FI (hr.mono (by decide)) bI .nil pass0 rfl T.g_TooManyPieces (pa_cons (pe_con (pv 0) rfl) pa_nil)))) pss_nil) (pss_cons (ps_set (i := 3) sc_pieces.nd rfl (by first | exact Or.inl rfl | exact Or.inr rfl) (pe_lst pa_nil)) (pss_cons (ps_for (passes_of rfl) rfl (pi_range3 rfl T.n_range (pa_cons (pprop P_top hr (pv 0)) (pa_cons (pe_un un_neg pe_int) (pa_cons (pe_un un_neg pe_int) pa_nil)))) (pg_name (i := 4) sc_pieces.nd rfl (by first | exact Or.inl rfl | exact Or.inr rfl)) (pss_one (ps_aug (i := 3) sc_pieces.nd rfl (by first | exact Or.inl rfl | exact Or.inr rfl) (pe_op op_rep (pe_lst (pa_cons (pv 4) pa_nil)) (pe_ix ix_list (pv 2) (pv 4) (fun _ _ => rfl))) iop_ext))) (pss_one (ps_ret (pv 3))))))), ?_⟩)
  · obtain ⟨p, ns, c, rfl, _⟩ := h
    rfl
  · obtain ⟨p, ns, c, rfl, hz, g, hc, q1, q2, q3⟩ := h
    obtain ⟨dx, l, h1, h2⟩ := id hz
    obtain ⟨u, kP⟩ := T.kP
    refine ⟨_, rfl, p, dx, _, rfl, h1, szF_no l (by decide +kernel), _, rfl, p, ns, c, rfl, hz, g, hc, fun n a H1 ec e ha sm hA => ?_, q2⟩
    subst ec
    obtain ⟨n', e', n1, n2⟩ := cells_int e
    cases e'
    have l8 := g.len
    refine ⟨_, rfl, a, _, rfl, SqL.of hA, _, rfl, p, _, dx, _, _, u, rfl, sm _ _ h1, T.cl, kP, szF_no l (by decide +kernel), _, _, rfl, rfl, _, rfl, ?_⟩
    by_cases hs : (cnts ns n).sum > 64
    · exact ifT (decide_eq_true hs) ⟨_, rfl, p, _, dx, _, _, u, rfl, sm _ _ h1, T.cl, kP, szF_no l (by decide +kernel), (by show 1 ≤ 1000; decide), raise_ok ((q3 n rfl e hs).same sm)⟩
    · refine ifF (decide_eq_false hs) ⟨(by show 0 ≤ sizeLine; decide), fun b hb => ?_⟩
      have sb : Same H1 (upd H1 b (.lst [])) := same_upd hb
      have nab : a ≠ b := ne_of_none hA hb
      refine ⟨_, rfl, p, dx, _, rfl, sb _ _ (sm _ _ h1), p, ns, rfl, (hz.same sm).same sb, _, rfl, _, rfl, _, _, _, _, rfl, RgC.neg (by omega) (by omega) (by decide) (by decide), ?_⟩
      have en : ((ns.length : Int) - 1 - -1).toNat = ns.length := by omega
      rw [show (((ns.length : Int) - 1 - -(1 : Int)).toNat) = ns.length by omega]
      refine for_rangeC (fun i σ G => Same H1 G ∧ ∃ x : Option V, σ = [some (.ref p), some (.int n), some (.ref a), some (.ref b), x] ∧ G b = some (.lst ((lvls ns n i).map V.int))) ⟨sb, none, rfl, upd_same⟩ ?_ ?_
      · rintro i σ G hi ⟨sg, x, rfl, hB⟩
        have ek : (ns.length : Int) - 1 + (i : Nat) * (-1) = ((ns.length - 1 - i : Nat) : Int) := by omega
        rw [ek]
        obtain ⟨c0, c1, c2⟩ := cnt_le g (show 0 ≤ n by omega) hi (by omega)
        refine ⟨_, rfl, _, rfl, (by show 1 ≤ sizeLine; decide), fun t ht => ?_⟩
        have st : Same G (upd G t (.lst [.int ((ns.length - 1 - i : Nat) : Int)])) := same_upd ht
        refine ⟨_, rfl, _, rfl, a, _, _, _, rfl, rfl, SqL.of (st _ _ (sg _ _ hA)), at_map (cnts_at (show ns.length - 1 - i < ns.length by omega)), t, _, _, rfl, rfl, upd_same, by omega, by omega, ?_, fun r hr => ?_⟩
        · have e1 : sizeLine = 16777216 := sizeLine_eq
          show 1 * _ ≤ sizeLine
          omega
        · have hB2 := (same_upd (o := .lst (List.replicate (M13.cnt (sz ns) ns.length n (ns.length - 1 - i)).toNat [V.int ((ns.length - 1 - i : Nat) : Int)]).flatten) hr) _ _ (st _ _ hB)
          refine ⟨b, r, _, _, rfl, rfl, hB2, upd_same, ?_, fun c o e => ?_, _, rfl, ?_⟩
          · have e1 : sizeLine = 16777216 := sizeLine_eq
            rw [flat_one, List.length_map, List.length_replicate]
            omega
          · rw [upd_ne (ne_of_none e hb)]
            exact (same_upd hr) _ _ (st _ _ (sg _ _ e))
          · rw [upd_same, flat_one]
            show _ = some (HO.lst ((lvls ns n i ++ List.replicate _ _).map V.int))
            rw [List.map_append, List.map_replicate]
      · rintro σ G ⟨sg, x, rfl, hB⟩
        exact ⟨_, rfl, q1 n b G rfl e (by omega) (sm.free hb) (sm.trans sg) hB⟩
end
end K13

set_option Elab.async false
set_option linter.all false
set_option maxRecDepth 100000
set_option maxHeartbeats 4000000
namespace K13
open PySem PySem.Spec PyProof.Rows L2 Gu Ex
theorem cut_1 {ns : List Int} (h : 1 ≤ ns.length) : cutV (ns.map V.int) (some 1) none = (ns.drop 1).map V.int := by
  unfold cutV
  rw [HT.sIx_none, show (1 : Int) = ((1 : Nat) : Int) from rfl, HT.sIx_nat, List.length_map, Nat.min_eq_left h, List.map_drop, List.take_of_length_le (by rw [List.length_drop, List.length_map]; exact Nat.le_refl _)]
/-- the remainders by the sizes from the second on, then the number -/
def rests (ns : List Int) (n : Int) : List Int := (ns.drop 1).map (fun s => n % s) ++ [n]
theorem rests_at {ns : List Int} (h1 : 1 ≤ ns.length) {n : Int} {k : Nat} (h : k < ns.length) : (rests ns n)[k]? = some (M13.rest (sz ns) ns.length n k) := by
  unfold rests M13.rest
  by_cases hk : k + 1 < ns.length
  · rw [if_pos hk, List.getElem?_append_left (by rw [List.length_map, List.length_drop]; omega), List.getElem?_map, List.getElem?_drop, show 1 + k = k + 1 by omega, sz_at hk]
    rfl
  · rw [if_neg hk, List.getElem?_append_right (by rw [List.length_map, List.length_drop]; omega), List.length_map, List.length_drop, show k - (ns.length - 1) = 0 by omega]
    rfl
theorem int_of {xs : List Int} {i : Nat} {v : V} (h : (xs.map V.int)[i]? = some v) : ∃ x, xs[i]? = some x ∧ v = .int x := by
  rw [List.getElem?_map] at h
  cases e : xs[i]? with
  | none => rw [e] at h; cases h
  | some x => rw [e] at h; exact ⟨x, rfl, (Option.some.inj h).symm⟩
theorem take_at {α : Type} {l : List α} {i : Nat} {x : α} (h : l[i]? = some x) : l.take (i + 1) = l.take i ++ [x] := by
  obtain ⟨hi, rfl⟩ := List.getElem?_eq_some_iff.mp h
  exact List.take_succ_eq_append_getElem hi
section
variable {P : Program} {w : World} {K : PySem.W.Frag} {mg : Str → Option Value} {base : Heap} {f : Addr} {fd : FuncData}
def spCts : Sp := fun vs H Q _ => ∃ (o : Addr) (ns : List Int) (n : Int), vs = [.ref o, .int n] ∧ H o = some (.lst (ns.map V.int)) ∧ Good ns ∧ ∀ p H', H p = none → Same H H' → H' p = some (.lst ((cnts ns n).map V.int)) → Q (.ref p) H'
theorem sc__law_counts : FnScope ["_law_own", "_law_amount", "_law_rests", "_law_at", "_law_size"] ["_law_own", "_law_amount"] (defScope (top 20)) := ⟨rfl, rfl, rfl, by decide +kernel, rfl, by decide +kernel, by decide +kernel⟩
theorem ok_cts (T : Tx K mg) (F : FnP K "_law_counts" "_law_counts" (top 20) f fd) : FnOk P w K mg base CX0 1 f fd ["_law_own", "_law_amount"] spCts := by
  refine F.ok sc__law_counts (fun vs H Q E h => ?_) (fun cdv A outer s H vs Q E hr h => ⟨_, PSs.nox (pss_cons (ps_set (i := 2) sc__law_counts.nd rfl (by first | exact Or.inl rfl | exact Or.inr rfl) (pe_op op_cat (pe_lc (own := [("_law_size", 4)]) (g := gName 4) rfl sc__law_counts.nd (pi_list (pe_slice sl_list (pv 0) (po_some pe_int) po_none)) (blkOk_by (own := [("_law_size", 4)]) (N := ["_law_own", "_law_amount", "_law_rests", "_law_at", "_law_size"]) (sc := defScope (top 20)) (by decide +kernel)) (fun _ _ _ _ _ => pg_name (i := 4) sc__law_counts.nd rfl (Or.inl rfl)) (fun _ _ _ _ _ => pts_nil) (fun _ _ _ _ _ => (pe_op op_mod (pv 1) (pv 4)))) (pe_lst (pa_cons (pv 1) pa_nil)))) (pss_one (ps_ret (pe_lc (own := [("_law_at", 3)]) (g := gName 3) rfl sc__law_counts.nd (pi_range1 rfl T.n_range (pa_cons (pe_callB call_len_seq (by rfl) T.n_len (by decide +kernel) (pa_cons (pv 0) pa_nil)) pa_nil)) (blkOk_by (own := [("_law_at", 3)]) (N := ["_law_own", "_law_amount", "_law_rests", "_law_at", "_law_size"]) (sc := defScope (top 20)) (by decide +kernel)) (fun _ _ _ _ _ => pg_name (i := 3) sc__law_counts.nd rfl (Or.inl rfl)) (fun _ _ _ _ _ => pts_nil) (fun _ _ _ _ _ => (pe_op op_fdivW (pe_ix (r := rIxL K) ix_list (pv 2) (pv 3) (fun _ _ => rfl)) (pe_ix (r := rIxL K) ix_list (pv 0) (pv 3) (fun _ _ => rfl)))))))), ?_⟩)
  · obtain ⟨o, ns, n, rfl, _⟩ := h
    rfl
  · obtain ⟨o, ns, n, rfl, hO, g, q⟩ := h
    have ch := chain g
    have l8 := g.len
    have sl : sizeLine = 16777216 := sizeLine_eq
    refine ⟨_, rfl, _, rfl, o, _, rfl, SqL.of hO, fun c hc => ?_⟩
    rw [cut_1 l8.1]
    have sc : Same H (upd H c (.lst ((ns.drop 1).map V.int))) := same_upd hc
    have hC : (upd H c (.lst ((ns.drop 1).map V.int))) c = some (.lst ((ns.drop 1).map V.int)) := upd_same
    generalize upd H c (.lst ((ns.drop 1).map V.int)) = G at sc hC
    refine ⟨c, rfl, ⟨_, SqL.of hC⟩, fun D hD => ?_⟩
    refine lc_list (K := K) (a := c) (xs := (ns.drop 1).map V.int) (fun i G' => G' D = some (.lst ((((ns.drop 1).take i).map fun s => n % s).map V.int)) ∧ Same G G') ⟨upd_same, same_upd hD⟩ (fun i G' _ ⟨_, sm⟩ => SqL.of (sm _ _ hC)) ?_ ?_
    · rintro i x G' hx ⟨hG, sm⟩
      obtain ⟨z, hz, rfl⟩ := int_of hx
      have il : i < (ns.drop 1).length := (List.getElem?_eq_some_iff.mp hz).1
      rw [List.length_drop] at il
      have z1 : 1 ≤ z := by
        rw [List.getElem?_drop] at hz
        exact (g.rng _ _ hz).1
      refine ⟨rfl, _, rfl, _, rfl, _, _, rfl, rfl, (by show (0 : Int) < z; omega), _, hG, (by rw [List.length_map, List.length_map, List.length_take]; omega), ?_, fun b u e => ?_⟩
      · rw [upd_same, take_at hz, List.map_append, List.map_append]
        rfl
      · rw [upd_ne (ne_of_none e hD)]
        exact sm b u e
    · rintro G' ⟨hG, sm⟩
      rw [List.length_map, List.take_length] at hG
      have nD : H D = none := sc.free hD
      refine ⟨_, rfl, (by show 1 ≤ sizeLine; decide), fun t ht => ?_⟩
      have s1 := (sc.trans sm).trans (same_upd (o := .lst [V.int n]) ht)
      refine ⟨D, t, _, _, rfl, rfl, same_upd ht _ _ hG, upd_same, (by rw [List.length_map, List.length_map, List.length_drop]; show _ + 1 ≤ _; omega), fun R hR => ?_⟩
      have s2 := s1.trans (same_upd (o := .lst (((ns.drop 1).map fun s => n % s).map V.int ++ [V.int n])) hR)
      have hR' : (upd (upd G' t (.lst [V.int n])) R (.lst (((ns.drop 1).map fun s => n % s).map V.int ++ [V.int n]))) R = some (.lst ((rests ns n).map V.int)) := by
        rw [upd_same]
        unfold rests
        rw [List.map_append]
        rfl
      generalize upd (upd G' t (.lst [V.int n])) R (.lst (((ns.drop 1).map fun s => n % s).map V.int ++ [V.int n])) = G2 at s2 hR'
      refine ⟨_, rfl, o, _, rfl, .inl (SqL.of (s2 _ _ hO)), _, rfl, (by simp only [List.length_map]; omega), (by simp only [List.length_map]; omega), fun D2 hD2 => ?_⟩
      refine lc_range (fun i G3 => G3 D2 = some (.lst (((List.range i).map (M13.cnt (sz ns) ns.length n)).map V.int)) ∧ Same G2 G3) ⟨upd_same, same_upd hD2⟩ ?_ ?_
      · rintro i G3 hi ⟨hG3, sm3⟩
        rw [List.length_map, Int.toNat_natCast] at hi
        rw [Int.zero_add]
        refine ⟨rfl, _, rfl, _, rfl, R, _, _, _, rfl, rfl, SqL.of (sm3 _ _ hR'), at_map (rests_at l8.1 hi), _, rfl, _, rfl, o, _, _, _, rfl, rfl, SqL.of (sm3 _ _ (s2 _ _ hO)), at_sz hi, _, _, rfl, rfl, div_ok (ch.pos _ hi) (sz_le g hi), _, hG3, (by rw [List.length_map, List.length_map, List.length_range]; omega), ?_, fun b u e => ?_⟩
        · rw [upd_same, List.range_succ, List.map_append, List.map_append]
          rfl
        · rw [upd_ne (ne_of_none e hD2)]
          exact sm3 b u e
      · rintro G3 ⟨hG3, sm3⟩
        rw [List.length_map, Int.toNat_natCast] at hG3
        exact q D2 G3 (s2.free hD2) (s2.trans sm3) hG3
end
end K13

set_option Elab.async false
set_option linter.all false
set_option maxRecDepth 100000
set_option maxHeartbeats 4000000
namespace K13
open PySem PySem.Spec PyProof.Rows L2 Gu Ex
/-- how many blocks at least -/
def fw (ns : List Int) (n : Int) : Int := M13.F (sz ns) ns.length n
theorem sum_fw {ns : List Int} (g : Good ns) (n : Int) : (cnts ns n).sum = fw ns n := M13.F_sum ns.length n (chain g)
/-- what fewest looks at for the number m -/
def opts (ns : List Int) (m : Int) : List Int := (ns.filter fun s => decide (s ≤ m)).map fun s => fw ns (m - s)
theorem mem_sz {ns : List Int} {x : Int} (h : x ∈ ns) : ∃ k, k < ns.length ∧ x = sz ns k := by
  obtain ⟨k, hk, rfl⟩ := List.mem_iff_getElem.mp h
  exact ⟨k, hk, Option.some.inj ((List.getElem?_eq_getElem hk).symm.trans (sz_at hk))⟩
theorem sz_mem {ns : List Int} {k : Nat} (h : k < ns.length) : sz ns k ∈ ns := List.mem_of_getElem? (sz_at h)
theorem opts_pos {ns : List Int} (g : Good ns) {m : Int} (h : 1 ≤ m) : 0 < (opts ns m).length := by
  have l8 := g.len
  have h0 : sz ns 0 ∈ ns.filter fun s => decide (s ≤ m) := List.mem_filter.mpr ⟨sz_mem (by omega), decide_eq_true (by rw [(chain g).one]; exact h)⟩
  unfold opts
  rw [List.length_map]
  exact List.length_pos_of_mem h0
theorem opts_min {ns : List Int} (g : Good ns) {m x : Int} (h : 1 ≤ m) (hx : x ∈ opts ns m) (hm : ∀ y ∈ opts ns m, x ≤ y) : 1 + x = fw ns m := by
  unfold opts at hx hm
  obtain ⟨s, hs, rfl⟩ := List.mem_map.mp hx
  obtain ⟨s1, s2⟩ := List.mem_filter.mp hs
  have s3 : s ≤ m := of_decide_eq_true s2
  obtain ⟨k, hk, rfl⟩ := mem_sz s1
  have up := M13.F_add ns.length k (m - sz ns k) (chain g) hk (by omega)
  rw [show m - sz ns k + sz ns k = m by omega] at up
  obtain ⟨j, j1, j2, j3⟩ := M13.F_sub ns.length m (chain g) h
  have lo := hm (fw ns (m - sz ns j)) (List.mem_map.mpr ⟨sz ns j, List.mem_filter.mpr ⟨sz_mem j1, decide_eq_true j2⟩, rfl⟩)
  show 1 + M13.F (sz ns) ns.length (m - sz ns k) = M13.F (sz ns) ns.length m
  have lo' : M13.F (sz ns) ns.length (m - sz ns k) ≤ M13.F (sz ns) ns.length (m - sz ns j) := lo
  omega
def fws (ns : List Int) (i : Nat) : List Int := (List.range i).map fun k => fw ns (k : Nat)
theorem fws_len (ns : List Int) (i : Nat) : (fws ns i).length = i := by
  unfold fws
  rw [List.length_map, List.length_range]
theorem fws_at {ns : List Int} {i k : Nat} (h : k < i) : (fws ns i)[k]? = some (fw ns (k : Nat)) := by
  unfold fws
  rw [List.getElem?_map, List.getElem?_range h]
  rfl
theorem filter_at {α : Type} (p : α → Bool) {l : List α} {i : Nat} {x : α} (h : l[i]? = some x) : (l.take (i + 1)).filter p = (l.take i).filter p ++ (if p x = true then [x] else []) := by
  rw [take_at h, List.filter_append]
  congr 1
  by_cases hp : p x = true
  · rw [if_pos hp, List.filter_cons_of_pos hp]
    rfl
  · rw [if_neg hp, List.filter_cons_of_neg hp]
    rfl
section
variable {P : Program} {w : World} {K : PySem.W.Frag} {mg : Str → Option Value} {base : Heap} {f : Addr} {fd : FuncData}
def spFew : Sp := fun vs H Q _ => ∃ (o : Addr) (ns : List Int) (n : Int), vs = [.ref o, .int n] ∧ H o = some (.lst (ns.map V.int)) ∧ Good ns ∧ 1 ≤ n ∧ n ≤ 60 ∧ ∀ H', Same H H' → Q (.int (fw ns n)) H'
theorem sc__law_fewest : FnScope ["_law_own", "_law_amount", "_law_result", "_law_many", "_law_size"] ["_law_own", "_law_amount"] (defScope (top 22)) := ⟨rfl, rfl, rfl, by decide +kernel, rfl, by decide +kernel, by decide +kernel⟩
theorem ok_few (T : Tx K mg) (F : FnP K "_law_fewest" "_law_fewest" (top 22) f fd) : FnOk P w K mg base CX0 1 f fd ["_law_own", "_law_amount"] spFew := by
  refine F.ok sc__law_fewest (fun vs H Q E h => ?_) (fun cdv A outer s H vs Q E hr h => ⟨_, PSs.nox (pss_cons (ps_set (i := 2) sc__law_fewest.nd rfl (by first | exact Or.inl rfl | exact Or.inr rfl) (pe_lst (pa_cons pe_int pa_nil))) (pss_cons (ps_for PassesOwn.never rfl (pi_range2 rfl T.n_range (pa_cons pe_int (pa_cons (pe_op op_add (pv 1) pe_int) pa_nil))) (pg_name (i := 3) sc__law_fewest.nd rfl (by first | exact Or.inl rfl | exact Or.inr rfl)) (pss_one (ps_expr (pe_bm PySem.F.plainAttrs_list PySem.F.slot_list_append PySem.F.type_list_append mt_append (pv 2) (pa_cons (pe_op op_add pe_int (pe_callB (cr_min rfl) (by rfl) T.n_min (by decide +kernel) (pa_cons (pe_lc (own := [("_law_size", 4)]) (g := gName 4) rfl sc__law_fewest.nd (pi_list (pv 0)) (blkOk_by (own := [("_law_size", 4)]) (N := ["_law_own", "_law_amount", "_law_result", "_law_many", "_law_size"]) (sc := defScope (top 22)) (by decide +kernel)) (fun _ _ _ _ _ => pg_name (i := 4) sc__law_fewest.nd rfl (Or.inl rfl)) (fun _ _ _ _ _ => (pts_one (pt_cmpR op_le (pv 4) (pv 3) (nomark _)))) (fun _ _ _ _ _ => (pe_ix (r := rIxL K) ix_list (pv 2) (pe_op op_sub (pv 3) (pv 4)) (fun _ _ => rfl)))) pa_nil))) pa_nil))))) (pss_one (ps_ret (pe_ix ix_list (pv 2) (pv 1) (fun _ _ => rfl)))))), ?_⟩)
  · obtain ⟨o, ns, n, rfl, _⟩ := h
    rfl
  · obtain ⟨o, ns, n, rfl, hO, g, n1, n2, q⟩ := h
    have ch := chain g
    have l8 := g.len
    have sl : sizeLine = 16777216 := sizeLine_eq
    refine ⟨(by show 1 ≤ sizeLine; decide), fun b hb => ?_⟩
    have sb : Same H (upd H b (.lst [V.int 0])) := same_upd hb
    refine ⟨_, rfl, _, _, rfl, rfl, _, _, rfl, ⟨by decide, by decide, by omega, by omega⟩, ?_⟩
    rw [show (n + 1 - 1).toNat = n.toNat by omega]
    refine for_range (fun i σ G => Same H G ∧ ∃ x y : Option V, σ = [some (.ref o), some (.int n), some (.ref b), x, y] ∧ G b = some (.lst ((fws ns (i + 1)).map V.int))) ⟨sb, none, none, rfl, by rw [upd_same]; show _ = some (HO.lst [V.int (M13.F _ _ 0)]); rw [M13.F_zero]⟩ ?_ ?_
    · rintro i σ G hi ⟨sg, x, y, rfl, hB⟩
      have em : (1 : Int) + (i : Nat) = ((i + 1 : Nat) : Int) := by omega
      rw [em]
      refine ⟨_, rfl, .inl ⟨rfl, _, SqL.of hB⟩, _, rfl, o, rfl, ⟨_, SqL.of (sg _ _ hO)⟩, fun D hD => ?_⟩
      refine lc_list (K := K) (a := o) (xs := ns.map V.int) (fun j G' => G' D = some (.lst ((((ns.take j).filter fun s => decide (s ≤ ((i + 1 : Nat) : Int))).map fun s => fw ns (((i + 1 : Nat) : Int) - s)).map V.int)) ∧ Same G G') ⟨upd_same, same_upd hD⟩ (fun j G' _ ⟨_, sm⟩ => SqL.of (sm _ _ (sg _ _ hO))) ?_ ?_
      · rintro j x2 G' hx ⟨hG, sm⟩
        obtain ⟨z, hz, rfl⟩ := int_of hx
        have zr := g.rng _ _ hz
        have fa := filter_at (fun s => decide (s ≤ ((i + 1 : Nat) : Int))) hz
        have fl := List.length_filter_le (fun s : Int => decide (s ≤ ((i + 1 : Nat) : Int))) (ns.take j)
        rw [List.length_take] at fl
        refine ⟨rfl, _, rfl, _, rfl, _, _, rfl, rfl, _, rfl, ?_⟩
        by_cases hc : z ≤ ((i + 1 : Nat) : Int)
        · rw [if_pos (decide_eq_true hc)] at fa
          refine ifT (decide_eq_true hc) ⟨_, rfl, _, rfl, _, rfl, _, _, rfl, rfl, b, _, _, .int (fw ns (((i + 1 : Nat) : Int) - z)), rfl, rfl, SqL.of (sm _ _ hB), ?_, _, hG, (by rw [List.length_map, List.length_map]; omega), ?_, fun c u e => ?_⟩
          · show atI _ (((i + 1 : Nat) : Int) - z) = some (V.int (fw ns (((i + 1 : Nat) : Int) - z)))
            rw [show ((i + 1 : Nat) : Int) - z = (((((i + 1 : Nat) : Int) - z).toNat : Nat) : Int) by omega]
            exact at_map (fws_at (by omega))
          · rw [upd_same, fa, List.map_append, List.map_append]
            rfl
          · rw [upd_ne (ne_of_none e hD)]
            exact sm c u e
        · rw [if_neg (by rw [decide_eq_false hc]; exact Bool.false_ne_true), List.append_nil] at fa
          refine ifF (decide_eq_false hc) ⟨?_, sm⟩
          rw [fa]
          exact hG
      · rintro G' ⟨hG, sm⟩
        rw [List.length_map, List.take_length] at hG
        have i1 : (1 : Int) ≤ ((i + 1 : Nat) : Int) := by omega
        refine ⟨D, opts ns ((i + 1 : Nat) : Int), rfl, SqL.of hG, opts_pos g i1, fun m hm mn => ?_⟩
        refine ⟨_, _, rfl, rfl, b, _, _, rfl, rfl, sm _ _ hB, small1000 (by rw [List.length_map, fws_len]; omega), fun c u e => ?_, _, _, rfl, ?_⟩
        · rw [upd_ne (ne_of_none e hb)]
          exact sm _ _ (sg _ _ e)
        · rw [upd_same]
          show some (HO.lst (_ ++ [V.int (1 + m)])) = _
          rw [opts_min g i1 hm mn]
          show _ = some (HO.lst (((List.range (i + 1 + 1)).map _).map V.int))
          rw [List.range_succ, List.map_append, List.map_append]
          rfl
    · rintro σ G ⟨sg, x, y, rfl, hB⟩
      refine ⟨_, rfl, _, rfl, b, _, _, _, rfl, rfl, SqL.of hB, ?_, q G sg⟩
      rw [show n = ((n.toNat : Nat) : Int) by omega, Int.toNat_natCast]
      exact at_map (fws_at (by omega))
end
end K13

set_option Elab.async false
set_option linter.all false
set_option maxRecDepth 100000
set_option maxHeartbeats 4000000
namespace K13
open PySem PySem.Spec PyProof.Rows L2 Gu Ex
section
variable {P : Program} {w : World} {K : PySem.W.Frag} {mg : Str → Option Value} {base : Heap} {f : Addr} {fd : FuncData}
def spNum : Sp := fun vs H Q _ => ∃ (r o : Addr) (ns : List Int), vs = [.ref r, .ref o] ∧ Rng H r ∧ H o = some (.lst (ns.map V.int)) ∧ o ≠ r ∧ Good ns ∧ ∀ n H', 1 ≤ n → n ≤ 1000000000000 → Stp r H H' → Q (.int n) H'
theorem sc__law_number : FnScope ["_law_rng_here", "_law_own", "_law_size", "_law_near", "_law_some", "_law_far", "_law_turn"] ["_law_rng_here", "_law_own"] (defScope (top 21)) := ⟨rfl, rfl, rfl, by decide +kernel, rfl, by decide +kernel, by decide +kernel⟩
theorem ok_num (T : Tx K mg) (D__law_draw : Df P w K mg base 1 "_law_draw" ["_law_rng_here", "_law_many"] spDraw) (D__law_choice : Df P w K mg base 2 "_law_choice" ["_law_rng_here", "_law_options"] spChoice) (F : FnP K "_law_number" "_law_number" (top 21) f fd) : FnOk P w K mg base CX0 3 f fd ["_law_rng_here", "_law_own"] spNum := by
  refine F.ok sc__law_number (fun vs H Q E h => ?_) (fun cdv A outer s H vs Q E hr h => ⟨_, PSs.nox (pss_cons (ps_set (i := 2) sc__law_number.nd rfl (by first | exact Or.inl rfl | exact Or.inr rfl) (pcall D__law_choice hr (pa_cons (pv 0) (pa_cons (pv 1) pa_nil)))) (pss_cons (ps_set (i := 3) sc__law_number.nd rfl (by first | exact Or.inl rfl | exact Or.inr rfl) (pe_callB (call_max2 rfl) (by rfl) T.n_max (by decide +kernel) (pa_cons pe_int (pa_cons (pe_op op_sub (pe_op op_add (pe_op op_mul (pv 2) (pe_op op_add pe_int (pcall D__law_draw hr (pa_cons (pv 0) (pa_cons pe_int pa_nil))))) (pcall D__law_draw hr (pa_cons (pv 0) (pa_cons pe_int pa_nil)))) pe_int) pa_nil)))) (pss_cons (ps_set (i := 4) sc__law_number.nd rfl (by first | exact Or.inl rfl | exact Or.inr rfl) (pe_callB (cr_sum rfl) (by rfl) T.n_sum (by decide +kernel) (pa_cons (pe_lc (own := [("_law_turn", 6)]) (g := gName 6) rfl sc__law_number.nd (pi_range1 rfl T.n_range (pa_cons (pe_op op_add pe_int (pcall D__law_draw hr (pa_cons (pv 0) (pa_cons pe_int pa_nil)))) pa_nil)) (blkOk_by (own := [("_law_turn", 6)]) (N := ["_law_rng_here", "_law_own", "_law_size", "_law_near", "_law_some", "_law_far", "_law_turn"]) (sc := defScope (top 21)) (by decide +kernel)) (fun _ _ _ _ _ => pg_name (i := 6) sc__law_number.nd rfl (Or.inl rfl)) (fun _ _ _ _ _ => pts_nil) (fun _ _ _ _ _ => (pcall D__law_choice hr (pa_cons (pv 0) (pa_cons (pv 1) pa_nil))))) pa_nil))) (pss_cons (ps_set (i := 5) sc__law_number.nd rfl (by first | exact Or.inl rfl | exact Or.inr rfl) (pe_ix ix_list (pe_lst (pa_cons (pe_op op_sub (pe_op op_pow pe_int pe_int) (pcall D__law_draw hr (pa_cons (pv 0) (pa_cons pe_int pa_nil)))) (pa_cons (pe_op op_add pe_int (pcall D__law_draw hr (pa_cons (pv 0) (pa_cons (pe_op op_pow pe_int pe_int) pa_nil)))) pa_nil))) (pcall D__law_draw hr (pa_cons (pv 0) (pa_cons pe_int pa_nil))) (fun _ _ => rfl))) (pss_one (ps_ret (pe_callB (call_min2 rfl) (by rfl) T.n_min (by decide +kernel) (pa_cons (pe_op op_pow pe_int pe_int) (pa_cons (pcall D__law_choice hr (pa_cons (pv 0) (pa_cons (pe_lst (pa_cons (pe_op op_add pe_int (pcall D__law_draw hr (pa_cons (pv 0) (pa_cons pe_int pa_nil)))) (pa_cons (pv 3) (pa_cons (pv 4) (pa_cons (pv 5) pa_nil))))) pa_nil))) pa_nil))))))))), ?_⟩)
  · obtain ⟨r, o, ns, rfl, _⟩ := h
    rfl
  · obtain ⟨r, o, ns, rfl, hR, hO, nor, g, q⟩ := h
    have l8 := g.len
    have sl : sizeLine = 16777216 := sizeLine_eq
    have big : (10 : Int) ^ 40 = 10000000000000000000000000000000000000000 := by decide
    have own : ∀ {v : V}, v ∈ ns.map V.int → ∃ z : Int, v = .int z ∧ 1 ≤ z ∧ z ≤ 1000000000 := fun {v} hv => by
      obtain ⟨z, hz, rfl⟩ := List.mem_map.mp hv
      obtain ⟨i, hi⟩ := List.getElem?_of_mem hz
      exact ⟨z, rfl, g.rng _ _ hi⟩
    have ln : (ns.map V.int).length = ns.length := List.length_map _
    refine ⟨_, rfl, _, rfl, r, o, _, rfl, hR, hO, nor, by omega, by omega, fun v H1 hv s1 => ?_⟩
    obtain ⟨z, rfl, z1, z2⟩ := own hv
    refine ⟨_, rfl, _, rfl, r, 5, rfl, s1.1, by decide, by omega, fun d1 H2 a0 a1 t2 => ?_⟩
    have s2 := s1.trans t2
    refine ⟨_, _, rfl, rfl, _, _, rfl, rfl, .inl ⟨by omega, by omega⟩, _, rfl, r, 3, rfl, s2.1, by decide, by omega, fun d2 H3 b0 b1 t3 => ?_⟩
    have s3 := s2.trans t3
    have m0 : 0 ≤ z * (1 + d1) := Int.mul_nonneg (by omega) (by omega)
    have m1 : z * (1 + d1) ≤ 1000000000 * 5 := Int.mul_le_mul z2 (by omega) (by omega) (by omega)
    refine ⟨_, _, rfl, rfl, _, _, rfl, rfl, _, _, rfl, ?_⟩
    obtain ⟨nr, en, nr1, nr2⟩ : ∃ nr : Int, (if z * (1 + d1) + d2 - 1 > 1 then z * (1 + d1) + d2 - 1 else 1) = nr ∧ 1 ≤ nr ∧ nr ≤ 10000000000 := ⟨_, rfl, by split <;> omega, by split <;> omega⟩
    rw [en]
    refine ⟨_, rfl, r, 6, rfl, s3.1, by decide, by omega, fun d3 H4 c0 c1 t4 => ?_⟩
    have s4 := s3.trans t4
    refine ⟨_, _, rfl, rfl, _, rfl, by omega, by omega, fun D hD => ?_⟩
    refine lc_range (fun i G => ∃ ms : List Int, G D = some (.lst (ms.map V.int)) ∧ ms.length = i ∧ (i : Int) ≤ ms.sum ∧ ms.sum ≤ 1000000000 * (i : Int) ∧ Stp r H4 G) ⟨[], upd_same, rfl, by decide, by decide, (Stp.refl s4.1).new hD⟩ ?_ ?_
    · rintro i G hi ⟨ms, hG, ml, m3, m4, sg⟩
      have s5 := s4.trans sg
      refine ⟨rfl, _, rfl, _, rfl, r, o, _, rfl, s5.1, s5.2 _ _ nor hO, nor, by omega, by omega, fun v2 H5 hv2 t5 => ?_⟩
      obtain ⟨z3, rfl, z4, z5⟩ := own hv2
      have nDr : D ≠ r := (s4.1.ne hD).symm
      refine ⟨_, t5.2 _ _ nDr hG, (by rw [List.length_map]; omega), ms ++ [z3], ?_, ?_, ?_, ?_, ?_⟩
      · rw [upd_same, List.map_append]
        rfl
      · rw [List.length_append, ml]
        rfl
      · rw [List.sum_append]
        show _ ≤ _ + (z3 + 0)
        omega
      · rw [List.sum_append]
        show _ + (z3 + 0) ≤ _
        omega
      · exact (sg.trans t5).at hD nDr
    · rintro G ⟨ms, hG, ml, m3, m4, sg⟩
      have s5 := s4.trans sg
      have l1 : (1 : Int) ≤ ms.sum := by omega
      have l2 : ms.sum ≤ 10000000000 := by omega
      refine ⟨D, ms, rfl, SqL.of hG, ?_⟩
      refine ⟨_, _, rfl, rfl, ⟨by decide, by decide, by decide⟩, _, rfl, r, 1000, rfl, s5.1, by decide, by omega, fun d4 H6 e0 e1 t6 => ?_⟩
      have s6 := s5.trans t6
      refine ⟨_, _, rfl, rfl, _, rfl, _, _, rfl, rfl, ⟨by decide, by decide, by decide⟩, r, _, rfl, s6.1, by decide, by decide, fun d5 H7 f0 f1 t7 => ?_⟩
      have s7 := s6.trans t7
      have f2 : d5 < 1000000000000 := f1
      refine ⟨_, _, rfl, rfl, (by show 2 ≤ sizeLine; decide), fun L hL => ?_⟩
      have s8 := s7.new (o := .lst [.int (10 ^ (12 : Int).toNat - d4), .int (1 + d5)]) hL
      have nLr : L ≠ r := (s7.1.ne hL).symm
      refine ⟨_, rfl, r, 2, rfl, s8.1, by decide, by omega, fun d6 H8 g0 g1 t8 => ?_⟩
      have s9 := s8.trans t8
      obtain ⟨v, hv9, hm9⟩ := at_of (xs := [V.int (10 ^ (12 : Int).toNat - d4), V.int (1 + d5)]) g0 g1
      obtain ⟨fr, rfl, fr1, fr2⟩ : ∃ fr : Int, v = .int fr ∧ 1 ≤ fr ∧ fr ≤ 1000000000000 := by
        have ten : (10 : Int) ^ (12 : Int).toNat = 1000000000000 := by decide
        simp only [List.mem_cons, List.not_mem_nil, or_false] at hm9
        rcases hm9 with rfl | rfl
        · exact ⟨_, rfl, by omega, by omega⟩
        · exact ⟨_, rfl, by omega, by omega⟩
      refine ⟨L, _, _, _, rfl, rfl, SqL.of (t8.2 _ _ nLr upd_same), hv9, ?_⟩
      refine ⟨_, _, rfl, rfl, ⟨by decide, by decide, by decide⟩, _, rfl, _, rfl, r, 60, rfl, s9.1, by decide, by omega, fun d7 H9 i0 i1 t9 => ?_⟩
      have s10 := s9.trans t9
      refine ⟨_, _, rfl, rfl, _, rfl, _, rfl, _, rfl, (by show 4 ≤ sizeLine; decide), fun M hM => ?_⟩
      have s11 := s10.new (o := .lst [.int (1 + d7), .int nr, .int ms.sum, .int fr]) hM
      have nMr : M ≠ r := (s10.1.ne hM).symm
      refine ⟨r, M, _, rfl, s11.1, upd_same, nMr, (by show 1 ≤ 4; decide), (by show 4 ≤ 1000; decide), fun v H10 hv t10 => ?_⟩
      obtain ⟨x, rfl, x1⟩ : ∃ x : Int, v = .int x ∧ 1 ≤ x := by
        simp only [List.mem_cons, List.not_mem_nil, or_false] at hv
        rcases hv with rfl | rfl | rfl | rfl
        · exact ⟨_, rfl, by omega⟩
        · exact ⟨_, rfl, nr1⟩
        · exact ⟨_, rfl, l1⟩
        · exact ⟨_, rfl, fr1⟩
      refine ⟨_, _, rfl, q _ H10 ?_ ?_ (s11.trans t10)⟩
      · have ten : (10 : Int) ^ (12 : Int).toNat = 1000000000000 := by decide
        split <;> omega
      · have ten : (10 : Int) ^ (12 : Int).toNat = 1000000000000 := by decide
        split <;> omega
end
end K13

set_option Elab.async false
set_option linter.all false
set_option maxRecDepth 100000
set_option maxHeartbeats 4000000
namespace K13
open PySem PySem.Spec PyProof.Rows L2 Gu Ex
def t_many (K : PySem.W.Frag) (a : Addr) (cls : Value) (d : Option Addr) : TS :=
  tAsg (tLst (tCons (tC (.str "many")) (tCons (tXf a cls d (cT K) "limit" (tVar 3)) (tCons (tAndV (tCB (rIsX K (cT K) a cls d) (tCons (tVar 3) (tCons (tC (.ty "ArithmeticError")) tNil)))
    (tNotV (tCB (rIsXT K (cT K) a cls d) (tCons (tVar 3) (tCons (tTup (tCons (tC (.ref (He.ga K "NoRoom"))) (tCons (tC (.ref (He.ga K "RoomError"))) tNil))) tNil))))) tNil)))) (gName 2)
section
variable {P : Program} {w : World} {K : PySem.W.Frag} {mg : Str → Option Value} {base : Heap} {f : Addr} {fd : FuncData}
def spTold (K : PySem.W.Frag) : Sp := fun vs H Q _ => ∃ (p : Addr) (ns : List Int) (n : Int), vs = [.ref p, .int n] ∧ SzAt (cS K) H p ns ∧ Good ns ∧ 1 ≤ n ∧ n ≤ 1000000000000 ∧
  ((cnts ns n).sum ≤ 64 → ∀ t a H', H t = none → H a = none → Same H H' → H' a = some (.lst ((pcs ns n).map V.int)) → H' t = some (.lst [.str "pieces", .ref a]) → Q (.ref t) H') ∧
  ((cnts ns n).sum > 64 → ∀ t H', H t = none → Same H H' → H' t = some (.lst [.str "many", .int 64, .bl true]) → Q (.ref t) H')
theorem sc__law_told : FnScope ["_law_made", "_law_amount", "_law_told_here", "e"] ["_law_made", "_law_amount"] (defScope (top 23)) := ⟨rfl, rfl, rfl, by decide +kernel, rfl, by decide +kernel, by decide +kernel⟩
theorem ok_told (T : Tx K mg) (M_pieces : MfX P w K mg base 6 "Sizes" "pieces" ["self", "cells"] (spPieces K)) (F : FnP K "_law_told" "_law_told" (top 23) f fd) :
    FnOk P w K mg base CX0 7 f fd ["_law_made", "_law_amount"] (spTold K) := by
  refine F.ok sc__law_told (fun vs H Q E h => ?_) (fun cdv A outer s H vs Q E hr h => ⟨_, PSs.nox (pss_cons (ps_set (i := 2) sc__law_told.nd rfl (Or.inl rfl) (pe_lst (pa_cons pe_str pa_nil)))
    (pss_cons (ps_try_as (i := 3) (tb := fun W => tAsg (tLst (tCons (tC (.str "pieces")) (tCons (tMethT (cS K) "pieces" (spPieces K) (WE W) (tVar 0) (tCons (tVar 1) tNil)) tNil))) (gName 2)) (ts := t_many K) (Wout := fun _ _ _ _ => False)
        rfl rfl sc__law_told.nd rfl rfl ⟨rfl, by decide, Or.inl T.g_TooManyPieces⟩ takes0
      (fun W pn xe tk _ => pss_one (ps_set (i := 2) sc__law_told.nd rfl (Or.inl rfl) (by exact (pe_lst (pa_cons pe_str (pa_cons (by exact (pmethT M_pieces hr tk (pv 0) (pa_cons (pv 1) pa_nil))) pa_nil))))))
      (fun a oe cls d pn hz hf => pss_one (ps_set (i := 2) sc__law_told.nd rfl (Or.inl rfl) (by exact (pe_lst (pa_cons pe_str (pa_cons (by exact (pe_xf T.eT.xf T.eT.no hz hf (pv 3)))
        (pa_cons (by exact (pe_and (by exact (pe_callB (r := rIsX K (cT K) a cls d) (id := "isinstance") (call_isX T.eT.ec hz hf) (by rfl) T.n_isinstance (by decide +kernel) (by exact (pa_cons (pv 3) (pa_cons (pe_bltn (v := .ty "ArithmeticError") (by rfl) T.n_ArithmeticError (by decide +kernel) rfl) pa_nil)))))
          (pe_one (pe_not (by exact (pe_callB (r := rIsXT K (cT K) a cls d) (id := "isinstance") (call_isXT T.eT.ec hz hf) (by rfl) T.n_isinstance (by decide +kernel) (by exact (pa_cons (pv 3) (pa_cons (pe_tup (pa_cons (pe_glob (v := .ref _) rfl T.g_NoRoom rfl) (pa_cons (pe_glob (v := .ref _) rfl T.g_RoomError rfl) pa_nil))) pa_nil))))))))) pa_nil))))))))
    (pss_one (ps_ret (pv 2))))), ?_⟩)
  · obtain ⟨p, ns, n, rfl, _⟩ := h
    rfl
  · obtain ⟨p, ns, n, rfl, hz, g, n1, n2, q1, q2⟩ := h
    obtain ⟨dx, l, h1, h2⟩ := id hz
    have ec : cellsB (.int n) = true := decide_eq_true ⟨n1, n2⟩
    refine ⟨(by show 1 ≤ sizeLine; decide), fun b hb => ?_⟩
    have sb : Same H (upd H b (.lst [V.str "other"])) := same_upd hb
    refine ⟨_, rfl, p, dx, _, rfl, sb _ _ h1, szF_no l (by decide +kernel), _, rfl, p, ns, _, rfl, hz.same sb, g, .int n, fun n' a H1 en _ hs ha sm hA => ?_, fun z => ?_, fun n' en _ hs => ?_⟩
    · cases en
      refine ⟨(by show 2 ≤ sizeLine; decide), fun t ht => ?_⟩
      refine ⟨_, rfl, q1 hs t a _ ?_ (sb.free ha) ((sb.trans sm).trans (same_upd ht)) (same_upd ht _ _ hA) upd_same⟩
      exact (sb.trans sm).free ht
    · rw [ec] at z
      cases z
    · cases en
      intro d H1 hd sm hx
      refine ⟨true, T.eT.em, fun _ a0 ha0 => ?_, fun zz => Bool.noConfusion zz⟩
      refine ⟨_, rfl, rfl, rfl, d, _, .int 64, rfl, hx, (by simp [List.lookup]), ?_⟩
      refine ⟨_, rfl, _, _, _, d, _, rfl, rfl, rfl, .ty "ArithmeticError", hx, T.kA, _, rfl, iteT ?_⟩
      refine ⟨_, rfl, (by show 2 ≤ sizeLine; decide), fun tp htp => ?_⟩
      have sm2 := same_upd (o := .tup [.ref (He.ga K "NoRoom"), .ref (He.ga K "RoomError")]) htp
      refine ⟨tp, _, _, _, d, _, rfl, rfl, rfl, upd_same, .cons (.own _) (.cons (.own _) .nil), sm2 _ _ hx, T.kO, _, rfl, (by show 3 ≤ sizeLine; decide), fun t ht => ?_⟩
      have s3 := ((sb.trans sm).trans sm2)
      exact ⟨_, rfl, q2 hs t _ (s3.free ht) (s3.trans (same_upd ht)) upd_same⟩
end
end K13

set_option Elab.async false
set_option linter.all false
set_option maxRecDepth 100000
set_option maxHeartbeats 4000000
/-! Own layer: list(enumerate(xs)), xs a list. -/
namespace Ex
open PySem PySem.Spec PySem.Calls PyProof.Rows L2 Gu
section
variable {prog : Program} {w : World} {A : Around} {E : Value → Shared → Prop} {s : Shared}
abbrev EnO (h : Heap) (e it : Addr) (i : Int) (a : Addr) (f : Bool) (old : Value) : Prop :=
  h.get? e = some { cls := .type "enumerate", dict := none, data := .fields #[rawInt a, .bool f, .ref it, rawInt i, .none, old], slots := #[] }
/-- the next pair, the last one being held by somebody else -/
theorem enum_next_held {e it l a : Addr} {f : Bool} {i : Nat} {items : Array Value} {x old : Value} {oa : Obj} {Q : Option Value → Shared → Prop} (he : EnO s.heap e it i a f old) (ha : s.heap.get? a = some oa) (hae : a ≠ e) (hai : a ≠ it)
    (hit : s.heap.IsListIter it l i) (hl : s.heap.IsList l items) (hx : items[i]? = some x) (hne : e ≠ it)
    (hQ : ∀ h', EnO h' e it ((i : Int) + 1) a true old → h'.IsListIter it l (i + 1) → h'.get? s.heap.objs.size = some { cls := .type "tuple", data := .seq #[.int i s.toks, x] } → h'.objs.size = s.heap.objs.size + 1 →
      (∀ b o, b ≠ e → b ≠ it → s.heap.get? b = some o → h'.get? b = some o) → Q (some (.ref s.heap.objs.size)) { s with heap := h', toks := s.toks + 1 }) :
    wpAny (model prog w) A (pyNext (.ref e)) Q E s := by
  have ty : s.TypeIs (.ref e) "enumerate" := ⟨_, he, rfl⟩
  unfold pyNext
  refine wpAny_bind (wpAny_attempt (wpAny_callSpecial?_slot (name := Str.ofString "__next__") ty F.slot_enumerate_next (wpAny_call_entry F.slot_enumerate_next ty F.entry_enumerate_next ?_ (F.args_enumerate_next_1 _))))
  obtain ⟨hp, g, d, tk, os⟩ := s
  show wpAny _ _ (field (.ref e) 2 >>= _) _ _ _
  refine wpAny_bind (wpAny_field he rfl (x := .ref it) rfl (wpAny_bind (wpAny_nextOf_list_item hit hl hx fun h1 it1 sb1 => ?_)))
  have sb1 : Heap.SameBut it hp h1 := sb1
  have he1 : EnO h1 e it i a f old := (sb1.2 e hne).trans he
  show wpAny _ _ (field (.ref e) 3 >>= _) _ _ ⟨h1, g, d, tk, os⟩
  refine wpAny_bind (wpAny_field he1 rfl (x := rawInt i) rfl ?_)
  show wpAny _ _ (field (.ref e) 4 >>= _) _ _ ⟨h1, g, d, tk, os⟩
  refine wpAny_bind (wpAny_field he1 rfl (x := .none) rfl ?_)
  show wpAny _ _ (mkInt i >>= _) _ _ ⟨h1, g, d, tk, os⟩
  refine wpAny_bind (wpAny_mkInt ?_)
  show wpAny _ _ (setField (.ref e) 3 (rawInt ((i : Int) + 1)) >>= _) _ _ ⟨h1, g, d, tk + 1, os⟩
  refine wpAny_bind (wpAny_setField_rec he1 (by simp) fun h2 he2 sb2 => ?_)
  have sb2 : Heap.SameBut e h1 h2 := sb2
  have he2 : EnO h2 e it ((i : Int) + 1) a f old := he2
  show wpAny _ _ (setField (.ref e) 4 .none >>= _) _ _ ⟨h2, g, d, tk + 1, os⟩
  refine wpAny_bind (wpAny_setField_rec he2 (by simp) fun h3 he3 sb3 => ?_)
  have sb3 : Heap.SameBut e h2 h3 := sb3
  have he3 : EnO h3 e it ((i : Int) + 1) a f old := he3
  show wpAny _ _ (newTuple [.int i tk, x] >>= _) _ _ ⟨h3, g, d, tk + 1, os⟩
  refine wpAny_bind (wpAny_newTuple ?_)
  have z3 : h3.objs.size = hp.objs.size := by rw [sb3.1, sb2.1, sb1.1]
  have he4 : EnO (h3.push { cls := .type "tuple", data := .seq #[.int i tk, x] }) e it ((i : Int) + 1) a f old := Heap.get?_push_of_some _ he3
  have t4 : (h3.push { cls := .type "tuple", data := .seq #[.int i tk, x] }).get? hp.objs.size = some { cls := .type "tuple", data := .seq #[.int i tk, x] } := by
    rw [← z3]
    exact Heap.get?_push_size _ rfl
  have z4 : (h3.push { cls := .type "tuple", data := .seq #[.int i tk, x] }).objs.size = hp.objs.size + 1 := by rw [Heap.size_push, z3]
  have k4 : ∀ b o, b ≠ e → b ≠ it → hp.get? b = some o → (h3.push { cls := .type "tuple", data := .seq #[.int i tk, x] }).get? b = some o := fun b o n1 n2 q =>
    Heap.get?_push_of_some _ (sb3.extBut b o n1 (sb2.extBut b o n1 (sb1.extBut b o n2 q)))
  have i4 : (h3.push { cls := .type "tuple", data := .seq #[.int i tk, x] }).IsListIter it l (i + 1) := by
    obtain ⟨o, ho, r⟩ := (it1.extBut sb2.extBut (Ne.symm hne)).extBut sb3.extBut (Ne.symm hne)
    exact ⟨o, Heap.get?_push_of_some _ ho, r⟩
  rw [z3]
  generalize h3.push { cls := .type "tuple", data := .seq #[.int i tk, x] } = h4 at he4 t4 z4 k4 i4
  show wpAny _ _ (Builtin.SmallTypes.ownedTupleIsFree (.ref e) >>= _) _ _ ⟨h4, g, d, tk + 1, os⟩
  refine wpAny_bind ?_
  unfold Builtin.SmallTypes.ownedTupleIsFree
  refine wpAny_bind (wpAny_field he4 rfl (x := rawInt a) rfl ?_)
  show wpAny _ _ (loadIfAlive ((a : Int).toNat) >>= _) _ _ _
  rw [Int.toNat_natCast]
  refine wpAny_bind (PySem.W.kdx_alive (k4 a oa hae hai ha) ?_)
  simp only [Option.isNone_some, Bool.false_eq_true, if_false]
  refine wpAny_bind (wpAny_field he4 rfl (x := .bool f) rfl ?_)
  have el : e < hp.objs.size := Heap.lt_size he
  have out : ∀ h5 : Heap, EnO h5 e it ((i : Int) + 1) a true old → Heap.SameBut e h4 h5 → Q (some (.ref hp.objs.size)) ⟨h5, g, d, tk + 1, os⟩ := fun h5 he5 sb5 =>
    hQ h5 he5 (i4.extBut sb5.extBut (Ne.symm hne)) (sb5.extBut _ _ (Nat.ne_of_gt el) t4) (by show h5.objs.size = hp.objs.size + 1; rw [sb5.1, z4]) fun b o n1 n2 q => sb5.extBut b o n1 (k4 b o n1 n2 q)
  cases f with
  | true =>
    rw [if_neg (show ¬ ((Value.bool true != Value.bool true) = true) from Bool.false_ne_true)]
    refine wpAny_pure ?_
    simp only [Bool.false_eq_true, if_false]
    first
      | exact wpAny_pure (wpAny_pure ⟨_, rfl, wpAny_pure (out h4 he4 (Heap.SameBut.refl _ _))⟩)
      | exact wpAny_pure ⟨_, rfl, wpAny_pure (out h4 he4 (Heap.SameBut.refl _ _))⟩
  | false =>
    rw [if_pos (show (Value.bool false != Value.bool true) = true from rfl)]
    refine wpAny_bind (wpAny_setField_rec he4 (by simp) fun h5 he5 sb5 => ?_)
    refine wpAny_pure ?_
    simp only [Bool.false_eq_true, if_false]
    first
      | exact wpAny_pure (wpAny_pure ⟨_, rfl, wpAny_pure (out h5 he5 sb5)⟩)
      | exact wpAny_pure ⟨_, rfl, wpAny_pure (out h5 he5 sb5)⟩
theorem enum_end_held {e it l a : Addr} {f : Bool} {i : Nat} {items : Array Value} {old : Value} {Q : Option Value → Shared → Prop} (hh : A.handled = none) (he : EnO s.heap e it i a f old) (hit : s.heap.IsListIter it l i) (hl : s.heap.IsList l items)
    (hx : items[i]? = none) (hQ : ∀ h', Heap.ExtBut it s.heap h' → Q none { s with heap := h' }) : wpAny (model prog w) A (pyNext (.ref e)) Q E s := by
  have ty : s.TypeIs (.ref e) "enumerate" := ⟨_, he, rfl⟩
  unfold pyNext
  refine wpAny_bind (wpAny_attempt (wpAny_callSpecial?_slot (name := Str.ofString "__next__") ty F.slot_enumerate_next (wpAny_call_entry F.slot_enumerate_next ty F.entry_enumerate_next ?_ (F.args_enumerate_next_1 _))))
  show wpAny _ _ (field (.ref e) 2 >>= _) _ _ _
  refine wpAny_bind (wpAny_field he rfl (x := .ref it) rfl (wpAny_bind (wpAny_nextOf_list_end hh hit hl hx fun h1 x1 eb ⟨o, ho, hc⟩ => ?_)))
  exact wpAny_bind (wpAny_isInstance (T := "StopIteration") (b := true) ⟨o, ho, hc⟩ isSubtype_stop (wpAny_pure (hQ _ eb)))
/-- the enumerate object at e: its pair not handed out as yet, or held by somebody -/
def En (h : Heap) (e it S : Addr) (i : Nat) : Prop := (∃ old, IsEnum h e it i old) ∨ ∃ (a : Addr) (f : Bool) (old : Value) (oa : Obj), EnO h e it i a f old ∧ h.get? a = some oa ∧ a ≠ e ∧ a ≠ it ∧ a ≠ S
/-- i pairs have been collected in the list at S; N0: all that was there before lies below it -/
structure Coll (h : Heap) (S e it l : Addr) (items : Array Value) (N0 i : Nat) (Ts : List Addr) : Prop where
  en : En h e it S i
  li : h.IsListIter it l i
  ls : h.IsList l items
  lst : ∃ c, h.get? S = some { cls := .type "list", dict := none, data := .seq (Ts.map Value.ref).toArray c, slots := #[] }
  len : Ts.length = i
  tup : ∀ j T, Ts[j]? = some T → ∃ t x, items[j]? = some x ∧ h.get? T = some { cls := .type "tuple", data := .seq #[.int (j : Nat) t, x] } ∧ N0 ≤ T
  asc : Ts.Pairwise (· < ·)
  top : ∀ T ∈ Ts, T < h.objs.size
  ne : e ≠ it ∧ e ≠ S ∧ it ≠ S ∧ l ≠ S ∧ l ≠ e ∧ l ≠ it
  lt : e < N0 ∧ it < N0 ∧ S < N0 ∧ N0 ≤ h.objs.size
theorem far {b T N0 : Nat} (h1 : b < N0) (h2 : N0 ≤ T) : T ≠ b := by omega
/-- all but the three objects stays -/
def Off (S e it : Addr) (h h' : Heap) : Prop := ∀ b o, b ≠ S → b ≠ e → b ≠ it → h.get? b = some o → h'.get? b = some o
theorem En.off {h h' : Heap} {e it S : Addr} {i : Nat} (x : En h e it S i) (ke : ∀ o, h.get? e = some o → h'.get? e = some o) (k : ∀ a o, a ≠ e → a ≠ it → a ≠ S → h.get? a = some o → h'.get? a = some o) : En h' e it S i := by
  rcases x with ⟨old, q⟩ | ⟨a, f, old, oa, q1, q2, n1, n2, n3⟩
  · exact .inl ⟨old, ke _ q⟩
  · exact .inr ⟨a, f, old, oa, ke _ q1, k _ _ n1 n2 n3 q2, n1, n2, n3⟩
theorem coll_next {S e it l : Addr} {items : Array Value} {N0 i : Nat} {Ts : List Addr} {x : Value} {Q : Option Value → Shared → Prop} (C : Coll s.heap S e it l items N0 i Ts) (hx : items[i]? = some x) (hz : i < sizeLine)
    (hQ : ∀ h' t2, Off S e it s.heap (h'.update S (Obj.mapSeq (·.push (.ref s.heap.objs.size)))) → (∃ c, h'.get? S = some { cls := .type "list", dict := none, data := .seq (Ts.map Value.ref).toArray c, slots := #[] }) →
      Coll (h'.update S (Obj.mapSeq (·.push (.ref s.heap.objs.size)))) S e it l items N0 (i + 1) (Ts ++ [s.heap.objs.size]) → Q (some (.ref s.heap.objs.size)) { s with heap := h', toks := t2 }) :
    wpAny (model prog w) A (pyNext (.ref e)) Q E s := by
  obtain ⟨n1, n2, n3, n4, n5, n6⟩ := C.ne
  obtain ⟨l1, l2, l3, l4⟩ := C.lt
  obtain ⟨c, hS⟩ := C.lst
  have fin : ∀ h' : Heap, En h' e it S (i + 1) → h'.IsListIter it l (i + 1) → h'.get? s.heap.objs.size = some { cls := .type "tuple", data := .seq #[.int i s.toks, x] } → h'.objs.size = s.heap.objs.size + 1 →
      (∀ b o, b ≠ e → b ≠ it → s.heap.get? b = some o → h'.get? b = some o) → Q (some (.ref s.heap.objs.size)) { s with heap := h', toks := s.toks + 1 } := fun h' en' li' tu sz k => by
    have hS' := k S _ n2.symm n3.symm hS
    have up : ∀ b o, b ≠ S → h'.get? b = some o → (h'.update S (Obj.mapSeq (·.push (.ref s.heap.objs.size)))).get? b = some o := fun b o n q => (Heap.get?_update_other _ _ (Ne.symm n)).trans q
    have hS2 := Heap.get?_update_self (Obj.mapSeq (·.push (Value.ref s.heap.objs.size))) hS' rfl
    have zz : (h'.update S (Obj.mapSeq (·.push (.ref s.heap.objs.size)))).objs.size = s.heap.objs.size + 1 := (Heap.size_update ..).trans sz
    refine hQ h' _ (fun b o m1 m2 m3 q => up b o m1 (k b o m2 m3 q)) ⟨c, hS'⟩ ⟨en'.off (fun o q => up e o n2 q) (fun a o _ _ m q => up a o m q), li'.at fun o q => up it o n3 q, (C.ls.at fun o q => k l o n5 n6 q).at fun o q => up l o n4 q, ?_, ?_, ?_, ?_, ?_, C.ne, l1, l2, l3, by rw [zz]; omega⟩
    · have e1 : ((Ts ++ [s.heap.objs.size]).map Value.ref).toArray = (Ts.map Value.ref).toArray.push (.ref s.heap.objs.size) := by simp
      rw [e1]
      exact ⟨_, hS2⟩
    · rw [List.length_append, C.len]
      rfl
    · intro j T hj
      by_cases hl : j < i
      · rw [List.getElem?_append_left (by rw [C.len]; exact hl)] at hj
        obtain ⟨t, y, a1, a2, a3⟩ := C.tup j T hj
        exact ⟨t, y, a1, up T _ (far l3 a3) (k T _ (far l1 a3) (far l2 a3) a2), a3⟩
      · rw [List.getElem?_append_right (by rw [C.len]; omega), C.len] at hj
        have e0 : j - i = 0 := by
          cases q : j - i with
          | zero => rfl
          | succ m => rw [q] at hj; simp at hj
        rw [e0] at hj
        obtain rfl : s.heap.objs.size = T := Option.some.inj hj
        obtain rfl : j = i := by omega
        exact ⟨s.toks, x, hx, up _ _ (far l3 l4) tu, l4⟩
    · exact List.pairwise_append.mpr ⟨C.asc, List.pairwise_singleton _ _, fun T hT y hy => by rw [List.mem_singleton.mp hy]; exact C.top T hT⟩
    · intro T hT
      rw [zz]
      rcases List.mem_append.mp hT with z | z
      · exact Nat.lt_succ_of_lt (C.top T z)
      · rw [List.mem_singleton.mp z]
        exact Nat.lt_succ_self _
  rcases C.en with ⟨old, he⟩ | ⟨a, f, old, oa, he, ha, m1, m2, m3⟩
  · refine wpAny_pyNext_enum_item he C.li C.ls hx n1 fun h' ho hit' hT hsz hk => fin h' (.inr ⟨s.heap.objs.size, false, x, _, ?_, hT, far l1 l4, far l2 l4, far l3 l4⟩) hit' hT hsz hk
    rw [show ((i + 1 : Nat) : Int) = (i : Int) + 1 by omega]
    exact ho
  · refine enum_next_held he ha m1 m2 C.li C.ls hx n1 fun h' ho hit' hT hsz hk => fin h' (.inr ⟨a, true, old, oa, ?_, hk a oa m1 m2 ha, m1, m2, m3⟩) hit' hT hsz hk
    rw [show ((i + 1 : Nat) : Int) = (i : Int) + 1 by omega]
    exact ho
theorem coll_end {S e it l : Addr} {items : Array Value} {N0 : Nat} {Ts : List Addr} {Q : Option Value → Shared → Prop} (hh : A.handled = none) (C : Coll s.heap S e it l items N0 items.size Ts)
    (hQ : ∀ h', Heap.ExtBut it s.heap h' → Q none { s with heap := h' }) : wpAny (model prog w) A (pyNext (.ref e)) Q E s := by
  have no : items[items.size]? = none := Array.getElem?_eq_none (Nat.le_refl _)
  rcases C.en with ⟨old, he⟩ | ⟨a, f, old, oa, he, _⟩
  · exact wpAny_pyNext_enum_end hh he C.li C.ls no hQ
  · exact enum_end_held hh he C.li C.ls no hQ
/-- what has been collected in the end -/
structure Done (h : Heap) (S : Addr) (items : Array Value) (N0 : Nat) (Ts : List Addr) : Prop where
  lst : ∃ c, h.get? S = some { cls := .type "list", dict := none, data := .seq (Ts.map Value.ref).toArray c, slots := #[] }
  len : Ts.length = items.size
  tup : ∀ j T, Ts[j]? = some T → ∃ t x, items[j]? = some x ∧ h.get? T = some { cls := .type "tuple", data := .seq #[.int (j : Nat) t, x] } ∧ N0 ≤ T
  asc : Ts.Pairwise (· < ·)
theorem coll_loop {S e it l : Addr} {items : Array Value} {N0 : Nat} {res : Value} {R : Result → Shared → Prop} (hh : A.in1.handled = none) (hz : items.size ≤ sizeLine) :
    ∀ (k i : Nat) (s : Shared) (Ts : List Addr), items.size - i = k → i ≤ items.size → Coll s.heap S e it l items N0 i Ts →
    (∀ h' t2 Ts2, Off S e it s.heap h' → Done h' S items N0 Ts2 → R (.ok (.ret res)) { s with heap := h', toks := t2 }) →
    codeAny (model prog w) A (.builtin "list.extend.loop" ⟨[.ref S, .ref e, res], []⟩) R s := by
  intro k
  induction k with
  | zero =>
    intro i s Ts hk hi C hR
    obtain rfl : i = items.size := by omega
    obtain ⟨n1, n2, n3, n4, n5, n6⟩ := C.ne
    obtain ⟨l1, l2, l3, l4⟩ := C.lt
    refine codeAny_builtin F.entry_extend_loop ?_
    rw [Around.under_plainId F.plain_extend_loop _]
    show wpAny _ A.in1 (pyNext (.ref e) >>= _) _ _ s
    refine wpAny_bind (coll_end hh C fun h' eb => wpAny_pure (hR h' s.toks Ts (fun b o _ _ m q => eb b o m q) ⟨?_, C.len, fun j T hj => ?_, C.asc⟩))
    · obtain ⟨c, q⟩ := C.lst
      exact ⟨c, eb _ _ n3.symm q⟩
    · obtain ⟨t, x, a1, a2, a3⟩ := C.tup j T hj
      exact ⟨t, x, a1, eb _ _ (far l2 a3) a2, a3⟩
  | succ k ih =>
    intro i s Ts hk hi C hR
    have hlt : i < items.size := by omega
    refine codeAny_builtin F.entry_extend_loop ?_
    rw [Around.under_plainId F.plain_extend_loop _]
    show wpAny _ A.in1 (pyNext (.ref e) >>= _) _ _ s
    refine wpAny_bind (coll_next C (Array.getElem?_eq_getElem hlt) (by omega) fun h' t2 off ⟨c, hS⟩ C2 => ?_)
    show wpAny _ A.in1 (updateSeq S (·.push (.ref s.heap.objs.size)) >>= _) _ _ _
    refine wpAny_bind (wpAny_updateSeq hS rfl (wpAny_pure ⟨plainId_quiet F.plain_extend_loop _, ih (i + 1) _ _ (by omega) hlt C2 fun h2 t3 Ts2 off2 D => ?_⟩) ?_ ?_)
    · exact hR h2 t3 Ts2 (fun b o m1 m2 m3 q => off2 b o m1 m2 m3 (off b o m1 m2 m3 q)) D
    · rw [List.size_toArray, List.length_map, C.len]
      omega
    · rw [Array.size_push, List.size_toArray, List.length_map, C.len]
      omega
end
end Ex

set_option Elab.async false
set_option linter.all false
set_option maxRecDepth 100000
set_option maxHeartbeats 4000000
namespace Ex
open PySem PySem.Spec PySem.Calls PyProof.Rows L2 Gu
theorem en_no_len : typeLookup (.type "enumerate") "__len__" = pure none := by rw [typeLookup_type, builtinLookup_eq_fast]; kernel_rfl
theorem en_no_hint : typeLookup (.type "enumerate") "__length_hint__" = pure none := by rw [typeLookup_type, builtinLookup_eq_fast]; kernel_rfl
theorem Coll.touch {h h' : Heap} {S e it l : Addr} {items : Array Value} {N0 : Nat} (C : Coll h S e it l items N0 0 []) (k : ∀ b o, b ≠ S → h.get? b = some o → h'.get? b = some o)
    (hS : ∃ c, h'.get? S = some { cls := .type "list", dict := none, data := .seq #[] c, slots := #[] }) (hz : N0 ≤ h'.objs.size) : Coll h' S e it l items N0 0 [] := by
  obtain ⟨n1, n2, n3, n4, n5, n6⟩ := C.ne
  exact ⟨C.en.off (fun o q => k _ _ n2 q) (fun a o _ _ m q => k _ _ m q), C.li.at fun o q => k _ _ n3 q, C.ls.at fun o q => k _ _ n4 q, hS, rfl, (fun j T hj => by cases hj), .nil, (fun T hT => absurd hT List.not_mem_nil), C.ne, C.lt.1, C.lt.2.1, C.lt.2.2.1, hz⟩
theorem Coll.ty {s : Shared} {S e it l : Addr} {items : Array Value} {N0 i : Nat} {Ts : List Addr} (C : Coll s.heap S e it l items N0 i Ts) : s.TypeIs (.ref e) "enumerate" := by
  rcases C.en with ⟨old, q⟩ | ⟨a, f, old, oa, q, _⟩
  · exact ⟨_, q, rfl⟩
  · exact ⟨_, q, rfl⟩
section
variable {prog : Program} {w : World} {A : Around} {s : Shared} {R : Result → Shared → Prop} {S e it l : Addr} {items : Array Value} {N0 : Nat}
theorem ext_enum {res : Value} (hh : A.in1.handled = none) (hz : items.size ≤ sizeLine) (fr : ∃ old, IsEnum s.heap e it 0 old) (C : Coll s.heap S e it l items N0 0 [])
    (hR : ∀ h' t2 Ts, Off S e it s.heap h' → Done h' S items N0 Ts → R (.ok (.ret res)) { s with heap := h', toks := t2 }) :
    wpAny (model prog w) A.in1 (Builtin.List.listExtendWith (.ref S) (.ref e) res)
      (fun fin s' => match fin with | .done f => R (.ok f) s' | .again c' => c'.quiet = true ∧ codeAny (model prog w) A c' R s') (fun e s' => R (.error e) s') s := by
  obtain ⟨c, hS⟩ := C.lst
  obtain ⟨old, he⟩ := fr
  have nSe : S ≠ e := C.ne.2.1.symm
  unfold Builtin.List.listExtendWith
  refine wpAny_bind (wpAny_typeOf C.ty ?_)
  have e1 : Builtin.List.listSameRef (.ref S) (.ref e) = false := by simp [Builtin.List.listSameRef, nSe]
  have e2 : (Value.type "enumerate" == Value.type "list") = false := by decide
  have e3 : (Value.type "enumerate" == Value.type "tuple") = false := by decide
  simp only [e1, e2, e3, Bool.or_false, Bool.false_eq_true, if_false]
  refine wpAny_bind (wpAny_pyIter_enum he (wpAny_bind (wpAny_holding ?_)))
  unfold Builtin.List.listLengthHint
  refine wpAny_bind (wpAny_specialOf C.ty en_no_len ?_)
  show wpAny _ A.in1 (specialOf (Value.ref e) (Str.ofString "__length_hint__") >>= _) _ _ _
  refine wpAny_bind (wpAny_specialOf C.ty en_no_hint (wpAny_pure ?_))
  show wpAny _ A.in1 (rule "list.extend.makes-room" >>= fun _ => Builtin.List.listTouch (.ref S) >>= fun _ => again (.builtin "list.extend.loop" ⟨[.ref S, .ref e, res], []⟩)) _ _ _
  refine wpAny_bind (wpAny_rule (wpAny_bind ?_))
  show wpAny _ A.in1 (updateSeq S (·.push .none) >>= fun _ => updateSeq S (·.pop)) _ _ _
  have hS' : s.heap.get? S = some { cls := .type "list", dict := none, data := .seq #[] c, slots := #[] } := hS
  refine wpAny_bind (wpAny_updateSeq hS' rfl ?_)
  have hS2 := Heap.get?_update_self (Obj.mapSeq (·.push Value.none)) hS' rfl
  refine wpAny_updateSeq (hz := by seq_fits) hS2 rfl ?_
  have hS3 := Heap.get?_update_self (Obj.mapSeq (·.pop)) hS2 rfl
  have oth : ∀ b o, b ≠ S → s.heap.get? b = some o → ((s.heap.update S (Obj.mapSeq (·.push Value.none))).update S (Obj.mapSeq (·.pop))).get? b = some o :=
    fun b o n q => (Heap.get?_update_other _ _ (Ne.symm n)).trans ((Heap.get?_update_other _ _ (Ne.symm n)).trans q)
  have C2 : Coll ((s.heap.update S (Obj.mapSeq (·.push Value.none))).update S (Obj.mapSeq (·.pop))) S e it l items N0 0 [] := C.touch oth ⟨_, hS3⟩ (by rw [Heap.size_update, Heap.size_update]; exact C.lt.2.2.2)
  exact wpAny_pure ⟨plainId_quiet F.plain_extend_loop _, coll_loop hh hz items.size 0 _ [] rfl (Nat.zero_le _) C2 fun h' t2 Ts off D => hR h' t2 Ts (fun b o m1 m2 m3 q => off b o m1 m2 m3 (oth b o m1 q)) D⟩
theorem init_enum (hh : A.in1.handled = none) (hz : items.size ≤ sizeLine) (fr : ∃ old, IsEnum s.heap e it 0 old) (C : Coll s.heap S e it l items N0 0 [])
    (hR : ∀ h' t2 Ts, Off S e it s.heap h' → Done h' S items N0 Ts → R (.ok (.ret .none)) { s with heap := h', toks := t2 }) :
    wpAny (model prog w) A.in1 (Builtin.«list.__init__» ⟨[.ref S, .ref e], []⟩)
      (fun fin s' => match fin with | .done f => R (.ok f) s' | .again c' => c'.quiet = true ∧ codeAny (model prog w) A c' R s') (fun e s' => R (.error e) s') s := by
  obtain ⟨c, hS⟩ := C.lst
  have hS' : s.heap.get? S = some { cls := .type "list", dict := none, data := .seq #[] c, slots := #[] } := hS
  show wpAny _ A.in1 (do let o ← Builtin.List.listItems (.ref S); Builtin.List.listUpdate (.ref S) (fun _ => #[]); letGo o.toList.reverse; Builtin.List.listExtendWith (.ref S) (.ref e) .none) _ _ s
  refine wpAny_bind ?_
  unfold Builtin.List.listItems
  refine wpAny_bind (wpAny_seqItems hS' rfl (wpAny_pure ?_))
  show wpAny _ A.in1 (updateSeq S (fun _ => #[]) >>= fun _ => letGo (#[] : Array Value).toList.reverse >>= fun _ => Builtin.List.listExtendWith (.ref S) (.ref e) .none) _ _ s
  refine wpAny_bind (wpAny_updateSeq hS' rfl ?_)
  have hS2 := Heap.get?_update_self (Obj.mapSeq (fun _ => (#[] : Array Value))) hS' rfl
  have oth : ∀ b o, b ≠ S → s.heap.get? b = some o → (s.heap.update S (Obj.mapSeq (fun _ => (#[] : Array Value)))).get? b = some o := fun b o n q => (Heap.get?_update_other _ _ (Ne.symm n)).trans q
  have C2 : Coll (s.heap.update S (Obj.mapSeq (fun _ => (#[] : Array Value)))) S e it l items N0 0 [] := C.touch oth ⟨_, hS2⟩ (by rw [Heap.size_update]; exact C.lt.2.2.2)
  obtain ⟨old, he⟩ := fr
  refine wpAny_bind (wpAny_letGo (ext_enum hh hz ⟨old, oth _ _ C.ne.2.1 he⟩ C2 fun h' t2 Ts off D => hR h' t2 Ts (fun b o m1 m2 m3 q => off b o m1 m2 m3 (oth b o m1 q)) D))
end
section
variable {prog : Program} {w : World} {A : Around} {E : Value → Shared → Prop} {s : Shared} {e it l : Addr} {items : Array Value}
/-- list(e), e an enumerate object that has not begun -/
theorem call_list_enum {Q : Value → Shared → Prop} (hh : A.handled = none) (hz : items.size ≤ sizeLine) (he : IsEnum s.heap e it 0 .none) (li : s.heap.IsListIter it l 0) (ls : s.heap.IsList l items) (n1 : e ≠ it) (n2 : l ≠ e) (n3 : l ≠ it)
    (hQ : ∀ h' t2 Ts, (∀ b o, b ≠ e → b ≠ it → s.heap.get? b = some o → h'.get? b = some o) → Done h' s.heap.objs.size items (s.heap.objs.size + 1) Ts → Q (.ref s.heap.objs.size) { s with heap := h', toks := t2 }) :
    wpAny (model prog w) A (call (.type "list") [.ref e]) Q E s := by
  refine callType_codes (Q₁ := fun obj s₁ => obj = .ref s.heap.objs.size ∧ s₁ = { s with heap := s.heap.push { cls := .type "list", data := .seq #[] } }) F.called_list (F.typeCall_list_1 _) F.entry_list_init (code_list_new _ ⟨rfl, rfl⟩) fun obj s₁ h₁ => ?_
  obtain ⟨rfl, rfl⟩ := h₁
  have hS : (s.heap.push { cls := .type "list", data := .seq #[] }).get? s.heap.objs.size = some { cls := .type "list", data := .seq #[] } := Heap.get?_push_size _ rfl
  have kp : ∀ b o, s.heap.get? b = some o → (s.heap.push { cls := .type "list", data := .seq #[] }).get? b = some o := fun b o q => Heap.get?_push_of_some _ q
  have el : e < s.heap.objs.size := Heap.lt_size he
  have il : it < s.heap.objs.size := by
    obtain ⟨_, q, _⟩ := li
    exact Heap.lt_size q
  have ll : l < s.heap.objs.size := by
    obtain ⟨_, q, _⟩ := ls
    exact Heap.lt_size q
  have C : Coll (s.heap.push { cls := .type "list", data := .seq #[] }) s.heap.objs.size e it l items (s.heap.objs.size + 1) 0 [] :=
    ⟨.inl ⟨_, kp _ _ he⟩, li.at fun o q => kp _ _ q, ls.at fun o q => kp _ _ q, ⟨_, hS⟩, rfl, (fun j T hj => by cases hj), .nil, (fun T hT => absurd hT List.not_mem_nil),
      ⟨n1, Nat.ne_of_lt el, Nat.ne_of_lt il, Nat.ne_of_lt ll, n2, n3⟩, Nat.lt_succ_of_lt el, Nat.lt_succ_of_lt il, Nat.lt_succ_self _, by rw [Heap.size_push]; exact Nat.le_refl _⟩
  refine ⟨⟨_, hS, rfl⟩, F.args_list_init_2 _ _, init_enum (show A.in1.in1.handled = none from hh) hz ⟨_, kp _ _ he⟩ C fun h' t2 Ts off D => ⟨rfl, hQ h' t2 Ts (fun b o m1 m2 q => off b o (Nat.ne_of_lt (Heap.lt_size q)) m1 m2 (kp _ _ q)) D⟩⟩
end
/-! ### the rule -/
/-- ts: the pairs of the places and the items of xs -/
def PairsAt (H : Hp) (ts : List Addr) (xs : List V) : Prop := ts.length = xs.length ∧ ∀ (j : Nat) x, xs[j]? = some x → ∃ t, ts[j]? = some t ∧ H t = some (.tup [.int (j : Nat), x])
def tListEnum (K : PySem.W.Frag) (te : TE) : TE := fun σ H Q => te σ H fun v H1 => ∃ (a : Addr) (xs : List V), v = .ref a ∧ SqL K H1 a xs ∧
  ∀ (H' : Hp) (p : Addr) (ts : List Addr), Same H1 H' → H1 p = none → (∀ t ∈ ts, H1 t = none) → H' p = some (.lst (ts.map V.ref)) → PairsAt H' ts xs → Q (.ref p) H'
theorem vals_refs : ∀ ts : List Addr, Vals (ts.map V.ref) (ts.map Value.ref)
  | [] => .nil
  | _ :: ts => .cons rfl (vals_refs ts)
/-- a heap that has the collected list and its pairs -/
def putP (H : Hp) (S : Addr) (ts : List Addr) (xs : List V) : Hp := fun b => if b = S then some (.lst (ts.map V.ref)) else match ts.idxOf? b with
  | some j => (xs[j]?).map fun x => HO.tup [.int (j : Nat), x]
  | none => H b
theorem idx_at {ts : List Addr} (hp : ts.Pairwise (· < ·)) {j : Nat} {t : Addr} (h : ts[j]? = some t) : ts.idxOf? t = some j := by
  obtain ⟨hj, rfl⟩ := List.getElem?_eq_some_iff.mp h
  refine List.idxOf?_eq_some_iff.mpr ⟨hj, rfl, fun k hk z => ?_⟩
  have := List.pairwise_iff_getElem.mp hp k j (by omega) hj hk
  have z' : ts[k] = ts[j] := by simpa using z
  rw [z'] at this
  exact Nat.lt_irrefl _ this
section
variable {X : Cx} {e : Expr} {te : TE} {p p2 pos2 pos : Pos}
theorem pe_listEnum (hc : X.calm = true) (hg : Gl X "list") (hm : X.mg "list" = none) (hv : bootBuiltins "list" = some (.type "list")) (hg2 : Gl X "enumerate") (hm2 : X.mg "enumerate" = none) (he : PE X e te)
    (hs : starEach [.Call (.Name "enumerate" p2) [e] [] pos2] X.env = (false, eval (.Call (.Name "enumerate" p2) [e] [] pos2) X.env) :: starEach [] X.env := by rfl) (hs2 : starEach [e] X.env = [(false, eval e X.env)] := by rfl) :
    PE X (.Call (.Name "list" p) [.Call (.Name "enumerate" p2) [e] [] pos2] [] pos) (tListEnum X.K te) := by
  refine ⟨fun pins s σ H Q I hq => wpAny_Call_Name_kw (ld_blt I hg hm hv (PyProof.Rows.callWith_type1 ?_ hs rfl))⟩
  rw [hs]
  show wpAny _ _ (spliced ((false, eval (.Call (.Name "enumerate" p2) [e] [] pos2) X.env) :: backTo pos (starEach [] X.env))) _ _ s
  refine Calls.spliced_cons (Call_ (ld_blt I hg2 hm2 boot_enumerate (PyProof.Rows.callWith_type1 ?_ hs2 rfl)))
  rw [hs2]
  show wpAny _ _ (spliced ((false, eval e X.env) :: backTo pos2 [])) _ _ s
  refine Calls.spliced_cons (thn (he.run pins s σ H _ I hq) fun u s1 ⟨v, H1, I1, r1, a, xs, ev, hS, q⟩ => ?_)
  subst ev
  obtain rfl : u = Value.ref a := r1
  refine Calls.spliced_nil ?_
  obtain ⟨its, rv, pa, hz⟩ := I1.list hS
  have lx := rv.length
  have al : a < s1.heap.objs.size := by
    obtain ⟨_, y, _⟩ := pa.isList
    exact Heap.lt_size y
  refine call_enumerate_list pa.isList fun h1 ie li sz1 k1 => Calls.spliced_nil ?_
  refine call_list_enum (s := { s1 with heap := h1 }) (I1.ok.hd hc) (by rw [List.size_toArray]; omega) ie li (pa.isList.at fun o y => k1 _ _ y) (Nat.succ_ne_self _) (Nat.ne_of_lt (Nat.lt_succ_of_lt al)) (Nat.ne_of_lt al) fun h2 t2 Ts off D => ?_
  have kp : ∀ b o, s1.heap.get? b = some o → h2.get? b = some o := fun b o y => off b o (Nat.ne_of_lt (Nat.lt_succ_of_lt (Heap.lt_size y))) (Nat.ne_of_lt (Heap.lt_size y)) (k1 _ _ y)
  have big : s1.heap.objs.size ≤ h1.objs.size := by rw [sz1]; exact Nat.le_add_right _ _
  have tT : ∀ t ∈ Ts, h1.objs.size + 1 ≤ t := fun t ht => by
    obtain ⟨j, hj⟩ := List.getElem?_of_mem ht
    obtain ⟨_, _, _, _, y⟩ := D.tup j t hj
    exact y
  have nS : H1 h1.objs.size = none := I1.hok.fresh big
  have nT : ∀ t ∈ Ts, H1 t = none := fun t ht => I1.hok.fresh (Nat.le_trans big (Nat.le_of_lt (tT t ht)))
  have tS : ∀ t ∈ Ts, t ≠ h1.objs.size := fun t ht z => by
    have y := tT t ht
    rw [z] at y
    exact Nat.lt_irrefl _ y
  have lT : Ts.length = xs.length := by rw [D.len, List.size_toArray]; omega
  have atS : putP H1 h1.objs.size Ts xs h1.objs.size = some (.lst (Ts.map V.ref)) := if_pos rfl
  have atT : ∀ j t x, Ts[j]? = some t → xs[j]? = some x → putP H1 h1.objs.size Ts xs t = some (.tup [.int (j : Nat), x]) := fun j t x hj hx => by
    unfold putP
    rw [if_neg (tS t (List.mem_of_getElem? hj)), idx_at D.asc hj]
    show (xs[j]?).map _ = _
    rw [hx]
    rfl
  have atO : ∀ b, b ≠ h1.objs.size → b ∉ Ts → putP H1 h1.objs.size Ts xs b = H1 b := fun b n1 n2 => by
    unfold putP
    rw [if_neg n1, List.idxOf?_eq_none_iff.mpr n2]
  have sm : Same H1 (putP H1 h1.objs.size Ts xs) := fun b o y => by
    rw [atO b (ne_of_none y nS) (fun z => by rw [nT b z] at y; cases y)]
    exact y
  have low : ∀ b o, s1.heap.get? b = some o → b ≠ h1.objs.size ∧ b ∉ Ts := fun b o y => ⟨Nat.ne_of_lt (Nat.lt_of_lt_of_le (Heap.lt_size y) big), fun z => Nat.lt_irrefl _ (Nat.lt_of_lt_of_le (Nat.lt_of_lt_of_le (Heap.lt_size y) big) (Nat.le_of_lt (tT b z)))⟩
  have J : Inv X pins σ (putP H1 h1.objs.size Ts xs) { s1 with heap := h2, toks := t2 } := by
    refine I1.call' (ch := []) rfl ⟨fun b o y _ _ _ => kp b o y, fun b o y _ _ _ => ⟨o.slots, kp b o y⟩, fun b o y n _ => ?_, fun b o y _ => ⟨o, kp b o y⟩, fun b zs y => sm b _ y, fun b o u y => sm b _ y, fun b ps y => ⟨#[], by rw [sm b _ y]; simp⟩⟩ (fun b u y => ?_) I1.bare fun b z => absurd z List.not_mem_nil
    · obtain ⟨z1, z2⟩ := low b o y
      rw [atO b z1 z2]
      exact n
    · by_cases hb : b = h1.objs.size
      · rw [hb] at y ⊢
        rw [atS] at y
        cases y
        obtain ⟨c, hc2⟩ := D.lst
        exact ⟨by rw [List.length_map, lT]; omega, Ts.map Value.ref, c, vals_refs Ts, hc2⟩
      · by_cases hT : b ∈ Ts
        · obtain ⟨j, hj⟩ := List.getElem?_of_mem hT
          obtain ⟨t, x, a1, a2, _⟩ := D.tup j b hj
          have jl : j < xs.length := by rw [← lT]; exact (List.getElem?_eq_some_iff.mp hj).1
          have hx : xs[j]? = some xs[j] := List.getElem?_eq_getElem jl
          rw [atT j b _ hj hx] at y
          cases y
          obtain ⟨u2, hu2, ru2⟩ := rv.get hx
          have a1' : its[j]? = some x := by simpa using a1
          rw [hu2] at a1'
          cases a1'
          exact ⟨by show 2 ≤ sizeLine; decide, [.int (j : Nat) t, x], .cons ⟨_, rfl⟩ (.cons ru2 .nil), ⟨_, a2, rfl, _, rfl⟩⟩
        · rw [atO b hb hT] at y
          exact (I1.hok b u y).stay (fun c v _ z => kp c v z) (fun c z => sm c _ z) fun c zs z => sm c _ z
  refine ⟨.ref h1.objs.size, _, J, rfl, q _ h1.objs.size Ts sm nS nT atS ⟨lT, fun j x hx => ?_⟩⟩
  have jl : j < Ts.length := by rw [lT]; exact (List.getElem?_eq_some_iff.mp hx).1
  exact ⟨Ts[j], List.getElem?_eq_getElem jl, atT j _ x (List.getElem?_eq_getElem jl) hx⟩
end
end Ex

set_option Elab.async false
set_option linter.all false
set_option maxRecDepth 100000
set_option maxHeartbeats 4000000
namespace K13
open PySem PySem.Spec PyProof.Rows L2 Gu Ex
theorem dp_ints {K : PySem.W.Frag} {H : Hp} : ∀ ns : List Int, DpAll K H (ns.map V.int) (ns.map PyData.int)
  | [] => .nil
  | n :: r => .cons (.int n) (dp_ints r)
theorem flat : ∀ ns : List Int, PyData.depthAll (ns.map PyData.int) = 0
  | [] => rfl
  | n :: r => by simp only [List.map_cons, PyData.depthAll, PyData.depth, flat r, Nat.max_self]
theorem can_lay : ∀ ns : List Int, PyData.canLayAll0 (ns.map PyData.int) = true
  | [] => rfl
  | n :: r => by simp only [List.map_cons, PyData.canLayAll0, PyData.canLay0, can_lay r, Bool.and_self]
theorem shaped_ints (ns : List Int) : SeqAt.shaped (.list (ns.map PyData.int)) = true := by
  have e : (PyData.list (ns.map PyData.int)).depth = 1 := by
    show PyData.depthAll (ns.map PyData.int) + 1 = 1
    rw [flat]
  have c : (PyData.list (ns.map PyData.int)).canLay0 = true := can_lay ns
  unfold SeqAt.shaped
  rw [c, e]
  rfl

section
variable {K : PySem.W.Frag} {H : Hp} {n m : Nat}
theorem tqa_nil : TqAll K H [] [] n m := ⟨.nil, rfl, Nat.zero_le _, Nat.zero_le _⟩
theorem tqa_cons {v : V} {d : PyData} {vs : List V} {ds : List PyData} (t : Tq K H v d n m) (r : TqAll K H vs ds n m) : TqAll K H (v :: vs) (d :: ds) n m := by
  obtain ⟨a, b, c, e⟩ := r
  refine ⟨.cons t.dq a, ?_, ?_, ?_⟩
  · show (d.showable && PyData.showableAll ds) = true
    rw [t.sh, b]
    rfl
  · show max d.depth (PyData.depthAll ds) ≤ n
    have := t.dp
    omega
  · show (d.shown.length + ((PyData.shownAll ds).map (·.length)).sum) + 2 * ((PyData.shownAll ds).length + 1) ≤ (vs.length + 1) * (m + 2)
    have := t.ln
    rw [Nat.add_mul, Nat.one_mul]
    omega
theorem tqa_ints {is : List Int} (h : ∀ i ∈ is, -(10 ^ 39) ≤ i ∧ i ≤ 10 ^ 39) : TqAll K H (is.map V.int) (is.map PyData.int) 0 41 := by
  induction is with
  | nil => exact tqa_nil
  | cons i is ih => exact tqa_cons (tq_int (h i List.mem_cons_self).1 (h i List.mem_cons_self).2) (ih fun j hj => h j (List.mem_cons_of_mem _ hj))
theorem tq_ints {p : Addr} {is : List Int} (h : ∀ i ∈ is, -(10 ^ 39) ≤ i ∧ i ≤ 10 ^ 39) (hl : is.length ≤ 64) (e : H p = some (.lst (is.map V.int))) : Tq K H (.ref p) (.list (is.map PyData.int)) 1 3000 := by
  refine ((tqa_ints h).lst e).mono (Nat.le_refl _) ?_
  rw [List.length_map]
  omega
end
/-- the levels of the pieces, at most 65 of each -/
def m65 (c : Int) : Int := if c < 65 then c else 65
def lvm (ns : List Int) (n : Int) : Nat → List Int
  | 0 => []
  | i + 1 => lvm ns n i ++ List.replicate (m65 (M13.cnt (sz ns) ns.length n (ns.length - 1 - i))).toNat ((ns.length - 1 - i : Nat) : Int)
theorem m65_le (c : Int) : (m65 c).toNat ≤ 65 ∧ m65 c ≤ 65 ∧ (0 ≤ c → 0 ≤ m65 c) := by
  unfold m65
  split <;> omega
theorem lvm_len (ns : List Int) (n : Int) : ∀ i, (lvm ns n i).length ≤ 65 * i
  | 0 => Nat.le_refl _
  | i + 1 => by
    show (lvm ns n i ++ List.replicate _ _).length ≤ _
    have := lvm_len ns n i
    have := (m65_le (M13.cnt (sz ns) ns.length n (ns.length - 1 - i))).1
    rw [List.length_append, List.length_replicate]
    omega
theorem lvm_eq {ns : List Int} (g : Good ns) {n : Int} (hn : 0 ≤ n) (h : (cnts ns n).sum ≤ 64) : ∀ i, i ≤ ns.length → lvm ns n i = lvls ns n i
  | 0, _ => rfl
  | i + 1, hi => by
    show lvm ns n i ++ _ = lvls ns n i ++ _
    obtain ⟨c0, c1, _⟩ := cnt_le g hn (i := i) (by omega) h
    rw [lvm_eq g hn h i (by omega)]
    unfold m65
    rw [if_pos (by omega)]
theorem lvls_rng (ns : List Int) (n : Int) : ∀ i, i ≤ ns.length → ∀ v ∈ lvls ns n i, ∃ k : Nat, v = (k : Int) ∧ k < ns.length
  | 0, _, v, hv => absurd hv List.not_mem_nil
  | i + 1, hi, v, hv => by
    rcases List.mem_append.mp (show v ∈ lvls ns n i ++ List.replicate _ _ from hv) with z | z
    · exact lvls_rng ns n i (by omega) v z
    · exact ⟨ns.length - 1 - i, (List.mem_replicate.mp z).2, by omega⟩
theorem sum_rep (k : Nat) (x : Int) : (List.replicate k x).sum = (k : Int) * x := by
  induction k with
  | zero => simp
  | succ k ih =>
    rw [List.replicate_succ, List.sum_cons, ih]
    rw [show ((k + 1 : Nat) : Int) = (k : Int) + 1 by omega, Int.add_mul]
    omega
theorem lvls_sum {ns : List Int} (g : Good ns) {n : Int} (hn : 0 ≤ n) : ∀ i, i ≤ ns.length → ((lvls ns n i).map fun k => sz ns k.toNat).sum = M13.from_ (fun k => M13.cnt (sz ns) ns.length n k * sz ns k) ns.length i
  | 0, _ => rfl
  | i + 1, hi => by
    show ((lvls ns n i ++ List.replicate _ _).map _).sum = M13.cnt _ _ _ (ns.length - (i + 1)) * _ + M13.from_ _ _ i
    have c0 := M13.cnt_nn (chain g) hn (k := ns.length - 1 - i) (by omega)
    rw [List.map_append, List.sum_append, lvls_sum g hn i (by omega), List.map_replicate, sum_rep, Int.toNat_natCast, show ns.length - (i + 1) = ns.length - 1 - i by omega, Int.toNat_of_nonneg c0]
    omega
theorem pcs_sum {ns : List Int} (g : Good ns) {n : Int} (hn : 0 ≤ n) : ((pcs ns n).map fun k => sz ns k.toNat).sum = n := by
  have l := g.len
  unfold pcs
  rw [lvls_sum g hn _ (Nat.le_refl _)]
  have h := M13.from_is (chain g) n (ns.length - 1) (by omega)
  rw [show ns.length - 1 + 1 = ns.length by omega, Nat.sub_self, (chain g).one, Int.emod_one] at h
  omega
theorem pcs_len {ns : List Int} (g : Good ns) {n : Int} (hn : 0 ≤ n) : ((pcs ns n).length : Int) = (cnts ns n).sum := by
  rw [show ((pcs ns n).length : Int) = _ from (falls_nn g hn ns.length (Nat.le_refl _)).2, ← falls_all, sum_rev]
section
variable {P : Program} {w : World} {K : PySem.W.Frag} {mg : Str → Option Value} {base : Heap} {f : Addr} {fd : FuncData}
def spPr (K : PySem.W.Frag) : Sp := fun vs H Q _ => ∃ (p o d : Addr) (ns : List Int) (n : Int), vs = [.ref p, .ref o, .int n, .ref d] ∧ SzAt (cS K) H p ns ∧ Good ns ∧ H o = some (.lst (ns.map V.int)) ∧ H d = some (.lst ((cnts ns n).map V.int)) ∧ 1 ≤ n ∧ n ≤ 1000000000000 ∧ ∀ H', Same H H' → Q (.bl true) H'
theorem sc__law_pieces_right : FnScope ["_law_made", "_law_own", "_law_amount", "_law_due", "_law_levels", "_law_told_here", "_law_at", "_law_many"] ["_law_made", "_law_own", "_law_amount", "_law_due"] (defScope (top 24)) := ⟨rfl, rfl, rfl, by decide +kernel, rfl, by decide +kernel, by decide +kernel⟩
theorem ok_pr (T : Tx K mg) (D__law_told : Df P w K mg base 7 "_law_told" ["_law_made", "_law_amount"] (spTold K)) (D__law_fewest : Df P w K mg base 1 "_law_fewest" ["_law_own", "_law_amount"] spFew)
    (M_pieces_kw : MfXK P w K mg base 6 "Sizes" "pieces" ["self", "cells"] ["cells"] [0] (spPieces K)) (F : FnP K "_law_pieces_right" "_law_pieces_right" (top 24) f fd) :
    FnG P w K mg base CX0 8 f fd ["_law_made", "_law_own", "_law_amount", "_law_due"] (spPr K) := by
  refine okG F sc__law_pieces_right (fun vs H Q E h => ?_) (fun cdv A outer s H vs Q E hr h => ⟨_, PSs.nox (pss_cons (ps_set (i := 4) sc__law_pieces_right.nd rfl (by first | exact Or.inl rfl | exact Or.inr rfl) (pe_lst pa_nil)) (pss_cons (ps_for PassesOwn.never rfl (pi_list (pe_revL (pe_listEnum rfl (by rfl) T.n_list (by decide +kernel) (by rfl) T.n_enumerate (pv 3)))) (pg_tup (by rfl) (pgs_cons (pg_name (i := 6) sc__law_pieces_right.nd rfl (by first | exact Or.inl rfl | exact Or.inr rfl)) (pgs_cons (pg_name (i := 7) sc__law_pieces_right.nd rfl (by first | exact Or.inl rfl | exact Or.inr rfl)) pgs_nil))) (pss_one (ps_set (i := 4) sc__law_pieces_right.nd rfl (by first | exact Or.inl rfl | exact Or.inr rfl) (pe_op op_cat (pv 4) (pe_op op_rep (pe_lst (pa_cons (pv 6) pa_nil)) (pe_callB (call_min2 rfl) (by rfl) T.n_min (by decide +kernel) (pa_cons pe_int (pa_cons (pv 7) pa_nil)))))))) (pss_cons (ps_set (i := 5) sc__law_pieces_right.nd rfl (by first | exact Or.inl rfl | exact Or.inr rfl) (pcall D__law_told hr.r (pa_cons (pv 0) (pa_cons (pv 2) pa_nil)))) (pss_cons (ps_if (pt_cmpR op_gt (pe_callB (cr_sum rfl) (by rfl) T.n_sum (by decide +kernel) (pa_cons (pv 3) pa_nil)) pe_int (nomark _)) (pss_one (ps_ret (pe_cmpR op_eq (pe_callB (call_reprQ hr T.sys) (by rfl) T.n_repr (by decide +kernel) (pa_cons (pv 5) pa_nil)) (pe_callB (call_reprQ hr T.sys) (by rfl) T.n_repr (by decide +kernel) (pa_cons (pe_lst (pa_cons pe_str (pa_cons pe_int (pa_cons pe_bl pa_nil)))) pa_nil)) (nomark _)))) pss_nil) (pss_cons (ps_if (PW.pt (pw_or (pt_cmpR op_ne (pe_callB (call_reprQ hr T.sys) (by rfl) T.n_repr (by decide +kernel) (pa_cons (pv 5) pa_nil)) (pe_callB (call_reprQ hr T.sys) (by rfl) T.n_repr (by decide +kernel) (pa_cons (pe_lst (pa_cons pe_str (pa_cons (pv 4) pa_nil))) pa_nil)) (nomark _)) (pw_or1 (pt_cmpR op_ne (pe_callB (cr_sum rfl) (by rfl) T.n_sum (by decide +kernel) (pa_cons (pe_lc (own := [("_law_at", 6)]) (g := gName 6) rfl sc__law_pieces_right.nd (pi_list (pe_ix ix_list (pv 5) pe_int (fun _ _ => rfl))) (blkOk_by (own := [("_law_at", 6)]) (N := ["_law_made", "_law_own", "_law_amount", "_law_due", "_law_levels", "_law_told_here", "_law_at", "_law_many"]) (sc := defScope (top 24)) (by decide +kernel)) (fun _ _ _ _ _ => pg_name (i := 6) sc__law_pieces_right.nd rfl (Or.inl rfl)) (fun _ _ _ _ _ => pts_nil) (fun _ _ _ _ _ => (pe_ix (r := rIxL K) ix_list (pv 1) (pv 6) (fun _ _ => rfl)))) pa_nil)) (pv 2) (nomark _))))) (pss_one (ps_ret pe_bl)) pss_nil) (pss_cons (ps_if (PW.pt (pw_and (pt_cmpR op_le (pv 2) pe_int (nomark _)) (pw_and1 (pt_cmpR op_ne (pe_callB call_len_seq (by rfl) T.n_len (by decide +kernel) (pa_cons (pe_ix ix_list (pv 5) pe_int (fun _ _ => rfl)) pa_nil)) (pcall D__law_fewest hr.r (pa_cons (pv 1) (pa_cons (pv 2) pa_nil))) (nomark _))))) (pss_one (ps_ret pe_bl)) pss_nil) (pss_cons (ps_expr (pe_bm PySem.F.plainAttrs_list PySem.F.slot_list_append PySem.F.type_list_append mt_append (pe_ix ix_list (pv 5) pe_int (fun _ _ => rfl)) (pa_cons pe_int pa_nil))) (pss_cons (ps_expr (pe_bm0 PySem.F.plainAttrs_list PySem.F.slot_list_reverse PySem.F.type_list_reverse mt_reverse (pe_ix ix_list (pv 5) pe_int (fun _ _ => rfl)))) (pss_one (ps_ret (pe_cmpR (op_eqD hr.r.units) (pmethXK M_pieces_kw hr.r passN (pv 0) (pk_cons (pv 2) pk_nil)) (pv 4) (nomark _)))))))))))), ?_⟩)
  · obtain ⟨p, o, d, ns, n, rfl, _⟩ := h
    rfl
  · obtain ⟨p, o, d, ns, n, rfl, hz, g, hO, hD, n1, n2, q⟩ := h
    have l8 := g.len
    have sl : sizeLine = 16777216 := sizeLine_eq
    have n0 : 0 ≤ n := by omega
    have ch := chain g
    obtain ⟨dx, l, h1, h2⟩ := id hz
    refine ⟨(by show 0 ≤ sizeLine; decide), fun b0 hb0 => ?_⟩
    have s0 : Same H (upd H b0 (.lst [])) := same_upd hb0
    have hB0 : (upd H b0 (.lst [])) b0 = some (.lst []) := upd_same
    generalize upd H b0 (.lst []) = G0 at s0 hB0
    refine ⟨_, rfl, d, _, rfl, SqL.of (s0 _ _ hD), fun G1 L ts s1 hL hts hLa pr => ?_⟩
    refine ⟨L, _, rfl, SqL.of hLa, fun R hR => ?_⟩
    have s2 : Same G1 (upd G1 R (.lst (ts.map V.ref).reverse)) := same_upd hR
    have hRa : (upd G1 R (.lst (ts.map V.ref).reverse)) R = some (.lst (ts.map V.ref).reverse) := upd_same
    generalize upd G1 R (.lst (ts.map V.ref).reverse) = G2 at s2 hRa
    have s02 := (s0.trans s1).trans s2
    refine ⟨R, rfl, ⟨_, SqL.of hRa⟩, ?_⟩
    have tl : ts.length = ns.length := by rw [pr.1, List.length_map, cnts_len]
    refine for_list (K := K) (a := R) (xs := (ts.map V.ref).reverse) (fun i σ G => Same G2 G ∧ ∃ (b : Addr) (x y : Option V), σ = [some (.ref p), some (.ref o), some (.int n), some (.ref d), some (.ref b), none, x, y] ∧ G b = some (.lst ((lvm ns n i).map V.int))) ⟨Same.refl _, b0, none, none, rfl, s2 _ _ (s1 _ _ hB0)⟩ (fun i σ G _ ⟨sg, _⟩ => SqL.of (sg _ _ hRa)) ?_ ?_
    · rintro i x σ G hx ⟨sg, b, x1, y1, rfl, hB⟩
      obtain ⟨hil, _⟩ := List.getElem?_eq_some_iff.mp hx
      rw [List.length_reverse, List.length_map, tl] at hil
      have km : ns.length - 1 - i < ns.length := by omega
      obtain ⟨t, ht, hT⟩ := pr.2 (ns.length - 1 - i) _ (by rw [List.getElem?_map, cnts_at km]; rfl)
      have ex : x = .ref t := by
        rw [List.getElem?_reverse (by rw [List.length_map, tl]; exact hil), List.length_map, tl, List.getElem?_map, ht] at hx
        exact (Option.some.inj hx).symm
      subst ex
      have hT' := sg _ _ (s2 _ _ hT)
      refine ⟨t, _, rfl, .inl (.inl hT'), rfl, _, _, rfl, _, _, rfl, rfl, ?_⟩
      obtain ⟨c1, c2, c3⟩ := m65_le (M13.cnt (sz ns) ns.length n (ns.length - 1 - i))
      have c4 := c3 (M13.cnt_nn ch n0 km)
      have ll := lvm_len ns n i
      refine ⟨_, rfl, _, rfl, (by show 1 ≤ sizeLine; decide), fun u hu => ?_⟩
      have su : Same G (upd G u (.lst [.int ((ns.length - 1 - i : Nat) : Int)])) := same_upd hu
      refine ⟨_, rfl, _, _, rfl, u, m65 (M13.cnt (sz ns) ns.length n (ns.length - 1 - i)), _, rfl, rfl, upd_same, by omega, by omega, ?_, fun r hr2 => ?_⟩
      · show 1 * _ ≤ sizeLine
        omega
      · have sr := su.trans (same_upd (o := .lst (List.replicate (m65 (M13.cnt (sz ns) ns.length n (ns.length - 1 - i))).toNat [V.int ((ns.length - 1 - i : Nat) : Int)]).flatten) hr2)
        refine ⟨b, r, _, _, rfl, rfl, sr _ _ hB, upd_same, ?_, fun c hc => ⟨(sg.trans sr).trans (same_upd hc), c, _, _, rfl, ?_⟩⟩
        · rw [flat_one, List.length_map, List.length_replicate]
          omega
        · rw [upd_same, flat_one]
          show _ = some (HO.lst ((lvm ns n i ++ List.replicate _ _).map V.int))
          rw [List.map_append, List.map_replicate]
    · rintro σ G ⟨sg, b, x1, y1, rfl, hB⟩
      rw [List.length_reverse, List.length_map, tl] at hB
      have sG := s02.trans sg
      have zG := hz.same sG
      refine ⟨_, rfl, _, rfl, p, ns, n, rfl, zG, g, n1, n2, fun hs t a G3 hT hA s3 hA3 hT3 => ?_, fun hs t G3 hT s3 hT3 => ?_⟩
      · refine ⟨_, rfl, d, _, rfl, SqL.of (s3 _ _ (sG _ _ hD)), _, _, rfl, rfl, _, rfl, ifF (decide_eq_false (by omega)) ?_⟩
        have pl := pcs_len g n0
        have ip : ∀ v ∈ pcs ns n, -(10 ^ 39) ≤ v ∧ v ≤ 10 ^ 39 := fun v hv => by
          obtain ⟨k, rfl, hk⟩ := lvls_rng ns n _ (Nat.le_refl _) v hv
          have b39 : (10 : Int) ^ 39 = 1000000000000000000000000000000000000000 := by decide
          omega
        have tp : ∀ {G : Hp} {u v : Addr}, G v = some (.lst ((pcs ns n).map V.int)) → G u = some (.lst [.str "pieces", .ref v]) → Tq K G (.ref u) (.list [.str "pieces", .list ((pcs ns n).map PyData.int)]) 2 7000 := fun {G u v} e1 e2 =>
          ((tqa_cons (n := 1) (m := 3000) ((tq_text (K := K) (H := G) "pieces" (by decide +kernel)).mono (by decide) (by decide)) (tqa_cons (tq_ints ip (by omega) e1) tqa_nil)).lst e2).mono (by decide) (by show 2 * (3000 + 2) + 3 ≤ 7000; decide)
        have t1 := tp hA3 hT3
        refine ⟨_, rfl, _, _, rfl, t1.dq, t1.sh, Nat.le_trans t1.dp (by decide), Nat.le_trans t1.ln (by decide), _, rfl, (by show 2 ≤ sizeLine; decide), fun u hu => ?_⟩
        have su := same_upd (o := .lst [.str "pieces", .ref b]) hu
        rw [lvm_eq g n0 hs _ (Nat.le_refl _)] at hB
        have t2 := tp (su _ _ (s3 _ _ hB)) upd_same
        refine ⟨_, _, rfl, t2.dq, t2.sh, Nat.le_trans t2.dp (by decide), Nat.le_trans t2.ln (by decide), rfl, _, rfl, ifF (by rw [decide_eq_true rfl]; rfl) ?_⟩
        have sU := s3.trans su
        have hA4 := su _ _ hA3
        have hT4 := su _ _ hT3
        have hB4 := su _ _ (s3 _ _ hB)
        generalize upd G3 u (.lst [.str "pieces", .ref b]) = G4 at su sU hA4 hT4 hB4
        have hO4 := sU _ _ (sG _ _ hO)
        refine ⟨_, rfl, t, _, _, _, rfl, rfl, SqL.of hT4, rfl, a, rfl, ⟨_, SqL.of hA4⟩, fun D hD5 => ?_⟩
        refine lc_list (K := K) (a := a) (xs := (pcs ns n).map V.int) (fun j G => G D = some (.lst ((((pcs ns n).take j).map fun k => sz ns k.toNat).map V.int)) ∧ Same G4 G) ⟨upd_same, same_upd hD5⟩ (fun j G _ ⟨_, sm⟩ => SqL.of (sm _ _ hA4)) ?_ ?_
        · rintro j x G' hx ⟨hG, sm⟩
          obtain ⟨z, hzz, rfl⟩ := int_of hx
          obtain ⟨k, rfl, hk⟩ := lvls_rng ns n _ (Nat.le_refl _) z (List.mem_of_getElem? hzz)
          have jl := (List.getElem?_eq_some_iff.mp hzz).1
          refine ⟨rfl, _, rfl, _, rfl, o, _, _, _, rfl, rfl, SqL.of (sm _ _ hO4), at_sz hk, _, hG, (by rw [List.length_map, List.length_map, List.length_take]; omega), ?_, fun c u e => ?_⟩
          · rw [upd_same, take_at hzz, List.map_append, List.map_append]
            rfl
          · rw [upd_ne (ne_of_none e hD5)]
            exact sm c u e
        · rintro G5 ⟨hG, s5⟩
          rw [List.length_map, List.take_length] at hG
          refine ⟨D, _, rfl, SqL.of hG, _, rfl, rfl, _, rfl, ?_⟩
          rw [pcs_sum g n0]
          refine ifF (by rw [decide_eq_true rfl]; rfl) ?_
          have sA := sG.trans (sU.trans s5)
          have hT5 := s5 _ _ hT4
          have hA5 := s5 _ _ hA4
          have hB5 := s5 _ _ hB4
          have hO5 := s5 _ _ hO4
          have nta : a ≠ t := fun z => by
            rw [← z, hA5] at hT5
            have e1 : (pcs ns n).map V.int = [.str "pieces", .ref a] := HO.lst.inj (Option.some.inj hT5)
            obtain ⟨y, _, _, e2, _⟩ := List.map_eq_cons_iff.mp e1
            cases e2
          refine join (fun G6 : Hp => Same G5 G6) (R := ?R) (fun tail => ?main) ?tl
          case main =>
            refine ⟨_, rfl, _, _, rfl, rfl, _, rfl, ?_⟩
            by_cases h60 : n ≤ 60
            · refine ifT (decide_eq_true h60) ⟨_, rfl, t, _, _, _, rfl, rfl, SqL.of hT5, rfl, a, _, rfl, .inl (SqL.of hA5), _, rfl, _, rfl, o, ns, n, rfl, hO5, g, n1, h60, fun G6 s6 => ⟨rfl, _, rfl, ?_⟩⟩
              have e1 : (((pcs ns n).map V.int).length : Int) = fw ns n := by
                rw [List.length_map, pl, sum_fw g]
              refine ifF (by rw [e1, decide_eq_true rfl]; rfl) ?_
              exact tail G6 s6
            · refine ifF (decide_eq_false h60) (iteF ?_)
              exact tail G5 (Same.refl _)
          case tl =>
            intro G6 s6
            have hT6 := s6 _ _ hT5
            have hA6 := s6 _ _ hA5
            have hB6 := s6 _ _ hB5
            have nba : b ≠ a := fun z => by
              have e1 := hA
              rw [← z, hB] at e1
              cases e1
            have z6 := hz.same (sA.trans s6)
            obtain ⟨dx6, l6, k1, k2⟩ := id z6
            refine ⟨_, rfl, t, _, _, _, rfl, rfl, SqL.of hT6, rfl, .inl ⟨rfl, _, SqL.of hA6⟩, a, _, _, rfl, rfl, hA6, small1000 (by rw [List.length_map]; omega), ?_⟩
            refine ⟨_, rfl, t, _, _, _, rfl, rfl, SqL.of ((upd_ne nta.symm).trans hT6), rfl, .inl ⟨rfl, _, SqL.of upd_same⟩, a, _, rfl, rfl, upd_same, ?_⟩
            have nH : H a = none := sG.free hA
            have s7 : Same H (upd (upd G6 a (.lst ((pcs ns n).map V.int ++ [V.int 0]))) a (.lst ((pcs ns n).map V.int ++ [V.int 0]).reverse)) := fun c u e => by
              rw [upd_ne (ne_of_none e nH), upd_ne (ne_of_none e nH)]
              exact (sA.trans s6) _ _ e
            have hB7 : (upd (upd G6 a (.lst ((pcs ns n).map V.int ++ [V.int 0]))) a (.lst ((pcs ns n).map V.int ++ [V.int 0]).reverse)) b = some (.lst ((pcs ns n).map V.int)) := by
              rw [upd_ne nba, upd_ne nba]
              exact hB6
            generalize upd (upd G6 a (.lst ((pcs ns n).map V.int ++ [V.int 0]))) a (.lst ((pcs ns n).map V.int ++ [V.int 0]).reverse) = G7 at s7 hB7
            have ec : cellsB (.int n) = true := decide_eq_true ⟨n1, n2⟩
            refine ⟨_, rfl, p, dx, _, rfl, s7 _ _ h1, szF_no l (by decide +kernel), _, rfl, rfl, p, ns, .int n, rfl, hz.same s7, g, .int n, fun n' a2 G8 en _ _ ha2 s8 hA8 => ?_, fun z => ?_, fun n' en _ hs2 => ?_⟩
            · cases en
              refine ⟨_, rfl, _, _, .lst (SqL.of hA8) (dp_ints _), .lst (SqL.of (s8 _ _ hB7)) (dp_ints _), shaped_ints _, shaped_ints _, ?_⟩
              rw [SeqAt.eqv_refl (.list ((pcs ns n).map PyData.int)) (can_lay _)]
              exact q _ (s7.trans s8)
            · rw [ec] at z
              cases z
            · cases en
              omega
      · have t1 := (tqa_cons (n := 1) (m := 3000) ((tq_text (K := K) (H := G3) "many" (by decide +kernel)).mono (by decide) (by decide)) (tqa_cons ((tq_int (by decide) (by decide)).mono (by decide) (by decide)) (tqa_cons ((tq_bl true).mono (by decide) (by decide)) tqa_nil))).lst hT3
        refine ⟨_, rfl, d, _, rfl, SqL.of (s3 _ _ (sG _ _ hD)), _, _, rfl, rfl, _, rfl, ifT (decide_eq_true hs) ⟨_, rfl, _, _, rfl, t1.dq, t1.sh, Nat.le_trans t1.dp (by decide), Nat.le_trans t1.ln (by decide), (by show 3 ≤ sizeLine; decide), fun u hu => ?_⟩⟩
        have t2 := (tqa_cons (n := 1) (m := 3000) ((tq_text (K := K) (H := upd G3 u (.lst [.str "many", .int 64, .bl true])) "many" (by decide +kernel)).mono (by decide) (by decide)) (tqa_cons ((tq_int (by decide) (by decide)).mono (by decide) (by decide)) (tqa_cons ((tq_bl true).mono (by decide) (by decide)) tqa_nil))).lst upd_same
        refine ⟨_, _, rfl, t2.dq, t2.sh, Nat.le_trans t2.dp (by decide), Nat.le_trans t2.ln (by decide), rfl, ?_⟩
        have z := q _ ((sG.trans s3).trans (same_upd (o := .lst [.str "many", .int 64, .bl true]) hu))
        rw [show decide (V.str (PyData.list [.str "many", .int 64, .bool true]).shown = V.str (PyData.list [.str "many", .int 64, .bool true]).shown) = true from decide_eq_true rfl]
        exact z
end
end K13

set_option Elab.async false
set_option linter.all false
set_option maxRecDepth 100000
set_option maxHeartbeats 4000000
namespace K13
open PySem PySem.Spec PyProof.Rows L2 Gu Ex
def rLen (K : PySem.W.Frag) : List V → Hp → VK → Prop := fun xs H Q => ∃ p ys, xs = [V.ref p] ∧ (SqL K H p ys ∨ SqT K H p ys) ∧ Q (V.int (ys.length : Nat)) H
theorem lv_ex {s : Nat → Int} {m : Nat} (c : M16.Ch s m) {n : Int} (hn : 1 ≤ n) : ∀ j, j ≤ m → (∀ i, j ≤ i → i < m → n < s i) → ∃ k, M13.IsLv s m n k
  | 0, _, h => by
    have := h 0 (Nat.le_refl _) (by have := c.m1; omega)
    rw [c.one] at this
    omega
  | j + 1, hj, h => by
    by_cases hc : s j ≤ n
    · exact ⟨j, by omega, hc, fun i a b => h i (by omega) b⟩
    · exact lv_ex c hn j (by omega) fun i a b => by
        by_cases z : i = j
        · rw [z]
          omega
        · exact h i (by omega) b
/-- the cells of the levels from k on -/
def wholes (ns : List Int) (n : Int) : List Int := (List.range ns.length).map fun k => n - n % sz ns k
theorem wholes_at {ns : List Int} {n : Int} {k : Nat} (h : k < ns.length) : (wholes ns n)[k]? = some (n - n % sz ns k) := by
  unfold wholes
  rw [List.getElem?_map, List.getElem?_range h]
  rfl
theorem wholes_len (ns : List Int) (n : Int) : (wholes ns n).length = ns.length := by
  unfold wholes
  rw [List.length_map, List.length_range]
/-- products from level k on, j of them -/
def prods (ns : List Int) (n : Int) (k j : Nat) : List Int := (List.range j).map fun i => M13.cnt (sz ns) ns.length n (k + i) * sz ns (k + i)
theorem prods_more (ns : List Int) (n : Int) (k j : Nat) : prods ns n k j ++ [M13.cnt (sz ns) ns.length n (k + j) * sz ns (k + j)] = prods ns n k (j + 1) := by
  unfold prods
  rw [List.range_succ, List.map_append]
  rfl
theorem prods_sum {ns : List Int} (g : Good ns) (n : Int) {k : Nat} : ∀ j, k + j ≤ ns.length → (prods ns n k j).sum + (if k + j < ns.length then n - n % sz ns (k + j) else 0) = (if k < ns.length then n - n % sz ns k else 0)
  | 0, h => by
    show (0 : Int) + _ = _
    rw [Nat.add_zero]
    omega
  | j + 1, h => by
    have ih := prods_sum g n (k := k) j (by omega)
    rw [← prods_more, List.sum_append]
    show _ + (_ + 0) + _ = _
    rw [if_pos (show k + j < ns.length by omega)] at ih
    have e := M13.cnt_mul (chain g) n (show k + j < ns.length by omega)
    unfold M13.rest at e
    by_cases h1 : k + (j + 1) < ns.length
    · rw [if_pos h1]
      rw [if_pos (show k + j + 1 < ns.length by omega)] at e
      rw [show k + (j + 1) = k + j + 1 by omega]
      omega
    · rw [if_neg h1]
      rw [if_neg (show ¬ k + j + 1 < ns.length by omega)] at e
      omega
theorem prods_all {ns : List Int} (g : Good ns) (n : Int) {k : Nat} (hk : k < ns.length) : (prods ns n k (ns.length - k)).sum = n - n % sz ns k := by
  have h := prods_sum g n (k := k) (ns.length - k) (by omega)
  rw [if_neg (by omega), if_pos hk] at h
  omega
section
variable {P : Program} {w : World} {K : PySem.W.Frag} {mg : Str → Option Value} {base : Heap} {f : Addr} {fd : FuncData}
def spNr (K : PySem.W.Frag) : Sp := fun vs H Q _ => ∃ (p o : Addr) (ns : List Int) (n : Int), vs = [.ref p, .ref o, .int n] ∧ SzAt (cS K) H p ns ∧ Good ns ∧ H o = some (.lst (ns.map V.int)) ∧ 1 ≤ n ∧ n ≤ 1000000000000 ∧ ∀ H', Same H H' → Q (.bl true) H'
theorem sc__law_number_right : FnScope ["_law_made", "_law_own", "_law_amount", "_law_due", "_law_best", "_law_wholes", "_law_turn", "_law_told_here", "_law_at", "_law_k"] ["_law_made", "_law_own", "_law_amount"] (defScope (top 25)) := ⟨rfl, rfl, rfl, by decide +kernel, rfl, by decide +kernel, by decide +kernel⟩
theorem ok_nr (T : Tx K mg) (D__law_counts : Df P w K mg base 1 "_law_counts" ["_law_own", "_law_amount"] spCts) (M_counts : MfX P w K mg base 5 "Sizes" "counts" ["self", "cells"] (spCounts K)) (M_level_of : MfX P w K mg base 5 "Sizes" "level_of" ["self", "cells"] (spLv K))
    (M_whole : MfX P w K mg base 6 "Sizes" "whole" ["self", "cells", "level"] (spWhole K)) (M_whole_kw : MfXK P w K mg base 6 "Sizes" "whole" ["self", "cells", "level"] ["level", "cells"] [1, 0] (spWhole K))
    (M_level_of_kw : MfXK P w K mg base 5 "Sizes" "level_of" ["self", "cells"] ["cells"] [0] (spLv K)) (M_counts_kw : MfXK P w K mg base 5 "Sizes" "counts" ["self", "cells"] ["cells"] [0] (spCounts K))
    (D__law_pieces_right : DfG P w K mg base 8 "_law_pieces_right" ["_law_made", "_law_own", "_law_amount", "_law_due"] (spPr K)) (F : FnP K "_law_number_right" "_law_number_right" (top 25) f fd) :
    FnG P w K mg base CX0 9 f fd ["_law_made", "_law_own", "_law_amount"] (spNr K) := by
  refine okG F sc__law_number_right (fun vs H Q E h => ?_) (fun cdv A outer s H vs Q E hr h => ⟨_, PSs.nox (pss_cons (ps_set (i := 3) sc__law_number_right.nd rfl (by first | exact Or.inl rfl | exact Or.inr rfl) (pcall D__law_counts hr.r (pa_cons (pv 1) (pa_cons (pv 2) pa_nil)))) (pss_cons (ps_set (i := 4) sc__law_number_right.nd rfl (by first | exact Or.inl rfl | exact Or.inr rfl) (pe_callB (cr_max rfl) (by rfl) T.n_max (by decide +kernel) (pa_cons (pe_lc (own := [("_law_at", 8)]) (g := gName 8) rfl sc__law_number_right.nd (pi_range1 rfl T.n_range (pa_cons (pe_callB call_len_seq (by rfl) T.n_len (by decide +kernel) (pa_cons (pv 1) pa_nil)) pa_nil)) (blkOk_by (own := [("_law_at", 8)]) (N := ["_law_made", "_law_own", "_law_amount", "_law_due", "_law_best", "_law_wholes", "_law_turn", "_law_told_here", "_law_at", "_law_k"]) (sc := defScope (top 25)) (by decide +kernel)) (fun _ _ _ _ _ => pg_name (i := 8) sc__law_number_right.nd rfl (Or.inl rfl)) (fun _ _ _ _ _ => (pts_one (pt_cmpR op_gt (pe_ix (r := rIxL K) ix_list (pv 3) (pv 8) (fun _ _ => rfl)) pe_int (nomark _)))) (fun _ _ _ _ _ => (pv 8))) pa_nil))) (pss_cons (ps_setLc (i := 5) (own := [("_law_at", 8)]) (g := gName 8) rfl sc__law_number_right.nd rfl rfl (sw_true rfl rfl rfl (by decide +kernel)) (pi_range1 rfl T.n_range (pa_cons (pe_callB call_len_seq (by rfl) T.n_len (by decide +kernel) (pa_cons (pv 1) pa_nil)) pa_nil)) (blkOk_by (own := [("_law_at", 8)]) (N := ["_law_made", "_law_own", "_law_amount", "_law_due", "_law_best", "_law_wholes", "_law_turn", "_law_told_here", "_law_at", "_law_k"]) (sc := defScope (top 25)) (by decide +kernel)) (fun _ _ _ _ _ => pg_name (i := 8) sc__law_number_right.nd rfl (Or.inl rfl)) (fun _ _ _ _ _ => pts_nil) (fun _ _ _ _ _ => (pe_callB (r := rSum K) (id := "sum") (cr_sum rfl) (by rfl) T.n_sum (by decide +kernel) (pa_cons (pe_lc (own := [("_law_k", 9)]) (g := gName 9) rfl sc__law_number_right.nd (pi_range2 rfl T.n_range (pa_cons (pv 8) (pa_cons (pe_callB (r := rLen K) (id := "len") call_len_seq (by rfl) T.n_len (by decide +kernel) (pa_cons (pv 1) pa_nil)) pa_nil))) (blkOk_by (own := [("_law_k", 9)]) (N := ["_law_made", "_law_own", "_law_amount", "_law_due", "_law_best", "_law_wholes", "_law_turn", "_law_told_here", "_law_at", "_law_k"]) (sc := { kind := .function, names := [(".0", .local), ("_law_at", .local), ("sum", .globalImplicit), ("range", .globalImplicit), ("len", .globalImplicit), ("_law_due", .cell), ("_law_own", .cell)], isGenerator := false, isCoroutine := false }) (by decide +kernel)) (fun _ _ _ _ _ => pg_name (i := 9) sc__law_number_right.nd rfl (Or.inl rfl)) (fun _ _ _ _ _ => pts_nil) (fun _ _ _ _ _ => (pe_op op_mul (pe_ix (r := rIxL K) ix_list (pv 3) (pv 9) (fun _ _ => rfl)) (pe_ix (r := rIxL K) ix_list (pv 1) (pv 9) (fun _ _ => rfl))))) pa_nil)))) (pss_cons (ps_for PassesOwn.never rfl (pi_range1 rfl T.n_range (pa_cons pe_int pa_nil)) (pg_name (i := 6) sc__law_number_right.nd rfl (by first | exact Or.inl rfl | exact Or.inr rfl)) (pss_cons (ps_set (i := 7) sc__law_number_right.nd rfl (by first | exact Or.inl rfl | exact Or.inr rfl) (pmethX M_counts hr.r passN (pv 0) (pa_cons (pv 2) pa_nil))) (pss_cons (ps_if (PW.pt (pw_or (pt_cmpR op_ne (pe_callB (call_reprQ hr T.sys) (by rfl) T.n_repr (by decide +kernel) (pa_cons (pv 7) pa_nil)) (pe_callB (call_reprQ hr T.sys) (by rfl) T.n_repr (by decide +kernel) (pa_cons (pv 3) pa_nil)) (nomark _)) (pw_or1 (pt_cmpR op_ne (pe_callB (call_reprQ hr T.sys) (by rfl) T.n_repr (by decide +kernel) (pa_cons (pmethX M_level_of hr.r passN (pv 0) (pa_cons (pv 2) pa_nil)) pa_nil)) (pe_callB (call_reprQ hr T.sys) (by rfl) T.n_repr (by decide +kernel) (pa_cons (pv 4) pa_nil)) (nomark _))))) (pss_one (ps_ret pe_bl)) pss_nil) (pss_cons (ps_expr (pe_bm0 PySem.F.plainAttrs_list PySem.F.slot_list_reverse PySem.F.type_list_reverse mt_reverse (pv 7))) (pss_one (ps_expr (pe_bm PySem.F.plainAttrs_list PySem.F.slot_list_append PySem.F.type_list_append mt_append (pv 7) (pa_cons pe_non pa_nil)))))))) (pss_cons (ps_if (pt_cmpR op_ne (pe_callB (call_reprQ hr T.sys) (by rfl) T.n_repr (by decide +kernel) (pa_cons (pe_lc (own := [("_law_at", 8)]) (g := gName 8) rfl sc__law_number_right.nd (pi_range1 rfl T.n_range (pa_cons (pe_callB call_len_seq (by rfl) T.n_len (by decide +kernel) (pa_cons (pv 1) pa_nil)) pa_nil)) (blkOk_by (own := [("_law_at", 8)]) (N := ["_law_made", "_law_own", "_law_amount", "_law_due", "_law_best", "_law_wholes", "_law_turn", "_law_told_here", "_law_at", "_law_k"]) (sc := defScope (top 25)) (by decide +kernel)) (fun _ _ _ _ _ => pg_name (i := 8) sc__law_number_right.nd rfl (Or.inl rfl)) (fun _ _ _ _ _ => pts_nil) (fun _ _ _ _ _ => (pmethXB K M_whole hr.r passN (pv 0) (pa_cons (pv 2) (pa_cons (pv 8) pa_nil))))) pa_nil)) (pe_callB (call_reprQ hr T.sys) (by rfl) T.n_repr (by decide +kernel) (pa_cons (pv 5) pa_nil)) (nomark _)) (pss_one (ps_ret pe_bl)) pss_nil) (pss_cons (ps_if (PW.pt (pw_or (pt_cmpR op_ne (pmethXK M_whole_kw hr.r passN (pv 0) (pk_cons (pv 4) (pk_cons (pv 2) pk_nil))) (pe_ix ix_list (pv 5) (pv 4) (fun _ _ => rfl)) (nomark _)) (pw_or1 (pt_cmpR op_ne (pmethXK M_level_of_kw hr.r passN (pv 0) (pk_cons (pv 2) pk_nil)) (pv 4) (nomark _))))) (pss_one (ps_ret pe_bl)) pss_nil) (pss_one (ps_ret (pe_and (pe_cmpR (op_eqD hr.r.units) (pmethXK M_counts_kw hr.r passN (pv 0) (pk_cons (pv 2) pk_nil)) (pv 3) (nomark _)) (pe_one (pcallG D__law_pieces_right hr (pa_cons (pv 0) (pa_cons (pv 1) (pa_cons (pv 2) (pa_cons (pv 3) pa_nil))))))))))))))), ?_⟩)
  · obtain ⟨p, o, ns, n, rfl, _⟩ := h
    rfl
  · obtain ⟨p, o, ns, n, rfl, hz, g, hO, n1, n2, q⟩ := h
    have l8 := g.len
    have sl : sizeLine = 16777216 := sizeLine_eq
    have n0 : 0 ≤ n := by omega
    have ch := chain g
    obtain ⟨k, lv⟩ := lv_ex ch n1 ns.length (Nat.le_refl _) (fun i a b => by omega)
    obtain ⟨dx, l, h1, h2⟩ := id hz
    refine ⟨_, rfl, _, rfl, o, ns, n, rfl, hO, g, fun d G hd s0 hD => ?_⟩
    refine ⟨_, rfl, o, _, rfl, .inl (SqL.of (s0 _ _ hO)), _, rfl, (by simp only [List.length_map]; omega), (by simp only [List.length_map]; omega), fun B hB => ?_⟩
    refine lc_range (fun i G' => (∃ ms : List Int, G' B = some (.lst (ms.map V.int)) ∧ ms.length ≤ i ∧ (∀ x ∈ ms, ∃ j : Nat, x = (j : Int) ∧ j < ns.length ∧ 0 < M13.cnt (sz ns) ns.length n j) ∧ (k < i → (k : Int) ∈ ms)) ∧ Same G G') ⟨⟨[], upd_same, Nat.le_refl _, fun x hx => absurd hx List.not_mem_nil, fun z => absurd z (Nat.not_lt_zero _)⟩, same_upd hB⟩ ?_ ?_
    · rintro i G' hi ⟨⟨ms, hG, ml, m1, m2⟩, sm⟩
      rw [List.length_map, Int.toNat_natCast] at hi
      rw [Int.zero_add]
      refine ⟨rfl, _, rfl, _, rfl, d, _, _, _, rfl, rfl, SqL.of (sm _ _ hD), at_map (cnts_at hi), _, _, rfl, rfl, _, rfl, ?_⟩
      have smB : ∀ G'' : Hp, Same G (upd G' B (.lst (ms.map V.int ++ [V.int (i : Nat)]))) := fun _ c u e => by
        rw [upd_ne (ne_of_none e hB)]
        exact sm c u e
      by_cases hc : M13.cnt (sz ns) ns.length n i > 0
      · refine ifT (decide_eq_true hc) ⟨_, rfl, _, hG, (by rw [List.length_map]; omega), ⟨ms ++ [(i : Int)], ?_, ?_, fun x hx => ?_, fun z => ?_⟩, smB G'⟩
        · rw [upd_same, List.map_append]
          rfl
        · rw [List.length_append]
          show _ + 1 ≤ _
          omega
        · rcases List.mem_append.mp hx with z | z
          · exact m1 x z
          · exact ⟨i, List.mem_singleton.mp z, hi, hc⟩
        · by_cases e : k = i
          · rw [e]
            exact List.mem_append_right _ (List.mem_singleton.mpr rfl)
          · exact List.mem_append_left _ (m2 (by omega))
      · refine ifF (decide_eq_false hc) ⟨⟨ms, hG, by omega, m1, fun z => ?_⟩, sm⟩
        by_cases e : k = i
        · have := M13.lv_pos ch n0 lv
          rw [e] at this
          omega
        · exact m2 (by omega)
    · rintro G1 ⟨⟨ms, hG, ml, m1, m2⟩, s1⟩
      rw [List.length_map, Int.toNat_natCast] at m2
      have km := m2 lv.1
      refine ⟨B, ms, rfl, SqL.of hG, List.length_pos_of_mem km, fun m hm mx => ?_⟩
      have em : m = (k : Int) := by
        obtain ⟨j, rfl, j1, j2⟩ := m1 m hm
        have := mx _ km
        by_cases z : k < j
        · have := M13.lv_high ch n0 lv z j1
          omega
        · omega
      subst em
      have s01 := s0.trans s1
      have hO1 := s01 _ _ hO
      have hD1 := s1 _ _ hD
      refine ⟨_, rfl, o, _, rfl, .inl (SqL.of hO1), _, rfl, (by simp only [List.length_map]; omega), (by simp only [List.length_map]; omega), fun W hW => ?_⟩
      refine lc_range (fun i G' => G' W = some (.lst (((wholes ns n).take i).map V.int)) ∧ Same G1 G') ⟨upd_same, same_upd hW⟩ ?_ ?_
      · rintro i G' hi ⟨hG', sm⟩
        rw [List.length_map, Int.toNat_natCast] at hi
        rw [Int.zero_add]
        refine ⟨rfl, _, rfl, _, rfl, o, _, rfl, .inl (SqL.of (sm _ _ hO1)), _, _, rfl, ⟨by omega, by omega, by omega, by simp only [List.length_map]; omega⟩, fun D2 hD2 => ?_⟩
        rw [List.length_map, show ((ns.length : Int) - (i : Nat)).toNat = ns.length - i by omega]
        refine lc_range (fun j G3 => G3 D2 = some (.lst ((prods ns n i j).map V.int)) ∧ Same G' G3) ⟨upd_same, same_upd hD2⟩ ?_ ?_
        · rintro j G3 hj ⟨hG3, s3⟩
          rw [show ((i : Nat) : Int) + (j : Nat) = ((i + j : Nat) : Int) by omega]
          have ij : i + j < ns.length := by omega
          have z2 := sz_le g ij
          have z1 := ch.pos _ ij
          refine ⟨rfl, _, rfl, _, rfl, d, _, _, _, rfl, rfl, SqL.of (s3 _ _ (sm _ _ hD1)), at_map (cnts_at ij), _, rfl, _, rfl, o, _, _, _, rfl, rfl, SqL.of (s3 _ _ (sm _ _ hO1)), at_sz ij, _, _, rfl, rfl, .inr ⟨by omega, by omega⟩, _, hG3, ?_, ?_, fun c u e => ?_⟩
          · unfold prods
            rw [List.length_map, List.length_map, List.length_range]
            omega
          · rw [upd_same, ← prods_more, List.map_append]
            rfl
          · rw [upd_ne (ne_of_none e hD2)]
            exact s3 c u e
        · rintro G3 ⟨hG3, s3⟩
          refine ⟨D2, _, rfl, SqL.of hG3, _, s3 _ _ hG', (by rw [List.length_map, List.length_take, wholes_len]; omega), ?_, fun c u e => ?_⟩
          · rw [upd_same, prods_all g n hi, take_at (wholes_at hi), List.map_append]
            rfl
          · rw [upd_ne (ne_of_none e hW)]
            exact s3 c u (sm c u e)
      · rintro G2 ⟨hWa, s2⟩
        rw [List.length_map, Int.toNat_natCast, ← wholes_len ns n, List.take_length] at hWa
        have s02 := s01.trans s2
        have ec : cellsB (.int n) = true := decide_eq_true ⟨n1, n2⟩
        have ic : ∀ v ∈ cnts ns n, -(10 ^ 39) ≤ v ∧ v ≤ 10 ^ 39 := fun v hv => by
          obtain ⟨j, hj⟩ := List.getElem?_of_mem hv
          have jl : j < ns.length := by rw [← cnts_len ns n]; exact (List.getElem?_eq_some_iff.mp hj).1
          rw [cnts_at jl] at hj
          have ev := Option.some.inj hj
          have c0 := M13.cnt_nn ch n0 jl
          have c1 := M13.cnt_mul ch n jl
          have r1 := M13.rest_le ch n0 j
          have p1 := ch.pos _ jl
          have e0 := Int.emod_nonneg n (show sz ns j ≠ 0 by omega)
          have c2 := Int.mul_le_mul_of_nonneg_left p1 c0
          have b39 : (10 : Int) ^ 39 = 1000000000000000000000000000000000000000 := by decide
          omega
        refine ⟨2, rfl, by decide, by decide, ?_⟩
        have uniq : ∀ k', M13.IsLv (sz ns) ns.length n k' → k' = k := fun k' lv' => by
          by_cases a1 : k < k'
          · have := lv.2.2 k' a1 lv'.1
            have := lv'.2.1
            omega
          · by_cases a2 : k' < k
            · have := lv'.2.2 k a2 lv.1
              have := lv.2.1
              omega
            · omega
        have no : ¬ cellsB (.int n) = false := fun z => by
          rw [ec] at z
          cases z
        have kb : -(10 ^ 39) ≤ ((k : Nat) : Int) ∧ ((k : Nat) : Int) ≤ 10 ^ 39 := by
          have b39 : (10 : Int) ^ 39 = 1000000000000000000000000000000000000000 := by decide
          have := lv.1
          omega
        refine for_range (fun i σ G' => Same G2 G' ∧ ∃ x y : Option V, σ = [some (.ref p), some (.ref o), some (.int n), some (.ref d), some (.int (k : Nat)), some (.ref W), x, y, none, none]) ⟨Same.refl _, none, none, rfl⟩ ?_ ?_
        · rintro i σ G3 hi ⟨s3, x, y, rfl⟩
          have sA := s02.trans s3
          have z3 := hz.same sA
          refine ⟨_, rfl, p, dx, _, rfl, sA _ _ h1, szF_no l (by decide +kernel), _, rfl, p, ns, .int n, rfl, z3, g, .int n, fun n' a G4 en _ ha s4 hA => ?_, fun z => (no z).elim⟩
          cases en
          have hD4 := s4 _ _ (s3 _ _ (s2 _ _ hD1))
          have t1 := tq_ints (K := K) ic (by rw [cnts_len]; omega) hA
          have t2 := tq_ints (K := K) ic (by rw [cnts_len]; omega) hD4
          refine ⟨_, rfl, _, _, rfl, t1.dq, t1.sh, Nat.le_trans t1.dp (by decide), Nat.le_trans t1.ln (by decide), _, rfl, _, _, rfl, t2.dq, t2.sh, Nat.le_trans t2.dp (by decide), Nat.le_trans t2.ln (by decide), rfl, _, rfl, ifF (by rw [decide_eq_true rfl]; rfl) ?_⟩
          refine ⟨_, rfl, p, dx, _, rfl, s4 _ _ (sA _ _ h1), szF_no l (by decide +kernel), _, rfl, p, ns, .int n, rfl, z3.same s4, g, .int n, fun n' k' en _ lv' => ?_, fun z => (no z).elim⟩
          cases en
          obtain rfl := uniq k' lv'
          have t3 := tq_int (K := K) (H := G4) kb.1 kb.2
          refine ⟨_, _, rfl, t3.dq, t3.sh, Nat.le_trans t3.dp (by decide), Nat.le_trans t3.ln (by decide), _, rfl, _, _, rfl, t3.dq, t3.sh, Nat.le_trans t3.dp (by decide), Nat.le_trans t3.ln (by decide), rfl, _, rfl, ifF (by rw [decide_eq_true rfl]; rfl) ?_⟩
          refine ⟨_, rfl, .inl ⟨rfl, _, SqL.of hA⟩, a, _, rfl, rfl, hA, ?_⟩
          refine ⟨_, rfl, .inl ⟨rfl, _, SqL.of upd_same⟩, a, _, _, rfl, rfl, upd_same, ?_, fun c u e => ?_, _, _, rfl⟩
          · rw [List.length_reverse, List.length_map, cnts_len]
            omega
          · rw [upd_ne (ne_of_none (s3 _ _ e) ha), upd_ne (ne_of_none (s3 _ _ e) ha)]
            exact s4 _ _ (s3 _ _ e)
        · rintro σ G3 ⟨s3, x, y, rfl⟩
          have sA := s02.trans s3
          have z3 := hz.same sA
          have hO3 := sA _ _ hO
          have hW3 := s3 _ _ hWa
          refine ⟨_, rfl, o, _, rfl, .inl (SqL.of hO3), _, rfl, (by simp only [List.length_map]; omega), (by simp only [List.length_map]; omega), fun D hDD => ?_⟩
          refine lc_range (fun i G' => G' D = some (.lst (((wholes ns n).take i).map V.int)) ∧ Same G3 G') ⟨upd_same, same_upd hDD⟩ ?_ ?_
          · rintro i G' hi ⟨hG', sm⟩
            rw [List.length_map, Int.toNat_natCast] at hi
            rw [Int.zero_add]
            refine ⟨rfl, _, rfl, p, dx, _, rfl, sm _ _ (sA _ _ h1), szF_no l (by decide +kernel), _, rfl, _, rfl, p, ns, .int n, .int (i : Nat), rfl, z3.same sm, g, .int n, .int _, fun n' i' en _ ei hi' => ?_, fun z => (no z).elim, fun z => ?_⟩
            · cases en
              obtain rfl : i = i' := by
                have := V.int.inj ei
                omega
              refine ⟨_, hG', (by rw [List.length_map, List.length_take, wholes_len]; omega), ?_, fun c u e => ?_⟩
              · rw [upd_same, take_at (wholes_at hi), List.map_append]
                rfl
              · rw [upd_ne (ne_of_none e hDD)]
                exact sm c u e
            · rw [lv_of hi] at z
              cases z
          · rintro G4 ⟨hG4, s4⟩
            rw [List.length_map, Int.toNat_natCast, ← wholes_len ns n, List.take_length] at hG4
            have iw : ∀ v ∈ wholes ns n, -(10 ^ 39) ≤ v ∧ v ≤ 10 ^ 39 := fun v hv => by
              obtain ⟨j, hj⟩ := List.getElem?_of_mem hv
              have jl : j < ns.length := by rw [← wholes_len ns n]; exact (List.getElem?_eq_some_iff.mp hj).1
              rw [wholes_at jl] at hj
              have ev := Option.some.inj hj
              have p1 := ch.pos _ jl
              have p2 := sz_le g jl
              have e0 := Int.emod_nonneg n (show sz ns j ≠ 0 by omega)
              have e1 := Int.emod_lt_of_pos n (show 0 < sz ns j by omega)
              have b39 : (10 : Int) ^ 39 = 1000000000000000000000000000000000000000 := by decide
              omega
            have hW4 := s4 _ _ hW3
            have sB := sA.trans s4
            have z4 := hz.same sB
            have t1 := tq_ints (K := K) iw (by rw [wholes_len]; omega) hG4
            have t2 := tq_ints (K := K) iw (by rw [wholes_len]; omega) hW4
            refine ⟨_, _, rfl, t1.dq, t1.sh, Nat.le_trans t1.dp (by decide), Nat.le_trans t1.ln (by decide), _, rfl, _, _, rfl, t2.dq, t2.sh, Nat.le_trans t2.dp (by decide), Nat.le_trans t2.ln (by decide), rfl, _, rfl, ifF (by rw [decide_eq_true rfl]; rfl) ?_⟩
            refine ⟨_, rfl, p, dx, _, rfl, sB _ _ h1, szF_no l (by decide +kernel), _, rfl, _, rfl, rfl, p, ns, .int n, .int (k : Nat), rfl, z4, g, .int n, .int _, fun n' i' en _ ei hi' => ?_, fun z => (no z).elim, fun z => ?_⟩
            · cases en
              obtain rfl : k = i' := by
                have := V.int.inj ei
                omega
              refine ⟨_, rfl, _, rfl, W, _, _, _, rfl, rfl, SqL.of hW4, at_map (wholes_at lv.1), rfl, _, rfl, ifF (by rw [decide_eq_true rfl]; rfl) ?_⟩
              refine ⟨_, rfl, p, dx, _, rfl, sB _ _ h1, szF_no l (by decide +kernel), _, rfl, rfl, p, ns, .int n, rfl, z4, g, .int n, fun n' k' en _ lv' => ?_, fun z => (no z).elim⟩
              cases en
              obtain rfl := uniq k' lv'
              refine ⟨_, rfl, rfl, _, rfl, ifF (by rw [decide_eq_true rfl]; rfl) ?_⟩
              refine ⟨_, rfl, p, dx, _, rfl, sB _ _ h1, szF_no l (by decide +kernel), _, rfl, rfl, p, ns, .int n, rfl, z4, g, .int n, fun n' a G5 en _ ha s5 hA => ?_, fun z => (no z).elim⟩
              cases en
              have hD5 := s5 _ _ (s4 _ _ (s3 _ _ (s2 _ _ hD1)))
              refine ⟨_, rfl, _, _, .lst (SqL.of hA) (dp_ints _), .lst (SqL.of hD5) (dp_ints _), shaped_ints _, shaped_ints _, _, rfl, ?_⟩
              rw [SeqAt.eqv_refl (.list ((cnts ns n).map PyData.int)) (can_lay _)]
              have sC := sB.trans s5
              exact iteT ⟨_, rfl, _, rfl, _, rfl, _, rfl, p, o, d, ns, n, rfl, hz.same sC, g, sC _ _ hO, hD5, n1, n2, fun G6 s6 => q _ (sC.trans s6)⟩
            · rw [lv_of lv.1] at z
              cases z
end
end K13

set_option Elab.async false
set_option linter.all false
set_option maxRecDepth 100000
set_option maxHeartbeats 4000000
/-! Own layer: a lambda handed to a def that calls it in a try's body and goes on behind the except clauses: what is wished of an error may depend on the def's own names. -/
namespace Ex
open PySem PySem.Spec PySem.Calls PyProof.Rows L2 Gu LamX
section
variable {X : Cx} {pins : List (Addr × Obj)} {σ : L2.St} {H : Hp} {s : Shared}
theorem act_at {CXg : CXT} {Eg : XK} {Ng : List Str} {qg : Str} {sg : Scope} {g f c' : Addr} {cdg pm ctv : Value} {params : Arguments} {body : Expr} {scope : Scope} {k i : Nat} {a : Str} {pn : List (Addr × Obj)} {xe : Value → Shared → Prop} {W : WX} {t : XK → TE} {p1 p2 : Pos}
    (I : Inv X pins σ H s) (L : LamS X.env.scope scope) (hf : s.heap.get? f = some (PySem.W.kla_obj "<lambda>" (X.env.qual ++ "<lambda>") params body scope (cloFrom X.env.cells scope.names []) pm c' ctv)) (hfn : H f = none) (hfr : f ∉ frs X.stack)
    (hbind : bindArgs (PySem.W.kla_fn "<lambda>" (X.env.qual ++ "<lambda>") params body scope (cloFrom X.env.cells scope.names []) pm (.ref c') ctv) ⟨[], []⟩ = pure [])
    (tk : Takes ((cxOf CXg X.prog X.w X.K X.mg X.base Ng qg sg g cdg X.A X.stack s H Eg).tr pn xe) W) (hr : Room (k + 1) (X.A.deeper (envOfC qg sg s.heap.objs.size g cdg)))
    (hbody : ∀ (A : Around) (outer : List Env) (s : Shared) (H : Hp) (E : XK), Room k (A.deeper (lamEnv X scope s.heap.objs.size f c')) → PE (lamCx X A outer s H E scope f c') body (t E))
    (hN : Ng[i]? = some a) (hv : Vis sg a) (hd : (a == ("__debug__" : Str)) = false := by decide) (hcd : (a == ("__classdict__" : Str)) = false := by decide) :
    PE ((cxOf CXg X.prog X.w X.K X.mg X.base Ng qg sg g cdg X.A X.stack s H Eg).tr pn xe) (.Call (.Name a p1) [] [] p2)
      (fun σZ HZ Q => σZ[i]? = some (some (.ref f)) ∧ HZ c' = some (CodeO c' (X.env.qual ++ "<lambda>")) ∧ t (WE W σZ) σ HZ Q) := by
  refine ⟨fun pz sz σZ HZ Q IZ ⟨h1, h2, h3⟩ => wpAny_Call_Name_kw (thn ((pe_var (pos := p1) (i := i) hN hv hd hcd).run pz sz σZ HZ (fun v H1 => v = .ref f ∧ H1 = HZ) IZ ⟨.ref f, h1, rfl, rfl⟩) fun u s1 ⟨v, H1, I1, r1, ev, eH⟩ => ?_)⟩
  subst ev
  rw [eH] at I1
  obtain rfl : u = Value.ref f := r1
  have of1 : s1.heap.get? f = some (PySem.W.kla_obj "<lambda>" (X.env.qual ++ "<lambda>") params body scope (cloFrom X.env.cells scope.names []) pm c' ctv) := I1.base.keep f _ hf hfn hfr (fun z => nomatch (show f ∈ ([] : List Addr) from z))
  have un : Un (frs X.stack) [] H HZ s.heap s1.heap := I1.base
  obtain ⟨⟨oc, vs, tt, hoc, hdc, hvc⟩, _, _⟩ := I1.hok c' _ h2
  refine PySem.W.callWith_F0 ⟨_, _, _, _, of1⟩ ?_
  have rc : codeAny (model X.prog X.w) (X.A.deeper (envOfC qg sg s.heap.objs.size g cdg)) (.call (.ref f) ⟨[], []⟩) (CR (L2.CX X.prog X.w) (envOfC qg sg s.heap.objs.size g cdg :: X.stack) X.prog X.w HZ s1 Q (WE W σZ)) s1 := by
    refine PySem.W.kla_callFunE hr.depth of1 rfl L.co L.gen rfl ⟨c', oc, vs, tt, rfl, hoc, hdc, hvc⟩ ?_
    rw [hbind]
    refine wpAny_pure (wpAny_newFunctionEnv (fun y hy => (L.own y hy).2) (fun y hy => absurd hy List.not_mem_nil) (fun h2 hns hsb => ⟨I1.nolimit.fresh _ hsb, ?_⟩) L.kind)
    show codeAny _ _ (.expr body (lamEnv X scope s1.heap.objs.size f c')) _ _
    have kp : ∀ b o, s1.heap.get? b = some o → h2.get? b = some o := fun b o e => hsb.extBut b o (Nat.ne_of_lt (Heap.lt_size e)) (Heap.get?_push_of_some _ e)
    have J : Inv (lamCx X (X.A.deeper (envOfC qg sg s.heap.objs.size g cdg)) (envOfC qg sg s.heap.objs.size g cdg :: X.stack) s1 HZ (WE W σZ) scope f c') [] σ HZ { s1 with heap := h2, toks := s1.toks + ([] : List (Str × Value)).length } := lam_start2 I L I1.env0 hr.hd un hns kp
    refine PySem.W.kla_codeExpr (wpAny_mono ((hbody _ _ s1 HZ (WE W σZ) (hr.deeper _)).run [] _ _ HZ Q J h3) (fun v s' hq => ?_) fun e s' hq => hq)
    obtain ⟨w', H', J', rv, q⟩ := hq
    exact ⟨w', H', J'.os, J'.bare, J'.base, J'.hok, rv, q⟩
  refine wpAny_call (codeAny_mono rc fun r s' hq => ?_)
  match r, hq with
  | .error e, hq => exact passAt tk σZ pz HZ s1 e s' I1 hq
  | .ok (.ret u), hq => exact I1.after hq
end
/-- the def that calls what it got under the name a: TT is what it makes of the lambda's reading -/
def GivesAt (X : Cx) (Ng : List Str) (x : Str) (sg : Scope) (g : Addr) (cdg : Value) (bg : List Stmt) (a q : Str) (TT : (XK → Hp → VK → Prop) → Hp → VK → Prop) : Prop :=
  ∀ (f c' : Addr) (s : Shared) (H : Hp) (Q : VK) (tl : XK → Hp → VK → Prop),
    (∀ (W : WX) (pn : List (Addr × Obj)) (xe : Value → Shared → Prop) (p1 p2 : Pos), Takes ((cxOf CX0 X.prog X.w X.K X.mg X.base Ng x sg g cdg X.A X.stack s H E0).tr pn xe) W →
      PE ((cxOf CX0 X.prog X.w X.K X.mg X.base Ng x sg g cdg X.A X.stack s H E0).tr pn xe) (.Call (.Name a p1) [] [] p2) (fun σZ HZ Q => σZ[0]? = some (some (.ref f)) ∧ HZ c' = some (CodeO c' q) ∧ tl (WE W σZ) HZ Q)) →
    H c' = some (CodeO c' q) → TT tl H Q → ∃ t, PSs (cxOf CX0 X.prog X.w X.K X.mg X.base Ng x sg g cdg X.A X.stack s H E0).nox bg t ∧ t { nx := fun _ H' => Q .non H', rt := Q } (L2.start Ng [.ref f]) H
section
variable {X : Cx}
/-- x(lambda: body) -/
theorem pe_lamgive {T : List (Addr × Str)} {TT : (XK → Hp → VK → Prop) → Hp → VK → Prop} {x a : Str} {g c P : Addr} {k : Nat} {pg : Arguments} {bg : List Stmt} {sg : Scope} {fd : FuncData} {Ng : List Str}
    {params : Arguments} {body : Expr} {scope : Scope} {t : XK → TE} {p lpos pos : Pos} (F : FunD X.K x x pg bg sg [] [] g fd) (hg : Gl X x) (hm : X.mg x = some (.ref g)) (hb : L2.Binds X.K fd [a] []) (Sg : FnScope Ng [a] sg) (hNg : Ng[0]? = some a) (hva : Vis sg a)
    (hG : ∀ cdg : Value, GivesAt X Ng x sg g cdg bg a (X.env.qual ++ "<lambda>") TT) (TB : TabB X.base X.mg c P) (hcode : X.env.code = .ref c) (hmT : (P, X.env.qual ++ "<lambda>") ∈ T) (hu : ∀ p ∈ T, p.1 = P → p.2 = X.env.qual ++ "<lambda>") (hr : Room (k + 2) X.A)
    (L : LamS X.env.scope scope) (hdef : defaultsOf params X.env = ([], [])) (hbind : ∀ (q : Str) (cl : List (Str × Addr)) (pm cv ctv : Value), bindArgs (PySem.W.kla_fn "<lambda>" q params body scope cl pm cv ctv) ⟨[], []⟩ = pure [])
    (hbody : ∀ (A : Around) (outer : List Env) (s : Shared) (H : Hp) (E : XK) (f c' : Addr), Room k (A.deeper (lamEnv X scope s.heap.objs.size f c')) → PE (lamCx X A outer s H E scope f c') body (t E))
    (hdb : (x == ("__debug__" : Str)) = false := by decide) (hd : (a == ("__debug__" : Str)) = false := by decide) (hcd : (a == ("__classdict__" : Str)) = false := by decide) :
    PE X (.Call (.Name x p) [.Lambda params body scope lpos] [] pos) (tLam T TT t) := by
  obtain ⟨oc, od, dV, kV, doc, pm, an, cdv, ct, osl, rfl, lk, hcg, _, _⟩ := F.ex
  refine ⟨fun pins s σ H Q I ⟨hT, h⟩ => wpAny_Call_Name_kw (ld_glob I hg hm (PySem.W.callWith_K (h₀ := X.base) I.ok.mod.kin F.kp ?_ (by rfl) (by rfl)) hdb)⟩
  show wpAny _ _ (spliced ((false, eval (.Lambda params body scope lpos) X.env) :: backTo pos (starEach [] X.env))) _ _ s
  refine Calls.spliced_cons (lam_make2 I TB hcode hmT hu hT hdef (L.has I.ok) fun f c' pm' ctv H1 s' I1 eN T1 hf hfn hfr hco => Calls.spliced_nil ⟨I1.kIn, ?_⟩)
  have rc : codeAny (model X.prog X.w) X.A (.call (.ref g) ⟨[.ref f], []⟩) (CR CX0 X.stack X.prog X.w H1 s' Q E0) s' := by
    refine run_ofS (N := Ng) (ps := [a]) (us := [.ref f]) (vs := [.ref f]) lk hcg Sg hr I1.env0 (hb s' [.ref f] I1.kIn rfl) (.cons rfl .nil) rfl fun hr' => ?_
    obtain ⟨t', ht', hq'⟩ := hG cdv f c' s' H1 Q (fun E H' Q' => t E σ H' Q') (fun W pn xe p1 p2 tk => act_at (i := 0) I1 L hf hfn hfr (hbind _ _ _ _ _) tk hr' (fun A outer s H E hr2 => hbody A outer s H E f c' hr2) hNg hva hd hcd) hco (h H1 eN T1)
    exact ⟨t', ht'.nox, hq'⟩
  refine wpAny_call (codeAny_mono rc fun r s2 hq => ?_)
  match r, hq with
  | .ok (.ret u), hq => exact I1.after hq
end
end Ex

set_option Elab.async false
set_option linter.all false
set_option maxRecDepth 100000
set_option maxHeartbeats 4000000
namespace K13
open PySem PySem.Spec PyProof.Rows L2 Gu Ex LamX
/-- what refused makes of a lambda that raises an error of C with the value b -/
def TTref (C : Addr) (wd : Str) (b : Bool) : (XK → Hp → VK → Prop) → Hp → VK → Prop := fun tl H Q =>
  (∀ (H1 : Hp) (E : XK) (N : VK), Same H H1 → (∀ d H2, H1 d = none → Same H1 H2 → H2 d = some (.xd [("value", .bl b)]) → E (.ref C) (some d) H2) → tl E H1 N) ∧ ∀ H3, Same H H3 → Q (.str (PyData.list [.str wd, .bool b]).shown) H3
def t_ref (C : Addr) (wd : Str) (a : Addr) (cls : Value) (d : Option Addr) : TS := tAsg (tLst (tCons (tC (.str wd)) (tCons (tXf a cls d C "value" (tVar 2)) tNil))) (gName 1)
theorem sc__law_refused : FnScope ["_law_call", "_law_told_here", "e"] ["_law_call"] (defScope (top 26)) := ⟨rfl, rfl, rfl, by decide +kernel, rfl, by decide +kernel, by decide +kernel⟩
theorem refused_gives {X : Cx} {k : Nat} (T : Tx X.K X.mg) (hr : RoomG (k + 1) X.A) {g C : Addr} {cdg : Value} {q wd : Str} {b : Bool} (hC : (C = cN X.K ∧ wd = "number") ∨ (C = cL X.K ∧ wd = "level")) :
    GivesAt X ["_law_call", "_law_told_here", "e"] "_law_refused" (defScope (top 26)) g cdg (defBody (top 26)) "_law_call" q (TTref C wd b) := by
  intro f c' s H Q tl act hc ⟨h1, h2⟩
  refine ⟨_, pss_cons (ps_set (i := 1) sc__law_refused.nd rfl (Or.inl rfl) (pe_lst (pa_cons pe_str pa_nil)))
    (pss_cons (ps_try_asAll (X := (cxOf CX0 X.prog X.w X.K X.mg X.base ["_law_call", "_law_told_here", "e"] "_law_refused" (defScope (top 26)) g cdg X.A X.stack s H E0).nox) (i := 2) (n := "e")
        (tb := fun W => tDrop (fun σZ HZ Q => σZ[0]? = some (some (.ref f)) ∧ HZ c' = some (CodeO c' q) ∧ tl (WE W σZ) HZ Q)) (l := [(.ref (cN X.K), t_ref (cN X.K) "number"), (.ref (cL X.K), t_ref (cL X.K) "level")]) (Wout := fun _ _ _ _ => False)
        rfl rfl sc__law_refused.nd rfl rfl LamX.takes0 (fun W pn xe tk _ => pss_one (ps_expr (by exact (act W pn xe _ _ tk))))
        (.cons ⟨rfl, by decide, Or.inl T.g_InvalidNumber⟩ (fun a oe cls d pn hz hf => pss_one (ps_set (i := 1) sc__law_refused.nd rfl (Or.inl rfl) (by exact (pe_lst (pa_cons pe_str (pa_cons (by exact (pe_xf T.eN.xf T.eN.no hz hf (pv 2))) pa_nil))))))
        (.cons ⟨rfl, by decide, Or.inl T.g_InvalidLevel⟩ (fun a oe cls d pn hz hf => pss_one (ps_set (i := 1) sc__law_refused.nd rfl (Or.inl rfl) (by exact (pe_lst (pa_cons pe_str (pa_cons (by exact (pe_xf T.eL.xf T.eL.no hz hf (pv 2))) pa_nil)))))) .nil)))
    (pss_one (ps_ret (pe_callB (call_reprQ (hr.down _) T.sys) (by rfl) T.n_repr (by decide +kernel) (pa_cons (pv 1) pa_nil))))), ?_⟩
  refine ⟨(by show 1 ≤ sizeLine; decide), fun l hl => ?_⟩
  have sl : Same H (upd H l (.lst [.str "returned"])) := same_upd hl
  have fin : ∀ (G : Hp) (r : Addr), Same H G → G r = some (.lst [.str wd, .bl b]) → rReprQ X.K [.ref r] G Q := fun G r sg hr2 => by
    have hw : (reprText wd).length ≤ 41 := by
      rcases hC with ⟨_, rfl⟩ | ⟨_, rfl⟩ <;> decide +kernel
    have t1 : Tq X.K G (.ref r) (.list [.str wd, .bool b]) 1 100 := ((tqa_cons (n := 0) (m := 41) ⟨.str _, rfl, Nat.le_refl _, hw⟩ (tqa_cons (tq_bl b) tqa_nil)).lst hr2).mono (Nat.le_refl _) (by show 2 * (41 + 2) + 3 ≤ 100; decide)
    exact ⟨_, _, rfl, t1.dq, t1.sh, Nat.le_trans t1.dp (by decide), Nat.le_trans t1.ln (by decide), h2 G sg⟩
  refine ⟨rfl, sl _ _ hc, h1 _ _ _ sl fun d H2 hd s2 hx => ?_⟩
  rcases hC with ⟨rfl, rfl⟩ | ⟨rfl, rfl⟩
  · refine ⟨true, T.eN.em, fun _ a0 ha0 => ?_, fun zz => Bool.noConfusion zz⟩
    refine ⟨_, rfl, rfl, rfl, d, _, .bl b, rfl, hx, (by simp [List.lookup]), (by show 2 ≤ sizeLine; decide), fun r hr2 => ?_⟩
    exact ⟨_, rfl, fin _ r ((sl.trans s2).trans (same_upd hr2)) upd_same⟩
  · refine ⟨false, T.emL, fun zz => Bool.noConfusion zz, fun _ => ⟨true, T.eL.em, fun _ a0 ha0 => ?_, fun zz => Bool.noConfusion zz⟩⟩
    refine ⟨_, rfl, rfl, rfl, d, _, .bl b, rfl, hx, (by simp [List.lookup]), (by show 2 ≤ sizeLine; decide), fun r hr2 => ?_⟩
    exact ⟨_, rfl, fin _ r ((sl.trans s2).trans (same_upd hr2)) upd_same⟩
end K13

set_option Elab.async false
set_option linter.all false
set_option maxRecDepth 100000
set_option maxHeartbeats 4000000
namespace K13
open PySem PySem.Spec PyProof.Rows L2 Gu Ex LamX
/-- the table of the code object whose lambdas are made -/
def tabs (K : PySem.W.Frag) (Pt : Addr) : List (Addr × Str) := [(Pt, "_law_truths_right.<locals>.<lambda>")]
theorem ins_tbl {C dx : Addr} {fs : List (Str × V)} (ps : Array Value) : HO.ins C dx fs ≠ .tbl ps := fun z => by cases z
theorem lst_tbl {xs : List V} (ps : Array Value) : HO.lst xs ≠ .tbl ps := fun z => by cases z
theorem SzAt.extN {C p : Addr} {H H' : Hp} {ns : List Int} (h : SzAt C H p ns) (s : ExtN H H') : SzAt C H' p ns := by
  obtain ⟨dx, l, a, b⟩ := h
  exact ⟨dx, l, s _ _ a ins_tbl, s _ _ b lst_tbl⟩
theorem codeO_lst {c : Addr} {q : Str} {xs : List V} : CodeO c q ≠ .lst xs := fun z => by
  unfold CodeO at z
  cases z
theorem tabs_put {L : List (Addr × Str)} {H : Hp} {r : Addr} {xs ys : List V} (t : Tabs L H) (hr : H r = some (.lst xs)) : Tabs L (upd H r (.lst ys)) := fun p hp => by
  obtain ⟨ps, h1, h2, h3⟩ := t p hp
  refine ⟨ps, ?_, h2, fun pos cv hc => ?_⟩
  · rw [upd_ne (fun z => by rw [z, hr] at h1; cases h1)]
    exact h1
  · obtain ⟨c, e1, e2⟩ := h3 pos cv hc
    refine ⟨c, e1, ?_⟩
    rw [upd_ne (fun z => by rw [z, hr] at e2; exact codeO_lst (Option.some.inj e2).symm)]
    exact e2
/-- so far: the list at r holds the texts xs, all else of H but tables stands -/
structure Sof (L : List (Addr × Str)) (H G : Hp) (r : Addr) (xs : List Str) : Prop where
  ext : ExtN H G
  tab : Tabs L G
  at_ : G r = some (.lst (xs.map V.str))
  off : ∀ b o, H b = some o → (∀ ps, o ≠ .tbl ps) → b ≠ r
theorem Sof.more {L : List (Addr × Str)} {H G G1 G2 : Hp} {r : Addr} {xs : List Str} {z : Str} (s : Sof L H G r xs) (x : ExtN G G1) (t : Tabs L G1) (m : Same G1 G2) : G2 r = some (.lst (xs.map V.str)) ∧ Sof L H (upd G2 r (.lst (xs.map V.str ++ [V.str z]))) r (xs ++ [z]) := by
  have h2 := m _ _ (x _ _ s.at_ lst_tbl)
  refine ⟨h2, fun b o e n => ?_, tabs_put (t.ext m) h2, ?_, s.off⟩
  · rw [upd_ne (s.off b o e n)]
    exact m _ _ (x _ _ (s.ext b o e n) n)
  · rw [upd_same, List.map_append]
    rfl
def S1 : Str := (PyData.list [.str "number", .bool true]).shown
def S2 : Str := (PyData.list [.str "level", .bool false]).shown
theorem dp_strs {K : PySem.W.Frag} {H : Hp} : ∀ xs : List Str, DpAll K H (xs.map V.str) (xs.map PyData.str)
  | [] => .nil
  | x :: r => .cons (.str x) (dp_strs r)
section
variable {P : Program} {w : World} {K : PySem.W.Frag} {mg : Str → Option Value} {base : Heap} {f : Addr} {fd : FuncData}
def spTru (K : PySem.W.Frag) (Pt : Addr) : Sp := fun vs H Q _ => ∃ (p : Addr) (ns : List Int), vs = [.ref p] ∧ SzAt (cS K) H p ns ∧ Good ns ∧ Tabs (tabs K Pt) H ∧ ∀ H', ExtN H H' → Tabs (tabs K Pt) H' → Q (.bl true) H'
theorem sc__law_truths_right : FnScope ["_law_made", "_law_told_here"] ["_law_made"] (defScope (top 27)) := ⟨rfl, rfl, rfl, by decide +kernel, rfl, by decide +kernel, by decide +kernel⟩
theorem ok_tru {g cd Pt : Addr} {fdR : FuncData} (T : Tx K mg) (M_counts : MfX P w K mg base 5 "Sizes" "counts" ["self", "cells"] (spCounts K)) (M_pieces : MfX P w K mg base 6 "Sizes" "pieces" ["self", "cells"] (spPieces K)) (M_level_of : MfX P w K mg base 5 "Sizes" "level_of" ["self", "cells"] (spLv K))
    (M_whole : MfX P w K mg base 6 "Sizes" "whole" ["self", "cells", "level"] (spWhole K)) (FR : FnP K "_law_refused" "_law_refused" (top 26) g fdR) (gR : mg "_law_refused" = some (.ref g)) (bR : L2.Binds K fdR ["_law_call"] []) (TB : TabB base mg cd Pt)
    (F : FnP K "_law_truths_right" "_law_truths_right" (top 27) f fd) (hcd : fd.code = .ref cd) : FnG P w K mg base CX0 9 f fd ["_law_made"] (spTru K Pt) := by
  refine okGc F sc__law_truths_right (fun vs H Q E h => ?_) (fun A outer s H vs Q E hr h => ⟨_, PSs.nox (pss_cons (ps_set (i := 1) sc__law_truths_right.nd rfl (by first | exact Or.inl rfl | exact Or.inr rfl) (pe_lst (pa_cons (pe_lamgive (k := 6) (t := fun E => tMeth (cS K) "counts" (spCounts K) [] E (tVar 0) (tCons (tC (.bl true)) tNil)) (T := tabs K Pt) (P := Pt) (c := cd) (Sg := sc__law_refused) FR (by rfl) gR bR rfl (.inl rfl) (fun cdg => refused_gives (b := true) (C := cN K) (wd := "number") T hr (.inl ⟨rfl, rfl⟩)) TB hcd (List.mem_singleton.mpr rfl) (fun p hp _ => by obtain rfl := List.mem_singleton.mp hp; rfl) (hr.r.mono (by decide)) (lamS_by (sc := defScope (top 27)) (by decide +kernel)) rfl (fun _ _ _ _ _ => by rfl) (fun A2 o2 s2 H2 E2 f2 c2 hr2 => pmethX M_counts hr2 (passX (takes_of (E := E2) rfl rfl rfl rfl)) (pv 0) (pa_cons pe_bl pa_nil))) pa_nil))) (pss_cons (ps_expr (pe_bm PySem.F.plainAttrs_list PySem.F.slot_list_append PySem.F.type_list_append mt_append (pv 1) (pa_cons (pe_lamgive (k := 6) (t := fun E => tMeth (cS K) "pieces" (spPieces K) [] E (tVar 0) (tCons (tC (.bl true)) tNil)) (T := tabs K Pt) (P := Pt) (c := cd) (Sg := sc__law_refused) FR (by rfl) gR bR rfl (.inl rfl) (fun cdg => refused_gives (b := true) (C := cN K) (wd := "number") T hr (.inl ⟨rfl, rfl⟩)) TB hcd (List.mem_singleton.mpr rfl) (fun p hp _ => by obtain rfl := List.mem_singleton.mp hp; rfl) (hr.r.mono (by decide)) (lamS_by (sc := defScope (top 27)) (by decide +kernel)) rfl (fun _ _ _ _ _ => by rfl) (fun A2 o2 s2 H2 E2 f2 c2 hr2 => pmethX M_pieces hr2 (passX (takes_of (E := E2) rfl rfl rfl rfl)) (pv 0) (pa_cons pe_bl pa_nil))) pa_nil))) (pss_cons (ps_expr (pe_bm PySem.F.plainAttrs_list PySem.F.slot_list_append PySem.F.type_list_append mt_append (pv 1) (pa_cons (pe_lamgive (k := 6) (t := fun E => tMeth (cS K) "level_of" (spLv K) [] E (tVar 0) (tCons (tC (.bl true)) tNil)) (T := tabs K Pt) (P := Pt) (c := cd) (Sg := sc__law_refused) FR (by rfl) gR bR rfl (.inl rfl) (fun cdg => refused_gives (b := true) (C := cN K) (wd := "number") T hr (.inl ⟨rfl, rfl⟩)) TB hcd (List.mem_singleton.mpr rfl) (fun p hp _ => by obtain rfl := List.mem_singleton.mp hp; rfl) (hr.r.mono (by decide)) (lamS_by (sc := defScope (top 27)) (by decide +kernel)) rfl (fun _ _ _ _ _ => by rfl) (fun A2 o2 s2 H2 E2 f2 c2 hr2 => pmethX M_level_of hr2 (passX (takes_of (E := E2) rfl rfl rfl rfl)) (pv 0) (pa_cons pe_bl pa_nil))) pa_nil))) (pss_cons (ps_expr (pe_bm PySem.F.plainAttrs_list PySem.F.slot_list_append PySem.F.type_list_append mt_append (pv 1) (pa_cons (pe_lamgive (k := 6) (t := fun E => tMeth (cS K) "whole" (spWhole K) [] E (tVar 0) (tCons (tC (.bl true)) (tCons (tC (.int 0)) tNil))) (T := tabs K Pt) (P := Pt) (c := cd) (Sg := sc__law_refused) FR (by rfl) gR bR rfl (.inl rfl) (fun cdg => refused_gives (b := true) (C := cN K) (wd := "number") T hr (.inl ⟨rfl, rfl⟩)) TB hcd (List.mem_singleton.mpr rfl) (fun p hp _ => by obtain rfl := List.mem_singleton.mp hp; rfl) (hr.r.mono (by decide)) (lamS_by (sc := defScope (top 27)) (by decide +kernel)) rfl (fun _ _ _ _ _ => by rfl) (fun A2 o2 s2 H2 E2 f2 c2 hr2 => pmethX M_whole hr2 (passX (takes_of (E := E2) rfl rfl rfl rfl)) (pv 0) (pa_cons pe_bl (pa_cons pe_int pa_nil)))) pa_nil))) (pss_cons (ps_expr (pe_bm PySem.F.plainAttrs_list PySem.F.slot_list_append PySem.F.type_list_append mt_append (pv 1) (pa_cons (pe_lamgive (k := 6) (t := fun E => tMeth (cS K) "whole" (spWhole K) [] E (tVar 0) (tCons (tC (.int 1)) (tCons (tC (.bl false)) tNil))) (T := tabs K Pt) (P := Pt) (c := cd) (Sg := sc__law_refused) FR (by rfl) gR bR rfl (.inl rfl) (fun cdg => refused_gives (b := false) (C := cL K) (wd := "level") T hr (.inr ⟨rfl, rfl⟩)) TB hcd (List.mem_singleton.mpr rfl) (fun p hp _ => by obtain rfl := List.mem_singleton.mp hp; rfl) (hr.r.mono (by decide)) (lamS_by (sc := defScope (top 27)) (by decide +kernel)) rfl (fun _ _ _ _ _ => by rfl) (fun A2 o2 s2 H2 E2 f2 c2 hr2 => pmethX M_whole hr2 (passX (takes_of (E := E2) rfl rfl rfl rfl)) (pv 0) (pa_cons pe_int (pa_cons pe_bl pa_nil)))) pa_nil))) (pss_one (ps_ret (pe_cmpR (op_eqD hr.r.units) (pv 1) (pe_op op_cat (pe_op op_rep (pe_lst (pa_cons (pe_callB (call_reprQ hr T.sys) (by rfl) T.n_repr (by decide +kernel) (pa_cons (pe_lst (pa_cons pe_str (pa_cons pe_bl pa_nil))) pa_nil)) pa_nil)) pe_int) (pe_lst (pa_cons (pe_callB (call_reprQ hr T.sys) (by rfl) T.n_repr (by decide +kernel) (pa_cons (pe_lst (pa_cons pe_str (pa_cons pe_bl pa_nil))) pa_nil)) pa_nil))) (nomark _))))))))), ?_⟩)
  · obtain ⟨p, ns, rfl, _⟩ := h
    rfl
  · obtain ⟨p, ns, rfl, hz, g, tb, q⟩ := h
    obtain ⟨dx, l, h1, h2⟩ := id hz
    refine ⟨tb, fun H1 x1 tb1 => ⟨fun Ha E N sa ra => ?_, fun H2 s2 => ?_⟩⟩
    · have za := (hz.extN x1).same sa
      obtain ⟨dx, l, k1, k2⟩ := id za
      exact ⟨_, rfl, p, dx, _, rfl, k1, szF_no l (by decide +kernel), p, ns, .bl true, rfl, za, g, .bl true, (fun n a H' en => by cases en), fun _ => ra⟩
    · refine ⟨(by show 1 ≤ sizeLine; decide), fun r hr1 => ?_⟩
      have l8 := g.len
      have f1 : Sof (tabs K Pt) H (upd H2 r (.lst [V.str S1])) r [S1] := by
        have sm := s2.trans (same_upd (o := .lst [V.str S1]) hr1)
        refine ⟨x1.trans (ExtN.of sm), tb1.ext sm, upd_same, fun b o e n z => ?_⟩
        have e2 := s2 _ _ (x1 b o e n)
        rw [z, hr1] at e2
        cases e2
      refine ⟨_, rfl, .inl ⟨rfl, _, SqL.of f1.at_⟩, f1.tab, fun H11 x1 tb1 => ⟨fun Ha E N sa ra => ?_, fun H12 s1 => ?_⟩⟩
      · have za := (((hz.extN f1.ext).extN x1)).same sa
        obtain ⟨dx, l, k1, k2⟩ := id za
        exact ⟨_, rfl, p, dx, _, rfl, k1, szF_no l (by decide +kernel), p, ns, .bl true, rfl, za, g, .bl true, (fun n a H' en => by cases en), (fun _ => ra), fun n en => by cases en⟩
      obtain ⟨a1, f2⟩ := f1.more (z := S1) x1 tb1 s1
      refine ⟨r, _, _, rfl, rfl, a1, (by show 1 < sizeLine; decide), ?_⟩
      refine ⟨_, rfl, .inl ⟨rfl, _, SqL.of f2.at_⟩, f2.tab, fun H21 x2 tb2 => ⟨fun Ha E N sa ra => ?_, fun H22 s2 => ?_⟩⟩
      · have za := (((hz.extN f2.ext).extN x2)).same sa
        obtain ⟨dx, l, k1, k2⟩ := id za
        exact ⟨_, rfl, p, dx, _, rfl, k1, szF_no l (by decide +kernel), p, ns, .bl true, rfl, za, g, .bl true, (fun n k en => by cases en), fun _ => ra⟩
      obtain ⟨a2, f3⟩ := f2.more (z := S1) x2 tb2 s2
      refine ⟨r, _, _, rfl, rfl, a2, (by show 2 < sizeLine; decide), ?_⟩
      refine ⟨_, rfl, .inl ⟨rfl, _, SqL.of f3.at_⟩, f3.tab, fun H31 x3 tb3 => ⟨fun Ha E N sa ra => ?_, fun H32 s3 => ?_⟩⟩
      · have za := (((hz.extN f3.ext).extN x3)).same sa
        obtain ⟨dx, l, k1, k2⟩ := id za
        exact ⟨_, rfl, p, dx, _, rfl, k1, szF_no l (by decide +kernel), p, ns, .bl true, .int 0, rfl, za, g, .bl true, .int 0, (fun n i en => by cases en), (fun _ => ra), fun z => by rw [show lvB ns.length (.int 0) = true from decide_eq_true ⟨by omega, by omega⟩] at z; cases z⟩
      obtain ⟨a3, f4⟩ := f3.more (z := S1) x3 tb3 s3
      refine ⟨r, _, _, rfl, rfl, a3, (by show 3 < sizeLine; decide), ?_⟩
      refine ⟨_, rfl, .inl ⟨rfl, _, SqL.of f4.at_⟩, f4.tab, fun H41 x4 tb4 => ⟨fun Ha E N sa ra => ?_, fun H42 s4 => ?_⟩⟩
      · have za := (((hz.extN f4.ext).extN x4)).same sa
        obtain ⟨dx, l, k1, k2⟩ := id za
        exact ⟨_, rfl, p, dx, _, rfl, k1, szF_no l (by decide +kernel), p, ns, .int 1, .bl false, rfl, za, g, .int 1, .bl false, (fun n i en _ ei => by cases ei), (fun z => by cases z), fun _ => ra⟩
      obtain ⟨a4, f5⟩ := f4.more (z := S2) x4 tb4 s4
      refine ⟨r, _, _, rfl, rfl, a4, (by show 4 < sizeLine; decide), ?_⟩
      refine ⟨_, rfl, (by show 2 ≤ sizeLine; decide), fun u hu => ?_⟩
      have m1 := same_upd (o := .lst [V.str "number", V.bl true]) hu
      have t1 : Tq K (upd (upd H42 r (.lst ([S1, S1, S1, S1].map V.str ++ [V.str S2]))) u (.lst [V.str "number", V.bl true])) (.ref u) (.list [.str "number", .bool true]) 1 100 :=
        ((tqa_cons (n := 0) (m := 41) (tq_text "number" (by decide +kernel)) (tqa_cons (tq_bl true) tqa_nil)).lst upd_same).mono (Nat.le_refl _) (by show 2 * (41 + 2) + 3 ≤ 100; decide)
      refine ⟨_, _, rfl, t1.dq, t1.sh, Nat.le_trans t1.dp (by decide), Nat.le_trans t1.ln (by decide), (by show 1 ≤ sizeLine; decide), fun v hv => ?_⟩
      have m2 := m1.trans (same_upd (o := .lst [V.str S1]) hv)
      refine ⟨v, 4, _, rfl, rfl, upd_same, by decide, by decide, (by show 1 * 4 ≤ sizeLine; decide), fun y hy => ?_⟩
      have m3 := m2.trans (same_upd (o := .lst (List.replicate (4 : Int).toNat [V.str S1]).flatten) hy)
      refine ⟨(by show 2 ≤ sizeLine; decide), fun u2 hu2 => ?_⟩
      have m4 := m3.trans (same_upd (o := .lst [V.str "level", V.bl false]) hu2)
      have y4 := same_upd (o := .lst [V.str "level", V.bl false]) hu2 _ _ (upd_same (a := y) (o := .lst (List.replicate (4 : Int).toNat [V.str S1]).flatten))
      have tl2 : ∀ {G0 G : Hp}, Same G0 G → G u2 = some (.lst [V.str "level", V.bl false]) → Tq K G (.ref u2) (.list [.str "level", .bool false]) 1 100 := fun {G0 G} _ e =>
        ((tqa_cons (K := K) (n := 0) (m := 41) (tq_text "level" (by decide +kernel)) (tqa_cons (tq_bl false) tqa_nil)).lst e).mono (Nat.le_refl 1) (show 2 * (41 + 2) + 3 ≤ 100 by decide)
      have t2 := tl2 m4 upd_same
      refine ⟨_, _, rfl, t2.dq, t2.sh, Nat.le_trans t2.dp (by decide), Nat.le_trans t2.ln (by decide), (by show 1 ≤ sizeLine; decide), fun v2 hv2 => ?_⟩
      have m5 := m4.trans (same_upd (o := .lst [V.str S2]) hv2)
      refine ⟨y, v2, _, _, rfl, rfl, same_upd hv2 _ _ y4, upd_same, (by show 4 + 1 ≤ sizeLine; decide), fun z hzz => ?_⟩
      have m6 := m5.trans (same_upd (o := .lst ((List.replicate (4 : Int).toNat [V.str S1]).flatten ++ [V.str S2])) hzz)
      refine ⟨.list ([S1, S1, S1, S1, S2].map PyData.str), .list ([S1, S1, S1, S1, S2].map PyData.str), .lst (SqL.of (m6 _ _ f5.at_)) (dp_strs _), .lst (SqL.of upd_same) (dp_strs [S1, S1, S1, S1, S2]), (by decide +kernel), (by decide +kernel), ?_⟩
      rw [SeqAt.eqv_refl (.list ([S1, S1, S1, S1, S2].map PyData.str)) (by decide +kernel)]
      exact q _ (f5.ext.trans (ExtN.of m6)) (f5.tab.ext m6)
end
end K13

set_option Elab.async false
set_option linter.all false
set_option maxRecDepth 100000
set_option maxHeartbeats 4000000
namespace K13
open PySem PySem.Spec PyProof.Rows L2 Gu Ex LamX
theorem tabs_stp {L : List (Addr × Str)} {H H' : Hp} {r : Addr} (t : Tabs L H) (hR : Rng H r) (s : Stp r H H') : Tabs L H' := fun p hp => by
  obtain ⟨x, y, e, _⟩ := hR
  obtain ⟨ps, h1, h2, h3⟩ := t p hp
  refine ⟨ps, s.2 _ _ (fun z => by rw [z, e] at h1; cases h1) h1, h2, fun pos cv hc => ?_⟩
  obtain ⟨c, e1, e2⟩ := h3 pos cv hc
  exact ⟨c, e1, s.2 _ _ (fun z => by rw [z, e] at e2; exact codeO_lst (Option.some.inj e2).symm) e2⟩
theorem seq_extN {K : PySem.W.Frag} {H H' : Hp} {a : Addr} {xs : List V} (s : ExtN H H') (h : SqL K H a xs) : SqL K H' a xs := by
  rcases h with (h | ⟨o, h⟩) | h
  · exact .inl (.inl (s _ _ h lst_tbl))
  · exact .inl (.inr ⟨o, s _ _ h fun ps z => by cases z⟩)
  · exact .inr h
section
variable {P : Program} {w : World} {K : PySem.W.Frag} {mg : Str → Option Value} {base : Heap} {f : Addr} {fd : FuncData}
def spRight (K : PySem.W.Frag) (Pt : Addr) : Sp := fun vs H Q _ => ∃ r : Addr, vs = [.ref r] ∧ Rng H r ∧ Tabs (tabs K Pt) H ∧ ∀ H', (∀ b o, b ≠ r → H b = some o → (∀ ps, o ≠ .tbl ps) → H' b = some o) → Tabs (tabs K Pt) H' → Q (.bl true) H'
theorem sc__law_right : FnScope ["_law_rng_here", "_law_own", "_law_made", "_law_turn"] ["_law_rng_here"] (defScope (top 28)) := ⟨rfl, rfl, rfl, by decide +kernel, rfl, by decide +kernel, by decide +kernel⟩
theorem ok_right {Pt : Addr} (T : Tx K mg) (D__law_sizes : Df P w K mg base 2 "_law_sizes" ["_law_rng_here", "_law_levels", "_law_greatest"] spSizes) (D_Sizes : Kf P w K mg base 4 "Sizes" ["self", "values"] (spMade K))
    (M_all_sizes : Mf P w K mg base 1 "Sizes" "all_sizes" ["self"] (spAll K)) (D__law_number : Df P w K mg base 3 "_law_number" ["_law_rng_here", "_law_own"] spNum) (D__law_number_right : DfG P w K mg base 9 "_law_number_right" ["_law_made", "_law_own", "_law_amount"] (spNr K))
    (D__law_truths_right : DfG P w K mg base 9 "_law_truths_right" ["_law_made"] (spTru K Pt)) (F : FnP K "_law_right" "_law_right" (top 28) f fd) : FnG P w K mg base CX0 10 f fd ["_law_rng_here"] (spRight K Pt) := by
  refine okG F sc__law_right (fun vs H Q E h => ?_) (fun cdv A outer s H vs Q E hr h => ⟨_, PSs.nox (pss_cons (ps_set (i := 1) sc__law_right.nd rfl (by first | exact Or.inl rfl | exact Or.inr rfl) (pcall D__law_sizes hr.r (pa_cons (pv 0) (pa_cons pe_int (pa_cons pe_int pa_nil))))) (pss_cons (ps_set (i := 2) sc__law_right.nd rfl (by first | exact Or.inl rfl | exact Or.inr rfl) (pmake D_Sizes hr.r (pa_cons (pe_callTy call_list_of (by rfl) T.n_list (by decide +kernel) (pa_cons (pv 1) pa_nil)) pa_nil))) (pss_cons (ps_for PassesOwn.never rfl (pi_range1 rfl T.n_range (pa_cons pe_int pa_nil)) (pg_name (i := 3) sc__law_right.nd rfl (by first | exact Or.inl rfl | exact Or.inr rfl)) (pss_one (ps_if (pt_not (pt_val (pcallG D__law_number_right hr (pa_cons (pv 2) (pa_cons (pv 1) (pa_cons (pcall D__law_number hr.r (pa_cons (pv 0) (pa_cons (pv 1) pa_nil))) pa_nil)))))) (pss_one (ps_ret pe_bl)) pss_nil))) (pss_cons (ps_if (PW.pt (pw_or (pt_not (pt_val (pcallG D__law_number_right hr (pa_cons (pv 2) (pa_cons (pv 1) (pa_cons (pe_op op_pow pe_int pe_int) pa_nil)))))) (pw_or1 (pt_not (pt_val (pcallG D__law_number_right hr (pa_cons (pv 2) (pa_cons (pv 1) (pa_cons pe_int pa_nil))))))))) (pss_one (ps_ret pe_bl)) pss_nil) (pss_one (ps_ret (pe_and (pe_cmpR (op_eqD hr.r.units) (pmeth0 M_all_sizes hr.r (pv 2)) (pv 1) (nomark _)) (pe_one (pcallG D__law_truths_right hr (pa_cons (pv 2) pa_nil)))))))))), ?_⟩)
  · obtain ⟨r, rfl, _⟩ := h
    rfl
  · obtain ⟨r, rfl, hR, tb, q⟩ := h
    refine ⟨_, rfl, r, 8, 1000, rfl, hR, by decide, by decide, by decide, by decide, fun l ns H1 g hl hL s1 => ?_⟩
    refine ⟨_, rfl, l, _, rfl, .inl (SqL.of hL), fun l2 hl2 => ?_⟩
    intro x dx hx hdx ndx
    have e1 : (upd (upd (upd H1 l2 (.lst (ns.map V.int))) dx (.own x)) x (.ins (He.ga K "Sizes") dx [])) l2 = some (.lst (ns.map V.int)) := by
      rw [upd_ne (ne_of_none upd_same hx), upd_ne (ne_of_none upd_same hdx), upd_same]
    refine ⟨x, dx, l2, ns, rfl, upd_same, SqL.of e1, .base (.lst e1), g, fun l3 hl3 => ⟨rfl, ?_⟩⟩
    have x1 : H1 x = none := by
      cases e : H1 x with
      | none => rfl
      | some o => rw [upd_ne (ne_of_none e hl2), e] at hx; cases hx
    have nx3 : x ≠ l3 := ne_of_none upd_same hl3
    have nlr : l ≠ r := fun zz => (hR.ne hl) zz.symm
    have t1 : Stp r H1 (upd H1 l2 (HO.lst (ns.map V.int))) := (Stp.refl s1.1).new hl2
    have t2 := t1.new (o := HO.own x) hdx
    have t3 := t2.new (o := HO.ins (He.ga K "Sizes") dx []) (by rw [upd_ne ndx.symm]; exact hx)
    have t4 := t3.new (o := HO.lst (ns.map V.int)) hl3
    let M : Hp := upd (upd (upd (upd (upd H1 l2 (HO.lst (ns.map V.int))) dx (HO.own x)) x (HO.ins (He.ga K "Sizes") dx [])) l3 (HO.lst (ns.map V.int))) x (HO.ins (He.ga K "Sizes") dx (szF l3))
    have sM : Stp r H1 M := by
      show Stp r H1 (upd (upd (upd (upd (upd H1 l2 (HO.lst (ns.map V.int))) dx (HO.own x)) x (HO.ins (He.ga K "Sizes") dx [])) l3 (HO.lst (ns.map V.int))) x (HO.ins (He.ga K "Sizes") dx (szF l3)))
      obtain ⟨⟨a, b, ea, z⟩, kk⟩ := t4
      refine ⟨⟨a, b, by rw [upd_ne (s1.1.ne x1)]; exact ea, z⟩, fun c o n e => ?_⟩
      rw [upd_ne (ne_of_none e x1)]
      exact kk c o n e
    have n3r : l3 ≠ r := (t3.1.ne hl3).symm
    have nxr : x ≠ r := (s1.1.ne x1).symm
    have hM3 : M l3 = some (.lst (ns.map V.int)) := by
      show (upd (upd (upd (upd (upd H1 l2 (HO.lst (ns.map V.int))) dx (HO.own x)) x (HO.ins (He.ga K "Sizes") dx [])) l3 (HO.lst (ns.map V.int))) x (HO.ins (He.ga K "Sizes") dx (szF l3))) l3 = _
      rw [upd_ne nx3.symm, upd_same]
    have hMx : M x = some (.ins (He.ga K "Sizes") dx (szF l3)) := upd_same
    have sHM := s1.trans sM
    have hLM := sM.2 _ _ nlr hL
    have zM : ∀ {G : Hp}, Stp r M G → SzAt (cS K) G x ns ∧ G l = some (.lst (ns.map V.int)) := fun {G} sg => ⟨⟨dx, l3, sg.2 _ _ nxr hMx, sg.2 _ _ n3r hM3⟩, sg.2 _ _ nlr hLM⟩
    refine ⟨12, rfl, by decide, by decide, ?_⟩
    refine for_range (fun i σ G => Stp r M G ∧ ∃ y : Option V, σ = [some (.ref r), some (.ref l), some (.ref x), y]) ⟨Stp.refl sHM.1, none, rfl⟩ ?_ ?_
    · rintro i σ G hi ⟨sg, y, rfl⟩
      obtain ⟨z1, z2⟩ := zM sg
      refine ⟨_, rfl, _, rfl, _, rfl, _, rfl, r, l, ns, rfl, sg.1, z2, nlr, g, fun n G1 n1 n2 sg1 => ?_⟩
      obtain ⟨z3, z4⟩ := zM (sg.trans sg1)
      refine ⟨x, l, ns, n, rfl, z3, g, z4, n1, n2, fun G2 sm => ⟨_, rfl, iteF ⟨(sg.trans sg1).trans (Stp.same sg1.1 sm), _, rfl⟩⟩⟩
    · rintro σ G ⟨sg, y, rfl⟩
      obtain ⟨z1, z2⟩ := zM sg
      refine ⟨_, rfl, _, rfl, _, _, rfl, rfl, ⟨by decide, by decide, by decide⟩, x, l, ns, _, rfl, z1, g, z2, by decide, by decide, fun G1 sm1 => ?_⟩
      have sg1 := sg.trans (Stp.same sg.1 sm1)
      obtain ⟨z3, z4⟩ := zM sg1
      refine ⟨_, rfl, iteF ⟨_, rfl, _, rfl, x, l, ns, 1, rfl, z3, g, z4, by decide, by decide, fun G2 sm2 => ?_⟩⟩
      have sg2 := sg1.trans (Stp.same sg1.1 sm2)
      obtain ⟨z5, z6⟩ := zM sg2
      refine ⟨_, rfl, iteF ?_⟩
      obtain ⟨dx5, l5, k1, k2⟩ := id z5
      refine ⟨_, rfl, x, dx5, _, rfl, k1, szF_no l5 (by decide +kernel), x, ns, rfl, z5, fun b hb => ?_⟩
      have sb := same_upd (o := .lst (ns.map V.int)) hb
      refine ⟨_, rfl, _, _, .lst (SqL.of upd_same) (dp_ints _), .lst (SqL.of (sb _ _ z6)) (dp_ints _), shaped_ints _, shaped_ints _, _, rfl, ?_⟩
      rw [SeqAt.eqv_refl (.list (ns.map PyData.int)) (can_lay _)]
      have sg3 := sHM.trans (sg2.trans (Stp.same sg2.1 sb))
      refine iteT ⟨_, rfl, x, ns, rfl, z5.same sb, g, tabs_stp tb hR sg3, fun G3 x3 t3' => q _ (fun c o n e nt => x3 _ _ (sg3.2 c o n e) nt) t3'⟩
def spLaw (K : PySem.W.Frag) (Pt : Addr) : Sp := fun vs H Q _ => ∃ (a : Addr) (ns : List Int), vs = [.ref a] ∧ SqL K H a (ns.map V.int) ∧ ns.length ≤ 63 ∧ Tabs (tabs K Pt) H ∧ ∀ H', Q (.bl true) H'
theorem sc_law : FnScope ["_law_script", "_law_k"] ["_law_script"] (defScope (top 29)) := ⟨rfl, rfl, rfl, by decide +kernel, rfl, by decide +kernel, by decide +kernel⟩
theorem ok_law {Pt : Addr} (T : Tx K mg) (D__law_rng : Df P w K mg base 1 "_law_rng" ["_law_script", "_law_k"] (spRng K)) (D__law_right : DfG P w K mg base 10 "_law_right" ["_law_rng_here"] (spRight K Pt))
    (F : FnP K "law" "law" (top 29) f fd) : FnG P w K mg base CX0 11 f fd ["_law_script"] (spLaw K Pt) := by
  refine okG F sc_law (fun vs H Q E h => ?_) (fun cdv A outer s H vs Q E hr h => ⟨_, PSs.nox (pss_one (ps_ret (pe_callB (cr_all rfl) (by rfl) T.n_all (by decide +kernel) (pa_cons (pe_lc (own := [("_law_k", 1)]) (g := gName 1) rfl sc_law.nd (pi_range1 rfl T.n_range (pa_cons (pe_callB (call_max2 rfl) (by rfl) T.n_max (by decide +kernel) (pa_cons pe_int (pa_cons (pe_callB (call_min2 rfl) (by rfl) T.n_min (by decide +kernel) (pa_cons (pe_callB call_len_seq (by rfl) T.n_len (by decide +kernel) (pa_cons (pv 0) pa_nil)) (pa_cons pe_int pa_nil))) pa_nil))) pa_nil)) (blkOk_by (own := [("_law_k", 1)]) (N := ["_law_script", "_law_k"]) (sc := defScope (top 29)) (by decide +kernel)) (fun _ _ _ _ _ => pg_name (i := 1) sc_law.nd rfl (Or.inl rfl)) (fun _ _ _ _ _ => pts_nil) (fun _ _ _ _ _ => (pcallG D__law_right hr (pa_cons (pcall D__law_rng hr.r (pa_cons (pv 0) (pa_cons (pv 1) pa_nil))) pa_nil)))) pa_nil)))), ?_⟩)
  · obtain ⟨a, ns, rfl, _⟩ := h
    rfl
  · obtain ⟨a, ns, rfl, hS, hlen, tb, q⟩ := h
    refine ⟨_, rfl, a, _, rfl, .inl hS, _, _, rfl, _, _, rfl, ?_⟩
    obtain ⟨j, ej, j1, j2⟩ : ∃ j : Int, (if (if (4 : Int) < ((ns.map V.int).length : Int) then 4 else ((ns.map V.int).length : Int)) > 1 then (if (4 : Int) < ((ns.map V.int).length : Int) then 4 else ((ns.map V.int).length : Int)) else 1) = j ∧ 1 ≤ j ∧ j ≤ 4 := by
      refine ⟨_, rfl, ?_, ?_⟩
      · split <;> omega
      · split <;> split <;> omega
    refine ⟨j, (by rw [ej]), by omega, by omega, fun D hD => ?_⟩
    refine lc_range (fun i H' => H' D = some (.lst (trues i)) ∧ ExtN H H' ∧ Tabs (tabs K Pt) H') ⟨upd_same, ExtN.of (same_upd hD), tb.ext (same_upd hD)⟩ ?_ ?_
    · rintro i H' hi ⟨hD', sm, tb'⟩
      have hi2 : i < 4 := by omega
      refine ⟨rfl, _, rfl, _, rfl, a, ns, i, (by rw [Int.zero_add]; rfl), seq_extN sm hS, by omega, fun p H1 hp sm1 rg => ?_⟩
      refine ⟨p, rfl, rg, tb'.ext sm1, fun H2 st tb2 => ?_⟩
      have hD1 : H1 D = some (.lst (trues i)) := sm1 _ _ hD'
      have nDp : D ≠ p := ne_of_none hD' hp
      have hD2 := st D _ nDp hD1 lst_tbl
      refine ⟨_, hD2, small1000 (by rw [trues_len]; omega), by rw [upd_same, trues_more], fun b o e nt => ?_, tabs_put tb2 hD2⟩
      have e' := sm b o e nt
      rw [upd_ne (ne_of_none e hD)]
      exact st b o (ne_of_none e' hp) (sm1 b o e') nt
    · rintro H' ⟨hD', sm, _⟩
      refine ⟨D, List.replicate j.toNat true, rfl, SqL.of hD', ?_⟩
      rw [all_trues]
      exact q _
end
end K13

set_option Elab.async false
set_option linter.all false
set_option maxRecDepth 100000
set_option maxHeartbeats 0
namespace Ex
open PySem PySem.Spec PyProof.Rows L2 Gu
/-! ### facts of a class beyond those by names: constants, a property -/
def cvB (K : PySem.W.Frag) (C : Addr) (f : Str) (i : Int) : Bool := match PySem.W.findCls K (.ref C) (.type "type") f with
  | some (.val (.int j _)) => decide (j = i)
  | _ => false
theorem cvB_ok {K : PySem.W.Frag} {C : Addr} {f : Str} {i : Int} (h : cvB K C f i = true) : ∃ u, ClX.CVal K C (.type "type") f (.int i) u := by
  unfold cvB at h
  split at h
  · rename_i j t e
    have ej : j = i := of_decide_eq_true h
    exact ⟨_, e, t, by rw [ej]⟩
  · cases h
def rdB (K : PySem.W.Frag) (C : Addr) : Bool := PySem.W.readsIn K C (.type "type") && He.eqO (PySem.W.specialIn K (.ref C) "__getattribute__") (some (some (.builtin "type.__getattribute__")))
theorem rdB_ok {K : PySem.W.Frag} {C : Addr} (h : rdB K C = true) : ClX.CRead K C (.type "type") := by
  obtain ⟨h1, h2⟩ := He.ba h
  exact ⟨h1, He.eqO_ok h2⟩
def prA (K : PySem.W.Frag) (C : Addr) (f : Str) : Addr := match PySem.W.findIn K (.ref C) f with
  | some (some (.ref p)) => p
  | _ => 0
def pgA (K : PySem.W.Frag) (C : Addr) (f : Str) : Addr := match PySem.W.recIn K (prA K C f) "property" with
  | some (.ref g :: _) => g
  | _ => 0
def prB (K : PySem.W.Frag) (C : Addr) (f : Str) : Bool := He.eqO (PySem.W.findIn K (.ref C) f) (some (some (.ref (prA K C f)))) &&
  (He.eqO (PySem.W.specialIn K (.ref (prA K C f)) "__get__") (some (some (.builtin "property.__get__"))) && (decide (PySem.W.takesIn K (.ref (prA K C f)) = some true) &&
    (match PySem.W.recIn K (prA K C f) "property" with
    | some (.ref _ :: _) => true
    | _ => false)))
theorem prB_ok {K : PySem.W.Frag} {C : Addr} {f : Str} (h : prB K C f = true) : PropOf K C f (prA K C f) (pgA K C f) := by
  obtain ⟨h1, h⟩ := He.ba h
  obtain ⟨h2, h⟩ := He.ba h
  obtain ⟨h3, h4⟩ := He.ba h
  refine ⟨He.eqO_ok h1, He.eqO_ok h2, of_decide_eq_true h3, ?_⟩
  unfold pgA
  split at h4
  · rename_i g r e
    rw [e]
    exact ⟨r, rfl⟩
  · cases h4
/-- the def at an address -/
def fnAt (K : PySem.W.Frag) (a : Addr) : He.FnW := match K.lookup a with
  | some ⟨_, _, .func fd, _⟩ => some (fd.name, fd.qualname, fd.params, fd.body, fd.scope, fd.globals, fd.closure, fd.builtins)
  | _ => none
def okAt (K : PySem.W.Frag) (a : Addr) (qual : Str) : Bool := PySem.W.keepIn K (.ref a) && (match K.lookup a with
  | some ⟨_, _, .func fd, _⟩ => PySem.W.codeIn K fd.code qual && (He.dflB K fd.defaults [] && He.kwdB K fd.kwdefaults [])
  | _ => false)
theorem fun_at {K : PySem.W.Frag} {a : Addr} {name qual : Str} {params : Arguments} {body : List Stmt} {scope : Scope} (e : fnAt K a = some (name, qual, params, .stmts body, scope, mainGlobals, [], builtinsNs)) (c : okAt K a qual = true) :
    ∃ fd, FunD K name qual params body scope [] [] a fd := by
  obtain ⟨kp, c2⟩ := He.ba c
  unfold fnAt at e
  split at e
  · rename_i oc od fd sl q
    rw [q] at c2
    obtain ⟨k1, k2⟩ := He.ba c2
    obtain ⟨k3, k4⟩ := He.ba k2
    obtain ⟨n1, n2, n3, n4, n5, n6, n7, n8, n9, n10, n11, n12, n13, n14, n15⟩ := fd
    simp only [Option.some.injEq, Prod.mk.injEq] at e
    obtain ⟨rfl, rfl, rfl, rfl, rfl, rfl, rfl, rfl⟩ := e
    exact ⟨_, ⟨oc, od, n8, n9, n10, n11, n12, n13, n14, sl, rfl, q, k1, He.dflB_ok k3, He.kwdB_ok k4⟩, kp⟩
  · cases e
def sysB (K : PySem.W.Frag) : Bool := match K.lookup sysModules with
  | some o => decide (o.cls ≠ .type "list")
  | none => false
end Ex

set_option Elab.async false
set_option linter.all false
set_option maxRecDepth 100000
set_option maxHeartbeats 0
namespace Ex
open PySem PySem.Spec PyProof.Rows L2 Gu
/-! ### facts for the end: a class's constant read through an instance; the table of a def's code object -/
def conB (K : PySem.W.Frag) (C : Addr) (f : Str) (i : Int) : Bool := match PySem.W.findIn K (.ref C) f with
  | some (some (.int j t)) => decide (j = i) && (He.eqO (PySem.W.specialIn K (.int j t) "__get__") (some none) && !PySem.W.copiedNames.contains f)
  | _ => false
theorem conB_ok {K : PySem.W.Frag} {C : Addr} {f : Str} {i : Int} (h : conB K C f i = true) : ∃ u, Con K C f (.int i) u := by
  unfold conB at h
  split at h
  · rename_i j t e
    obtain ⟨h1, h2⟩ := He.ba h
    obtain ⟨h3, h4⟩ := He.ba h2
    have ej : j = i := of_decide_eq_true h1
    exact ⟨_, e, ⟨t, by rw [ej]⟩, He.eqO_ok h3, by simpa using h4⟩
  · cases h
def cdA (K : PySem.W.Frag) (x : Str) : Addr := match PySem.W.tabIn K x with
  | some (c, _) => c
  | none => 0
def ptA (K : PySem.W.Frag) (x : Str) : Addr := match PySem.W.tabIn K x with
  | some (_, P) => P
  | none => 0
def tabB (K : PySem.W.Frag) (x : Str) : Bool := match PySem.W.tabIn K x with
  | some (c, P) => PySem.W.codeHdIn K c P && (K.lookup P).isNone
  | none => false
theorem tabB_ok {K : PySem.W.Frag} {x : Str} (h : tabB K x = true) : PySem.W.tabIn K x = some (cdA K x, ptA K x) ∧ PySem.W.codeHdIn K (cdA K x) (ptA K x) = true ∧ K.lookup (ptA K x) = none := by
  unfold tabB at h
  unfold cdA ptA
  split at h
  · rename_i c P e
    obtain ⟨h1, h2⟩ := He.ba h
    rw [e]
    exact ⟨rfl, h1, by simpa using h2⟩
  · cases h
theorem tab_code {K : PySem.W.Frag} {x name qual : Str} {c P : Addr} {params : Arguments} {body : List Stmt} {scope : Scope} {dvs : List V} {kws : List (Str × V)} {fd : FuncData} (h : PySem.W.tabIn K x = some (c, P)) (F : FunD K name qual params body scope dvs kws (He.ga K x) fd) : fd.code = .ref c := by
  obtain ⟨oc, od, dV, kV, doc, pm, an, cdv, ct, osl, rfl, lk, _⟩ := F.ex
  unfold PySem.W.tabIn at h
  split at h
  · rename_i f hf
    have e : He.ga K x = f := by
      unfold He.ga
      rw [hf]
    rw [← e, lk] at h
    dsimp only at h
    split at h
    · rename_i c2 hc
      split at h
      · split at h
        · cases h
          rfl
        · cases h
      · cases h
    · cases h
  · cases h
/-- the addresses of the written part, without the table of x -/
def pt0 (g : Addr → Option Obj) (n : Nat) (x : Str) : Addr := ptA (He.frG g (cStatics :: sysModules :: He.asD g n)) x
def kkG (g : Addr → Option Obj) (n : Nat) (x : Str) : PySem.W.Frag := He.frG g ((cStatics :: sysModules :: He.asD g n).filter fun a => a != pt0 g n x)
/-- a method by its keywords alone -/
theorem mfXK {P : Program} {w : World} {K : PySem.W.Frag} {mg : Str → Option Value} {base : Heap} {k : Nat} {c m name qual : Str} {params : Arguments} {body : List Stmt} {scope : Scope} {ps ks : List Str} {j : List Nat} {sp : Sp} {fd : FuncData} (F : FunD K name qual params body scope [] [] (He.ma K (He.ga K c) m) fd)
    (cl : Cls K (He.ga K c)) (me : Meth K (He.ga K c) m (He.ma K (He.ga K c) m)) (ok : FnOk P w K mg base (L2.CX P w) k (He.ma K (He.ga K c) m) fd ps sp)
    (hb : ∀ (kV doc pm : Value) (an : Option Addr) (cdv ct u : Value) (ws : List Value), ws.length = ks.length → bindArgs (PySem.W.fnOf name qual params body scope .none kV doc pm an cdv ct) ⟨[u], ks.zip ws⟩ = pure (ps.zip (u :: j.filterMap fun i => ws[i]?))) : MfXK P w K mg base k c m ps ks j sp := by
  refine ⟨⟨fd, ok, fun s u ws hl => ?_⟩, cl, me⟩
  obtain ⟨oc, od, dV, kV, doc, pm, an, cdv, ct, osl, rfl, lk, hcd, hD, hK⟩ := F.ex
  rcases hD with ⟨_, rfl⟩ | ⟨e, _⟩
  · exact .of_eq (hb kV doc pm an cdv ct u ws hl)
  · exact absurd rfl e
end Ex

set_option Elab.async false
set_option linter.all false
set_option maxRecDepth 100000
set_option maxHeartbeats 0
namespace K13
open PySem PySem.Spec PyProof.Rows L2 Gu Ex
abbrev R : PySem.W.OpenRow := PySem.W.OpenLaw.row PySem.Challenge.rw_exactroom_k13_whole_pieces_of_objects
def dOf (a : Str × Option Str) (x q : Str) (st : Stmt) : He.DefD := ⟨a, x, q, defArgs st, defBody st, defScope st, [], []⟩
def dOfK (a : Str × Option Str) (x q : Str) (st : Stmt) (kw : List (Str × He.Dv)) : He.DefD := ⟨a, x, q, defArgs st, defBody st, defScope st, [], kw⟩
def fn : List He.DefD := [dOf ("is_integer", none) "is_integer" "is_integer" (top 9),
  dOf ("is_cells", none) "is_cells" "is_cells" (top 10),
  dOf ("check_cells", none) "check_cells" "check_cells" (top 11),
  dOf ("size_problem", none) "size_problem" "size_problem" (top 12),
  dOf ("check_sizes", none) "check_sizes" "check_sizes" (top 13),
  dOf ("Sizes", some "__init__") "__init__" "Sizes.__init__" (inClass (top 14) 4),
  dOf ("Sizes", some "has_level") "has_level" "Sizes.has_level" (inClass (top 14) 12),
  dOf ("Sizes", some "check_level") "check_level" "Sizes.check_level" (inClass (top 14) 13),
  dOf ("Sizes", some "size") "size" "Sizes.size" (inClass (top 14) 14),
  dOf ("Sizes", some "whole") "whole" "Sizes.whole" (inClass (top 14) 16),
  dOf ("Sizes", some "level_of") "level_of" "Sizes.level_of" (inClass (top 14) 15),
  dOf ("Sizes", some "counts") "counts" "Sizes.counts" (inClass (top 14) 17),
  dOf ("Sizes", some "pieces") "pieces" "Sizes.pieces" (inClass (top 14) 18),
  dOf ("Sizes", some "all_sizes") "all_sizes" "Sizes.all_sizes" (inClass (top 14) 11),
  dOf ("InvalidNumber", some "__init__") "__init__" "InvalidNumber.__init__" (inClass (top 5) 0),
  dOf ("InvalidLevel", some "__init__") "__init__" "InvalidLevel.__init__" (inClass (top 4) 0),
  dOf ("TooManyPieces", some "__init__") "__init__" "TooManyPieces.__init__" (inClass (top 7) 0),
  dOf ("_law_rng", none) "_law_rng" "_law_rng" (top 16),
  dOf ("_law_draw", none) "_law_draw" "_law_draw" (top 17),
  dOf ("_law_choice", none) "_law_choice" "_law_choice" (top 18),
  dOf ("_law_sizes", none) "_law_sizes" "_law_sizes" (top 19),
  dOf ("_law_counts", none) "_law_counts" "_law_counts" (top 20),
  dOf ("_law_number", none) "_law_number" "_law_number" (top 21),
  dOf ("_law_fewest", none) "_law_fewest" "_law_fewest" (top 22),
  dOf ("_law_told", none) "_law_told" "_law_told" (top 23),
  dOf ("_law_pieces_right", none) "_law_pieces_right" "_law_pieces_right" (top 24),
  dOf ("_law_number_right", none) "_law_number_right" "_law_number_right" (top 25),
  dOf ("_law_refused", none) "_law_refused" "_law_refused" (top 26),
  dOf ("_law_truths_right", none) "_law_truths_right" "_law_truths_right" (top 27),
  dOf ("_law_right", none) "_law_right" "_law_right" (top 28),
  dOf ("law", none) "law" "law" (top 29)]
def fa : List He.Fa := [.glo "is_integer", .glo "is_cells", .glo "check_cells", .glo "size_problem", .glo "check_sizes", .glo "_law_rng", .glo "_law_draw", .glo "_law_choice", .glo "_law_sizes", .glo "_law_counts", .glo "_law_number", .glo "_law_fewest", .glo "_law_told", .glo "_law_pieces_right", .glo "_law_number_right", .glo "_law_refused", .glo "_law_truths_right", .glo "_law_right", .glo "law", .glo "Sizes", .glo "InvalidNumber", .glo "InvalidLevel", .glo "TooManyPieces", .glo "NoRoom", .glo "RoomError", .free "len", .free "isinstance", .free "int", .free "bool", .free "list", .free "range", .free "divmod", .free "abs", .free "max", .free "min", .free "all", .free "repr", .free "sum", .free "reversed", .free "enumerate", .free "ArithmeticError", .cls "Sizes", .noat "Sizes" "size_list", .mkr "Sizes", .meth "Sizes" "has_level", .meth "Sizes" "check_level", .meth "Sizes" "size", .meth "Sizes" "whole", .meth "Sizes" "level_of", .meth "Sizes" "counts", .meth "Sizes" "pieces", .meth "Sizes" "all_sizes"]
def exB (K : PySem.W.Frag) : Bool := (rdB K (He.ga K "Sizes") && (cvB K (He.ga K "Sizes") "MAX_SIZE" 1000000000 && (cvB K (He.ga K "Sizes") "MAX_SIZES" 8 && (cvB K (He.ga K "Sizes") "MAX_CELLS" 1000000000000 && (conB K (He.ga K "Sizes") "MAX_PIECES" 64 && (sysB K && (errG "ValueError" K (cN K) "value" && (errG "ValueError" K (cL K) "value" && (errG "ArithmeticError" K (cT K) "limit" && (bOf (PySem.W.exmOne K (.ref (cL K)) (.ref (cN K))) false && (bOf (PySem.W.kitOne K (.ref (cT K)) (.type "ArithmeticError")) true && (bOf (PySem.W.kitAny K (.ref (cT K)) [.ref (He.ga K "NoRoom"), .ref (He.ga K "RoomError")]) false && (tabB K "_law_truths_right" && (prB K (He.ga K "Sizes") "top" && (okAt K (pgA K (He.ga K "Sizes") "top") "Sizes.top" && true)))))))))))))))
def v_top : He.FnW := some ("top", "Sizes.top", defArgs (inClass (top 14) 10), .stmts (defBody (inClass (top 14) 10)), defScope (inClass (top 14) 10), mainGlobals, [], builtinsNs)
abbrev AlE : Type := He.AlD × Bool × He.FnW
def ob0 (K : PySem.W.Frag) : AlE := (He.obsD fa fn K, exB K, fnAt K (pgA K (He.ga K "Sizes") "top"))
def vl0 : AlE := (He.valD fn, true, v_top)
def ob1 (g : Addr → Option Obj) : AlE × Option Obj := (ob0 (kkG g 6 "_law_truths_right"), g (ptA (kkG g 6 "_law_truths_right") "_law_truths_right"))
def hk : PySem.W.Hook where
  α := AlE × Option Obj
  obs := fun s => ob1 s.heap.get?
  val := fun _ => (vl0, some (PySem.W.tabObj #[]))
  says := fun _ h => ∃ K : PySem.W.Frag, K.In h ∧ ob0 K = vl0 ∧ h.get? (ptA K "_law_truths_right") = some (PySem.W.tabObj #[])
  of := fun _ _ e => ⟨_, He.frG_in, (Prod.mk.inj e).1, (Prod.mk.inj e).2⟩
  keeps := fun _ _ _ ⟨K, hK, c, t⟩ k => ⟨K, PySem.W.Frag.In.keeps hK k, c, k _ _ t⟩
def ob (s : PySem.W.SharedT) : AlE × Option Obj := ob1 (HandSHeadRun.getT s)
theorem ob_eq (s : PySem.W.SharedT) : ob s = hk.obs s.abs := by
  have e : HandSHeadRun.getT s = s.abs.heap.get? := funext (HandSHeadRun.getT_eq s)
  show ob1 (HandSHeadRun.getT s) = ob1 s.abs.heap.get?
  rw [e]
def loose : List Str := ("_wall" : Str) :: ("RoomError" : Str) :: ("InvalidSizes" : Str) :: ("InvalidLevel" : Str) :: ("InvalidNumber" : Str) :: ("NoRoom" : Str) :: ("TooManyPieces" : Str) :: ("is_integer" : Str) :: ("is_cells" : Str) :: ("check_cells" : Str) :: ("size_problem" : Str) :: ("check_sizes" : Str) :: ("Sizes" : Str) :: ("_law_rng" : Str) :: ("_law_draw" : Str) :: ("_law_choice" : Str) :: ("_law_sizes" : Str) :: ("_law_counts" : Str) :: ("_law_number" : Str) :: ("_law_fewest" : Str) :: ("_law_told" : Str) :: ("_law_pieces_right" : Str) :: ("_law_number_right" : Str) :: ("_law_refused" : Str) :: ("_law_truths_right" : Str) :: ("_law_right" : Str) :: []
theorem run (w : World) : HandSHeadRun.RunEq R (PySem.W.view R.prog [29]) hk ob 4000 loose w := by
  intro os
  kernel_rfl
section
variable {P : Program} {w : World} {K : PySem.W.Frag} {h : Heap} {mg : Str → Option Value} {base : Heap}
theorem tx (X : K.In h) (G : h.Ns mainGlobals mg) (c : He.SaysD fa fn K) (x : exB K = true) : Tx K mg := by
  obtain ⟨x1, x⟩ := He.ba x
  obtain ⟨x2, x⟩ := He.ba x
  obtain ⟨x3, x⟩ := He.ba x
  obtain ⟨x4, x⟩ := He.ba x
  obtain ⟨x5, x⟩ := He.ba x
  obtain ⟨x6, x⟩ := He.ba x
  obtain ⟨x7, x⟩ := He.ba x
  obtain ⟨x8, x⟩ := He.ba x
  obtain ⟨x9, x⟩ := He.ba x
  obtain ⟨x10, x⟩ := He.ba x
  obtain ⟨x11, x⟩ := He.ba x
  obtain ⟨x12, x⟩ := He.ba x
  obtain ⟨x_tab, x⟩ := He.ba x
  obtain ⟨xp_top, x⟩ := He.ba x
  obtain ⟨xo_top, x⟩ := He.ba x
  have hsys : SysOk K := by
    unfold sysB at x6
    split at x6
    · rename_i o e
      exact ⟨o, e, of_decide_eq_true x6⟩
    · cases x6
  exact ⟨He.free_ok X G (c.fact 25 (f := .free "len") rfl),
    He.free_ok X G (c.fact 26 (f := .free "isinstance") rfl),
    He.free_ok X G (c.fact 27 (f := .free "int") rfl),
    He.free_ok X G (c.fact 28 (f := .free "bool") rfl),
    He.free_ok X G (c.fact 29 (f := .free "list") rfl),
    He.free_ok X G (c.fact 30 (f := .free "range") rfl),
    He.free_ok X G (c.fact 31 (f := .free "divmod") rfl),
    He.free_ok X G (c.fact 32 (f := .free "abs") rfl),
    He.free_ok X G (c.fact 33 (f := .free "max") rfl),
    He.free_ok X G (c.fact 34 (f := .free "min") rfl),
    He.free_ok X G (c.fact 35 (f := .free "all") rfl),
    He.free_ok X G (c.fact 36 (f := .free "repr") rfl),
    He.free_ok X G (c.fact 37 (f := .free "sum") rfl),
    He.free_ok X G (c.fact 38 (f := .free "reversed") rfl),
    He.free_ok X G (c.fact 39 (f := .free "enumerate") rfl),
    He.free_ok X G (c.fact 40 (f := .free "ArithmeticError") rfl),
    He.glo_ok X G (c.fact 19 (f := .glo "Sizes") rfl),
    He.cls_ok (c.fact 41 (f := .cls "Sizes") rfl),
    He.noat_ok (c.fact 42 (f := .noat "Sizes" "size_list") rfl),
    rdB_ok x1,
    cvB_ok x2,
    cvB_ok x3,
    cvB_ok x4,
    conB_ok x5,
    hsys,
    He.glo_ok X G (c.fact 20 (f := .glo "InvalidNumber") rfl),
    He.glo_ok X G (c.fact 21 (f := .glo "InvalidLevel") rfl),
    He.glo_ok X G (c.fact 22 (f := .glo "TooManyPieces") rfl),
    He.glo_ok X G (c.fact 23 (f := .glo "NoRoom") rfl),
    He.glo_ok X G (c.fact 24 (f := .glo "RoomError") rfl),
    errG_ok base_VE x7,
    errG_ok base_VE x8,
    errG_ok base_AE x9,
    bOf_ok x10,
    bOf_ok x11,
    bOf_ok x12⟩
theorem df {x : Str} {ps : List Str} {sp : Sp} {k : Nat} {st : Stmt} {fd : FuncData} (X : K.In h) (G : h.Ns mainGlobals mg) (g : (He.Fa.glo x).ok K = true) (F : FnP K x x st (He.ga K x) fd)
    (hb : ∀ (kV doc pm : Value) (an : Option Addr) (cdv ct : Value) (us : List Value), us.length = ps.length → bindArgs (PySem.W.fnOf x x (defArgs st) (defBody st) (defScope st) .none kV doc pm an cdv ct) ⟨us, []⟩ = pure (ps.zip us))
    (ok : FnOk P w K mg base CX0 k (He.ga K x) fd ps sp) : Df P w K mg base k x ps sp := ⟨⟨fd, ok, F.bindsN hb⟩, He.glo_ok X G g, F.kp⟩
theorem dfG {x : Str} {ps : List Str} {sp : Sp} {k : Nat} {st : Stmt} {fd : FuncData} (X : K.In h) (G : h.Ns mainGlobals mg) (g : (He.Fa.glo x).ok K = true) (F : FnP K x x st (He.ga K x) fd)
    (hb : ∀ (kV doc pm : Value) (an : Option Addr) (cdv ct : Value) (us : List Value), us.length = ps.length → bindArgs (PySem.W.fnOf x x (defArgs st) (defBody st) (defScope st) .none kV doc pm an cdv ct) ⟨us, []⟩ = pure (ps.zip us))
    (ok : FnG P w K mg base CX0 k (He.ga K x) fd ps sp) : DfG P w K mg base k x ps sp := ⟨⟨fd, ok, F.bindsN hb⟩, He.glo_ok X G g, F.kp⟩
theorem dfX {x : Str} {ps : List Str} {sp : Sp} {k : Nat} {st : Stmt} {fd : FuncData} (X : K.In h) (G : h.Ns mainGlobals mg) (g : (He.Fa.glo x).ok K = true) (F : FnP K x x st (He.ga K x) fd)
    (hb : ∀ (kV doc pm : Value) (an : Option Addr) (cdv ct : Value) (us : List Value), us.length = ps.length → bindArgs (PySem.W.fnOf x x (defArgs st) (defBody st) (defScope st) .none kV doc pm an cdv ct) ⟨us, []⟩ = pure (ps.zip us))
    (ok : FnOk P w K mg base (L2.CX P w) k (He.ga K x) fd ps sp) : DfX P w K mg base k x ps sp := ⟨⟨fd, ok, F.bindsN hb⟩, He.glo_ok X G g, F.kp⟩
theorem dfK {x : Str} {ps ks : List Str} {j : List Nat} {sp : Sp} {k : Nat} {st : Stmt} {fd : FuncData} (X : K.In h) (G : h.Ns mainGlobals mg) (g : (He.Fa.glo x).ok K = true) (F : FnP K x x st (He.ga K x) fd)
    (hb : ∀ (kV doc pm : Value) (an : Option Addr) (cdv ct : Value) (ws : List Value), ws.length = ks.length → bindArgs (PySem.W.fnOf x x (defArgs st) (defBody st) (defScope st) .none kV doc pm an cdv ct) ⟨[], ks.zip ws⟩ = pure (ps.zip (j.filterMap fun i => ws[i]?)))
    (ok : FnOk P w K mg base CX0 k (He.ga K x) fd ps sp) : DfK P w K mg base k x ps ks j sp := by
  refine ⟨⟨fd, ok, fun s ws hl => ?_⟩, He.glo_ok X G g, F.kp⟩
  obtain ⟨oc, od, dV, kV, doc, pm, an, cdv, ct, osl, rfl, lk, hcd, hD, hK⟩ := F.ex
  rcases hD with ⟨_, rfl⟩ | ⟨e, _⟩
  · exact .of_eq (hb kV doc pm an cdv ct ws hl)
  · exact absurd rfl e
theorem tab_facts (c0 : ob0 K = vl0) : PySem.W.tabIn K "_law_truths_right" = some (cdA K "_law_truths_right", ptA K "_law_truths_right") ∧ PySem.W.codeHdIn K (cdA K "_law_truths_right") (ptA K "_law_truths_right") = true ∧ K.lookup (ptA K "_law_truths_right") = none := by
  have x : exB K = true := congrArg (fun z : AlE => z.2.1) c0
  obtain ⟨x1, x⟩ := He.ba x
  obtain ⟨x2, x⟩ := He.ba x
  obtain ⟨x3, x⟩ := He.ba x
  obtain ⟨x4, x⟩ := He.ba x
  obtain ⟨x5, x⟩ := He.ba x
  obtain ⟨x6, x⟩ := He.ba x
  obtain ⟨x7, x⟩ := He.ba x
  obtain ⟨x8, x⟩ := He.ba x
  obtain ⟨x9, x⟩ := He.ba x
  obtain ⟨x10, x⟩ := He.ba x
  obtain ⟨x11, x⟩ := He.ba x
  obtain ⟨x12, x⟩ := He.ba x
  obtain ⟨x_tab, x⟩ := He.ba x
  obtain ⟨xp_top, x⟩ := He.ba x
  obtain ⟨xo_top, x⟩ := He.ba x
  exact tabB_ok x_tab
theorem facts {f : Addr} (X : K.In h) (G : h.Ns mainGlobals mg) (hfa : mg ("law" : Str) = some (.ref f)) (c0 : ob0 K = vl0) :
    ∃ fd : FuncData, (∀ (s : Shared) (v : Value), BindsTo s fd ⟨[v], []⟩ [("_law_script", v)]) ∧ ∀ base : Heap, K.In base → base.Ns mainGlobals mg → LamX.TabB base mg (cdA K "_law_truths_right") (ptA K "_law_truths_right") → FnG P w K mg base CX0 11 f fd ["_law_script"] (spLaw K (ptA K "_law_truths_right")) := by
  have c : He.SaysD fa fn K := congrArg (fun z : AlE => z.1) c0
  have x : exB K = true := congrArg (fun z : AlE => z.2.1) c0
  have vt_top : fnAt K (pgA K (He.ga K "Sizes") "top") = v_top := congrArg (fun z : AlE => z.2.2) c0
  have T := tx X G c x
  obtain ⟨x1, x⟩ := He.ba x
  obtain ⟨x2, x⟩ := He.ba x
  obtain ⟨x3, x⟩ := He.ba x
  obtain ⟨x4, x⟩ := He.ba x
  obtain ⟨x5, x⟩ := He.ba x
  obtain ⟨x6, x⟩ := He.ba x
  obtain ⟨x7, x⟩ := He.ba x
  obtain ⟨x8, x⟩ := He.ba x
  obtain ⟨x9, x⟩ := He.ba x
  obtain ⟨x10, x⟩ := He.ba x
  obtain ⟨x11, x⟩ := He.ba x
  obtain ⟨x12, x⟩ := He.ba x
  obtain ⟨x_tab, x⟩ := He.ba x
  obtain ⟨xp_top, x⟩ := He.ba x
  obtain ⟨xo_top, x⟩ := He.ba x
  obtain ⟨fdP_top, FP_top⟩ := fun_at vt_top xo_top
  obtain ⟨fd0, F0⟩ : ∃ fd, FnP K "is_integer" "is_integer" (top 9) (He.ga K "is_integer") fd := c.def_ 0 (d := dOf ("is_integer", none) "is_integer" "is_integer" (top 9)) rfl
  obtain ⟨fd1, F1⟩ : ∃ fd, FnP K "is_cells" "is_cells" (top 10) (He.ga K "is_cells") fd := c.def_ 1 (d := dOf ("is_cells", none) "is_cells" "is_cells" (top 10)) rfl
  obtain ⟨fd2, F2⟩ : ∃ fd, FnP K "check_cells" "check_cells" (top 11) (He.ga K "check_cells") fd := c.def_ 2 (d := dOf ("check_cells", none) "check_cells" "check_cells" (top 11)) rfl
  obtain ⟨fd3, F3⟩ : ∃ fd, FnP K "size_problem" "size_problem" (top 12) (He.ga K "size_problem") fd := c.def_ 3 (d := dOf ("size_problem", none) "size_problem" "size_problem" (top 12)) rfl
  obtain ⟨fd4, F4⟩ : ∃ fd, FnP K "check_sizes" "check_sizes" (top 13) (He.ga K "check_sizes") fd := c.def_ 4 (d := dOf ("check_sizes", none) "check_sizes" "check_sizes" (top 13)) rfl
  obtain ⟨fd5, F5⟩ : ∃ fd, FnP K "__init__" "Sizes.__init__" (inClass (top 14) 4) (He.ma K (He.ga K "Sizes") "__init__") fd := c.def_ 5 (d := dOf ("Sizes", some "__init__") "__init__" "Sizes.__init__" (inClass (top 14) 4)) rfl
  obtain ⟨fd6, F6⟩ : ∃ fd, FnP K "has_level" "Sizes.has_level" (inClass (top 14) 12) (He.ma K (He.ga K "Sizes") "has_level") fd := c.def_ 6 (d := dOf ("Sizes", some "has_level") "has_level" "Sizes.has_level" (inClass (top 14) 12)) rfl
  obtain ⟨fd7, F7⟩ : ∃ fd, FnP K "check_level" "Sizes.check_level" (inClass (top 14) 13) (He.ma K (He.ga K "Sizes") "check_level") fd := c.def_ 7 (d := dOf ("Sizes", some "check_level") "check_level" "Sizes.check_level" (inClass (top 14) 13)) rfl
  obtain ⟨fd8, F8⟩ : ∃ fd, FnP K "size" "Sizes.size" (inClass (top 14) 14) (He.ma K (He.ga K "Sizes") "size") fd := c.def_ 8 (d := dOf ("Sizes", some "size") "size" "Sizes.size" (inClass (top 14) 14)) rfl
  obtain ⟨fd9, F9⟩ : ∃ fd, FnP K "whole" "Sizes.whole" (inClass (top 14) 16) (He.ma K (He.ga K "Sizes") "whole") fd := c.def_ 9 (d := dOf ("Sizes", some "whole") "whole" "Sizes.whole" (inClass (top 14) 16)) rfl
  obtain ⟨fd10, F10⟩ : ∃ fd, FnP K "level_of" "Sizes.level_of" (inClass (top 14) 15) (He.ma K (He.ga K "Sizes") "level_of") fd := c.def_ 10 (d := dOf ("Sizes", some "level_of") "level_of" "Sizes.level_of" (inClass (top 14) 15)) rfl
  obtain ⟨fd11, F11⟩ : ∃ fd, FnP K "counts" "Sizes.counts" (inClass (top 14) 17) (He.ma K (He.ga K "Sizes") "counts") fd := c.def_ 11 (d := dOf ("Sizes", some "counts") "counts" "Sizes.counts" (inClass (top 14) 17)) rfl
  obtain ⟨fd12, F12⟩ : ∃ fd, FnP K "pieces" "Sizes.pieces" (inClass (top 14) 18) (He.ma K (He.ga K "Sizes") "pieces") fd := c.def_ 12 (d := dOf ("Sizes", some "pieces") "pieces" "Sizes.pieces" (inClass (top 14) 18)) rfl
  obtain ⟨fd13, F13⟩ : ∃ fd, FnP K "all_sizes" "Sizes.all_sizes" (inClass (top 14) 11) (He.ma K (He.ga K "Sizes") "all_sizes") fd := c.def_ 13 (d := dOf ("Sizes", some "all_sizes") "all_sizes" "Sizes.all_sizes" (inClass (top 14) 11)) rfl
  obtain ⟨fd14, F14⟩ : ∃ fd, FnP K "__init__" "InvalidNumber.__init__" (inClass (top 5) 0) (He.ma K (He.ga K "InvalidNumber") "__init__") fd := c.def_ 14 (d := dOf ("InvalidNumber", some "__init__") "__init__" "InvalidNumber.__init__" (inClass (top 5) 0)) rfl
  obtain ⟨fd15, F15⟩ : ∃ fd, FnP K "__init__" "InvalidLevel.__init__" (inClass (top 4) 0) (He.ma K (He.ga K "InvalidLevel") "__init__") fd := c.def_ 15 (d := dOf ("InvalidLevel", some "__init__") "__init__" "InvalidLevel.__init__" (inClass (top 4) 0)) rfl
  obtain ⟨fd16, F16⟩ : ∃ fd, FnP K "__init__" "TooManyPieces.__init__" (inClass (top 7) 0) (He.ma K (He.ga K "TooManyPieces") "__init__") fd := c.def_ 16 (d := dOf ("TooManyPieces", some "__init__") "__init__" "TooManyPieces.__init__" (inClass (top 7) 0)) rfl
  obtain ⟨fd17, F17⟩ : ∃ fd, FnP K "_law_rng" "_law_rng" (top 16) (He.ga K "_law_rng") fd := c.def_ 17 (d := dOf ("_law_rng", none) "_law_rng" "_law_rng" (top 16)) rfl
  obtain ⟨fd18, F18⟩ : ∃ fd, FnP K "_law_draw" "_law_draw" (top 17) (He.ga K "_law_draw") fd := c.def_ 18 (d := dOf ("_law_draw", none) "_law_draw" "_law_draw" (top 17)) rfl
  obtain ⟨fd19, F19⟩ : ∃ fd, FnP K "_law_choice" "_law_choice" (top 18) (He.ga K "_law_choice") fd := c.def_ 19 (d := dOf ("_law_choice", none) "_law_choice" "_law_choice" (top 18)) rfl
  obtain ⟨fd20, F20⟩ : ∃ fd, FnP K "_law_sizes" "_law_sizes" (top 19) (He.ga K "_law_sizes") fd := c.def_ 20 (d := dOf ("_law_sizes", none) "_law_sizes" "_law_sizes" (top 19)) rfl
  obtain ⟨fd21, F21⟩ : ∃ fd, FnP K "_law_counts" "_law_counts" (top 20) (He.ga K "_law_counts") fd := c.def_ 21 (d := dOf ("_law_counts", none) "_law_counts" "_law_counts" (top 20)) rfl
  obtain ⟨fd22, F22⟩ : ∃ fd, FnP K "_law_number" "_law_number" (top 21) (He.ga K "_law_number") fd := c.def_ 22 (d := dOf ("_law_number", none) "_law_number" "_law_number" (top 21)) rfl
  obtain ⟨fd23, F23⟩ : ∃ fd, FnP K "_law_fewest" "_law_fewest" (top 22) (He.ga K "_law_fewest") fd := c.def_ 23 (d := dOf ("_law_fewest", none) "_law_fewest" "_law_fewest" (top 22)) rfl
  obtain ⟨fd24, F24⟩ : ∃ fd, FnP K "_law_told" "_law_told" (top 23) (He.ga K "_law_told") fd := c.def_ 24 (d := dOf ("_law_told", none) "_law_told" "_law_told" (top 23)) rfl
  obtain ⟨fd25, F25⟩ : ∃ fd, FnP K "_law_pieces_right" "_law_pieces_right" (top 24) (He.ga K "_law_pieces_right") fd := c.def_ 25 (d := dOf ("_law_pieces_right", none) "_law_pieces_right" "_law_pieces_right" (top 24)) rfl
  obtain ⟨fd26, F26⟩ : ∃ fd, FnP K "_law_number_right" "_law_number_right" (top 25) (He.ga K "_law_number_right") fd := c.def_ 26 (d := dOf ("_law_number_right", none) "_law_number_right" "_law_number_right" (top 25)) rfl
  obtain ⟨fd27, F27⟩ : ∃ fd, FnP K "_law_refused" "_law_refused" (top 26) (He.ga K "_law_refused") fd := c.def_ 27 (d := dOf ("_law_refused", none) "_law_refused" "_law_refused" (top 26)) rfl
  obtain ⟨fd28, F28⟩ : ∃ fd, FnP K "_law_truths_right" "_law_truths_right" (top 27) (He.ga K "_law_truths_right") fd := c.def_ 28 (d := dOf ("_law_truths_right", none) "_law_truths_right" "_law_truths_right" (top 27)) rfl
  obtain ⟨fd29, F29⟩ : ∃ fd, FnP K "_law_right" "_law_right" (top 28) (He.ga K "_law_right") fd := c.def_ 29 (d := dOf ("_law_right", none) "_law_right" "_law_right" (top 28)) rfl
  obtain ⟨fd30, F30⟩ : ∃ fd, FnP K "law" "law" (top 29) (He.ga K "law") fd := c.def_ 30 (d := dOf ("law", none) "law" "law" (top 29)) rfl
  have e := hfa.symm.trans (He.glo_ok X G (c.fact 18 (f := .glo "law") rfl))
  cases e
  have b := FunD.bindsA (ps := ["_law_script"]) F30 (fun _ _ _ _ _ _ us hl => match us, hl with | [_], _ => rfl)
  refine ⟨_, fun s v => b s [v] rfl, fun base _ _ TB => ?_⟩
  have D_is_integer := df (P := P) (w := w) (base := base) X G (c.fact 0 (f := .glo "is_integer") rfl) F0 (ps := ["value"]) (fun _ _ _ _ _ _ us hl => match us, hl with | [_], _ => rfl) (ok_is_integer T F0)
  have D_is_cells := df (P := P) (w := w) (base := base) X G (c.fact 1 (f := .glo "is_cells") rfl) F1 (ps := ["value"]) (fun _ _ _ _ _ _ us hl => match us, hl with | [_], _ => rfl) (ok_is_cells T D_is_integer F1)
  have MN : Ei P w K mg base "InvalidNumber" "value" := ⟨⟨fd14, ok_errN T F14, F14.bindsN (fun _ _ _ _ _ _ us hl => match us, hl with | [_, _], _ => rfl)⟩⟩
  have ML : Ei P w K mg base "InvalidLevel" "value" := ⟨⟨fd15, ok_errL T F15, F15.bindsN (fun _ _ _ _ _ _ us hl => match us, hl with | [_, _], _ => rfl)⟩⟩
  have MT : Ei P w K mg base "TooManyPieces" "limit" := ⟨⟨fd16, ok_errT T F16, F16.bindsN (fun _ _ _ _ _ _ us hl => match us, hl with | [_, _], _ => rfl)⟩⟩
  have D_check_cells := dfX (P := P) (w := w) (base := base) X G (c.fact 2 (f := .glo "check_cells") rfl) F2 (ps := ["value"]) (fun _ _ _ _ _ _ us hl => match us, hl with | [_], _ => rfl) (ok_check_cells T D_is_cells MN F2)
  have D_size_problem := df (P := P) (w := w) (base := base) X G (c.fact 3 (f := .glo "size_problem") rfl) F3 (ps := ["values", "position"]) (fun _ _ _ _ _ _ us hl => match us, hl with | [_, _], _ => rfl) (ok_size_problem T D_is_integer F3)
  have D_check_sizes := df (P := P) (w := w) (base := base) X G (c.fact 4 (f := .glo "check_sizes") rfl) F4 (ps := ["values"]) (fun _ _ _ _ _ _ us hl => match us, hl with | [_], _ => rfl) (ok_check_sizes T D_size_problem F4)
  have D_Sizes : Kf P w K mg base _ "Sizes" ["self", "values"] _ := ⟨⟨fd5, ok_init T D_check_sizes F5, F5.bindsN (fun _ _ _ _ _ _ us hl => match us, hl with | [_, _], _ => rfl)⟩, He.glo_ok X G (c.fact 19 (f := .glo "Sizes") rfl), He.mkr_ok (c.fact 43 (f := .mkr "Sizes") rfl)⟩
  have P_top : Pf P w K mg base 1 "Sizes" "top" (spTop K) := ⟨He.cls_ok (c.fact 41 (f := .cls "Sizes") rfl), _, _, fdP_top, prB_ok xp_top, ok_top T FP_top, FunD.bindsN FP_top (fun _ _ _ _ _ _ us hl => match us, hl with | [_], _ => rfl)⟩
  have M_has_level : Mf P w K mg base _ "Sizes" "has_level" ["self", "level"] _ := ⟨⟨fd6, ok_has T D_is_integer P_top F6, F6.bindsN (fun _ _ _ _ _ _ us hl => match us, hl with | [_, _], _ => rfl)⟩, He.cls_ok (c.fact 41 (f := .cls "Sizes") rfl), He.meth_ok (c.fact 44 (f := .meth "Sizes" "has_level") rfl)⟩
  have M_check_level : MfX P w K mg base _ "Sizes" "check_level" ["self", "level"] _ := ⟨⟨fd7, ok_check_level T M_has_level ML F7, F7.bindsN (fun _ _ _ _ _ _ us hl => match us, hl with | [_, _], _ => rfl)⟩, He.cls_ok (c.fact 41 (f := .cls "Sizes") rfl), He.meth_ok (c.fact 45 (f := .meth "Sizes" "check_level") rfl)⟩
  have M_size : MfX P w K mg base _ "Sizes" "size" ["self", "level"] _ := ⟨⟨fd8, ok_size T M_check_level F8, F8.bindsN (fun _ _ _ _ _ _ us hl => match us, hl with | [_, _], _ => rfl)⟩, He.cls_ok (c.fact 41 (f := .cls "Sizes") rfl), He.meth_ok (c.fact 46 (f := .meth "Sizes" "size") rfl)⟩
  have M_whole : MfX P w K mg base _ "Sizes" "whole" ["self", "cells", "level"] _ := ⟨⟨fd9, ok_whole T D_check_cells M_size F9, F9.bindsN (fun _ _ _ _ _ _ us hl => match us, hl with | [_, _, _], _ => rfl)⟩, He.cls_ok (c.fact 41 (f := .cls "Sizes") rfl), He.meth_ok (c.fact 47 (f := .meth "Sizes" "whole") rfl)⟩
  have M_level_of : MfX P w K mg base _ "Sizes" "level_of" ["self", "cells"] _ := ⟨⟨fd10, ok_level_of T D_check_cells P_top F10, F10.bindsN (fun _ _ _ _ _ _ us hl => match us, hl with | [_, _], _ => rfl)⟩, He.cls_ok (c.fact 41 (f := .cls "Sizes") rfl), He.meth_ok (c.fact 48 (f := .meth "Sizes" "level_of") rfl)⟩
  have M_counts : MfX P w K mg base _ "Sizes" "counts" ["self", "cells"] _ := ⟨⟨fd11, ok_counts T D_check_cells F11, F11.bindsN (fun _ _ _ _ _ _ us hl => match us, hl with | [_, _], _ => rfl)⟩, He.cls_ok (c.fact 41 (f := .cls "Sizes") rfl), He.meth_ok (c.fact 49 (f := .meth "Sizes" "counts") rfl)⟩
  have M_pieces : MfX P w K mg base _ "Sizes" "pieces" ["self", "cells"] _ := ⟨⟨fd12, ok_pieces T M_counts P_top MT F12, F12.bindsN (fun _ _ _ _ _ _ us hl => match us, hl with | [_, _], _ => rfl)⟩, He.cls_ok (c.fact 41 (f := .cls "Sizes") rfl), He.meth_ok (c.fact 50 (f := .meth "Sizes" "pieces") rfl)⟩
  have M_all_sizes : Mf P w K mg base _ "Sizes" "all_sizes" ["self"] _ := ⟨⟨fd13, ok_all T F13, F13.bindsN (fun _ _ _ _ _ _ us hl => match us, hl with | [_], _ => rfl)⟩, He.cls_ok (c.fact 41 (f := .cls "Sizes") rfl), He.meth_ok (c.fact 51 (f := .meth "Sizes" "all_sizes") rfl)⟩
  have M_whole_kw : MfXK P w K mg base 6 "Sizes" "whole" ["self", "cells", "level"] ["level", "cells"] [1, 0] (spWhole K) := mfXK F9 (He.cls_ok (c.fact 41 (f := .cls "Sizes") rfl)) (He.meth_ok (c.fact 47 (f := .meth "Sizes" "whole") rfl)) (ok_whole T D_check_cells M_size F9) (fun _ _ _ _ _ _ _ ws hl => match ws, hl with | [_, _], _ => rfl)
  have M_level_of_kw : MfXK P w K mg base 5 "Sizes" "level_of" ["self", "cells"] ["cells"] [0] (spLv K) := mfXK F10 (He.cls_ok (c.fact 41 (f := .cls "Sizes") rfl)) (He.meth_ok (c.fact 48 (f := .meth "Sizes" "level_of") rfl)) (ok_level_of T D_check_cells P_top F10) (fun _ _ _ _ _ _ _ ws hl => match ws, hl with | [_], _ => rfl)
  have M_counts_kw : MfXK P w K mg base 5 "Sizes" "counts" ["self", "cells"] ["cells"] [0] (spCounts K) := mfXK F11 (He.cls_ok (c.fact 41 (f := .cls "Sizes") rfl)) (He.meth_ok (c.fact 49 (f := .meth "Sizes" "counts") rfl)) (ok_counts T D_check_cells F11) (fun _ _ _ _ _ _ _ ws hl => match ws, hl with | [_], _ => rfl)
  have M_pieces_kw : MfXK P w K mg base 6 "Sizes" "pieces" ["self", "cells"] ["cells"] [0] (spPieces K) := mfXK F12 (He.cls_ok (c.fact 41 (f := .cls "Sizes") rfl)) (He.meth_ok (c.fact 50 (f := .meth "Sizes" "pieces") rfl)) (ok_pieces T M_counts P_top MT F12) (fun _ _ _ _ _ _ _ ws hl => match ws, hl with | [_], _ => rfl)
  have D__law_rng := df (P := P) (w := w) (base := base) X G (c.fact 5 (f := .glo "_law_rng") rfl) F17 (ps := ["_law_script", "_law_k"]) (fun _ _ _ _ _ _ us hl => match us, hl with | [_, _], _ => rfl) (ok_rng T F17)
  have D__law_draw := df (P := P) (w := w) (base := base) X G (c.fact 6 (f := .glo "_law_draw") rfl) F18 (ps := ["_law_rng_here", "_law_many"]) (fun _ _ _ _ _ _ us hl => match us, hl with | [_, _], _ => rfl) (ok_draw T F18)
  have D__law_choice := df (P := P) (w := w) (base := base) X G (c.fact 7 (f := .glo "_law_choice") rfl) F19 (ps := ["_law_rng_here", "_law_options"]) (fun _ _ _ _ _ _ us hl => match us, hl with | [_, _], _ => rfl) (ok_choice T D__law_draw F19)
  have D__law_sizes := df (P := P) (w := w) (base := base) X G (c.fact 8 (f := .glo "_law_sizes") rfl) F20 (ps := ["_law_rng_here", "_law_levels", "_law_greatest"]) (fun _ _ _ _ _ _ us hl => match us, hl with | [_, _, _], _ => rfl) (ok_sizes T D__law_draw F20)
  have D__law_counts := df (P := P) (w := w) (base := base) X G (c.fact 9 (f := .glo "_law_counts") rfl) F21 (ps := ["_law_own", "_law_amount"]) (fun _ _ _ _ _ _ us hl => match us, hl with | [_, _], _ => rfl) (ok_cts T F21)
  have D__law_fewest := df (P := P) (w := w) (base := base) X G (c.fact 11 (f := .glo "_law_fewest") rfl) F23 (ps := ["_law_own", "_law_amount"]) (fun _ _ _ _ _ _ us hl => match us, hl with | [_, _], _ => rfl) (ok_few T F23)
  have D__law_number := df (P := P) (w := w) (base := base) X G (c.fact 10 (f := .glo "_law_number") rfl) F22 (ps := ["_law_rng_here", "_law_own"]) (fun _ _ _ _ _ _ us hl => match us, hl with | [_, _], _ => rfl) (ok_num T D__law_draw D__law_choice F22)
  have D__law_told := df (P := P) (w := w) (base := base) X G (c.fact 12 (f := .glo "_law_told") rfl) F24 (ps := ["_law_made", "_law_amount"]) (fun _ _ _ _ _ _ us hl => match us, hl with | [_, _], _ => rfl) (ok_told T M_pieces F24)
  have D__law_pieces_right := dfG (P := P) (w := w) (base := base) X G (c.fact 13 (f := .glo "_law_pieces_right") rfl) F25 (ps := ["_law_made", "_law_own", "_law_amount", "_law_due"]) (fun _ _ _ _ _ _ us hl => match us, hl with | [_, _, _, _], _ => rfl) (ok_pr T D__law_told D__law_fewest M_pieces_kw F25)
  have D__law_number_right := dfG (P := P) (w := w) (base := base) X G (c.fact 14 (f := .glo "_law_number_right") rfl) F26 (ps := ["_law_made", "_law_own", "_law_amount"]) (fun _ _ _ _ _ _ us hl => match us, hl with | [_, _, _], _ => rfl) (ok_nr T D__law_counts M_counts M_level_of M_whole M_whole_kw M_level_of_kw M_counts_kw D__law_pieces_right F26)
  have tbf := tab_facts c0
  have bR : L2.Binds K fd27 ["_law_call"] [] := F27.bindsN (fun _ _ _ _ _ _ us hl => match us, hl with | [_], _ => rfl)
  have hcd := tab_code tbf.1 F28
  have D__law_truths_right := dfG (P := P) (w := w) (base := base) X G (c.fact 16 (f := .glo "_law_truths_right") rfl) F28 (ps := ["_law_made"]) (fun _ _ _ _ _ _ us hl => match us, hl with | [_], _ => rfl) ((fun F => ok_tru T M_counts M_pieces M_level_of M_whole F27 (He.glo_ok X G (c.fact 15 (f := .glo "_law_refused") rfl)) bR TB F hcd) F28)
  have D__law_right := dfG (P := P) (w := w) (base := base) X G (c.fact 17 (f := .glo "_law_right") rfl) F29 (ps := ["_law_rng_here"]) (fun _ _ _ _ _ _ us hl => match us, hl with | [_], _ => rfl) (ok_right T D__law_sizes D_Sizes M_all_sizes D__law_number D__law_number_right D__law_truths_right F29)
  exact ok_law T D__law_rng D__law_right F30
end
end K13
open PySem PySem.W PySem.Calls PyProof.Rows
theorem PySem.Challenge.cw_exactroom_k13_whole_pieces_of_objects_holds : PySem.Challenge.rw_exactroom_k13_whole_pieces_of_objects.Holds := by
  w_on; o_law
  refine HandSHeadRun.head_any (r := OpenLaw.row PySem.Challenge.rw_exactroom_k13_whole_pieces_of_objects) (q := view (OpenLaw.row PySem.Challenge.rw_exactroom_k13_whole_pieces_of_objects).prog [29]) (H := K13.hk) (ob := K13.ob) (M := 4000)
    (loose := K13.loose) (d := HandSHeadRun.topDef (OpenLaw.row PySem.Challenge.rw_exactroom_k13_whole_pieces_of_objects).prog 29) (kwd := []) K13.ob_eq
    (by kernel_rfl) (fun s => by kernel_rfl) K13.run (by kernel_rfl) (by kernel_rfl) (by kernel_rfl) (by rfl) (by first | assumption | decide +kernel) (by decide +kernel) ⟨rfl, rfl, rfl, rfl, rfl, by decide +kernel⟩ ?hw ?hc
  case hw => w_witness2
  case hc =>
    refine Gu.walkGT (l := PySem.Challenge.rw_exactroom_k13_whole_pieces_of_objects) (n := 63) (k := 11) (x := "_law_script") (CX := L2.CX0) rfl (by decide) (by kernel_rfl) ⟨⟨rfl, by decide, by decide⟩, rfl⟩ ?F (fun _ _ _ _ z => z)
    intro w mg fa h Y G hmg0
    obtain ⟨K, KX, c, ht⟩ := Y
    have hmg : mg ("law" : PySem.Str) = some (.ref fa) := by
      have e : (HandSHeadRun.topDef (OpenLaw.row PySem.Challenge.rw_exactroom_k13_whole_pieces_of_objects).prog 29).name = ("law" : PySem.Str) := by kernel_rfl
      rw [← e]
      exact hmg0
    obtain ⟨fd, hb, hF⟩ := K13.facts (P := (PySem.Challenge.rw_exactroom_k13_whole_pieces_of_objects).prog) (w := w) KX G hmg c
    obtain ⟨x1, x2, x3⟩ := K13.tab_facts c
    refine ⟨K, fd, K13.spLaw K (Ex.ptA K "_law_truths_right"), [(Ex.cdA K "_law_truths_right", Ex.ptA K "_law_truths_right")], KX, fun p hp => ?_, fun p hp => ?_, fun p hp => ?_, hb, fun H a ns hl h0 hS => ⟨a, ns, rfl, hS, hl, fun p hp => ?_, fun _ => rfl⟩, fun base hK hN hT => hF base hK hN (hT _ (List.mem_singleton.mpr rfl))⟩
    · rw [List.mem_singleton.mp hp]; exact ht
    · rw [List.mem_singleton.mp hp]; exact x3
    · rw [List.mem_singleton.mp hp]; exact PySem.W.codeHd_of_K KX x2
    · rw [List.mem_singleton.mp hp]; exact LamX.TabS.nil (h0.at_ _ (List.mem_singleton.mpr rfl))

