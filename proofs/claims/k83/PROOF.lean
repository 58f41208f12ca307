import PyProof.Rows.All
import Wide.All
import OpenK.AllK
import Wide.FinOn
import PyProof.ReprRoads
import HandS.ForMost
import HandS.ForExc
import HandS.Property
import HandS.ClsMeth
import HandS.Defaults
import HandS.IsInst
import HandS.Wide
import HandS.WideBits
import HandS.Ends
import HandS.HeadEnd
import HandS.Head0
import HandS.Head1
import HandS.Head2
import HandS.HeadHook1
import HandS.HeadHook2
import HandS.Flow
import HandS.Style
import PyProof.LongRange
import HandS.ExcInit
import HandS.ExcField
import HandS.ExcIs
import HandS.TryOnly
import HandS.OwnEq
import KE.KExcInit
import PyProof.ExcBaseAll.ArithmeticError
import PyProof.ExcBaseAll.LookupError
import PyProof.ExcBaseAll.RuntimeError
import HandS.TryMany
import HandS.EndTab
import HandS.Iter
import HandS.Walk
import HandS.GenYield
import HandS.Text
import HandS.Comp
import HandS.Dict
import HandS.Zip
import HandS.More
import HandS.Star
import HandS.TupAny
import HandS.HeadHook3
import KE.KStateDown
import Lean
import PySem.Challenge.RW_exactroom_k83_expressions
set_option Elab.async false
set_option linter.all false
set_option maxRecDepth 100000
set_option maxHeartbeats 4000000
/-! Own layer: defs that are called where no repr is under way (the guards are known to be none), so that repr of data can be walked. -/
namespace Gu
open PySem PySem.Spec PyProof.Rows L2
structure RoomG (k : Nat) (A : Around) : Prop where
  r : Room k A
  g : A.guards = some []
theorem RoomG.mono {j k : Nat} {A : Around} (x : RoomG k A) (h : j ≤ k) : RoomG j A := ⟨x.r.mono h, x.g⟩
theorem RoomG.down {k : Nat} {A : Around} (x : RoomG (k + 1) A) (env : Env) : RoomG k (A.deeper env) := ⟨x.r.deeper env, x.g⟩
structure FnG (P : Program) (w : World) (K : PySem.W.Frag) (mg : Str → Option Value) (base : Heap) (CX : CXT) (k : Nat) (f : Addr) (fd : FuncData) (ps : List Str) (sp : Sp) : Prop where
  len : ∀ vs H Q E, sp vs H Q E → vs.length = ps.length
  run : ∀ (A : Around) (outer : List Env) (s : Shared) (H : Hp) (args : Args) (us : List Value) (vs : List V) (Q : VK) (E : XK),
    RoomG k A → Env0 P w K mg base A outer s H → BindsTo s fd args (ps.zip us) → Vals vs us → sp vs H Q E →
    codeAny (model P w) A (.call (.ref f) args) (CR CX outer P w H s Q E) s
section
variable {P : Program} {w : World} {K : PySem.W.Frag} {mg : Str → Option Value} {base : Heap} {CX : CXT} {k : Nat} {f : Addr} {fd : FuncData} {ps : List Str} {sp : Sp}
theorem FnG.of (F : FnOk P w K mg base CX k f fd ps sp) : FnG P w K mg base CX k f fd ps sp :=
  ⟨F.len, fun A outer s H args us vs Q E hr => F.run A outer s H args us vs Q E hr.r⟩
/-- a def by its body -/
theorem okG {x qual : Str} {params : Arguments} {body : List Stmt} {scope : Scope} {dvs : List V} {kws : List (Str × V)} {N : List Str}
    (F : FunD K x qual params body scope dvs kws f fd) (S : FnScope N ps scope) (len : ∀ vs H Q E, sp vs H Q E → vs.length = ps.length)
    (hbody : ∀ (cdv : Value) (A : Around) (outer : List Env) (s : Shared) (H : Hp) (vs : List V) (Q : VK) (E : XK),
      RoomG k (A.deeper (envOfC qual scope s.heap.objs.size f cdv)) → sp vs H Q E →
      ∃ t, PSs (cxOf CX P w K mg base N qual scope f cdv A outer s H E) body t ∧ t { nx := fun _ H' => Q .non H', rt := Q } (start N vs) H) :
    FnG P w K mg base CX (k + 1) f fd ps sp := by
  obtain ⟨oc, od, dV, kV, doc, pm, an, cdv, ct, osl, rfl, lk, hcd, _, _⟩ := F.ex
  refine ⟨len, fun A outer s H args us vs Q E hr e0 hb rv hsp => ?_⟩
  have KX : K.In s.heap := e0.mod.kin.keeps fun b o e => (e0.bs b o e).1
  have hkinds : ∀ y ∈ ps.zip us, scope.names.lookup y.1 = some .local ∨
      (scope.names.lookup y.1 = some .cell ∧ ((cellsFrom (s.heap.objs.size + 1) scope.names []).lookup y.1).isSome = true) := by
    rintro ⟨n, v⟩ hy
    rcases S.par n (List.of_mem_zip hy).1 with q | q
    · exact .inl q
    · exact .inr ⟨q, PySem.W.cellsFrom_some _ _ _ (.inl q)⟩
  refine codeAny_call_function hr.r.depth (KX _ _ lk) rfl S.co S.gen rfl (PySem.W.codeRec_of KX hcd) (hb _ _ _ _ ?_)
  refine wpAny_newFunctionEnv_cells S.kind hkinds fun env he s1 x => ?_
  subst he
  refine ⟨(e0.mod.nolimit.keeps fun b o e => (e0.bs b o e).1).keeps x.toInCall.keep, codeAny_func ?_⟩
  obtain ⟨t, ht, hq⟩ := hbody cdv A outer s H vs Q E (hr.down _) hsp
  have I := inv_start (CX := CX) (E := E) (N := N) (qual := qual) (f := f) (cd := cdv) S hr.r.hd e0 (len _ _ _ _ hsp) rv x
  refine wpAny_mono (ht.run [] s1 (start N vs) H _ I hq) (fun fl s' hs => ?_) fun e s' hs => hs
  cases fl with
  | ret u =>
    obtain ⟨v, σ', H', J, rv', q⟩ := hs
    exact ⟨v, H', J.os, J.bare, J.base, J.hok, rv', q⟩
  | next =>
    obtain ⟨σ', H', J, q⟩ := hs
    exact ⟨V.non, H', J.os, J.bare, J.base, J.hok, rfl, q⟩
  | brk => exact hs.elim fun _ z => z.elim fun _ z => z.2.elim
  | cont => exact hs.elim fun _ z => z.elim fun _ z => z.2.elim
end
section
variable {X : Cx} {CX : CXT} {k : Nat} {f : Addr} {fd : FuncData} {ps : List Str} {sp : Sp} {dvs : List V} {ds : List Value} {E : XK} {x : Str} {p pos : Pos} {e : Expr} {es : List Expr} {t : TA}
theorem runG {pins : List (Addr × Obj)} {σ : L2.St} {H : Hp} {s : Shared} {Q : VK} {us : List Value} {vs : List V} (F : FnG X.prog X.w X.K X.mg X.base CX k f fd ps sp)
    (hr : RoomG k X.A) (hb : Binds X.K fd ps ds) (hd : Vals dvs ds) (hx : Passes CX X E) (I : Inv X pins σ H s) (r : Vals vs us) (h : sp (vs ++ dvs) H Q E) :
    wpAny (model X.prog X.w) X.A (call (.ref f) us) (EP X pins σ Q) X.xe s := by
  have r2 := r.append hd
  have hl : (us ++ ds).length = ps.length := r2.length.symm.trans (F.len _ _ _ _ h)
  refine wpAny_call (codeAny_mono (F.run X.A X.stack s H ⟨us, []⟩ _ _ Q E hr I.env0 (hb s us I.kIn hl) r2 h) fun r s' hq => ?_)
  match r, hq with
  | .error e, hq => exact hx pins σ H s e s' I hq
  | .ok (.ret u), hq => exact I.after hq
/-- f(e, ..) -/
theorem pe_callG (F : FnG X.prog X.w X.K X.mg X.base CX k f fd ps sp) (hr : RoomG k X.A) (hg : Gl X x) (hm : X.mg x = some (.ref f)) (hk : PySem.W.keepIn X.K (.ref f) = true)
    (hb : Binds X.K fd ps ds) (hd : Vals dvs ds) (hx : Passes CX X E) (ha : PA X (e :: es) t) (hdb : (x == ("__debug__" : Str)) = false := by decide)
    (he : starEach (e :: es) X.env = (false, eval e X.env) :: starEach es X.env := by rfl) (hpl : (backTo pos (starEach es X.env)).any (·.1) = false := by rfl) :
    PE X (.Call (.Name x p) (e :: es) [] pos) (tCall sp dvs E t) :=
  ⟨fun pins s σ H Q I h => wpAny_Call_Name_kw (ld_glob I hg hm (PySem.W.callWith_K (h₀ := X.base) I.ok.mod.kin hk
    (thn (ha.run pos pins s σ H _ I h) fun us s1 ⟨vs, H1, I1, r, q⟩ => ⟨I1.kIn, runG F hr hb hd hx I1 r q⟩) he hpl) hdb)⟩
/-- repr of a list or a tuple of data -/
def rReprD (K : PySem.W.Frag) : List V → Hp → VK → Prop := fun xs H Q => ∃ (a : Addr) (d : PyData), xs = [.ref a] ∧ Dp K H (.ref a) d ∧ d.showable = true ∧ d.hasDict = false ∧ d.depth ≤ 60 ∧ d.shown.length ≤ sizeLine ∧ Q (.str d.shown) H
theorem call_reprD (hr : RoomG k X.A) : CallR X (.builtin "repr") (rReprD X.K) := by
  intro pins s σ H xs us Q I r h
  obtain ⟨a, d, rfl, hd, hs, hn, hdep, hz, q⟩ := h
  obtain ⟨u, rfl, ru⟩ := vals1 r
  obtain rfl : u = Value.ref a := ru
  obtain ⟨as, rd⟩ := Dp.reads I d (.ref a) (.ref a) hd rfl
  have hu := hr.r.units
  exact repr_of_reads' rd hs (PyData.noDict_hsm hn) hr.g (by omega) (fun _ _ e => e) (fun h' u tk hk => ⟨.str d.shown, H, I.kept hk, ⟨u, rfl⟩, q⟩) hz
end
/-- the law's call, from its promise where no repr is under way -/
theorem law_go {P : Program} {w : World} {K : PySem.W.Frag} {mg mb : Str → Option Value} {CX : CXT} {k : Nat} {fa a : Addr} {fd : FuncData} {x : Str} {sp : Sp} {s₁ : Shared} {vs : List Value} {H : Hp}
    (KX : K.In s₁.heap) (hns : s₁.heap.Ns mainGlobals mg) (hb : s₁.heap.Ns builtinsNs mb) (hbb : ∀ x : Str, x ≠ "__name__" → mb x = bootBuiltins x) (hlim : s₁.heap.NoLimit) (hg : s₁.gens = #[])
    (ha : s₁.heap.get? a = some { cls := .type "list", data := .seq vs.toArray }) (hr : RoomG k callerA)
    (F : ∀ base : Heap, K.In base → base.Ns mainGlobals mg → FnG P w K mg base CX k fa fd [x] sp) (hbind : ∀ (s : Shared) (u : Value), BindsTo s fd ⟨[u], []⟩ [(x, u)])
    (hsp : sp [.ref a] H (fun v _ => v = .bl true) fun _ _ _ => False) (hCX : ∀ e s', CX [] H s₁ (fun _ _ _ => False) e s' → False)
    (hO : Only H) (hok : HOk P w H s₁.heap) (hA : ∀ b, H b ≠ none → b = a) (hK : H a ≠ none → K.lookup a = none) :
    codeAny (model P w) callerA (.call (.ref fa) ⟨[.ref a], []⟩) (fun r s' => r = .ok (.ret (.bool true)) ∧ OldK s₁.heap s'.heap ∧ s'.os = s₁.os ∧ AllBare s'.gens) s₁ := by
  have free : ∀ {b : Addr} {o : Obj}, s₁.heap.get? b = some o → (b = a → False) → (hidT s₁.heap H).get? b = some o := fun {b o} e n => hidT_get e (by
    cases q : H b with
    | none => rfl
    | some u => exact (n (hA b (by rw [q]; exact fun z => nomatch z))).elim)
  have nsK : ∀ {b : Addr} {m : Str → Option Value}, s₁.heap.Ns b m → (hidT s₁.heap H).Ns b m := fun {b m} ⟨o, es, ep, e, d, r⟩ => ⟨o, es, ep, free e (fun z => by
    rw [z, ha] at e
    have e' := Option.some.inj e
    rw [← e'] at d
    exact nomatch d), d, r⟩
  have hKb : K.In (hidT s₁.heap H) := fun b o e => hidT_get (KX b o e) (by
    cases q : H b with
    | none => rfl
    | some u =>
      have z : b = a := hA b (by rw [q]; exact fun z => nomatch z)
      rw [z] at e q
      rw [hK (by rw [q]; exact fun z => nomatch z)] at e
      exact nomatch e)
  obtain ⟨mc, l1, l2⟩ := hlim
  have e0 : Env0 P w K mg (hidT s₁.heap H) callerA [] s₁ H :=
    ⟨rfl, ⟨hKb, nsK hns, ⟨mb, nsK hb, hbb⟩, ⟨mc, nsK l1, l2⟩⟩, fun b o e => of_hidT e, Nat.le_of_eq (hidT_size _ _), trivial, fun b hb => absurd (show b ∈ ([] : List Addr) from hb) List.not_mem_nil, hok, .of_eq hg⟩
  refine codeAny_mono ((F _ hKb (nsK hns)).run callerA [] s₁ H ⟨[.ref a], []⟩ [.ref a] [.ref a] _ _ hr e0 (hbind s₁ (.ref a)) (.cons rfl .nil) hsp) fun r s' h => ?_
  match r, h with
  | .error e, h => exact (hCX e s' h).elim
  | .ok (.ret u), h =>
    obtain ⟨v, H', os, bare, un, hok', r', q⟩ := h
    obtain rfl : v = .bl true := q
    obtain rfl : u = Value.bool true := r'
    refine ⟨rfl, OldK.of_keep fun b o e => ?_, os, bare⟩
    cases q : H b with
    | none => exact un.keep b o e q (fun z => absurd (show b ∈ ([] : List Addr) from z) List.not_mem_nil) (fun z => absurd (show b ∈ ([] : List Addr) from z) List.not_mem_nil)
    | some u =>
      rcases hO b with z | ⟨ob, xs, z⟩
      · rw [q] at z
        exact nomatch z
      · obtain ⟨e1, _⟩ := hok b _ z
        obtain ⟨e2, _⟩ := hok' b _ (un.frzs b ob _ z)
        rw [e] at e1
        rw [Option.some.inj e1]
        exact e2
theorem law_callG {P : Program} {w : World} {K : PySem.W.Frag} {mg mb : Str → Option Value} {CX : CXT} {k : Nat} {fa a : Addr} {fd : FuncData} {x : Str} {sp : Sp} {s₁ : Shared} {vs : List Value} {ns : List Int}
    (KX : K.In s₁.heap) (hns : s₁.heap.Ns mainGlobals mg) (hb : s₁.heap.Ns builtinsNs mb) (hbb : ∀ x : Str, x ≠ "__name__" → mb x = bootBuiltins x) (hlim : s₁.heap.NoLimit) (hg : s₁.gens = #[])
    (ha : s₁.heap.get? a = some { cls := .type "list", data := .seq vs.toArray }) (hi : IntsAre vs ns) (hl : ns.length ≤ sizeLine) (hr : RoomG k callerA)
    (F : ∀ base : Heap, K.In base → base.Ns mainGlobals mg → FnG P w K mg base CX k fa fd [x] sp) (hbind : ∀ (s : Shared) (u : Value), BindsTo s fd ⟨[u], []⟩ [(x, u)])
    (hsp : ∀ H : Hp, Only H → SqL K H a (ns.map V.int) → sp [.ref a] H (fun v _ => v = .bl true) fun _ _ _ => False) (hCX : ∀ H e s', CX [] H s₁ (fun _ _ _ => False) e s' → False) :
    codeAny (model P w) callerA (.call (.ref fa) ⟨[.ref a], []⟩) (fun r s' => r = .ok (.ret (.bool true)) ∧ OldK s₁.heap s'.heap ∧ s'.os = s₁.os ∧ AllBare s'.gens) s₁ := by
  have rv := vals_ints hi
  have lenV := hi.length
  cases hk : K.lookup a with
  | some o =>
    have e := (KX a o hk).symm.trans ha
    obtain rfl := Option.some.inj e
    have hO : Only (fun _ => none) := fun _ => .inl rfl
    exact law_go (H := fun _ => none) KX hns hb hbb hlim hg ha hr F hbind
      (hsp _ hO (.inr ⟨_, vs.toArray, _, hk, rfl, rfl, rfl, by rw [List.size_toArray, lenV]; exact hl, by simpa using rv⟩)) (hCX _) hO
      (fun b u z => nomatch (show (none : Option HO) = some u from z)) (fun b z => (z rfl).elim) (fun z => (z rfl).elim)
  | none =>
    let H0 : Hp := fun b => if b = a then some (.frz { cls := .type "list", data := .seq vs.toArray } (.lst (ns.map V.int))) else none
    have at_ : H0 a = some (.frz { cls := .type "list", data := .seq vs.toArray } (.lst (ns.map V.int))) := if_pos rfl
    have off : ∀ b, b ≠ a → H0 b = none := fun b h => if_neg h
    have hO : Only H0 := fun b => by
      by_cases h : b = a
      · rw [h]
        exact .inr ⟨_, _, at_⟩
      · exact .inl (off b h)
    refine law_go (H := H0) KX hns hb hbb hlim hg ha hr F hbind (hsp _ hO (.inl (.inr ⟨_, at_⟩))) (hCX _) hO (fun b u z => ?_) (fun b z => ?_) (fun _ => hk)
    · by_cases h : b = a
      · rw [h, at_] at z
        obtain rfl := Option.some.inj z
        rw [h]
        exact ⟨ha, by rw [List.length_map]; exact hl, vs, _, rv, ha⟩
      · rw [off b h] at z
        exact nomatch z
    · by_cases h : b = a
      · exact h
      · exact (z (off b h)).elim
/-- the end of a law, over a head by facts -/
theorem walkG {l : PySem.W.OpenLaw} {n k : Nat} {q : Program} {loose : List Str} {XP : (Str → Option Value) → Heap → Prop} {YP : World → Heap → Prop} {d : DefRec} {CX : CXT} {x : Str}
    (hn : l.most = some n) (hn2 : n ≤ sizeLine) (hdf : d.params.defaults = []) (hr : RoomG k callerA)
    (F : ∀ (w : World) (mg : Str → Option Value) (fa : Addr) (h : Heap), YP w h → h.Ns mainGlobals mg → mg d.name = some (.ref fa) →
      ∃ (K : PySem.W.Frag) (fd : FuncData) (sp : Sp), K.In h ∧ (∀ (s : Shared) (u : Value), BindsTo s fd ⟨[u], []⟩ [(x, u)]) ∧
        (∀ (H : Hp) (a : Addr) (ns : List Int), ns.length ≤ n → Only H → SqL K H a (ns.map V.int) → sp [.ref a] H (fun v _ => v = .bl true) fun _ _ _ => False) ∧
        ∀ base : Heap, K.In base → base.Ns mainGlobals mg → FnG l.prog w K mg base CX k fa fd [x] sp)
    (hCX : ∀ (H : Hp) (s : Shared) (e : Value) (s' : Shared), CX [] H s (fun _ _ _ => False) e s' → False) :
    PySem.W.WalkO q loose XP YP l.row.toRowW d [] (fun f vs => PySem.call f vs) := by
  refine Att.attach_call hn hdf fun w s₀ s₁ mg mb fa o pm cd doc a vs ns G Y ho hd hcd hmg hobj hints hlen hg => ?_
  obtain ⟨K, fd, sp, KX, hb, hsp, hF⟩ := F w mg fa _ Y G.T.g hmg
  exact law_callG KX G.T.g G.T.b G.T.builtins G.T.nolimit hg hobj hints (Nat.le_trans hlen hn2) hr hF hb (fun H hO hS => hsp H a ns hlen hO hS) fun H e s' => hCX H s₁ e s'
end Gu

set_option Elab.async false
set_option linter.all false
set_option maxRecDepth 100000
set_option maxHeartbeats 4000000
/-! Own layer: defs, methods, makers and properties by their names. -/
namespace Ex
open PySem PySem.Spec PyProof.Rows L2 Gu
section
variable (P : Program) (w : World) (K : PySem.W.Frag) (mg : Str → Option Value) (base : Heap)
/-- the module's def x keeps sp -/
structure Df (k : Nat) (x : Str) (ps : List Str) (sp : Sp) : Prop where
  ex : ∃ fd, FnOk P w K mg base CX0 k (He.ga K x) fd ps sp ∧ Binds K fd ps []
  gl : mg x = some (.ref (He.ga K x))
  kp : PySem.W.keepIn K (.ref (He.ga K x)) = true
structure DfG (k : Nat) (x : Str) (ps : List Str) (sp : Sp) : Prop where
  ex : ∃ fd, FnG P w K mg base CX0 k (He.ga K x) fd ps sp ∧ Binds K fd ps []
  gl : mg x = some (.ref (He.ga K x))
  kp : PySem.W.keepIn K (.ref (He.ga K x)) = true
/-- .. called by keywords ks alone; j: the places of the parameters among the keywords -/
structure DfK (k : Nat) (x : Str) (ps ks : List Str) (j : List Nat) (sp : Sp) : Prop where
  ex : ∃ fd, FnOk P w K mg base CX0 k (He.ga K x) fd ps sp ∧ ∀ (s : Shared) (ws : List Value), ws.length = ks.length → BindsTo s fd ⟨[], ks.zip ws⟩ (ps.zip (j.filterMap fun i => ws[i]?))
  gl : mg x = some (.ref (He.ga K x))
  kp : PySem.W.keepIn K (.ref (He.ga K x)) = true
structure Mf (k : Nat) (c m : Str) (ps : List Str) (sp : Sp) : Prop where
  ex : ∃ fd, FnOk P w K mg base CX0 k (He.ma K (He.ga K c) m) fd ps sp ∧ Binds K fd ps []
  cl : Cls K (He.ga K c)
  me : Meth K (He.ga K c) m (He.ma K (He.ga K c) m)
structure Pf (k : Nat) (c m : Str) (sp : Sp) : Prop where
  cl : Cls K (He.ga K c)
  ex : ∃ (p g : Addr) (fd : FuncData), PropOf K (He.ga K c) m p g ∧ FnOk P w K mg base CX0 k g fd ["self"] sp ∧ Binds K fd ["self"] []
structure Kf (k : Nat) (c : Str) (ps : List Str) (sp : Sp) : Prop where
  ex : ∃ fd, FnOk P w K mg base CX0 k (He.ma K (He.ga K c) "__init__") fd ps sp ∧ Binds K fd ps []
  gl : mg c = some (.ref (He.ga K c))
  mkr : Mk K (He.ga K c) (He.ma K (He.ga K c) "__init__")
end
section
variable {X : Cx} {k j : Nat} {x c m : Str} {ps ks : List Str} {ji : List Nat} {sp : Sp} {p pos apos : Pos} {e o : Expr} {es : List Expr} {kws : List Keyword} {t tk : TA} {ta : TE}
theorem pcall (D : Df X.prog X.w X.K X.mg X.base k x ps sp) (hr : Room j X.A) (ha : PA X (e :: es) t) (hj : k ≤ j := by decide) (hg : Gl X x := by rfl) (hdb : (x == ("__debug__" : Str)) = false := by decide)
    (he : starEach (e :: es) X.env = (false, eval e X.env) :: starEach es X.env := by rfl) (hpl : (backTo pos (starEach es X.env)).any (·.1) = false := by rfl) :
    PE X (.Call (.Name x p) (e :: es) [] pos) (tCall sp [] E0 t) := by
  obtain ⟨fd, F, b⟩ := D.ex
  exact pe_call F (hr.mono hj) hg D.gl D.kp b .nil pass0 ha hdb he hpl
theorem pcallG (D : DfG X.prog X.w X.K X.mg X.base k x ps sp) (hr : RoomG j X.A) (ha : PA X (e :: es) t) (hj : k ≤ j := by decide) (hg : Gl X x := by rfl) (hdb : (x == ("__debug__" : Str)) = false := by decide)
    (he : starEach (e :: es) X.env = (false, eval e X.env) :: starEach es X.env := by rfl) (hpl : (backTo pos (starEach es X.env)).any (·.1) = false := by rfl) :
    PE X (.Call (.Name x p) (e :: es) [] pos) (tCall sp [] E0 t) := by
  obtain ⟨fd, F, b⟩ := D.ex
  exact pe_callG F (hr.mono hj) hg D.gl D.kp b .nil pass0 ha hdb he hpl
def tKw (sp : Sp) (n : Nat) (j : List Nat) (tk : TA) : TE := fun σ H Q => tk σ H fun zs H2 => zs.length = n ∧ sp (j.filterMap fun i => zs[i]?) H2 Q E0
theorem vals_pick {zs : List V} {ws : List Value} (r : Vals zs ws) : ∀ j : List Nat, Vals (j.filterMap fun i => zs[i]?) (j.filterMap fun i => ws[i]?)
  | [] => .nil
  | i :: j => by
    rw [List.filterMap_cons, List.filterMap_cons]
    cases e : zs[i]? with
    | none =>
      rw [r.none_of e]
      exact vals_pick r j
    | some z =>
      obtain ⟨u, hu, ru⟩ := r.get e
      rw [hu]
      exact .cons ru (vals_pick r j)
theorem pcallK (D : DfK X.prog X.w X.K X.mg X.base k x ps ks ji sp) (hr : Room j X.A) (hkw : PK X kws tk) (hj : k ≤ j := by decide) (hg : Gl X x := by rfl)
    (hall : (backToKw pos (keywordEach kws X.env)).all (·.1.isSome) = true := by rfl) (hks : (backToKw pos (keywordEach kws X.env)).filterMap (·.1) = ks := by rfl)
    (hdb : (x == ("__debug__" : Str)) = false := by decide)
    (hpl : ((backTo pos (starEach [] X.env)).any (·.1) || (backToKw pos (keywordEach kws X.env)).any (·.1.isNone)) = false := by rfl) :
    PE X (.Call (.Name x p) [] kws pos) (tKw sp ks.length ji tk) := by
  obtain ⟨fd, F, b⟩ := D.ex
  refine ⟨fun pins s σ H Q I h => wpAny_Call_Name_kw (ld_glob I hg D.gl ?_ hdb)⟩
  refine PySem.W.callWith_KW0 (h₀ := X.base) I.ok.mod.kin D.kp hall (thn (hkw.run pos pins s σ H _ I h) fun ws s2 ⟨zs, H2, I2, rz, l2, q2⟩ => ⟨I2.kIn, ?_⟩) hpl
  rw [hks]
  refine wpAny_call (codeAny_mono (F.run X.A X.stack s2 H2 ⟨[], ks.zip ws⟩ _ _ Q E0 (hr.mono hj) I2.env0 (b s2 ws (rz.length.symm.trans l2)) (vals_pick rz ji) q2) fun r s' hq => ?_)
  match r, hq with
  | .ok (.ret u), hq => exact I2.after hq
theorem pmeth {pl : Sem Bool} (D : Mf X.prog X.w X.K X.mg X.base k c m ps sp) (hr : Room j X.A) (he : PE X o ta) (ha : PA X (e :: es) t) (hj : k ≤ j := by decide)
    (hst : starEach (e :: es) X.env = (false, eval e X.env) :: starEach es X.env := by rfl) (hpl : (backTo pos (starEach es X.env)).any (·.1) = false := by rfl)
    (ht : eval (.Call (.Attribute o m apos) (e :: es) [] pos) X.env = (do
      let ov ← eval o X.env
      standAt apos.atName
      let (f, first) ← holding [ov] (getMethod ov m pl)
      callWith pos f first (backTo pos (starEach (e :: es) X.env)) (backToKw pos (keywordEach [] X.env))) := by rfl) :
    PE X (.Call (.Attribute o m apos) (e :: es) [] pos) (tMeth (He.ga X.K c) m sp [] E0 ta t) := by
  obtain ⟨fd, F, b⟩ := D.ex
  exact pe_meth he D.cl D.me F (hr.mono hj) b .nil pass0 ha hst hpl ht
theorem pmeth0 {pl : Sem Bool} (D : Mf X.prog X.w X.K X.mg X.base k c m ps sp) (hr : Room j X.A) (he : PE X o ta) (hj : k ≤ j := by decide)
    (ht : eval (.Call (.Attribute o m apos) [] [] pos) X.env = (do
      let ov ← eval o X.env
      standAt apos.atName
      let (f, first) ← holding [ov] (getMethod ov m pl)
      callWith pos f first (backTo pos (starEach [] X.env)) (backToKw pos (keywordEach [] X.env))) := by rfl) :
    PE X (.Call (.Attribute o m apos) [] [] pos) (tMeth (He.ga X.K c) m sp [] E0 ta tNil) := by
  obtain ⟨fd, F, b⟩ := D.ex
  exact pe_meth0 he D.cl D.me F (hr.mono hj) b .nil pass0 ht
theorem pprop (D : Pf X.prog X.w X.K X.mg X.base k c m sp) (hr : Room j X.A) (he : PE X o ta) (hj : k + 1 ≤ j := by decide) (hab : attributeBase o m X.env (eval o X.env) = eval o X.env := by rfl) :
    PE X (.Attribute o m pos) (tProp (He.ga X.K c) sp [] E0 ta) := by
  obtain ⟨p, g, fd, hp, F, b⟩ := D.ex
  exact pe_prop he D.cl hp F (hr.mono hj) b .nil pass0 hab
theorem pmake (D : Kf X.prog X.w X.K X.mg X.base k c ps sp) (hr : Room j X.A) (ha : PA X (e :: es) t) (hj : k + 1 ≤ j := by decide) (hg : Gl X c := by rfl) (hdb : (c == ("__debug__" : Str)) = false := by decide)
    (he : starEach (e :: es) X.env = (false, eval e X.env) :: starEach es X.env := by rfl) (hpl : (backTo pos (starEach es X.env)).any (·.1) = false := by rfl) :
    PE X (.Call (.Name c p) (e :: es) [] pos) (tMake (He.ga X.K c) sp [] E0 t) := by
  obtain ⟨fd, F, b⟩ := D.ex
  exact pe_make D.mkr F (hr.mono hj) hg D.gl b .nil pass0 ha hdb he hpl
end
end Ex

set_option Elab.async false
set_option linter.all false
set_option maxRecDepth 100000
set_option maxHeartbeats 4000000
/-! Own layer: range(a, b) of any whole numbers (walked by one or the other iterator of the machine). -/
namespace Ex
open PySem PySem.Spec PyProof.Rows L2 Gu
theorem turn_long {P : Program} {w : World} {K : PySem.W.Frag} {tg : Expr} (it : Addr) (lo : Int) (n : Nat) :
    Turn P w K tg (Itr lo n) [it] it (fun i h => IsLongIter h it (lo + (i : Nat) * 1) ((n : Int) - (i : Nat)) 1) where
  mem := List.mem_singleton.mpr rfl
  obj := fun i h st b hb => by
    obtain rfl := List.mem_singleton.mp hb
    exact ⟨_, st, fun v z => nomatch (show Data.fields _ = Data.cell v from z)⟩
  keep := fun i h h' st k => k it (List.mem_singleton.mpr rfl) _ st
  item := by
    rintro X rfl rfl rfl hc i pins s σ H E I hf st hg
    obtain ⟨f0, f1, f2, f3, f4, f5⟩ := hf it (List.mem_singleton.mpr rfl)
    refine (Walks.longrange (prog := X.prog) (w := X.w) (I.ok.hd hc) it lo 1 n).item i s _ _ hg st fun v h' tk hv st' kk => ?_
    obtain ⟨t, rfl⟩ := hv
    have J : Inv X pins σ H { s with heap := h', toks := tk } := I.turned (fun b o hb e => kk b o (fun z => hb (List.mem_singleton.mp z)) e) f0 f1 f3 f4 f5
    refine ⟨_, rfl, go_of (s := { s with heap := h', toks := tk }) (n := "longrange_iterator") st' rfl rfl (by decide) ⟨.int (lo + i), H, J, ⟨t, ?_⟩, ⟨rfl, rfl⟩, st', fun b hb => (hf b hb).1⟩⟩
    rw [Int.mul_one]
  done := by
    rintro X rfl rfl rfl hc i pins s σ H E I hf st hg
    obtain ⟨f0, f1, f2, f3, f4, f5⟩ := hf it (List.mem_singleton.mpr rfl)
    have hn : n ≤ i := hg
    exact wpAny_pyNext_long_end (I.ok.hd hc) st (by omega) fun h' eb => ⟨rfl, I.turned (t' := s.toks) (fun b o hb e => eb b o hb e) f0 f1 f3 f4 f5⟩
  self := fun _ _ _ _ _ st h => wpAny_pyIter_longiter st h
section
variable {X : Cx} {tg : Expr}
theorem range_any {pins : List (Addr × Obj)} {σ : L2.St} {H : Hp} {s : Shared} {R : It → Hp → Prop} {E : Value → Shared → Prop} {lo hi : Int} {t u v : Tok} {tk : Nat} (I : Inv X pins σ H s) (q : R (Itr lo (hi - lo).toNat) H) :
    wpAny (model X.prog X.w) X.A (pyIter (.ref s.heap.objs.size)) (PIE X pins σ tg R) E { s with heap := s.heap.push { cls := .type "range", data := .fields #[.int lo t, .int hi u, .int 1 v] }, toks := tk } := by
  have J : Inv X pins σ H { s with heap := s.heap.push { cls := .type "range", data := .fields #[.int lo t, .int hi u, .int 1 v] }, toks := tk } := I.kept fun b o e => Heap.get?_push_of_some _ e
  have e1 : lo + ((0 : Nat) : Int) * 1 = lo := by simp
  have e2 : (((hi - lo).toNat : Nat) : Int) - ((0 : Nat) : Int) = Builtin.Range.rangeSize lo hi 1 := by rw [rangeSize_one]; split <;> omega
  have fr : ∀ b ∈ [(s.heap.push { cls := .type "range", data := .fields #[.int lo t, .int hi u, .int 1 v] }).objs.size], _ := fun b hb => by
    obtain rfl := List.mem_singleton.mp hb
    exact J.fpOk (Nat.le_refl _) (J.hok.fresh (Nat.le_refl _))
  cases hs : Builtin.Range.small lo hi 1 with
  | true =>
    refine wpAny_pyIter_range (IsRange.new ..) hs ⟨_, [_], _, _, H, rfl, J.kept (t' := tk) fun b o e => Heap.get?_push_of_some _ e, turn_range _ lo (hi - lo).toNat, ?_, fr, q⟩
    show IsRangeIter _ _ (lo + ((0 : Nat) : Int) * 1) ((((hi - lo).toNat : Nat) : Int) - ((0 : Nat) : Int)) 1
    rw [e1, e2]
    exact Heap.get?_push_size _ rfl
  | false =>
    refine wpAny_pyIter_longrange (IsRange.new ..) hs ⟨_, [_], _, _, H, rfl, J.kept (t' := tk) fun b o e => Heap.get?_push_of_some _ e, turn_long _ lo (hi - lo).toNat, ?_, fr, q⟩
    show IsLongIter _ _ (lo + ((0 : Nat) : Int) * 1) ((((hi - lo).toNat : Nat) : Int) - ((0 : Nat) : Int)) 1
    rw [e1, e2]
    exact Heap.get?_push_size _ rfl
def iRngA (ta : TA) : TI := fun σ H R => ta σ H fun vs H1 => ∃ i j : Int, vs = [.int i, .int j] ∧ R (Itr i (j - i).toNat) H1
theorem pi_rangeA {a b : Expr} {ta : TA} {p pos : Pos} (hg : Gl X "range") (hm : X.mg "range" = none) (ha : PA X [a, b] ta) (hs : starEach [a, b] X.env = [(false, eval a X.env), (false, eval b X.env)] := by rfl)
    (hs2 : starEach [b] X.env = [(false, eval b X.env)] := by rfl) : PI X tg (.Call (.Name "range" p) [a, b] [] pos) (iRngA ta) := by
  refine ⟨fun pins s σ H R I h => Call_ (ld_blt I hg hm boot_range (PyProof.Rows.callWith_type1 (thn (ha.run pos pins s σ H _ I h) fun us s1 ⟨vs, H1, I1, r1, q1⟩ => ?_) (by rw [hs, hs2]) (by rw [hs2]; rfl)))⟩
  obtain ⟨i, j, rfl, q⟩ := q1
  obtain ⟨u, z, rfl, ⟨t, rfl⟩, ⟨t', rfl⟩⟩ := vals2 r1
  exact call_range_2 (range_any I1 q)
end
end Ex

set_option Elab.async false
set_option linter.all false
set_option maxRecDepth 100000
set_option maxHeartbeats 4000000
/-! Own layer: data of any depth, dicts among it, as repr shows it. -/
namespace Ex
open PySem PySem.Spec PyProof.Rows L2 Gu
mutual
inductive Dq (K : PySem.W.Frag) (H : Hp) : V → PyData → Prop
  | non : Dq K H .non .none
  | bl (b : Bool) : Dq K H (.bl b) (.bool b)
  | int (i : Int) : Dq K H (.int i) (.int i)
  | str (x : Str) : Dq K H (.str x) (.str x)
  | lst {a : Addr} {xs : List V} {ds : List PyData} : SqL K H a xs → DqAll K H xs ds → Dq K H (.ref a) (.list ds)
  | tup {a : Addr} {xs : List V} {ds : List PyData} : SqT K H a xs → DqAll K H xs ds → Dq K H (.ref a) (.tuple ds)
  | dct {a : Addr} {kvs : List (Key × V)} {ds : List (PyData × PyData)} : H a = some (.dK kvs) → DqAll K H (kvs.map fun p => kV p.1) (ds.map (·.1)) → DqAll K H (kvs.map (·.2)) (ds.map (·.2)) → Dq K H (.ref a) (.dict ds)
inductive DqAll (K : PySem.W.Frag) (H : Hp) : List V → List PyData → Prop
  | nil : DqAll K H [] []
  | cons {v : V} {vs : List V} {d : PyData} {ds : List PyData} : Dq K H v d → DqAll K H vs ds → DqAll K H (v :: vs) (d :: ds)
end
/-- the table of modules stands in the written part: no list lies there -/
def SysOk (K : PySem.W.Frag) : Prop := ∃ o, K.lookup sysModules = some o ∧ o.cls ≠ .type "list"
section
variable {X : Cx} {pins : List (Addr × Obj)} {σ : L2.St} {H : Hp} {s : Shared}
theorem key_rel {k : Key} {v : Value} (h : keyIs k v = true) : RelV (kV k) v := by
  rcases keyIs_shape h with ⟨i, t, rfl, rfl⟩ | ⟨x, t, rfl, rfl⟩
  · exact ⟨t, rfl⟩
  · exact ⟨t, rfl⟩
theorem not_sys {a : Addr} {o : Obj} (hs : SysOk X.K) (I : Inv X pins σ H s) (ho : s.heap.get? a = some o) (hc : o.cls = .type "list") : a ≠ sysModules := fun z => by
  obtain ⟨u, e, n⟩ := hs
  have h2 := I.kIn _ _ e
  rw [z, h2] at ho
  rw [Option.some.inj ho] at n
  exact n hc
theorem pairs_rel {es : List DictEntry} {vs : List (Key × Value)} (h : Pairs (mixKind X.prog X.w) es vs) : ∀ {kvs : List (Key × V)}, KV kvs vs → Vals (kvs.map fun p => kV p.1) (es.map (·.key)) ∧ Vals (kvs.map (·.2)) (es.map (·.val)) := by
  induction h with
  | nil =>
    intro kvs r
    cases r
    exact ⟨.nil, .nil⟩
  | @cons e kv es vs h1 h2 h3 ih =>
    intro kvs r
    cases r with
    | @cons p _ l _ r1 r2 =>
      obtain ⟨i1, i2⟩ := ih r2
      have k1 : RelV (kV p.1) e.key := by
        rw [r1.1]
        exact key_rel h1
      have k2 : RelV p.2 e.val := by
        rw [h2]
        exact r1.2
      exact ⟨.cons k1 i1, .cons k2 i2⟩
mutual
theorem Dq.reads (hs : SysOk X.K) (I : Inv X pins σ H s) : ∀ {v : V} {d : PyData}, Dq X.K H v d → ∀ u, RelV v u → ∃ as, Reads s.heap u d as ∧ sysModules ∉ as
  | _, _, .non, u, r => by
    cases r
    exact ⟨_, Reads.none, List.not_mem_nil⟩
  | _, _, .bl b, u, r => by
    cases r
    exact ⟨_, Reads.bool b, List.not_mem_nil⟩
  | _, _, .int i, u, r => by
    obtain ⟨t, rfl⟩ := r
    exact ⟨_, Reads.int i t, List.not_mem_nil⟩
  | _, _, .str x, u, r => by
    obtain ⟨t, rfl⟩ := r
    exact ⟨_, Reads.str x t, List.not_mem_nil⟩
  | _, _, .lst (a := a) hq ha, u, r => by
    cases r
    obtain ⟨its, rv, ⟨o, n, ho, hc, _, hd⟩, _⟩ := I.list hq
    obtain ⟨as, hr, na⟩ := Dq.readsAll hs I ha its rv
    refine ⟨_, Reads.list ho hc hd hr, fun hm => ?_⟩
    rcases List.mem_cons.mp hm with z | z
    · exact not_sys hs I ho hc z.symm
    · exact na z
  | _, _, .tup (a := a) hq ha, u, r => by
    cases r
    obtain ⟨its, rv, ⟨o, ho, hc, n, hd⟩, _⟩ := I.tuple hq
    obtain ⟨as, hr, na⟩ := Dq.readsAll hs I ha its rv
    exact ⟨_, Reads.tuple ho hc hd hr, na⟩
  | _, _, .dct (a := a) (kvs := kvs) hq h1 h2, u, r => by
    cases r
    obtain ⟨_, ns, vs, rk, o, es, ep, ho, hx, hd, _, hp, _⟩ := (show ObjOk X.prog X.w H s.heap a (.dK kvs) from I.hok a _ hq)
    obtain ⟨r1, r2⟩ := pairs_rel hp rk
    obtain ⟨as, q1, n1⟩ := Dq.readsAll hs I h1 _ r1
    obtain ⟨bs, q2, n2⟩ := Dq.readsAll hs I h2 _ r2
    refine ⟨_, Reads.dict ho hx.1 hd q1 q2, fun hm => ?_⟩
    rcases List.mem_append.mp hm with z | z
    · rcases List.mem_cons.mp z with z | z
      · rw [← z, beq_self_eq_true] at ns
        cases ns
      · exact n1 z
    · exact n2 z
theorem Dq.readsAll (hs : SysOk X.K) (I : Inv X pins σ H s) : ∀ {vs : List V} {ds : List PyData}, DqAll X.K H vs ds → ∀ us : List Value, Vals vs us → ∃ as, ReadsAll s.heap us ds as ∧ sysModules ∉ as
  | _, _, .nil, us, r => by
    cases r
    exact ⟨_, ReadsAll.nil, List.not_mem_nil⟩
  | _, _, .cons h1 h2, us, r => by
    cases r with
    | cons r1 r2 =>
      obtain ⟨as, q1, n1⟩ := Dq.reads hs I h1 _ r1
      obtain ⟨bs, q2, n2⟩ := Dq.readsAll hs I h2 _ r2
      refine ⟨_, ReadsAll.cons q1 q2, fun hm => ?_⟩
      rcases List.mem_append.mp hm with z | z
      · exact n1 z
      · exact n2 z
end
end
section
variable {X : Cx} {k : Nat}
/-- repr of any data -/
def rReprQ (K : PySem.W.Frag) : List V → Hp → VK → Prop := fun xs H Q => ∃ (v : V) (d : PyData), xs = [v] ∧ Dq K H v d ∧ d.showable = true ∧ d.depth ≤ 60 ∧ d.shown.length ≤ sizeLine ∧ Q (.str d.shown) H
theorem call_reprQ (hr : RoomG k X.A) (hs : SysOk X.K) : CallR X (.builtin "repr") (rReprQ X.K) := by
  intro pins s σ H xs us Q I r h
  obtain ⟨v, d, rfl, hd, hsh, hdep, hz, q⟩ := h
  obtain ⟨u, rfl, ru⟩ := vals1 r
  obtain ⟨as, rd, na⟩ := Dq.reads hs I hd u ru
  have hu := hr.r.units
  cases hd with
  | non =>
    cases ru
    exact PySem.P.repr_of_none ⟨.str _, H, I.tok _, ⟨_, rfl⟩, by simpa only [PyData.shown] using q⟩
  | bl b =>
    cases ru
    exact PySem.P.repr_of_bool ⟨.str _, H, I.tok _, ⟨_, rfl⟩, by simpa only [PyData.shown] using q⟩
  | int i =>
    obtain ⟨t, rfl⟩ := ru
    exact PySem.P.repr_of_int (by simpa [PyData.showable] using hsh) ⟨.str _, H, I.tok _, ⟨_, rfl⟩, by simpa only [PyData.shown] using q⟩
  | str x =>
    obtain ⟨t, rfl⟩ := ru
    exact PySem.P.repr_of_str ⟨.str _, H, I.tok _, ⟨_, rfl⟩, by simpa only [PyData.shown] using q⟩ (by simpa only [PyData.shown] using hz)
  | @lst a xs ds hq ha =>
    obtain rfl : u = Value.ref a := ru
    exact repr_of_reads' rd hsh (fun _ => na) hr.g (by omega) (fun _ _ e => e) (fun h' u tk hk => ⟨.str _, H, I.kept hk, ⟨u, rfl⟩, q⟩) hz
  | @tup a xs ds hq ha =>
    obtain rfl : u = Value.ref a := ru
    exact repr_of_reads' rd hsh (fun _ => na) hr.g (by omega) (fun _ _ e => e) (fun h' u tk hk => ⟨.str _, H, I.kept hk, ⟨u, rfl⟩, q⟩) hz
  | @dct a kvs ds hq h1 h2 =>
    obtain rfl : u = Value.ref a := ru
    exact repr_of_reads' rd hsh (fun _ => na) hr.g (by omega) (fun _ _ e => e) (fun h' u tk hk => ⟨.str _, H, I.kept hk, ⟨u, rfl⟩, q⟩) hz
/-- x is not True, x is not False, of any scalar -/
def rNotBA : R2 := fun x y H Q => ∃ b : Bool, y = .bl b ∧ ((∃ a : Bool, x = .bl a ∧ Q (.bl (!decide (a = b))) H) ∨ (∃ i : Int, x = .int i ∧ Q (.bl true) H))
theorem op_notBA : OpR X (compareOp .IsNot) rNotBA := by
  intro pins s σ H x y v u Q I rx ry h
  obtain ⟨b, rfl, h⟩ := h
  rcases h with ⟨a, rfl, q⟩ | ⟨i, rfl, q⟩
  · exact op_notBl pins s σ H _ _ v u Q I rx ry ⟨a, b, rfl, rfl, q⟩
  · cases (show u = Value.bool b from ry)
    obtain ⟨t, rfl⟩ := (show ∃ t, v = Value.int i t from rx)
    exact wpAny_isNot_other rfl (fun z => nomatch z) ⟨.bl true, H, I, rfl, q⟩
end
end Ex

set_option Elab.async false
set_option linter.all false
set_option maxRecDepth 100000
set_option maxHeartbeats 4000000
/-! Own layer: isinstance of a caught error that has a dict of its own; errors with fields, raised. -/
namespace Ex
open PySem PySem.Spec PySem.Calls PyProof.Rows L2 Gu
section
variable {prog : Program} {w : World} {A : Around} {E : Value → Shared → Prop} {s : Shared} {K : PySem.W.Frag} {x D : Addr} {ox od : Obj}
theorem class_of_exc {Q : Option Value → Shared → Prop} (c : ExcC K D) (X : K.In s.heap) (I : PySem.W.InstAt s.heap x ox D (some od)) (h : Q (some (.ref D)) { s with toks := s.toks + 1 }) :
    wpAny (model prog w) A (getAttr? (.ref x) "__class__") Q E s := by
  have found : PySem.W.findObj K D (some od) "__class__" = some (.bind (.builtin "getset_descriptor.__get__") (.builtin "object.__class__")) :=
    PySem.W.findObj_data (by obtain ⟨cd, e, _⟩ := PySem.W.any_some c.hd; rw [e]; rfl) c.ha c.hn c.ht
  obtain ⟨hp, g, d, t, os⟩ := s
  have lt := I.type (M := model prog w)
  have lg := PySem.W.looks_findIn (M := model prog w) X c.hg
  have lk := PySem.W.looks_findIn (M := model prog w) X c.hk
  have lf := PySem.W.looks_find (M := model prog w) X I found
  have other : (onTheHeap (Value.ref D) && Value.builtin "BaseException.__getattribute__" == Value.builtin "object.__getattribute__") = false := by
    rw [show (Value.builtin "BaseException.__getattribute__" == Value.builtin "object.__getattribute__") = false by decide +kernel]
    rfl
  unfold getAttr? getAttrBy? getAttrBy
  refine wpAny_bind (wpAny_mkText (wpAny_bind (wpAny_attempt (wpAny_holding (wpAny_bind (lt.at (wpAny_bind (lg.at ?own))))))))
  case own =>
    show wpAny _ _ (if (onTheHeap (Value.ref D) && Value.builtin "BaseException.__getattribute__" == Value.builtin "object.__getattribute__") = true then _ else _) _ _ _
    rw [other, if_neg Bool.false_ne_true]
    unfold getAttrByItsOwn hookBefore
    refine wpAny_bind ?_
    rw [if_pos (show onTheHeap (Value.ref D) = true from rfl)]
    refine lk.at (wpAny_bind (wpAny_attempt (wpAny_holding ?_)))
    unfold callGetattribute
    rw [show (false && onTheHeap (Value.builtin "BaseException.__getattribute__")) = false from rfl, if_neg Bool.false_ne_true]
    unfold boundAndCalled
    rw [PySem.F.excAttr_ValueError.ga.bind (.ref x)]
    refine wpAny_bind (wpAny_pure ?_)
    show wpAny _ _ (call (.builtin "BaseException.__getattribute__") [.ref x, .str "__class__" t]) _ _ _
    refine wpAny_call (codeAny_call_builtin PySem.F.excAttr_ValueError.ga.plain PySem.F.entry_bexc_ga
      (@PySem.W.check_slot (model prog w) _ _ ⟨hp, g, d, t + 1, os⟩ "BaseException.__getattribute__" "BaseException" "__getattribute__" (.ref x) [.str "__class__" t] [] _
        (by decide +kernel) (by decide +kernel) (lt.andThen (PySem.W.looks_subIn X c.hs)) (PySem.F.args_bexc_ga (.ref x) (.str "__class__" t)) ?_))
    unfold Builtin.«object.__getattribute__»
    refine wpAny_bind (wpAny_of_eq (a := ((Value.ref x : Value), [Value.str "__class__" t])) (by first | rfl | (simp only [slotArgs]; rfl)) (wpAny_bind (wpAny_pure (wpAny_bind (lt.at (wpAny_bind (lf.at ?_)))))))
    show wpAny _ _ (holding [Value.builtin "object.__class__"] (call (.builtin "getset_descriptor.__get__") [.builtin "object.__class__", .ref x, .ref D]) >>= ret) _ _ _
    refine wpAny_bind (wpAny_holding (wpAny_call (PySem.W.class_get (s := ⟨hp, g, d, t + 1, os⟩) (ox := ox) (od := some od) X I c.hm (wpAny_pure ?_))))
    show wpAny _ _ (handedOut (.ref D)) _ _ _
    rw [PySem.W.handedOut_of (v := .ref D) rfl]
    first
      | exact wpAny_pure (wpAny_pure h)
      | exact wpAny_pure h
      | exact wpAny_pure (wpAny_bind (wpAny_pure (wpAny_pure h)))
theorem kitx_exc (c : ExcC K D) : PySem.W.KitX K (.ref x) (.ref D) (fun h => PySem.W.InstAt h x ox D (some od)) where
  ty := fun _ _ _ I => I.type
  it := fun _ _ X _ => by
    obtain ⟨cd, e, _⟩ := PySem.W.any_some c.hd
    unfold PySem.W.clsIn at e
    split at e
    · rename_i ho
      exact fun A' Q' E' s' k q => by
        unfold isType loadHead
        exact wpAny_bind (wpAny_loadPart (k _ _ (X _ _ ho)) (wpAny_pure q))
    · cases e
  ne := fun h tp dd its n sl X htp => by
    obtain ⟨cd, e, _⟩ := PySem.W.any_some c.hd
    cases q : (Value.ref D == Value.ref tp) with
    | false => rfl
    | true =>
      have z : D = tp := Value.ref.inj (beq_iff_eq.mp q)
      rw [← z] at htp
      unfold PySem.W.clsIn at e
      split at e
      · rename_i ho
        have y := (X _ _ ho).symm.trans htp
        cases y
      · cases e
  ca := fun X I k => class_of_exc c X I k
end
section
variable {X : Cx} {a D : Addr} {oe : Obj} {d : Addr} {pn : List (Addr × Obj)}
/-- the caught error as the machine sees it -/
theorem inst_exc {pins : List (Addr × Obj)} {σ : L2.St} {H : Hp} {s : Shared} {fs : List (Str × V)} (I : Inv (X.suite a ((a, oe) :: pn)) pins σ H s) (hz : Zc (.ref D) (some d) oe) (hf : ∃ vs, oe.data = .fields vs) (hd : H d = some (.xd fs)) :
    ∃ od, PySem.W.InstAt s.heap a oe D (some od) := by
  obtain ⟨hget, _⟩ := I.pin (a, oe) (List.mem_append_left _ List.mem_cons_self)
  obtain ⟨vs, hv⟩ := hf
  obtain ⟨mA, hns, _⟩ := (show ObjOk X.prog X.w H s.heap d (.xd fs) from I.hok d _ hd)
  obtain ⟨od, ho, _⟩ := lookIn_ns hns
  exact ⟨od, hget, hz.1, by unfold PySem.W.notCls; rw [hv] <;> rfl, by rw [hz.2]; exact ho⟩
/-- isinstance(e, c) -/
def rIsX (K : PySem.W.Frag) (D a : Addr) (cls : Value) (d : Option Addr) : List V → Hp → VK → Prop := fun xs H Q => ∃ (c : V) (u : Value) (b : Bool) (dd : Addr) (fs : List (Str × V)), xs = [.ref a, c] ∧ cls = .ref D ∧ d = some dd ∧ ClsV c u ∧ H dd = some (.xd fs) ∧ PySem.W.kitOne K (.ref D) u = some b ∧ Q (.bl b) H
theorem call_isX {cls : Value} {d : Option Addr} (c : ExcC X.K D) (hz : Zc cls d oe) (hf : ∃ vs, oe.data = .fields vs) : CallR (X.suite a ((a, oe) :: pn)) (.builtin "isinstance") (rIsX X.K D a cls d) := by
  intro pins s σ H xs us Q I r h
  obtain ⟨cv, u, b, dd, fs, rfl, rfl, rfl, k, hd, e, q⟩ := h
  obtain ⟨u1, u2, rfl, r1, r2⟩ := vals2 r
  obtain rfl : u1 = Value.ref a := r1
  have e2 := k.eq r2
  subst e2
  obtain ⟨od, J⟩ := inst_exc I hz hf hd
  exact PySem.W.kia_one (kitx_exc c) I.kIn J e (fun z => nomatch z) fun tk => ⟨.bl b, H, I.tok tk, rfl, q⟩
/-- isinstance(e, (c1, c2, ..)) -/
def rIsXT (K : PySem.W.Frag) (D a : Addr) (cls : Value) (d : Option Addr) : List V → Hp → VK → Prop := fun xs H Q => ∃ (tp : Addr) (cs : List V) (us : List Value) (b : Bool) (dd : Addr) (fs : List (Str × V)), xs = [.ref a, .ref tp] ∧ cls = .ref D ∧ d = some dd ∧
  H tp = some (.tup cs) ∧ Paired ClsV cs us ∧ H dd = some (.xd fs) ∧ PySem.W.kitAny K (.ref D) us = some b ∧ Q (.bl b) H
theorem call_isXT {cls : Value} {d : Option Addr} (c : ExcC X.K D) (hz : Zc cls d oe) (hf : ∃ vs, oe.data = .fields vs) : CallR (X.suite a ((a, oe) :: pn)) (.builtin "isinstance") (rIsXT X.K D a cls d) := by
  intro pins s σ H xs us Q I r h
  obtain ⟨tp, cs, ws, b, dd, fs, rfl, rfl, rfl, hT, k, hd, e, q⟩ := h
  obtain ⟨u1, u2, rfl, r1, r2⟩ := vals2 r
  obtain rfl : u1 = Value.ref a := r1
  obtain rfl : u2 = Value.ref tp := r2
  obtain ⟨od, J⟩ := inst_exc I hz hf hd
  obtain ⟨_, its, rv, o, h1, h2, n, h3⟩ := (show ObjOk X.prog X.w H s.heap tp (.tup cs) from I.hok tp _ hT)
  have e3 := ClsV.all k rv
  subst e3
  obtain ⟨oc, odd, dt, sl⟩ := o
  simp only at h2 h3
  subst h2 h3
  exact PySem.W.kia_tup (kitx_exc c) I.kIn J h1 e (fun z => nomatch z) fun tk => ⟨.bl b, H, I.tok tk, rfl, q⟩
end
section
variable {X : Cx}
/-- repr of any data, also while an error is handled -/
theorem call_reprH (hg : X.A.guards = some []) (hu : X.A.units + 64 < cLine) (hs : SysOk X.K) : CallR X (.builtin "repr") (rReprQ X.K) := by
  intro pins s σ H xs us Q I r h
  obtain ⟨v, d, rfl, hd, hsh, hdep, hz, q⟩ := h
  obtain ⟨u, rfl, ru⟩ := vals1 r
  obtain ⟨as, rd, na⟩ := Dq.reads hs I hd u ru
  have viaRef : ∀ {a : Addr}, u = Value.ref a → wpAny (model X.prog X.w) X.A (call (.builtin "repr") [u]) (EP X pins σ Q) X.xe s := fun {a} e => by
    subst e
    exact repr_of_reads' rd hsh (fun _ => na) hg (by omega) (fun _ _ e => e) (fun h' u tk hk => ⟨.str _, H, I.kept hk, ⟨u, rfl⟩, q⟩) hz
  cases hd with
  | non =>
    cases ru
    exact PySem.P.repr_of_none ⟨.str _, H, I.tok _, ⟨_, rfl⟩, by simpa only [PyData.shown] using q⟩
  | bl b =>
    cases ru
    exact PySem.P.repr_of_bool ⟨.str _, H, I.tok _, ⟨_, rfl⟩, by simpa only [PyData.shown] using q⟩
  | int i =>
    obtain ⟨t, rfl⟩ := ru
    exact PySem.P.repr_of_int (by simpa [PyData.showable] using hsh) ⟨.str _, H, I.tok _, ⟨_, rfl⟩, by simpa only [PyData.shown] using q⟩
  | str x =>
    obtain ⟨t, rfl⟩ := ru
    exact PySem.P.repr_of_str ⟨.str _, H, I.tok _, ⟨_, rfl⟩, by simpa only [PyData.shown] using q⟩ (by simpa only [PyData.shown] using hz)
  | lst hq ha => exact viaRef ru
  | tup hq ha => exact viaRef ru
  | dct hq h1 h2 => exact viaRef ru
end
end Ex

set_option Elab.async false
set_option linter.all false
set_option maxRecDepth 100000
set_option maxHeartbeats 4000000
/-! Own layer: len(o) by an own __len__; what repr shows, within bounds; both law-free. -/
namespace Ex
open PySem PySem.Spec PySem.Calls PyProof.Rows L2 Gu
section
variable {X : Cx} {k j : Nat} {c : Str} {ps : List Str} {sp : Sp}
/-- len(o) by the class's own __len__ -/
def rLenO (C : Addr) (sp : Sp) : List V → Hp → VK → Prop := fun xs H Q => ∃ (a dx : Addr) (fs : List (Str × V)), xs = [.ref a] ∧ H a = some (.ins C dx fs) ∧ sp [.ref a] H (fun v H' => ∃ n : Nat, v = .int n ∧ n ≤ sizeLine ∧ Q (.int n) H') E0
theorem call_lenO (D : Mf X.prog X.w X.K X.mg X.base k c "__len__" ps sp) (hr : Room j X.A) (hj : k + 1 ≤ j := by decide) : CallR X (.builtin "len") (rLenO (He.ga X.K c) sp) := by
  intro pins s σ H xs us Q I r h
  obtain ⟨a, dx, fs, rfl, ha, hq⟩ := h
  obtain ⟨u, rfl, ru⟩ := vals1 r
  obtain rfl : u = Value.ref a := ru
  obtain ⟨fd, F, b⟩ := D.ex
  obtain ⟨mA, J, _⟩ := ins_get I.hok ha
  obtain ⟨od, J, _⟩ := J.look
  have rm : Room k X.A.in1 := (hr.mono hj).in1
  refine Calls.call_function_entry kind_len plain_len entry_len (args_len1 _) ?_
  unfold Builtin.«len»
  refine wpAny_bind (m := oneArg "len" _) (wpAny_pure ?_)
  refine wpAny_bind (m := callSpecial? (.ref a) (Str.ofString "__len__")) (PySem.W.special_fn (name := Str.ofString "__len__") (args := []) I.kIn J D.me.at_ (beq_iff_eq.mp D.me.fn) ?_)
  have e0 : Env0 X.prog X.w X.K X.mg X.base X.A.in1 X.stack s H := by
    have e := I.env0
    exact ⟨e.frames, e.mod, e.bs, e.bsz, e.funs, e.frf, e.hok, e.bare⟩
  have hl := F.len _ _ _ _ hq
  refine wpAny_call (codeAny_mono (F.run X.A.in1 X.stack s H ⟨[.ref a], []⟩ [.ref a] [.ref a] _ E0 rm e0 (by
    have := b s [.ref a] I.kIn (by simpa using hl)
    simpa using this) (.cons rfl .nil) hq) fun r s' hq' => ?_)
  match r, hq' with
  | .ok (.ret u), hq' =>
    obtain ⟨v, H', I', rv, n, rfl, hn, q⟩ := I.after hq'
    obtain ⟨t, rfl⟩ := rv
    have hs : sizeLine = 16777216 := sizeLine_eq
    refine wpAny_bind (wpAny_holding (wpAny_pure ?_))
    refine wpAny_bind (wpAny_letGo ?_)
    show wpAny _ _ (if ((n : Nat) : Int) < 0 then _ else _) _ _ _
    rw [if_neg (by omega)]
    show wpAny _ _ (if ((n : Nat) : Int) ≥ 2 ^ 63 then _ else _) _ _ _
    rw [if_neg (by omega)]
    exact wpAny_bind (wpAny_mkInt (wpAny_pure ⟨_, rfl, ⟨.int n, H', I'.tok _, ⟨_, rfl⟩, q⟩⟩))
end
theorem seqT {K : PySem.W.Frag} {H H' : Hp} {a : Addr} {xs : List V} (e : Same H H') (h : SqT K H a xs) : SqT K H' a xs := by
  rcases h with (h | ⟨o, h⟩) | h
  · exact .inl (.inl (e _ _ h))
  · exact .inl (.inr ⟨o, e _ _ h⟩)
  · exact .inr h
mutual
theorem dq_same {K : PySem.W.Frag} {H H' : Hp} (e : Same H H') : ∀ {v : V} {d : PyData}, Dq K H v d → Dq K H' v d
  | _, _, .non => .non
  | _, _, .bl b => .bl b
  | _, _, .int i => .int i
  | _, _, .str x => .str x
  | _, _, .lst hq ha => .lst (e.seq hq) (dqAll_same e ha)
  | _, _, .tup hq ha => .tup (seqT e hq) (dqAll_same e ha)
  | _, _, .dct hq h1 h2 => .dct (e _ _ hq) (dqAll_same e h1) (dqAll_same e h2)
theorem dqAll_same {K : PySem.W.Frag} {H H' : Hp} (e : Same H H') : ∀ {vs : List V} {ds : List PyData}, DqAll K H vs ds → DqAll K H' vs ds
  | _, _, .nil => .nil
  | _, _, .cons h1 h2 => .cons (dq_same e h1) (dqAll_same e h2)
end
/-- a value as repr shows it: nested at most n deep, at most m signs -/
structure Tq (K : PySem.W.Frag) (H : Hp) (v : V) (d : PyData) (n m : Nat) : Prop where
  dq : Dq K H v d
  sh : d.showable = true
  dp : d.depth ≤ n
  ln : d.shown.length ≤ m
structure TqAll (K : PySem.W.Frag) (H : Hp) (xs : List V) (ds : List PyData) (n m : Nat) : Prop where
  dq : DqAll K H xs ds
  sh : PyData.showableAll ds = true
  dp : PyData.depthAll ds ≤ n
  ln : ((PyData.shownAll ds).map (·.length)).sum + 2 * (PyData.shownAll ds).length ≤ xs.length * (m + 2)
section
variable {K : PySem.W.Frag} {H H' : Hp} {n m : Nat}
theorem Tq.same {v : V} {d : PyData} (t : Tq K H v d n m) (e : Same H H') : Tq K H' v d n m := ⟨dq_same e t.dq, t.sh, t.dp, t.ln⟩
theorem Tq.mono {v : V} {d : PyData} {n' m' : Nat} (t : Tq K H v d n m) (h1 : n ≤ n') (h2 : m ≤ m') : Tq K H v d n' m' := ⟨t.dq, t.sh, Nat.le_trans t.dp h1, Nat.le_trans t.ln h2⟩
theorem TqAll.same {xs : List V} {ds : List PyData} (t : TqAll K H xs ds n m) (e : Same H H') : TqAll K H' xs ds n m := ⟨dqAll_same e t.dq, t.sh, t.dp, t.ln⟩
theorem tq_all : ∀ {xs : List V}, (∀ v ∈ xs, ∃ d, Tq K H v d n m) → ∃ ds, TqAll K H xs ds n m
  | [], _ => ⟨[], .nil, rfl, Nat.zero_le _, Nat.zero_le _⟩
  | v :: xs, h => by
    obtain ⟨d, t⟩ := h v List.mem_cons_self
    obtain ⟨ds, a, b, c, e⟩ := tq_all (xs := xs) fun u hu => h u (List.mem_cons_of_mem _ hu)
    refine ⟨d :: ds, .cons t.dq a, ?_, ?_, ?_⟩
    · show (d.showable && PyData.showableAll ds) = true
      rw [t.sh, b]
      rfl
    · show max d.depth (PyData.depthAll ds) ≤ n
      have := t.dp
      omega
    · show (d.shown.length + ((PyData.shownAll ds).map (·.length)).sum) + 2 * ((PyData.shownAll ds).length + 1) ≤ (xs.length + 1) * (m + 2)
      have := t.ln
      rw [Nat.add_mul, Nat.one_mul]
      omega
theorem TqAll.lst {a : Addr} {xs : List V} {ds : List PyData} (t : TqAll K H xs ds n m) (h : H a = some (.lst xs)) : Tq K H (.ref a) (.list ds) (n + 1) (xs.length * (m + 2) + 3) := by
  refine ⟨.lst (SqL.of h) t.dq, t.sh, ?_, ?_⟩
  · show PyData.depthAll ds + 1 ≤ n + 1
    have := t.dp
    omega
  · have e := listText_len_le (PyData.shownAll ds)
    show (listText (PyData.shownAll ds)).length ≤ _
    have := t.ln
    omega
theorem TqAll.tup {a : Addr} {xs : List V} {ds : List PyData} (t : TqAll K H xs ds n m) (h : H a = some (.tup xs)) : Tq K H (.ref a) (.tuple ds) (n + 1) (xs.length * (m + 2) + 3) := by
  refine ⟨.tup (SqT.of h) t.dq, t.sh, ?_, ?_⟩
  · show PyData.depthAll ds + 1 ≤ n + 1
    have := t.dp
    omega
  · have e := tupleText_len_le (PyData.shownAll ds)
    show (tupleText (PyData.shownAll ds)).length ≤ _
    have := t.ln
    omega
theorem tq_non : Tq K H .non .none 0 41 := ⟨.non, rfl, Nat.le_refl _, by decide +kernel⟩
theorem tq_bl (b : Bool) : Tq K H (.bl b) (.bool b) 0 41 := ⟨.bl b, rfl, Nat.le_refl _, by cases b <;> decide +kernel⟩
theorem tq_int {i : Int} (h1 : -(10 ^ 39) ≤ i) (h2 : i ≤ 10 ^ 39) : Tq K H (.int i) (.int i) 0 41 := by
  have b39 : (10 : Int) ^ 39 = 1000000000000000000000000000000000000000 := by decide
  have e : i.natAbs < 10 ^ 40 := by
    have z : (10 : Nat) ^ 40 = 10000000000000000000000000000000000000000 := by decide
    omega
  have a : i.natAbs.log2 < 1920 := Nat.lt_of_lt_of_le (PySem.Flt.log2_lt_of (k := 200) (by decide) (Nat.lt_trans e (by decide))) (by decide)
  refine ⟨.int i, decide_eq_true a, Nat.le_refl _, ?_⟩
  have z := int_text_length_le10 (k := 40) (by decide) e
  show (Str.ofString (toString i)).length ≤ 41
  rw [PySem.ofString_length]
  exact z
theorem tq_text (z : String) (h : (reprText (Str.ofString z)).length ≤ 41) : Tq K H (.str (Str.ofString z)) (.str (Str.ofString z)) 0 41 := ⟨.str _, rfl, Nat.le_refl _, h⟩
theorem tq_dct {a : Addr} (h : H a = some (.dK [])) : Tq K H (.ref a) (.dict []) 1 41 := ⟨.dct h .nil .nil, rfl, by decide, by decide +kernel⟩
end
theorem code_lt {z : String} {c : Nat} (hc : c ∈ (Str.ofString z).cps.toList) : c < 1114112 := by
  have hc2 : c ∈ z.toList.map Char.toNat := by
    rw [← cpsOfBytes_string]
    simpa [Str.ofString] using hc
  obtain ⟨ch, _, rfl⟩ := List.mem_map.mp hc2
  have v : ch.val.toNat < 55296 ∨ (57343 < ch.val.toNat ∧ ch.val.toNat < 1114112) := ch.valid
  show ch.val.toNat < 1114112
  omega
/-- repr of such a value -/
theorem repr_tq {K : PySem.W.Frag} {H : Hp} {v : V} {d : PyData} {n m : Nat} {Q : VK} (t : Tq K H v d n m) (q : Q (.str d.shown) H) (hn : n ≤ 60 := by decide) (hm : m ≤ sizeLine := by decide) : rReprQ K [v] H Q :=
  ⟨v, d, rfl, t.dq, t.sh, Nat.le_trans t.dp hn, Nat.le_trans t.ln hm, q⟩
end Ex

set_option Elab.async false
set_option linter.all false
set_option maxRecDepth 100000
set_option maxHeartbeats 4000000
/-! Own layer: errors with a field over any built-in base (ArithmeticError, LookupError, RuntimeError, ValueError), made and raised. -/
namespace Ex
open PySem PySem.Spec PySem.Calls PyProof.Rows L2 Gu
/-- own classes, then the mro of a built-in base -/
def refsB (tl : List Value) : List Value → Bool
  | .ref _ :: r => refsB tl r
  | l => l == tl
theorem refsB_two (tl : List Value) (l : List Value) (e : refsB tl l = true) : (∃ c r, l = .ref c :: r ∧ refsB tl r = true) ∨ l = tl := by
  cases l with
  | nil => exact .inr (beq_iff_eq.mp e)
  | cons v r => cases v with
    | ref c => exact .inl ⟨c, r, rfl, e⟩
    | _ => exact .inr (beq_iff_eq.mp e)
/-- a built-in base of errors -/
structure BaseE (B : String) (tl : List Value) : Prop where
  ex : ExcBaseFacts B (B ++ ".__new__") (B ++ ".__init__") tl
  pa : ∀ self : Value, refuseLoop self "__setattr__" tl = pure ()
  ob : tl.contains (.type "object") = true
  ne : tl.isEmpty = false
abbrev tailE (B : String) : List Value := [.type B, .type "Exception", .type "BaseException", .type "object"]
theorem base_AE : BaseE "ArithmeticError" (tailE "ArithmeticError") := ⟨F.excBase_ArithmeticError, F.store_ArithmeticError.passes, by decide +kernel, rfl⟩
theorem base_LE : BaseE "LookupError" (tailE "LookupError") := ⟨F.excBase_LookupError, F.store_LookupError.passes, by decide +kernel, rfl⟩
theorem base_RE : BaseE "RuntimeError" (tailE "RuntimeError") := ⟨F.excBase_RuntimeError, F.store_RuntimeError.passes, by decide +kernel, rfl⟩
theorem base_VE : BaseE "ValueError" (tailE "ValueError") := ⟨F.excBase_ValueError, F.store_ValueError.passes, by decide +kernel, rfl⟩
section
variable {B : String} {tl : List Value}
theorem BaseE.pass (b : BaseE B tl) (self : Value) : ∀ l, refsB tl l = true → refuseLoop self "__setattr__" l = pure ()
  | [], e => by
    have z : ([] : List Value) = tl := beq_iff_eq.mp e
    have n := b.ne
    rw [← z] at n
    cases n
  | v :: r, e => by
    rcases refsB_two tl _ e with ⟨c, r', q, h⟩ | q
    · cases q
      rw [refuseLoop_ref]
      exact b.pass self r h
    · rw [q]
      exact b.pa self
theorem BaseE.has (b : BaseE B tl) (Y : String) : ∀ l, refsB tl l = true → l.contains (.type Y) = tl.contains (.type Y)
  | [], e => by
    have z : ([] : List Value) = tl := beq_iff_eq.mp e
    rw [z]
  | v :: r, e => by
    rcases refsB_two tl _ e with ⟨c, r', q, h⟩ | q
    · cases q
      rw [List.contains_cons, b.has Y r h]
      rfl
    · rw [q]
theorem BaseE.some (b : BaseE B tl) {l : List Value} (e : refsB tl l = true) : l.isEmpty = false := by
  cases l with
  | cons _ _ => rfl
  | nil =>
    have z : ([] : List Value) = tl := beq_iff_eq.mp e
    have n := b.ne
    rw [← z] at n
    exact n
end
section
open Builtin Builtin.ObjectAttr
variable {prog : Program} {w : World} {A : Around} {R : Result → Shared → Prop} {hp : Heap} {g : Array GenState} {d : Drawn} {t : Nat} {os : OsState}
/-- the first field of an error is stored by object.__setattr__ -/
theorem first_field {B : String} {tl : List Value} (b : BaseE B tl) {K : W.Frag} {nm : Str} {tk : Tok} {v : Value} {x C : Addr} {fv : Array Value} {cd : ClassData}
    (KX : K.In hp) (hx : hp.get? x = some { cls := .ref C, data := .fields fv }) (hcd : W.clsIn K C = some cd) (mr : refsB tl cd.mro = true) (hdt : cd.hasDict = true) (no : W.findIn K (.ref C) nm = some none)
    (go : ∀ h' tk' dx, (∀ b o, b ≠ x → hp.get? b = some o → h'.get? b = some o) → hp.objs.size ≤ dx → dx ≠ x → h'.get? x = some { cls := .ref C, dict := some dx, data := .fields fv } →
      h'.Ns1 dx (fun y => if y = nm then some v else none) → R (.ok (.ret .none)) ⟨h', g, d, tk', os⟩) :
    codeAny (model prog w) A (.call (.builtin "object.__setattr__") ⟨[.ref x, .str nm tk, v], []⟩) R ⟨hp, g, d, t, os⟩ := by
  have IA : W.InstAt hp x { cls := .ref C, data := .fields fv } C none := ⟨hx, rfl, rfl, trivial⟩
  have so := F.store_object
  have nE := b.some mr
  have isO : cd.mro.contains (.type "object") = true := (b.has "object" _ mr).trans b.ob
  have far : x ≠ hp.objs.size := Nat.ne_of_lt (Heap.lt_size hx)
  have isI : W.Looks (model prog w) hp (isInstance (.ref x) (.type "object")) true := IA.type.andThen (W.looks_mroIn KX (by unfold W.mroIn; rw [hcd, Option.bind_some, if_neg (by rw [nE]; decide), isO]))
  refine codeAny_call_builtin so.slot.plain so.entry (@W.check_slot (model prog w) _ _ ⟨hp, g, d, t, os⟩ "object.__setattr__" "object" "__setattr__" (.ref x) [.str nm tk, v] [] _ so.kind so.split isI (so.args (.ref x) (.str nm tk) v) ?_)
  have lm : W.Looks (model prog w) hp (mroOf (.ref C)) cd.mro := (W.looks_clsIn KX hcd).andThen .now
  have ln : W.Looks (model prog w) hp (storeTaker? none) none := .now
  have lc : W.Looks (model prog w) hp (classData C) cd := W.looks_clsIn KX hcd
  rw [W.osa_eq, refuse_eq]
  refine wpAny_bind (wpAny_bind (IA.type.at (wpAny_bind (lm.at ?_))))
  rw [b.pass _ _ mr]
  refine wpAny_pure (wpAny_bind (IA.type.at (wpAny_bind ((W.looks_findIn KX no).at (wpAny_bind (ln.at ?_))))))
  show wpAny _ _ (storeInOwnDict (.ref x) (.ref C) (.str nm tk) nm v false) _ _ _
  obtain ⟨n1, n2, n3, n4, n5, hd, n7, n8, n9, n10, n11⟩ := cd
  dsimp only at hdt
  subst hdt
  unfold storeInOwnDict ownDictForStores
  repeat (first | with_reducible refine HandSPX.store_in_new ?_ ?_ | with_reducible refine wpAny_loadPart_at hx ?_ | with_reducible refine lc.at ?_ | wp_step)
  · exact ⟨_, #[], _, (Heap.get?_update_ne _ _ _ _ far.symm).trans (Heap.get?_push_at rfl rfl), rfl, fun e he => absurd he (by simp), fun _ => rfl⟩
  · intro h' tk' nn' sb
    have hx1 : (hp.push { cls := .type "dict", data := .dict #[] }).get? x = some { cls := .ref C, data := .fields fv } := Heap.get?_push_of_some _ hx
    exact go h' tk' hp.objs.size (fun c o hc ho => (sb.2 c (Nat.ne_of_lt (Heap.lt_size ho))).trans ((Heap.get?_update_ne _ _ _ _ hc).trans (Heap.get?_push_of_some _ ho))) (Nat.le_refl _) far.symm
      ((sb.2 x far).trans (Heap.get?_update_self _ hx1 rfl)) nn'
end
/-- what the written part says of an error's class over the base B -/
structure OexG (B : String) (tl : List Value) (K : PySem.W.Frag) (C : Addr) : Prop where
  base : BaseE B tl
  cls : ∃ nm q N bs bm sn sub ab col dd k0 k1 k2 k3 k5, K.lookup C = some (excClassObj nm q C N bs bm true sn sub ab col dd k0 k1 k2 k3 k5 (B ++ ".__new__")) ∧ refsB tl bm = true
  sa : PySem.W.findIn K (.ref C) "__setattr__" = some (some (.builtin "object.__setattr__"))
  exC : PySem.W.subIn K (.ref C) (.type "BaseException") = some true
  tyC : PySem.W.typeIn K (.ref C) = some (.type "type")
  kC : PySem.W.keepIn K (.ref C) = true
section
variable {X : Cx} {pins : List (Addr × Obj)} {σ : L2.St} {H : Hp} {s : Shared} {a C dx : Addr} {f : Str} {y : V} {u : Value} {Q : Unit → Shared → Prop} {E : Value → Shared → Prop} {A : Around} {B : String} {tl : List Value}
/-- self.f = y, the first one -/
theorem field_new (T : OexG B tl X.K C) (I : Inv X pins σ H s) (e : H a = some (exo a C none)) (no : PySem.W.findIn X.K (.ref C) f = some none) (ry : RelV y u)
    (go : ∀ dx s', H dx = none → dx ≠ a → Inv X pins σ (upd (upd H dx (exd dx [(f, y)])) a (exo a C (some dx))) s' → Q () s') : wpAny (model X.prog X.w) A (setAttr (.ref a) f u) Q E s := by
  obtain ⟨nm, q, N, bs, bm, sn, sub, ab, col, dd, k0, k1, k2, k3, k5, hC, mr⟩ := T.cls
  have hcl : PySem.W.clsIn X.K C = some { name := nm, bases := bs, mro := .ref C :: bm, ns := N, qualname := q, hasDict := true, slotNames := sn, subclasses := sub, abstract := ab, collection := col, hasDel := false } := by
    unfold PySem.W.clsIn
    rw [hC] <;> rfl
  obtain ⟨t1, at1⟩ := exo_at I.hok e
  obtain ⟨hp, g, dr, tk, os⟩ := s
  refine PySem.W.set_plain I.kIn (ox := { cls := .ref C, dict := none, data := .fields #[.ref t1, .none, .none, .none, .bool false, .none] }) (od := none) ⟨at1, rfl, rfl, trivial⟩ T.sa ?_
  refine first_field T.base I.kIn at1 hcl (show refsB tl (.ref C :: bm) = true from mr) rfl no (fun h' tk' dx k dn dne hx hn => ?_)
  have free : H dx = none := I.hok.fresh dn
  have far : ∀ {b : Addr} {o : Obj}, hp.get? b = some o → b ≠ dx := fun {b o} q => Nat.ne_of_lt (Nat.lt_of_lt_of_le (Heap.lt_size q) dn)
  have na : ∀ {b : Addr}, H b = none → b ≠ a := fun {b} n z => by
    rw [z, e] at n
    cases n
  have at2 : ∀ {b : Addr} {o : HO}, H b = some o → b ≠ a → upd (upd H dx (exd dx [(f, y)])) a (exo a C (some dx)) b = some o := fun {b o} q n => by
    rw [upd_ne n, upd_ne (ne_of_none q free)]
    exact q
  have U : Un X.fs [] H (upd (upd H dx (exd dx [(f, y)])) a (exo a C (some dx))) hp h' := {
    keep := fun b o q n _ _ => k b o (na n) q
    slot := fun b o q n _ _ => ⟨o.slots, k b o (na n) q⟩
    free := fun b o q n _ => (upd_ne (na n)).trans ((upd_ne (far q)).trans n)
    there := fun b o q _ => by
      by_cases hb : b = a
      · rw [hb]
        exact ⟨_, hx⟩
      · exact ⟨o, k b o hb q⟩
    tups := fun b xs q => at2 q (at_ne e q exo_tup)
    frzs := fun b o v q => at2 q (at_ne e q exo_frz)
    tbls := fun b ps q => ⟨#[], by rw [at2 q (at_ne e q exo_tbl)]; simp⟩ }
  refine go dx _ free dne (I.un (t' := tk') U fun b o q => ?_)
  by_cases hb : b = a
  · subst hb
    rw [upd_same] at q
    cases q
    exact exo_ok hx
  · rw [upd_ne hb] at q
    by_cases hd : b = dx
    · subst hd
      rw [upd_same] at q
      cases q
      exact exd_ok hn (relO_put (fs := []) ry fun g => True.intro)
    · rw [upd_ne hd] at q
      refine (I.hok b o q).stay (fun c v hc z => k c v ?_ z) (fun c hc => at2 hc (at_ne e hc exo_own)) (fun c xs hc => at2 hc (at_ne e hc exo_tup))
      rcases hc with hc | hc
      · rw [hc]
        exact hb
      · exact at_ne e hc exo_own
end
/-- self.f = e, the first field of an error -/
def tFst (B : String) (tl : List Value) (K : PySem.W.Frag) (f : Str) (to te : TE) : TS := fun D σ H => te σ H fun y H1 => to σ H1 fun x H2 => ∃ a C : Addr, x = .ref a ∧ OexG B tl K C ∧ PySem.W.findIn K (.ref C) f = some none ∧
  H2 a = some (exo a C none) ∧ ∀ dx, H2 dx = none → dx ≠ a → D.nx σ (upd (upd H2 dx (exd dx [(f, y)])) a (exo a C (some dx)))
section
variable {X : Cx} {o e : Expr} {es : List Expr} {to te : TE} {ta : TA} {f : Str} {p p' pos : Pos} {B : String} {tl : List Value}
theorem ps_fst (ho : PE X o to) (he : PE X e te) (hs : swapsWith e (some (.Attribute o f p')) pos.line X.env = pure false := by rfl) : PS X (.Assign [.Attribute o f p'] e pos) (tFst B tl X.K f to te) := by
  refine ⟨fun pins s σ H D I h => plainObj_wpAny_Assign_Attribute (thn (he.run pins s σ H _ I h) fun v s1 ⟨y, H1, I1, r1, q1⟩ => thn (ho.run pins s1 σ H1 _ I1 q1) fun u s2 ⟨x, H2, I2, r2, a, C, ex, T, no, ea, q⟩ => ?_) hs⟩
  subst ex
  obtain rfl : u = Value.ref a := r2
  exact field_new T I2 ea no r1 fun dx s' n ne J => ⟨σ, _, J, q dx n ne⟩
/-- C(e, ..) for a raise, C's own __init__ keeping sp -/
theorem pmk_oexG {CX : CXT} {x : Str} {C fI : Addr} {k : Nat} {fd : FuncData} {ps : List Str} {sp : Sp} {ds : List Value} {dvs : List V} (T : OexG B tl X.K C) (iC : PySem.W.findIn X.K (.ref C) "__init__" = some (some (.ref fI))) (tI : PySem.W.typeIn X.K (.ref fI) = some (.type "function"))
    (F1 : FnOk X.prog X.w X.K X.mg X.base CX k fI fd ps sp) (hr : Room (k + 1) X.A) (hb : Binds X.K fd ps ds) (hd : Vals dvs ds) (hx : Passes CX X (fun _ _ _ => False)) (hg : Gl X x) (hm : X.mg x = some (.ref C)) (ha : PA X (e :: es) ta)
    (hdb : (x == ("__debug__" : Str)) = false := by decide) (he : starEach (e :: es) X.env = (false, eval e X.env) :: starEach es X.env := by rfl) (hpl : (backTo pos (starEach es X.env)).any (·.1) = false := by rfl) :
    PMk X (.Call (.Name x p) (e :: es) [] pos) (tMkO C sp dvs ta) := by
  intro pins s σ H Q I h
  obtain ⟨nm, q, N, bs, bm, sn, sub, ab, col, dd, k0, k1, k2, k3, k5, hC, mr⟩ := T.cls
  refine wpAny_Call_Name_kw (ld_glob I hg hm (PySem.W.callWith_K (h₀ := X.base) I.ok.mod.kin T.kC (thn (ha.run pos pins s σ H _ I h) fun us s1 ⟨vs, H1, I1, r1, hz, q1⟩ => ⟨I1.kIn, ?_⟩) he hpl) hdb)
  show wpAny _ _ (call (.ref C) us) _ _ _
  obtain ⟨hp, g, dr, tk, os⟩ := s1
  generalize en : hp.objs.size + 1 = n
  have sz : hp.objs.size ≤ n := by omega
  have hq := q1 n (I1.hok.fresh sz)
  generalize ehp : (hp.push (PySem.W.kdv_tup us)).push (PySem.HandSPX.excO C hp.objs.size) = hp2
  have kk : ∀ b o, hp.get? b = some o → hp2.get? b = some o := fun b o e => by
    rw [← ehp]
    exact Heap.get?_push_of_some _ (Heap.get?_push_of_some _ e)
  have hget : hp2.get? n = some (PySem.HandSPX.excO C hp.objs.size) := by
    rw [← ehp, ← en]
    heap_get
  have I2 : Inv X pins σ (upd H1 n (exo n C none)) ⟨hp2, g, dr, tk, os⟩ := I1.laid (t' := tk) kk sz (exo_ok hget)
  have r2 : Vals (V.ref n :: (vs ++ dvs)) (Value.ref n :: (us ++ ds)) := .cons rfl (r1.append hd)
  have hl : (Value.ref n :: us ++ ds).length = ps.length := r2.length.symm.trans (F1.len _ _ _ _ hq)
  have few : us.length ≤ sizeLine := by
    rw [← Paired.length r1, sizeLine_eq]
    omega
  refine wpAny_call (PySem.HandSPX.call_own T.base.ex (fun Y => T.base.has Y bm mr) (I1.kIn _ _ hC) (PySem.W.looks_findIn I1.kIn iC) (fun self => PySem.W.bind_fn I1.kIn self tI) few ?_)
  rw [en, ehp]
  refine codeAny_mono (F1.run _ X.stack _ _ ⟨Value.ref n :: us, []⟩ (Value.ref n :: (us ++ ds)) _ _ (fun _ _ _ => False) (hr.make C us []) (I2.env0.make C us []) (hb _ (Value.ref n :: us) I2.kIn hl) r2 hq) fun r s' hq' => ?_
  match r, hq' with
  | .error er, hq' => exact hx pins σ _ _ er s' I2 hq'
  | .ok (.ret u), hq' =>
    obtain ⟨v, H2, os2, bare2, un2, hok2, rv, ev, d, fs, ea, ed, hd1, q2⟩ := hq'
    subst ev
    obtain ⟨h2, g2, d2, t2, os'⟩ := s'
    exact ⟨rv, mk_end (raises_own T.exC T.tyC) I1 sz kk un2 hok2 os2 bare2 ea ed hd1 q2⟩
end
end Ex

set_option Elab.async false
set_option linter.all false
set_option maxRecDepth 100000
set_option maxHeartbeats 4000000
/-! Own layer: several clauses 'except x as n' of one try, all with the same name n. -/
namespace Ex
open PySem PySem.Spec PySem.Calls PyProof.Rows L2 Gu
abbrev Suites : Type := List (Value × (Addr → Value → Option Addr → TS))
/-- what the clauses wish of an error of the body, one after the other: slot i is n's -/
def wAsAll (K : PySem.W.Frag) (i : Nat) (Wout : WX) (D : Ends) : Suites → WX
  | [] => Wout
  | (c, ts) :: r => wAs K c i ts (wAsAll K i Wout D r) D
inductive HdAs (X : Cx) (n : Str) : List ExceptHandler → Suites → Prop
  | nil : HdAs X n [] []
  | cons {x : Str} {c : Value} {ts : Addr → Value → Option Addr → TS} {b0 : Stmt} {su : List Stmt} {np p2 : Pos} {hs : List ExceptHandler} {l : Suites} (hc : Names X x c)
      (hsu : ∀ (a : Addr) (oe : Obj) (cls : Value) (d : Option Addr) (pn : List (Addr × Obj)), Zc cls d oe → (∃ vs, oe.data = .fields vs) → PSs (X.suite a ((a, oe) :: pn)) (b0 :: su) (ts a cls d)) (r : HdAs X n hs l) :
      HdAs X n (.ExceptHandler (some (.Name x np)) (some n) (b0 :: su) p2 :: hs) ((c, ts) :: l)
section
variable {X : Cx} {n : Str} {i : Nat} {body : List Stmt} {h0 : ExceptHandler} {hds : List ExceptHandler} {l : Suites} {pos : Pos} {tb : WX → TS} {Wout : WX}
theorem ps_try_asAll (hs : X.stack = X.env :: X.outer) (hf : X.env.frame = some X.env.locals) (hN : X.N.Nodup) (hi : X.N[i]? = some n) (hln : X.env.kindOf n = some .local) (tk : Takes X Wout)
    (hb : ∀ (W : WX) (pn : List (Addr × Obj)) (xe : Value → Shared → Prop), Takes (X.tr pn xe) W → PassesOwn (model X.prog X.w) X.A X.env xe → PSs (X.tr pn xe) body (tb W))
    (hh : HdAs X n (h0 :: hds) l) : PS X (.Try body (h0 :: hds) [] [] pos) (fun D σ H => tb (wAsAll X.K i Wout D l) D σ H) := by
  refine ⟨fun pins s σ H D I h => ?_⟩
  have ok := I.ok
  have fr : X.A.frames = some (X.env :: X.outer) := by
    rw [ok.frames, hs]
  refine wpAny_Try_except (wpAny_mono ((hb (wAsAll X.K i Wout D l) (X.pn ++ pins) (fun e s1 => wpAny (model X.prog X.w) X.A (noteFrame e X.env) (fun _ s2 => wpAny (model X.prog X.w) X.A (setFlight e none) (fun _ s3 =>
    wpAny (model X.prog X.w) X.A (handleBy e X.env (h0 :: hds)) (SP X pins D) X.xe s3) X.xe s2) X.xe s1) (fun u s' xx => ?_) PassesOwn.looking).run [] s σ H D (I.toTry _) h) (fun f s1 hsp => ?_) (fun e s1 he => he))
  · obtain ⟨a, B, sI, pins', σ1, H1, cls, d, rfl, J0, nb, up, sky, na, os, ag, w⟩ := xx
    have J : Inv X pins σ1 H1 sI := J0.ofTry ok
    rw [hs] at sky
    show wpAny (model X.prog X.w) X.A (noteFrame (.ref a) X.env) _ _ _
    refine Sky.land Zc.steady fr hf sky fun h3 fl up3 => ?_
    have J3 : Inv X pins σ1 H1 { s' with heap := h3 } := J.landed nb fl.1 (up.trans up3) os ag
    obtain ⟨o3, v3, he3, hz3, hd3⟩ := fl.there
    have nfr : a ∉ frs (X.env :: X.outer) := fun hm => by
      obtain ⟨_, o', e', hnf⟩ := fl.2.2.1.mem hm
      rw [he3] at e'
      cases e'
      exact hnf _ hd3
    have nL : a ≠ X.env.locals := fun z => nfr (List.mem_filterMap.mpr ⟨X.env, List.mem_cons_self, by rw [hf, z]⟩)
    have nF : a ∉ X.fs := fun hm => by
      obtain ⟨e, he, q⟩ := List.mem_filterMap.mp hm
      exact nfr (List.mem_filterMap.mpr ⟨e, List.mem_cons_of_mem _ he, q⟩)
    have S3 := J3.suite he3 hd3 na nL nF
    have go : ∀ {hs2 : List ExceptHandler} {l2 : Suites}, HdAs X n hs2 l2 → wAsAll X.K i Wout D l2 cls d σ1 H1 → wpAny (model X.prog X.w) X.A (handleBy (.ref a) X.env hs2) (SP X pins D) X.xe { s' with heap := h3 } := by
      intro hs2 l2 hk
      induction hk with
      | nil =>
        intro w
        refine wpAny_handleBy_nil ?_
        obtain ⟨_, _, _, oe, vs, Tb, oT, tsT, he, hz, hd, h1, hr⟩ := id fl
        unfold PySem.passOn
        refine wpAny_bind (wpAny_field he hd h1 ?_)
        rw [if_neg (show ¬ ((Value.ref Tb == Value.none) = true) from by simp)]
        have fin : wpAny (model X.prog X.w) X.A (setFlight (.ref a) X.env.frame) (fun _ s4 => wpAny (model X.prog X.w) X.A (throw (.ref a) : Sem Flow) (SP X pins D) X.xe s4) X.xe { s' with heap := h3 } := by
          rw [hf]
          exact HandSPX.setFlight_upZ fl fun h4 hh4 up4 => wpAny_throw (tk _ _ ⟨a, B, sI, pins, σ1, H1, cls, d, rfl, J, nb, (up.trans up3).trans up4, .inr (.inr (by rw [hs]; exact hh4)), na, os, ag, w⟩)
        first
          | exact wpAny_bind (wpAny_pure (wpAny_bind fin))
          | exact wpAny_bind fin
      | @cons x c ts b0 su np p2 hs3 l3 hc hsu r ih =>
        intro w
        obtain ⟨b, hb1, yes, no⟩ := w
        refine wpAny_handleBy_cons (codeAny_handlers_test ?_) (by intro q; cases q)
        have lt : PySem.W.Looks (model X.prog X.w) h3 (typeOf (.ref a)) cls := fun A Q E s k q => wpAny_typeOf_ref (k _ _ he3) (by rw [hz3.1]; exact q)
        have lm := PySem.W.exm_one (M := model X.prog X.w) J3.kIn lt hb1
        have name : ∀ {Q : Value → Shared → Prop} {E : Value → Shared → Prop}, Q c { s' with heap := h3 } → wpAny (model X.prog X.w) (X.A.mark (some (.ref a))) (eval (.Name x np) X.env) Q E { s' with heap := h3 } := fun {Q E} q => by
          obtain ⟨hg, hdbg, hm | ⟨hm, hv, hnn⟩⟩ := hc
          · exact ld_glob (X := X.suite a ((a, o3) :: (X.pn ++ pins))) S3 hg hm q hdbg
          · exact ld_blt (X := X.suite a ((a, o3) :: (X.pn ++ pins))) S3 hg hm hv q hnn hdbg
        refine name (lm.here ?_)
        cases b with
        | false =>
          show wpAny _ X.A (handleBy (.ref a) X.env hs3) _ _ _
          exact ih (no rfl)
        | true =>
          refine codeAny_handlers_suite_as (HandSPX.lands_againZ fl fun h4 fl4 up4 => ?_)
          have J4 : Inv X pins σ1 H1 { s' with heap := h4 } := J.landed nb fl4.1 ((up.trans up3).trans up4) os ag
          obtain ⟨o4, v4, he4, hz4, hd4⟩ := fl4.there
          have S4 := J4.suite he4 hd4 na nL nF
          refine store_ok (X := X.suite a ((a, o4) :: (X.pn ++ pins))) (v := .ref a) S4 hN hi (.inl hln) rfl (fun s5 S5 => ?_) (.inr hln)
          refine wpAny_mono ((hsu a o4 cls d (X.pn ++ pins) hz4 ⟨_, hd4⟩).run [] s5 _ H1 _ S5 (yes rfl a na)) (fun f s6 hsp => ?_) (fun _ _ z => False.elim z)
          have out : ∀ {σ6 : L2.St} {H6 : Hp} {Q : Shared → Prop}, Inv (X.suite a ((a, o4) :: (X.pn ++ pins))) [] σ6 H6 s6 → (∀ s7, Inv X pins (σ6.set i none) H6 s7 → Q s7) →
              wpAny (model X.prog X.w) X.A (do bindName X.env n .none; unbindBehindTheSuite X.env n p2) (fun _ s7 => Q s7) X.xe s6 := fun {σ6 H6 Q} S6 hq => gone_ok (S6.unsuite ok) hN hi hln hq
          match f, hsp with
          | .next, ⟨σ6, H6, S6, q6⟩ => exact out S6 fun s7 J7 => ⟨_, _, J7, q6⟩
          | .brk, ⟨σ6, H6, S6, q6⟩ => exact out S6 fun s7 J7 => ⟨_, _, J7, q6⟩
          | .cont, ⟨σ6, H6, S6, q6⟩ => exact out S6 fun s7 J7 => ⟨_, _, J7, q6⟩
          | .ret u, ⟨v6, σ6, H6, S6, r6, q6⟩ => exact out S6 fun s7 J7 => ⟨_, _, _, J7, r6, q6⟩
    exact go hh w
  · match f, hsp with
    | .next, ⟨σ1, H1, J1, q⟩ => exact wpAny_execs_nil ⟨σ1, H1, J1.ofTry ok, q⟩
    | .brk, ⟨σ1, H1, J1, q⟩ => exact ⟨σ1, H1, J1.ofTry ok, q⟩
    | .cont, ⟨σ1, H1, J1, q⟩ => exact ⟨σ1, H1, J1.ofTry ok, q⟩
    | .ret u, ⟨v, σ1, H1, J1, r, q⟩ => exact ⟨v, σ1, H1, J1.ofTry ok, r, q⟩
end
end Ex

set_option Elab.async false
set_option linter.all false
set_option maxRecDepth 100000
set_option maxHeartbeats 4000000
/-! Own layer: defs that make lambdas; the end of a law whose defs write the tables of their code objects, where no repr is under way. -/
namespace Gu
open PySem PySem.Spec PyProof.Rows L2
section
variable {P : Program} {w : World} {K : PySem.W.Frag} {mg : Str → Option Value} {base : Heap} {CX : CXT} {k : Nat} {f : Addr} {fd : FuncData} {ps : List Str} {sp : Sp}
/-- a def by its body, its code object known -/
theorem okGc {x qual : Str} {params : Arguments} {body : List Stmt} {scope : Scope} {dvs : List V} {kws : List (Str × V)} {N : List Str}
    (F : FunD K x qual params body scope dvs kws f fd) (S : FnScope N ps scope) (len : ∀ vs H Q E, sp vs H Q E → vs.length = ps.length)
    (hbody : ∀ (A : Around) (outer : List Env) (s : Shared) (H : Hp) (vs : List V) (Q : VK) (E : XK),
      RoomG k (A.deeper (envOfC qual scope s.heap.objs.size f fd.code)) → sp vs H Q E →
      ∃ t, PSs (cxOf CX P w K mg base N qual scope f fd.code A outer s H E) body t ∧ t { nx := fun _ H' => Q .non H', rt := Q } (start N vs) H) :
    FnG P w K mg base CX (k + 1) f fd ps sp := by
  obtain ⟨oc, od, dV, kV, doc, pm, an, cdv, ct, osl, rfl, lk, hcd, _, _⟩ := F.ex
  refine ⟨len, fun A outer s H args us vs Q E hr e0 hb rv hsp => ?_⟩
  have KX : K.In s.heap := e0.mod.kin.keeps fun b o e => (e0.bs b o e).1
  have kinds : ∀ y ∈ ps.zip us, scope.names.lookup y.1 = some .local ∨
      (scope.names.lookup y.1 = some .cell ∧ ((cellsFrom (s.heap.objs.size + 1) scope.names []).lookup y.1).isSome = true) := fun ⟨n, v⟩ hy => by
    rcases S.par n (List.of_mem_zip hy).1 with q | q
    · exact .inl q
    · exact .inr ⟨q, PySem.W.cellsFrom_some _ _ _ (.inl q)⟩
  refine codeAny_call_function hr.r.depth (KX _ _ lk) rfl S.co S.gen rfl (PySem.W.codeRec_of KX hcd) (hb _ _ _ _ ?_)
  refine wpAny_newFunctionEnv_cells S.kind kinds fun env he s1 x => ?_
  subst he
  refine ⟨(e0.mod.nolimit.keeps fun b o e => (e0.bs b o e).1).keeps x.toInCall.keep, codeAny_func ?_⟩
  obtain ⟨t, ht, hq⟩ := hbody A outer s H vs Q E (hr.down _) hsp
  have I := inv_start (CX := CX) (E := E) (N := N) (qual := qual) (f := f) (cd := cdv) S hr.r.hd e0 (len _ _ _ _ hsp) rv x
  refine wpAny_mono (ht.run [] s1 (start N vs) H _ I hq) (fun fl s' hs => ?_) fun e s' hs => hs
  match fl, hs with
  | .ret u, ⟨v, σ', H', J, rv', q⟩ => exact ⟨v, H', J.os, J.bare, J.base, J.hok, rv', q⟩
  | .next, ⟨σ', H', J, q⟩ => exact ⟨V.non, H', J.os, J.bare, J.base, J.hok, rfl, q⟩
  | .brk, ⟨_, _, z⟩ => exact z.2.elim
  | .cont, ⟨_, _, z⟩ => exact z.2.elim
end
/-- what stands in the heap before the law's call: the script, and the tables of the code objects cs -/
structure Tab0 (cs : List (Addr × Addr)) (H : Hp) : Prop where
  at_ : ∀ p ∈ cs, H p.2 = some (.tbl #[])
theorem law_goT {P : Program} {w : World} {K : PySem.W.Frag} {mg mb : Str → Option Value} {CX : CXT} {k : Nat} {fa a : Addr} {cs : List (Addr × Addr)} {fd : FuncData} {x : Str} {sp : Sp} {s₁ : Shared} {vs : List Value} {H : Hp}
    (KX : K.In s₁.heap) (hns : s₁.heap.Ns mainGlobals mg) (hb : s₁.heap.Ns builtinsNs mb) (hbb : ∀ x : Str, x ≠ "__name__" → mb x = bootBuiltins x) (hlim : s₁.heap.NoLimit) (hg : s₁.gens = #[])
    (tab : ∀ p ∈ cs, s₁.heap.get? p.2 = some { cls := .none, data := .fields #[] }) (cod : ∀ p ∈ cs, PySem.W.CodeHd s₁.heap p.1 p.2)
    (hbm : ∃ (bm : Addr) (ob : Obj), mg "__builtins__" = some (.ref bm) ∧ bm ≠ builtinsNs ∧ s₁.heap.get? bm = some ob ∧ ob.cls = .type "module" ∧ ob.dict = some builtinsNs ∧ ob.data = .plain)
    (ha : s₁.heap.get? a = some { cls := .type "list", data := .seq vs.toArray }) (hr : RoomG k callerA)
    (F : ∀ base : Heap, K.In base → base.Ns mainGlobals mg → (∀ p ∈ cs, LamX.TabB base mg p.1 p.2) → FnG P w K mg base CX k fa fd [x] sp) (hbind : ∀ (s : Shared) (u : Value), BindsTo s fd ⟨[u], []⟩ [(x, u)])
    (hsp : sp [.ref a] H (fun v _ => v = .bl true) fun _ _ _ => False) (hCX : ∀ e s', CX [] H s₁ (fun _ _ _ => False) e s' → False)
    (hT : Tab0 cs H) (hO : ∀ b, H b = none ∨ b ∈ cs.map (·.2) ∨ ∃ o xs, H b = some (.frz o (.lst xs))) (hok : HOk P w H s₁.heap) (hA : ∀ b, H b ≠ none → b = a ∨ b ∈ cs.map (·.2)) (hK : ∀ b, H b ≠ none → K.lookup b = none) :
    codeAny (model P w) callerA (.call (.ref fa) ⟨[.ref a], []⟩) (fun r s' => r = .ok (.ret (.bool true)) ∧ OldK s₁.heap s'.heap ∧ s'.os = s₁.os ∧ AllBare s'.gens) s₁ := by
  have isT : ∀ b : Addr, b ∈ cs.map (·.2) → s₁.heap.get? b = some { cls := .none, data := .fields #[] } := fun b hb => by
    obtain ⟨p, hp, e⟩ := List.mem_map.mp hb
    rw [← e]
    exact tab p hp
  have un : ∀ {b : Addr} {o : Obj}, s₁.heap.get? b = some o → (∀ zs n, o.data ≠ .seq zs n) → o.data ≠ .fields #[] → H b = none := fun {b o} e h1 h2 => by
    cases q : H b with
    | none => rfl
    | some u =>
      rcases hA b (by rw [q]; exact fun z => nomatch z) with z | z
      · rw [z, ha] at e
        exact (h1 _ _ (congrArg Obj.data (Option.some.inj e)).symm).elim
      · rw [isT b z] at e
        exact (h2 (congrArg Obj.data (Option.some.inj e)).symm).elim
  have nsK : ∀ {b : Addr} {m : Str → Option Value}, s₁.heap.Ns b m → (hidT s₁.heap H).Ns b m := fun {b m} ⟨o, es, ep, e, d, r⟩ =>
    ⟨o, es, ep, hidT_get e (un e (fun zs n z => by rw [d] at z; cases z) (fun z => by rw [d] at z; cases z)), d, r⟩
  have kb : K.In (hidT s₁.heap H) := fun b o e => hidT_get (KX b o e) (by
    cases q : H b with
    | none => rfl
    | some u =>
      rw [hK b (by rw [q]; exact fun z => nomatch z)] at e
      cases e)
  obtain ⟨mc, l1, l2⟩ := hlim
  have tb : ∀ p ∈ cs, LamX.TabB (hidT s₁.heap H) mg p.1 p.2 := fun p hp => by
    refine ⟨?_, ?_, fun z => ?_⟩
    · obtain ⟨o, us, file, tf, flags, tg, inF, text, tt, e1, r1, r2, r3, r4⟩ := cod p hp
      refine ⟨o, us, file, tf, flags, tg, inF, text, tt, hidT_get e1 (un e1 (fun zs n z => by rw [r2] at z; cases z) fun z => ?_), r1, r2, r3, r4⟩
      rw [r2] at z
      cases z
      simp at r3
    · obtain ⟨bm, ob, b1, b2, b3, b4, b5, b6⟩ := hbm
      refine ⟨bm, ob, b1, b2, fun q => ?_, fun q => ?_, hidT_get b3 (un b3 (fun zs n z => by rw [b6] at z; cases z) fun z => by rw [b6] at z; cases z), b4, b5, b6⟩
      · obtain ⟨o, es, ep, e, hd, _⟩ := hns
        rw [q, e] at b3
        cases b3
        rw [hd] at b6
        cases b6
      · rw [q, tab p hp] at b3
        cases b3
        cases b6
    · obtain ⟨o, es, ep, e, hd, _⟩ := hns
      rw [z, tab p hp] at e
      cases e
      cases hd
  have e0 : Env0 P w K mg (hidT s₁.heap H) callerA [] s₁ H :=
    ⟨rfl, ⟨kb, nsK hns, ⟨mb, nsK hb, hbb⟩, ⟨mc, nsK l1, l2⟩⟩, fun b o e => of_hidT e, Nat.le_of_eq (hidT_size _ _), trivial, fun b hb => absurd (show b ∈ ([] : List Addr) from hb) List.not_mem_nil, hok, .of_eq hg⟩
  refine codeAny_mono ((F _ kb (nsK hns) tb).run callerA [] s₁ H ⟨[.ref a], []⟩ [.ref a] [.ref a] _ _ hr e0 (hbind s₁ (.ref a)) (.cons rfl .nil) hsp) fun r s' h => ?_
  match r, h with
  | .error e, h => exact (hCX e s' h).elim
  | .ok (.ret u), h =>
    obtain ⟨v, H', os, bare, un', hok', r', q⟩ := h
    obtain rfl : v = .bl true := q
    obtain rfl : u = Value.bool true := r'
    have key : ∀ b o, b ∉ cs.map (·.2) → s₁.heap.get? b = some o → s'.heap.get? b = some o := fun b o nb e => by
      rcases hO b with z | z | ⟨ob, xs, z⟩
      · exact un'.keep b o e z (fun z => absurd (show b ∈ ([] : List Addr) from z) List.not_mem_nil) (fun z => absurd (show b ∈ ([] : List Addr) from z) List.not_mem_nil)
      · exact absurd z nb
      · obtain ⟨e1, _⟩ := hok b _ z
        obtain ⟨e2, _⟩ := hok' b _ (un'.frzs b ob _ z)
        rw [e] at e1
        rw [Option.some.inj e1]
        exact e2
    have more : ∀ p ∈ cs, ∃ m : Array Value, s'.heap.get? p.2 = some { cls := .none, data := .fields m } := fun p hp => by
      obtain ⟨m, z⟩ := un'.tbls p.2 #[] (hT.at_ p hp)
      exact ⟨_, hok' p.2 _ z⟩
    refine ⟨rfl, ⟨fun b o e => ?_, fun b o e => ?_⟩, os, bare⟩
    · by_cases hb : b ∈ cs.map (·.2)
      · obtain ⟨p, hp, ep⟩ := List.mem_map.mp hb
        obtain ⟨m, hm⟩ := more p hp
        rw [← ep] at e ⊢
        rw [tab p hp] at e
        cases e
        exact .inr (.inl ⟨((cod p hp).tab (tab p hp)).isCodeTable, rfl, #[], m, rfl, by rw [Array.empty_append]; exact hm⟩)
      · exact .inl (key b o hb e)
    · by_cases hb : b ∈ cs.map (·.2)
      · obtain ⟨p, hp, ep⟩ := List.mem_map.mp hb
        obtain ⟨m, hm⟩ := more p hp
        rw [← ep]
        exact ⟨_, hm⟩
      · exact ⟨o, key b o hb e⟩
theorem law_callTG {P : Program} {w : World} {K : PySem.W.Frag} {mg mb : Str → Option Value} {CX : CXT} {k : Nat} {fa a : Addr} {cs : List (Addr × Addr)} {fd : FuncData} {x : Str} {sp : Sp} {s₁ : Shared} {vs : List Value} {ns : List Int}
    (KX : K.In s₁.heap) (hns : s₁.heap.Ns mainGlobals mg) (hb : s₁.heap.Ns builtinsNs mb) (hbb : ∀ x : Str, x ≠ "__name__" → mb x = bootBuiltins x) (hlim : s₁.heap.NoLimit) (hg : s₁.gens = #[])
    (tab : ∀ p ∈ cs, s₁.heap.get? p.2 = some { cls := .none, data := .fields #[] }) (nT : ∀ p ∈ cs, K.lookup p.2 = none) (cod : ∀ p ∈ cs, PySem.W.CodeHd s₁.heap p.1 p.2)
    (hbm : ∃ (bm : Addr) (ob : Obj), mg "__builtins__" = some (.ref bm) ∧ bm ≠ builtinsNs ∧ s₁.heap.get? bm = some ob ∧ ob.cls = .type "module" ∧ ob.dict = some builtinsNs ∧ ob.data = .plain)
    (ha : s₁.heap.get? a = some { cls := .type "list", data := .seq vs.toArray }) (hi : IntsAre vs ns) (hl : ns.length ≤ sizeLine) (hr : RoomG k callerA)
    (F : ∀ base : Heap, K.In base → base.Ns mainGlobals mg → (∀ p ∈ cs, LamX.TabB base mg p.1 p.2) → FnG P w K mg base CX k fa fd [x] sp) (hbind : ∀ (s : Shared) (u : Value), BindsTo s fd ⟨[u], []⟩ [(x, u)])
    (hsp : ∀ H : Hp, Tab0 cs H → SqL K H a (ns.map V.int) → sp [.ref a] H (fun v _ => v = .bl true) fun _ _ _ => False) (hCX : ∀ H e s', CX [] H s₁ (fun _ _ _ => False) e s' → False) :
    codeAny (model P w) callerA (.call (.ref fa) ⟨[.ref a], []⟩) (fun r s' => r = .ok (.ret (.bool true)) ∧ OldK s₁.heap s'.heap ∧ s'.os = s₁.os ∧ AllBare s'.gens) s₁ := by
  have rv := vals_ints hi
  have lenV := hi.length
  have isT : ∀ b : Addr, b ∈ cs.map (·.2) → s₁.heap.get? b = some { cls := .none, data := .fields #[] } ∧ K.lookup b = none := fun b hb => by
    obtain ⟨p, hp, e⟩ := List.mem_map.mp hb
    rw [← e]
    exact ⟨tab p hp, nT p hp⟩
  have aT : a ∉ cs.map (·.2) := fun z => by
    have q := (isT a z).1
    rw [ha] at q
    cases congrArg Obj.data (Option.some.inj q)
  have memT : ∀ p ∈ cs, p.2 ∈ cs.map (·.2) := fun p hp => List.mem_map.mpr ⟨p, hp, rfl⟩
  let H0 : Option HO → Hp := fun z b => if b = a then z else if b ∈ cs.map (·.2) then some (.tbl #[]) else none
  have h_a : ∀ z, H0 z a = z := fun z => if_pos rfl
  have h_t : ∀ z b, b ∈ cs.map (·.2) → H0 z b = some (.tbl #[]) := fun z b hb => (if_neg fun e => aT (by rw [← e]; exact hb)).trans (if_pos hb)
  have h_n : ∀ z b, b ≠ a → b ∉ cs.map (·.2) → H0 z b = none := fun z b n hb => (if_neg n).trans (if_neg hb)
  have t0 : ∀ z, Tab0 cs (H0 z) := fun z => ⟨fun p hp => h_t z _ (memT p hp)⟩
  have two : ∀ z b, H0 z b ≠ none → b = a ∨ b ∈ cs.map (·.2) := fun z b h => by
    by_cases h1 : b = a
    · exact .inl h1
    · by_cases h2 : b ∈ cs.map (·.2)
      · exact .inr h2
      · exact (h (h_n z b h1 h2)).elim
  have tok : ∀ z b u, b ∈ cs.map (·.2) → H0 z b = some u → ObjOk P w (H0 z) s₁.heap b u := fun z b u hb e => by
    rw [h_t z b hb] at e
    cases e
    exact (isT b hb).1
  cases hk : K.lookup a with
  | some o =>
    have e := (KX a o hk).symm.trans ha
    obtain rfl := Option.some.inj e
    refine law_goT (H := H0 none) KX hns hb hbb hlim hg tab cod hbm ha hr F hbind (hsp _ (t0 _) (.inr ⟨_, vs.toArray, _, hk, rfl, rfl, rfl, by rw [List.size_toArray, lenV]; exact hl, by simpa using rv⟩)) (hCX _) (t0 _) (fun b => ?_) (fun b u z => ?_) (two _) (fun b z => ?_)
    · by_cases h2 : b ∈ cs.map (·.2)
      · exact .inr (.inl h2)
      · by_cases h1 : b = a
        · exact .inl (by rw [h1]; exact h_a none)
        · exact .inl (h_n _ b h1 h2)
    · rcases two _ b (by rw [z]; exact fun y => nomatch y) with h1 | h2
      · rw [h1, h_a] at z
        cases z
      · exact tok _ b u h2 z
    · rcases two _ b z with h1 | h2
      · rw [h1, h_a] at z
        exact (z rfl).elim
      · exact (isT b h2).2
  | none =>
    refine law_goT (H := H0 (some (.frz { cls := .type "list", data := .seq vs.toArray } (.lst (ns.map V.int))))) KX hns hb hbb hlim hg tab cod hbm ha hr F hbind (hsp _ (t0 _) (.inl (.inr ⟨_, h_a _⟩))) (hCX _) (t0 _) (fun b => ?_) (fun b u z => ?_) (two _) (fun b z => ?_)
    · by_cases h2 : b ∈ cs.map (·.2)
      · exact .inr (.inl h2)
      · by_cases h1 : b = a
        · exact .inr (.inr ⟨_, _, by rw [h1]; exact h_a _⟩)
        · exact .inl (h_n _ b h1 h2)
    · rcases two _ b (by rw [z]; exact fun y => nomatch y) with h1 | h2
      · rw [h1, h_a] at z
        obtain rfl := Option.some.inj z
        rw [h1]
        exact ⟨ha, by rw [List.length_map]; exact hl, vs, _, rv, ha⟩
      · exact tok _ b u h2 z
    · rcases two _ b z with h1 | h2
      · rw [h1]
        exact hk
      · exact (isT b h2).2
/-- the end of a law with tables, over a head by facts -/
theorem walkGT {l : PySem.W.OpenLaw} {n k : Nat} {q : Program} {loose : List Str} {XP : (Str → Option Value) → Heap → Prop} {YP : World → Heap → Prop} {d : DefRec} {CX : CXT} {x : Str}
    (hn : l.most = some n) (hn2 : n ≤ sizeLine) (hdf : d.params.defaults = []) (hr : RoomG k callerA)
    (F : ∀ (w : World) (mg : Str → Option Value) (fa : Addr) (h : Heap), YP w h → h.Ns mainGlobals mg → mg d.name = some (.ref fa) →
      ∃ (K : PySem.W.Frag) (fd : FuncData) (sp : Sp) (cs : List (Addr × Addr)), K.In h ∧ (∀ p ∈ cs, h.get? p.2 = some { cls := .none, data := .fields #[] }) ∧ (∀ p ∈ cs, K.lookup p.2 = none) ∧ (∀ p ∈ cs, PySem.W.CodeHd h p.1 p.2) ∧ (∀ (s : Shared) (u : Value), BindsTo s fd ⟨[u], []⟩ [(x, u)]) ∧
        (∀ (H : Hp) (a : Addr) (ns : List Int), ns.length ≤ n → Tab0 cs H → SqL K H a (ns.map V.int) → sp [.ref a] H (fun v _ => v = .bl true) fun _ _ _ => False) ∧
        ∀ base : Heap, K.In base → base.Ns mainGlobals mg → (∀ p ∈ cs, LamX.TabB base mg p.1 p.2) → FnG l.prog w K mg base CX k fa fd [x] sp)
    (hCX : ∀ (H : Hp) (s : Shared) (e : Value) (s' : Shared), CX [] H s (fun _ _ _ => False) e s' → False) :
    PySem.W.WalkO q loose XP YP l.row.toRowW d [] (fun f vs => PySem.call f vs) := by
  refine Att.attach_call hn hdf fun w s₀ s₁ mg mb fa o pm cd doc a vs ns G Y ho hd hcd hmg hobj hints hlen hg => ?_
  obtain ⟨K, fd, sp, cs, KX, h1, h2, h3, hb, hsp, hF⟩ := F w mg fa _ Y G.T.g hmg
  exact law_callTG KX G.T.g G.T.b G.T.builtins G.T.nolimit hg h1 h2 h3 G.T.bmain hobj hints (Nat.le_trans hlen hn2) hr hF hb (fun H hT hS => hsp H a ns hlen hT hS) fun H e s' => hCX H s₁ e s'
end Gu

set_option Elab.async false
set_option linter.all false
set_option maxRecDepth 100000
set_option maxHeartbeats 4000000
/-! Own layer: defs and methods that may raise, by their names: called where nothing is let out, in a def that lets errors out, in a try's body; by position and by keywords. -/
namespace Ex
open PySem PySem.Spec PySem.Calls PyProof.Rows L2 Gu
theorem passN {X : Cx} : Passes (L2.CX X.prog X.w) X E0 := fun _ _ _ _ _ _ _ ⟨_, _, _, _, _, _, _, _, _, _, _, _, z⟩ => z.elim
theorem passX {X : Cx} {E : XK} (tk : Takes X (fun cls d _ H => E cls d H)) : Passes (L2.CX X.prog X.w) X E := passes_call tk fun _ _ _ _ h => h
structure DfX (P : Program) (w : World) (K : PySem.W.Frag) (mg : Str → Option Value) (base : Heap) (k : Nat) (x : Str) (ps : List Str) (sp : Sp) : Prop where
  ex : ∃ fd, FnOk P w K mg base (L2.CX P w) k (He.ga K x) fd ps sp ∧ Binds K fd ps []
  gl : mg x = some (.ref (He.ga K x))
  kp : PySem.W.keepIn K (.ref (He.ga K x)) = true
structure MfX (P : Program) (w : World) (K : PySem.W.Frag) (mg : Str → Option Value) (base : Heap) (k : Nat) (c m : Str) (ps : List Str) (sp : Sp) : Prop where
  ex : ∃ fd, FnOk P w K mg base (L2.CX P w) k (He.ma K (He.ga K c) m) fd ps sp ∧ Binds K fd ps []
  cl : Cls K (He.ga K c)
  me : Meth K (He.ga K c) m (He.ma K (He.ga K c) m)
/-- .. called by the keywords ks alone behind self; j: the places of the other parameters among the keywords -/
structure MfXK (P : Program) (w : World) (K : PySem.W.Frag) (mg : Str → Option Value) (base : Heap) (k : Nat) (c m : Str) (ps ks : List Str) (j : List Nat) (sp : Sp) : Prop where
  ex : ∃ fd, FnOk P w K mg base (L2.CX P w) k (He.ma K (He.ga K c) m) fd ps sp ∧ ∀ (s : Shared) (u : Value) (ws : List Value), ws.length = ks.length → BindsTo s fd ⟨[u], ks.zip ws⟩ (ps.zip (u :: j.filterMap fun i => ws[i]?))
  cl : Cls K (He.ga K c)
  me : Meth K (He.ga K c) m (He.ma K (He.ga K c) m)
section
variable {X : Cx} {k j : Nat} {x c m : Str} {ps ks : List Str} {ji : List Nat} {sp : Sp} {p pos apos : Pos} {e o : Expr} {es : List Expr} {kws : List Keyword} {t tk : TA} {ta : TE} {E : XK} {W : WX}
theorem pcallX (D : DfX X.prog X.w X.K X.mg X.base k x ps sp) (hr : Room j X.A) (px : Passes (L2.CX X.prog X.w) X E) (ha : PA X (e :: es) t) (hj : k ≤ j := by decide) (hg : Gl X x := by rfl) (hdb : (x == ("__debug__" : Str)) = false := by decide)
    (he : starEach (e :: es) X.env = (false, eval e X.env) :: starEach es X.env := by rfl) (hpl : (backTo pos (starEach es X.env)).any (·.1) = false := by rfl) :
    PE X (.Call (.Name x p) (e :: es) [] pos) (tCall sp [] E t) := by
  obtain ⟨fd, F, b⟩ := D.ex
  exact pe_call F (hr.mono hj) hg D.gl D.kp b .nil px ha hdb he hpl
theorem pmethX {pl : Sem Bool} (D : MfX X.prog X.w X.K X.mg X.base k c m ps sp) (hr : Room j X.A) (px : Passes (L2.CX X.prog X.w) X E) (he : PE X o ta) (ha : PA X (e :: es) t) (hj : k ≤ j := by decide)
    (hst : starEach (e :: es) X.env = (false, eval e X.env) :: starEach es X.env := by rfl) (hpl : (backTo pos (starEach es X.env)).any (·.1) = false := by rfl)
    (ht : eval (.Call (.Attribute o m apos) (e :: es) [] pos) X.env = (do
      let ov ← eval o X.env
      standAt apos.atName
      let (f, first) ← holding [ov] (getMethod ov m pl)
      callWith pos f first (backTo pos (starEach (e :: es) X.env)) (backToKw pos (keywordEach [] X.env))) := by rfl) :
    PE X (.Call (.Attribute o m apos) (e :: es) [] pos) (tMeth (He.ga X.K c) m sp [] E ta t) := by
  obtain ⟨fd, F, b⟩ := D.ex
  exact pe_meth he D.cl D.me F (hr.mono hj) b .nil px ha hst hpl ht
/-- within a comprehension's block the reading names K by hand -/
theorem pmethXB {pl : Sem Bool} (K : PySem.W.Frag) (D : MfX X.prog X.w X.K X.mg X.base k c m ps sp) (hr : Room j X.A) (px : Passes (L2.CX X.prog X.w) X E) (he : PE X o ta) (ha : PA X (e :: es) t) (hj : k ≤ j := by decide) (hK : X.K = K := by rfl)
    (hst : starEach (e :: es) X.env = (false, eval e X.env) :: starEach es X.env := by rfl) (hpl : (backTo pos (starEach es X.env)).any (·.1) = false := by rfl)
    (ht : eval (.Call (.Attribute o m apos) (e :: es) [] pos) X.env = (do
      let ov ← eval o X.env
      standAt apos.atName
      let (f, first) ← holding [ov] (getMethod ov m pl)
      callWith pos f first (backTo pos (starEach (e :: es) X.env)) (backToKw pos (keywordEach [] X.env))) := by rfl) :
    PE X (.Call (.Attribute o m apos) (e :: es) [] pos) (tMeth (He.ga K c) m sp [] E ta t) := by
  subst hK
  exact pmethX D hr px he ha hj hst hpl ht
def tMethKw (C : Addr) (m : Str) (sp : Sp) (n : Nat) (j : List Nat) (E : XK) (ta : TE) (tk : TA) : TE := fun σ H Q => ta σ H fun x H1 => ∃ a dx fs, x = .ref a ∧ H1 a = some (.ins C dx fs) ∧ fs.lookup m = none ∧
  tk σ H1 fun zs H2 => zs.length = n ∧ sp (x :: j.filterMap fun i => zs[i]?) H2 Q E
theorem pmethXK {pl : Sem Bool} (D : MfXK X.prog X.w X.K X.mg X.base k c m ps ks ji sp) (hr : Room j X.A) (px : Passes (L2.CX X.prog X.w) X E) (he : PE X o ta) (hkw : PK X kws tk) (hj : k ≤ j := by decide)
    (hall : (backToKw pos (keywordEach kws X.env)).all (·.1.isSome) = true := by rfl) (hks : (backToKw pos (keywordEach kws X.env)).filterMap (·.1) = ks := by rfl)
    (hpl : ((backTo pos (starEach [] X.env)).any (·.1) || (backToKw pos (keywordEach kws X.env)).any (·.1.isNone)) = false := by rfl)
    (ht : eval (.Call (.Attribute o m apos) [] kws pos) X.env = (do
      let ov ← eval o X.env
      standAt apos.atName
      let (f, first) ← holding [ov] (getMethod ov m pl)
      callWith pos f first (backTo pos (starEach [] X.env)) (backToKw pos (keywordEach kws X.env))) := by rfl) :
    PE X (.Call (.Attribute o m apos) [] kws pos) (tMethKw (He.ga X.K c) m sp ks.length ji E ta tk) := by
  obtain ⟨fd, F, b⟩ := D.ex
  refine ⟨fun pins s σ H Q I h => PySem.W.methodCall_KW (pl := pl) (thn (he.run pins s σ H _ I h) fun u s1 ⟨x, H1, I1, rx, a, dx, fs, ex, ea, l, q⟩ => ?_) ht⟩
  subst ex
  obtain rfl : u = Value.ref a := rx
  refine getmeth_ok I1 ea D.cl D.me l (PySem.W.callWith_KW0 (first := [.ref a]) (h₀ := X.base) I.ok.mod.kin D.me.kp hall (thn (hkw.run pos pins s1 σ H1 _ I1 q) fun ws s2 ⟨zs, H2, I2, rz, hz, q2⟩ => ⟨I2.kIn, ?_⟩) hpl)
  rw [hks]
  have rv : Vals (V.ref a :: ji.filterMap fun i => zs[i]?) (Value.ref a :: ji.filterMap fun i => ws[i]?) := .cons rfl (vals_pick rz ji)
  refine wpAny_call (codeAny_mono (F.run X.A X.stack s2 H2 ⟨[Value.ref a] ++ [], ks.zip ws⟩ _ _ Q E (hr.mono hj) I2.env0 (b s2 (.ref a) ws (rz.length.symm.trans hz)) rv q2) fun r s' hq => ?_)
  match r, hq with
  | .error e, hq => exact px pins σ H2 s2 e s' I2 hq
  | .ok (.ret u), hq => exact I2.after hq
end
section
variable {X : Cx} {k j : Nat} {c m : Str} {ps : List Str} {sp : Sp} {pos apos : Pos} {e o : Expr} {es : List Expr} {t : TA} {ta : TE} {W : WX}
/-- o.m(e, ..) in a try's body -/
def tMethT (C : Addr) (m : Str) (sp : Sp) (E : L2.St → XK) (ta : TE) (t : TA) : TE := fun σ H Q => ta σ H fun x H1 => ∃ a dx fs, x = .ref a ∧ H1 a = some (.ins C dx fs) ∧ fs.lookup m = none ∧ t σ H1 fun vs H2 => sp (x :: vs) H2 Q (E σ)
theorem pmethT {pl : Sem Bool} (D : MfX X.prog X.w X.K X.mg X.base k c m ps sp) (hr : Room j X.A) (tk : Takes X W) (he : PE X o ta) (ha : PA X (e :: es) t) (hj : k ≤ j := by decide)
    (hst : starEach (e :: es) X.env = (false, eval e X.env) :: starEach es X.env := by rfl) (hpl : (backTo pos (starEach es X.env)).any (·.1) = false := by rfl)
    (ht : eval (.Call (.Attribute o m apos) (e :: es) [] pos) X.env = (do
      let ov ← eval o X.env
      standAt apos.atName
      let (f, first) ← holding [ov] (getMethod ov m pl)
      callWith pos f first (backTo pos (starEach (e :: es) X.env)) (backToKw pos (keywordEach [] X.env))) := by rfl) :
    PE X (.Call (.Attribute o m apos) (e :: es) [] pos) (tMethT (He.ga X.K c) m sp (WE W) ta t) := by
  obtain ⟨fd, F, b⟩ := D.ex
  refine ⟨fun pins s σ H Q I h => PySem.W.methodCall_KW (pl := pl) (thn (he.run pins s σ H _ I h) fun u s1 ⟨x, H1, I1, rx, a, dx, fs, ex, ea, l, q⟩ => ?_) ht⟩
  subst ex
  obtain rfl : u = Value.ref a := rx
  refine getmeth_ok I1 ea D.cl D.me l (PySem.W.callWith_K (first := [.ref a]) (h₀ := X.base) I.ok.mod.kin D.me.kp (thn (ha.run pos pins s1 σ H1 _ I1 q) fun us s2 ⟨vs, H2, I2, r, q2⟩ => ⟨I2.kIn, ?_⟩) hst hpl)
  exact run_fnS (E := WE W) (us := .ref a :: us) (vs := .ref a :: vs) F (hr.mono hj) b (passAt tk σ) I2 (.cons rfl r) q2
end
/-! ### facts of an error's class over any base -/
def oexGB (B : String) (K : PySem.W.Frag) (C : Addr) : Bool := match K.lookup C with
  | some ⟨.type "type", _, .cls cd, sl⟩ => (match cd.mro, sl.toList with
    | .ref c :: bm, [_, _, _, _, some (.builtin n), _] => (c == C && n == B ++ ".__new__") && ((!cd.hasDel && cd.hasDict) && refsB (tailE B) bm)
    | _, _ => false)
  | _ => false
theorem oexGB_ok {B : String} {K : PySem.W.Frag} {C : Addr} (h : oexGB B K C = true) :
    ∃ nm q N bs bm sn sub ab col dd k0 k1 k2 k3 k5, K.lookup C = some (excClassObj nm q C N bs bm true sn sub ab col dd k0 k1 k2 k3 k5 (B ++ ".__new__")) ∧ refsB (tailE B) bm = true := by
  unfold oexGB at h
  split at h
  · rename_i dd cd sl ho
    split at h
    · rename_i c bm k0 k1 k2 k3 n k5 hm hs
      obtain ⟨⟨h1, h2⟩, h3⟩ := (He.ba h).imp_left He.ba
      obtain ⟨h4, h5⟩ := He.ba h3
      obtain ⟨h6, h7⟩ := He.ba h4
      have e1 : c = C := beq_iff_eq.mp h1
      have e2 : n = B ++ ".__new__" := beq_iff_eq.mp h2
      have e3 : cd.hasDel = false := by simpa using h6
      subst e1 e2
      obtain ⟨nm, bs, mro, ns, qn, hd, sn, sub, ab, col, del⟩ := cd
      dsimp only at hm e3 h7
      subst hm e3 h7
      have e4 : sl = #[k0, k1, k2, k3, some (.builtin (B ++ ".__new__")), k5] := by
        obtain ⟨l⟩ := sl
        simp only at hs
        rw [hs]
      subst e4
      exact ⟨nm, qn, ns, bs, bm, sn, sub, ab, col, dd, k0, k1, k2, k3, k5, ho, h5⟩
    · cases h
  · cases h
def bOf (a : Option Bool) (b : Bool) : Bool := decide (a = some b)
theorem bOf_ok {a : Option Bool} {b : Bool} (h : bOf a b = true) : a = some b := of_decide_eq_true h
/-- what the rules ask of an error's class at C, over B, with the field n -/
def errG (B : String) (K : PySem.W.Frag) (C : Addr) (n : Str) : Bool := oexGB B K C && (He.eqO (PySem.W.findIn K (.ref C) "__setattr__") (some (some (.builtin "object.__setattr__"))) && (bOf (PySem.W.subIn K (.ref C) (.type "BaseException")) true &&
  (decide (PySem.W.typeIn K (.ref C) = some (.type "type")) && (PySem.W.keepIn K (.ref C) && (xfB K C && (He.eqO (PySem.W.findIn K (.ref C) "__class__") (some (some (.builtin "object.__class__"))) &&
  (He.eqO (PySem.W.specialIn K (.builtin "object.__class__") "__get__") (some (some (.builtin "getset_descriptor.__get__"))) && (bOf (PySem.W.takesIn K (.builtin "object.__class__")) true && (bOf (PySem.W.mroIn K C (.type "object")) true &&
  (He.eqO (PySem.W.findIn K (.ref C) n) (some none) && (He.eqO (PySem.W.findIn K (.ref C) "__init__") (some (some (.ref (He.ma K C "__init__")))) && (decide (PySem.W.typeIn K (.ref (He.ma K C "__init__")) = some (.type "function")) && bOf (PySem.W.exmOne K (.ref C) (.ref C)) true))))))))))))
structure ErrG (B : String) (K : PySem.W.Frag) (C : Addr) (n : Str) : Prop where
  ox : OexG B (tailE B) K C
  xf : XfC K C
  ec : ExcC K C
  no : PySem.W.findIn K (.ref C) n = some none
  ii : PySem.W.findIn K (.ref C) "__init__" = some (some (.ref (He.ma K C "__init__")))
  ti : PySem.W.typeIn K (.ref (He.ma K C "__init__")) = some (.type "function")
  em : PySem.W.exmOne K (.ref C) (.ref C) = some true
theorem errG_ok {B : String} {K : PySem.W.Frag} {C : Addr} {n : Str} (b : BaseE B (tailE B)) (h : errG B K C n = true) : ErrG B K C n := by
  obtain ⟨a1, h⟩ := He.ba h
  obtain ⟨a2, h⟩ := He.ba h
  obtain ⟨a3, h⟩ := He.ba h
  obtain ⟨a4, h⟩ := He.ba h
  obtain ⟨a5, h⟩ := He.ba h
  obtain ⟨a6, h⟩ := He.ba h
  obtain ⟨a7, h⟩ := He.ba h
  obtain ⟨a8, h⟩ := He.ba h
  obtain ⟨a9, h⟩ := He.ba h
  obtain ⟨a10, h⟩ := He.ba h
  obtain ⟨a11, h⟩ := He.ba h
  obtain ⟨a12, h⟩ := He.ba h
  obtain ⟨a13, a14⟩ := He.ba h
  have x := xfB_ok a6
  exact ⟨⟨b, oexGB_ok a1, He.eqO_ok a2, bOf_ok a3, of_decide_eq_true a4, a5⟩, x, ⟨x.ga, x.gg, x.exC, x.hdC, He.eqO_ok a7, He.eqO_ok a8, bOf_ok a9, bOf_ok a10⟩, He.eqO_ok a11, He.eqO_ok a12, of_decide_eq_true a13, bOf_ok a14⟩
/-- an error's __init__ with one field -/
def spErr (C : Addr) (n : Str) : Sp := fun vs H Q _ => ∃ (a : Addr) (v : V), vs = [.ref a, v] ∧ H a = some (exo a C none) ∧ ∀ dx, H dx = none → dx ≠ a → Q .non (upd (upd H dx (exd dx [(n, v)])) a (exo a C (some dx)))
/-- the error's maker, for a raise -/
structure Ei (P : Program) (w : World) (K : PySem.W.Frag) (mg : Str → Option Value) (base : Heap) (c n : Str) : Prop where
  ex : ∃ fd, FnOk P w K mg base CX0 1 (He.ma K (He.ga K c) "__init__") fd ["self", n] (spErr (He.ga K c) n) ∧ Binds K fd ["self", n] []
theorem heap_err {H : Hp} {a dx : Addr} {fs : List (Str × V)} {o1 o2 o3 : HO} (ha : H a = none) (hd : H dx = none) : Same H (upd (del (upd (upd (upd H a o1) dx o2) a o3) a) dx (.xd fs)) := fun b o e => by
  have nb : b ≠ a := ne_of_none e ha
  have nd : b ≠ dx := ne_of_none e hd
  rw [upd_ne nd, del_ne nb, upd_ne nb, upd_ne nd, upd_ne nb]
  exact e
/-- what is asked at a raise of C(v): that the def's own wish of errors holds of it -/
theorem raise_ok {K : PySem.W.Frag} {c n : Str} {v : V} {H : Hp} {E : XK} (q : ∀ d H', H d = none → Same H H' → H' d = some (.xd [(n, v)]) → E (.ref (He.ga K c)) (some d) H') :
    ∀ a, H a = none → spErr (He.ga K c) n (.ref a :: ([v] ++ [])) (upd H a (exo a (He.ga K c) none))
      (fun u H2 => u = .non ∧ ∃ (d : Addr) (fs : List (Str × V)), H2 a = some (exo a (He.ga K c) (some d)) ∧ H2 d = some (exd d fs) ∧ H d = none ∧ E (.ref (He.ga K c)) (some d) (upd (del H2 a) d (.xd fs))) (fun _ _ _ => False) := fun a ha => by
  refine ⟨a, v, rfl, upd_same, fun dx hdx ne => ⟨rfl, dx, [(n, v)], upd_same, ?_, ?_, ?_⟩⟩
  · rw [upd_ne ne, upd_same]
  · rw [upd_ne ne] at hdx
    exact hdx
  · rw [upd_ne ne] at hdx
    exact q dx _ hdx (heap_err ha hdx) upd_same
end Ex

set_option Elab.async false
set_option linter.all false
set_option maxRecDepth 100000
set_option maxHeartbeats 4000000
/-! enumerate over a tuple -/
namespace PySem
open Sem (wp)
open AutoSeq1 (wpAny_loadPart')
theorem meets_enumerate_newT (l : Addr) (items : Array Value) (n : Nat) (dct : Option Addr) (sl : Array (Option Value)) :
    Meets (Builtin.«enumerate.__new__» ⟨[.type "enumerate", .ref l], []⟩) (fun _ R s => s.heap.get? l = some { cls := .type "tuple", dict := dct, data := .seq items n, slots := sl } ∧
      R (.ok (.ret (.ref (s.heap.push { cls := .type "tuple_iterator", data := .fields #[.ref l, .int 0 0] }).objs.size)))
        { s with heap := (s.heap.push { cls := .type "tuple_iterator", data := .fields #[.ref l, .int 0 0] }).push { cls := .type "enumerate", data := .fields #[.none, .bool false, .ref s.heap.objs.size, rawInt 0, .none, .none] } }) :=
  .of_wp fun prog w A R s h => by
    obtain ⟨hp, g, d, tk, os⟩ := s; obtain ⟨hl, h⟩ := h
    have hsub := sub_enumerate
    have hL : Heap.IsTuple (Shared.heap ⟨hp, g, d, tk, os⟩) l items := ⟨_, hl, rfl, n, rfl⟩
    wp_walk using wpAny_loadPart' hl
    refine wpAny_stack_any fun st => wpAny_pure ?_
    split
    · rename_i c _ _ _ _ _
      cases (c == Value.type "enumerate")
      · wp_walk using wpAny_loadPart' hl, wpAny_pyIter_tuple hL
        exact ⟨_, rfl, h⟩
      · wp_walk using wpAny_loadPart' hl, wpAny_pyIter_tuple hL
        exact ⟨_, rfl, h⟩
    · wp_walk using wpAny_loadPart' hl, wpAny_pyIter_tuple hL
      exact ⟨_, rfl, h⟩
section
variable {prog : Program} {w : World} {A : Around} {E : Value → Shared → Prop} {s : Shared}
theorem call_enumerate_tuple {l : Addr} {items : Array Value} {Q : Value → Shared → Prop} (hL : s.heap.IsTuple l items)
    (h : ∀ h', IsEnum h' (s.heap.objs.size + 1) s.heap.objs.size 0 .none → h'.IsTupleIter s.heap.objs.size l 0 → h'.objs.size = s.heap.objs.size + 2 →
      (∀ b o, s.heap.get? b = some o → h'.get? b = some o) → Q (.ref (s.heap.objs.size + 1)) { s with heap := h' }) :
    wpAny (model prog w) A (call (.type "enumerate") [.ref l]) Q E s := by
  obtain ⟨⟨c, dct, dt, sl⟩, hl, hc, n, hd⟩ := hL
  replace hc : c = .type "tuple" := hc
  replace hd : dt = .seq items n := hd
  subst hc hd
  refine callType_new F.called_enumerate (by decide) (F.typeCall_enumerate_1 _) (F.newCall_enumerate_1 _) (fun obj => F.args_object_init_2 obj _) F.entry_enumerate_new
    (meets_enumerate_newT l items n dct sl) ⟨hl, ?_⟩
  have hz : (s.heap.push { cls := .type "tuple_iterator", data := .fields #[.ref l, .int 0 0] }).objs.size = s.heap.objs.size + 1 := Heap.size_push ..
  show _ ∧ _
  rw [hz]
  have he : IsEnum ((s.heap.push { cls := .type "tuple_iterator", data := .fields #[.ref l, .int 0 0] }).push
      { cls := .type "enumerate", data := .fields #[.none, .bool false, .ref s.heap.objs.size, rawInt 0, .none, .none] }) (s.heap.objs.size + 1) s.heap.objs.size 0 .none := by
    have := Heap.get?_push_size (s.heap.push { cls := .type "tuple_iterator", data := .fields #[.ref l, .int 0 0] })
      (o := { cls := .type "enumerate", data := .fields #[.none, .bool false, .ref s.heap.objs.size, rawInt 0, .none, .none] }) rfl
    rw [hz] at this; exact this
  refine ⟨⟨_, he, rfl⟩, h _ he ⟨_, Heap.get?_push_of_some _ (Heap.get?_push_size _ rfl), rfl, rfl⟩ (by rw [Heap.size_push, hz]) fun b o x => Heap.get?_push_of_some _ (Heap.get?_push_of_some _ x)⟩
end
theorem Draws.tuple {prog : Program} {w : World} {A : Around} (hh : A.handled = none) (it l : Addr) (hne : l ≠ it) (items : Array Value) :
    Draws prog w A it [it, l] items.size (fun i v => items[i]? = some v) (fun i h => h.IsTupleIter it l i ∧ h.IsTuple l items) where
  live := fun _ _ st => let ⟨o, ho, _⟩ := st.1; ⟨o, ho⟩
  frame := fun _ _ _ st hk => ⟨st.1.at fun o e => hk it (by simp) o e, st.2.at fun o e => hk l (by simp) o e⟩
  item := fun i s Q E hi st hQ => by
    unfold Builtin.SmallTypes.nextOf
    refine wpAny_bind (L2.special_tup_item st.1 st.2 (x := items[i]) (by simp [hi]) fun h' hit' hs' => ?_)
    exact wpAny_pure (hQ _ h' s.toks (by simp [hi]) ⟨hit', st.2.extBut hs'.extBut hne⟩ hs')
  done := fun s Q E st hE => by
    unfold Builtin.SmallTypes.nextOf
    refine wpAny_bind (L2.special_tup_end hh st.1 st.2 (by simp) fun e h' hx hk => ?_)
    obtain ⟨a, o, vs, rfl, ho, hc, _⟩ := hx
    exact hE h' a hk ⟨o, ho, hc⟩
theorem enum_endT {prog : Program} {w : World} {A : Around} {E : Value → Shared → Prop} {s : Shared} {e it l : Addr} {i : Nat} {items : Array Value} {old : Value} {Q : Option Value → Shared → Prop} (hh : A.handled = none)
    (he : IsEnum s.heap e it i old) (hit : s.heap.IsTupleIter it l i) (hl : s.heap.IsTuple l items) (hx : items[i]? = none)
    (hQ : ∀ h', Heap.ExtBut it s.heap h' → Q none { s with heap := h' }) : wpAny (model prog w) A (pyNext (.ref e)) Q E s := by
  have hT : s.TypeIs (.ref e) "enumerate" := ⟨_, he, rfl⟩
  unfold pyNext
  refine wpAny_bind (wpAny_attempt (wpAny_callSpecial?_slot (name := Str.ofString "__next__") hT F.slot_enumerate_next
    (wpAny_call_entry F.slot_enumerate_next hT F.entry_enumerate_next ?_ (F.args_enumerate_next_1 _))))
  show wpAny _ _ (field (.ref e) 2 >>= _) _ _ _
  refine wpAny_bind (wpAny_field he rfl (x := .ref it) rfl ?_)
  refine wpAny_bind ?_
  unfold Builtin.SmallTypes.nextOf
  refine wpAny_bind (L2.special_tup_end (A := A.in1) hh hit hl hx fun x h' hx' hk => ?_)
  obtain ⟨a, o, vs, rfl, ho, hc, _⟩ := hx'
  refine wpAny_bind (wpAny_isInstance (T := "StopIteration") (b := true) ⟨o, ho, hc⟩ isSubtype_stop ?_)
  exact wpAny_pure (hQ _ hk)
end PySem

set_option Elab.async false
set_option linter.all false
set_option maxRecDepth 100000
set_option maxHeartbeats 4000000
namespace L2
open PySem PySem.Spec PyProof.Rows
/-- the tuple at a, each item in a new pair -/
def IteT (K : PySem.W.Frag) (a : Addr) : It :=
  ⟨fun i H => ∃ (xs : List V) (x : V), SqT K H a xs ∧ xs[i]? = some x, fun i H v H' => ∃ T x, v = .ref T ∧ H T = none ∧ H' = upd H T (.tup [.int (i : Nat), x]) ∧ ∀ xs, SqT K H a xs → xs[i]? = some x, fun i H => ∃ xs : List V, SqT K H a xs ∧ xs.length ≤ i⟩
theorem turn_enumT {P : Program} {w : World} {K : PySem.W.Frag} {elts : List Expr} {kk : Nat} {tpos : Pos} (a e it : Addr) :
    Turn P w K (.Tuple elts kk tpos) (IteT K a) [e, it] e (fun i h => (∃ old, IsEnum h e it ((i : Nat) : Int) old) ∧ h.IsTupleIter it a i ∧ e ≠ it) where
  mem := by simp
  obj := fun i h st b hb => by
    obtain ⟨⟨old, he⟩, ⟨o, ho, hc, hd⟩, _⟩ := st
    have e' : b = e ∨ b = it := by simpa using hb
    rcases e' with z | z
    · rw [z]; exact ⟨_, he, fun v q => nomatch q⟩
    · rw [z]; exact ⟨o, ho, fun v q => by rw [hd] at q; cases q⟩
  keep := fun i h h' st k => let ⟨⟨old, he⟩, hi, hne⟩ := st; ⟨⟨old, k e (by simp) _ he⟩, hi.at fun o q => k it (by simp) o q, hne⟩
  item := by
    intro X hP hw hK hc i pins s σ H E I hf st hg
    subst hP hw hK
    obtain ⟨⟨old, he⟩, hit, hne⟩ := st
    obtain ⟨xs, x, hq, hx⟩ := hg
    obtain ⟨its, rv, p, hz⟩ := I.tuple hq
    obtain ⟨u, hu, ru⟩ := rv.get hx
    have hel : e < s.heap.objs.size := Heap.lt_size he
    have hil : it < s.heap.objs.size := by obtain ⟨_, q, _⟩ := hit; exact Heap.lt_size q
    have hT' : s.heap.IsTuple a its.toArray := p
    have nae : e ≠ a := fun z => by
      obtain ⟨o, ho, hc', _⟩ := hT'
      rw [← z] at ho
      have := Option.some.inj (he.symm.trans ho)
      rw [← this] at hc'
      exact absurd (Value.type.inj hc') (by decide)
    have nai : a ≠ it := fun z => by
      obtain ⟨o, ho, hc', _⟩ := hT'
      obtain ⟨o2, ho2, hc2, _⟩ := hit
      rw [z] at ho
      have := Option.some.inj (ho.symm.trans ho2)
      rw [this, hc2] at hc'
      exact absurd (Value.type.inj hc') (by decide)
    have D := Draws.tuple (prog := X.prog) (w := X.w) (A := X.A.in1) (I.ok.hd hc) it a nai its.toArray
    have hul : its.toArray[i]? = some u := by simpa using hu
    have hlt : i < its.toArray.size := (Array.getElem?_eq_some_iff.mp hul).1
    refine wpAny_pyNext_enum_itemD D he ⟨hit, hT'⟩ hlt hne (by simp [hne, nae]) fun y h' tk hy ho hst hT hsz hk => ?_
    have ey : y = u := Option.some.inj (hy.symm.trans hul)
    subst ey
    refine ⟨_, rfl, wpAny_letOwnedTupleGo_enum (s := { s with heap := h', toks := tk + 1 }) ho fun h'' he' sb => ?_⟩
    have hT2 : h''.get? s.heap.objs.size = some { cls := .type "tuple", data := .seq #[.int i tk, y] } := (sb.2 _ (Nat.ne_of_gt hel)).trans hT
    have new : ObjOk X.prog X.w (upd H s.heap.objs.size (.tup [.int (i : Nat), x])) h'' s.heap.objs.size (.tup [.int (i : Nat), x]) :=
      ⟨by show 2 ≤ sizeLine; decide, [.int i tk, y], .cons ⟨_, rfl⟩ (.cons ru .nil), ⟨_, hT2, rfl, _, rfl⟩⟩
    have I1 : Inv X pins σ (upd H s.heap.objs.size (.tup [.int (i : Nat), x])) { s with heap := h'', toks := tk + 1 } :=
      I.turnedNew (ch := [e, it]) (fun b ob hb q => (sb.2 b (fun z => hb (by simp [z]))).trans (hk b ob (fun z => hb (by simp [z])) (fun z => hb (by simp [z])) q)) hf (Nat.le_refl _) new
    refine ⟨.ref s.heap.objs.size, _, I1, rfl, ⟨_, x, rfl, I.hok.fresh (Nat.le_refl _), rfl, fun ys hy => by rw [I.tuple_inj hy hq]; exact hx⟩, ⟨⟨y, ?_⟩, hst.1.at fun o q => (sb.2 it (Ne.symm hne)).trans q, hne⟩, fun b hb => ?_⟩
    · have e1 : ((i + 1 : Nat) : Int) = (i : Int) + 1 := by omega
      rw [e1]; exact he'
    · have hb' : b < s.heap.objs.size := by
        have e' : b = e ∨ b = it := by simpa using hb
        rcases e' with z | z
        · rw [z]; exact hel
        · rw [z]; exact hil
      rw [upd_ne (Nat.ne_of_lt hb')]
      exact (hf b hb).1
  done := by
    intro X hP hw hK hc i pins s σ H E I hf st hg
    subst hP hw hK
    obtain ⟨⟨old, he⟩, hit, hne⟩ := st
    obtain ⟨xs, hq, hx⟩ := hg
    obtain ⟨its, rv, p, hz⟩ := I.tuple hq
    obtain ⟨f0, f1, f2, f3, f4, f5⟩ := hf it (by simp)
    have hl := rv.length
    have hT' : s.heap.IsTuple a its.toArray := p
    have nai : a ≠ it := fun z => by
      obtain ⟨o, ho, hc', _⟩ := hT'
      obtain ⟨o2, ho2, hc2, _⟩ := hit
      rw [z] at ho
      have := Option.some.inj (ho.symm.trans ho2)
      rw [this, hc2] at hc'
      exact absurd (Value.type.inj hc') (by decide)
    have hTn : its.toArray[i]? = none := by simp; omega
    exact enum_endT (I.ok.hd hc) he hit hT' hTn fun h' eb => ⟨rfl, I.turned (t' := s.toks) (fun b o hb q => eb b o hb q) f0 f1 f3 f4 f5⟩
  self := fun A i s Q E st h => let ⟨⟨_, he⟩, _⟩ := st; wpAny_pyIter_enum he h
def iEnumT (K : PySem.W.Frag) (ta : TA) : TI := fun σ H R => ta σ H fun vs H1 => ∃ a xs, vs = [.ref a] ∧ SqT K H1 a xs ∧ R (IteT K a) H1
theorem pi_enumT {X : Cx} {e : Expr} {ta : TA} {p pos tpos : Pos} {elts : List Expr} {kk : Nat} (hg : Gl X "enumerate") (hm : X.mg "enumerate" = none) (ha : PA X [e] ta) (hs : starEach [e] X.env = [(false, eval e X.env)] := by rfl) :
    PI X (.Tuple elts kk tpos) (.Call (.Name "enumerate" p) [e] [] pos) (iEnumT X.K ta) := by
  refine ⟨fun pins s σ H R I h => ?_⟩
  refine Call_ (ld_blt I hg hm boot_enumerate (PyProof.Rows.callWith_type1 (thn (ha.run pos pins s σ H _ I h) fun us s1 ⟨vs, H1, I1, r1, q1⟩ => ?_) hs rfl))
  obtain ⟨a, xs, ex, hq, q⟩ := q1
  subst ex
  cases r1 with
  | cons r rr =>
    cases rr
    cases r
    obtain ⟨its, rv, p', hz⟩ := I1.tuple hq
    refine call_enumerate_tuple (show s1.heap.IsTuple a its.toArray from p') fun h' he hit hsz hk => wpAny_pyIter_enum he ?_
    have I2 : Inv X pins σ H1 { s1 with heap := h' } := I1.kept (t' := s1.toks) hk
    refine ⟨s1.heap.objs.size + 1, [s1.heap.objs.size + 1, s1.heap.objs.size], _, _, H1, rfl, I2, turn_enumT a (s1.heap.objs.size + 1) s1.heap.objs.size, ⟨⟨.none, he⟩, hit, Nat.succ_ne_self _⟩, fun b hb => ?_, q⟩
    have e' : b = s1.heap.objs.size + 1 ∨ b = s1.heap.objs.size := by simpa using hb
    have hle : s1.heap.objs.size ≤ b := by
      rcases e' with z | z
      · rw [z]; exact Nat.le_add_right _ _
      · rw [z]; exact Nat.le_refl _
    exact I1.fpOk hle (I1.hok.fresh hle)
theorem walk_enumT {K : PySem.W.Frag} {a : Addr} {xs : List V} : Walk (IteT K a) xs.length (fun H => SqT K H a xs) (YPair (fun i => some (.int (i : Nat))) (fun i => xs[i]?)) := by
  refine ⟨fun i _ hi q => ⟨xs, xs[i], q, by simp [hi]⟩, fun _ q => ⟨xs, q, Nat.le_refl _⟩, fun i H v H' _ q y => ?_⟩
  obtain ⟨T, x, h1, h2, h3, h4⟩ := y
  exact ⟨T, .int (i : Nat), x, h1, h2, h3, rfl, h4 xs q⟩
/-- the one way or the other -/
def iOr (t1 t2 : TI) : TI := fun σ H R => t1 σ H R ∨ t2 σ H R
theorem pi_or {X : Cx} {tg e : Expr} {t1 t2 : TI} (h1 : PI X tg e t1) (h2 : PI X tg e t2) : PI X tg e (iOr t1 t2) := ⟨fun pins s σ H R I h => h.elim (h1.run pins s σ H R I) (h2.run pins s σ H R I)⟩
end L2

set_option Elab.async false
set_option linter.all false
set_option maxRecDepth 100000
set_option maxHeartbeats 4000000
namespace K83
open PySem PySem.Spec PyProof.Rows L2 Gu Ex
def top (i : Nat) : Stmt := PySem.Challenge.pw_exactroom_k83_expressions.main.body.getD i (.Pass ⟨0, 0, 0, 0⟩)
abbrev FnP (K : PySem.W.Frag) (x qual : Str) (st : Stmt) (f : Addr) (fd : FuncData) : Prop := FunD K x qual (defArgs st) (defBody st) (defScope st) [] [] f fd
def letters : Str := "abcdefghijklmnopqrstuvwxyz"
abbrev cV (K : PySem.W.Frag) : Addr := He.ga K "InvalidValue"
/-- what the top has left -/
structure Tx (w : World) (K : PySem.W.Frag) (mg : Str → Option Value) : Prop where
  n_len : mg "len" = none
  n_isinstance : mg "isinstance" = none
  n_int : mg "int" = none
  n_bool : mg "bool" = none
  n_str : mg "str" = none
  n_tuple : mg "tuple" = none
  n_list : mg "list" = none
  n_range : mg "range" = none
  n_divmod : mg "divmod" = none
  n_abs : mg "abs" = none
  n_max : mg "max" = none
  n_min : mg "min" = none
  n_all : mg "all" = none
  n_repr : mg "repr" = none
  n_enumerate : mg "enumerate" = none
  n_zip : mg "zip" = none
  n_dict : mg "dict" = none
  gL : ∃ t, mg "LETTERS" = some (.str letters t)
  gN : ∃ t, mg "MAX_NAME" = some (.int 8 t)
  gD : ∃ t, mg "MAX_DEPTH" = some (.int 6 t)
  gI : ∃ t, mg "MAX_INSTRUCTIONS" = some (.int 200 t)
  gM : ∃ t, mg "MAX_NUMBER" = some (.int 1000000000000 t)
  g_OPERATORS : mg "OPERATORS" = some (.ref (He.ga K "OPERATORS"))
  kO : ∀ H : Hp, SqT K H (He.ga K "OPERATORS") [.str "add", .str "sub", .str "less", .str "equal"]
  g_FORMS : mg "FORMS" = some (.ref (He.ga K "FORMS"))
  kF : ∃ es n, KDict K w (He.ga K "FORMS") es n
  kG : ∃ fo : Addr, PySem.W.nsIn K (He.ga K "FORMS") "out" = some (some (.ref fo)) ∧ ∀ H : Hp, SqT K H fo [.str "expression"]
  sys : SysOk K
  g_InvalidValue : mg "InvalidValue" = some (.ref (cV K))
  g_InvalidName : mg "InvalidName" = some (.ref (He.ga K "InvalidName"))
  g_InvalidNumber : mg "InvalidNumber" = some (.ref (He.ga K "InvalidNumber"))
  g_RoomError : mg "RoomError" = some (.ref (He.ga K "RoomError"))
  eV : ErrG "ValueError" K (cV K) "value"
  kR : PySem.W.kitOne K (.ref (cV K)) (.ref (He.ga K "RoomError")) = some true
  kX : PySem.W.kitAny K (.ref (cV K)) [.ref (He.ga K "InvalidName"), .ref (He.ga K "InvalidNumber")] = some false
theorem bT {c : Prop} [Decidable c] (h : c) : V.bl (decide c) = V.bl true := congrArg V.bl (decide_eq_true h)
theorem bF {c : Prop} [Decidable c] (h : ¬ c) : V.bl (decide c) = V.bl false := congrArg V.bl (decide_eq_false h)
theorem ifT {c : Bool} {A B : Prop} (h : c = true) (x : A) : if c = true then A else B := by rw [h]; exact iteT x
theorem ifF {c : Bool} {A B : Prop} (h : c = false) (x : B) : if c = true then A else B := by rw [h]; exact iteF x
theorem vT {a b : Int} (h : a = b) : decide (V.int a = V.int b) = true := decide_eq_true (by rw [h])
theorem vF {a b : Int} (h : a ≠ b) : decide (V.int a = V.int b) = false := decide_eq_false fun z => h (V.int.inj z)
theorem same_upd {H : Hp} {p : Addr} {o : HO} (h : H p = none) : Same H (upd H p o) := fun b x e => by
  rw [upd_ne (ne_of_none e h)]
  exact e
/-! ### values: what the law draws -/
mutual
inductive Tr (H : Hp) : V → PyData → Prop
  | non : Tr H .non .none
  | bl (b : Bool) : Tr H (.bl b) (.bool b)
  | int (i : Int) : Tr H (.int i) (.int i)
  | str (x : Str) : (x.length ≤ 60 ∧ ∀ c ∈ x.cps.toList, c < 1114112) → Tr H (.str x) (.str x)
  | lst {a : Addr} {xs : List V} {ds : List PyData} : H a = some (.lst xs) → TrAll H xs ds → Tr H (.ref a) (.list ds)
  | tup {a : Addr} {xs : List V} {ds : List PyData} : H a = some (.tup xs) → TrAll H xs ds → Tr H (.ref a) (.tuple ds)
  | dct {a : Addr} : H a = some (.dK []) → Tr H (.ref a) (.dict [])
inductive TrAll (H : Hp) : List V → List PyData → Prop
  | nil : TrAll H [] []
  | cons {v : V} {vs : List V} {d : PyData} {ds : List PyData} : Tr H v d → TrAll H vs ds → TrAll H (v :: vs) (d :: ds)
end
mutual
theorem Tr.same {H H' : Hp} (s : Same H H') : ∀ {v : V} {d : PyData}, Tr H v d → Tr H' v d
  | _, _, .non => .non
  | _, _, .bl b => .bl b
  | _, _, .int i => .int i
  | _, _, .str x h => .str x h
  | _, _, .lst e h => .lst (s _ _ e) (TrAll.same s h)
  | _, _, .tup e h => .tup (s _ _ e) (TrAll.same s h)
  | _, _, .dct e => .dct (s _ _ e)
theorem TrAll.same {H H' : Hp} (s : Same H H') : ∀ {vs : List V} {ds : List PyData}, TrAll H vs ds → TrAll H' vs ds
  | _, _, .nil => .nil
  | _, _, .cons h1 h2 => .cons (Tr.same s h1) (TrAll.same s h2)
end
mutual
theorem Tr.dq {K : PySem.W.Frag} {H : Hp} : ∀ {v : V} {d : PyData}, Tr H v d → Dq K H v d
  | _, _, .non => .non
  | _, _, .bl b => .bl b
  | _, _, .int i => .int i
  | _, _, .str x _ => .str x
  | _, _, .lst e h => .lst (SqL.of e) (TrAll.dq h)
  | _, _, .tup e h => .tup (SqT.of e) (TrAll.dq h)
  | _, _, .dct e => .dct e .nil .nil
theorem TrAll.dq {K : PySem.W.Frag} {H : Hp} : ∀ {vs : List V} {ds : List PyData}, TrAll H vs ds → DqAll K H vs ds
  | _, _, .nil => .nil
  | _, _, .cons h1 h2 => .cons (Tr.dq h1) (TrAll.dq h2)
end
theorem TrAll.len {H : Hp} : ∀ {vs : List V} {ds : List PyData}, TrAll H vs ds → vs.length = ds.length
  | _, _, .nil => rfl
  | _, _, .cons _ h => by rw [List.length_cons, List.length_cons, TrAll.len h]
theorem TrAll.get {H : Hp} : ∀ {vs : List V} {ds : List PyData}, TrAll H vs ds → ∀ {i : Nat} {d : PyData}, ds[i]? = some d → ∃ v, vs[i]? = some v ∧ Tr H v d
  | _, _, .nil, i, d, e => by cases e
  | _, _, .cons h1 h2, i, d, e => by
    cases i with
    | zero =>
      cases e
      exact ⟨_, rfl, h1⟩
    | succ i => exact TrAll.get h2 e
def dI : PyData → Bool
  | .int _ => true
  | _ => false
def dB : PyData → Bool
  | .bool _ => true
  | _ => false
def dS : PyData → Bool
  | .str _ => true
  | _ => false
def dT : PyData → Bool
  | .tuple _ => true
  | _ => false
def dL : PyData → Bool
  | .list _ => true
  | _ => false
theorem Tr.ty {K : PySem.W.Frag} {H : Hp} {v : V} {d : PyData} (h : Tr H v d) : ∃ T, TyX K H v (.type T) ∧ kitB T "int" = some (dI d || dB d) ∧ kitB T "bool" = some (dB d) ∧ kitB T "str" = some (dS d) ∧ kitB T "tuple" = some (dT d) ∧ kitB T "list" = some (dL d) := by
  cases h with
  | non => exact ⟨"NoneType", .base .non, (show kitB "NoneType" "int" = some false by decide +kernel), (show kitB "NoneType" "bool" = some false by decide +kernel), (show kitB "NoneType" "str" = some false by decide +kernel), (show kitB "NoneType" "tuple" = some false by decide +kernel), (show kitB "NoneType" "list" = some false by decide +kernel)⟩
  | bl b => exact ⟨"bool", .base (.bl b), (show kitB "bool" "int" = some true by decide +kernel), (show kitB "bool" "bool" = some true by decide +kernel), (show kitB "bool" "str" = some false by decide +kernel), (show kitB "bool" "tuple" = some false by decide +kernel), (show kitB "bool" "list" = some false by decide +kernel)⟩
  | int i => exact ⟨"int", .base (.int i), (show kitB "int" "int" = some true by decide +kernel), (show kitB "int" "bool" = some false by decide +kernel), (show kitB "int" "str" = some false by decide +kernel), (show kitB "int" "tuple" = some false by decide +kernel), (show kitB "int" "list" = some false by decide +kernel)⟩
  | str x _ => exact ⟨"str", .base (.str x), (show kitB "str" "int" = some false by decide +kernel), (show kitB "str" "bool" = some false by decide +kernel), (show kitB "str" "str" = some true by decide +kernel), (show kitB "str" "tuple" = some false by decide +kernel), (show kitB "str" "list" = some false by decide +kernel)⟩
  | lst e _ => exact ⟨"list", .base (.lst e), (show kitB "list" "int" = some false by decide +kernel), (show kitB "list" "bool" = some false by decide +kernel), (show kitB "list" "str" = some false by decide +kernel), (show kitB "list" "tuple" = some false by decide +kernel), (show kitB "list" "list" = some true by decide +kernel)⟩
  | tup e _ => exact ⟨"tuple", .base (.tup e), (show kitB "tuple" "int" = some false by decide +kernel), (show kitB "tuple" "bool" = some false by decide +kernel), (show kitB "tuple" "str" = some false by decide +kernel), (show kitB "tuple" "tuple" = some true by decide +kernel), (show kitB "tuple" "list" = some false by decide +kernel)⟩
  | dct e => exact ⟨"dict", .base (.dK e), (show kitB "dict" "int" = some false by decide +kernel), (show kitB "dict" "bool" = some false by decide +kernel), (show kitB "dict" "str" = some false by decide +kernel), (show kitB "dict" "tuple" = some false by decide +kernel), (show kitB "dict" "list" = some false by decide +kernel)⟩
def nameD : PyData → Bool
  | .str x => decide (1 ≤ x.length ∧ x.length ≤ 8) && x.cps.toList.all fun c => decide (c ∈ letters.cps.toList)
  | _ => false
/-- a comprehension over a text's signs -/
theorem lc_text {x : Str} {g : TG} {tt : TT} {te : TE} {vs : List Nat} {σ : L2.St} {H1 : Hp} {D : Addr} {Qd : Hp → Prop} (Pv : Nat → Hp → Prop) (h0 : Pv 0 (upd H1 D (.lst [])))
    (hs : ∀ i c H, x.cps.toList[i]? = some c → Pv i H → g (.str ⟨#[c]⟩) (wipe σ vs) H fun σ2 H2 => wipe σ2 vs = wipe σ vs ∧ tt σ2 H2 fun b H3 =>
      if b = true then te σ2 H3 fun y H4 => ∃ acc, H4 D = some (.lst acc) ∧ acc.length < sizeLine ∧ Pv (i + 1) (upd H4 D (.lst (acc ++ [y]))) else Pv (i + 1) H3) (hd : ∀ H, Pv x.cps.toList.length H → Qd H) :
    ∃ W : Nat → Nat → Hp → Prop, (∃ m, W 0 m (upd H1 D (.lst []))) ∧ ∀ i m H, W i m H →
      ((Its x).stop i H ∧ Qd H) ∨ ((Its x).go i H ∧ ∃ Nx : Hp → Prop, (∀ H', Nx H' → ∃ m', m' < m ∧ W (i + 1) m' H') ∧ ∀ v H', (Its x).yld i H v H' → g v (wipe σ vs) H' fun σ2 H2 => wipe σ2 vs = wipe σ vs ∧ tt σ2 H2 fun b H3 =>
        if b = true then te σ2 H3 fun y H4 => ∃ acc, H4 D = some (.lst acc) ∧ acc.length < sizeLine ∧ Nx (upd H4 D (.lst (acc ++ [y]))) else Nx H3) := by
  have hsz : x.cps.size = x.cps.toList.length := (Array.length_toList ..).symm
  refine ⟨fun i m H => m = x.cps.size - i ∧ i ≤ x.cps.size ∧ Pv i H, ⟨x.cps.size, by simp, Nat.zero_le _, h0⟩, ?_⟩
  rintro i m H ⟨rfl, hi, p⟩
  by_cases hlt : i < x.cps.size
  · refine .inr ⟨hlt, Pv (i + 1), fun H' p' => ⟨x.cps.size - (i + 1), by omega, rfl, hlt, p'⟩, fun v H' y => ?_⟩
    obtain ⟨rfl, c, hc, rfl⟩ := y
    exact hs i c _ (by rw [Array.getElem?_toList]; exact hc) p
  · have e : i = x.cps.size := by omega
    subst e
    refine .inl ⟨Nat.le_refl _, hd H (by rw [← hsz]; exact p)⟩
section
variable {P : Program} {w : World} {K : PySem.W.Frag} {mg : Str → Option Value} {base : Heap} {f : Addr} {fd : FuncData}
def spInt : Sp := fun vs H Q _ => ∃ (v : V) (d : PyData), vs = [v] ∧ Tr H v d ∧ Q (.bl (dI d)) H
theorem sc_is_integer : FnScope ["value"] ["value"] (defScope (top 8)) := ⟨rfl, rfl, rfl, by decide +kernel, rfl, by decide +kernel, by decide +kernel⟩
theorem ok_is_integer (T : Tx w K mg) (F : FnP K "is_integer" "is_integer" (top 8) f fd) : FnOk P w K mg base CX0 1 f fd ["value"] spInt := by
  refine F.ok sc_is_integer (fun vs H Q E h => ?_) (fun cdv A outer s H vs Q E hr h => ⟨_, PSs.nox (pss_one (ps_ret (pe_and (pe_callB call_isi (by rfl) T.n_isinstance (by decide +kernel) (pa_cons (pv 0) (pa_cons (pe_bltn (v := .ty "int") (by rfl) T.n_int (by decide +kernel) rfl) pa_nil))) (pe_one (pe_not (pe_callB call_isi (by rfl) T.n_isinstance (by decide +kernel) (pa_cons (pv 0) (pa_cons (pe_bltn (v := .ty "bool") (by rfl) T.n_bool (by decide +kernel) rfl) pa_nil)))))))), ?_⟩)
  · obtain ⟨v, d, rfl, _⟩ := h
    rfl
  · obtain ⟨v, d, rfl, hv, q⟩ := h
    obtain ⟨Ty, ty, k1, k2, _⟩ := hv.ty (K := K)
    refine ⟨_, rfl, _, _, _, _, _, rfl, .ty "int", ty, kit_ty k1, _, rfl, ?_⟩
    cases e : (dI d || dB d) with
    | true =>
      refine iteT ⟨_, rfl, _, _, _, _, _, rfl, .ty "bool", ty, kit_ty k2, _, rfl, ?_⟩
      have e2 : (!dB d) = dI d := by cases d <;> first | rfl | cases e
      rw [e2]
      exact q
    | false =>
      have e2 : dI d = false := by cases d <;> first | rfl | cases e
      rw [e2] at q
      exact iteF q
def spName : Sp := fun vs H Q _ => ∃ (v : V) (d : PyData), vs = [v] ∧ Tr H v d ∧ ∀ H', Same H H' → Q (.bl (nameD d)) H'
theorem sc_is_name : FnScope ["value", "letter"] ["value"] (defScope (top 9)) := ⟨rfl, rfl, rfl, by decide +kernel, rfl, by decide +kernel, by decide +kernel⟩
theorem ok_is_name (T : Tx w K mg) (F : FnP K "is_name" "is_name" (top 9) f fd) : FnOk P w K mg base CX0 1 f fd ["value"] spName := by
  obtain ⟨tl, hLT⟩ := T.gL
  obtain ⟨tn, hMN⟩ := T.gN
  refine F.ok sc_is_name (fun vs H Q E h => ?_) (fun cdv A outer s H vs Q E hr h => ⟨_, PSs.nox (pss_cons (ps_if (PW.pt (pw_or (pt_not (pt_val (pe_callB call_isi (by rfl) T.n_isinstance (by decide +kernel) (pa_cons (pv 0) (pa_cons (pe_bltn (v := .ty "str") (by rfl) T.n_str (by decide +kernel) rfl) pa_nil))))) (pw_or1 (pt_not (pt_chain op_le op_le pe_int (pe_callB call_len_str (by rfl) T.n_len (by decide +kernel) (pa_cons (pv 0) pa_nil)) (pe_glob (v := .int 8) rfl hMN ⟨_, rfl⟩)))))) (pss_one (ps_ret pe_bl)) pss_nil) (pss_one (ps_ret (pe_callB (cr_all rfl) (by rfl) T.n_all (by decide +kernel) (pa_cons (pe_lc (own := [("letter", 1)]) (g := gName 1) rfl sc_is_name.nd (pi_str (pv 0)) (blkOk_by (own := [("letter", 1)]) (N := ["value", "letter"]) (sc := defScope (top 9)) (by decide +kernel)) (fun _ _ _ _ _ => pg_name (i := 1) sc_is_name.nd rfl (Or.inl rfl)) (fun _ _ _ _ _ => pts_nil) (fun _ _ _ _ _ => (pe_cmpR op_in_sign (pv 1) (pe_glob (v := .str letters) rfl hLT ⟨_, rfl⟩) (by rfl)))) pa_nil))))), ?_⟩)
  · obtain ⟨v, d, rfl, _⟩ := h
    rfl
  · obtain ⟨v, d, rfl, hv, q⟩ := h
    obtain ⟨Ty, ty, _, _, k3, _⟩ := hv.ty (K := K)
    have sr : Same H H := fun _ _ e => e
    refine ⟨_, rfl, _, _, _, _, _, rfl, .ty "str", ty, kit_ty k3, _, rfl, ?_⟩
    cases hv with
    | str x hl =>
      have hz : x.length ≤ sizeLine := Nat.le_trans hl.1 (by decide)
      have hl1 := hl.1
      refine iteF ⟨_, rfl, x, rfl, hz, _, _, rfl, rfl, _, rfl, ?_⟩
      by_cases h1 : (1 : Int) ≤ (x.length : Int)
      · refine ifT (decide_eq_true h1) ⟨_, _, rfl, rfl, _, rfl, ?_⟩
        by_cases h2 : (x.length : Int) ≤ 8
        · refine ifF (by rw [decide_eq_true h2]; rfl) ?_
          refine ⟨_, rfl, x, rfl, fun D hD => ?_⟩
          refine lc_text (fun i H' => H' D = some (.lst (((x.cps.toList.take i).map fun c => decide (c ∈ letters.cps.toList)).map V.bl)) ∧ Same H H') ⟨upd_same, same_upd hD⟩ ?_ ?_
          · rintro i c H' hc ⟨hD', sm⟩
            have hi : i < x.cps.toList.length := (List.getElem?_eq_some_iff.mp hc).1
            refine ⟨rfl, _, rfl, c, letters, rfl, rfl, _, hD', small1000 ?_, ?_, fun b o e => ?_⟩
            · rw [List.length_map, List.length_map, List.length_take]
              have : x.cps.toList.length = x.length := Array.length_toList ..
              omega
            · rw [upd_same, List.take_add_one, hc, List.map_append, List.map_append]
              rfl
            · rw [upd_ne (ne_of_none e hD)]
              exact sm b o e
          · rintro H' ⟨hD', sm⟩
            rw [List.take_length] at hD'
            refine ⟨D, _, rfl, SqL.of hD', ?_⟩
            have e : (List.map (fun c => decide (c ∈ letters.cps.toList)) x.cps.toList).all id = nameD (.str x) := by
              show _ = (decide (1 ≤ x.length ∧ x.length ≤ 8) && x.cps.toList.all fun c => decide (c ∈ letters.cps.toList))
              rw [decide_eq_true ⟨by omega, by omega⟩, Bool.true_and, List.all_map]
              rfl
            rw [e]
            exact q H' sm
        · have e : nameD (.str x) = false := by
            show (decide (1 ≤ x.length ∧ x.length ≤ 8) && _) = false
            rw [decide_eq_false fun z => h2 (by omega), Bool.false_and]
          rw [e] at q
          exact ifT (by rw [decide_eq_false h2]; rfl) (q H sr)
      · have e : nameD (.str x) = false := by
          show (decide (1 ≤ x.length ∧ x.length ≤ 8) && _) = false
          rw [decide_eq_false fun z => h1 (by omega), Bool.false_and]
        rw [e] at q
        exact ifF (decide_eq_false h1) ⟨_, rfl, iteT (q H sr)⟩
    | _ => exact iteT (iteT (q H sr))
end
end K83

set_option Elab.async false
set_option linter.all false
set_option maxRecDepth 100000
set_option maxHeartbeats 4000000
namespace K83
open PySem PySem.Spec PyProof.Rows L2 Gu Ex
/-- the drawing list at r -/
def Rng (H : Hp) (r : Addr) : Prop := ∃ a b : Int, H r = some (.lst [.int a, .int b]) ∧ 0 ≤ a ∧ 0 ≤ b ∧ b < 2147483587
/-- only the drawing list at r may have changed -/
def Stp (r : Addr) (H H' : Hp) : Prop := Rng H' r ∧ ∀ b o, b ≠ r → H b = some o → H' b = some o
theorem Stp.trans {r : Addr} {H H1 H2 : Hp} (a : Stp r H H1) (b : Stp r H1 H2) : Stp r H H2 := ⟨b.1, fun c o n e => b.2 c o n (a.2 c o n e)⟩
theorem Stp.refl {r : Addr} {H : Hp} (h : Rng H r) : Stp r H H := ⟨h, fun _ _ _ e => e⟩
/-- the ways of a choice come together: what holds of every value -/
theorem join {α : Type} {G : Prop} (Pc : α → Prop) {R : α → Prop} (h1 : (∀ c, Pc c → R c) → G) (h2 : ∀ c, Pc c → R c) : G := h1 h2
theorem Rng.ne {H : Hp} {r p : Addr} (h : Rng H r) (hp : H p = none) : r ≠ p := fun z => by
  obtain ⟨_, _, e, _⟩ := h
  rw [z, hp] at e
  cases e
theorem Stp.new {r p : Addr} {H H1 : Hp} {o : HO} (a : Stp r H H1) (hp : H1 p = none) : Stp r H (upd H1 p o) := by
  obtain ⟨⟨x, y, e, z⟩, k⟩ := a
  refine ⟨⟨x, y, ?_, z⟩, fun b u n e2 => ?_⟩
  · rw [upd_ne (ne_of_none e hp)]
    exact e
  · rw [upd_ne (ne_of_none (k b u n e2) hp)]
    exact k b u n e2
theorem Stp.free {r p : Addr} {H H1 : Hp} (a : Stp r H H1) (h : H1 p = none) : H p = none := by
  cases e : H p with
  | none => rfl
  | some o =>
    have n : p ≠ r := fun z => (a.1.ne h) z.symm
    rw [a.2 p o n e] at h
    cases h
theorem at_map {ns : List Int} {p : Nat} {x : Int} (h : ns[p]? = some x) : atI (ns.map V.int) (p : Int) = some (.int x) := atI_nat (by rw [List.getElem?_map, h]; rfl)
section
variable {P : Program} {w : World} {K : PySem.W.Frag} {mg : Str → Option Value} {base : Heap} {f : Addr} {fd : FuncData}
def spRng (K : PySem.W.Frag) : Sp := fun vs H Q _ => ∃ (a : Addr) (ns : List Int) (k : Nat), vs = [.ref a, .int k] ∧ SqL K H a (ns.map V.int) ∧ k ≤ 63 ∧ ∀ p H', H p = none → Same H H' → Rng H' p → Q (.ref p) H'
theorem sc__law_rng : FnScope ["_law_script", "_law_k", "_law_cell"] ["_law_script", "_law_k"] (defScope (top 28)) := ⟨rfl, rfl, rfl, by decide +kernel, rfl, by decide +kernel, by decide +kernel⟩
theorem ok_rng (T : Tx w K mg) (F : FnP K "_law_rng" "_law_rng" (top 28) f fd) : FnOk P w K mg base CX0 1 f fd ["_law_script", "_law_k"] (spRng K) := by
  refine F.ok sc__law_rng (fun vs H Q E h => ?_) (fun cdv A outer s H vs Q E hr h => ⟨_, PSs.nox (pss_cons (ps_set (i := 2) sc__law_rng.nd rfl (by first | exact Or.inl rfl | exact Or.inr rfl) (pe_ifExp (pt_cmpR op_lt (pv 1) (pe_callB call_len_seq (by rfl) T.n_len (by decide +kernel) (pa_cons (pv 0) pa_nil)) (nomark _)) (pe_callB call_abs (by rfl) T.n_abs (by decide +kernel) (pa_cons (pe_ix ix_list (pv 0) (pv 1) (fun _ _ => rfl)) pa_nil)) pe_int)) (pss_one (ps_ret (pe_lst (pa_cons (pe_callB (call_max2 rfl) (by rfl) T.n_max (by decide +kernel) (pa_cons pe_int (pa_cons (pe_op op_sub (pv 2) (pe_op op_pow pe_int pe_int)) pa_nil))) (pa_cons (pe_op op_add (pe_op op_mod (pe_op op_pow (pe_op op_add (pe_op op_add (pe_op op_mod (pv 2) pe_int) (pe_op op_mul pe_int (pv 1))) pe_int) pe_int) pe_int) pe_int) pa_nil)))))), ?_⟩)
  · obtain ⟨a, ns, k, rfl, _⟩ := h
    rfl
  · obtain ⟨a, ns, k, rfl, hS, hk, q⟩ := h
    refine join (fun c : Int => 0 ≤ c) (R := ?R) (fun tail => ?main) ?tl
    case main =>
      refine ⟨_, rfl, _, rfl, a, _, rfl, .inl hS, _, _, rfl, rfl, _, rfl, ?_⟩
      by_cases hl : (k : Int) < (((ns.map V.int).length : Nat) : Int)
      · have hk2 : k < ns.length := by rw [List.length_map] at hl; omega
        refine ifT (decide_eq_true hl) ?_
        refine ⟨_, rfl, _, rfl, a, _, _, _, rfl, rfl, hS, at_map (List.getElem?_eq_getElem hk2), _, rfl, ?_⟩
        obtain ⟨c, hc, ec⟩ : ∃ c : Int, 0 ≤ c ∧ (if ns[k] < 0 then -ns[k] else ns[k]) = c := ⟨if ns[k] < 0 then -ns[k] else ns[k], by split <;> omega, rfl⟩
        rw [ec]
        exact tail c hc
      · refine ifF (decide_eq_false hl) ?_
        exact tail 0 (by decide)
    case tl =>
      intro c hc
      have c0 := Int.emod_nonneg c (show (2147483543 : Int) ≠ 0 by decide)
      have c1 := Int.emod_lt_of_pos c (show (0 : Int) < 2147483543 by decide)
      refine ⟨_, rfl, _, _, rfl, rfl, ⟨by decide, by decide, by decide⟩, _, _, rfl, rfl, _, _, rfl, ?_⟩
      refine ⟨_, rfl, _, _, rfl, rfl, (by show (0 : Int) < 2147483543; decide), _, rfl, _, _, rfl, rfl, .inl ⟨by decide, by decide⟩, _, _, rfl, rfl, _, _, rfl, rfl, _, _, rfl, rfl, ⟨by decide, by decide, by omega⟩, _, _, rfl, rfl, (by show (0 : Int) < 2147483497; decide), _, _, rfl, rfl, ?_⟩
      refine ⟨(by show 2 ≤ sizeLine; decide), fun p hp => q p _ hp (fun b o e => by rw [upd_ne (ne_of_none e hp)]; exact e) ⟨_, _, upd_same, ?_, ?_, ?_⟩⟩
      · split <;> omega
      · have := Int.emod_nonneg ((c % 2147483543 + 101 * (k : Int) + 7) ^ (2 : Int).toNat) (show (2147483497 : Int) ≠ 0 by decide)
        omega
      · have := Int.emod_lt_of_pos ((c % 2147483543 + 101 * (k : Int) + 7) ^ (2 : Int).toNat) (show (0 : Int) < 2147483497 by decide)
        omega
def spDraw : Sp := fun vs H Q _ => ∃ (r : Addr) (m : Int), vs = [.ref r, .int m] ∧ Rng H r ∧ 1 ≤ m ∧ m ≤ 10 ^ 40 ∧ ∀ d H', 0 ≤ d → d < m → Stp r H H' → Q (.int d) H'
theorem sc__law_draw : FnScope ["_law_rng_here", "_law_many", "_law_mixed", "_law_digit"] ["_law_rng_here", "_law_many"] (defScope (top 29)) := ⟨rfl, rfl, rfl, by decide +kernel, rfl, by decide +kernel, by decide +kernel⟩
theorem ok_draw (T : Tx w K mg) (F : FnP K "_law_draw" "_law_draw" (top 29) f fd) : FnOk P w K mg base CX0 1 f fd ["_law_rng_here", "_law_many"] spDraw := by
  refine F.ok sc__law_draw (fun vs H Q E h => ?_) (fun cdv A outer s H vs Q E hr h => ⟨_, PSs.nox (pss_cons (ps_if (pt_cmpR op_gt (pe_ix ix_list (pv 0) pe_int (fun _ _ => rfl)) pe_int (nomark _)) (pss_cons (ps_asg (pe_callB call_divmodW (by rfl) T.n_divmod (by decide +kernel) (pa_cons (pe_ix ix_list (pv 0) pe_int (fun _ _ => rfl)) (pa_cons (pv 1) pa_nil))) (pg_tup (by rfl) (pgs_cons (pg_sub (pv 0) pe_int set_list) (pgs_cons (pg_name (i := 3) sc__law_draw.nd rfl (by first | exact Or.inl rfl | exact Or.inr rfl)) pgs_nil)))) (pss_one (ps_ret (pv 3)))) pss_nil) (pss_cons (ps_asg (pe_op op_mod (pe_op op_add (pe_op op_mul (pe_ix ix_list (pv 0) pe_int (fun _ _ => rfl)) pe_int) pe_int) pe_int) (pg_sub (pv 0) pe_int set_list)) (pss_cons (ps_set (i := 2) sc__law_draw.nd rfl (by first | exact Or.inl rfl | exact Or.inr rfl) (pe_op op_fdivW (pe_op op_mod (pe_op op_mul (pe_ix ix_list (pv 0) pe_int (fun _ _ => rfl)) (pe_ix ix_list (pv 0) pe_int (fun _ _ => rfl))) pe_int) pe_int)) (pss_one (ps_ret (pe_ifExp (pt_cmpR op_lt (pv 1) (pe_op op_pow pe_int pe_int) (nomark _)) (pe_op op_mod (pv 2) (pv 1)) (pe_op op_mod (pe_op op_mul (pe_op op_add (pe_op op_mul (pv 2) pe_int) (pe_ix ix_list (pv 0) pe_int (fun _ _ => rfl))) pe_int) (pv 1)))))))), ?_⟩)
  · obtain ⟨r, m, rfl, _⟩ := h
    rfl
  · obtain ⟨r, m, rfl, ⟨a, b, hR, ha, hb, hb2⟩, m1, m2, q⟩ := h
    have mb : m.natAbs < 2 ^ 200 := by
      have : (10 : Int) ^ 40 < 2 ^ 200 := by decide
      have e : ((2 : Nat) ^ 200 : Nat) = ((2 : Int) ^ 200).natAbs := by decide
      omega
    refine ⟨_, rfl, r, _, _, _, rfl, rfl, SqL.of hR, rfl, _, _, rfl, rfl, _, rfl, ?_⟩
    by_cases h0 : 0 < a
    · refine ifT (decide_eq_true h0) ?_
      refine ⟨_, rfl, r, _, _, _, rfl, rfl, SqL.of hR, rfl, _, rfl, _, _, rfl, ⟨by omega, PyProof.noPylong_of_log2 (Nat.lt_of_lt_of_le (PySem.Flt.log2_lt_of (by decide) mb) (by decide))⟩, fun p hp => ?_⟩
      have nrp : r ≠ p := ne_of_none hR hp
      have hR2 : (upd H p (.tup [.int (a / m), .int (a % m)])) r = some (.lst [.int a, .int b]) := by rw [upd_ne nrp]; exact hR
      refine ⟨p, _, rfl, .inl (.inl upd_same), rfl, _, _, rfl, _, rfl, r, _, _, 0, rfl, rfl, hR2, rfl, _, _, rfl, rfl, ?_⟩
      refine ⟨_, rfl, q _ _ (Int.emod_nonneg _ (by omega)) (Int.emod_lt_of_pos _ (by omega)) ⟨⟨a / m, b, upd_same, Int.ediv_nonneg (by omega) (by omega), hb, hb2⟩, fun c o n e => ?_⟩⟩
      rw [upd_ne n, upd_ne (ne_of_none e hp)]
      exact e
    · refine ifF (decide_eq_false h0) ?_
      have b0 := Int.emod_nonneg (b * 48271 + 10007) (show (2147483587 : Int) ≠ 0 by decide)
      have b1 := Int.emod_lt_of_pos (b * 48271 + 10007) (show (0 : Int) < 2147483587 by decide)
      refine ⟨_, rfl, r, _, _, _, rfl, rfl, SqL.of hR, rfl, _, _, rfl, rfl, .inr ⟨by decide, by decide⟩, _, _, rfl, rfl, _, _, rfl, rfl, (by show (0 : Int) < 2147483587; decide), _, rfl, r, _, _, 1, rfl, rfl, hR, rfl, ?_⟩
      dsimp only
      generalize hB : (b * 48271 + 10007) % 2147483587 = B at *
      have hR2 : (upd H r (.lst [.int a, .int B])) r = some (.lst [.int a, .int B]) := upd_same
      have st : Stp r H (upd H r (.lst [.int a, .int B])) := ⟨⟨a, B, upd_same, ha, b0, b1⟩, fun c o n e => by rw [upd_ne n]; exact e⟩
      refine ⟨_, rfl, r, _, _, _, rfl, rfl, SqL.of hR2, rfl, _, rfl, r, _, _, _, rfl, rfl, SqL.of hR2, rfl, _, _, rfl, rfl, .inl ⟨by omega, by omega⟩, _, _, rfl, rfl, (by show (0 : Int) < 2147483549; decide), _, _, rfl, rfl, wide_div (b := 64) (by decide) (by decide) (by decide) (by decide), ?_⟩
      refine ⟨_, rfl, _, _, rfl, rfl, ⟨by decide, by decide, by decide⟩, _, _, rfl, rfl, _, rfl, ite2 (fun _ => ?_) (fun _ => ?_)⟩
      · exact ⟨_, rfl, _, rfl, _, _, rfl, rfl, (by show (0 : Int) < m; omega), q _ _ (Int.emod_nonneg _ (by omega)) (Int.emod_lt_of_pos _ (by omega)) st⟩
      · refine ⟨_, rfl, _, _, rfl, rfl, .inr ⟨by decide, by decide⟩, _, rfl, r, _, _, _, rfl, rfl, SqL.of hR2, rfl, _, _, rfl, rfl, _, _, rfl, rfl, .inr ⟨by decide, by decide⟩, _, rfl, _, _, rfl, rfl, (by show (0 : Int) < m; omega), ?_⟩
        exact q _ _ (Int.emod_nonneg _ (by omega)) (Int.emod_lt_of_pos _ (by omega)) st
theorem at_of {α : Type} {xs : List α} {d : Int} (h0 : 0 ≤ d) (h1 : d < xs.length) : ∃ v, atI xs d = some v ∧ v ∈ xs := by
  obtain ⟨n, rfl⟩ := Int.eq_ofNat_of_zero_le h0
  have hn : n < xs.length := by omega
  exact ⟨xs[n], atI_nat (List.getElem?_eq_getElem hn), List.getElem_mem hn⟩
def spChoice : Sp := fun vs H Q _ => ∃ (r o : Addr) (xs : List V), vs = [.ref r, .ref o] ∧ Rng H r ∧ H o = some (.lst xs) ∧ o ≠ r ∧ 1 ≤ xs.length ∧ xs.length ≤ 1000 ∧ ∀ v H', v ∈ xs → Stp r H H' → Q v H'
theorem sc__law_choice : FnScope ["_law_rng_here", "_law_options"] ["_law_rng_here", "_law_options"] (defScope (top 30)) := ⟨rfl, rfl, rfl, by decide +kernel, rfl, by decide +kernel, by decide +kernel⟩
theorem ok_choice (T : Tx w K mg) (D__law_draw : Df P w K mg base 1 "_law_draw" ["_law_rng_here", "_law_many"] spDraw) (F : FnP K "_law_choice" "_law_choice" (top 30) f fd) : FnOk P w K mg base CX0 2 f fd ["_law_rng_here", "_law_options"] spChoice := by
  refine F.ok sc__law_choice (fun vs H Q E h => ?_) (fun cdv A outer s H vs Q E hr h => ⟨_, PSs.nox (pss_one (ps_ret (pe_ix ix_list (pv 1) (pcall D__law_draw hr (pa_cons (pv 0) (pa_cons (pe_callB call_len_seq (by rfl) T.n_len (by decide +kernel) (pa_cons (pv 1) pa_nil)) pa_nil))) (fun _ _ => rfl)))), ?_⟩)
  · obtain ⟨r, o, xs, rfl, _⟩ := h
    rfl
  · obtain ⟨r, o, xs, rfl, hR, hO, ne, l1, l2, q⟩ := h
    refine ⟨_, rfl, _, rfl, _, rfl, o, _, rfl, .inl (SqL.of hO), r, _, rfl, hR, by omega, ?_, fun d H1 d0 d1 st => ?_⟩
    · have : (1000 : Int) ≤ 10 ^ 40 := by decide
      omega
    · obtain ⟨v, hv, hm⟩ := at_of d0 d1
      exact ⟨o, _, _, v, rfl, rfl, SqL.of (st.2 o _ ne hO), hv, q v H1 hm st⟩
theorem Stp.same {r : Addr} {H H' : Hp} (h : Rng H r) (s : Same H H') : Stp r H H' := by
  obtain ⟨a, b, e, z⟩ := h
  exact ⟨⟨a, b, s _ _ e, z⟩, fun c o _ e => s c o e⟩
theorem Stp.at {r D : Addr} {M H' : Hp} {o : HO} (s : Stp r M H') (hD : M D = none) (n : D ≠ r) : Stp r M (upd H' D o) := by
  obtain ⟨⟨a, b, e, z⟩, k⟩ := s
  refine ⟨⟨a, b, by rw [upd_ne n.symm]; exact e, z⟩, fun c u m h => ?_⟩
  rw [upd_ne (ne_of_none h hD)]
  exact k c u m h
def trues (i : Nat) : List V := (List.replicate i true).map V.bl
theorem trues_more (i : Nat) : trues i ++ [V.bl true] = trues (i + 1) := by
  unfold trues
  rw [List.replicate_succ', List.map_append]
  rfl
theorem trues_len (i : Nat) : (trues i).length = i := by
  unfold trues
  rw [List.length_map, List.length_replicate]
theorem all_trues (i : Nat) : (List.replicate i true).all id = true := by
  rw [List.all_replicate]
  split <;> rfl
end
end K83

set_option Elab.async false
set_option linter.all false
set_option maxRecDepth 100000
set_option maxHeartbeats 4000000
set_option pp.maxSteps 900
namespace K83
open PySem PySem.Spec PyProof.Rows L2 Gu Ex
def ops : List Str := ["add", "sub", "less", "equal"]
theorem inV_strs (x : Str) : ∀ os : List Str, inV (.str x) (os.map V.str) = decide (x ∈ os)
  | [] => rfl
  | b :: r => by
    show ((b == x) || inV (.str x) (r.map V.str)) = _
    rw [inV_strs x r]
    by_cases h1 : b = x
    · subst h1
      simp
    · have h2 : ¬ x = b := fun z => h1 z.symm
      have h3 : (b == x) = false := by simpa using h1
      simp [h2, h3]
theorem flat_strs (os : List Str) : (os.map V.str).all flatV = true := by
  rw [List.all_map, List.all_eq_true]
  intro z _
  rfl
/-- is it a tuple of a word and two parts -/
def shape3 : List PyData → Option (Str × PyData × PyData)
  | [.str w, a, b] => some (w, a, b)
  | _ => none
/-- an expression of at most this depth -/
def withinB : Nat → PyData → Bool
  | 0, _ => false
  | k + 1, d => match d with
    | .tuple ds => (match shape3 ds with
      | some (w, a, b) => decide (w ∈ ops) && (withinB k a && withinB k b)
      | none => false)
    | .int i => decide (-1000000000000 ≤ i ∧ i ≤ 1000000000000)
    | d => nameD d
section
variable {P : Program} {w : World} {K : PySem.W.Frag} {mg : Str → Option Value} {base : Heap} {f : Addr} {fd : FuncData}
def spW (n : Nat) : Sp := fun vs H Q _ => ∃ (m : Nat) (v : V) (d : PyData), m < n ∧ vs = [v, .int (m : Nat)] ∧ Tr H v d ∧ ∀ H', Same H H' → Q (.bl (withinB m d)) H'
theorem sc_is_expression_within : FnScope ["value", "depth"] ["value", "depth"] (defScope (top 16)) := ⟨rfl, rfl, rfl, by decide +kernel, rfl, by decide +kernel, by decide +kernel⟩
theorem ok_within0 (F : FnP K "is_expression_within" "is_expression_within" (top 16) f fd) : FnOk P w K mg base CX0 2 f fd ["value", "depth"] (spW 0) :=
  F.ok sc_is_expression_within (fun vs H Q E h => by obtain ⟨m, _, _, h, _⟩ := h; exact absurd h (Nat.not_lt_zero m)) (fun cdv A outer s H vs Q E hr h => by obtain ⟨m, _, _, h, _⟩ := h; exact absurd h (Nat.not_lt_zero m))
theorem ok_within {n : Nat} (T : Tx w K mg) (D_is_integer : Df P w K mg base 1 "is_integer" ["value"] spInt) (D_is_name : Df P w K mg base 1 "is_name" ["value"] spName) (D_is_expression_within : Df P w K mg base (n + 2) "is_expression_within" ["value", "depth"] (spW n))
    (F : FnP K "is_expression_within" "is_expression_within" (top 16) f fd) : FnOk P w K mg base CX0 (n + 3) f fd ["value", "depth"] (spW (n + 1)) := by
  obtain ⟨tm, hGM⟩ := T.gM
  refine F.ok sc_is_expression_within (fun vs H Q E h => ?_) (fun cdv A outer s H vs Q E hr h => ⟨_, PSs.nox (pss_cons (ps_if (pt_cmpR op_eq (pv 1) pe_int (nomark _)) (pss_one (ps_ret pe_bl)) pss_nil) (pss_cons (ps_if (pt_not (pt_val (pe_callB call_isi (by rfl) T.n_isinstance (by decide +kernel) (pa_cons (pv 0) (pa_cons (pe_bltn (v := .ty "tuple") (by rfl) T.n_tuple (by decide +kernel) rfl) pa_nil))))) (pss_one (ps_ret (pe_or (pcall D_is_name hr (pa_cons (pv 0) pa_nil) (by omega)) (pe_one (pe_and (pcall D_is_integer hr (pa_cons (pv 0) pa_nil) (by omega)) (pe_one (pe_cmpR op_le (pe_callB call_abs (by rfl) T.n_abs (by decide +kernel) (pa_cons (pv 0) pa_nil)) (pe_glob (v := .int 1000000000000) rfl hGM ⟨_, rfl⟩) (nomark _)))))))) pss_nil) (pss_cons (ps_if (PW.pt (pw_or (pt_cmpR op_ne (pe_callB call_len_seq (by rfl) T.n_len (by decide +kernel) (pa_cons (pv 0) pa_nil)) pe_int (nomark _)) (pw_or (pt_not (pt_val (pe_callB call_isi (by rfl) T.n_isinstance (by decide +kernel) (pa_cons (pe_ix ix_tup (pv 0) pe_int (fun _ _ => rfl)) (pa_cons (pe_bltn (v := .ty "str") (by rfl) T.n_str (by decide +kernel) rfl) pa_nil))))) (pw_or1 (pt_cmpR (r := rIn K true) op_notIn_seq (pe_ix ix_tup (pv 0) pe_int (fun _ _ => rfl)) (pe_glob (v := .ref _) rfl T.g_OPERATORS rfl) rfl))))) (pss_one (ps_ret pe_bl)) pss_nil) (pss_one (ps_ret (pe_and (pcall D_is_expression_within hr (pa_cons (pe_ix ix_tup (pv 0) pe_int (fun _ _ => rfl)) (pa_cons (pe_op op_sub (pv 1) pe_int) pa_nil)) (by omega)) (pe_one (pcall D_is_expression_within hr (pa_cons (pe_ix ix_tup (pv 0) pe_int (fun _ _ => rfl)) (pa_cons (pe_op op_sub (pv 1) pe_int) pa_nil)) (by omega))))))))), ?_⟩)
  · obtain ⟨m, v, d, _, rfl, _⟩ := h
    rfl
  · obtain ⟨m, v, d, mn, rfl, hv, q⟩ := h
    obtain ⟨Ty, ty, k1, k2, k3, k4, k5⟩ := hv.ty (K := K)
    refine ⟨_, rfl, rfl, _, rfl, ?_⟩
    cases m with
    | zero => exact ifT (vT rfl) (q H (Same.refl _))
    | succ m =>
      refine ifF (vF (by omega)) ?_
      refine ⟨_, rfl, _, _, _, _, _, rfl, .ty "tuple", ty, kit_ty k4, _, rfl, ?_⟩
      have leaf : dT d = false → withinB (m + 1) d = (nameD d || (dI d && withinB (m + 1) d)) := fun h => by
        cases d <;> first | rfl | (simp [withinB, dI]; done) | cases h
      cases ht : dT d with
      | false =>
        refine iteT ⟨_, rfl, v, d, rfl, hv, fun H1 s1 => ⟨_, rfl, ?_⟩⟩
        rw [leaf ht] at q
        cases hn : nameD d with
        | true =>
          rw [hn] at q
          exact iteT (q H1 s1)
        | false =>
          rw [hn, Bool.false_or] at q
          refine iteF ⟨_, rfl, v, d, rfl, hv.same s1, _, rfl, ?_⟩
          cases hi : dI d with
          | false =>
            rw [hi] at q
            exact iteF (q H1 s1)
          | true =>
            rw [hi, Bool.true_and] at q
            cases hv with
            | int i =>
              refine iteT ⟨_, rfl, i, rfl, _, _, rfl, rfl, ?_⟩
              have e : decide ((if i < 0 then -i else i) ≤ 1000000000000) = withinB (m + 1) (.int i) := by
                show _ = decide (-1000000000000 ≤ i ∧ i ≤ 1000000000000)
                refine decide_eq_decide.mpr ?_
                split <;> omega
              rw [← e] at q
              exact q H1 s1
            | _ => cases hi
      | true =>
        cases hv with
        | @tup t xs ds e h =>
          have q' : ∀ H', Same H H' → Q (.bl (match shape3 ds with
            | some (w, a, b) => decide (w ∈ ops) && (withinB m a && withinB m b)
            | none => false)) H' := q
          have xl := h.len
          refine iteF ⟨_, rfl, t, _, rfl, .inr (SqT.of e), rfl, _, rfl, ?_⟩
          by_cases h3 : ds.length = 3
          case neg =>
            have e3 : shape3 ds = none := by
              unfold shape3
              split
              · rename_i z
                exact absurd rfl h3
              · rfl
            rw [e3] at q'
            exact ifT (by rw [vF (by omega)]; rfl) (q' H (Same.refl _))
          case pos =>
            obtain ⟨d0, d1, d2, rfl⟩ : ∃ d0 d1 d2, ds = [d0, d1, d2] := by
              match ds, h3 with
              | [d0, d1, d2], _ => exact ⟨d0, d1, d2, rfl⟩
            cases h with
            | cons a0 h =>
              cases h with
              | cons a1 h =>
                cases h with
                | @cons v2 vs2 _ _ a2 h =>
                  cases h with
                  | nil =>
                    rename_i v0 v1
                    refine ifF (by rw [decide_eq_true (show V.int (([v0, v1, v2].length : Nat) : Int) = V.int 3 from rfl)]; rfl) ?_
                    obtain ⟨Ty0, ty0, _, _, s0, _, _⟩ := a0.ty (K := K)
                    refine ⟨_, rfl, t, _, _, _, rfl, rfl, .inl (.inl e), rfl, _, _, _, _, _, rfl, .ty "str", ty0, kit_ty s0, _, rfl, ?_⟩
                    cases a0 with
                    | str x hx =>
                      refine iteF ⟨_, rfl, t, _, _, _, rfl, rfl, .inl (.inl e), rfl, _, ops.map V.str, rfl, .inr (T.kO H), rfl, flat_strs ops, _, rfl, ?_⟩
                      have q2 : ∀ H', Same H H' → Q (.bl (decide (x ∈ ops) && (withinB m d1 && withinB m d2))) H' := q'
                      by_cases ho : x ∈ ops
                      · refine ifF (by show (!inV (.str x) _) = false; rw [inV_strs, decide_eq_true ho]; rfl) ?_
                        rw [decide_eq_true ho, Bool.true_and] at q2
                        refine ⟨_, rfl, t, _, _, _, rfl, rfl, .inl (.inl e), rfl, _, rfl, _, _, rfl, rfl, m, _, d1, by omega, (by show [_, V.int (((m + 1 : Nat) : Int) - 1)] = _; rw [show ((m + 1 : Nat) : Int) - 1 = (m : Nat) by omega]), a1, fun H1 s1 => ⟨_, rfl, ?_⟩⟩
                        cases w1 : withinB m d1 with
                        | false =>
                          rw [w1] at q2
                          exact iteF (q2 H1 s1)
                        | true =>
                          rw [w1, Bool.true_and] at q2
                          refine iteT ⟨_, rfl, t, _, _, _, rfl, rfl, .inl (.inl (s1 _ _ e)), rfl, _, rfl, _, _, rfl, rfl, m, _, d2, by omega, (by show [_, V.int (((m + 1 : Nat) : Int) - 1)] = _; rw [show ((m + 1 : Nat) : Int) - 1 = (m : Nat) by omega]), a2.same s1, fun H2 s2 => q2 H2 (s1.trans s2)⟩
                      · rw [decide_eq_false ho] at q2
                        exact ifT (by show (!inV (.str x) _) = true; rw [inV_strs, decide_eq_false ho]; rfl) (q2 H (Same.refl _))
                    | _ => exact iteT (q' H (Same.refl _))
        | _ => cases ht
def spE : Sp := fun vs H Q _ => ∃ (v : V) (d : PyData), vs = [v] ∧ Tr H v d ∧ ∀ H', Same H H' → Q (.bl (withinB 6 d)) H'
theorem sc_is_expression : FnScope ["value"] ["value"] (defScope (top 17)) := ⟨rfl, rfl, rfl, by decide +kernel, rfl, by decide +kernel, by decide +kernel⟩
theorem ok_expr (T : Tx w K mg) (D_is_expression_within : Df P w K mg base 9 "is_expression_within" ["value", "depth"] (spW 7)) (F : FnP K "is_expression" "is_expression" (top 17) f fd) : FnOk P w K mg base CX0 10 f fd ["value"] spE := by
  obtain ⟨tm, hGD⟩ := T.gD
  refine F.ok sc_is_expression (fun vs H Q E h => ?_) (fun cdv A outer s H vs Q E hr h => ⟨_, PSs.nox (pss_one (ps_ret (pcall D_is_expression_within hr (pa_cons (pv 0) (pa_cons (pe_glob (v := .int 6) rfl hGD ⟨_, rfl⟩) pa_nil))))), ?_⟩)
  · obtain ⟨v, d, rfl, _⟩ := h
    rfl
  · obtain ⟨v, d, rfl, hv, q⟩ := h
    exact ⟨_, rfl, 6, v, d, by decide, rfl, hv, q⟩
end
end K83

set_option Elab.async false
set_option linter.all false
set_option maxRecDepth 100000
set_option maxHeartbeats 4000000
set_option pp.maxSteps 900
namespace K83
open PySem PySem.Spec PyProof.Rows L2 Gu Ex
theorem u1 {k : Nat} {A : Around} (h : Room k A) : A.units + 1 < cLine := by
  have := h.units
  omega
abbrev Env1 : Type := List (Str × Int)
def kvE (p : Str × Int) : Key × V := (Sum.inr p.1, .int p.2)
def lookE (env : Env1) (x : Str) : Int := ((env.find? fun p => decide (p.1 = x)).map Prod.snd).getD 0
theorem look_get (x : Str) : ∀ env : Env1, (valV (env.map kvE) (Sum.inr x)).getD (.int 0) = .int (lookE env x)
  | [] => rfl
  | p :: r => by
    unfold lookE
    by_cases e : p.1 = x
    · rw [List.map_cons, valV_pos (by unfold kvE; rw [e]), List.find?_cons_of_pos (by simpa using e)]
      rfl
    · rw [List.map_cons, valV_neg (fun z => e (by unfold kvE at z; exact Sum.inr.inj z)), List.find?_cons_of_neg (by simpa using e)]
      exact look_get x r
def calcI (w : Str) (x y : Int) : Int := if w = "add" then x + y else if w = "sub" then x - y else if w = "less" then (if x < y then 1 else 0) else if x = y then 1 else 0
def wor (env : Env1) : Nat → PyData → Int
  | 0, _ => 0
  | k + 1, d => match d with
    | .str x => lookE env x
    | .int i => i
    | .tuple ds => (match shape3 ds with
      | some (w, a, b) => calcI w (wor env k a) (wor env k b)
      | none => 0)
    | _ => 0
theorem sv_ne {a b : Str} (h : ¬ a = b) : ¬ V.str a = V.str b := fun z => h (V.str.inj z)
section
variable {P : Program} {w : World} {K : PySem.W.Frag} {mg : Str → Option Value} {base : Heap} {f : Addr} {fd : FuncData}
def spCo (n : Nat) : Sp := fun vs H Q _ => ∃ (k : Nat) (v : V) (d : PyData) (p : Addr) (env : Env1), k < n ∧ vs = [v, .ref p] ∧ Tr H v d ∧ H p = some (.dK (env.map kvE)) ∧ withinB k d = true ∧ Q (.int (wor env k d)) H
theorem sc_computed : FnScope ["expression", "variables", "first", "second", "holds", "word", "left", "right"] ["expression", "variables"] (defScope (top 18)) := ⟨rfl, rfl, rfl, by decide +kernel, rfl, by decide +kernel, by decide +kernel⟩
theorem ok_co0 (F : FnP K "computed" "computed" (top 18) f fd) : FnOk P w K mg base CX0 2 f fd ["expression", "variables"] (spCo 0) :=
  F.ok sc_computed (fun vs H Q E h => by obtain ⟨m, _, _, _, _, h, _⟩ := h; exact absurd h (Nat.not_lt_zero m)) (fun cdv A outer s H vs Q E hr h => by obtain ⟨m, _, _, _, _, h, _⟩ := h; exact absurd h (Nat.not_lt_zero m))
theorem ok_co {n : Nat} (T : Tx w K mg) (D_computed : Df P w K mg base (n + 2) "computed" ["expression", "variables"] (spCo n)) (F : FnP K "computed" "computed" (top 18) f fd) : FnOk P w K mg base CX0 (n + 3) f fd ["expression", "variables"] (spCo (n + 1)) := by
  refine F.ok sc_computed (fun vs H Q E h => ?_) (fun cdv A outer s H vs Q E hr h => ⟨_, PSs.nox (pss_cons (ps_if (pt_val (pe_callB call_isi (by rfl) T.n_isinstance (by decide +kernel) (pa_cons (pv 0) (pa_cons (pe_bltn (v := .ty "int") (by rfl) T.n_int (by decide +kernel) rfl) pa_nil)))) (pss_one (ps_ret (pv 0))) pss_nil) (pss_cons (ps_if (pt_val (pe_callB call_isi (by rfl) T.n_isinstance (by decide +kernel) (pa_cons (pv 0) (pa_cons (pe_bltn (v := .ty "str") (by rfl) T.n_str (by decide +kernel) rfl) pa_nil)))) (pss_one (ps_ret (pe_dget2 (u1 hr) (pv 1) (pv 0) pe_int ⟨rfl, rfl, rfl, rfl⟩))) pss_nil) (pss_cons (ps_asg (pv 0) (pg_tup (by rfl) (pgs_cons (pg_name (i := 5) sc_computed.nd rfl (by first | exact Or.inl rfl | exact Or.inr rfl)) (pgs_cons (pg_name (i := 6) sc_computed.nd rfl (by first | exact Or.inl rfl | exact Or.inr rfl)) (pgs_cons (pg_name (i := 7) sc_computed.nd rfl (by first | exact Or.inl rfl | exact Or.inr rfl)) pgs_nil))))) (pss_cons (ps_set (i := 2) sc_computed.nd rfl (by first | exact Or.inl rfl | exact Or.inr rfl) (pcall D_computed hr (pa_cons (pv 6) (pa_cons (pv 1) pa_nil)) (by omega))) (pss_cons (ps_set (i := 3) sc_computed.nd rfl (by first | exact Or.inl rfl | exact Or.inr rfl) (pcall D_computed hr (pa_cons (pv 7) (pa_cons (pv 1) pa_nil)) (by omega))) (pss_cons (ps_if (pt_cmpR op_eq (pv 5) pe_str (nomark _)) (pss_one (ps_ret (pe_op op_add (pv 2) (pv 3)))) pss_nil) (pss_cons (ps_if (pt_cmpR op_eq (pv 5) pe_str (nomark _)) (pss_one (ps_ret (pe_op op_sub (pv 2) (pv 3)))) pss_nil) (pss_cons (ps_set (i := 4) sc_computed.nd rfl (by first | exact Or.inl rfl | exact Or.inr rfl) (pe_ifExp (pt_cmpR op_eq (pv 5) pe_str (nomark _)) (pe_cmpR op_lt (pv 2) (pv 3) (nomark _)) (pe_cmpR op_eq (pv 2) (pv 3) (nomark _)))) (pss_one (ps_ret (pe_ifExp (pt_val (pv 4)) pe_int pe_int))))))))))), ?_⟩)
  · obtain ⟨k, v, d, p, env, _, rfl, _⟩ := h
    rfl
  · obtain ⟨k, v, d, p, env, kn, rfl, hv, hp, wi, q⟩ := h
    obtain ⟨Ty, ty, k1, k2, k3, k4, k5⟩ := hv.ty (K := K)
    refine ⟨_, rfl, _, _, _, _, _, rfl, .ty "int", ty, kit_ty k1, _, rfl, ?_⟩
    cases k with
    | zero => cases wi
    | succ k =>
    cases hv with
    | int i => exact iteT ⟨_, rfl, q⟩
    | str x hx =>
      refine iteF ⟨_, rfl, _, _, _, _, _, rfl, .ty "str", ty, kit_ty k3, _, rfl, iteT ?_⟩
      refine ⟨_, rfl, p, rfl, .inl ⟨_, .inl hp⟩, _, rfl, _, DGet.k (k := Sum.inr x) hp, ?_⟩
      rw [look_get]
      exact q
    | @tup t xs ds e h =>
      refine iteF ⟨_, rfl, _, _, _, _, _, rfl, .ty "str", ty, kit_ty k3, _, rfl, iteF ?_⟩
      have wi' : (match shape3 ds with
        | some (w, a, b) => decide (w ∈ ops) && (withinB k a && withinB k b)
        | none => false) = true := wi
      obtain ⟨wd, d1, d2, rfl⟩ : ∃ wd d1 d2, ds = [.str wd, d1, d2] := by
        unfold shape3 at wi'
        split at wi'
        · rename_i h2
          split at h2
          · exact ⟨_, _, _, rfl⟩
          · cases h2
        · cases wi'
      have wi2 : (decide (wd ∈ ops) && (withinB k d1 && withinB k d2)) = true := wi'
      rw [Bool.and_eq_true, Bool.and_eq_true] at wi2
      obtain ⟨w0, w1, w2⟩ := wi2
      have q2 : Q (.int (calcI wd (wor env k d1) (wor env k d2))) H := q
      cases h with
      | cons a0 h =>
        cases h with
        | cons a1 h =>
          cases h with
          | @cons v2 vs2 _ _ a2 h =>
            cases h with
            | nil =>
              rename_i v0 v1
              cases a0 with
              | str _ hx =>
                refine ⟨_, rfl, t, _, rfl, .inl (.inl e), rfl, _, _, rfl, _, _, rfl, _, _, rfl, rfl, ?_⟩
                refine ⟨_, rfl, _, rfl, k, _, d1, p, env, by omega, rfl, a1, hp, w1, ?_⟩
                refine ⟨_, rfl, _, rfl, k, _, d2, p, env, by omega, rfl, a2, hp, w2, ?_⟩
                generalize wor env k d1 = x1 at q2
                generalize wor env k d2 = x2 at q2
                refine ⟨_, rfl, rfl, _, rfl, ?_⟩
                unfold calcI at q2
                by_cases e1 : wd = "add"
                · rw [if_pos e1] at q2
                  exact ifT (by rw [e1]; exact decide_eq_true rfl) ⟨_, rfl, _, rfl, _, _, rfl, rfl, q2⟩
                rw [if_neg e1] at q2
                refine ifF (decide_eq_false (sv_ne e1)) ⟨_, rfl, rfl, _, rfl, ?_⟩
                by_cases e2 : wd = "sub"
                · rw [if_pos e2] at q2
                  exact ifT (by rw [e2]; exact decide_eq_true rfl) ⟨_, rfl, _, rfl, _, _, rfl, rfl, q2⟩
                rw [if_neg e2] at q2
                refine ifF (decide_eq_false (sv_ne e2)) ⟨_, rfl, rfl, _, rfl, ?_⟩
                by_cases e3 : wd = "less"
                · rw [if_pos e3] at q2
                  refine ifT (by rw [e3]; exact decide_eq_true rfl) ⟨_, rfl, _, rfl, _, _, rfl, rfl, ?_⟩
                  refine ⟨_, rfl, _, rfl, ?_⟩
                  by_cases e4 : x1 < x2
                  · rw [if_pos e4] at q2
                    exact ifT (decide_eq_true e4) q2
                  · rw [if_neg e4] at q2
                    exact ifF (decide_eq_false e4) q2
                · rw [if_neg e3] at q2
                  refine ifF (decide_eq_false (sv_ne e3)) ⟨_, rfl, _, rfl, rfl, ?_⟩
                  refine ⟨_, rfl, _, rfl, ?_⟩
                  by_cases e4 : x1 = x2
                  · rw [if_pos e4] at q2
                    exact ifT (vT e4) q2
                  · rw [if_neg e4] at q2
                    exact ifF (vF e4) q2
    | _ => cases wi
def spVal (K : PySem.W.Frag) : Sp := fun vs H Q E => ∃ (v : V) (d : PyData) (p : Addr) (env : Env1), vs = [v, .ref p] ∧ Tr H v d ∧ H p = some (.dK (env.map kvE)) ∧ (withinB 6 d = true → ∀ H', Same H H' → Q (.int (wor env 6 d)) H') ∧
  (withinB 6 d = false → ∀ dx H', H dx = none → Same H H' → H' dx = some (.xd [("value", v)]) → E (.ref (cV K)) (some dx) H')
theorem sc_value_of : FnScope ["expression", "variables"] ["expression", "variables"] (defScope (top 19)) := ⟨rfl, rfl, rfl, by decide +kernel, rfl, by decide +kernel, by decide +kernel⟩
theorem ok_val (T : Tx w K mg) (D_is_expression : Df P w K mg base 10 "is_expression" ["value"] spE) (D_computed : Df P w K mg base 9 "computed" ["expression", "variables"] (spCo 7)) (M : Ei P w K mg base "InvalidValue" "value")
    (F : FnP K "value_of" "value_of" (top 19) f fd) : FnOk P w K mg base (L2.CX P w) 11 f fd ["expression", "variables"] (spVal K) := by
  obtain ⟨fdI, FI, bI⟩ := M.ex
  refine F.ok sc_value_of (fun vs H Q E h => ?_) (fun cdv A outer s H vs Q E hr h => ⟨_, (pss_cons (ps_if (pt_not (pt_val (pcall D_is_expression hr (pa_cons (pv 0) pa_nil)))) (pss_one (ps_raise rfl (takes_of (E := E) rfl rfl rfl rfl) (pmk_oexG T.eV.ox T.eV.ii T.eV.ti FI (hr.mono (by decide)) bI .nil pass0 rfl T.g_InvalidValue (pa_cons (pv 0) pa_nil)))) pss_nil) (pss_one (ps_ret (pcall D_computed hr (pa_cons (pv 0) (pa_cons (pv 1) pa_nil)))))), ?_⟩)
  · obtain ⟨v, d, p, env, rfl, _⟩ := h
    rfl
  · obtain ⟨v, d, p, env, rfl, hv, hp, q1, q2⟩ := h
    refine ⟨_, rfl, v, d, rfl, hv, fun H1 s1 => ⟨_, rfl, ?_⟩⟩
    cases wi : withinB 6 d with
    | false => exact iteT ⟨_, rfl, (by show 1 ≤ 1000; decide), raise_ok fun dx H' h0 s2 hx => q2 wi dx H' (s1.free h0) (s1.trans s2) hx⟩
    | true => exact iteF ⟨_, rfl, _, rfl, 6, v, d, p, env, by decide, rfl, hv.same s1, s1 _ _ hp, wi, q1 wi H1 s1⟩
end
end K83

set_option Elab.async false
set_option linter.all false
set_option maxRecDepth 100000
set_option maxHeartbeats 4000000
set_option pp.maxSteps 900
namespace K83
open PySem PySem.Spec PyProof.Rows L2 Gu Ex RZ
/-- *path in front, read in a block -/
theorem psB {X : Cx} {e : Expr} {es : List Expr} {p : Pos} {te : TE} {t : TA} (K : PySem.W.Frag) (he : PE X e te) (hr : PA X es t) (hK : X.K = K := by rfl) (hs : starEach (.Starred e p :: es) X.env = (true, eval e X.env) :: starEach es X.env := by rfl) :
    PA X (.Starred e p :: es) (StX.tStar K te t) := by
  subst hK
  exact StX.pa_star he hr hs
theorem upd_none {H : Hp} {a b : Addr} {o : HO} (e : upd H a o b = none) : H b = none := by
  unfold upd at e
  split at e
  · cases e
  · exact e
theorem walk_zipT {K : PySem.W.Frag} {a b : Addr} {xs ys : List V} {n : Nat} (hn : n = min xs.length ys.length) : Walk (ItzT K a b) n (fun H => SqT K H a xs ∧ SqT K H b ys) (YPair (fun i => xs[i]?) (fun i => ys[i]?)) := by
  subst hn
  refine ⟨fun i _ hi q => ?_, fun _ q => ⟨xs, ys, q.1, q.2, by omega⟩, fun i H v H' _ q y => ?_⟩
  · have h1 : i < xs.length := by omega
    have h2 : i < ys.length := by omega
    exact ⟨xs, ys, xs[i], ys[i], q.1, q.2, List.getElem?_eq_getElem h1, List.getElem?_eq_getElem h2⟩
  · obtain ⟨T, x, y, h1, h2, h3, f1, f2⟩ := y
    exact ⟨T, x, y, h1, h2, h3, f1 xs q.1, f2 ys q.2⟩
section
variable {P : Program} {w : World} {K : PySem.W.Frag} {mg : Str → Option Value} {base : Heap} {f : Addr} {fd : FuncData}
def spPart : Sp := fun vs H Q _ => ∃ (v : V) (d : PyData), vs = [.str "expression", v] ∧ Tr H v d ∧ ∀ H', Same H H' → Q (.bl (withinB 6 d)) H'
theorem sc_is_part : FnScope ["kind", "value"] ["kind", "value"] (defScope (top 20)) := ⟨rfl, rfl, rfl, by decide +kernel, rfl, by decide +kernel, by decide +kernel⟩
theorem ok_part (T : Tx w K mg) (D_is_name : Df P w K mg base 1 "is_name" ["value"] spName) (D_is_expression : Df P w K mg base 10 "is_expression" ["value"] spE) (F : FnP K "is_part" "is_part" (top 20) f fd) : FnOk P w K mg base CX0 11 f fd ["kind", "value"] spPart := by
  refine F.ok sc_is_part (fun vs H Q E h => ?_) (fun cdv A outer s H vs Q E hr h => ⟨_, PSs.nox (pss_cons (ps_if (pt_cmpR op_eq (pv 0) pe_str (nomark _)) (pss_one (ps_ret (pcall D_is_name hr (pa_cons (pv 1) pa_nil)))) pss_nil) (pss_one (ps_ret (pe_ifExp (pt_cmpR op_eq (pv 0) pe_str (nomark _)) (pcall D_is_expression hr (pa_cons (pv 1) pa_nil)) (pe_callB call_isi (by rfl) T.n_isinstance (by decide +kernel) (pa_cons (pv 1) (pa_cons (pe_bltn (v := .ty "list") (by rfl) T.n_list (by decide +kernel) rfl) pa_nil))))))), ?_⟩)
  · obtain ⟨v, d, rfl, _⟩ := h
    rfl
  · obtain ⟨v, d, rfl, hv, q⟩ := h
    exact ⟨_, rfl, rfl, _, rfl, ifF (decide_eq_false (sv_ne (by decide))) ⟨_, rfl, rfl, _, rfl, ifT (decide_eq_true rfl) ⟨_, rfl, v, d, rfl, hv, q⟩⟩⟩
def spIns : Sp := fun vs H Q _ => ∃ (t : Addr) (v : V) (d : PyData), vs = [.ref t] ∧ H t = some (.tup [.str "out", v]) ∧ Tr H v d ∧ ∀ H', Same H H' → Q (.bl (withinB 6 d)) H'
theorem sc_is_instruction : FnScope ["value", "kinds", "kind", "part"] ["value"] (defScope (top 21)) := ⟨rfl, rfl, rfl, by decide +kernel, rfl, by decide +kernel, by decide +kernel⟩
theorem ok_ins (T : Tx w K mg) (D_is_part : Df P w K mg base 11 "is_part" ["kind", "value"] spPart) (F : FnP K "is_instruction" "is_instruction" (top 21) f fd) : FnOk P w K mg base CX0 12 f fd ["value"] spIns := by
  obtain ⟨es, en, kF⟩ := T.kF
  obtain ⟨fo, kG, kfo⟩ := T.kG
  refine F.ok sc_is_instruction (fun vs H Q E h => ?_) (fun cdv A outer s H vs Q E hr h => ⟨_, PSs.nox (pss_cons (ps_if (PW.pt (pw_or (pt_not (pt_val (pe_callB call_isi (by rfl) T.n_isinstance (by decide +kernel) (pa_cons (pv 0) (pa_cons (pe_bltn (v := .ty "tuple") (by rfl) T.n_tuple (by decide +kernel) rfl) pa_nil))))) (pw_or (pt_cmpR op_eq (pe_callB call_len_seq (by rfl) T.n_len (by decide +kernel) (pa_cons (pv 0) pa_nil)) pe_int (nomark _)) (pw_or (pt_not (pt_val (pe_callB call_isi (by rfl) T.n_isinstance (by decide +kernel) (pa_cons (pe_ix ix_tup (pv 0) pe_int (fun _ _ => rfl)) (pa_cons (pe_bltn (v := .ty "str") (by rfl) T.n_str (by decide +kernel) rfl) pa_nil))))) (pw_or1 (pt_cmpR (op_notIn_kd kF) (pe_ix ix_tup (pv 0) pe_int (fun _ _ => rfl)) (pe_glob (v := .ref _) rfl T.g_FORMS rfl) (by rfl))))))) (pss_one (ps_ret pe_bl)) pss_nil) (pss_cons (ps_set (i := 1) sc_is_instruction.nd rfl (by first | exact Or.inl rfl | exact Or.inr rfl) (pe_ix ix_kdict (pe_glob (v := .ref _) rfl T.g_FORMS rfl) (pe_ix ix_tup (pv 0) pe_int (fun _ _ => rfl)) (fun _ _ => rfl))) (pss_one (ps_ret (pe_and (pe_cmpR op_eq (pe_callB call_len_seq (by rfl) T.n_len (by decide +kernel) (pa_cons (pv 0) pa_nil)) (pe_op op_add pe_int (pe_callB call_len_seq (by rfl) T.n_len (by decide +kernel) (pa_cons (pv 1) pa_nil))) (nomark _)) (pe_one (pe_callB (cr_all rfl) (by rfl) T.n_all (by decide +kernel) (pa_cons (pe_lc (own := [("kind", 2), ("part", 3)]) (g := gTup K 2 (gCons (gName 2) (gCons (gName 3) gNil))) rfl sc_is_instruction.nd (pi_zipA rfl T.n_zip (pa_cons (pv 1) (pa_cons (pe_slice sl_tup (pv 0) (po_some pe_int) po_none) pa_nil))) (blkOk_by (own := [("kind", 2), ("part", 3)]) (N := ["value", "kinds", "kind", "part"]) (sc := defScope (top 21)) (by decide +kernel)) (fun _ _ _ _ _ => pg_tup rfl (pgs_cons (pg_name (i := 2) sc_is_instruction.nd rfl (Or.inl rfl)) (pgs_cons (pg_name (i := 3) sc_is_instruction.nd rfl (Or.inl rfl)) pgs_nil))) (fun _ _ _ _ _ => pts_nil) (fun _ _ _ _ _ => (pcall D_is_part hr (pa_cons (pv 2) (pa_cons (pv 3) pa_nil))))) pa_nil)))))))), ?_⟩)
  · obtain ⟨t, v, d, rfl, _⟩ := h
    rfl
  · obtain ⟨t, v, d, rfl, e, hv, q⟩ := h
    have hT : Tr H (.ref t) (.tuple [.str "out", d]) := .tup e (.cons (.str "out" ⟨by decide, by decide⟩) (.cons hv .nil))
    obtain ⟨Ty, ty, _, _, _, k4, _⟩ := hT.ty (K := K)
    refine ⟨_, rfl, _, _, _, _, _, rfl, .ty "tuple", ty, kit_ty k4, _, rfl, iteF ?_⟩
    refine ⟨_, rfl, t, _, rfl, .inr (SqT.of e), rfl, _, rfl, ifF (vF (by show ((2 : Nat) : Int) ≠ 0; decide)) ?_⟩
    refine ⟨_, rfl, t, _, _, _, rfl, rfl, .inl (.inl e), rfl, _, _, _, _, _, rfl, .ty "str", .base (.str "out"), kit_ty (show kitB "str" "str" = some true by decide +kernel), _, rfl, iteF ?_⟩
    refine ⟨_, rfl, t, _, _, _, rfl, rfl, .inl (.inl e), rfl, _, _, rfl, rfl, kG, _, rfl, ifF rfl ?_⟩
    refine ⟨_, rfl, t, _, _, _, rfl, rfl, .inl (.inl e), rfl, _, _, .ref fo, rfl, rfl, ⟨es, en, .ref fo, kF.at_, kF.lit, kG, rfl⟩, ?_⟩
    refine ⟨_, rfl, t, _, rfl, .inr (SqT.of e), _, rfl, fo, _, rfl, .inr (kfo H), _, _, rfl, rfl, rfl, _, rfl, iteT ?_⟩
    refine ⟨_, rfl, _, rfl, _, rfl, t, _, rfl, SqT.of e, (show ¬ (HT.sIx 2 0 (some 1) = 0 ∧ HT.sIx 2 2 none = 2) by decide), fun p hp => ?_⟩
    have s1 : Same H (upd H p (.tup [v])) := same_upd hp
    refine ⟨fo, p, _, [v], rfl, .inr ⟨kfo _, SqT.of upd_same, fun D hD => ?_⟩⟩
    have nDp : D ≠ p := (ne_of_none (show (upd H p (.tup [v])) p = some (.tup [v]) from upd_same) hD).symm
    refine lc_it (walk_zipT (xs := [.str "expression"]) (ys := [v]) (n := 1) rfl) (fun i G => Same H G ∧ G p = some (.tup [v]) ∧ ((i = 0 ∧ G D = some (.lst [])) ∨ (i = 1 ∧ G D = some (.lst [.bl (withinB 6 d)])))) ?_ ?_ ?_ ?_
    · exact ⟨s1.trans (same_upd hD), by rw [upd_ne nDp.symm]; exact upd_same, .inl ⟨rfl, upd_same⟩⟩
    · rintro i G _ ⟨_, hp2, _⟩
      exact ⟨kfo G, SqT.of hp2⟩
    · rintro i x G1 G2 hi ⟨sm, hp2, hD2⟩ ⟨T', y1, y2, rfl, hT, rfl, e1, e2⟩
      obtain rfl : i = 0 := by omega
      cases e1
      cases e2
      rcases hD2 with ⟨_, hD2⟩ | ⟨z, _⟩
      · have s2 := same_upd (o := .tup [.str "expression", v]) hT
        refine ⟨T', _, rfl, .inl (.inl upd_same), rfl, _, _, rfl, _, _, rfl, rfl, rfl, _, rfl, _, rfl, v, d, rfl, hv.same (sm.trans s2), fun G s3 => ?_⟩
        have hD3 := s3 _ _ (s2 _ _ hD2)
        have hp3 := s3 _ _ (s2 _ _ hp2)
        refine ⟨_, hD3, (by show 0 < sizeLine; decide), fun b o e => ?_, by rw [upd_ne nDp.symm]; exact hp3, .inr ⟨rfl, upd_same⟩⟩
        have nb : b ≠ D := ne_of_none e (upd_none hD)
        rw [upd_ne nb]
        exact s3 b o (s2 b o (sm b o e))
      · omega
    · rintro G ⟨sm, hp2, hD2⟩
      rcases hD2 with ⟨z, _⟩ | ⟨_, hD2⟩
      · omega
      · refine ⟨D, [withinB 6 d], rfl, SqL.of hD2, ?_⟩
        have e : [withinB 6 d].all id = withinB 6 d := by
          cases withinB 6 d <;> rfl
        rw [e]
        exact q G sm
end
end K83

set_option Elab.async false
set_option linter.all false
set_option maxRecDepth 100000
set_option maxHeartbeats 4000000
set_option pp.maxSteps 900
namespace K83
open PySem PySem.Spec PyProof.Rows L2 Gu Ex RZ
section
variable {P : Program} {w : World} {K : PySem.W.Frag} {mg : Str → Option Value} {base : Heap} {f : Addr} {fd : FuncData}
def spPlaced : Sp := fun vs H Q _ => ∃ l p t : Addr, vs = [.ref l, .ref p] ∧ H l = some (.lst [.ref t]) ∧ H p = some (.tup []) ∧
  ∀ R pr pa H', Same H H' → H' R = some (.lst [.ref pr]) → H' pr = some (.tup [.ref pa, .ref t]) → H' pa = some (.tup [.int 0]) → Q (.ref R) H'
theorem sc_placed : FnScope ["body", "path", "index", "instruction"] ["body", "path"] (defScope (top 22)) := ⟨rfl, rfl, rfl, by decide +kernel, rfl, by decide +kernel, by decide +kernel⟩
theorem ok_placed (T : Tx w K mg) (F : FnP K "placed" "placed" (top 22) f fd) : FnOk P w K mg base CX0 1 f fd ["body", "path"] spPlaced := by
  refine F.ok sc_placed (fun vs H Q E h => ?_) (fun cdv A outer s H vs Q E hr h => ⟨_, PSs.nox (pss_one (ps_ret (pe_lc (own := [("index", 2), ("instruction", 3)]) (g := gTup K 2 (gCons (gName 2) (gCons (gName 3) gNil))) rfl sc_placed.nd (pi_enum rfl T.n_enumerate (pa_cons (pv 0) pa_nil)) (blkOk_by (own := [("index", 2), ("instruction", 3)]) (N := ["body", "path", "index", "instruction"]) (sc := defScope (top 22)) (by decide +kernel)) (fun _ _ _ _ _ => pg_tup rfl (pgs_cons (pg_name (i := 2) sc_placed.nd rfl (Or.inl rfl)) (pgs_cons (pg_name (i := 3) sc_placed.nd rfl (Or.inl rfl)) pgs_nil))) (fun _ _ _ _ _ => pts_nil) (fun _ _ _ _ _ => (pe_tup (pa_cons (pe_tup (psB K (pv 1) (pa_cons (pv 2) pa_nil))) (pa_cons (pv 3) pa_nil))))))), ?_⟩)
  · obtain ⟨l, p, t, rfl, _⟩ := h
    rfl
  · obtain ⟨l, p, t, rfl, hl, hp, q⟩ := h
    refine ⟨_, rfl, l, _, rfl, SqL.of hl, fun D hD => ?_⟩
    refine lc_it (walk_enum (xs := [.ref t])) (fun i G => Same H G ∧ ((i = 0 ∧ G D = some (.lst [])) ∨ (i = 1 ∧ ∃ pr pa, G D = some (.lst [.ref pr]) ∧ G pr = some (.tup [.ref pa, .ref t]) ∧ G pa = some (.tup [.int 0])))) ⟨same_upd hD, .inl ⟨rfl, upd_same⟩⟩ (fun i G _ h => SqL.of (h.1 _ _ hl)) ?_ ?_
    · rintro i x G1 G2 hi ⟨sm, hD2⟩ ⟨T', y1, y2, rfl, hT, rfl, e1, e2⟩
      obtain rfl : i = 0 := by
        have : i < 1 := hi
        omega
      cases e1
      cases e2
      rcases hD2 with ⟨_, hD2⟩ | ⟨z, _⟩
      · have s2 := same_upd (o := .tup [.int ((0 : Nat) : Int), .ref t]) hT
        refine ⟨T', _, rfl, .inl (.inl upd_same), rfl, _, _, rfl, _, _, rfl, rfl, rfl, ?_⟩
        refine ⟨_, rfl, p, [], rfl, .inl (SqT.of (s2 _ _ (sm _ _ hp))), _, rfl, (by show 1 ≤ sizeLine; decide), fun pa hpa => ?_⟩
        have s3 := same_upd (o := .tup [.int ((0 : Nat) : Int)]) hpa
        refine ⟨_, rfl, (by show 2 ≤ sizeLine; decide), fun pr hpr => ?_⟩
        have s4 := same_upd (o := .tup [.ref pa, .ref t]) hpr
        have hD3 := s4 _ _ (s3 _ _ (s2 _ _ hD2))
        refine ⟨_, hD3, (by show 0 < sizeLine; decide), fun b o e => ?_, .inr ⟨rfl, pr, pa, upd_same, ?_, ?_⟩⟩
        · have nb : b ≠ D := ne_of_none e hD
          rw [upd_ne nb]
          exact s4 _ _ (s3 _ _ (s2 _ _ (sm _ _ e)))
        · rw [upd_ne (ne_of_none (s3 _ _ (s2 _ _ hD2)) hpr).symm]
          exact upd_same
        · rw [upd_ne (ne_of_none (s2 _ _ hD2) hpa).symm]
          exact s4 _ _ upd_same
      · omega
    · rintro G ⟨sm, hD2⟩
      rcases hD2 with ⟨z, _⟩ | ⟨_, pr, pa, h1, h2, h3⟩
      · cases z
      · exact q D pr pa G sm h1 h2 h3
def spPlacedIn : Sp := fun vs H Q _ => ∃ (t p : Addr) (v : V) (d : PyData), vs = [.ref t, .ref p] ∧ H t = some (.tup [.str "out", v]) ∧ Tr H v d ∧ dL d = false ∧ ∀ R H', Same H H' → H' R = some (.lst []) → H R = none → Q (.ref R) H'
theorem sc_placed_in : FnScope ["instruction", "path", "found", "position", "part"] ["instruction", "path"] (defScope (top 23)) := ⟨rfl, rfl, rfl, by decide +kernel, rfl, by decide +kernel, by decide +kernel⟩
theorem ok_placed_in (T : Tx w K mg) (D_placed : Df P w K mg base 1 "placed" ["body", "path"] spPlaced) (F : FnP K "placed_in" "placed_in" (top 23) f fd) : FnOk P w K mg base CX0 2 f fd ["instruction", "path"] spPlacedIn := by
  refine F.ok sc_placed_in (fun vs H Q E h => ?_) (fun cdv A outer s H vs Q E hr h => ⟨_, PSs.nox (pss_cons (ps_set (i := 2) sc_placed_in.nd rfl (by first | exact Or.inl rfl | exact Or.inr rfl) (pe_lst pa_nil)) (pss_cons (ps_for PassesOwn.never rfl (pi_enumT rfl T.n_enumerate (pa_cons (pv 0) pa_nil)) (pg_tup (by rfl) (pgs_cons (pg_name (i := 3) sc_placed_in.nd rfl (by first | exact Or.inl rfl | exact Or.inr rfl)) (pgs_cons (pg_name (i := 4) sc_placed_in.nd rfl (by first | exact Or.inl rfl | exact Or.inr rfl)) pgs_nil))) (pss_one (ps_if (pt_val (pe_callB call_isi (by rfl) T.n_isinstance (by decide +kernel) (pa_cons (pv 4) (pa_cons (pe_bltn (v := .ty "list") (by rfl) T.n_list (by decide +kernel) rfl) pa_nil)))) (pss_one (ps_aug (i := 2) sc_placed_in.nd rfl (by first | exact Or.inl rfl | exact Or.inr rfl) (pcall D_placed hr (pa_cons (pv 4) (pa_cons (pe_tup (StX.pa_star (pv 1) (pa_cons (pv 3) pa_nil))) pa_nil))) iop_ext)) pss_nil))) (pss_one (ps_ret (pv 2))))), ?_⟩)
  · obtain ⟨t, p, v, d, rfl, _⟩ := h
    rfl
  · obtain ⟨t, p, v, d, rfl, e, hv, hd, q⟩ := h
    obtain ⟨Ty, ty, _, _, _, _, k5⟩ := hv.ty (K := K)
    refine ⟨(by show 0 ≤ sizeLine; decide), fun R hR => ?_⟩
    have s1 := same_upd (o := .lst []) hR
    refine ⟨_, rfl, t, _, rfl, SqT.of (s1 _ _ e), ?_⟩
    refine for_it (walk_enumT (xs := [.str "out", v])) (fun i σ G => Same H G ∧ G R = some (.lst []) ∧ ∃ x y, σ = [some (.ref t), some (.ref p), some (.ref R), x, y]) ⟨s1, upd_same, none, none, rfl⟩ (fun i σ G _ h => SqT.of (h.1 _ _ e)) ?_ ?_
    · rintro i x σ G1 G2 hi ⟨sm, hR1, a, b, rfl⟩ ⟨T', y1, y2, rfl, hT, rfl, e1, e2⟩
      have s2 := same_upd (o := .tup [y1, y2]) hT
      have sm2 := sm.trans s2
      refine ⟨T', _, rfl, .inl (.inl upd_same), rfl, _, _, rfl, _, _, rfl, rfl, ?_⟩
      match i, hi, e1, e2 with
      | 0, _, e1, e2 =>
        cases e1
        cases e2
        exact ⟨_, rfl, _, _, _, _, _, rfl, .ty "list", .base (.str "out"), kit_ty (show kitB "str" "list" = some false by decide +kernel), _, rfl, iteF ⟨sm2, s2 _ _ hR1, _, _, rfl⟩⟩
      | 1, _, e1, e2 =>
        cases e1
        cases e2
        obtain ⟨Ty2, ty2, _, _, _, _, k6⟩ := (hv.same sm2).ty (K := K)
        exact ⟨_, rfl, _, _, _, _, _, rfl, .ty "list", ty2, kit_ty k6, _, rfl, ifF hd ⟨sm2, s2 _ _ hR1, _, _, rfl⟩⟩
    · rintro σ G ⟨sm, hR1, a, b, rfl⟩
      exact ⟨_, rfl, q R G sm hR1 hR⟩
def spDep : Sp := fun vs H Q _ => ∃ pa : Addr, vs = [.ref pa] ∧ H pa = some (.tup [.int 0]) ∧ Q (.int 1) H
theorem sc_depth_at : FnScope ["path"] ["path"] (defScope (top 24)) := ⟨rfl, rfl, rfl, by decide +kernel, rfl, by decide +kernel, by decide +kernel⟩
theorem ok_dep (T : Tx w K mg) (F : FnP K "depth_at" "depth_at" (top 24) f fd) : FnOk P w K mg base CX0 1 f fd ["path"] spDep := by
  refine F.ok sc_depth_at (fun vs H Q E h => ?_) (fun cdv A outer s H vs Q E hr h => ⟨_, PSs.nox (pss_one (ps_ret (pe_op op_fdivW (pe_op op_add (pe_callB call_len_seq (by rfl) T.n_len (by decide +kernel) (pa_cons (pv 0) pa_nil)) pe_int) pe_int))), ?_⟩)
  · obtain ⟨pa, rfl, _⟩ := h
    rfl
  · obtain ⟨pa, rfl, hpa, q⟩ := h
    exact ⟨_, rfl, pa, _, rfl, .inr (SqT.of hpa), _, _, rfl, rfl, _, _, rfl, rfl, wide_div (b := 64) (by decide) (by decide) (by decide) (by decide), q⟩
theorem same_at {H H2 : Hp} {W : Addr} {o o2 : HO} (s : Same H H2) (hW : H2 W = none) : Same H (upd (upd H2 W o) W o2) := fun b x e => by
  have n : b ≠ W := ne_of_none (s b x e) hW
  rw [upd_ne n, upd_ne n]
  exact s b x e
theorem Same.put {H H2 : Hp} {W : Addr} {o : HO} (s : Same H H2) (hW : H W = none) : Same H (upd H2 W o) := fun b x e => by
  rw [upd_ne (ne_of_none e hW)]
  exact s b x e
theorem Same.free {H H2 : Hp} {W : Addr} (s : Same H H2) (hW : H2 W = none) : H W = none := by
  cases e : H W with
  | none => rfl
  | some o => rw [s _ _ e] at hW; cases hW
def spFirst : Sp := fun vs H Q _ => ∃ (l t : Addr) (v : V) (d : PyData), vs = [.ref l] ∧ H l = some (.lst [.ref t]) ∧ H t = some (.tup [.str "out", v]) ∧ Tr H v d ∧
  ∀ x H', Same H H' → (decide (x = V.non) = withinB 6 d) → Q x H'
theorem not_list {d : PyData} (h : withinB 6 d = true) : dL d = false := by
  cases d <;> first | rfl | cases h
theorem sc_first_problem : FnScope ["value", "count", "waiting", "path", "instruction"] ["value"] (defScope (top 25)) := ⟨rfl, rfl, rfl, by decide +kernel, rfl, by decide +kernel, by decide +kernel⟩
theorem ok_first (T : Tx w K mg) (D_placed : Df P w K mg base 1 "placed" ["body", "path"] spPlaced) (D_placed_in : Df P w K mg base 2 "placed_in" ["instruction", "path"] spPlacedIn) (D_depth_at : Df P w K mg base 1 "depth_at" ["path"] spDep) (D_is_instruction : Df P w K mg base 12 "is_instruction" ["value"] spIns)
    (F : FnP K "first_problem" "first_problem" (top 25) f fd) : FnOk P w K mg base CX0 13 f fd ["value"] spFirst := by
  obtain ⟨ti, hGI⟩ := T.gI
  obtain ⟨td, hGD⟩ := T.gD
  refine F.ok sc_first_problem (fun vs H Q E h => ?_) (fun cdv A outer s H vs Q E hr h => ⟨_, PSs.nox (pss_cons (ps_if (pt_not (pt_val (pe_callB call_isi (by rfl) T.n_isinstance (by decide +kernel) (pa_cons (pv 0) (pa_cons (pe_bltn (v := .ty "list") (by rfl) T.n_list (by decide +kernel) rfl) pa_nil))))) (pss_one (ps_ret (pe_tup pa_nil))) pss_nil) (pss_cons (ps_set (i := 1) sc_first_problem.nd rfl (by first | exact Or.inl rfl | exact Or.inr rfl) pe_int) (pss_cons (ps_set (i := 2) sc_first_problem.nd rfl (by first | exact Or.inl rfl | exact Or.inr rfl) (pe_revL (pcall D_placed hr (pa_cons (pv 0) (pa_cons (pe_tup pa_nil) pa_nil)) (by omega)))) (pss_cons (ps_while PassesOwn.never (pt_truth (pv 2) (by intros; rfl)) (pss_cons (ps_asg (pe_bm0 PySem.F.plainAttrs_list PySem.F.slot_list_pop PySem.F.type_list_pop mt_pop (pv 2)) (pg_tup (by rfl) (pgs_cons (pg_name (i := 3) sc_first_problem.nd rfl (by first | exact Or.inl rfl | exact Or.inr rfl)) (pgs_cons (pg_name (i := 4) sc_first_problem.nd rfl (by first | exact Or.inl rfl | exact Or.inr rfl)) pgs_nil)))) (pss_cons (ps_aug (i := 1) sc_first_problem.nd rfl (by first | exact Or.inl rfl | exact Or.inr rfl) pe_int ip_add) (pss_cons (ps_if (PW.pt (pw_or (pt_cmpR op_gt (pv 1) (pe_glob (v := .int 200) rfl hGI ⟨_, rfl⟩) (nomark _)) (pw_or (pt_cmpR op_gt (pcall D_depth_at hr (pa_cons (pv 3) pa_nil)) (pe_glob (v := .int 6) rfl hGD ⟨_, rfl⟩) (nomark _)) (pw_or1 (pt_not (pt_val (pcall D_is_instruction hr (pa_cons (pv 4) pa_nil)))))))) (pss_one (ps_ret (pv 3))) pss_nil) (pss_one (ps_aug (i := 2) sc_first_problem.nd rfl (by first | exact Or.inl rfl | exact Or.inr rfl) (pe_revL (pcall D_placed_in hr (pa_cons (pv 4) (pa_cons (pv 3) pa_nil)) (by omega))) iop_ext)))))) (pss_one (ps_ret pe_non)))))), ?_⟩)
  · obtain ⟨l, t, v, d, rfl, _⟩ := h
    rfl
  · obtain ⟨l, t, v, d, rfl, hl, ht, hv, q⟩ := h
    have ty : TyX K H (.ref l) (.type "list") := .base (.lst hl)
    refine ⟨_, rfl, _, _, _, _, _, rfl, .ty "list", ty, kit_ty (show kitB "list" "list" = some true by decide +kernel), _, rfl, iteF ?_⟩
    refine ⟨_, rfl, (by show 0 ≤ sizeLine; decide), fun p hp => ?_⟩
    have s1 := same_upd (o := .tup []) hp
    refine ⟨l, p, t, rfl, s1 _ _ hl, upd_same, fun R pr pa H2 s2 hR hpr hpa => ?_⟩
    refine ⟨R, [.ref pr], rfl, SqL.of hR, fun W hW => ?_⟩
    have s3 := same_upd (o := .lst [.ref pr]) hW
    have S3 := s1.trans (s2.trans s3)
    refine ⟨fun m σ G => ∃ a b, (m = 1 ∧ σ = [some (.ref l), some (.int 0), some (.ref W), a, b] ∧ G = upd H2 W (.lst [.ref pr])) ∨ (m = 0 ∧ withinB 6 d = true ∧ (∃ c, σ = [some (.ref l), c, some (.ref W), a, b]) ∧ Same H G ∧ G W = some (.lst [])), ⟨1, none, none, .inl ⟨rfl, rfl, rfl⟩⟩, ?_⟩
    rintro m σ G ⟨a, b, ⟨rfl, rfl, rfl⟩ | ⟨rfl, wd, ⟨c, rfl⟩, sm, hW2⟩⟩
    · refine ⟨_, rfl, true, .inl ⟨_, SqL.of upd_same, rfl⟩, iteT ?_⟩
      refine ⟨fun σ' G' => ∃ a b, withinB 6 d = true ∧ (∃ c, σ' = [some (.ref l), c, some (.ref W), a, b]) ∧ Same H G' ∧ G' W = some (.lst []), fun σ' G' ⟨a, b, x⟩ => ⟨0, by decide, a, b, .inr ⟨rfl, x⟩⟩, ?_⟩
      have S4 : Same H2 (upd (upd H2 W (.lst [.ref pr])) W (.lst [])) := same_at (Same.refl _) hW
      have hWw : (upd (upd H2 W (.lst [.ref pr])) W (.lst [])) W = some (.lst []) := upd_same
      have HW : H W = none := Same.free (s1.trans s2) hW
      refine ⟨_, rfl, .inl ⟨rfl, _, SqL.of upd_same⟩, W, [.ref pr], .ref pr, rfl, rfl, upd_same, rfl, ?_⟩
      show gTup K _ _ _ _ (upd (upd H2 W (.lst [.ref pr])) W (.lst [])) _
      generalize (upd (upd H2 W (.lst [.ref pr])) W (.lst [])) = G1 at *
      have SG := s1.trans (s2.trans S4)
      refine ⟨pr, _, rfl, .inl (.inl (S4 _ _ hpr)), rfl, _, _, rfl, _, _, rfl, rfl, ?_⟩
      refine ⟨_, rfl, _, _, rfl, rfl, ?_⟩
      refine ⟨_, rfl, _, _, rfl, rfl, _, rfl, ifF (decide_eq_false (by decide)) ?_⟩
      refine ⟨_, rfl, pa, rfl, S4 _ _ hpa, _, _, rfl, rfl, _, rfl, ifF (decide_eq_false (by decide)) ?_⟩
      refine ⟨_, rfl, t, v, d, rfl, SG _ _ ht, hv.same SG, fun G2 s5 => ⟨_, rfl, ?_⟩⟩
      have SG2 := SG.trans s5
      by_cases wd : withinB 6 d = true
      case neg =>
        have wf := eq_false_of_ne_true wd
        rw [wf]
        refine iteT ⟨_, rfl, q _ _ SG2 ?_⟩
        rw [wf]
        rfl
      case pos =>
        refine ifF (by rw [wd]; rfl) ⟨_, rfl, _, rfl, _, rfl, t, pa, v, d, rfl, SG2 _ _ ht, hv.same SG2, not_list wd, fun R2 G3 s6 hR2 nR2 => ⟨R2, [], rfl, SqL.of hR2, fun W2 hW2 => ?_⟩⟩
        have s7 := same_upd (o := .lst ([] : List V).reverse) hW2
        have S7 := SG2.trans (s6.trans s7)
        refine ⟨W, W2, [], [], rfl, rfl, s7 _ _ (s6 _ _ (s5 _ _ hWw)), upd_same, (by decide), ?_⟩
        exact ⟨_, _, wd, ⟨_, rfl⟩, Same.put S7 HW, upd_same⟩
    · refine ⟨_, rfl, false, .inl ⟨_, SqL.of hW2, rfl⟩, iteF ?_⟩
      refine q _ _ sm ?_
      rw [wd]
      rfl
def spProg : Sp := fun vs H Q _ => ∃ (l t : Addr) (v : V) (d : PyData), vs = [.ref l] ∧ H l = some (.lst [.ref t]) ∧ H t = some (.tup [.str "out", v]) ∧ Tr H v d ∧ ∀ H', Same H H' → Q (.bl (withinB 6 d)) H'
theorem sc_is_program : FnScope ["value"] ["value"] (defScope (top 26)) := ⟨rfl, rfl, rfl, by decide +kernel, rfl, by decide +kernel, by decide +kernel⟩
theorem ok_prog (T : Tx w K mg) (D_first_problem : Df P w K mg base 13 "first_problem" ["value"] spFirst) (F : FnP K "is_program" "is_program" (top 26) f fd) : FnOk P w K mg base CX0 14 f fd ["value"] spProg := by
  refine F.ok sc_is_program (fun vs H Q E h => ?_) (fun cdv A outer s H vs Q E hr h => ⟨_, PSs.nox (pss_one (ps_ret (pe_cmpR op_isN (pcall D_first_problem hr (pa_cons (pv 0) pa_nil)) pe_non (nomark _)))), ?_⟩)
  · obtain ⟨l, t, v, d, rfl, _⟩ := h
    rfl
  · obtain ⟨l, t, v, d, rfl, hl, ht, hv, q⟩ := h
    refine ⟨_, rfl, l, t, v, d, rfl, hl, ht, hv, fun x H1 s1 e => ⟨rfl, ?_⟩⟩
    rw [e]
    exact q H1 s1
end
end K83

set_option Elab.async false
set_option linter.all false
set_option maxRecDepth 100000
set_option maxHeartbeats 4000000
set_option pp.maxSteps 900
namespace K83
open PySem PySem.Spec PyProof.Rows L2 Gu Ex RZ
def not3 : PyData → Bool
  | .tuple [_, _, _] => false
  | _ => true
/-- nested 3-tuples over small values -/
def B : Nat → PyData → Prop
  | 0, d => not3 d = true ∧ d.showable = true ∧ d.depth ≤ 2 ∧ d.shown.length ≤ 100
  | k + 1, d => B k d ∨ ∃ a b c, d = .tuple [a, b, c] ∧ B k a ∧ B k b ∧ B k c
theorem B.up {k : Nat} {d : PyData} (h : B k d) : B (k + 1) d := .inl h
theorem B.mono {k m : Nat} {d : PyData} (h : B k d) (l : k ≤ m) : B m d := by
  induction l with
  | refl => exact h
  | step _ ih => exact B.up ih
theorem B_tup {a b c : PyData} : ∀ {k : Nat}, B k (.tuple [a, b, c]) → ∃ j, k = j + 1 ∧ B j a ∧ B j b ∧ B j c
  | 0, h => by
    obtain ⟨z, _⟩ := h
    cases z
  | k + 1, h => by
    rcases h with h | ⟨a', b', c', e, h1, h2, h3⟩
    · obtain ⟨j, rfl, h1, h2, h3⟩ := B_tup h
      exact ⟨j + 1, rfl, h1.up, h2.up, h3.up⟩
    · cases e
      exact ⟨k, rfl, h1, h2, h3⟩
/-- the depth that the law reckons -/
def DpOk (d : PyData) (r : Int) : Prop := 1 ≤ r ∧ r ≤ 100 ∧ ∀ k : Nat, k ≤ 99 → (r ≤ (k : Int) ↔ withinB k d = true)
theorem dp_bad {d : PyData} (h : ∀ k, withinB k d = false) : DpOk d 100 := by
  refine ⟨by decide, by decide, fun k hk => ?_⟩
  rw [h k]
  constructor
  · intro z
    omega
  · intro z
    cases z
theorem dp_one {d : PyData} (h : ∀ k, withinB (k + 1) d = true) : DpOk d 1 := by
  refine ⟨by decide, by decide, fun k hk => ?_⟩
  cases k with
  | zero => exact ⟨fun z => by omega, fun z => by cases z⟩
  | succ k => exact ⟨fun _ => h k, fun _ => by omega⟩
theorem dp_tup {w : Str} {a b : PyData} {r1 r2 : Int} (hw : w ∈ ops) (h1 : DpOk a r1) (h2 : DpOk b r2) :
    DpOk (.tuple [.str w, a, b]) (if 1 + (if r2 > r1 then r2 else r1) < 100 then 1 + (if r2 > r1 then r2 else r1) else 100) := by
  obtain ⟨a1, a2, a3⟩ := h1
  obtain ⟨b1, b2, b3⟩ := h2
  refine ⟨by split <;> split <;> omega, by split <;> split <;> omega, fun k hk => ?_⟩
  cases k with
  | zero => exact ⟨fun z => by exfalso; revert z; split <;> split <;> omega, fun z => by cases z⟩
  | succ k =>
    have e : withinB (k + 1) (.tuple [.str w, a, b]) = (decide (w ∈ ops) && (withinB k a && withinB k b)) := rfl
    rw [e, decide_eq_true hw, Bool.true_and, Bool.and_eq_true, ← a3 k (by omega), ← b3 k (by omega)]
    constructor
    · intro z
      revert z
      split <;> split <;> omega
    · rintro ⟨z1, z2⟩
      split <;> split <;> omega
theorem wi_bad {d : PyData} (h1 : nameD d = false) (h2 : dI d = false) (h3 : dT d = false) : ∀ k, withinB k d = false
  | 0 => rfl
  | k + 1 => by cases d <;> first | rfl | exact h1 | (cases h3; done) | (cases h2; done)
theorem wi_name {d : PyData} (h : nameD d = true) : ∀ k, withinB (k + 1) d = true := fun k => by cases d <;> first | exact h | cases h
theorem wi_none {ds : List PyData} (h : shape3 ds = none) : ∀ k, withinB k (.tuple ds) = false
  | 0 => rfl
  | k + 1 => by
    show (match shape3 ds with
      | some (w, a, b) => decide (w ∈ ops) && (withinB k a && withinB k b)
      | none => false) = false
    rw [h]
theorem wi_op {x : Str} {a b : PyData} (h : x ∉ ops) : ∀ k, withinB k (.tuple [.str x, a, b]) = false
  | 0 => rfl
  | k + 1 => by
    show (decide (x ∈ ops) && (withinB k a && withinB k b)) = false
    rw [decide_eq_false h]
    rfl
section
variable {P : Program} {w : World} {K : PySem.W.Frag} {mg : Str → Option Value} {base : Heap} {f : Addr} {fd : FuncData}
theorem sc__law_is_tag : FnScope ["_law_value", "_law_letters", "_law_sign"] ["_law_value"] (defScope (top 37)) := ⟨rfl, rfl, rfl, by decide +kernel, rfl, by decide +kernel, by decide +kernel⟩
theorem ok_tag (T : Tx w K mg) (F : FnP K "_law_is_tag" "_law_is_tag" (top 37) f fd) : FnOk P w K mg base CX0 1 f fd ["_law_value"] spName := by
  refine F.ok sc__law_is_tag (fun vs H Q E h => ?_) (fun cdv A outer s H vs Q E hr h => ⟨_, PSs.nox (pss_cons (ps_set (i := 1) sc__law_is_tag.nd rfl (by first | exact Or.inl rfl | exact Or.inr rfl) pe_str) (pss_one (ps_ret (pe_and (pe_callB call_isi (by rfl) T.n_isinstance (by decide +kernel) (pa_cons (pv 0) (pa_cons (pe_bltn (v := .ty "str") (by rfl) T.n_str (by decide +kernel) rfl) pa_nil))) (pe_and (pe_chain op_lt op_lt pe_int (pe_callB call_len_str (by rfl) T.n_len (by decide +kernel) (pa_cons (pv 0) pa_nil)) pe_int) (pe_one (pe_callB (cr_all rfl) (by rfl) T.n_all (by decide +kernel) (pa_cons (pe_lc (own := [("_law_sign", 2)]) (g := gName 2) rfl sc__law_is_tag.nd (pi_str (pv 0)) (blkOk_by (own := [("_law_sign", 2)]) (N := ["_law_value", "_law_letters", "_law_sign"]) (sc := defScope (top 37)) (by decide +kernel)) (fun _ _ _ _ _ => pg_name (i := 2) sc__law_is_tag.nd rfl (Or.inl rfl)) (fun _ _ _ _ _ => pts_nil) (fun _ _ _ _ _ => (pe_cmpR op_in_sign (pv 2) (pv 1) (by rfl)))) pa_nil)))))))), ?_⟩)
  · obtain ⟨v, d, rfl, _⟩ := h
    rfl
  · obtain ⟨v, d, rfl, hv, q⟩ := h
    obtain ⟨Ty, ty, _, _, k3, _⟩ := hv.ty (K := K)
    have sr : Same H H := fun _ _ e => e
    refine ⟨_, rfl, _, _, _, _, _, rfl, .ty "str", ty, kit_ty k3, _, rfl, ?_⟩
    cases hv with
    | str x hl =>
      have hz : x.length ≤ sizeLine := Nat.le_trans hl.1 (by decide)
      have hl1 := hl.1
      refine iteT ⟨_, rfl, x, rfl, hz, _, _, rfl, rfl, _, rfl, ?_⟩
      by_cases h1 : (0 : Int) < (x.length : Int)
      · refine ifT (decide_eq_true h1) ⟨_, _, rfl, rfl, _, rfl, ?_⟩
        by_cases h2 : (x.length : Int) < 9
        · refine ifT (decide_eq_true h2) ?_
          refine ⟨_, rfl, x, rfl, fun D hD => ?_⟩
          refine lc_text (fun i H' => H' D = some (.lst (((x.cps.toList.take i).map fun c => decide (c ∈ letters.cps.toList)).map V.bl)) ∧ Same H H') ⟨upd_same, same_upd hD⟩ ?_ ?_
          · rintro i c H' hc ⟨hD', sm⟩
            have hi : i < x.cps.toList.length := (List.getElem?_eq_some_iff.mp hc).1
            refine ⟨rfl, _, rfl, _, rfl, c, letters, rfl, rfl, _, hD', small1000 ?_, ?_, fun b o e => ?_⟩
            · rw [List.length_map, List.length_map, List.length_take]
              have : x.cps.toList.length = x.length := Array.length_toList ..
              omega
            · rw [upd_same, List.take_add_one, hc, List.map_append, List.map_append]
              rfl
            · rw [upd_ne (ne_of_none e hD)]
              exact sm b o e
          · rintro H' ⟨hD', sm⟩
            rw [List.take_length] at hD'
            refine ⟨D, _, rfl, SqL.of hD', ?_⟩
            have e : (List.map (fun c => decide (c ∈ letters.cps.toList)) x.cps.toList).all id = nameD (.str x) := by
              show _ = (decide (1 ≤ x.length ∧ x.length ≤ 8) && x.cps.toList.all fun c => decide (c ∈ letters.cps.toList))
              rw [decide_eq_true ⟨by omega, by omega⟩, Bool.true_and, List.all_map]
              rfl
            rw [e]
            exact q H' sm
        · have e : nameD (.str x) = false := by
            show (decide (1 ≤ x.length ∧ x.length ≤ 8) && _) = false
            rw [decide_eq_false fun z => h2 (by omega), Bool.false_and]
          rw [e] at q
          exact ifF (decide_eq_false h2) (q H sr)
      · have e : nameD (.str x) = false := by
          show (decide (1 ≤ x.length ∧ x.length ≤ 8) && _) = false
          rw [decide_eq_false fun z => h1 (by omega), Bool.false_and]
        rw [e] at q
        exact ifF (decide_eq_false h1) ⟨_, rfl, iteF (q H sr)⟩
    | _ => exact iteF (q H sr)
def spDp (n : Nat) : Sp := fun vs H Q _ => ∃ (k : Nat) (v : V) (d : PyData), k < n ∧ vs = [v] ∧ Tr H v d ∧ B k d ∧ ∀ r H', DpOk d r → Same H H' → Q (.int r) H'
theorem sc__law_depth : FnScope ["_law_value"] ["_law_value"] (defScope (top 38)) := ⟨rfl, rfl, rfl, by decide +kernel, rfl, by decide +kernel, by decide +kernel⟩
theorem ok_dp0 (F : FnP K "_law_depth" "_law_depth" (top 38) f fd) : FnOk P w K mg base CX0 2 f fd ["_law_value"] (spDp 0) :=
  F.ok sc__law_depth (fun vs H Q E h => by obtain ⟨m, _, _, h, _⟩ := h; exact absurd h (Nat.not_lt_zero m)) (fun cdv A outer s H vs Q E hr h => by obtain ⟨m, _, _, h, _⟩ := h; exact absurd h (Nat.not_lt_zero m))
theorem ok_dp {n : Nat} (T : Tx w K mg) (D__law_is_tag : Df P w K mg base 1 "_law_is_tag" ["_law_value"] spName) (D__law_depth : Df P w K mg base (n + 2) "_law_depth" ["_law_value"] (spDp n))
    (F : FnP K "_law_depth" "_law_depth" (top 38) f fd) : FnOk P w K mg base CX0 (n + 3) f fd ["_law_value"] (spDp (n + 1)) := by
  refine F.ok sc__law_depth (fun vs H Q E h => ?_) (fun cdv A outer s H vs Q E hr h => ⟨_, PSs.nox (pss_cons (ps_if (pt_val (pcall D__law_is_tag hr (pa_cons (pv 0) pa_nil) (by omega))) (pss_one (ps_ret pe_int)) pss_nil) (pss_cons (ps_if (PW.pt (pw_and (pt_val (pe_callB call_isi (by rfl) T.n_isinstance (by decide +kernel) (pa_cons (pv 0) (pa_cons (pe_bltn (v := .ty "int") (by rfl) T.n_int (by decide +kernel) rfl) pa_nil)))) (pw_and1 (pt_not (pt_val (pe_callB call_isi (by rfl) T.n_isinstance (by decide +kernel) (pa_cons (pv 0) (pa_cons (pe_bltn (v := .ty "bool") (by rfl) T.n_bool (by decide +kernel) rfl) pa_nil)))))))) (pss_one (ps_ret (pe_ifExp (pt_chain op_le op_le (pe_un un_neg (pe_op op_pow pe_int pe_int)) (pv 0) (pe_op op_pow pe_int pe_int)) pe_int pe_int))) pss_nil) (pss_cons (ps_if (PW.pt (pw_or (pt_not (pt_val (pe_callB call_isi (by rfl) T.n_isinstance (by decide +kernel) (pa_cons (pv 0) (pa_cons (pe_bltn (v := .ty "tuple") (by rfl) T.n_tuple (by decide +kernel) rfl) pa_nil))))) (pw_or (pt_cmpR op_ne (pe_callB call_len_seq (by rfl) T.n_len (by decide +kernel) (pa_cons (pv 0) pa_nil)) pe_int (nomark _)) (pw_or1 (pt_not (pt_val (pe_callB call_isi (by rfl) T.n_isinstance (by decide +kernel) (pa_cons (pe_ix ix_tup (pv 0) pe_int (fun _ _ => rfl)) (pa_cons (pe_bltn (v := .ty "str") (by rfl) T.n_str (by decide +kernel) rfl) pa_nil))))))))) (pss_one (ps_ret pe_int)) pss_nil) (pss_cons (ps_if (pt_cmpR (r := rIn K true) op_notIn_seq (pe_ix ix_tup (pv 0) pe_int (fun _ _ => rfl)) (pe_tup (pa_cons pe_str (pa_cons pe_str (pa_cons pe_str (pa_cons pe_str pa_nil))))) rfl) (pss_one (ps_ret pe_int)) pss_nil) (pss_one (ps_ret (pe_callB (call_min2 rfl) (by rfl) T.n_min (by decide +kernel) (pa_cons pe_int (pa_cons (pe_op op_add pe_int (pe_callB (call_max2 rfl) (by rfl) T.n_max (by decide +kernel) (pa_cons (pcall D__law_depth hr (pa_cons (pe_ix ix_tup (pv 0) pe_int (fun _ _ => rfl)) pa_nil) (by omega)) (pa_cons (pcall D__law_depth hr (pa_cons (pe_ix ix_tup (pv 0) pe_int (fun _ _ => rfl)) pa_nil) (by omega)) pa_nil)))) pa_nil))))))))), ?_⟩)
  · obtain ⟨m, v, d, _, rfl, _⟩ := h
    rfl
  · obtain ⟨m, v, d, mn, rfl, hv0, hb, q⟩ := h
    refine ⟨_, rfl, v, d, rfl, hv0, fun H1 s1 => ⟨_, rfl, ?_⟩⟩
    have hv := hv0.same s1
    obtain ⟨Ty, ty, k1, k2, k3, k4, k5⟩ := hv.ty (K := K)
    cases hn : nameD d with
    | true => exact iteT (q 1 H1 (dp_one (wi_name hn)) s1)
    | false =>
      refine iteF ⟨_, rfl, _, _, _, _, _, rfl, .ty "int", ty, kit_ty k1, _, rfl, ?_⟩
      cases hv with
      | int i =>
        refine iteT ⟨_, rfl, _, _, _, _, _, rfl, .ty "bool", ty, kit_ty k2, _, rfl, iteT ?_⟩
        refine ⟨_, _, rfl, rfl, ⟨by decide, by decide, by decide⟩, _, rfl, _, rfl, _, _, rfl, rfl, _, rfl, ?_⟩
        have p12 : (10 : Int) ^ Int.toNat 12 = 1000000000000 := by decide
        by_cases h1 : -(10 : Int) ^ Int.toNat 12 ≤ i
        · refine ifT (decide_eq_true h1) ⟨_, _, rfl, rfl, ⟨by decide, by decide, by decide⟩, _, _, rfl, rfl, _, rfl, ?_⟩
          by_cases h2 : i ≤ (10 : Int) ^ Int.toNat 12
          · exact ifT (decide_eq_true h2) (q 1 H1 (dp_one fun k => decide_eq_true (by omega)) s1)
          · refine ifF (decide_eq_false h2) (q 100 H1 (dp_bad fun k => ?_) s1)
            cases k with
            | zero => rfl
            | succ k => exact decide_eq_false (by omega)
        · refine ifF (decide_eq_false h1) ⟨_, rfl, iteF (q 100 H1 (dp_bad fun k => ?_) s1)⟩
          cases k with
          | zero => rfl
          | succ k => exact decide_eq_false (by omega)
      | bl b =>
        refine iteT ⟨_, rfl, _, _, _, _, _, rfl, .ty "bool", ty, kit_ty k2, _, rfl, iteF ?_⟩
        exact ⟨_, rfl, _, _, _, _, _, rfl, .ty "tuple", ty, kit_ty k4, _, rfl, iteT (q 100 H1 (dp_bad (wi_bad rfl rfl rfl)) s1)⟩
      | @tup t xs ds e h =>
        have xl := h.len
        refine iteF ⟨_, rfl, _, _, _, _, _, rfl, .ty "tuple", ty, kit_ty k4, _, rfl, iteF ?_⟩
        refine ⟨_, rfl, t, _, rfl, .inr (SqT.of e), rfl, _, rfl, ?_⟩
        by_cases h3 : ds.length = 3
        case neg =>
          have e3 : shape3 ds = none := by
            unfold shape3
            split
            · rename_i z
              exact absurd rfl h3
            · rfl
          exact ifT (by rw [vF (by omega)]; rfl) (q 100 H1 (dp_bad (wi_none e3)) s1)
        case pos =>
          obtain ⟨d0, d1, d2, rfl⟩ : ∃ d0 d1 d2, ds = [d0, d1, d2] := by
            match ds, h3 with
            | [d0, d1, d2], _ => exact ⟨d0, d1, d2, rfl⟩
          obtain ⟨j, rfl, b0, b1, b2⟩ := B_tup hb
          cases h with
          | cons a0 h =>
            cases h with
            | cons a1 h =>
              cases h with
              | @cons v2 vs2 _ _ a2 h =>
                cases h with
                | nil =>
                  rename_i v0 v1
                  refine ifF (by rw [decide_eq_true (show V.int (([v0, v1, v2].length : Nat) : Int) = V.int 3 from rfl)]; rfl) ?_
                  obtain ⟨Ty0, ty0, _, _, s0, _, _⟩ := a0.ty (K := K)
                  refine ⟨_, rfl, t, _, _, _, rfl, rfl, .inl (.inl e), rfl, _, _, _, _, _, rfl, .ty "str", ty0, kit_ty s0, _, rfl, ?_⟩
                  cases a0 with
                  | str x hx =>
                    refine iteF ⟨_, rfl, t, _, _, _, rfl, rfl, .inl (.inl e), rfl, (by show 4 ≤ sizeLine; decide), fun p hp => ?_⟩
                    have s2 := same_upd (o := .tup [.str "add", .str "sub", .str "less", .str "equal"]) hp
                    refine ⟨_, ops.map V.str, rfl, .inr (SqT.of upd_same), rfl, flat_strs ops, _, rfl, ?_⟩
                    by_cases ho : x ∈ ops
                    · refine ifF (by show (!inV (.str x) _) = false; rw [inV_strs, decide_eq_true ho]; rfl) ?_
                      have e2 := s2 _ _ e
                      refine ⟨_, rfl, t, _, _, _, rfl, rfl, .inl (.inl e2), rfl, j, _, d1, by omega, rfl, a1.same s2, b1, fun r1 H2 o1 s3 => ?_⟩
                      refine ⟨_, rfl, t, _, _, _, rfl, rfl, .inl (.inl (s3 _ _ e2)), rfl, j, _, d2, by omega, rfl, a2.same (s2.trans s3), b2, fun r2 H3 o2 s4 => ?_⟩
                      exact ⟨_, _, rfl, _, _, rfl, rfl, _, _, rfl, q _ H3 (dp_tup ho o1 o2) (s1.trans (s2.trans (s3.trans s4)))⟩
                    · exact ifT (by show (!inV (.str x) _) = true; rw [inV_strs, decide_eq_false ho]; rfl) (q 100 _ (dp_bad (wi_op ho)) (s1.trans s2))
                  | _ => exact iteT (q 100 H1 (dp_bad (wi_none rfl)) s1)
      | _ =>
        refine iteF ⟨_, rfl, _, _, _, _, _, rfl, .ty "tuple", ty, kit_ty k4, _, rfl, iteT (q 100 H1 (dp_bad (wi_bad hn rfl rfl)) s1)⟩
end
end K83

set_option Elab.async false
set_option linter.all false
set_option maxRecDepth 100000
set_option maxHeartbeats 4000000
set_option pp.maxSteps 900
namespace K83
open PySem PySem.Spec PyProof.Rows L2 Gu Ex RZ
section
variable {X : Cx} {k j : Nat} {x : Str} {ps : List Str} {sp : Sp} {p pos : Pos} {e : Expr} {es : List Expr} {t : TA} {W : WX}
/-- f(e, ..) in a try's body -/
theorem pcallT (D : DfX X.prog X.w X.K X.mg X.base k x ps sp) (hr : Room j X.A) (tk : Takes X W) (ha : PA X (e :: es) t) (hj : k ≤ j := by decide) (hg : Gl X x := by rfl) (hdb : (x == ("__debug__" : Str)) = false := by decide)
    (he : starEach (e :: es) X.env = (false, eval e X.env) :: starEach es X.env := by rfl) (hpl : (backTo pos (starEach es X.env)).any (·.1) = false := by rfl) :
    PE X (.Call (.Name x p) (e :: es) [] pos) (tCallS sp (WE W) t) := by
  obtain ⟨fd, F, b⟩ := D.ex
  exact pe_callS F (hr.mono hj) hg D.gl D.kp b (fun σ => passAt tk σ) ha hdb he hpl
end
theorem c_less {x y : Int} : calcI "less" x y = if decide (x < y) = true then 1 else 0 := by
  unfold calcI
  rw [if_neg (by decide), if_neg (by decide), if_pos rfl]
  by_cases h : x < y <;> simp [h]
theorem c_eq {x y : Int} : calcI "equal" x y = if decide (V.int x = V.int y) = true then 1 else 0 := by
  unfold calcI
  rw [if_neg (by decide), if_neg (by decide), if_neg (by decide)]
  by_cases h : x = y
  · rw [if_pos h, if_pos (vT h)]
  · rw [if_neg h, vF h]
    rfl
theorem c_sub {x y : Int} : calcI "sub" x y = x - y := by
  unfold calcI
  rw [if_neg (by decide), if_pos rfl]
def t_told (K : PySem.W.Frag) (a : Addr) (cls : Value) (d : Option Addr) : TS :=
  tAsg (tLst (tCons (tC (.str "invalid")) (tCons (tXf a cls d (cV K) "value" (tVar 3)) (tCons (tCB (rIsX K (cV K) a cls d) (tCons (tVar 3) (tCons (tC (.ref (He.ga K "RoomError"))) tNil)))
    (tCons (tCB (rIsXT K (cV K) a cls d) (tCons (tVar 3) (tCons (tTup (tCons (tC (.ref (He.ga K "InvalidName"))) (tCons (tC (.ref (He.ga K "InvalidNumber"))) tNil))) tNil))) tNil))))) (gName 2)
section
variable {P : Program} {w : World} {K : PySem.W.Frag} {mg : Str → Option Value} {base : Heap} {f : Addr} {fd : FuncData}
def spWo (n : Nat) : Sp := fun vs H Q _ => ∃ (k : Nat) (v : V) (d : PyData) (p : Addr) (env : Env1), k < n ∧ vs = [v, .ref p] ∧ Tr H v d ∧ H p = some (.dK (env.map kvE)) ∧ withinB k d = true ∧ ∀ H', Same H H' → Q (.int (wor env k d)) H'
theorem sc__law_worth : FnScope ["_law_value", "_law_numbers", "_law_one", "_law_other"] ["_law_value", "_law_numbers"] (defScope (top 39)) := ⟨rfl, rfl, rfl, by decide +kernel, rfl, by decide +kernel, by decide +kernel⟩
theorem ok_wo0 (F : FnP K "_law_worth" "_law_worth" (top 39) f fd) : FnOk P w K mg base CX0 2 f fd ["_law_value", "_law_numbers"] (spWo 0) :=
  F.ok sc__law_worth (fun vs H Q E h => by obtain ⟨m, _, _, _, _, h, _⟩ := h; exact absurd h (Nat.not_lt_zero m)) (fun cdv A outer s H vs Q E hr h => by obtain ⟨m, _, _, _, _, h, _⟩ := h; exact absurd h (Nat.not_lt_zero m))
theorem ok_wo {n : Nat} (T : Tx w K mg) (D__law_worth : Df P w K mg base (n + 2) "_law_worth" ["_law_value", "_law_numbers"] (spWo n)) (F : FnP K "_law_worth" "_law_worth" (top 39) f fd) : FnOk P w K mg base CX0 (n + 3) f fd ["_law_value", "_law_numbers"] (spWo (n + 1)) := by
  refine F.ok sc__law_worth (fun vs H Q E h => ?_) (fun cdv A outer s H vs Q E hr h => ⟨_, PSs.nox (pss_cons (ps_if (pt_val (pe_callB call_isi (by rfl) T.n_isinstance (by decide +kernel) (pa_cons (pv 0) (pa_cons (pe_bltn (v := .ty "str") (by rfl) T.n_str (by decide +kernel) rfl) pa_nil)))) (pss_one (ps_ret (pe_dget2 (u1 hr) (pv 1) (pv 0) pe_int ⟨rfl, rfl, rfl, rfl⟩))) pss_nil) (pss_cons (ps_if (pt_val (pe_callB call_isi (by rfl) T.n_isinstance (by decide +kernel) (pa_cons (pv 0) (pa_cons (pe_bltn (v := .ty "int") (by rfl) T.n_int (by decide +kernel) rfl) pa_nil)))) (pss_one (ps_ret (pv 0))) pss_nil) (pss_cons (ps_par (by rfl) sc__law_worth.nd (i := 2) (j := 3) rfl rfl (by decide) rfl rfl (pa_cons (pcall D__law_worth hr (pa_cons (pe_ix ix_tup (pv 0) pe_int (fun _ _ => rfl)) (pa_cons (pv 1) pa_nil)) (by omega)) (pa_cons (pcall D__law_worth hr (pa_cons (pe_ix ix_tup (pv 0) pe_int (fun _ _ => rfl)) (pa_cons (pv 1) pa_nil)) (by omega)) pa_nil)) (by rfl)) (pss_cons (ps_if (pt_cmpR (r := rIn K false) op_in_seq (pe_ix ix_tup (pv 0) pe_int (fun _ _ => rfl)) (pe_tup (pa_cons pe_str (pa_cons pe_str pa_nil))) rfl) (pss_one (ps_ret (pe_callTy call_int1 (by rfl) T.n_int (by decide +kernel) (pa_cons (pe_ifExp (pt_cmpR op_eq (pe_ix ix_tup (pv 0) pe_int (fun _ _ => rfl)) pe_str (nomark _)) (pe_cmpR op_lt (pv 2) (pv 3) (nomark _)) (pe_cmpR op_eq (pv 2) (pv 3) (nomark _))) pa_nil)))) pss_nil) (pss_one (ps_ret (pe_ifExp (pt_cmpR op_eq (pe_ix ix_tup (pv 0) pe_int (fun _ _ => rfl)) pe_str (nomark _)) (pe_op op_add (pv 2) (pv 3)) (pe_op op_sub (pv 2) (pv 3))))))))), ?_⟩)
  · obtain ⟨k, v, d, p, env, _, rfl, _⟩ := h
    rfl
  · obtain ⟨k, v, d, p, env, kn, rfl, hv, hp, wi, q⟩ := h
    obtain ⟨Ty, ty, k1, k2, k3, k4, k5⟩ := hv.ty (K := K)
    refine ⟨_, rfl, _, _, _, _, _, rfl, .ty "str", ty, kit_ty k3, _, rfl, ?_⟩
    cases k with
    | zero => cases wi
    | succ k =>
    cases hv with
    | int i => exact iteF ⟨_, rfl, _, _, _, _, _, rfl, .ty "int", ty, kit_ty k1, _, rfl, iteT ⟨_, rfl, q H (Same.refl _)⟩⟩
    | str x hx =>
      refine iteT ⟨_, rfl, p, rfl, .inl ⟨_, .inl hp⟩, _, rfl, _, DGet.k (k := Sum.inr x) hp, ?_⟩
      rw [look_get]
      exact q H (Same.refl _)
    | @tup t xs ds e h =>
      refine iteF ⟨_, rfl, _, _, _, _, _, rfl, .ty "int", ty, kit_ty k1, _, rfl, iteF ?_⟩
      have wi' : (match shape3 ds with
        | some (w, a, b) => decide (w ∈ ops) && (withinB k a && withinB k b)
        | none => false) = true := wi
      obtain ⟨wd, d1, d2, rfl⟩ : ∃ wd d1 d2, ds = [.str wd, d1, d2] := by
        unfold shape3 at wi'
        split at wi'
        · rename_i h2
          split at h2
          · exact ⟨_, _, _, rfl⟩
          · cases h2
        · cases wi'
      have wi2 : (decide (wd ∈ ops) && (withinB k d1 && withinB k d2)) = true := wi'
      rw [Bool.and_eq_true, Bool.and_eq_true] at wi2
      obtain ⟨w0, w1, w2⟩ := wi2
      have hw := of_decide_eq_true w0
      have q2 : ∀ H', Same H H' → Q (.int (calcI wd (wor env k d1) (wor env k d2))) H' := q
      cases h with
      | cons a0 h =>
        cases h with
        | cons a1 h =>
          cases h with
          | @cons v2 vs2 _ _ a2 h =>
            cases h with
            | nil =>
              rename_i v0 v1
              cases a0 with
              | str _ hx =>
                refine ⟨_, rfl, t, _, _, _, rfl, rfl, .inl (.inl e), rfl, _, rfl, k, _, d1, p, env, by omega, rfl, a1, hp, w1, fun H1 s1 => ?_⟩
                refine ⟨_, rfl, t, _, _, _, rfl, rfl, .inl (.inl (s1 _ _ e)), rfl, _, rfl, k, _, d2, p, env, by omega, rfl, a2.same s1, s1 _ _ hp, w2, fun H2 s2 => ?_⟩
                have s12 := s1.trans s2
                generalize wor env k d1 = x1 at q2
                generalize wor env k d2 = x2 at q2
                refine ⟨_, _, rfl, ?_⟩
                refine ⟨_, rfl, t, _, _, _, rfl, rfl, .inl (.inl (s12 _ _ e)), rfl, (by show 2 ≤ sizeLine; decide), fun tp htp => ?_⟩
                have s3 := s12.trans (same_upd (o := .tup [.str "less", .str "equal"]) htp)
                refine ⟨_, ([("less" : Str), ("equal" : Str)]).map V.str, rfl, .inr (SqT.of upd_same), rfl, flat_strs [("less" : Str), ("equal" : Str)], _, rfl, ?_⟩
                have e3 := s3 _ _ e
                have hc : wd = "less" ∨ wd = "equal" ∨ wd = "add" ∨ wd = "sub" := by
                  simp only [ops, List.mem_cons, List.not_mem_nil, or_false] at hw
                  rcases hw with z | z | z | z
                  · exact .inr (.inr (.inl z))
                  · exact .inr (.inr (.inr z))
                  · exact .inl z
                  · exact .inr (.inl z)
                rcases hc with rfl | rfl | rfl | rfl
                · refine ifT (by decide +kernel) ?_
                  refine ⟨_, rfl, t, _, _, _, rfl, rfl, .inl (.inl e3), rfl, rfl, _, rfl, ifT (decide_eq_true rfl) ⟨_, rfl, _, rfl, _, _, rfl, rfl, .inr ⟨decide (x1 < x2), rfl, ?_⟩⟩⟩
                  rw [c_less] at q2
                  exact q2 _ s3
                · refine ifT (by decide +kernel) ?_
                  refine ⟨_, rfl, t, _, _, _, rfl, rfl, .inl (.inl e3), rfl, rfl, _, rfl, ifF (decide_eq_false (sv_ne (by decide))) ⟨_, rfl, _, rfl, rfl, .inr ⟨decide (V.int x1 = V.int x2), rfl, ?_⟩⟩⟩
                  rw [c_eq] at q2
                  exact q2 _ s3
                · refine ifF (by decide +kernel) ?_
                  refine ⟨_, rfl, t, _, _, _, rfl, rfl, .inl (.inl e3), rfl, rfl, _, rfl, ifT (decide_eq_true rfl) ⟨_, rfl, _, rfl, _, _, rfl, rfl, ?_⟩⟩
                  exact q2 _ s3
                · refine ifF (by decide +kernel) ?_
                  refine ⟨_, rfl, t, _, _, _, rfl, rfl, .inl (.inl e3), rfl, rfl, _, rfl, ifF (decide_eq_false (sv_ne (by decide))) ⟨_, rfl, _, rfl, _, _, rfl, rfl, ?_⟩⟩
                  rw [c_sub] at q2
                  exact q2 _ s3
    | _ => cases wi
def spTold : Sp := fun vs H Q _ => ∃ (v : V) (d : PyData) (p : Addr) (env : Env1), vs = [v, .ref p] ∧ Tr H v d ∧ H p = some (.dK (env.map kvE)) ∧
  (withinB 6 d = true → ∀ t H', Same H H' → H' t = some (.lst [.str "value", .int (wor env 6 d)]) → Q (.ref t) H') ∧
  (withinB 6 d = false → ∀ t H', Same H H' → H' t = some (.lst [.str "invalid", v, .bl true, .bl false]) → Q (.ref t) H')
theorem Same.free0 {H H2 : Hp} {W : Addr} (s : Same H H2) (hW : H2 W = none) : H W = none := Same.free s hW
theorem sc__law_told : FnScope ["_law_value", "_law_numbers", "_law_told_here", "e"] ["_law_value", "_law_numbers"] (defScope (top 40)) := ⟨rfl, rfl, rfl, by decide +kernel, rfl, by decide +kernel, by decide +kernel⟩
theorem ok_told (T : Tx w K mg) (D_value_of : DfX P w K mg base 11 "value_of" ["expression", "variables"] (spVal K)) (F : FnP K "_law_told" "_law_told" (top 40) f fd) :
    FnOk P w K mg base CX0 12 f fd ["_law_value", "_law_numbers"] spTold := by
  refine F.ok sc__law_told (fun vs H Q E h => ?_) (fun cdv A outer s H vs Q E hr h => ⟨_, PSs.nox (pss_cons (ps_set (i := 2) sc__law_told.nd rfl (Or.inl rfl) (pe_lst (pa_cons pe_str pa_nil)))
    (pss_cons (ps_try_as (i := 3) (tb := fun W => tAsg (tLst (tCons (tC (.str "value")) (tCons (tCallS (spVal K) (WE W) (tCons (tVar 0) (tCons (tVar 1) tNil))) tNil))) (gName 2)) (ts := t_told K) (Wout := fun _ _ _ _ => False)
        rfl rfl sc__law_told.nd rfl rfl ⟨rfl, by decide, Or.inl T.g_InvalidValue⟩ takes0
      (fun W pn xe tk _ => pss_one (ps_set (i := 2) sc__law_told.nd rfl (Or.inl rfl) (by exact (pe_lst (pa_cons pe_str (pa_cons (by exact (pcallT D_value_of hr tk (pa_cons (pv 0) (pa_cons (pv 1) pa_nil)))) pa_nil))))))
      (fun a oe cls d pn hz hf => pss_one (ps_set (i := 2) sc__law_told.nd rfl (Or.inl rfl) (by exact (pe_lst (pa_cons pe_str (pa_cons (by exact (pe_xf T.eV.xf T.eV.no hz hf (pv 3)))
        (pa_cons (by exact (pe_callB (r := rIsX K (cV K) a cls d) (id := "isinstance") (call_isX T.eV.ec hz hf) (by rfl) T.n_isinstance (by decide +kernel) (by exact (pa_cons (pv 3) (pa_cons (pe_glob (v := .ref _) rfl T.g_RoomError rfl) pa_nil)))))
        (pa_cons (by exact (pe_callB (r := rIsXT K (cV K) a cls d) (id := "isinstance") (call_isXT T.eV.ec hz hf) (by rfl) T.n_isinstance (by decide +kernel) (by exact (pa_cons (pv 3) (pa_cons (pe_tup (pa_cons (pe_glob (v := .ref _) rfl T.g_InvalidName rfl) (pa_cons (pe_glob (v := .ref _) rfl T.g_InvalidNumber rfl) pa_nil))) pa_nil))))) pa_nil))))))))
    ) (pss_one (ps_ret (pv 2))))), ?_⟩)
  · obtain ⟨v, d, p, env, rfl, _⟩ := h
    rfl
  · obtain ⟨v, d, p, env, rfl, hv, hp, q1, q2⟩ := h
    refine ⟨(by show 1 ≤ sizeLine; decide), fun b hb => ?_⟩
    have sb : Same H (upd H b (.lst [V.str "other"])) := same_upd hb
    refine ⟨_, rfl, _, rfl, v, d, p, env, rfl, hv.same sb, sb _ _ hp, fun wi H1 s1 => ?_, fun wi dx H1 hdx s1 hx => ?_⟩
    · exact ⟨(by show 2 ≤ sizeLine; decide), fun t ht => ⟨_, rfl, q1 wi t _ ((sb.trans s1).trans (same_upd ht)) upd_same⟩⟩
    · refine ⟨true, T.eV.em, fun _ a0 ha0 => ?_, fun zz => Bool.noConfusion zz⟩
      refine ⟨_, rfl, rfl, rfl, dx, _, v, rfl, hx, (by simp [List.lookup]), ?_⟩
      refine ⟨_, rfl, _, _, _, dx, _, rfl, rfl, rfl, .own _, hx, T.kR, ?_⟩
      refine ⟨_, rfl, (by show 2 ≤ sizeLine; decide), fun tp htp => ?_⟩
      have sm2 := same_upd (o := .tup [.ref (He.ga K "InvalidName"), .ref (He.ga K "InvalidNumber")]) htp
      refine ⟨tp, _, _, _, dx, _, rfl, rfl, rfl, upd_same, .cons (.own _) (.cons (.own _) .nil), sm2 _ _ hx, T.kX, (by show 4 ≤ sizeLine; decide), fun t ht => ?_⟩
      exact ⟨_, rfl, q2 wi t _ ((sb.trans s1).trans (sm2.trans (same_upd ht))) upd_same⟩
end
end K83

set_option Elab.async false
set_option linter.all false
set_option maxRecDepth 100000
set_option maxHeartbeats 4000000
set_option pp.maxSteps 900
namespace K83
open PySem PySem.Spec PyProof.Rows L2 Gu Ex RZ
/-- a short plain text -/
def Wd (n : Nat) (x : Str) : Prop := x.length ≤ n ∧ ∀ c ∈ x.cps.toList, c < 128
theorem Wd.mono {n m : Nat} {x : Str} (h : Wd n x) (l : n ≤ m) : Wd m x := ⟨Nat.le_trans h.1 l, h.2⟩
theorem wd_cut {n : Nat} {x : Str} (h : Wd n x) (lo hi : Option Int) : Wd n (cutS x lo hi) := by
  refine ⟨Nat.le_trans (cutS_length x lo hi) h.1, fun c hc => h.2 c ?_⟩
  have e : (cutS x lo hi).cps.toList = ((x.cps.toList.drop (HT.sIx x.length 0 lo)).take (HT.sIx x.length x.length hi - HT.sIx x.length 0 lo)) := rfl
  rw [e] at hc
  exact List.mem_of_mem_drop (List.mem_of_mem_take hc)
theorem wd_app {n m : Nat} {x y : Str} (h : Wd n x) (k : Wd m y) : Wd (n + m) (x ++ y) := by
  have e : (x ++ y).cps = x.cps ++ y.cps := rfl
  refine ⟨?_, fun c hc => ?_⟩
  · show (x ++ y).cps.size ≤ n + m
    rw [e, Array.size_append]
    have h1 : x.cps.size ≤ n := h.1
    have h2 : y.cps.size ≤ m := k.1
    omega
  · rw [e, Array.toList_append] at hc
    rcases List.mem_append.mp hc with z | z
    · exact h.2 c z
    · exact k.2 c z
theorem wd_one {c : Nat} (h : c < 128) : Wd 1 ⟨#[c]⟩ := ⟨Nat.le_refl _, fun d hd => by
  have e : d = c := by simpa using hd
  omega⟩
theorem join_flat : ∀ ls : List (List Nat), TL.joinL [] ls = ls.flatten
  | [] => rfl
  | [p] => by
    show p = p ++ [].flatten
    rw [List.flatten_nil, List.append_nil]
  | p :: q :: r => by
    show p ++ ([] ++ TL.joinL [] (q :: r)) = _
    rw [List.nil_append, join_flat (q :: r)]
    rfl
theorem wd_join : ∀ ys : List Str, (∀ y ∈ ys, Wd 1 y) → Wd ys.length (Txt.join Str.empty ys) := by
  intro ys h
  have e : (Txt.join Str.empty ys).cps.toList = (ys.map fun y => y.cps.toList).flatten := by
    rw [TL.join_eq]
    have z := TL.tl_join Str.empty ys
    exact z.trans (join_flat _)
  refine ⟨?_, fun c hc => ?_⟩
  · show (Txt.join Str.empty ys).cps.size ≤ ys.length
    rw [← Array.length_toList, e]
    clear e
    induction ys with
    | nil => exact Nat.le_refl _
    | cons y r ih =>
      have h1 := (h y (List.mem_cons_self ..)).1
      have h2 := ih fun z hz => h z (List.mem_cons_of_mem _ hz)
      have h3 : y.cps.toList.length = y.length := Array.length_toList ..
      rw [List.map_cons, List.flatten_cons, List.length_append, List.length_cons]
      omega
  · rw [e] at hc
    obtain ⟨l, hl, hcl⟩ := List.mem_flatten.mp hc
    obtain ⟨y, hy, rfl⟩ := List.mem_map.mp hl
    exact (h y hy).2 c hcl
theorem join2 {α β : Type} {G : Prop} (Pc : α → β → Prop) {R : α → β → Prop} (h1 : (∀ a b, Pc a b → R a b) → G) (h2 : ∀ a b, Pc a b → R a b) : G := h1 h2
def lt (k : Nat) : Str := ⟨#[97 + k]⟩
def cand (x : Str) (k : Nat) : Str := cutS x none (some 6) ++ lt (k / 26) ++ lt (k % 26)
theorem lt_at {k : Nat} (h : k < 26) : atI letters.cps.toList (k : Int) = some (97 + k) := by
  have z : ∀ k, k < 26 → letters.cps.toList[k]? = some (97 + k) := by decide +kernel
  exact atI_nat (z k h)
theorem cut6 (x : Str) : (cutS x none (some 6)).length ≤ 6 := by
  have e : (cutS x none (some 6)).cps.toList = ((x.cps.toList.drop (HT.sIx x.length 0 none)).take (HT.sIx x.length x.length (some 6) - HT.sIx x.length 0 none)) := rfl
  show (cutS x none (some 6)).cps.size ≤ 6
  rw [← Array.length_toList, e, List.length_take]
  have h0 : HT.sIx x.length 0 none = 0 := rfl
  have h1 : HT.sIx x.length x.length (some 6) ≤ 6 := by
    unfold HT.sIx
    simp
    omega
  omega
theorem wd_cand {x : Str} {k : Nat} (h : Wd 8 x) (hk : k < 676) : Wd 8 (cand x k) := by
  have c : Wd 6 (cutS x none (some 6)) := ⟨cut6 x, (wd_cut h none (some 6)).2⟩
  exact wd_app (wd_app c (wd_one (by omega))) (wd_one (by omega))
theorem cand_inj {x : Str} {k m : Nat} (hk : k < 26) (hm : m < 26) (h : cand x k = cand x m) : k = m := by
  have e : ∀ j, j < 26 → (cand x j).cps.toList = (cutS x none (some 6)).cps.toList ++ [97] ++ [97 + j] := fun j hj => by
    have e1 : (cand x j).cps = (cutS x none (some 6)).cps ++ #[97 + j / 26] ++ #[97 + j % 26] := rfl
    rw [e1, Array.toList_append, Array.toList_append, Nat.div_eq_of_lt hj, Nat.mod_eq_of_lt hj]
  have h2 : (cand x k).cps.toList = (cand x m).cps.toList := by rw [h]
  rw [e k hk, e m hm] at h2
  have h3 := List.append_cancel_left h2
  have h4 := (List.cons.inj h3).1
  omega
theorem nd_len : ∀ {l us : List Str}, l.Nodup → (∀ y ∈ l, y ∈ us) → l.length ≤ us.length
  | [], _, _, _ => Nat.zero_le _
  | a :: l, us, nd, h => by
    have ha := h a List.mem_cons_self
    obtain ⟨n1, n2⟩ := List.nodup_cons.mp nd
    have ih := nd_len (l := l) (us := us.erase a) n2 fun y hy => by
      have ne : y ≠ a := fun z => n1 (z ▸ hy)
      exact (List.mem_erase_of_ne ne).mpr (h y (List.mem_cons_of_mem _ hy))
    have e := List.length_erase_of_mem ha
    have p := List.length_pos_of_mem ha
    rw [List.length_cons]
    omega
def fresh (x : Str) : List Str := x :: (List.range 676).map (cand x)
theorem fresh_some {x : Str} {us : List Str} (h : us.length ≤ 4) : ∃ y ys, (fresh x).filter (fun z => decide (z ∉ us)) = y :: ys := by
  cases e : (fresh x).filter (fun z => decide (z ∉ us)) with
  | cons y ys => exact ⟨y, ys, rfl⟩
  | nil =>
    exfalso
    have nd : ((List.range 5).map (cand x)).Nodup := by
      rw [List.nodup_iff_pairwise_ne, List.pairwise_map]
      refine List.Pairwise.imp_of_mem ?_ List.nodup_range
      intro a b ha hb ne z
      exact ne (cand_inj (by have := List.mem_range.mp ha; omega) (by have := List.mem_range.mp hb; omega) z)
    have z := nd_len (us := us) nd fun y hy => by
      obtain ⟨k, hk, rfl⟩ := List.mem_map.mp hy
      have hk2 := List.mem_range.mp hk
      have hm : cand x k ∈ fresh x := List.mem_cons_of_mem _ (List.mem_map_of_mem (List.mem_range.mpr (by omega)))
      by_cases hu : cand x k ∈ us
      · exact hu
      · have : cand x k ∈ (fresh x).filter (fun z => decide (z ∉ us)) := List.mem_filter.mpr ⟨hm, decide_eq_true hu⟩
        rw [e] at this
        cases this
    rw [List.length_map, List.length_range] at z
    omega
theorem fresh_wd {x y : Str} (h : Wd 8 x) (hy : y ∈ fresh x) : Wd 8 y := by
  rcases List.mem_cons.mp hy with rfl | z
  · exact h
  · obtain ⟨k, hk, rfl⟩ := List.mem_map.mp z
    exact wd_cand h (List.mem_range.mp hk)
section
variable {P : Program} {w : World} {K : PySem.W.Frag} {mg : Str → Option Value} {base : Heap} {f : Addr} {fd : FuncData}
def spNm : Sp := fun vs H Q _ => ∃ (r u : Addr) (us : List Str), vs = [.ref r, .ref u] ∧ Rng H r ∧ H u = some (.lst (us.map V.str)) ∧ u ≠ r ∧ us.length ≤ 4 ∧ ∀ y H', Wd 8 y → Stp r H H' → Q (.str y) H'
theorem sc__law_name : FnScope ["_law_rng_here", "_law_used", "_law_letters", "_law_length", "_law_name_here", "_law_fresh", "_law_k", "_law_one"] ["_law_rng_here", "_law_used"] (defScope (top 31)) := ⟨rfl, rfl, rfl, by decide +kernel, rfl, by decide +kernel, by decide +kernel⟩
theorem ok_nm (T : Tx w K mg) (D__law_draw : Df P w K mg base 1 "_law_draw" ["_law_rng_here", "_law_many"] spDraw) (F : FnP K "_law_name" "_law_name" (top 31) f fd) : FnOk P w K mg base CX0 2 f fd ["_law_rng_here", "_law_used"] spNm := by
  refine F.ok sc__law_name (fun vs H Q E h => ?_) (fun cdv A outer s H vs Q E hr h => ⟨_, PSs.nox (pss_cons (ps_set (i := 2) sc__law_name.nd rfl (by first | exact Or.inl rfl | exact Or.inr rfl) pe_str) (pss_cons (ps_set (i := 3) sc__law_name.nd rfl (by first | exact Or.inl rfl | exact Or.inr rfl) (pe_ix ix_list (pe_lst (pa_cons pe_int (pa_cons pe_int (pa_cons pe_int (pa_cons (pe_op op_add pe_int (pcall D__law_draw hr (pa_cons (pv 0) (pa_cons pe_int pa_nil)))) pa_nil))))) (pcall D__law_draw hr (pa_cons (pv 0) (pa_cons pe_int pa_nil))) (fun _ _ => rfl))) (pss_cons (ps_set (i := 4) sc__law_name.nd rfl (by first | exact Or.inl rfl | exact Or.inr rfl) (pe_join pe_str (pe_lc (own := [("_law_k", 6)]) (g := gName 6) rfl sc__law_name.nd (pi_range1 rfl T.n_range (pa_cons (pv 3) pa_nil)) (blkOk_by (own := [("_law_k", 6)]) (N := ["_law_rng_here", "_law_used", "_law_letters", "_law_length", "_law_name_here", "_law_fresh", "_law_k", "_law_one"]) (sc := defScope (top 31)) (by decide +kernel)) (fun _ _ _ _ _ => pg_name (i := 6) sc__law_name.nd rfl (Or.inl rfl)) (fun _ _ _ _ _ => pts_nil) (fun _ _ _ _ _ => (pe_ix ix_str (pv 2) (pcall D__law_draw hr (pa_cons (pv 0) (pa_cons pe_int pa_nil))) (fun _ _ => rfl)))))) (pss_cons (ps_if (pt_cmpR op_eq (pcall D__law_draw hr (pa_cons (pv 0) (pa_cons pe_int pa_nil))) pe_int (nomark _)) (pss_one (ps_set (i := 4) sc__law_name.nd rfl (by first | exact Or.inl rfl | exact Or.inr rfl) (pe_ix ix_list (pe_lst (pa_cons pe_str (pa_cons pe_str (pa_cons pe_str (pa_cons pe_str (pa_cons pe_str (pa_cons pe_str (pa_cons pe_str (pa_cons pe_str pa_nil))))))))) (pcall D__law_draw hr (pa_cons (pv 0) (pa_cons pe_int pa_nil))) (fun _ _ => rfl)))) pss_nil) (pss_cons (ps_set (i := 5) sc__law_name.nd rfl (by first | exact Or.inl rfl | exact Or.inr rfl) (pe_op op_cat (pe_lst (pa_cons (pv 4) pa_nil)) (pe_lc (own := [("_law_k", 6)]) (g := gName 6) rfl sc__law_name.nd (pi_range1 rfl T.n_range (pa_cons pe_int pa_nil)) (blkOk_by (own := [("_law_k", 6)]) (N := ["_law_rng_here", "_law_used", "_law_letters", "_law_length", "_law_name_here", "_law_fresh", "_law_k", "_law_one"]) (sc := defScope (top 31)) (by decide +kernel)) (fun _ _ _ _ _ => pg_name (i := 6) sc__law_name.nd rfl (Or.inl rfl)) (fun _ _ _ _ _ => pts_nil) (fun _ _ _ _ _ => (pe_op op_add_str (pe_op op_add_str (pe_slice sl_str (pv 4) po_none (po_some pe_int)) (pe_ix ix_str (pv 2) (pe_op op_fdivW (pv 6) pe_int) (fun _ _ => rfl))) (pe_ix ix_str (pv 2) (pe_op op_mod (pv 6) pe_int) (fun _ _ => rfl))))))) (pss_one (ps_ret (pe_ix ix_list (pe_lc (own := [("_law_one", 7)]) (g := gName 7) rfl sc__law_name.nd (pi_list (pv 5)) (blkOk_by (own := [("_law_one", 7)]) (N := ["_law_rng_here", "_law_used", "_law_letters", "_law_length", "_law_name_here", "_law_fresh", "_law_k", "_law_one"]) (sc := defScope (top 31)) (by decide +kernel)) (fun _ _ _ _ _ => pg_name (i := 7) sc__law_name.nd rfl (Or.inl rfl)) (fun _ _ _ _ _ => (pts_one (pt_cmpR (r := rIn K true) op_notIn_seq (pv 7) (pv 1) rfl))) (fun _ _ _ _ _ => (pv 7))) pe_int (fun _ _ => rfl))))))))), ?_⟩)
  · obtain ⟨r, u, us, rfl, _⟩ := h
    rfl
  · obtain ⟨r, u, us, rfl, hR, hu, nur, ul, q⟩ := h
    have big : (10 : Int) ^ 40 = 10000000000000000000000000000000000000000 := by decide
    refine ⟨_, rfl, r, 8, rfl, hR, by decide, by omega, fun d H1 d0 d1 s1 => ⟨_, _, rfl, rfl, (by show 4 ≤ sizeLine; decide), fun L hL => ?_⟩⟩
    have nLr : L ≠ r := (s1.1.ne hL).symm
    have s2 := s1.new (o := .lst [.int 1, .int 1, .int 2, .int (1 + d)]) hL
    refine ⟨_, rfl, r, 4, rfl, s2.1, by decide, by omega, fun e H2 e0 e1 t2 => ?_⟩
    obtain ⟨v, hv, hm⟩ := at_of (xs := [V.int 1, V.int 1, V.int 2, V.int (1 + d)]) e0 (by show e < ((4 : Nat) : Int); omega)
    obtain ⟨n, rfl, n1, n2⟩ : ∃ n : Nat, v = .int n ∧ 1 ≤ n ∧ n ≤ 8 := by
      simp only [List.mem_cons, List.not_mem_nil, or_false] at hm
      rcases hm with rfl | rfl | rfl | rfl
      · exact ⟨1, rfl, by omega, by omega⟩
      · exact ⟨1, rfl, by omega, by omega⟩
      · exact ⟨2, rfl, by omega, by omega⟩
      · exact ⟨(1 + d).toNat, by rw [Int.toNat_of_nonneg (by omega)], by omega, by omega⟩
    refine ⟨L, _, _, _, rfl, rfl, SqL.of (t2.2 L _ nLr upd_same), hv, ?_⟩
    have s3 := s2.trans t2
    refine ⟨⟨_, rfl⟩, _, rfl, _, rfl, by omega, by omega, fun D hD => ?_⟩
    have nDr : D ≠ r := (s3.1.ne hD).symm
    refine lc_range (fun i H' => ∃ ys : List Str, H' D = some (.lst (ys.map V.str)) ∧ ys.length = i ∧ (∀ y ∈ ys, Wd 1 y) ∧ Stp r H2 H') ⟨[], upd_same, rfl, fun y hy => absurd hy List.not_mem_nil, (Stp.refl s3.1).new hD⟩ ?_ ?_
    · rintro i H' hi ⟨ys, hD', hl, hw, st⟩
      have hi2 : i < 8 := by omega
      refine ⟨rfl, _, rfl, _, rfl, r, 26, rfl, st.1, by decide, by omega, fun e H2 e0 e1 s2 => ?_⟩
      obtain ⟨c, hc, hm⟩ := at_of (xs := letters.cps.toList) e0 e1
      have c128 : c < 128 := by
        have z : letters.cps.toList.all (fun c => decide (c < 128)) = true := by decide +kernel
        exact of_decide_eq_true (List.all_eq_true.mp z c hm)
      refine ⟨letters, _, c, rfl, rfl, by decide, hc, _, s2.2 D _ nDr hD', small1000 (by rw [List.length_map]; omega), ys ++ [⟨#[c]⟩], ?_, ?_, fun y hy => ?_, (st.trans s2).at hD nDr⟩
      · rw [upd_same, List.map_append]
        rfl
      · rw [List.length_append, hl]
        rfl
      · rcases List.mem_append.mp hy with z | z
        · exact hw y z
        · rw [List.mem_singleton.mp z]
          exact wd_one c128
    rintro H3 ⟨ys, hD', hl, hw, st⟩
    have yl : ys.length ≤ 8 := by omega
    have ww := (wd_join ys hw).mono yl
    have s4 := s3.trans st
    refine ⟨Str.empty, D, ys, rfl, rfl, .inl (SqL.of hD'), ?_, ?_⟩
    · have z : (ys.map (·.length)).sum ≤ ys.length := by
        clear ww hD' hl yl
        induction ys with
        | nil => exact Nat.le_refl _
        | cons y l ih =>
          have h1 := (hw y (List.mem_cons_self ..)).1
          have h2 := ih fun z hz => hw z (List.mem_cons_of_mem _ hz)
          rw [List.map_cons, List.sum_cons, List.length_cons]
          omega
      have z2 : ys.length * Str.empty.length = 0 := by rw [show Str.empty.length = 0 from rfl, Nat.mul_zero]
      rw [z2]
      omega
    generalize hX : Txt.join Str.empty ys = x0 at ww ⊢
    clear hX
    revert x0
    refine join2 (fun (x : Str) (G : Hp) => Wd 8 x ∧ Stp r H G) (R := ?R) (fun tail => ?main) ?tl
    case main =>
      intro x0 ww
      refine ⟨_, rfl, r, 8, rfl, s4.1, by decide, by omega, fun b H4 b0 b1 t4 => ⟨rfl, _, rfl, ?_⟩⟩
      have s5 := s4.trans t4
      by_cases hb : b = 0
      case neg =>
        refine ifF (vF hb) ?_
        exact tail x0 H4 ⟨ww, s5⟩
      case pos =>
        refine ifT (vT hb) ?_
        refine ⟨(by show 8 ≤ sizeLine; decide), fun L2 hL2 => ?_⟩
        have n2r : L2 ≠ r := (s5.1.ne hL2).symm
        have s6 := s5.new (o := .lst ((["request", "release", "object", "cell", "free", "names", "settle", "undo"] : List Str).map V.str)) hL2
        refine ⟨_, rfl, r, 8, rfl, s6.1, by decide, by omega, fun c H5 c0 c1 t5 => ?_⟩
        obtain ⟨v, hv, hm⟩ := at_of (xs := ((["request", "release", "object", "cell", "free", "names", "settle", "undo"] : List Str).map V.str)) c0 (by show c < ((8 : Nat) : Int); omega)
        obtain ⟨y, hy, rfl⟩ := List.mem_map.mp hm
        have wy : Wd 8 y := by
          have z : (["request", "release", "object", "cell", "free", "names", "settle", "undo"] : List Str).all (fun o => decide (o.length ≤ 8) && o.cps.toList.all (fun c => decide (c < 128))) = true := by decide +kernel
          obtain ⟨h1, h2⟩ := He.ba (List.all_eq_true.mp z y hy)
          exact ⟨of_decide_eq_true h1, fun c hc => of_decide_eq_true (List.all_eq_true.mp h2 c hc)⟩
        refine ⟨L2, _, _, _, rfl, rfl, SqL.of (t5.2 L2 _ n2r upd_same), hv, ?_⟩
        exact tail y H5 ⟨wy, s6.trans t5⟩
    case tl =>
      rintro x G ⟨wx, sG⟩
      have xl : x.length ≤ sizeLine := Nat.le_trans wx.1 (by decide)
      refine ⟨_, rfl, (by show 1 ≤ sizeLine; decide), fun L3 hL3 => ?_⟩
      have n3r : L3 ≠ r := (sG.1.ne hL3).symm
      have s7 := sG.new (o := .lst [.str x]) hL3
      refine ⟨676, rfl, by decide, by decide, fun D2 hD2 => ?_⟩
      have nDr2 : D2 ≠ r := (s7.1.ne hD2).symm
      refine lc_range (fun i H' => H' D2 = some (.lst (((List.range i).map (cand x)).map V.str)) ∧ Stp r (upd G L3 (.lst [.str x])) H') ⟨upd_same, (Stp.refl s7.1).new hD2⟩ ?_ ?_
      · rintro i H' hi ⟨hD', st⟩
        have hi2 : i < 676 := hi
        have lx := (cut6 x)
        have l1 : (cutS x none (some 6) ++ lt (i / 26)).length ≤ 7 := (wd_app (n := 6) (m := 1) (x := cutS x none (some 6)) (y := lt (i / 26)) ⟨cut6 x, (wd_cut wx none (some 6)).2⟩ (wd_one (by omega))).1
        have a1 : atI letters.cps.toList ((0 + (i : Int)) / 26) = some (97 + i / 26) := by
          rw [show (0 + (i : Int)) / 26 = ((i / 26 : Nat) : Int) by omega]
          exact lt_at (by omega)
        have a2 : atI letters.cps.toList ((0 + (i : Int)) % 26) = some (97 + i % 26) := by
          rw [show (0 + (i : Int)) % 26 = ((i % 26 : Nat) : Int) by omega]
          exact lt_at (by omega)
        refine ⟨rfl, _, rfl, _, rfl, x, rfl, xl, _, rfl, _, rfl, _, _, rfl, rfl, wide_div (b := 64) (by decide) (by decide) (by decide) (by decide), letters, _, _, rfl, rfl, by decide, a1, _, _, rfl, rfl, Nat.le_trans (Nat.add_le_add lx (Nat.le_refl 1)) (by decide), ?_⟩
        refine ⟨_, rfl, _, rfl, _, _, rfl, rfl, (by show (0 : Int) < 26; decide), letters, _, _, rfl, rfl, by decide, a2, _, _, rfl, rfl, Nat.le_trans (Nat.add_le_add l1 (Nat.le_refl 1)) (by decide), ?_⟩
        refine ⟨_, hD', small1000 (by rw [List.length_map, List.length_map, List.length_range]; omega), ?_, st.at hD2 nDr2⟩
        rw [upd_same, List.range_succ, List.map_append, List.map_append]
        rfl
      rintro H6 ⟨hD', st⟩
      have s8 := s7.trans st
      have hL3' := st.2 L3 _ n3r upd_same
      refine ⟨L3, D2, _, _, rfl, rfl, hL3', hD', (by rw [List.length_map, List.length_map, List.length_range]; show 1 + 676 ≤ sizeLine; decide), fun F hF => ?_⟩
      have hFr : F ≠ r := (s8.1.ne hF).symm
      have s9 := s8.new (o := .lst ([V.str x] ++ List.map V.str (List.map (cand x) (List.range (Int.toNat 676))))) hF
      have hF9 : (upd H6 F (.lst ([V.str x] ++ List.map V.str (List.map (cand x) (List.range (Int.toNat 676)))))) F = some (.lst ((fresh x).map V.str)) := upd_same
      have hu9 := s9.2 u _ nur hu
      generalize (upd H6 F (.lst ([V.str x] ++ List.map V.str (List.map (cand x) (List.range (Int.toNat 676)))))) = H7 at *
      refine ⟨_, rfl, F, rfl, ⟨_, SqL.of hF9⟩, fun D3 hD3 => ?_⟩
      have nD3r : D3 ≠ r := (s9.1.ne hD3).symm
      refine lc_it (walk_list (xs := (fresh x).map V.str)) (fun i H' => H' D3 = some (.lst ((((fresh x).take i).filter fun z => decide (z ∉ us)).map V.str)) ∧ Same H7 H') ⟨upd_same, same_upd hD3⟩ (fun i H' _ h => SqL.of (h.2 _ _ hF9)) ?_ ?_
      · rintro i v H' _ hi ⟨hD', sm⟩ ⟨rfl, hv⟩
        rw [List.getElem?_map] at hv
        obtain ⟨y, hy, rfl⟩ := Option.map_eq_some_iff.mp hv
        have hil : i < (fresh x).length := (List.getElem?_eq_some_iff.mp hy).1
        have hfl : (fresh x).length = 677 := by
          show ((List.range 676).map (cand x)).length + 1 = 677
          rw [List.length_map, List.length_range]
        have et : (fresh x).take (i + 1) = (fresh x).take i ++ [y] := by rw [List.take_add_one, hy]; rfl
        refine ⟨rfl, _, rfl, _, rfl, u, us.map V.str, rfl, .inl (SqL.of (sm _ _ hu9)), rfl, flat_strs us, _, rfl, ?_⟩
        by_cases hm : y ∈ us
        · refine ifF (by show (!inV (.str y) _) = false; rw [inV_strs, decide_eq_true hm]; rfl) ⟨?_, sm⟩
          rw [et, List.filter_append, List.filter_cons_of_neg (by simpa using hm), List.filter_nil, List.append_nil]
          exact hD'
        · refine ifT (by show (!inV (.str y) _) = true; rw [inV_strs, decide_eq_false hm]; rfl) ⟨_, rfl, _, hD', small1000 ?_, ?_, fun b o e => ?_⟩
          · rw [List.length_map]
            have := List.length_filter_le (fun z => decide (z ∉ us)) ((fresh x).take i)
            rw [List.length_take] at this
            omega
          · rw [upd_same, et, List.filter_append, List.filter_cons_of_pos (by simpa using hm), List.filter_nil, List.map_append]
            rfl
          · rw [upd_ne (ne_of_none e hD3)]
            exact sm b o e
      · rintro H' ⟨hD', sm⟩
        obtain ⟨y, ys', e⟩ := fresh_some (x := x) ul
        rw [List.take_of_length_le (by rw [List.length_map]; exact Nat.le_refl _), e] at hD'
        have hy : y ∈ fresh x := by
          have : y ∈ (fresh x).filter (fun z => decide (z ∉ us)) := by rw [e]; exact List.mem_cons_self
          exact (List.mem_filter.mp this).1
        have sF : Stp r H H' := ⟨by obtain ⟨a, b, e1, z⟩ := s9.1; exact ⟨a, b, sm _ _ e1, z⟩, fun b o n e => sm _ _ (s9.2 b o n e)⟩
        exact ⟨D3, _, _, _, rfl, rfl, SqL.of hD', (show atI _ ((0 : Nat) : Int) = _ from atI_nat rfl), q y H' (fresh_wd wx hy) sF⟩
end
end K83

set_option Elab.async false
set_option linter.all false
set_option maxRecDepth 100000
set_option maxHeartbeats 4000000
set_option pp.maxSteps 900
namespace K83
open PySem PySem.Spec PyProof.Rows L2 Gu Ex RZ
/-- a value of its own: no object -/
def Lf (v : V) (d : PyData) : Prop := (∀ G : Hp, Tr G v d) ∧ B 0 d
theorem lf_str {x : Str} (h : Wd 8 x) : Lf (.str x) (.str x) := by
  refine ⟨fun G => .str x ⟨Nat.le_trans h.1 (by decide), fun c hc => Nat.lt_trans (h.2 c hc) (by decide)⟩, rfl, rfl, Nat.zero_le _, ?_⟩
  have z := StrLaws.reprText_len x fun c hc => Nat.lt_trans (h.2 c hc) (by decide)
  have l := h.1
  show (reprText x).length ≤ 100
  omega
theorem lf_int {i : Int} (h1 : -(10 ^ 39) ≤ i) (h2 : i ≤ 10 ^ 39) : Lf (.int i) (.int i) := by
  have t := tq_int (K := []) (H := fun _ => none) h1 h2
  exact ⟨fun G => .int i, rfl, t.sh, Nat.zero_le _, Nat.le_trans t.ln (by decide)⟩
section
variable {P : Program} {w : World} {K : PySem.W.Frag} {mg : Str → Option Value} {base : Heap} {f : Addr} {fd : FuncData}
def spNms : Sp := fun vs H Q _ => ∃ (r u : Addr) (m : Nat), vs = [.ref r, .int m, .ref u] ∧ Rng H r ∧ H u = some (.lst []) ∧ u ≠ r ∧ 1 ≤ m ∧ m ≤ 5 ∧
  ∀ (l : Addr) (ys : List Str) (H' : Hp), ys.length = m → (∀ y ∈ ys, Wd 8 y) → Stp r H H' → H' l = some (.lst (ys.map V.str)) → H l = none → Q (.ref l) H'
theorem sc__law_names : FnScope ["_law_rng_here", "_law_many", "_law_used", "_law_result", "_law_k"] ["_law_rng_here", "_law_many", "_law_used"] (defScope (top 32)) := ⟨rfl, rfl, rfl, by decide +kernel, rfl, by decide +kernel, by decide +kernel⟩
theorem ok_nms (T : Tx w K mg) (D__law_name : Df P w K mg base 2 "_law_name" ["_law_rng_here", "_law_used"] spNm) (F : FnP K "_law_names" "_law_names" (top 32) f fd) : FnOk P w K mg base CX0 3 f fd ["_law_rng_here", "_law_many", "_law_used"] spNms := by
  refine F.ok sc__law_names (fun vs H Q E h => ?_) (fun cdv A outer s H vs Q E hr h => ⟨_, PSs.nox (pss_cons (ps_set (i := 3) sc__law_names.nd rfl (by first | exact Or.inl rfl | exact Or.inr rfl) (pe_lst pa_nil)) (pss_cons (ps_for PassesOwn.never rfl (pi_range1 rfl T.n_range (pa_cons (pv 1) pa_nil)) (pg_name (i := 4) sc__law_names.nd rfl (by first | exact Or.inl rfl | exact Or.inr rfl)) (pss_one (ps_expr (pe_bm PySem.F.plainAttrs_list PySem.F.slot_list_append PySem.F.type_list_append mt_append (pv 3) (pa_cons (pcall D__law_name hr (pa_cons (pv 0) (pa_cons (pe_op op_cat (pv 2) (pv 3)) pa_nil))) pa_nil))))) (pss_one (ps_ret (pv 3))))), ?_⟩)
  · obtain ⟨r, u, m, rfl, _⟩ := h
    rfl
  · obtain ⟨r, u, m, rfl, hR, hu, nur, m1, m2, q⟩ := h
    refine ⟨(by show 0 ≤ sizeLine; decide), fun L hL => ?_⟩
    have nLr : L ≠ r := (hR.ne hL).symm
    have nuL : u ≠ L := ne_of_none hu hL
    refine ⟨_, rfl, _, rfl, by omega, by omega, ?_⟩
    refine for_it (walk_range (lo := 0) (n := m)) (fun i σ G => (∃ x4, σ = [some (.ref r), some (.int m), some (.ref u), some (.ref L), x4]) ∧ ∃ ys : List Str, G L = some (.lst (ys.map V.str)) ∧ ys.length = i ∧ (∀ y ∈ ys, Wd 8 y) ∧ Stp r H G)
      ⟨⟨none, rfl⟩, [], upd_same, rfl, fun y hy => absurd hy List.not_mem_nil, (Stp.refl hR).new hL⟩ (fun _ _ _ _ _ => trivial) ?_ ?_
    · rintro i v σ G _ hi ⟨⟨x4, rfl⟩, ys, hG, hl, hw, st⟩ ⟨rfl, rfl⟩
      have hu2 := st.2 u _ nur hu
      refine ⟨_, rfl, .inl ⟨rfl, _, SqL.of hG⟩, _, rfl, _, rfl, _, rfl, u, L, _, _, rfl, rfl, hu2, hG, (by rw [List.length_map]; have : sizeLine = 16777216 := sizeLine_eq; show 0 + _ ≤ _; omega), fun p hp => ?_⟩
      have s2 := st.new (o := .lst ([] ++ ys.map V.str)) hp
      have npr : p ≠ r := (st.1.ne hp).symm
      refine ⟨r, p, ys, rfl, s2.1, upd_same, npr, by omega, fun y H2 wy t2 => ?_⟩
      have s3 := s2.trans t2
      have nLp : L ≠ p := ne_of_none hG hp
      have hL2 : H2 L = some (.lst (ys.map V.str)) := t2.2 L _ nLr (by rw [upd_ne nLp]; exact hG)
      refine ⟨L, _, _, rfl, rfl, hL2, (by rw [List.length_map]; have : sizeLine = 16777216 := sizeLine_eq; omega), ?_⟩
      refine ⟨⟨_, rfl⟩, ys ++ [y], ?_, ?_, fun z hz => ?_, s3.at hL nLr⟩
      · rw [upd_same, List.map_append]
        rfl
      · rw [List.length_append, hl]
        rfl
      · rcases List.mem_append.mp hz with k | k
        · exact hw z k
        · rw [List.mem_singleton.mp k]
          exact wy
    · rintro σ G ⟨⟨x4, rfl⟩, ys, hG, hl, hw, st⟩
      exact ⟨_, rfl, q L ys G hl hw st hG hL⟩
def spLeaf : Sp := fun vs H Q _ => ∃ (r l : Addr) (ys : List Str), vs = [.ref r, .ref l] ∧ Rng H r ∧ H l = some (.lst (ys.map V.str)) ∧ l ≠ r ∧ 1 ≤ ys.length ∧ ys.length ≤ 5 ∧ (∀ y ∈ ys, Wd 8 y) ∧ ∀ v d H', Lf v d → Stp r H H' → Q v H'
theorem sc__law_leaf : FnScope ["_law_rng_here", "_law_names_here", "_law_edge", "_law_some"] ["_law_rng_here", "_law_names_here"] (defScope (top 33)) := ⟨rfl, rfl, rfl, by decide +kernel, rfl, by decide +kernel, by decide +kernel⟩
theorem ok_leaf (T : Tx w K mg) (D__law_draw : Df P w K mg base 1 "_law_draw" ["_law_rng_here", "_law_many"] spDraw) (D__law_choice : Df P w K mg base 2 "_law_choice" ["_law_rng_here", "_law_options"] spChoice)
    (F : FnP K "_law_leaf" "_law_leaf" (top 33) f fd) : FnOk P w K mg base CX0 3 f fd ["_law_rng_here", "_law_names_here"] spLeaf := by
  refine F.ok sc__law_leaf (fun vs H Q E h => ?_) (fun cdv A outer s H vs Q E hr h => ⟨_, PSs.nox (pss_cons (ps_set (i := 2) sc__law_leaf.nd rfl (by first | exact Or.inl rfl | exact Or.inr rfl) (pcall D__law_choice hr (pa_cons (pv 0) (pa_cons (pe_lst (pa_cons (pe_op op_pow pe_int pe_int) (pa_cons (pe_un un_neg (pe_op op_pow pe_int pe_int)) (pa_cons (pe_op op_add (pe_op op_pow pe_int pe_int) pe_int) (pa_cons (pe_op op_sub (pe_un un_neg (pe_op op_pow pe_int pe_int)) pe_int) (pa_cons (pe_op op_pow pe_int pe_int) pa_nil)))))) pa_nil)))) (pss_cons (ps_set (i := 3) sc__law_leaf.nd rfl (by first | exact Or.inl rfl | exact Or.inr rfl) (pe_lst (pa_cons (pcall D__law_choice hr (pa_cons (pv 0) (pa_cons (pv 1) pa_nil))) (pa_cons (pcall D__law_choice hr (pa_cons (pv 0) (pa_cons (pv 1) pa_nil))) (pa_cons (pe_op op_sub (pcall D__law_draw hr (pa_cons (pv 0) (pa_cons pe_int pa_nil))) pe_int) (pa_cons (pcall D__law_draw hr (pa_cons (pv 0) (pa_cons (pe_op op_pow pe_int pe_int) pa_nil))) pa_nil)))))) (pss_one (ps_ret (pe_ifExp (pt_cmpR op_eq (pcall D__law_draw hr (pa_cons (pv 0) (pa_cons pe_int pa_nil))) pe_int (nomark _)) (pv 2) (pcall D__law_choice hr (pa_cons (pv 0) (pa_cons (pv 3) pa_nil)))))))), ?_⟩)
  · obtain ⟨r, l, ys, rfl, _⟩ := h
    rfl
  · obtain ⟨r, l, ys, rfl, hR, hl, nlr, l1, l2, hw, q⟩ := h
    have big : (10 : Int) ^ 40 = 10000000000000000000000000000000000000000 := by decide
    have b39 : (10 : Int) ^ 39 = 1000000000000000000000000000000000000000 := by decide
    have p30 : (10 : Int) ^ (30 : Int).toNat = 1000000000000000000000000000000 := by decide
    have p12 : (10 : Int) ^ (12 : Int).toNat = 1000000000000 := by decide
    have pw : CPow 10 12 := ⟨by decide, by decide, by decide⟩
    have pw30 : CPow 10 30 := ⟨by decide, by decide, by decide⟩
    refine ⟨_, rfl, _, _, rfl, rfl, pw, _, _, rfl, rfl, pw, _, rfl, _, _, rfl, rfl, pw, _, _, rfl, rfl, _, _, rfl, rfl, pw, _, rfl, _, _, rfl, rfl, _, _, rfl, rfl, pw30, (by show 5 ≤ sizeLine; decide), fun p hp => ?_⟩
    have s1 := (Stp.refl hR).new (o := .lst [.int (10 ^ (12 : Int).toNat), .int (-(10 ^ (12 : Int).toNat)), .int (10 ^ (12 : Int).toNat + 1), .int (-(10 ^ (12 : Int).toNat) - 1), .int (10 ^ (30 : Int).toNat)]) hp
    refine ⟨r, p, _, rfl, s1.1, upd_same, (hR.ne hp).symm, (by show 1 ≤ 5; decide), (by show 5 ≤ 1000; decide), fun ve H1 hve t1 => ?_⟩
    have s2 := s1.trans t1
    obtain ⟨ie, rfl, lfe⟩ : ∃ ie : Int, ve = .int ie ∧ Lf (.int ie) (.int ie) := by
      simp only [List.mem_cons, List.not_mem_nil, or_false] at hve
      rcases hve with rfl | rfl | rfl | rfl | rfl <;> exact ⟨_, rfl, lf_int (by omega) (by omega)⟩
    refine ⟨_, rfl, _, rfl, r, l, _, rfl, s2.1, s2.2 l _ nlr hl, nlr, (by rw [List.length_map]; exact l1), (by rw [List.length_map]; omega), fun v1 H2 hv1 t2 => ?_⟩
    have s3 := s2.trans t2
    refine ⟨_, rfl, _, rfl, r, l, _, rfl, s3.1, s3.2 l _ nlr hl, nlr, (by rw [List.length_map]; exact l1), (by rw [List.length_map]; omega), fun v2 H3 hv2 t3 => ?_⟩
    have s4 := s3.trans t3
    obtain ⟨y1, m1, rfl⟩ := List.mem_map.mp hv1
    obtain ⟨y2, m2, rfl⟩ := List.mem_map.mp hv2
    refine ⟨_, rfl, r, 9, rfl, s4.1, by decide, by omega, fun d3 H4 a0 a1 t4 => ⟨_, _, rfl, rfl, ?_⟩⟩
    have s5 := s4.trans t4
    refine ⟨_, rfl, _, _, rfl, rfl, pw, r, _, rfl, s5.1, by decide, by decide, fun d4 H5 c0 c1 t5 => ?_⟩
    have s6 := s5.trans t5
    refine ⟨(by show 4 ≤ sizeLine; decide), fun p2 hp2 => ?_⟩
    have s7 := s6.new (o := .lst [.str y1, .str y2, .int (d3 - 4), .int d4]) hp2
    have n2r : p2 ≠ r := (s6.1.ne hp2).symm
    refine ⟨_, rfl, r, 24, rfl, s7.1, by decide, by omega, fun d6 H6 e0 e1 t6 => ⟨rfl, _, rfl, ?_⟩⟩
    have s8 := s7.trans t6
    by_cases h6 : d6 = 0
    · exact ifT (vT h6) ⟨_, rfl, q _ _ _ lfe s8⟩
    · refine ifF (vF h6) ⟨_, rfl, _, rfl, r, p2, _, rfl, s8.1, t6.2 p2 _ n2r upd_same, n2r, (by show 1 ≤ 4; decide), (by show 4 ≤ 1000; decide), fun v9 H9 hv9 t9 => ?_⟩
      have s9 := s8.trans t9
      simp only [List.mem_cons, List.not_mem_nil, or_false] at hv9
      rcases hv9 with rfl | rfl | rfl | rfl
      · exact q _ _ _ (lf_str (hw _ m1)) s9
      · exact q _ _ _ (lf_str (hw _ m2)) s9
      · exact q _ _ _ (lf_int (by omega) (by omega)) s9
      · exact q _ _ _ (lf_int (by omega) (by omega)) s9
end
end K83

set_option Elab.async false
set_option linter.all false
set_option maxRecDepth 100000
set_option maxHeartbeats 4000000
set_option pp.maxSteps 900
namespace K83
open PySem PySem.Spec PyProof.Rows L2 Gu Ex RZ
/-- what is not r and not in X stays -/
def Ag (r : Addr) (X : Addr → Prop) (H G : Hp) : Prop := ∀ b o, b ≠ r → ¬ X b → H b = some o → G b = some o
theorem Stp.ag {r : Addr} {X : Addr → Prop} {H G : Hp} (s : Stp r H G) : Ag r X H G := fun b o n _ e => s.2 b o n e
theorem Ag.trans {r : Addr} {X : Addr → Prop} {H G M : Hp} (a : Ag r X H G) (b : Ag r X G M) : Ag r X H M := fun c o n x e => b c o n x (a c o n x e)
theorem Ag.refl {r : Addr} {X : Addr → Prop} {H : Hp} : Ag r X H H := fun _ _ _ _ e => e
/-- X tells of objects that stand -/
def Xt (X : Addr → Prop) (H : Hp) : Prop := ∀ b, X b → H b ≠ none
theorem Xt.mono {X : Addr → Prop} {r : Addr} {H G : Hp} (h : Xt X H) (s : Stp r H G) : Xt X G := fun b x e => h b x (s.free e)
theorem nox {X : Addr → Prop} {r p : Addr} {H G : Hp} (h : Xt X H) (s : Stp r H G) (hp : G p = none) : ¬ X p := fun x => h p x (s.free hp)
/-- what v stands for through all draws, and through all changes of X -/
def Vd (r : Addr) (X : Addr → Prop) (H : Hp) (v : V) (d : PyData) : Prop := ∀ G, Ag r X H G → Tr G v d
def VdAll (r : Addr) (X : Addr → Prop) (H : Hp) (vs : List V) (ds : List PyData) : Prop := ∀ G, Ag r X H G → TrAll G vs ds
section
variable {r : Addr} {X : Addr → Prop} {H H' : Hp}
theorem Vd.agree {v : V} {d : PyData} (h : Vd r X H v d) (s : Ag r X H H') : Vd r X H' v d := fun G g => h G (s.trans g)
theorem Vd.mono {v : V} {d : PyData} (h : Vd r X H v d) (s : Stp r H H') : Vd r X H' v d := h.agree s.ag
theorem VdAll.nil : VdAll r X H [] [] := fun _ _ => .nil
theorem VdAll.cons {v : V} {vs : List V} {d : PyData} {ds : List PyData} (h : Vd r X H v d) (t : VdAll r X H vs ds) : VdAll r X H (v :: vs) (d :: ds) := fun G g => .cons (h G g) (t G g)
theorem Vd.lst {p : Addr} {vs : List V} {ds : List PyData} (n : p ≠ r) (x : ¬ X p) (e : H p = some (.lst vs)) (h : VdAll r X H vs ds) : Vd r X H (.ref p) (.list ds) := fun G g => .lst (g _ _ n x e) (h G g)
theorem Vd.tup {p : Addr} {vs : List V} {ds : List PyData} (n : p ≠ r) (x : ¬ X p) (e : H p = some (.tup vs)) (h : VdAll r X H vs ds) : Vd r X H (.ref p) (.tuple ds) := fun G g => .tup (g _ _ n x e) (h G g)
theorem Vd.dct {p : Addr} (n : p ≠ r) (x : ¬ X p) (e : H p = some (.dK [])) : Vd r X H (.ref p) (.dict []) := fun G g => .dct (g _ _ n x e)
theorem Lf.vd {v : V} {d : PyData} (h : Lf v d) : Vd r X H v d := fun G _ => h.1 G
end
/-- only new objects -/
theorem stp_new {r p : Addr} {H : Hp} {o : HO} (h : Rng H r) (hp : H p = none) : Stp r H (upd H p o) := (Stp.refl h).new hp
section
variable {P : Program} {w : World} {K : PySem.W.Frag} {mg : Str → Option Value} {base : Heap} {f : Addr} {fd : FuncData}
def spDr (n : Nat) : Sp := fun vs H Q _ => ∃ (r l : Addr) (ys : List Str) (k : Nat) (X : Addr → Prop), k < n ∧ 1 ≤ k ∧ k ≤ 7 ∧ vs = [.ref r, .ref l, .int k] ∧ Xt X H ∧ Rng H r ∧ H l = some (.lst (ys.map V.str)) ∧ l ≠ r ∧ 1 ≤ ys.length ∧ ys.length ≤ 5 ∧ (∀ y ∈ ys, Wd 8 y) ∧
  ∀ v d H', Vd r X H' v d → B k d → Stp r H H' → Q v H'
theorem sc__law_drawn : FnScope ["_law_rng_here", "_law_names_here", "_law_deep", "_law_parts"] ["_law_rng_here", "_law_names_here", "_law_deep"] (defScope (top 34)) := ⟨rfl, rfl, rfl, by decide +kernel, rfl, by decide +kernel, by decide +kernel⟩
theorem ok_dr0 (F : FnP K "_law_drawn" "_law_drawn" (top 34) f fd) : FnOk P w K mg base CX0 3 f fd ["_law_rng_here", "_law_names_here", "_law_deep"] (spDr 0) :=
  F.ok sc__law_drawn (fun vs H Q E h => by obtain ⟨_, _, _, k, _, h, _⟩ := h; exact absurd h (Nat.not_lt_zero k)) (fun cdv A outer s H vs Q E hr h => by obtain ⟨_, _, _, k, _, h, _⟩ := h; exact absurd h (Nat.not_lt_zero k))
theorem ok_dr {n : Nat} (T : Tx w K mg) (D__law_draw : Df P w K mg base 1 "_law_draw" ["_law_rng_here", "_law_many"] spDraw) (D__law_choice : Df P w K mg base 2 "_law_choice" ["_law_rng_here", "_law_options"] spChoice)
    (D__law_leaf : Df P w K mg base 3 "_law_leaf" ["_law_rng_here", "_law_names_here"] spLeaf) (D__law_drawn : Df P w K mg base (n + 3) "_law_drawn" ["_law_rng_here", "_law_names_here", "_law_deep"] (spDr n))
    (F : FnP K "_law_drawn" "_law_drawn" (top 34) f fd) : FnOk P w K mg base CX0 (n + 4) f fd ["_law_rng_here", "_law_names_here", "_law_deep"] (spDr (n + 1)) := by
  refine F.ok sc__law_drawn (fun vs H Q E h => ?_) (fun cdv A outer s H vs Q E hr h => ⟨_, PSs.nox (pss_cons (ps_if (pt_cmpR op_lt (pv 2) pe_int (nomark _)) (pss_one (ps_ret (pcall D__law_leaf hr (pa_cons (pv 0) (pa_cons (pv 1) pa_nil)) (by omega)))) pss_nil) (pss_cons (ps_set (i := 3) sc__law_drawn.nd rfl (by first | exact Or.inl rfl | exact Or.inr rfl) (pe_lst (pa_cons (pcall D__law_drawn hr (pa_cons (pv 0) (pa_cons (pv 1) (pa_cons (pe_op op_sub (pv 2) pe_int) pa_nil))) (by omega)) (pa_cons (pcall D__law_drawn hr (pa_cons (pv 0) (pa_cons (pv 1) (pa_cons (pe_op op_add pe_int (pcall D__law_draw hr (pa_cons (pv 0) (pa_cons (pe_callB (call_min2 rfl) (by rfl) T.n_min (by decide +kernel) (pa_cons pe_int (pa_cons (pe_op op_sub (pv 2) pe_int) pa_nil))) pa_nil)) (by omega))) pa_nil))) (by omega)) pa_nil)))) (pss_cons (ps_if (pt_cmpR op_eq (pcall D__law_draw hr (pa_cons (pv 0) (pa_cons pe_int pa_nil)) (by omega)) pe_int (nomark _)) (pss_one (ps_set (i := 3) sc__law_drawn.nd rfl (by first | exact Or.inl rfl | exact Or.inr rfl) (pe_revL (pv 3)))) pss_nil) (pss_one (ps_ret (pe_tup (pa_cons (pcall D__law_choice hr (pa_cons (pv 0) (pa_cons (pe_lst (pa_cons pe_str (pa_cons pe_str (pa_cons pe_str (pa_cons pe_str pa_nil))))) pa_nil)) (by omega)) (pa_cons (pe_ix ix_list (pv 3) pe_int (fun _ _ => rfl)) (pa_cons (pe_ix ix_list (pv 3) pe_int (fun _ _ => rfl)) pa_nil))))))))), ?_⟩)
  · obtain ⟨r, l, ys, k, _, _, _, _, rfl, _⟩ := h
    rfl
  · obtain ⟨r, l, ys, k, X, kn, k1, k7, rfl, hX, hR, hl, nlr, l1, l2, hw, q⟩ := h
    have big : (10 : Int) ^ 40 = 10000000000000000000000000000000000000000 := by decide
    refine ⟨_, rfl, _, _, rfl, rfl, _, rfl, ?_⟩
    by_cases h2 : (k : Int) < 2
    · refine ifT (decide_eq_true h2) ⟨_, rfl, _, rfl, r, l, ys, rfl, hR, hl, nlr, l1, l2, hw, fun v d H' lf st => q v d H' lf.vd (lf.2.mono (Nat.zero_le _)) st⟩
    refine ifF (decide_eq_false h2) ?_
    refine join2 (fun (p : Addr) (G : Hp) => ∃ v1 v2 d1 d2, p ≠ r ∧ G p = some (.lst [v1, v2]) ∧ Vd r X G v1 d1 ∧ Vd r X G v2 d2 ∧ B (k - 1) d1 ∧ B (k - 1) d2 ∧ Stp r H G) (R := ?R) (fun tail => ?main) ?tl
    case main =>
      refine ⟨_, rfl, _, rfl, _, rfl, _, _, rfl, rfl, r, l, ys, k - 1, X, by omega, by omega, by omega, (by show [_, _, V.int ((k : Int) - 1)] = _; rw [show (k : Int) - 1 = ((k - 1 : Nat) : Int) by omega]), hX, hR, hl, nlr, l1, l2, hw, fun v1 d1 H1 vd1 b1 s1 => ?_⟩
      refine ⟨_, rfl, _, rfl, _, rfl, _, rfl, _, _, rfl, rfl, _, _, rfl, r, _, rfl, s1.1, by split <;> omega, by split <;> omega, fun e H2 e0 e1 t2 => ?_⟩
      have s2 := s1.trans t2
      refine ⟨_, _, rfl, rfl, r, l, ys, (1 + e).toNat, X, ?_, ?_, ?_, (by rw [Int.toNat_of_nonneg (by omega)]; rfl), hX.mono s2, s2.1, s2.2 l _ nlr hl, nlr, l1, l2, hw, fun v2 d2 H3 vd2 b2 t3 => ?_⟩
      · split at e1 <;> omega
      · omega
      · split at e1 <;> omega
      have s3 := s2.trans t3
      have vd1' := vd1.mono (t2.trans t3)
      have b2' : B (k - 1) d2 := b2.mono (by split at e1 <;> omega)
      refine ⟨(by show 2 ≤ sizeLine; decide), fun p hp => ?_⟩
      have npr : p ≠ r := (s3.1.ne hp).symm
      have t4 := stp_new (o := .lst [v1, v2]) s3.1 hp
      have s4 := s3.trans t4
      refine ⟨_, rfl, r, 2, rfl, s4.1, by decide, by omega, fun b H4 b0 b3 t5 => ⟨rfl, _, rfl, ?_⟩⟩
      have s5 := s4.trans t5
      have hp4 := t5.2 p _ npr upd_same
      by_cases hb : b = 0
      case neg =>
        refine ifF (vF hb) ?_
        exact tail p H4 ⟨v1, v2, d1, d2, npr, hp4, vd1'.mono (t4.trans t5), vd2.mono (t4.trans t5), b1, b2', s5⟩
      case pos =>
        refine ifT (vT hb) ⟨_, rfl, p, [v1, v2], rfl, SqL.of hp4, fun p2 hp2 => ?_⟩
        have t6 := stp_new (o := .lst [v2, v1]) s5.1 hp2
        exact tail p2 _ ⟨v2, v1, d2, d1, (s5.1.ne hp2).symm, upd_same, vd2.mono ((t4.trans t5).trans t6), vd1'.mono ((t4.trans t5).trans t6), b2', b1, s5.trans t6⟩
    case tl =>
      rintro p G ⟨v1, v2, d1, d2, npr, hp, vd1, vd2, b1, b2, sG⟩
      refine ⟨_, rfl, (by show 4 ≤ sizeLine; decide), fun p3 hp3 => ?_⟩
      have t7 := stp_new (o := .lst (ops.map V.str)) sG.1 hp3
      have n3 : p3 ≠ r := (sG.1.ne hp3).symm
      refine ⟨r, p3, _, rfl, t7.1, upd_same, n3, (by show 1 ≤ 4; decide), (by show 4 ≤ 1000; decide), fun vo H9 hvo t9 => ?_⟩
      obtain ⟨o, ho, rfl⟩ := List.mem_map.mp (show vo ∈ ops.map V.str from hvo)
      have wo : Wd 8 o := by
        have z : ops.all (fun o => decide (o.length ≤ 8) && o.cps.toList.all (fun c => decide (c < 128))) = true := by decide +kernel
        obtain ⟨h1, h2⟩ := He.ba (List.all_eq_true.mp z o ho)
        exact ⟨of_decide_eq_true h1, fun c hc => of_decide_eq_true (List.all_eq_true.mp h2 c hc)⟩
      have t8 := t7.trans t9
      have hp9 := t8.2 p _ npr hp
      refine ⟨_, rfl, p, _, _, _, rfl, rfl, SqL.of hp9, (show atI _ ((0 : Nat) : Int) = _ from atI_nat rfl), _, rfl, p, _, _, _, rfl, rfl, SqL.of hp9, (show atI _ ((1 : Nat) : Int) = _ from atI_nat rfl), (by show 3 ≤ sizeLine; decide), fun pt hpt => ?_⟩
      have s9 := sG.trans t8
      have t10 := stp_new (o := .tup [.str o, v1, v2]) s9.1 hpt
      have npt : pt ≠ r := (s9.1.ne hpt).symm
      have lfo := lf_str wo
      refine q (.ref pt) (.tuple [.str o, d1, d2]) _ (Vd.tup npt (nox hX s9 hpt) upd_same (.cons lfo.vd (.cons (vd1.mono (t8.trans t10)) (.cons (vd2.mono (t8.trans t10)) .nil)))) ?_ (s9.trans t10)
      obtain ⟨j, rfl⟩ : ∃ j, k = j + 1 := ⟨k - 1, by omega⟩
      exact .inr ⟨_, _, _, rfl, lfo.2.mono (Nat.zero_le _), b1, b2⟩
end
end K83

set_option Elab.async false
set_option linter.all false
set_option maxRecDepth 100000
set_option maxHeartbeats 4000000
set_option pp.maxSteps 900
namespace K83
open PySem PySem.Spec PyProof.Rows L2 Gu Ex RZ
theorem b0 {d : PyData} (h : (not3 d && (d.showable && (decide (d.depth ≤ 2) && decide (d.shown.length ≤ 100)))) = true) : B 0 d := by
  obtain ⟨h1, h⟩ := He.ba h
  obtain ⟨h2, h⟩ := He.ba h
  obtain ⟨h3, h4⟩ := He.ba h
  exact ⟨h1, h2, of_decide_eq_true h3, of_decide_eq_true h4⟩
section
variable {P : Program} {w : World} {K : PySem.W.Frag} {mg : Str → Option Value} {base : Heap} {f : Addr} {fd : FuncData}
def spOdd : Sp := fun vs H Q _ => ∃ (r : Addr) (X : Addr → Prop), vs = [.ref r] ∧ Xt X H ∧ Rng H r ∧ ∀ v d H', Vd r X H' v d → B 1 d → Stp r H H' → Q v H'
theorem sc__law_odd : FnScope ["_law_rng_here", "_law_some"] ["_law_rng_here"] (defScope (top 35)) := ⟨rfl, rfl, rfl, by decide +kernel, rfl, by decide +kernel, by decide +kernel⟩
theorem ok_odd (T : Tx w K mg) (D__law_choice : Df P w K mg base 2 "_law_choice" ["_law_rng_here", "_law_options"] spChoice) (F : FnP K "_law_odd" "_law_odd" (top 35) f fd) : FnOk P w K mg base CX0 3 f fd ["_law_rng_here"] spOdd := by
  refine F.ok sc__law_odd (fun vs H Q E h => ?_) (fun cdv A outer s H0 vs Q E hr h => ⟨_, PSs.nox (pss_cons (ps_set (i := 1) sc__law_odd.nd rfl (by first | exact Or.inl rfl | exact Or.inr rfl) (pe_lst (pa_cons pe_non (pa_cons pe_bl (pa_cons pe_bl (pa_cons pe_str (pa_cons pe_str (pa_cons pe_str (pa_cons pe_str (pa_cons pe_str (pa_cons (pe_lst pa_nil) (pa_cons (pe_lst (pa_cons pe_str (pa_cons pe_int (pa_cons pe_int pa_nil)))) (pa_cons (pe_tup pa_nil) (pa_cons (pe_tup (pa_cons pe_str pa_nil)) (pa_cons (pe_tup (pa_cons pe_str (pa_cons pe_int pa_nil))) (pa_cons pe_dnewK pa_nil)))))))))))))))) (pss_one (ps_ret (pcall D__law_choice hr (pa_cons (pv 0) (pa_cons (pe_op op_cat (pv 1) (pe_lst (pa_cons (pe_tup (pa_cons pe_str (pa_cons pe_int (pa_cons pe_int (pa_cons pe_int pa_nil))))) (pa_cons (pe_tup (pa_cons pe_str (pa_cons pe_int (pa_cons pe_int pa_nil)))) (pa_cons (pe_tup (pa_cons pe_int (pa_cons pe_int (pa_cons pe_int pa_nil)))) (pa_cons (pe_tup (pa_cons pe_str (pa_cons pe_int (pa_cons pe_int pa_nil)))) (pa_cons (pe_tup (pa_cons (pe_lst pa_nil) (pa_cons pe_int (pa_cons pe_int pa_nil)))) (pa_cons (pe_tup (pa_cons pe_str pa_nil)) pa_nil)))))))) pa_nil)))))), ?_⟩)
  · obtain ⟨r, _, rfl, _⟩ := h
    rfl
  · obtain ⟨r, X, rfl, hX, hR, q⟩ := h
    have s0 := Stp.refl hR
    refine ⟨(by show 0 ≤ sizeLine; decide), fun p1 hp1 => ?_⟩
    have n1 : p1 ≠ r := (s0.1.ne hp1).symm
    have t1 := stp_new (o := (.lst [] : HO)) s0.1 hp1
    have s1 := s0.trans t1
    have h1 : (upd H0 p1 (.lst [])) p1 = some (.lst []) := upd_same
    have e1 : Vd r X (upd H0 p1 (.lst [])) (.ref p1) (.list []) := Vd.lst n1 (nox hX s0 hp1) h1 .nil
    generalize (upd H0 p1 (.lst [])) = H1 at *
    refine ⟨(by show 3 ≤ sizeLine; decide), fun p2 hp2 => ?_⟩
    have n2 : p2 ≠ r := (s1.1.ne hp2).symm
    have t2 := stp_new (o := (.lst [.str "add", .int 1, .int 2] : HO)) s1.1 hp2
    have s2 := s1.trans t2
    have h2 : (upd H1 p2 (.lst [.str "add", .int 1, .int 2])) p2 = some (.lst [.str "add", .int 1, .int 2]) := upd_same
    have e2 : Vd r X (upd H1 p2 (.lst [.str "add", .int 1, .int 2])) (.ref p2) (.list [.str "add", .int 1, .int 2]) := Vd.lst n2 (nox hX s1 hp2) h2 (.cons (fun _ _ => .str _ ⟨by decide, fun c hc => code_lt hc⟩) (.cons (fun _ _ => .int _) (.cons (fun _ _ => .int _) .nil)))
    generalize (upd H1 p2 (.lst [.str "add", .int 1, .int 2])) = H2 at *
    refine ⟨(by show 0 ≤ sizeLine; decide), fun p3 hp3 => ?_⟩
    have n3 : p3 ≠ r := (s2.1.ne hp3).symm
    have t3 := stp_new (o := (.tup [] : HO)) s2.1 hp3
    have s3 := s2.trans t3
    have h3 : (upd H2 p3 (.tup [])) p3 = some (.tup []) := upd_same
    have e3 : Vd r X (upd H2 p3 (.tup [])) (.ref p3) (.tuple []) := Vd.tup n3 (nox hX s2 hp3) h3 .nil
    generalize (upd H2 p3 (.tup [])) = H3 at *
    refine ⟨(by show 1 ≤ sizeLine; decide), fun p4 hp4 => ?_⟩
    have n4 : p4 ≠ r := (s3.1.ne hp4).symm
    have t4 := stp_new (o := (.tup [.str "add"] : HO)) s3.1 hp4
    have s4 := s3.trans t4
    have h4 : (upd H3 p4 (.tup [.str "add"])) p4 = some (.tup [.str "add"]) := upd_same
    have e4 : Vd r X (upd H3 p4 (.tup [.str "add"])) (.ref p4) (.tuple [.str "add"]) := Vd.tup n4 (nox hX s3 hp4) h4 (.cons (fun _ _ => .str _ ⟨by decide, fun c hc => code_lt hc⟩) .nil)
    generalize (upd H3 p4 (.tup [.str "add"])) = H4 at *
    refine ⟨(by show 2 ≤ sizeLine; decide), fun p5 hp5 => ?_⟩
    have n5 : p5 ≠ r := (s4.1.ne hp5).symm
    have t5 := stp_new (o := (.tup [.str "add", .int 1] : HO)) s4.1 hp5
    have s5 := s4.trans t5
    have h5 : (upd H4 p5 (.tup [.str "add", .int 1])) p5 = some (.tup [.str "add", .int 1]) := upd_same
    have e5 : Vd r X (upd H4 p5 (.tup [.str "add", .int 1])) (.ref p5) (.tuple [.str "add", .int 1]) := Vd.tup n5 (nox hX s4 hp5) h5 (.cons (fun _ _ => .str _ ⟨by decide, fun c hc => code_lt hc⟩) (.cons (fun _ _ => .int _) .nil))
    generalize (upd H4 p5 (.tup [.str "add", .int 1])) = H5 at *
    intro p6 hp6
    have n6 : p6 ≠ r := (s5.1.ne hp6).symm
    have t6 := stp_new (o := (.dK [] : HO)) s5.1 hp6
    have s6 := s5.trans t6
    have h6 : (upd H5 p6 (.dK [])) p6 = some (.dK []) := upd_same
    have e6 : Vd r X (upd H5 p6 (.dK [])) (.ref p6) (.dict []) := Vd.dct n6 (nox hX s5 hp6) h6
    generalize (upd H5 p6 (.dK [])) = H6 at *
    refine ⟨(by show 14 ≤ sizeLine; decide), fun p7 hp7 => ?_⟩
    have n7 : p7 ≠ r := (s6.1.ne hp7).symm
    have t7 := stp_new (o := (.lst [.non, .bl true, .bl false, .str "", .str "A", .str "a b", .str "ninelettr", .str "1", .ref p1, .ref p2, .ref p3, .ref p4, .ref p5, .ref p6] : HO)) s6.1 hp7
    have s7 := s6.trans t7
    have h7 : (upd H6 p7 (.lst [.non, .bl true, .bl false, .str "", .str "A", .str "a b", .str "ninelettr", .str "1", .ref p1, .ref p2, .ref p3, .ref p4, .ref p5, .ref p6])) p7 = some (.lst [.non, .bl true, .bl false, .str "", .str "A", .str "a b", .str "ninelettr", .str "1", .ref p1, .ref p2, .ref p3, .ref p4, .ref p5, .ref p6]) := upd_same
    generalize (upd H6 p7 (.lst [.non, .bl true, .bl false, .str "", .str "A", .str "a b", .str "ninelettr", .str "1", .ref p1, .ref p2, .ref p3, .ref p4, .ref p5, .ref p6])) = H7 at *
    refine ⟨_, rfl, _, rfl, ?_⟩
    refine ⟨(by show 4 ≤ sizeLine; decide), fun p8 hp8 => ?_⟩
    have n8 : p8 ≠ r := (s7.1.ne hp8).symm
    have t8 := stp_new (o := (.tup [.str "add", .int 1, .int 2, .int 3] : HO)) s7.1 hp8
    have s8 := s7.trans t8
    have h8 : (upd H7 p8 (.tup [.str "add", .int 1, .int 2, .int 3])) p8 = some (.tup [.str "add", .int 1, .int 2, .int 3]) := upd_same
    have e8 : Vd r X (upd H7 p8 (.tup [.str "add", .int 1, .int 2, .int 3])) (.ref p8) (.tuple [.str "add", .int 1, .int 2, .int 3]) := Vd.tup n8 (nox hX s7 hp8) h8 (.cons (fun _ _ => .str _ ⟨by decide, fun c hc => code_lt hc⟩) (.cons (fun _ _ => .int _) (.cons (fun _ _ => .int _) (.cons (fun _ _ => .int _) .nil))))
    generalize (upd H7 p8 (.tup [.str "add", .int 1, .int 2, .int 3])) = H8 at *
    refine ⟨(by show 3 ≤ sizeLine; decide), fun p9 hp9 => ?_⟩
    have n9 : p9 ≠ r := (s8.1.ne hp9).symm
    have t9 := stp_new (o := (.tup [.str "mul", .int 1, .int 2] : HO)) s8.1 hp9
    have s9 := s8.trans t9
    have h9 : (upd H8 p9 (.tup [.str "mul", .int 1, .int 2])) p9 = some (.tup [.str "mul", .int 1, .int 2]) := upd_same
    have e9 : Vd r X (upd H8 p9 (.tup [.str "mul", .int 1, .int 2])) (.ref p9) (.tuple [.str "mul", .int 1, .int 2]) := Vd.tup n9 (nox hX s8 hp9) h9 (.cons (fun _ _ => .str _ ⟨by decide, fun c hc => code_lt hc⟩) (.cons (fun _ _ => .int _) (.cons (fun _ _ => .int _) .nil)))
    generalize (upd H8 p9 (.tup [.str "mul", .int 1, .int 2])) = H9 at *
    refine ⟨(by show 3 ≤ sizeLine; decide), fun p10 hp10 => ?_⟩
    have n10 : p10 ≠ r := (s9.1.ne hp10).symm
    have t10 := stp_new (o := (.tup [.int 1, .int 2, .int 3] : HO)) s9.1 hp10
    have s10 := s9.trans t10
    have h10 : (upd H9 p10 (.tup [.int 1, .int 2, .int 3])) p10 = some (.tup [.int 1, .int 2, .int 3]) := upd_same
    have e10 : Vd r X (upd H9 p10 (.tup [.int 1, .int 2, .int 3])) (.ref p10) (.tuple [.int 1, .int 2, .int 3]) := Vd.tup n10 (nox hX s9 hp10) h10 (.cons (fun _ _ => .int _) (.cons (fun _ _ => .int _) (.cons (fun _ _ => .int _) .nil)))
    generalize (upd H9 p10 (.tup [.int 1, .int 2, .int 3])) = H10 at *
    refine ⟨(by show 3 ≤ sizeLine; decide), fun p11 hp11 => ?_⟩
    have n11 : p11 ≠ r := (s10.1.ne hp11).symm
    have t11 := stp_new (o := (.tup [.str "Add", .int 1, .int 2] : HO)) s10.1 hp11
    have s11 := s10.trans t11
    have h11 : (upd H10 p11 (.tup [.str "Add", .int 1, .int 2])) p11 = some (.tup [.str "Add", .int 1, .int 2]) := upd_same
    have e11 : Vd r X (upd H10 p11 (.tup [.str "Add", .int 1, .int 2])) (.ref p11) (.tuple [.str "Add", .int 1, .int 2]) := Vd.tup n11 (nox hX s10 hp11) h11 (.cons (fun _ _ => .str _ ⟨by decide, fun c hc => code_lt hc⟩) (.cons (fun _ _ => .int _) (.cons (fun _ _ => .int _) .nil)))
    generalize (upd H10 p11 (.tup [.str "Add", .int 1, .int 2])) = H11 at *
    refine ⟨(by show 0 ≤ sizeLine; decide), fun p12 hp12 => ?_⟩
    have n12 : p12 ≠ r := (s11.1.ne hp12).symm
    have t12 := stp_new (o := (.lst [] : HO)) s11.1 hp12
    have s12 := s11.trans t12
    have h12 : (upd H11 p12 (.lst [])) p12 = some (.lst []) := upd_same
    have e12 : Vd r X (upd H11 p12 (.lst [])) (.ref p12) (.list []) := Vd.lst n12 (nox hX s11 hp12) h12 .nil
    generalize (upd H11 p12 (.lst [])) = H12 at *
    refine ⟨(by show 3 ≤ sizeLine; decide), fun p13 hp13 => ?_⟩
    have n13 : p13 ≠ r := (s12.1.ne hp13).symm
    have t13 := stp_new (o := (.tup [.ref p12, .int 1, .int 2] : HO)) s12.1 hp13
    have s13 := s12.trans t13
    have h13 : (upd H12 p13 (.tup [.ref p12, .int 1, .int 2])) p13 = some (.tup [.ref p12, .int 1, .int 2]) := upd_same
    have e13 : Vd r X (upd H12 p13 (.tup [.ref p12, .int 1, .int 2])) (.ref p13) (.tuple [.list [], .int 1, .int 2]) := Vd.tup n13 (nox hX s12 hp13) h13 (.cons (e12.mono t13) (.cons (fun _ _ => .int _) (.cons (fun _ _ => .int _) .nil)))
    generalize (upd H12 p13 (.tup [.ref p12, .int 1, .int 2])) = H13 at *
    refine ⟨(by show 1 ≤ sizeLine; decide), fun p14 hp14 => ?_⟩
    have n14 : p14 ≠ r := (s13.1.ne hp14).symm
    have t14 := stp_new (o := (.tup [.str "a"] : HO)) s13.1 hp14
    have s14 := s13.trans t14
    have h14 : (upd H13 p14 (.tup [.str "a"])) p14 = some (.tup [.str "a"]) := upd_same
    have e14 : Vd r X (upd H13 p14 (.tup [.str "a"])) (.ref p14) (.tuple [.str "a"]) := Vd.tup n14 (nox hX s13 hp14) h14 (.cons (fun _ _ => .str _ ⟨by decide, fun c hc => code_lt hc⟩) .nil)
    generalize (upd H13 p14 (.tup [.str "a"])) = H14 at *
    refine ⟨(by show 6 ≤ sizeLine; decide), fun p15 hp15 => ?_⟩
    have n15 : p15 ≠ r := (s14.1.ne hp15).symm
    have t15 := stp_new (o := (.lst [.ref p8, .ref p9, .ref p10, .ref p11, .ref p13, .ref p14] : HO)) s14.1 hp15
    have s15 := s14.trans t15
    have h15 : (upd H14 p15 (.lst [.ref p8, .ref p9, .ref p10, .ref p11, .ref p13, .ref p14])) p15 = some (.lst [.ref p8, .ref p9, .ref p10, .ref p11, .ref p13, .ref p14]) := upd_same
    generalize (upd H14 p15 (.lst [.ref p8, .ref p9, .ref p10, .ref p11, .ref p13, .ref p14])) = H15 at *
    refine ⟨p7, p15, _, _, rfl, rfl, (t8.trans (t9.trans (t10.trans (t11.trans (t12.trans (t13.trans (t14.trans t15))))))).2 _ _ n7 h7, h15, (by show 14 + 6 ≤ sizeLine; decide), fun p16 hp16 => ?_⟩
    have n16 : p16 ≠ r := (s15.1.ne hp16).symm
    have t16 := stp_new (o := (.lst ([.non, .bl true, .bl false, .str "", .str "A", .str "a b", .str "ninelettr", .str "1", .ref p1, .ref p2, .ref p3, .ref p4, .ref p5, .ref p6] ++ [.ref p8, .ref p9, .ref p10, .ref p11, .ref p13, .ref p14]) : HO)) s15.1 hp16
    have s16 := s15.trans t16
    refine ⟨r, p16, _, rfl, s16.1, upd_same, n16, (by show 1 ≤ 20; decide), (by show 20 ≤ 1000; decide), fun v HF hv t17 => ?_⟩
    have s17 := s16.trans t17
    simp only [List.cons_append, List.nil_append, List.mem_cons, List.not_mem_nil, or_false] at hv
    rcases hv with rfl | rfl | rfl | rfl | rfl | rfl | rfl | rfl | rfl | rfl | rfl | rfl | rfl | rfl | rfl | rfl | rfl | rfl | rfl | rfl
    · exact q _ (.none) HF (fun _ _ => .non) (.inl (b0 (by decide +kernel))) s17
    · exact q _ (.bool true) HF (fun _ _ => .bl _) (.inl (b0 (by decide +kernel))) s17
    · exact q _ (.bool false) HF (fun _ _ => .bl _) (.inl (b0 (by decide +kernel))) s17
    · exact q _ (.str "") HF (fun _ _ => .str _ ⟨by decide, fun c hc => code_lt hc⟩) (.inl (b0 (by decide +kernel))) s17
    · exact q _ (.str "A") HF (fun _ _ => .str _ ⟨by decide, fun c hc => code_lt hc⟩) (.inl (b0 (by decide +kernel))) s17
    · exact q _ (.str "a b") HF (fun _ _ => .str _ ⟨by decide, fun c hc => code_lt hc⟩) (.inl (b0 (by decide +kernel))) s17
    · exact q _ (.str "ninelettr") HF (fun _ _ => .str _ ⟨by decide, fun c hc => code_lt hc⟩) (.inl (b0 (by decide +kernel))) s17
    · exact q _ (.str "1") HF (fun _ _ => .str _ ⟨by decide, fun c hc => code_lt hc⟩) (.inl (b0 (by decide +kernel))) s17
    · exact q _ (.list []) HF (e1.mono (t2.trans (t3.trans (t4.trans (t5.trans (t6.trans (t7.trans (t8.trans (t9.trans (t10.trans (t11.trans (t12.trans (t13.trans (t14.trans (t15.trans (t16.trans t17)))))))))))))))) (.inl (b0 (by decide +kernel))) s17
    · exact q _ (.list [.str "add", .int 1, .int 2]) HF (e2.mono (t3.trans (t4.trans (t5.trans (t6.trans (t7.trans (t8.trans (t9.trans (t10.trans (t11.trans (t12.trans (t13.trans (t14.trans (t15.trans (t16.trans t17))))))))))))))) (.inl (b0 (by decide +kernel))) s17
    · exact q _ (.tuple []) HF (e3.mono (t4.trans (t5.trans (t6.trans (t7.trans (t8.trans (t9.trans (t10.trans (t11.trans (t12.trans (t13.trans (t14.trans (t15.trans (t16.trans t17)))))))))))))) (.inl (b0 (by decide +kernel))) s17
    · exact q _ (.tuple [.str "add"]) HF (e4.mono (t5.trans (t6.trans (t7.trans (t8.trans (t9.trans (t10.trans (t11.trans (t12.trans (t13.trans (t14.trans (t15.trans (t16.trans t17))))))))))))) (.inl (b0 (by decide +kernel))) s17
    · exact q _ (.tuple [.str "add", .int 1]) HF (e5.mono (t6.trans (t7.trans (t8.trans (t9.trans (t10.trans (t11.trans (t12.trans (t13.trans (t14.trans (t15.trans (t16.trans t17)))))))))))) (.inl (b0 (by decide +kernel))) s17
    · exact q _ (.dict []) HF (e6.mono (t7.trans (t8.trans (t9.trans (t10.trans (t11.trans (t12.trans (t13.trans (t14.trans (t15.trans (t16.trans t17))))))))))) (.inl (b0 (by decide +kernel))) s17
    · exact q _ (.tuple [.str "add", .int 1, .int 2, .int 3]) HF (e8.mono (t9.trans (t10.trans (t11.trans (t12.trans (t13.trans (t14.trans (t15.trans (t16.trans t17))))))))) (.inl (b0 (by decide +kernel))) s17
    · exact q _ (.tuple [.str "mul", .int 1, .int 2]) HF (e9.mono (t10.trans (t11.trans (t12.trans (t13.trans (t14.trans (t15.trans (t16.trans t17)))))))) (.inr ⟨_, _, _, rfl, b0 (by decide +kernel), b0 (by decide +kernel), b0 (by decide +kernel)⟩) s17
    · exact q _ (.tuple [.int 1, .int 2, .int 3]) HF (e10.mono (t11.trans (t12.trans (t13.trans (t14.trans (t15.trans (t16.trans t17))))))) (.inr ⟨_, _, _, rfl, b0 (by decide +kernel), b0 (by decide +kernel), b0 (by decide +kernel)⟩) s17
    · exact q _ (.tuple [.str "Add", .int 1, .int 2]) HF (e11.mono (t12.trans (t13.trans (t14.trans (t15.trans (t16.trans t17)))))) (.inr ⟨_, _, _, rfl, b0 (by decide +kernel), b0 (by decide +kernel), b0 (by decide +kernel)⟩) s17
    · exact q _ (.tuple [.list [], .int 1, .int 2]) HF (e13.mono (t14.trans (t15.trans (t16.trans t17)))) (.inr ⟨_, _, _, rfl, b0 (by decide +kernel), b0 (by decide +kernel), b0 (by decide +kernel)⟩) s17
    · exact q _ (.tuple [.str "a"]) HF (e14.mono (t15.trans (t16.trans t17))) (.inl (b0 (by decide +kernel))) s17
end
end K83

set_option Elab.async false
set_option linter.all false
set_option maxRecDepth 100000
set_option maxHeartbeats 4000000
set_option pp.maxSteps 900
namespace K83
open PySem PySem.Spec PyProof.Rows L2 Gu Ex RZ
theorem Vd.parts {r t : Addr} {X : Addr → Prop} {H : Hp} {ds : List PyData} (h : Vd r X H (.ref t) (.tuple ds)) (hR : Rng H r) : ∃ xs, H t = some (.tup xs) ∧ t ≠ r ∧ VdAll r X H xs ds := by
  have h0 := h H Ag.refl
  cases h0 with
  | @tup _ xs _ e hA =>
    have n : t ≠ r := fun z => by
      obtain ⟨a, b, e2, _⟩ := hR
      rw [z, e2] at e
      cases e
    have nx : ¬ X t := fun x => by
      have h2 := h (upd H t (.dK [])) fun b o _ nb e3 => by
        rw [upd_ne (fun (z : b = t) => nb (by rw [z]; exact x))]
        exact e3
      cases h2 with
      | tup e4 _ =>
        rw [upd_same] at e4
        cases e4
    refine ⟨xs, e, n, fun G g => ?_⟩
    have h1 := h G g
    have e1 := g _ _ n nx e
    cases h1 with
    | @tup _ xs' _ e' hA' =>
      rw [e1] at e'
      cases e'
      exact hA'
theorem VdAll.three {r : Addr} {X : Addr → Prop} {H : Hp} {xs : List V} {a b c : PyData} (h : VdAll r X H xs [a, b, c]) : ∃ x y z, xs = [x, y, z] ∧ Vd r X H x a ∧ Vd r X H y b ∧ Vd r X H z c := by
  have h0 := h H Ag.refl
  cases h0 with
  | cons _ h0 =>
    cases h0 with
    | cons _ h0 =>
      cases h0 with
      | cons _ h0 =>
        cases h0
        refine ⟨_, _, _, rfl, fun G g => ?_, fun G g => ?_, fun G g => ?_⟩
        · cases h G g with
          | cons x _ => exact x
        · cases h G g with
          | cons _ h => cases h with
            | cons x _ => exact x
        · cases h G g with
          | cons _ h => cases h with
            | cons _ h => cases h with
              | cons x _ => exact x
section
variable {P : Program} {w : World} {K : PySem.W.Frag} {mg : Str → Option Value} {base : Heap} {f : Addr} {fd : FuncData}
def spSp (n : Nat) : Sp := fun vs H Q _ => ∃ (k : Nat) (r : Addr) (v : V) (d : PyData) (X : Addr → Prop), k < n ∧ vs = [.ref r, v] ∧ Xt X H ∧ Rng H r ∧ Vd r X H v d ∧ B k d ∧ ∀ v' d' H', Vd r X H' v' d' → B (k + 1) d' → Stp r H H' → Q v' H'
theorem sc__law_spoilt : FnScope ["_law_rng_here", "_law_value", "_law_at"] ["_law_rng_here", "_law_value"] (defScope (top 36)) := ⟨rfl, rfl, rfl, by decide +kernel, rfl, by decide +kernel, by decide +kernel⟩
theorem ok_sp0 (F : FnP K "_law_spoilt" "_law_spoilt" (top 36) f fd) : FnOk P w K mg base CX0 3 f fd ["_law_rng_here", "_law_value"] (spSp 0) :=
  F.ok sc__law_spoilt (fun vs H Q E h => by obtain ⟨k, _, _, _, _, h, _⟩ := h; exact absurd h (Nat.not_lt_zero k)) (fun cdv A outer s H vs Q E hr h => by obtain ⟨k, _, _, _, _, h, _⟩ := h; exact absurd h (Nat.not_lt_zero k))
theorem ok_sp {n : Nat} (T : Tx w K mg) (D__law_draw : Df P w K mg base 1 "_law_draw" ["_law_rng_here", "_law_many"] spDraw) (D__law_odd : Df P w K mg base 3 "_law_odd" ["_law_rng_here"] spOdd)
    (D__law_spoilt : Df P w K mg base (n + 3) "_law_spoilt" ["_law_rng_here", "_law_value"] (spSp n)) (F : FnP K "_law_spoilt" "_law_spoilt" (top 36) f fd) : FnOk P w K mg base CX0 (n + 4) f fd ["_law_rng_here", "_law_value"] (spSp (n + 1)) := by
  refine F.ok sc__law_spoilt (fun vs H Q E h => ?_) (fun cdv A outer s H vs Q E hr h => ⟨_, PSs.nox (pss_cons (ps_if (PW.pt (pw_or (pt_not (pt_val (pe_callB call_isi (by rfl) T.n_isinstance (by decide +kernel) (pa_cons (pv 1) (pa_cons (pe_bltn (v := .ty "tuple") (by rfl) T.n_tuple (by decide +kernel) rfl) pa_nil))))) (pw_or (pt_cmpR op_ne (pe_callB call_len_seq (by rfl) T.n_len (by decide +kernel) (pa_cons (pv 1) pa_nil)) pe_int (nomark _)) (pw_or1 (pt_cmpR op_eq (pcall D__law_draw hr (pa_cons (pv 0) (pa_cons pe_int pa_nil)) (by omega)) pe_int (nomark _)))))) (pss_one (ps_ret (pcall D__law_odd hr (pa_cons (pv 0) pa_nil) (by omega)))) pss_nil) (pss_cons (ps_set (i := 2) sc__law_spoilt.nd rfl (by first | exact Or.inl rfl | exact Or.inr rfl) (pcall D__law_draw hr (pa_cons (pv 0) (pa_cons pe_int pa_nil)) (by omega))) (pss_cons (ps_if (pt_cmpR op_eq (pv 2) pe_int (nomark _)) (pss_one (ps_ret (pe_op op_catT (pe_tup (pa_cons (pcall D__law_odd hr (pa_cons (pv 0) pa_nil) (by omega)) pa_nil)) (pe_slice sl_tup (pv 1) (po_some pe_int) po_none)))) pss_nil) (pss_one (ps_ret (pe_op op_catT (pe_op op_catT (pe_slice sl_tup (pv 1) po_none (po_some (pv 2))) (pe_tup (pa_cons (pcall D__law_spoilt hr (pa_cons (pv 0) (pa_cons (pe_ix ix_tup (pv 1) (pv 2) (fun _ _ => rfl)) pa_nil)) (by omega)) pa_nil))) (pe_slice sl_tup (pv 1) (po_some (pe_op op_add (pv 2) pe_int)) po_none))))))), ?_⟩)
  · obtain ⟨k, r, v, d, _, _, rfl, _⟩ := h
    rfl
  · obtain ⟨k, r, v, d, X, kn, rfl, hX, hR, vd, hb, q⟩ := h
    have big : (10 : Int) ^ 40 = 10000000000000000000000000000000000000000 := by decide
    have hv := vd H Ag.refl
    obtain ⟨Ty, ty, k1, k2, k3, k4, k5⟩ := hv.ty (K := K)
    have bk : ∀ {d' : PyData}, B 1 d' → B (k + 1) d' := fun b => b.mono (by omega)
    refine ⟨_, rfl, _, _, _, _, _, rfl, .ty "tuple", ty, kit_ty k4, _, rfl, ?_⟩
    cases ht : dT d with
    | false => exact iteT ⟨_, rfl, r, X, rfl, hX, hR, fun v' d' H' vd' b' st => q v' d' H' vd' (bk b') st⟩
    | true =>
      cases hv with
      | @tup t xs ds e h =>
        have xl := h.len
        refine iteF ⟨_, rfl, t, _, rfl, .inr (SqT.of e), rfl, _, rfl, ?_⟩
        by_cases h3 : ds.length = 3
        case neg => exact ifT (by rw [vF (by omega)]; rfl) ⟨_, rfl, r, X, rfl, hX, hR, fun v' d' H' vd' b' st => q v' d' H' vd' (bk b') st⟩
        case pos =>
          obtain ⟨d0, d1, d2, rfl⟩ : ∃ d0 d1 d2, ds = [d0, d1, d2] := by
            match ds, h3 with
            | [d0, d1, d2], _ => exact ⟨d0, d1, d2, rfl⟩
          obtain ⟨j, rfl, b0, b1, b2⟩ := B_tup hb
          obtain ⟨xs', e', ntr, vda⟩ := vd.parts hR
          rw [e] at e'
          cases e'
          obtain ⟨v0, v1, v2, rfl, w0, w1, w2⟩ := vda.three
          refine ifF (by rw [decide_eq_true (show V.int (([v0, v1, v2].length : Nat) : Int) = V.int 3 from rfl)]; rfl) ?_
          refine ⟨_, rfl, r, 3, rfl, hR, by decide, by omega, fun c H1 c0 c1 s1 => ⟨rfl, _, rfl, ?_⟩⟩
          by_cases hc : c = 0
          · exact ifT (vT hc) ⟨_, rfl, r, X, rfl, hX.mono s1, s1.1, fun v' d' H' vd' b' st => q v' d' H' vd' (bk b') (s1.trans st)⟩
          refine ifF (vF hc) ?_
          refine ⟨_, rfl, r, 3, rfl, s1.1, by decide, by omega, fun a H2 a0 a1 t2 => ?_⟩
          have s2 := s1.trans t2
          refine ⟨_, rfl, rfl, _, rfl, ?_⟩
          have fin : ∀ (p : Addr) (x y z : V) (da db dc : PyData) (G : Hp), p ≠ r → ¬ X p → G p = some (.tup [x, y, z]) → Vd r X G x da → Vd r X G y db → Vd r X G z dc → B (j + 1) da → B (j + 1) db → B (j + 1) dc → Stp r H G → Q (.ref p) G :=
            fun p x y z da db dc G np nx hp x1 x2 x3 y1 y2 y3 st => q (.ref p) (.tuple [da, db, dc]) G (Vd.tup np nx hp (.cons x1 (.cons x2 (.cons x3 .nil)))) (.inr ⟨da, db, dc, rfl, y1, y2, y3⟩) st
          by_cases ha : a = 0
          · refine ifT (vT ha) ?_
            refine ⟨_, rfl, r, X, rfl, hX.mono s2, s2.1, fun vo dd H3 vdo bo t3 => ⟨(by show 1 ≤ sizeLine; decide), fun p1 hp1 => ?_⟩⟩
            have s3 := s2.trans t3
            have u1 := stp_new (o := .tup [vo]) s3.1 hp1
            have n1 := (s3.1.ne hp1).symm
            have s4 := s3.trans u1
            refine ⟨_, rfl, _, rfl, t, _, rfl, SqT.of (s4.2 _ _ ntr e), (show ¬ (HT.sIx 3 0 (some 1) = 0 ∧ HT.sIx 3 3 none = 3) by decide), fun p2 hp2 => ?_⟩
            have u2 := stp_new (o := .tup [v1, v2]) s4.1 hp2
            have n2 := (s4.1.ne hp2).symm
            have s5 := s4.trans u2
            refine ⟨p1, p2, [vo], [v1, v2], rfl, rfl, SqT.of (u2.2 _ _ n1 upd_same), SqT.of upd_same, (fun z => by cases z), (by show 3 ≤ sizeLine; decide), (fun z => by cases z), fun _ p3 hp3 => ?_⟩
            have u3 := stp_new (o := .tup [vo, v1, v2]) s5.1 hp3
            have s6 := s5.trans u3
            exact fin p3 vo v1 v2 dd d1 d2 _ (s5.1.ne hp3).symm (nox hX s5 hp3) upd_same (vdo.mono (u1.trans (u2.trans u3))) (w1.mono s6) (w2.mono s6) (bo.mono (by omega)) b1.up b2.up s6
          refine ifF (vF ha) ?_
          by_cases ha1 : a = 1
          · subst ha1
            refine ⟨_, rfl, _, rfl, _, rfl, t, _, rfl, SqT.of (s2.2 _ _ ntr e), (show ¬ (HT.sIx 3 0 none = 0 ∧ HT.sIx 3 3 (some 1) = 3) by decide), fun p1 hp1 => ?_⟩
            have u1 := stp_new (o := .tup [v0]) s2.1 hp1
            have n1 := (s2.1.ne hp1).symm
            have s3 := s2.trans u1
            refine ⟨_, rfl, _, rfl, _, rfl, t, _, _, _, rfl, rfl, .inl (.inl (s3.2 _ _ ntr e)), (show atI _ ((1 : Nat) : Int) = _ from atI_nat rfl), j, r, v1, d1, X, by omega, rfl, hX.mono s3, s3.1, w1.mono s3, b1, fun vo dd H3 vdo bo t3 => ⟨(by show 1 ≤ sizeLine; decide), fun p2 hp2 => ?_⟩⟩
            have s4 := s3.trans t3
            have u2 := stp_new (o := .tup [vo]) s4.1 hp2
            have n2 := (s4.1.ne hp2).symm
            have s5 := s4.trans u2
            refine ⟨p1, p2, [v0], [vo], rfl, rfl, SqT.of ((t3.trans u2).2 _ _ n1 upd_same), SqT.of upd_same, (fun z => by cases z), (by show 2 ≤ sizeLine; decide), (fun z => by cases z), fun _ p3 hp3 => ?_⟩
            have u3 := stp_new (o := .tup [v0, vo]) s5.1 hp3
            have n3 := (s5.1.ne hp3).symm
            have s6 := s5.trans u3
            refine ⟨_, rfl, _, rfl, _, _, rfl, rfl, _, rfl, t, _, rfl, SqT.of (s6.2 _ _ ntr e), (show ¬ (HT.sIx 3 0 (some 2) = 0 ∧ HT.sIx 3 3 none = 3) by decide), fun p4 hp4 => ?_⟩
            have u4 := stp_new (o := .tup [v2]) s6.1 hp4
            have s7 := s6.trans u4
            refine ⟨p3, p4, [v0, vo], [v2], rfl, rfl, SqT.of (u4.2 _ _ n3 upd_same), SqT.of upd_same, (fun z => by cases z), (by show 3 ≤ sizeLine; decide), (fun z => by cases z), fun _ p5 hp5 => ?_⟩
            have u5 := stp_new (o := .tup [v0, vo, v2]) s7.1 hp5
            have s8 := s7.trans u5
            exact fin p5 v0 vo v2 d0 dd d2 _ (s7.1.ne hp5).symm (nox hX s7 hp5) upd_same (w0.mono s8) (vdo.mono (u2.trans (u3.trans (u4.trans u5)))) (w2.mono s8) b0.up bo b2.up s8
          · obtain rfl : a = 2 := by omega
            refine ⟨_, rfl, _, rfl, _, rfl, t, _, rfl, SqT.of (s2.2 _ _ ntr e), (show ¬ (HT.sIx 3 0 none = 0 ∧ HT.sIx 3 3 (some 2) = 3) by decide), fun p1 hp1 => ?_⟩
            have u1 := stp_new (o := .tup [v0, v1]) s2.1 hp1
            have n1 := (s2.1.ne hp1).symm
            have s3 := s2.trans u1
            refine ⟨_, rfl, _, rfl, _, rfl, t, _, _, _, rfl, rfl, .inl (.inl (s3.2 _ _ ntr e)), (show atI _ ((2 : Nat) : Int) = _ from atI_nat rfl), j, r, v2, d2, X, by omega, rfl, hX.mono s3, s3.1, w2.mono s3, b2, fun vo dd H3 vdo bo t3 => ⟨(by show 1 ≤ sizeLine; decide), fun p2 hp2 => ?_⟩⟩
            have s4 := s3.trans t3
            have u2 := stp_new (o := .tup [vo]) s4.1 hp2
            have n2 := (s4.1.ne hp2).symm
            have s5 := s4.trans u2
            refine ⟨p1, p2, [v0, v1], [vo], rfl, rfl, SqT.of ((t3.trans u2).2 _ _ n1 upd_same), SqT.of upd_same, (fun z => by cases z), (by show 3 ≤ sizeLine; decide), (fun z => by cases z), fun _ p3 hp3 => ?_⟩
            have u3 := stp_new (o := .tup [v0, v1, vo]) s5.1 hp3
            have n3 := (s5.1.ne hp3).symm
            have s6 := s5.trans u3
            refine ⟨_, rfl, _, rfl, _, _, rfl, rfl, _, rfl, t, _, rfl, SqT.of (s6.2 _ _ ntr e), (show ¬ (HT.sIx 3 0 (some 3) = 0 ∧ HT.sIx 3 3 none = 3) by decide), fun p4 hp4 => ?_⟩
            have u4 := stp_new (o := .tup []) s6.1 hp4
            have s7 := s6.trans u4
            refine ⟨p3, p4, [v0, v1, vo], [], rfl, rfl, SqT.of (u4.2 _ _ n3 upd_same), SqT.of upd_same, (fun z => by cases z), (by show 3 ≤ sizeLine; decide), (fun _ => ?_), fun z => absurd rfl z⟩
            exact fin p3 v0 v1 vo d0 d1 dd _ n3 (nox hX s5 hp3) (u4.2 _ _ n3 upd_same) (w0.mono s7) (w1.mono s7) (vdo.mono (u2.trans (u3.trans u4))) b0.up b1.up bo s7
      | _ => cases ht
end
end K83

set_option Elab.async false
set_option linter.all false
set_option maxRecDepth 100000
set_option maxHeartbeats 4000000
set_option pp.maxSteps 900
namespace K83
open PySem PySem.Spec PyProof.Rows L2 Gu Ex RZ
def Lb : Nat → Nat
  | 0 => 100
  | k + 1 => 3 * Lb k + 20
theorem Lb_up (k : Nat) : Lb k ≤ Lb (k + 1) := by
  show Lb k ≤ 3 * Lb k + 20
  omega
theorem B.bound : ∀ {k : Nat} {d : PyData}, B k d → d.showable = true ∧ d.depth ≤ k + 2 ∧ d.shown.length ≤ Lb k
  | 0, d, h => ⟨h.2.1, h.2.2.1, h.2.2.2⟩
  | k + 1, d, h => by
    rcases h with h | ⟨a, b, c, rfl, h1, h2, h3⟩
    · obtain ⟨x, y, z⟩ := B.bound h
      exact ⟨x, by omega, Nat.le_trans z (Lb_up k)⟩
    · obtain ⟨x1, y1, z1⟩ := B.bound h1
      obtain ⟨x2, y2, z2⟩ := B.bound h2
      obtain ⟨x3, y3, z3⟩ := B.bound h3
      refine ⟨?_, ?_, ?_⟩
      · show (a.showable && (b.showable && (c.showable && true))) = true
        rw [x1, x2, x3]
        rfl
      · show max a.depth (max b.depth (max c.depth 0)) + 1 ≤ k + 1 + 2
        omega
      · have e := tupleText_len_le (PyData.shownAll [a, b, c])
        have z : ((PyData.shownAll [a, b, c]).map (·.length)).sum = a.shown.length + (b.shown.length + (c.shown.length + 0)) := rfl
        have zl : (PyData.shownAll [a, b, c]).length = 3 := rfl
        show (tupleText (PyData.shownAll [a, b, c])).length ≤ 3 * Lb k + 20
        omega
def EnvOk (env : Env1) : Prop := env.length ≤ 4 ∧ ∀ p ∈ env, Wd 8 p.1 ∧ -1000 ≤ p.2 ∧ p.2 ≤ 1000
def pairD (p : Str × Int) : PyData × PyData := (.str p.1, .int p.2)
def envD (env : Env1) : PyData := .dict (env.map pairD)
section
variable {K : PySem.W.Frag} {H : Hp}
theorem keys_dq : ∀ env : Env1, DqAll K H ((env.map kvE).map fun p => kV p.1) ((env.map pairD).map (·.1))
  | [] => .nil
  | p :: r => .cons (.str _) (keys_dq r)
theorem vals_dq : ∀ env : Env1, DqAll K H ((env.map kvE).map (·.2)) ((env.map pairD).map (·.2))
  | [] => .nil
  | p :: r => .cons (.int _) (vals_dq r)
theorem env_sh : ∀ env : Env1, (∀ p ∈ env, Wd 8 p.1 ∧ -1000 ≤ p.2 ∧ p.2 ≤ 1000) → PyData.showableKv (env.map pairD) = true ∧ PyData.depthKv (env.map pairD) = 0 ∧ ((PyData.shownKv (env.map pairD)).map (·.length)).sum + 2 * (PyData.shownKv (env.map pairD)).length ≤ env.length * 200
  | [], _ => ⟨rfl, rfl, Nat.le_refl _⟩
  | p :: r, h => by
    obtain ⟨a, b, c⟩ := env_sh r fun x hx => h x (List.mem_cons_of_mem _ hx)
    obtain ⟨w1, i1, i2⟩ := h p List.mem_cons_self
    have t := tq_int (K := []) (H := fun _ => none) (i := p.2) (by omega) (by omega)
    have l := (lf_str w1).2.2.2.2
    refine ⟨?_, ?_, ?_⟩
    · show ((PyData.str p.1).showable && (PyData.int p.2).showable && PyData.showableKv (r.map pairD)) = true
      rw [t.sh, a]
      rfl
    · show max (max (PyData.str p.1).depth (PyData.int p.2).depth) (PyData.depthKv (r.map pairD)) = 0
      rw [b]
      rfl
    · show ((PyData.str p.1).shown ++ ": " ++ (PyData.int p.2).shown).length + ((PyData.shownKv (r.map pairD)).map (·.length)).sum + 2 * ((PyData.shownKv (r.map pairD)).length + 1) ≤ (r.length + 1) * 200
      have e1 : ((PyData.str p.1).shown ++ ": " ++ (PyData.int p.2).shown).length = (PyData.str p.1).shown.length + 2 + (PyData.int p.2).shown.length := by
        rw [strLen_append, strLen_append]
        rfl
      have := t.ln
      rw [e1]
      omega
theorem tq_env {p : Addr} {env : Env1} (e : H p = some (.dK (env.map kvE))) (eo : EnvOk env) : Tq K H (.ref p) (envD env) 1 1000 := by
  obtain ⟨a, b, c⟩ := env_sh env eo.2
  have l := eo.1
  refine ⟨.dct e (keys_dq env) (vals_dq env), a, ?_, ?_⟩
  · show PyData.depthKv (env.map pairD) + 1 ≤ 1
    rw [b]
    exact Nat.le_refl _
  · have z := dictText_len_le (PyData.shownKv (env.map pairD))
    show (dictText (PyData.shownKv (env.map pairD))).length ≤ 1000
    omega
theorem tq_val {v : V} {d : PyData} (hv : Tr H v d) (hb : B 9 d) : Tq K H v d 11 2200000 := by
  obtain ⟨a, b, c⟩ := hb.bound
  exact ⟨hv.dq, a, b, Nat.le_trans c (by decide)⟩
theorem tq_two {L : Addr} {v v2 : V} {d d2 : PyData} (e : H L = some (.lst [v, v2])) (t1 : Tq K H v d 11 2200000) (t2 : Tq K H v2 d2 11 2200000) : Tq K H (.ref L) (.list [d, d2]) 12 5000000 := by
  refine ⟨.lst (SqL.of e) (.cons t1.dq (.cons t2.dq .nil)), ?_, ?_, ?_⟩
  · show (d.showable && (d2.showable && true)) = true
    rw [t1.sh, t2.sh]
    rfl
  · show max d.depth (max d2.depth 0) + 1 ≤ 12
    have := t1.dp
    have := t2.dp
    omega
  · have z := listText_len_le (PyData.shownAll [d, d2])
    have e : ((PyData.shownAll [d, d2]).map (·.length)).sum = d.shown.length + (d2.shown.length + 0) := rfl
    have e2 : (PyData.shownAll [d, d2]).length = 2 := rfl
    have := t1.ln
    have := t2.ln
    show (listText (PyData.shownAll [d, d2])).length ≤ 5000000
    omega
theorem tq_four {L : Addr} {v0 v1 v2 v3 : V} {d0 d1 d2 d3 : PyData} (e : H L = some (.lst [v0, v1, v2, v3])) (t0 : Tq K H v0 d0 0 41) (t1 : Tq K H v1 d1 11 2200000) (t2 : Tq K H v2 d2 0 41) (t3 : Tq K H v3 d3 0 41) : Tq K H (.ref L) (.list [d0, d1, d2, d3]) 12 5000000 := by
  refine ⟨.lst (SqL.of e) (.cons t0.dq (.cons t1.dq (.cons t2.dq (.cons t3.dq .nil)))), ?_, ?_, ?_⟩
  · show (d0.showable && (d1.showable && (d2.showable && (d3.showable && true)))) = true
    rw [t0.sh, t1.sh, t2.sh, t3.sh]
    rfl
  · show max d0.depth (max d1.depth (max d2.depth (max d3.depth 0))) + 1 ≤ 12
    have := t0.dp
    have := t1.dp
    have := t2.dp
    have := t3.dp
    omega
  · have z := listText_len_le (PyData.shownAll [d0, d1, d2, d3])
    have e : ((PyData.shownAll [d0, d1, d2, d3]).map (·.length)).sum = d0.shown.length + (d1.shown.length + (d2.shown.length + (d3.shown.length + 0))) := rfl
    have e2 : (PyData.shownAll [d0, d1, d2, d3]).length = 4 := rfl
    have := t0.ln
    have := t1.ln
    have := t2.ln
    have := t3.ln
    show (listText (PyData.shownAll [d0, d1, d2, d3])).length ≤ 5000000
    omega
end
def Mx : Nat → Int
  | 0 => 1000000000000
  | k + 1 => 2 * Mx k
theorem Mx_pos : ∀ k, 1000000000000 ≤ Mx k
  | 0 => Int.le_refl _
  | k + 1 => by
    have := Mx_pos k
    show _ ≤ 2 * Mx k
    omega
theorem look_le {env : Env1} (h : ∀ p ∈ env, Wd 8 p.1 ∧ -1000 ≤ p.2 ∧ p.2 ≤ 1000) (x : Str) : -1000 ≤ lookE env x ∧ lookE env x ≤ 1000 := by
  unfold lookE
  cases e : env.find? fun p => decide (p.1 = x) with
  | none => exact ⟨by decide, by decide⟩
  | some p => exact (h p (List.mem_of_find?_eq_some e)).2
theorem calc_le {w : Str} {x y m : Int} (m1 : 1 ≤ m) (x1 : -m ≤ x) (x2 : x ≤ m) (y1 : -m ≤ y) (y2 : y ≤ m) : -(2 * m) ≤ calcI w x y ∧ calcI w x y ≤ 2 * m := by
  unfold calcI
  split
  · omega
  · split
    · omega
    · split
      · split <;> omega
      · split <;> omega
theorem wor_le {env : Env1} (h : ∀ p ∈ env, Wd 8 p.1 ∧ -1000 ≤ p.2 ∧ p.2 ≤ 1000) : ∀ k d, withinB k d = true → -(Mx k) ≤ wor env k d ∧ wor env k d ≤ Mx k
  | 0, _, z => by cases z
  | k + 1, d, wi => by
    have mp := Mx_pos k
    have mp2 := Mx_pos (k + 1)
    cases d with
    | str x =>
      have := look_le h x
      show -(Mx (k + 1)) ≤ lookE env x ∧ lookE env x ≤ Mx (k + 1)
      omega
    | int i =>
      have z : -1000000000000 ≤ i ∧ i ≤ 1000000000000 := of_decide_eq_true wi
      show -(Mx (k + 1)) ≤ i ∧ i ≤ Mx (k + 1)
      omega
    | tuple ds =>
      have wi' : (match shape3 ds with
        | some (w, a, b) => decide (w ∈ ops) && (withinB k a && withinB k b)
        | none => false) = true := wi
      obtain ⟨wd, d1, d2, rfl⟩ : ∃ wd d1 d2, ds = [.str wd, d1, d2] := by
        unfold shape3 at wi'
        split at wi'
        · rename_i h2
          split at h2
          · exact ⟨_, _, _, rfl⟩
          · cases h2
        · cases wi'
      have wi2 : (decide (wd ∈ ops) && (withinB k d1 && withinB k d2)) = true := wi'
      rw [Bool.and_eq_true, Bool.and_eq_true] at wi2
      obtain ⟨_, w1, w2⟩ := wi2
      obtain ⟨a1, a2⟩ := wor_le h k d1 w1
      obtain ⟨b1, b2⟩ := wor_le h k d2 w2
      exact calc_le (by omega) a1 a2 b1 b2
    | _ => cases wi
end K83

set_option Elab.async false
set_option linter.all false
set_option maxRecDepth 100000
set_option maxHeartbeats 4000000
set_option pp.maxSteps 900
namespace K83
open PySem PySem.Spec PyProof.Rows L2 Gu Ex RZ
/-- what the law asks value_of to tell -/
def dueD (env : Env1) (d : PyData) : PyData := if withinB 6 d = true then .list [.str "value", .int (wor env 6 d)] else .list [.str "invalid", d, .bool true, .bool false]
theorem tq_mono {K : PySem.W.Frag} {H : Hp} {v : V} {d : PyData} {n m : Nat} (t : Tq K H v d n m) (h1 : n ≤ 11) (h2 : m ≤ 2200000) : Tq K H v d 11 2200000 := t.mono h1 h2
theorem tq_word {K : PySem.W.Frag} {H : Hp} (x : Str) (h : (reprText x).length ≤ 41) : Tq K H (.str x) (.str x) 0 41 := ⟨.str _, rfl, Nat.le_refl _, h⟩
theorem due_yes {K : PySem.W.Frag} {H : Hp} {D : Addr} {env : Env1} {d : PyData} (eo : EnvOk env) (w : withinB 6 d = true) (e : H D = some (.lst [.str "value", .int (wor env 6 d)])) : Tq K H (.ref D) (dueD env d) 12 5000000 := by
  unfold dueD
  rw [if_pos w]
  have z := wor_le eo.2 6 d w
  have m6 : Mx 6 = 64000000000000 := by decide
  exact tq_two e (tq_mono (tq_word "value" (by decide +kernel)) (by decide) (by decide)) (tq_mono (tq_int (by omega) (by omega)) (by decide) (by decide))
theorem due_no {K : PySem.W.Frag} {H : Hp} {D : Addr} {v : V} {env : Env1} {d : PyData} (w : withinB 6 d = false) (t : Tq K H v d 11 2200000) (e : H D = some (.lst [.str "invalid", v, .bl true, .bl false])) : Tq K H (.ref D) (dueD env d) 12 5000000 := by
  unfold dueD
  rw [if_neg (by rw [w]; decide)]
  exact tq_four e (tq_word "invalid" (by decide +kernel)) t (tq_bl true) (tq_bl false)
section
variable {P : Program} {w : World} {K : PySem.W.Frag} {mg : Str → Option Value} {base : Heap} {f : Addr} {fd : FuncData}
def spRight : Sp := fun vs H Q _ => ∃ (v : V) (d : PyData) (p : Addr) (env : Env1), vs = [v, .ref p] ∧ Tr H v d ∧ B 9 d ∧ H p = some (.dK (env.map kvE)) ∧ EnvOk env ∧ ∀ H', Same H H' → Q (.bl true) H'
theorem sc__law_right : FnScope ["_law_value", "_law_numbers", "_law_due", "_law_turn", "_law_shown", "_law_is_right"] ["_law_value", "_law_numbers"] (defScope (top 41)) := ⟨rfl, rfl, rfl, by decide +kernel, rfl, by decide +kernel, by decide +kernel⟩
theorem ok_right (T : Tx w K mg) (D_is_expression : Df P w K mg base 10 "is_expression" ["value"] spE) (D_is_program : Df P w K mg base 14 "is_program" ["value"] spProg) (D__law_depth : Df P w K mg base 12 "_law_depth" ["_law_value"] (spDp 10))
    (D__law_worth : Df P w K mg base 9 "_law_worth" ["_law_value", "_law_numbers"] (spWo 7)) (D__law_told : Df P w K mg base 12 "_law_told" ["_law_value", "_law_numbers"] spTold)
    (F : FnP K "_law_right" "_law_right" (top 41) f fd) : FnG P w K mg base CX0 15 f fd ["_law_value", "_law_numbers"] spRight := by
  refine okG F sc__law_right (fun vs H Q E h => ?_) (fun cdv A outer s H vs Q E hr h => ⟨_, PSs.nox (pss_cons (ps_par (by rfl) sc__law_right.nd (i := 4) (j := 5) rfl rfl (by decide) rfl rfl (pa_cons (pe_callB (r := rReprQ K) (id := "repr") (call_reprQ hr T.sys) (by rfl) T.n_repr (by decide +kernel) (pa_cons (pe_lst (pa_cons (pv 0) (pa_cons (pv 1) pa_nil))) pa_nil)) (pa_cons (pe_cmpR op_le (pcall D__law_depth hr.r (pa_cons (pv 0) pa_nil)) pe_int (nomark _)) pa_nil)) (by rfl)) (pss_cons (ps_set (i := 2) sc__law_right.nd rfl (by first | exact Or.inl rfl | exact Or.inr rfl) (pe_ifExp (pt_val (pv 5)) (pe_lst (pa_cons pe_str (pa_cons (pcall D__law_worth hr.r (pa_cons (pv 0) (pa_cons (pv 1) pa_nil))) pa_nil))) (pe_lst (pa_cons pe_str (pa_cons (pv 0) (pa_cons pe_bl (pa_cons pe_bl pa_nil))))))) (pss_cons (ps_for PassesOwn.never rfl (pi_range1 rfl T.n_range (pa_cons pe_int pa_nil)) (pg_name (i := 3) sc__law_right.nd rfl (by first | exact Or.inl rfl | exact Or.inr rfl)) (pss_one (ps_if (PW.pt (pw_or (pt_cmpR op_ne (pe_callB (r := rReprQ K) (id := "repr") (call_reprQ hr T.sys) (by rfl) T.n_repr (by decide +kernel) (pa_cons (pcall D_is_expression hr.r (pa_cons (pv 0) pa_nil)) pa_nil)) (pe_callB (r := rReprQ K) (id := "repr") (call_reprQ hr T.sys) (by rfl) T.n_repr (by decide +kernel) (pa_cons (pv 5) pa_nil)) (nomark _)) (pw_or1 (pt_cmpR op_ne (pe_callB (r := rReprQ K) (id := "repr") (call_reprQ hr T.sys) (by rfl) T.n_repr (by decide +kernel) (pa_cons (pcall D__law_told hr.r (pa_cons (pv 0) (pa_cons (pv 1) pa_nil))) pa_nil)) (pe_callB (r := rReprQ K) (id := "repr") (call_reprQ hr T.sys) (by rfl) T.n_repr (by decide +kernel) (pa_cons (pv 2) pa_nil)) (nomark _))))) (pss_one (ps_ret pe_bl)) pss_nil))) (pss_cons (ps_if (pt_cmpR op_ne (pe_callB (r := rReprQ K) (id := "repr") (call_reprQ hr T.sys) (by rfl) T.n_repr (by decide +kernel) (pa_cons (pcall D_is_program hr.r (pa_cons (pe_lst (pa_cons (pe_tup (pa_cons pe_str (pa_cons (pv 0) pa_nil))) pa_nil)) pa_nil)) pa_nil)) (pe_callB (r := rReprQ K) (id := "repr") (call_reprQ hr T.sys) (by rfl) T.n_repr (by decide +kernel) (pa_cons (pv 5) pa_nil)) (nomark _)) (pss_one (ps_ret pe_bl)) pss_nil) (pss_one (ps_ret (pe_cmpR op_eq (pe_callB (r := rReprQ K) (id := "repr") (call_reprQ hr T.sys) (by rfl) T.n_repr (by decide +kernel) (pa_cons (pe_lst (pa_cons (pv 0) (pa_cons (pv 1) pa_nil))) pa_nil)) (pv 4) (nomark _)))))))), ?_⟩)
  · obtain ⟨v, d, p, env, rfl, _⟩ := h
    rfl
  · obtain ⟨v, d, p, env, rfl, hv, hb, hp, eo, q⟩ := h
    refine ⟨_, rfl, _, rfl, (by show 2 ≤ sizeLine; decide), fun L hL => ?_⟩
    have s1 := same_upd (o := .lst [v, .ref p]) hL
    have t1 : Tq K (upd H L (.lst [v, .ref p])) (.ref L) (.list [d, envD env]) 12 5000000 := tq_two upd_same (tq_val (hv.same s1) hb) (tq_mono (tq_env (s1 _ _ hp) eo) (by decide) (by decide))
    refine ⟨_, _, rfl, t1.dq, t1.sh, Nat.le_trans t1.dp (by decide), Nat.le_trans t1.ln (by decide), ?_⟩
    refine ⟨_, rfl, 9, v, d, by decide, rfl, hv.same s1, hb, fun r H2 dp s2 => ⟨_, _, rfl, rfl, _, _, rfl, ?_⟩⟩
    have eb : decide (r ≤ 6) = withinB 6 d := by
      have z := dp.2.2 6 (by decide)
      cases w6 : withinB 6 d with
      | true => exact decide_eq_true (z.mpr w6)
      | false => exact decide_eq_false fun y => by rw [z.mp y] at w6; cases w6
    dsimp only
    rw [eb]
    have s12 := s1.trans s2
    refine join2 (fun (D : Addr) (G : Hp) => Same H G ∧ Tq K G (.ref D) (dueD env d) 12 5000000) (R := ?R) (fun tail => ?main) ?tl
    case main =>
      refine ⟨_, rfl, _, rfl, ?_⟩
      by_cases w6 : withinB 6 d = true
      case pos =>
        refine ifT w6 ?_
        refine ⟨_, rfl, _, rfl, 6, v, d, p, env, by decide, rfl, hv.same s12, s12 _ _ hp, w6, fun H3 s3 => ⟨(by show 2 ≤ sizeLine; decide), fun D hD => ?_⟩⟩
        have s4 := s3.trans (same_upd (o := .lst [.str "value", .int (wor env 6 d)]) hD)
        exact tail D _ ⟨s12.trans s4, due_yes eo w6 upd_same⟩
      case neg =>
        have w7 := eq_false_of_ne_true w6
        refine ifF w7 ?_
        refine ⟨_, rfl, (by show 4 ≤ sizeLine; decide), fun D hD => ?_⟩
        have s4 := same_upd (o := .lst [.str "invalid", v, .bl true, .bl false]) hD
        have s5 := s12.trans s4
        exact tail D _ ⟨s5, due_no w7 (tq_val (hv.same s5) hb) upd_same⟩
    case tl =>
      rintro D G ⟨sG, tD⟩
      refine ⟨2, rfl, by decide, by decide, ?_⟩
      refine for_it (walk_range (lo := 0) (n := 2)) (fun i σ H' => (∃ x3, σ = [some v, some (.ref p), some (.ref D), x3, some (.str (PyData.list [d, envD env]).shown), some (.bl (withinB 6 d))]) ∧ Same G H') ⟨⟨_, rfl⟩, Same.refl G⟩ (fun _ _ _ _ _ => trivial) ?_ ?_
      · rintro i x σ H3 _ hi ⟨⟨x3, rfl⟩, sm⟩ ⟨rfl, rfl⟩
        have sg := sG.trans sm
        have tb : ∀ {H : Hp}, Tq K H (.bl (withinB 6 d)) (.bool (withinB 6 d)) 0 41 := tq_bl _
        refine ⟨_, rfl, v, d, rfl, hv.same sg, fun H4 s4 => ?_⟩
        have tb4 := tb (H := H4)
        refine ⟨_, _, rfl, tb4.dq, tb4.sh, Nat.le_trans tb4.dp (by decide), Nat.le_trans tb4.ln (by decide), _, rfl, _, _, rfl, tb4.dq, tb4.sh, Nat.le_trans tb4.dp (by decide), Nat.le_trans tb4.ln (by decide), rfl, _, rfl, ifF (by rw [decide_eq_true rfl]; rfl) ?_⟩
        have sg4 := sg.trans s4
        have fin : ∀ t H5, Same H4 H5 → Tq K H5 (.ref t) (dueD env d) 12 5000000 → Tq K H5 (.ref D) (dueD env d) 12 5000000 := fun t H5 s5 _ => tD.same ((sm.trans s4).trans s5)
        refine ⟨_, rfl, _, rfl, v, d, p, env, rfl, hv.same sg4, sg4 _ _ hp, fun w6 t H5 s5 ht => ?_, fun w6 t H5 s5 ht => ?_⟩
        · have tt : Tq K H5 (.ref t) (dueD env d) 12 5000000 := due_yes eo w6 ht
          have td := fin t H5 s5 tt
          exact ⟨_, _, rfl, tt.dq, tt.sh, Nat.le_trans tt.dp (by decide), Nat.le_trans tt.ln (by decide), _, rfl, _, _, rfl, td.dq, td.sh, Nat.le_trans td.dp (by decide), Nat.le_trans td.ln (by decide), rfl, _, rfl, ifF (by rw [decide_eq_true rfl]; rfl) ⟨⟨_, rfl⟩, (sm.trans s4).trans s5⟩⟩
        · have tt : Tq K H5 (.ref t) (dueD env d) 12 5000000 := due_no w6 (tq_val (hv.same (sg4.trans s5)) hb) ht
          have td := fin t H5 s5 tt
          exact ⟨_, _, rfl, tt.dq, tt.sh, Nat.le_trans tt.dp (by decide), Nat.le_trans tt.ln (by decide), _, rfl, _, _, rfl, td.dq, td.sh, Nat.le_trans td.dp (by decide), Nat.le_trans td.ln (by decide), rfl, _, rfl, ifF (by rw [decide_eq_true rfl]; rfl) ⟨⟨_, rfl⟩, (sm.trans s4).trans s5⟩⟩
      · rintro σ H3 ⟨⟨x3, rfl⟩, sm⟩
        have sg := sG.trans sm
        have tb : ∀ {H : Hp}, Tq K H (.bl (withinB 6 d)) (.bool (withinB 6 d)) 0 41 := tq_bl _
        refine ⟨_, rfl, (by show 2 ≤ sizeLine; decide), fun t ht => ⟨(by show 1 ≤ sizeLine; decide), fun l hl => ?_⟩⟩
        have u1 := same_upd (o := .tup [.str "out", v]) ht
        have u2 := same_upd (o := .lst [.ref t]) hl
        have sg2 := sg.trans (u1.trans u2)
        refine ⟨l, t, v, d, rfl, upd_same, u2 _ _ upd_same, hv.same sg2, fun H4 s4 => ?_⟩
        have tb4 := tb (H := H4)
        refine ⟨_, _, rfl, tb4.dq, tb4.sh, Nat.le_trans tb4.dp (by decide), Nat.le_trans tb4.ln (by decide), _, rfl, _, _, rfl, tb4.dq, tb4.sh, Nat.le_trans tb4.dp (by decide), Nat.le_trans tb4.ln (by decide), rfl, _, rfl, ifF (by rw [decide_eq_true rfl]; rfl) ?_⟩
        have sg4 := sg2.trans s4
        refine ⟨_, rfl, _, rfl, (by show 2 ≤ sizeLine; decide), fun L2 hL2 => ?_⟩
        have s9 := same_upd (o := .lst [v, .ref p]) hL2
        have sg9 := sg4.trans s9
        have t9 : Tq K (upd H4 L2 (.lst [v, .ref p])) (.ref L2) (.list [d, envD env]) 12 5000000 := tq_two upd_same (tq_val (hv.same sg9) hb) (tq_mono (tq_env (sg9 _ _ hp) eo) (by decide) (by decide))
        refine ⟨_, _, rfl, t9.dq, t9.sh, Nat.le_trans t9.dp (by decide), Nat.le_trans t9.ln (by decide), _, rfl, rfl, ?_⟩
        have e : decide (V.str (PyData.list [d, envD env]).shown = V.str (PyData.list [d, envD env]).shown) = true := decide_eq_true rfl
        rw [e]
        exact q _ sg9
end
end K83

set_option Elab.async false
set_option linter.all false
set_option maxRecDepth 100000
set_option maxHeartbeats 4000000
set_option pp.maxSteps 900
namespace K83
open PySem PySem.Spec PyProof.Rows L2 Gu Ex RZ
def okE (p : Str × Int) : Prop := Wd 8 p.1 ∧ -1000 ≤ p.2 ∧ p.2 ≤ 1000
theorem put_env {acc : Env1} {p : Str × Int} (h : ∀ x ∈ acc, okE x) (hp : okE p) : ∃ env : Env1, putK (acc.map kvE) (kvE p).1 (kvE p).2 = env.map kvE ∧ env.length ≤ acc.length + 1 ∧ ∀ x ∈ env, okE x := by
  unfold putK
  split
  · refine ⟨acc.map fun q => if q.1 = p.1 then (q.1, p.2) else q, ?_, by rw [List.length_map]; omega, fun x hx => ?_⟩
    · rw [List.map_map, List.map_map]
      refine List.map_congr_left fun q _ => ?_
      by_cases e : q.1 = p.1
      · simp [kvE, e]
      · simp [kvE, e]
    · obtain ⟨q, hq, rfl⟩ := List.mem_map.mp hx
      split
      · exact ⟨(h q hq).1, hp.2⟩
      · exact h q hq
  · refine ⟨acc ++ [p], by rw [List.map_append]; rfl, by rw [List.length_append]; exact Nat.le_refl _, fun x hx => ?_⟩
    rcases List.mem_append.mp hx with z | z
    · exact h x z
    · rw [List.mem_singleton.mp z]
      exact hp
theorem merge_env : ∀ (more acc : Env1), (∀ x ∈ acc, okE x) → (∀ x ∈ more, okE x) → ∃ env : Env1, mergeK (acc.map kvE) (more.map kvE) = env.map kvE ∧ env.length ≤ acc.length + more.length ∧ ∀ x ∈ env, okE x
  | [], acc, h, _ => ⟨acc, rfl, Nat.le_refl _, h⟩
  | p :: r, acc, h, hm => by
    obtain ⟨e1, q1, l1, o1⟩ := put_env h (hm p List.mem_cons_self)
    obtain ⟨e2, q2, l2, o2⟩ := merge_env r e1 o1 fun x hx => hm x (List.mem_cons_of_mem _ hx)
    refine ⟨e2, ?_, by rw [List.length_cons]; omega, o2⟩
    rw [← q2, ← q1]
    rfl
theorem cut4 (ys : List Str) : ∃ zs : List Str, cutV (ys.map V.str) none (some 4) = zs.map V.str ∧ zs.length ≤ 4 ∧ ∀ y ∈ zs, y ∈ ys := by
  refine ⟨(ys.drop (HT.sIx (ys.map V.str).length 0 none)).take (HT.sIx (ys.map V.str).length (ys.map V.str).length (some 4) - HT.sIx (ys.map V.str).length 0 none), ?_, ?_, fun y hy => List.mem_of_mem_drop (List.mem_of_mem_take hy)⟩
  · unfold cutV
    rw [List.map_take, List.map_drop]
  · rw [List.length_take]
    have h0 : HT.sIx (ys.map V.str).length 0 none = 0 := rfl
    have h1 : HT.sIx (ys.map V.str).length (ys.map V.str).length (some 4) ≤ 4 := by
      unfold HT.sIx
      simp
      omega
    omega
section
variable {P : Program} {w : World} {K : PySem.W.Frag} {mg : Str → Option Value} {base : Heap} {f : Addr} {fd : FuncData}
def spLaw (K : PySem.W.Frag) : Sp := fun vs H Q _ => ∃ (a : Addr) (ns : List Int), vs = [.ref a] ∧ SqL K H a (ns.map V.int) ∧ ns.length ≤ 63 ∧ ∀ H', Q (.bl true) H'
theorem sc_law : FnScope ["_law_script", "_law_k", "_law_rng_here", "_law_names_here", "_law_numbers", "_law_some", "_law_value", "_law_turn", "_law_name_here"] ["_law_script"] (defScope (top 42)) := ⟨rfl, rfl, rfl, by decide +kernel, rfl, by decide +kernel, by decide +kernel⟩
theorem ok_law (T : Tx w K mg) (D__law_rng : Df P w K mg base 1 "_law_rng" ["_law_script", "_law_k"] (spRng K)) (D__law_draw : Df P w K mg base 1 "_law_draw" ["_law_rng_here", "_law_many"] spDraw)
    (D__law_names : Df P w K mg base 3 "_law_names" ["_law_rng_here", "_law_many", "_law_used"] spNms) (D__law_drawn : Df P w K mg base 11 "_law_drawn" ["_law_rng_here", "_law_names_here", "_law_deep"] (spDr 8))
    (D__law_odd : Df P w K mg base 3 "_law_odd" ["_law_rng_here"] spOdd) (D__law_spoilt : Df P w K mg base 12 "_law_spoilt" ["_law_rng_here", "_law_value"] (spSp 9)) (D__law_right : DfG P w K mg base 15 "_law_right" ["_law_value", "_law_numbers"] spRight)
    (F : FnP K "law" "law" (top 42) f fd) : FnG P w K mg base CX0 16 f fd ["_law_script"] (spLaw K) := by
  obtain ⟨ti, hGI⟩ := T.gI
  obtain ⟨td, hGD⟩ := T.gD
  refine okG F sc_law (fun vs H Q E h => ?_) (fun cdv A outer s H vs Q E hr h => ⟨_, PSs.nox (pss_cons (ps_for PassesOwn.never rfl (pi_range1 rfl T.n_range (pa_cons (pe_callB (call_max2 rfl) (by rfl) T.n_max (by decide +kernel) (pa_cons pe_int (pa_cons (pe_callB (call_min2 rfl) (by rfl) T.n_min (by decide +kernel) (pa_cons pe_int (pa_cons (pe_callB call_len_seq (by rfl) T.n_len (by decide +kernel) (pa_cons (pv 0) pa_nil)) pa_nil))) pa_nil))) pa_nil)) (pg_name (i := 1) sc_law.nd rfl (by first | exact Or.inl rfl | exact Or.inr rfl)) (pss_cons (ps_set (i := 2) sc_law.nd rfl (by first | exact Or.inl rfl | exact Or.inr rfl) (pcall D__law_rng hr.r (pa_cons (pv 0) (pa_cons (pv 1) pa_nil)))) (pss_cons (ps_set (i := 3) sc_law.nd rfl (by first | exact Or.inl rfl | exact Or.inr rfl) (pcall D__law_names hr.r (pa_cons (pv 2) (pa_cons (pe_op op_add pe_int (pcall D__law_draw hr.r (pa_cons (pv 2) (pa_cons pe_int pa_nil)))) (pa_cons (pe_lst pa_nil) pa_nil))))) (pss_cons (ps_set (i := 4) sc_law.nd rfl (by first | exact Or.inl rfl | exact Or.inr rfl) (pe_callTy (call_dictP rfl) (by rfl) T.n_dict (by decide +kernel) (pa_cons (pe_lc (own := [("_law_name_here", 8)]) (g := gName 8) rfl sc_law.nd (pi_list (pe_slice sl_list (pv 3) po_none (po_some pe_int))) (blkOk_by (own := [("_law_name_here", 8)]) (N := ["_law_script", "_law_k", "_law_rng_here", "_law_names_here", "_law_numbers", "_law_some", "_law_value", "_law_turn", "_law_name_here"]) (sc := defScope (top 42)) (by decide +kernel)) (fun _ _ _ _ _ => pg_name (i := 8) sc_law.nd rfl (Or.inl rfl)) (fun _ _ _ _ _ => pts_nil) (fun _ _ _ _ _ => (pe_tup (pa_cons (pv 8) (pa_cons (pe_op op_sub (pcall D__law_draw hr.r (pa_cons (pv 2) (pa_cons pe_int pa_nil))) pe_int) pa_nil))))) pa_nil))) (pss_cons (ps_setLc (i := 5) (own := [("_law_turn", 7)]) (g := gName 7) rfl sc_law.nd rfl rfl (sw_true rfl rfl rfl (by decide +kernel)) (pi_range1 rfl T.n_range (pa_cons pe_int pa_nil)) (blkOk_by (own := [("_law_turn", 7)]) (N := ["_law_script", "_law_k", "_law_rng_here", "_law_names_here", "_law_numbers", "_law_some", "_law_value", "_law_turn", "_law_name_here"]) (sc := defScope (top 42)) (by decide +kernel)) (fun _ _ _ _ _ => pg_name (i := 7) sc_law.nd rfl (Or.inl rfl)) (fun _ _ _ _ _ => pts_nil) (fun _ _ _ _ _ => (pcall D__law_drawn hr.r (pa_cons (pv 2) (pa_cons (pv 3) (pa_cons (pe_op op_add pe_int (pcall D__law_draw hr.r (pa_cons (pv 2) (pa_cons pe_int pa_nil)))) pa_nil)))))) (pss_cons (ps_for PassesOwn.never rfl (pi_list (pe_callTy call_list_of (by rfl) T.n_list (by decide +kernel) (pa_cons (pv 5) pa_nil))) (pg_name (i := 6) sc_law.nd rfl (by first | exact Or.inl rfl | exact Or.inr rfl)) (pss_cons (ps_expr (pe_bm PySem.F.plainAttrs_list PySem.F.slot_list_append PySem.F.type_list_append mt_append (pv 5) (pa_cons (pcall D__law_spoilt hr.r (pa_cons (pv 2) (pa_cons (pv 6) pa_nil))) pa_nil))) (pss_one (ps_expr (pe_bm PySem.F.plainAttrs_list PySem.F.slot_list_append PySem.F.type_list_append mt_append (pv 5) (pa_cons (pcall D__law_spoilt hr.r (pa_cons (pv 2) (pa_cons (pe_ix ix_list (pv 5) (pe_un un_neg pe_int) (fun _ _ => rfl)) pa_nil))) pa_nil)))))) (pss_one (ps_if (pt_not (pt_val (pe_callB (cr_all rfl) (by rfl) T.n_all (by decide +kernel) (pa_cons (pe_lc (own := [("_law_value", 6)]) (g := gName 6) rfl sc_law.nd (pi_list (pe_op op_cat (pv 5) (pe_lst (pa_cons (pcall D__law_odd hr.r (pa_cons (pv 2) pa_nil)) pa_nil)))) (blkOk_by (own := [("_law_value", 6)]) (N := ["_law_script", "_law_k", "_law_rng_here", "_law_names_here", "_law_numbers", "_law_some", "_law_value", "_law_turn", "_law_name_here"]) (sc := defScope (top 42)) (by decide +kernel)) (fun _ _ _ _ _ => pg_name (i := 6) sc_law.nd rfl (Or.inl rfl)) (fun _ _ _ _ _ => pts_nil) (fun _ _ _ _ _ => (pcallG D__law_right hr (pa_cons (pv 6) (pa_cons (pv 4) pa_nil))))) pa_nil)))) (pss_one (ps_ret pe_bl)) pss_nil)))))))) (pss_one (ps_ret (pe_cmpR op_eq (pe_callB (r := rReprQ K) (id := "repr") (call_reprQ hr T.sys) (by rfl) T.n_repr (by decide +kernel) (pa_cons (pe_lst (pa_cons (pe_glob (v := .int 6) rfl hGD ⟨_, rfl⟩) (pa_cons (pe_glob (v := .int 200) rfl hGI ⟨_, rfl⟩) pa_nil))) pa_nil)) pe_str (nomark _))))), ?_⟩)
  · obtain ⟨a, ns, rfl, _⟩ := h
    rfl
  · obtain ⟨a, ns, rfl, hS, hlen, q⟩ := h
    have big : (10 : Int) ^ 40 = 10000000000000000000000000000000000000000 := by decide
    refine ⟨_, rfl, a, _, rfl, .inl hS, _, _, rfl, _, _, rfl, ?_⟩
    obtain ⟨j, ej, j1, j2⟩ : ∃ j : Int, (if (if ((ns.map V.int).length : Int) < 8 then ((ns.map V.int).length : Int) else 8) > 1 then (if ((ns.map V.int).length : Int) < 8 then ((ns.map V.int).length : Int) else 8) else 1) = j ∧ 1 ≤ j ∧ j ≤ 8 := by
      refine ⟨_, rfl, ?_, ?_⟩
      · split <;> omega
      · split <;> split <;> omega
    refine ⟨j, (by rw [ej]), by omega, by omega, ?_⟩
    refine for_it (walk_range (lo := 0) (n := j.toNat)) (fun i σ G => (∃ x1 x2 x3 x4 x5 x6 x7 x8, σ = [some (.ref a), x1, x2, x3, x4, x5, x6, x7, x8]) ∧ Same H G) ⟨⟨none, none, none, none, none, none, none, none, rfl⟩, Same.refl H⟩ (fun _ _ _ _ _ => trivial) ?_ ?_
    · rintro i0 x σ G _ hi ⟨⟨x1, x2, x3, x4, x5, x6, x7, x8, rfl⟩, sm⟩ ⟨rfl, rfl⟩
      have hi8 : i0 < 8 := by omega
      refine ⟨_, rfl, _, rfl, a, ns, i0, (by show [V.ref a, V.int (0 + (i0 : Int))] = _; rw [Int.zero_add]), sm.seq hS, by omega, fun r H1 hr0 sm1 rg => ?_⟩
      have endS : ∀ {G'}, Stp r H1 G' → Same H G' := fun st b o e => by
        have e' := sm b o e
        exact st.2 b o (ne_of_none e' hr0) (sm1 b o e')
      refine ⟨_, rfl, _, rfl, r, 5, rfl, rg, by decide, by omega, fun e H2 e0 e1 s2 => ⟨_, _, rfl, rfl, (by show 0 ≤ sizeLine; decide), fun u hu => ?_⟩⟩
      have nur : u ≠ r := (s2.1.ne hu).symm
      have s3 := s2.new (o := .lst []) hu
      refine ⟨r, u, (1 + e).toNat, (by rw [Int.toNat_of_nonneg (by omega)]; rfl), s3.1, upd_same, nur, by omega, by omega, fun l ys H3 yl yw t3 hl hl0 => ?_⟩
      have s4 := s3.trans t3
      have nlr : l ≠ r := (s3.1.ne hl0).symm
      -- the numbers
      obtain ⟨zs, ez, lz, mz⟩ := cut4 ys
      refine ⟨_, rfl, _, rfl, l, _, rfl, SqL.of hl, fun p4 hp4 => ?_⟩
      rw [ez]
      have n4r : p4 ≠ r := (s4.1.ne hp4).symm
      have t4 := stp_new (o := .lst (zs.map V.str)) s4.1 hp4
      have s5 := s4.trans t4
      refine ⟨p4, rfl, ⟨_, SqL.of upd_same⟩, fun D hD => ?_⟩
      have nDr : D ≠ r := (s5.1.ne hD).symm
      have h4 : (upd H3 p4 (.lst (zs.map V.str))) p4 = some (.lst (zs.map V.str)) := upd_same
      generalize (upd H3 p4 (.lst (zs.map V.str))) = H4 at *
      refine lc_it (walk_list (xs := zs.map V.str)) (fun i G => ∃ (ps : List Addr) (env : Env1), G D = some (.lst (ps.map V.ref)) ∧ ps.length = i ∧ env.length = i ∧ Paired (fun p kv => p ≠ r ∧ p ≠ D ∧ G p = some (.tup [kV kv.1, kv.2])) ps (env.map kvE) ∧ (∀ x ∈ env, okE x) ∧ Stp r H4 G)
        ⟨[], [], upd_same, rfl, rfl, .nil, fun x hx => absurd hx List.not_mem_nil, stp_new s5.1 hD⟩ (fun i G _ ⟨_, _, _, _, _, _, _, st⟩ => SqL.of (st.2 p4 _ n4r h4)) ?_ ?_
      · rintro i v G1 G2 hi2 ⟨ps, env, hD1, pl, el, pr, oe, st⟩ ⟨rfl, hv⟩
        rw [List.getElem?_map] at hv
        obtain ⟨y, hy, rfl⟩ := Option.map_eq_some_iff.mp hv
        have wy := yw y (mz y (List.mem_of_getElem? hy))
        refine ⟨rfl, _, rfl, _, rfl, r, 2001, rfl, st.1, by decide, by omega, fun z G3 z0 z1 t => ⟨_, _, rfl, rfl, (by show 2 ≤ sizeLine; decide), fun pt hpt => ?_⟩⟩
        have st3 := st.trans t
        have npr : pt ≠ r := (st3.1.ne hpt).symm
        have hD3 := t.2 D _ nDr hD1
        have nDp : D ≠ pt := ne_of_none hD3 hpt
        refine ⟨_, (by rw [upd_ne nDp]; exact hD3), small1000 (by rw [List.length_map, pl]; rw [List.length_map] at hi2; omega), ps ++ [pt], env ++ [(y, z - 1000)], ?_, by rw [List.length_append, pl]; rfl, by rw [List.length_append, el]; rfl, ?_, fun x hx => ?_, (st3.trans (stp_new st3.1 hpt)).at hD nDr⟩
        · rw [upd_same, List.map_append]
          rfl
        · rw [List.map_append]
          refine Paired.snoc (Paired.mono (fun p kv h => ?_) pr) ⟨npr, nDp.symm, ?_⟩
          · obtain ⟨h1, h2, h3⟩ := h
            have h5 := t.2 p _ h1 h3
            refine ⟨h1, h2, ?_⟩
            rw [upd_ne h2, upd_ne (ne_of_none h5 hpt)]
            exact h5
          · rw [upd_ne nDp.symm]
            exact upd_same
        · rcases List.mem_append.mp hx with k | k
          · exact oe x k
          · rw [List.mem_singleton.mp k]
            exact ⟨wy, by show -1000 ≤ z - 1000; omega, by show z - 1000 ≤ 1000; omega⟩
      rintro G1 ⟨ps, env, hD1, pl, el, pr, oe, st⟩
      refine ⟨D, ps, env.map kvE, rfl, SqL.of hD1, Paired.mono (fun p kv h => SqT.of h.2.2) pr, fun p hp => ?_⟩
      obtain ⟨env2, em, lm, om⟩ := merge_env env [] (fun x hx => absurd hx List.not_mem_nil) oe
      rw [show mergeK [] (env.map kvE) = env2.map kvE from em]
      have eo : EnvOk env2 := ⟨by rw [List.length_map] at el; show env2.length ≤ 4; have : ([] : Env1).length = 0 := rfl; omega, om⟩
      have s6 := s5.trans st
      have npr : p ≠ r := (s6.1.ne hp).symm
      have s7 := s6.trans (stp_new (o := .dK (env2.map kvE)) s6.1 hp)
      have hp7 : (upd G1 p (.dK (env2.map kvE))) p = some (.dK (env2.map kvE)) := upd_same
      have hl7 := (t4.trans (st.trans (stp_new (o := .dK (env2.map kvE)) s6.1 hp))).2 l _ nlr hl
      generalize (upd G1 p (.dK (env2.map kvE))) = H5 at *
      -- the values
      refine ⟨5, rfl, by decide, by decide, fun S hS0 => ?_⟩
      have nSr : S ≠ r := (s7.1.ne hS0).symm
      have nSp : p ≠ S := ne_of_none hp7 hS0
      refine lc_range (fun i G => ∃ vs, G S = some (.lst vs) ∧ vs.length = i ∧ (∀ v ∈ vs, ∃ d, Vd r (fun b => b = S) G v d ∧ B 7 d) ∧ Stp r H5 G) ⟨[], upd_same, rfl, fun v hv => absurd hv List.not_mem_nil, stp_new s7.1 hS0⟩ ?_ ?_
      · rintro i G hi5 ⟨vs, hS1, vl, ok, st⟩
        have hi6 : i < 5 := hi5
        refine ⟨rfl, _, rfl, _, rfl, _, rfl, r, 7, rfl, st.1, by decide, by omega, fun e G2 e0 e1 t1 => ?_⟩
        have st2 := st.trans t1
        have hS2 := t1.2 S _ nSr hS1
        refine ⟨_, _, rfl, rfl, r, l, ys, (1 + e).toNat, (fun b => b = S), by omega, by omega, by omega, (by rw [Int.toNat_of_nonneg (by omega)]; rfl), (fun b e z => by rw [e, hS2] at z; cases z), st2.1, st2.2 l _ nlr hl7, nlr, by omega, by omega, yw, fun v d G3 vd b t2 => ?_⟩
        have hS3 := t2.2 S _ nSr hS2
        have ag : Ag r (fun b => b = S) G3 (upd G3 S (.lst (vs ++ [v]))) := fun b o n nx e => by
          rw [upd_ne nx]
          exact e
        refine ⟨vs, hS3, small1000 (by omega), vs ++ [v], upd_same, by rw [List.length_append, vl]; rfl, fun x hx => ?_, (st2.trans t2).at hS0 nSr⟩
        rcases List.mem_append.mp hx with k | k
        · obtain ⟨dx, vx, bx⟩ := ok x k
          exact ⟨dx, (vx.mono (t1.trans t2)).agree ag, bx⟩
        · rw [List.mem_singleton.mp k]
          exact ⟨d, vd.agree ag, b.mono (by omega)⟩
      rintro G6 ⟨vs, hS6, vl, ok, st6⟩
      have vl5 : vs.length = 5 := vl
      refine ⟨_, rfl, S, _, rfl, .inl (SqL.of hS6), fun C hC => ?_⟩
      have rg6 := st6.1
      have nCr : C ≠ r := (rg6.ne hC).symm
      have nSC : S ≠ C := ne_of_none hS6 hC
      have tC := stp_new (o := .lst vs) rg6 hC
      refine ⟨C, rfl, ⟨_, SqL.of upd_same⟩, ?_⟩
      refine for_it (walk_list (xs := vs)) (fun i σ G => (∃ x6 x7 x8, σ = [some (.ref a), some (.int (0 + (i0 : Int))), some (.ref r), some (.ref l), some (.ref p), some (.ref S), x6, x7, x8]) ∧ Ag r (fun b => b = S) (upd G6 C (.lst vs)) G ∧ Rng G r ∧ ∃ ws, G S = some (.lst ws) ∧ ws.length = 5 + 2 * i ∧ ∀ v ∈ ws, ∃ d, Vd r (fun b => b = S) G v d ∧ B 9 d)
        ⟨⟨_, _, _, rfl⟩, Ag.refl, tC.1, vs, tC.2 S _ nSr hS6, by omega, fun v hv => ?_⟩ (fun i σ G _ h => SqL.of (h.2.1 C _ nCr nSC.symm upd_same)) ?_ ?_
      · obtain ⟨d, vd, b⟩ := ok v hv
        exact ⟨d, vd.mono tC, b.mono (by decide)⟩
      · rintro i v σ G1 G2 hi5 ⟨⟨x6, x7, x8, rfl⟩, ag, rg1, ws, hw, wl, ok9⟩ ⟨rfl, hv⟩
        obtain ⟨d, vd, b⟩ := ok v (List.mem_of_getElem? hv)
        have vd1 := (vd.mono tC).agree ag
        refine ⟨_, rfl, .inl ⟨rfl, _, SqL.of hw⟩, _, rfl, _, rfl, 7, r, v, d, (fun b => b = S), by decide, rfl, (fun b e z => by rw [e, hw] at z; cases z), rg1, vd1, b, fun v1 d1 G2 vd1 b1 t1 => ?_⟩
        have hS2 := t1.2 S _ nSr hw
        refine ⟨S, _, _, rfl, rfl, hS2, small1000 (by omega), ?_⟩
        have ag2 : Ag r (fun b => b = S) G2 (upd G2 S (.lst (ws ++ [v1]))) := fun b o n nx e => by
          rw [upd_ne nx]
          exact e
        have rg3 : Rng (upd G2 S (.lst (ws ++ [v1]))) r := by
          obtain ⟨x, y, e, z⟩ := t1.1
          exact ⟨x, y, by rw [upd_ne nSr.symm]; exact e, z⟩
        have hS3 : (upd G2 S (.lst (ws ++ [v1]))) S = some (.lst (ws ++ [v1])) := upd_same
        have ag3 := t1.ag.trans ag2
        have vd1' := vd1.agree ag2
        generalize (upd G2 S (.lst (ws ++ [v1]))) = G3 at *
        refine ⟨_, rfl, .inl ⟨rfl, _, SqL.of hS3⟩, _, rfl, _, rfl, _, rfl, S, _, _, _, rfl, rfl, SqL.of hS3, atI_last _ _, 8, r, v1, d1, (fun b => b = S), by decide, rfl, (fun b e z => by rw [e, hS3] at z; cases z), rg3, vd1', b1, fun v2 d2 G4 vd2 b2 t2 => ?_⟩
        have hS4 := t2.2 S _ nSr hS3
        refine ⟨S, _, _, rfl, rfl, hS4, small1000 (by rw [List.length_append, wl, List.length_singleton]; omega), ?_⟩
        have ag4 : Ag r (fun b => b = S) G4 (upd G4 S (.lst (ws ++ [v1] ++ [v2]))) := fun b o n nx e => by
          rw [upd_ne nx]
          exact e
        have rg5 : Rng (upd G4 S (.lst (ws ++ [v1] ++ [v2]))) r := by
          obtain ⟨x, y, e, z⟩ := t2.1
          exact ⟨x, y, by rw [upd_ne nSr.symm]; exact e, z⟩
        refine ⟨⟨_, _, _, rfl⟩, ag.trans (ag3.trans (t2.ag.trans ag4)), rg5, ws ++ [v1] ++ [v2], upd_same, by rw [List.length_append, List.length_append, wl, List.length_singleton, List.length_singleton]; omega, fun x hx => ?_⟩
        rcases List.mem_append.mp hx with k | k
        · rcases List.mem_append.mp k with k | k
          · obtain ⟨dx, vx, bx⟩ := ok9 x k
            exact ⟨dx, vx.agree (ag3.trans (t2.ag.trans ag4)), bx⟩
          · rw [List.mem_singleton.mp k]
            exact ⟨d1, vd1'.agree (t2.ag.trans ag4), b1.up⟩
        · rw [List.mem_singleton.mp k]
          exact ⟨d2, vd2.agree ag4, b2⟩
      · rintro σ G7 ⟨⟨x6, x7, x8, rfl⟩, ag, rg7, ws, hw, wl, ok9⟩
        have wl15 : ws.length = 15 := by rw [wl, vl5]
        refine ⟨_, rfl, _, rfl, r, (fun b => b = S), rfl, (fun b e z => by rw [e, hw] at z; cases z), rg7, fun vo dd G8 vdo bo t8 => ⟨(by show 1 ≤ sizeLine; decide), fun q1 hq1 => ?_⟩⟩
        have hS8 := t8.2 S _ nSr hw
        have u1 := same_upd (o := .lst [vo]) hq1
        refine ⟨S, q1, _, _, rfl, rfl, u1 _ _ hS8, upd_same, (by rw [wl15]; show 15 + 1 ≤ sizeLine; decide), fun F1 hF1 => ⟨F1, rfl, ⟨_, SqL.of upd_same⟩, fun D2 hD2 => ?_⟩⟩
        have u2 := u1.trans (same_upd (o := .lst (ws ++ [vo])) hF1)
        have hF2 : (upd (upd G8 q1 (.lst [vo])) F1 (.lst (ws ++ [vo]))) F1 = some (.lst (ws ++ [vo])) := upd_same
        generalize (upd (upd G8 q1 (.lst [vo])) F1 (.lst (ws ++ [vo]))) = M8 at *
        have ag8 : Ag r (fun b => b = S) G8 M8 := fun b o _ _ e => u2 b o e
        have ok10 : ∀ v ∈ ws ++ [vo], ∃ d, Vd r (fun b => b = S) M8 v d ∧ B 9 d := fun v hv => by
          rcases List.mem_append.mp hv with k | k
          · obtain ⟨dx, vx, bx⟩ := ok9 v k
            exact ⟨dx, (vx.mono t8).agree ag8, bx⟩
          · rw [List.mem_singleton.mp k]
            exact ⟨dd, vdo.agree ag8, bo.mono (by decide)⟩
        have agM : Ag r (fun b => b = S) H5 M8 := (st6.trans tC).ag.trans (ag.trans (t8.ag.trans ag8))
        have hp8 := agM p _ npr nSp hp7
        refine lc_it (walk_list (xs := ws ++ [vo])) (fun i G => G D2 = some (.lst (trues i)) ∧ Same M8 G) ⟨upd_same, same_upd hD2⟩ (fun i G _ h => SqL.of (h.2 _ _ hF2)) ?_ ?_
        · rintro i v G1 G2 hi6 ⟨e1, e2⟩ ⟨rfl, hv⟩
          obtain ⟨d, vd, b⟩ := ok10 v (List.mem_of_getElem? hv)
          have hl16 : (ws ++ [vo]).length = 16 := by rw [List.length_append, wl15]; rfl
          refine ⟨rfl, _, rfl, _, rfl, v, d, p, env2, rfl, vd _ (fun b o _ _ e => e2 b o e), b, e2 _ _ hp8, eo, fun G2 m2 => ?_⟩
          refine ⟨_, m2 _ _ e1, small1000 (by rw [trues_len]; omega), by rw [upd_same, trues_more], fun b o e => ?_⟩
          rw [upd_ne (ne_of_none e hD2)]
          exact m2 _ _ (e2 b o e)
        · rintro G9 ⟨e1, e2⟩
          refine ⟨D2, List.replicate (ws ++ [vo]).length true, rfl, SqL.of e1, true, congrArg V.bl (all_trues _), iteF ⟨⟨_, _, _, _, _, _, _, _, rfl⟩, fun b o e => ?_⟩⟩
          have e' := sm b o e
          have nb := ne_of_none e' hr0
          have e5 := s7.2 b o nb (sm1 b o e')
          exact e2 _ _ (agM b o nb (ne_of_none e5 hS0) e5)
    · rintro σ G ⟨⟨x1, x2, x3, x4, x5, x6, x7, x8, rfl⟩, sm⟩
      refine ⟨(by show 2 ≤ sizeLine; decide), fun L hL => ?_⟩
      have t : Tq K (upd G L (.lst [.int 6, .int 200])) (.ref L) (.list [.int 6, .int 200]) 12 5000000 := tq_two upd_same (tq_mono (tq_int (by decide) (by decide)) (by decide) (by decide)) (tq_mono (tq_int (by decide) (by decide)) (by decide) (by decide))
      refine ⟨_, _, rfl, t.dq, t.sh, Nat.le_trans t.dp (by decide), Nat.le_trans t.ln (by decide), rfl, ?_⟩
      have e : decide (V.str (PyData.list [.int 6, .int 200]).shown = V.str "[6, 200]") = true := decide_eq_true (congrArg V.str (by decide +kernel))
      rw [e]
      exact q _
end
end K83

set_option Elab.async false
set_option linter.all false
set_option maxRecDepth 100000
set_option maxHeartbeats 4000000
set_option pp.maxSteps 900
namespace K83
open PySem PySem.Spec PyProof.Rows L2 Gu Ex RZ
section
variable {P : Program} {w : World} {K : PySem.W.Frag} {mg : Str → Option Value} {base : Heap} {f : Addr} {fd : FuncData}
theorem sc_InvalidValue_init : FnScope ["self", "value"] ["self", "value"] (defScope (inClass (top 4) 0)) := ⟨rfl, rfl, rfl, by decide +kernel, rfl, by decide +kernel, by decide +kernel⟩
theorem ok_errV (T : Tx w K mg) (F : FnP K "__init__" "InvalidValue.__init__" (inClass (top 4) 0) f fd) : FnOk P w K mg base CX0 1 f fd ["self", "value"] (spErr (cV K) "value") := by
  refine F.ok sc_InvalidValue_init (fun vs H Q E h => ?_) (fun cdv A outer s H vs Q E hr h => ⟨_, PSs.nox (pss_one (ps_fst (B := "ValueError") (tl := tailE "ValueError") (pv 0) (pv 1))), ?_⟩)
  · obtain ⟨a, v, rfl, _⟩ := h
    rfl
  · obtain ⟨a, v, rfl, ha, q⟩ := h
    exact ⟨_, rfl, _, rfl, a, cV K, rfl, T.eV.ox, T.eV.no, ha, q⟩
end
/-! ### kept tuples of texts -/
def strsV : List Value → List Str → Bool
  | [], [] => true
  | .str x _ :: r, y :: l => decide (x = y) && strsV r l
  | _, _ => false
theorem strsV_ok : ∀ {us : List Value} {ys : List Str}, strsV us ys = true → Vals (ys.map V.str) us
  | [], [], _ => .nil
  | [], _ :: _, h => by cases h
  | v :: r, ys, h => by
    cases ys with
    | nil => cases v <;> cases h
    | cons y l =>
      cases v with
      | str x t =>
        obtain ⟨h1, h2⟩ := He.ba (show (decide (x = y) && strsV r l) = true from h)
        have e := of_decide_eq_true h1
        subst e
        exact .cons ⟨t, rfl⟩ (strsV_ok h2)
      | _ => cases h
def ktupB (K : PySem.W.Frag) (a : Addr) (ys : List Str) : Bool := match K.lookup a with
  | some o => (match o.data with
    | .seq its _ => decide (o.cls = .type "tuple") && (decide (its.size ≤ 1000) && strsV its.toList ys)
    | _ => false)
  | none => false
theorem ktupB_ok {K : PySem.W.Frag} {a : Addr} {ys : List Str} (h : ktupB K a ys = true) (H : Hp) : SqT K H a (ys.map V.str) := by
  unfold ktupB at h
  split at h
  · rename_i o ho
    split at h
    · rename_i its n hd
      obtain ⟨h1, h⟩ := He.ba h
      obtain ⟨h2, h3⟩ := He.ba h
      exact .inr ⟨o, its, n, ho, of_decide_eq_true h1, hd, Nat.le_trans (of_decide_eq_true h2) (by decide), strsV_ok h3⟩
    · cases h
  · cases h
def outB (K : PySem.W.Frag) : Bool := match PySem.W.nsIn K (He.ga K "FORMS") "out" with
  | some (some (.ref fo)) => ktupB K fo ["expression"]
  | _ => false
theorem outB_ok {K : PySem.W.Frag} (h : outB K = true) : ∃ fo : Addr, PySem.W.nsIn K (He.ga K "FORMS") "out" = some (some (.ref fo)) ∧ ∀ H : Hp, SqT K H fo [.str "expression"] := by
  unfold outB at h
  split at h
  · rename_i fo e
    exact ⟨fo, e, fun H => ktupB_ok h H⟩
  · cases h
def formKeys : List Str := ["new", "drop", "resize", "store", "load", "set", "out", "reserve", "if", "repeat", "attempt"]
end K83

set_option Elab.async false
set_option linter.all false
set_option maxRecDepth 100000
set_option maxHeartbeats 0
namespace Ex
open PySem PySem.Spec PyProof.Rows L2 Gu
/-! ### facts of a class beyond those by names: constants, a property -/
def cvB (K : PySem.W.Frag) (C : Addr) (f : Str) (i : Int) : Bool := match PySem.W.findCls K (.ref C) (.type "type") f with
  | some (.val (.int j _)) => decide (j = i)
  | _ => false
theorem cvB_ok {K : PySem.W.Frag} {C : Addr} {f : Str} {i : Int} (h : cvB K C f i = true) : ∃ u, ClX.CVal K C (.type "type") f (.int i) u := by
  unfold cvB at h
  split at h
  · rename_i j t e
    have ej : j = i := of_decide_eq_true h
    exact ⟨_, e, t, by rw [ej]⟩
  · cases h
def rdB (K : PySem.W.Frag) (C : Addr) : Bool := PySem.W.readsIn K C (.type "type") && He.eqO (PySem.W.specialIn K (.ref C) "__getattribute__") (some (some (.builtin "type.__getattribute__")))
theorem rdB_ok {K : PySem.W.Frag} {C : Addr} (h : rdB K C = true) : ClX.CRead K C (.type "type") := by
  obtain ⟨h1, h2⟩ := He.ba h
  exact ⟨h1, He.eqO_ok h2⟩
def prA (K : PySem.W.Frag) (C : Addr) (f : Str) : Addr := match PySem.W.findIn K (.ref C) f with
  | some (some (.ref p)) => p
  | _ => 0
def pgA (K : PySem.W.Frag) (C : Addr) (f : Str) : Addr := match PySem.W.recIn K (prA K C f) "property" with
  | some (.ref g :: _) => g
  | _ => 0
def prB (K : PySem.W.Frag) (C : Addr) (f : Str) : Bool := He.eqO (PySem.W.findIn K (.ref C) f) (some (some (.ref (prA K C f)))) &&
  (He.eqO (PySem.W.specialIn K (.ref (prA K C f)) "__get__") (some (some (.builtin "property.__get__"))) && (decide (PySem.W.takesIn K (.ref (prA K C f)) = some true) &&
    (match PySem.W.recIn K (prA K C f) "property" with
    | some (.ref _ :: _) => true
    | _ => false)))
theorem prB_ok {K : PySem.W.Frag} {C : Addr} {f : Str} (h : prB K C f = true) : PropOf K C f (prA K C f) (pgA K C f) := by
  obtain ⟨h1, h⟩ := He.ba h
  obtain ⟨h2, h⟩ := He.ba h
  obtain ⟨h3, h4⟩ := He.ba h
  refine ⟨He.eqO_ok h1, He.eqO_ok h2, of_decide_eq_true h3, ?_⟩
  unfold pgA
  split at h4
  · rename_i g r e
    rw [e]
    exact ⟨r, rfl⟩
  · cases h4
/-- the def at an address -/
def fnAt (K : PySem.W.Frag) (a : Addr) : He.FnW := match K.lookup a with
  | some ⟨_, _, .func fd, _⟩ => some (fd.name, fd.qualname, fd.params, fd.body, fd.scope, fd.globals, fd.closure, fd.builtins)
  | _ => none
def okAt (K : PySem.W.Frag) (a : Addr) (qual : Str) : Bool := PySem.W.keepIn K (.ref a) && (match K.lookup a with
  | some ⟨_, _, .func fd, _⟩ => PySem.W.codeIn K fd.code qual && (He.dflB K fd.defaults [] && He.kwdB K fd.kwdefaults [])
  | _ => false)
theorem fun_at {K : PySem.W.Frag} {a : Addr} {name qual : Str} {params : Arguments} {body : List Stmt} {scope : Scope} (e : fnAt K a = some (name, qual, params, .stmts body, scope, mainGlobals, [], builtinsNs)) (c : okAt K a qual = true) :
    ∃ fd, FunD K name qual params body scope [] [] a fd := by
  obtain ⟨kp, c2⟩ := He.ba c
  unfold fnAt at e
  split at e
  · rename_i oc od fd sl q
    rw [q] at c2
    obtain ⟨k1, k2⟩ := He.ba c2
    obtain ⟨k3, k4⟩ := He.ba k2
    obtain ⟨n1, n2, n3, n4, n5, n6, n7, n8, n9, n10, n11, n12, n13, n14, n15⟩ := fd
    simp only [Option.some.injEq, Prod.mk.injEq] at e
    obtain ⟨rfl, rfl, rfl, rfl, rfl, rfl, rfl, rfl⟩ := e
    exact ⟨_, ⟨oc, od, n8, n9, n10, n11, n12, n13, n14, sl, rfl, q, k1, He.dflB_ok k3, He.kwdB_ok k4⟩, kp⟩
  · cases e
def sysB (K : PySem.W.Frag) : Bool := match K.lookup sysModules with
  | some o => decide (o.cls ≠ .type "list")
  | none => false
end Ex

set_option Elab.async false
set_option linter.all false
set_option maxRecDepth 100000
set_option maxHeartbeats 0
namespace K83
open PySem PySem.Spec PyProof.Rows L2 Gu Ex
abbrev R : PySem.W.OpenRow := PySem.W.OpenLaw.row PySem.Challenge.rw_exactroom_k83_expressions
def dOf (a : Str × Option Str) (x q : Str) (st : Stmt) : He.DefD := ⟨a, x, q, defArgs st, defBody st, defScope st, [], []⟩
def dOfK (a : Str × Option Str) (x q : Str) (st : Stmt) (kw : List (Str × He.Dv)) : He.DefD := ⟨a, x, q, defArgs st, defBody st, defScope st, [], kw⟩
def fn : List He.DefD := [dOf ("is_integer", none) "is_integer" "is_integer" (top 8),
  dOf ("is_name", none) "is_name" "is_name" (top 9),
  dOf ("is_expression_within", none) "is_expression_within" "is_expression_within" (top 16),
  dOf ("is_expression", none) "is_expression" "is_expression" (top 17),
  dOf ("computed", none) "computed" "computed" (top 18),
  dOf ("value_of", none) "value_of" "value_of" (top 19),
  dOf ("is_part", none) "is_part" "is_part" (top 20),
  dOf ("is_instruction", none) "is_instruction" "is_instruction" (top 21),
  dOf ("placed", none) "placed" "placed" (top 22),
  dOf ("placed_in", none) "placed_in" "placed_in" (top 23),
  dOf ("depth_at", none) "depth_at" "depth_at" (top 24),
  dOf ("first_problem", none) "first_problem" "first_problem" (top 25),
  dOf ("is_program", none) "is_program" "is_program" (top 26),
  dOf ("InvalidValue", some "__init__") "__init__" "InvalidValue.__init__" (inClass (top 4) 0),
  dOf ("_law_rng", none) "_law_rng" "_law_rng" (top 28),
  dOf ("_law_draw", none) "_law_draw" "_law_draw" (top 29),
  dOf ("_law_choice", none) "_law_choice" "_law_choice" (top 30),
  dOf ("_law_name", none) "_law_name" "_law_name" (top 31),
  dOf ("_law_names", none) "_law_names" "_law_names" (top 32),
  dOf ("_law_leaf", none) "_law_leaf" "_law_leaf" (top 33),
  dOf ("_law_drawn", none) "_law_drawn" "_law_drawn" (top 34),
  dOf ("_law_odd", none) "_law_odd" "_law_odd" (top 35),
  dOf ("_law_spoilt", none) "_law_spoilt" "_law_spoilt" (top 36),
  dOf ("_law_is_tag", none) "_law_is_tag" "_law_is_tag" (top 37),
  dOf ("_law_depth", none) "_law_depth" "_law_depth" (top 38),
  dOf ("_law_worth", none) "_law_worth" "_law_worth" (top 39),
  dOf ("_law_told", none) "_law_told" "_law_told" (top 40),
  dOf ("_law_right", none) "_law_right" "_law_right" (top 41),
  dOf ("law", none) "law" "law" (top 42)]
def fa : List He.Fa := [.glo "is_integer", .glo "is_name", .glo "is_expression_within", .glo "is_expression", .glo "computed", .glo "value_of", .glo "is_part", .glo "is_instruction", .glo "placed", .glo "placed_in", .glo "depth_at", .glo "first_problem", .glo "is_program", .glo "_law_rng", .glo "_law_draw", .glo "_law_choice", .glo "_law_name", .glo "_law_names", .glo "_law_leaf", .glo "_law_drawn", .glo "_law_odd", .glo "_law_spoilt", .glo "_law_is_tag", .glo "_law_depth", .glo "_law_worth", .glo "_law_told", .glo "_law_right", .glo "law", .glo "OPERATORS", .glo "FORMS", .glo "InvalidValue", .glo "InvalidName", .glo "InvalidNumber", .glo "RoomError", .free "len", .free "isinstance", .free "int", .free "bool", .free "str", .free "tuple", .free "list", .free "range", .free "divmod", .free "abs", .free "max", .free "min", .free "all", .free "repr", .free "enumerate", .free "zip", .free "dict", .str "LETTERS" "abcdefghijklmnopqrstuvwxyz", .int "MAX_NAME" 8, .int "MAX_DEPTH" 6, .int "MAX_INSTRUCTIONS" 200, .int "MAX_NUMBER" 1000000000000]
def exB (K : PySem.W.Frag) : Bool := (ktupB K (He.ga K "OPERATORS") ["add", "sub", "less", "equal"] && (outB K && (sysB K && (errG "ValueError" K (cV K) "value" && (bOf (PySem.W.kitOne K (.ref (cV K)) (.ref (He.ga K "RoomError"))) true && (bOf (PySem.W.kitAny K (.ref (cV K)) [.ref (He.ga K "InvalidName"), .ref (He.ga K "InvalidNumber")]) false && true))))))
abbrev AlE : Type := He.AlD × Bool × Option (List (Option (Str × Int)))
def ob0 (K : PySem.W.Frag) : AlE := (He.obsD fa fn K, exB K, He.dicW K (He.ga K "FORMS"))
def vl0 (w : World) : AlE := (He.valD fn, true, some (He.keysIn w.params formKeys))
def ob1 (g : Addr → Option Obj) : AlE := ob0 (He.frG g (cStatics :: sysModules :: He.asD g 5))
def hk : PySem.W.Hook where
  α := AlE
  obs := fun s => ob1 s.heap.get?
  val := vl0
  says := fun w h => ∃ K : PySem.W.Frag, K.In h ∧ ob0 K = vl0 w
  of := fun _ _ e => ⟨_, He.frG_in, e⟩
  keeps := fun _ _ _ ⟨K, hK, c⟩ k => ⟨K, PySem.W.Frag.In.keeps hK k, c⟩
def ob (s : PySem.W.SharedT) : AlE := ob1 (HandSHeadRun.getT s)
theorem ob_eq (s : PySem.W.SharedT) : ob s = hk.obs s.abs := by
  have e : HandSHeadRun.getT s = s.abs.heap.get? := funext (HandSHeadRun.getT_eq s)
  show ob1 (HandSHeadRun.getT s) = ob1 s.abs.heap.get?
  rw [e]
def loose : List Str := ("RoomError" : Str) :: ("InvalidNumber" : Str) :: ("InvalidName" : Str) :: ("InvalidValue" : Str) :: ("LETTERS" : Str) :: ("MAX_NAME" : Str) :: ("is_integer" : Str) :: ("is_name" : Str) :: ("MAX_DEPTH" : Str) :: ("MAX_INSTRUCTIONS" : Str) :: ("MAX_NUMBER" : Str) :: ("OPERATORS" : Str) :: ("FORMS" : Str) :: ("is_expression_within" : Str) :: ("is_expression" : Str) :: ("computed" : Str) :: ("value_of" : Str) :: ("is_part" : Str) :: ("is_instruction" : Str) :: ("placed" : Str) :: ("placed_in" : Str) :: ("depth_at" : Str) :: ("first_problem" : Str) :: ("is_program" : Str) :: ("_law_rng" : Str) :: ("_law_draw" : Str) :: ("_law_choice" : Str) :: ("_law_name" : Str) :: ("_law_names" : Str) :: ("_law_leaf" : Str) :: ("_law_drawn" : Str) :: ("_law_odd" : Str) :: ("_law_spoilt" : Str) :: ("_law_is_tag" : Str) :: ("_law_depth" : Str) :: ("_law_worth" : Str) :: ("_law_told" : Str) :: ("_law_right" : Str) :: []
def kk (s : PySem.W.SharedT) : PySem.W.Frag := He.frG (HandSHeadRun.getT s) (cStatics :: sysModules :: He.asD (HandSHeadRun.getT s) 5)
noncomputable def ends (w : World) (os : OsState) : Option PySem.W.SharedT := HandSHeadRun.endF (HandSHeadRun.stepQ (HandSHeadRun.denQ HandSHeadRun.tabQ) R.prog w) 16000 R.prog w os
theorem both {Pr : World → Prop} (h : ∀ (b : Bool) (w : World), Pr (w.withFollow "special-get-raises" b)) (w : World) : Pr w := by
  have := h (w.params.followText "special-get-raises") w
  rwa [World.withFollow_self] at this
theorem in_parts {σ A B E F : Type} {o : Option σ} {a : σ → A} {b : σ → B} {c d : σ → Bool} {e : σ → E} {f : σ → Bool} {g : σ → F} {x1 : A} {x2 : B} {x5 : E} {x7 : F} (h1 : o.map a = some x1) (h2 : o.map b = some x2) (h3 : o.map c = some true) (h4 : o.map d = some true)
    (h5 : o.map e = some x5) (h6 : o.map f = some true) (h7 : o.map g = some x7) : o.map (fun s => (a s, b s, (((c s && d s), e s), f s, g s))) = some (x1, x2, ((true, x5), true, x7)) := by
  cases o with
  | none => cases h1
  | some s =>
    have g1 : a s = x1 := Option.some.inj h1
    have g2 : b s = x2 := Option.some.inj h2
    have g3 : c s = true := Option.some.inj h3
    have g4 : d s = true := Option.some.inj h4
    have g5 : e s = x5 := Option.some.inj h5
    have g6 : f s = true := Option.some.inj h6
    have g7 : g s = x7 := Option.some.inj h7
    show some (a s, b s, (((c s && d s), e s), f s, g s)) = _
    rw [g1, g2, g3, g4, g5, g6, g7]
    rfl
end K83

set_option Elab.async false
set_option linter.all false
set_option maxRecDepth 100000
set_option maxHeartbeats 0
namespace K83
open PySem PySem.Spec PyProof.Rows L2 Gu Ex PySem.W PySem.Calls
theorem r_looks (w : World) (os : OsState) : (ends w os).map (fun s => HandSHeadRun.looksF R.prog (boot_heap w.params) s.abs) = some true :=
  both (Pr := fun w => (ends w os).map (fun s => HandSHeadRun.looksF R.prog (boot_heap w.params) s.abs) = some true) (fun b w => by cases b <;> kernel_rfl) w
theorem r_seen (w : World) (os : OsState) : (ends w os).map (fun s => HandSHeadRun.seenQ (PySem.W.view R.prog [42]) loose (PySem.importedModules R.prog.main.body) (fun s => PySem.W.xlAt (PySem.W.view R.prog [42]) [] s && PySem.W.recOk R.toRowW.records s) s.abs) = some (PySem.W.openGood (PySem.W.view R.prog [42]) loose) :=
  both (Pr := fun w => (ends w os).map (fun s => HandSHeadRun.seenQ (PySem.W.view R.prog [42]) loose (PySem.importedModules R.prog.main.body) (fun s => PySem.W.xlAt (PySem.W.view R.prog [42]) [] s && PySem.W.recOk R.toRowW.records s) s.abs) = some (PySem.W.openGood (PySem.W.view R.prog [42]) loose)) (fun b w => by cases b <;> kernel_rfl) w
end K83

set_option Elab.async false
set_option linter.all false
set_option maxRecDepth 100000
set_option maxHeartbeats 0
namespace K83
open PySem PySem.Spec PyProof.Rows L2 Gu Ex
theorem r_fa (w : World) (os : OsState) : (ends w os).map (fun s => fa.all fun f => f.ok (kk s)) = some true :=
  both (Pr := fun w => (ends w os).map (fun s => fa.all fun f => f.ok (kk s)) = some true) (fun b w => by cases b <;> kernel_rfl) w
end K83

set_option Elab.async false
set_option linter.all false
set_option maxRecDepth 100000
set_option maxHeartbeats 0
namespace K83
open PySem PySem.Spec PyProof.Rows L2 Gu Ex
theorem r_fn (w : World) (os : OsState) : (ends w os).map (fun s => fn.all fun d => d.ok (kk s)) = some true :=
  both (Pr := fun w => (ends w os).map (fun s => fn.all fun d => d.ok (kk s)) = some true) (fun b w => by cases b <;> kernel_rfl) w
end K83

set_option Elab.async false
set_option linter.all false
set_option maxRecDepth 100000
set_option maxHeartbeats 0
namespace K83
open PySem PySem.Spec PyProof.Rows L2 Gu Ex
theorem r_fw (w : World) (os : OsState) : (ends w os).map (fun s => fn.map fun d => He.fnW (kk s) d.at_) = some (fn.map He.DefD.val) :=
  both (Pr := fun w => (ends w os).map (fun s => fn.map fun d => He.fnW (kk s) d.at_) = some (fn.map He.DefD.val)) (fun b w => by cases b <;> kernel_rfl) w
end K83

set_option Elab.async false
set_option linter.all false
set_option maxRecDepth 100000
set_option maxHeartbeats 0
namespace K83
open PySem PySem.Spec PyProof.Rows L2 Gu Ex
theorem r_ex (w : World) (os : OsState) : (ends w os).map (fun s => exB (kk s)) = some true :=
  both (Pr := fun w => (ends w os).map (fun s => exB (kk s)) = some true) (fun b w => by cases b <;> kernel_rfl) w
theorem r_pr (w : World) (os : OsState) : (ends w os).map (fun s => He.dicW (kk s) (He.ga (kk s) "FORMS")) = some (some (He.keysIn w.params formKeys)) :=
  both (Pr := fun w => (ends w os).map (fun s => He.dicW (kk s) (He.ga (kk s) "FORMS")) = some (some (He.keysIn w.params formKeys))) (fun b w => by cases b <;> kernel_rfl) w
end K83

set_option Elab.async false
set_option linter.all false
set_option maxRecDepth 100000
set_option maxHeartbeats 0
namespace K83
open PySem PySem.Spec PyProof.Rows L2 Gu Ex
theorem run (w : World) : HandSHeadRun.RunEq R (PySem.W.view R.prog [42]) hk ob 16000 loose w :=
  fun os => in_parts (r_looks w os) (r_seen w os) (r_fa w os) (r_fn w os) (r_fw w os) (r_ex w os) (r_pr w os)
section
variable {P : Program} {w : World} {K : PySem.W.Frag} {h : Heap} {mg : Str → Option Value} {base : Heap}
theorem tx (X : K.In h) (G : h.Ns mainGlobals mg) (c : He.SaysD fa fn K) (x : exB K = true) (dk : ∃ es n, KDict K w (He.ga K "FORMS") es n) : Tx w K mg := by
  obtain ⟨x1, x⟩ := He.ba x
  obtain ⟨x2, x⟩ := He.ba x
  obtain ⟨x3, x⟩ := He.ba x
  obtain ⟨x4, x⟩ := He.ba x
  obtain ⟨x5, x⟩ := He.ba x
  obtain ⟨x6, x⟩ := He.ba x
  have hsys : SysOk K := by
    unfold sysB at x3
    split at x3
    · rename_i o e
      exact ⟨o, e, of_decide_eq_true x3⟩
    · cases x3
  exact ⟨He.free_ok X G (c.fact 34 (f := .free "len") rfl),
    He.free_ok X G (c.fact 35 (f := .free "isinstance") rfl),
    He.free_ok X G (c.fact 36 (f := .free "int") rfl),
    He.free_ok X G (c.fact 37 (f := .free "bool") rfl),
    He.free_ok X G (c.fact 38 (f := .free "str") rfl),
    He.free_ok X G (c.fact 39 (f := .free "tuple") rfl),
    He.free_ok X G (c.fact 40 (f := .free "list") rfl),
    He.free_ok X G (c.fact 41 (f := .free "range") rfl),
    He.free_ok X G (c.fact 42 (f := .free "divmod") rfl),
    He.free_ok X G (c.fact 43 (f := .free "abs") rfl),
    He.free_ok X G (c.fact 44 (f := .free "max") rfl),
    He.free_ok X G (c.fact 45 (f := .free "min") rfl),
    He.free_ok X G (c.fact 46 (f := .free "all") rfl),
    He.free_ok X G (c.fact 47 (f := .free "repr") rfl),
    He.free_ok X G (c.fact 48 (f := .free "enumerate") rfl),
    He.free_ok X G (c.fact 49 (f := .free "zip") rfl),
    He.free_ok X G (c.fact 50 (f := .free "dict") rfl),
    He.str_ok X G (c.fact 51 (f := .str "LETTERS" "abcdefghijklmnopqrstuvwxyz") rfl),
    He.int_ok X G (c.fact 52 (f := .int "MAX_NAME" 8) rfl),
    He.int_ok X G (c.fact 53 (f := .int "MAX_DEPTH" 6) rfl),
    He.int_ok X G (c.fact 54 (f := .int "MAX_INSTRUCTIONS" 200) rfl),
    He.int_ok X G (c.fact 55 (f := .int "MAX_NUMBER" 1000000000000) rfl),
    He.glo_ok X G (c.fact 28 (f := .glo "OPERATORS") rfl),
    fun H => ktupB_ok x1 H,
    He.glo_ok X G (c.fact 29 (f := .glo "FORMS") rfl),
    dk,
    outB_ok x2,
    hsys,
    He.glo_ok X G (c.fact 30 (f := .glo "InvalidValue") rfl),
    He.glo_ok X G (c.fact 31 (f := .glo "InvalidName") rfl),
    He.glo_ok X G (c.fact 32 (f := .glo "InvalidNumber") rfl),
    He.glo_ok X G (c.fact 33 (f := .glo "RoomError") rfl),
    errG_ok base_VE x4,
    bOf_ok x5,
    bOf_ok x6⟩
theorem df {x : Str} {ps : List Str} {sp : Sp} {k : Nat} {st : Stmt} {fd : FuncData} (X : K.In h) (G : h.Ns mainGlobals mg) (g : (He.Fa.glo x).ok K = true) (F : FnP K x x st (He.ga K x) fd)
    (hb : ∀ (kV doc pm : Value) (an : Option Addr) (cdv ct : Value) (us : List Value), us.length = ps.length → bindArgs (PySem.W.fnOf x x (defArgs st) (defBody st) (defScope st) .none kV doc pm an cdv ct) ⟨us, []⟩ = pure (ps.zip us))
    (ok : FnOk P w K mg base CX0 k (He.ga K x) fd ps sp) : Df P w K mg base k x ps sp := ⟨⟨fd, ok, F.bindsN hb⟩, He.glo_ok X G g, F.kp⟩
theorem dfG {x : Str} {ps : List Str} {sp : Sp} {k : Nat} {st : Stmt} {fd : FuncData} (X : K.In h) (G : h.Ns mainGlobals mg) (g : (He.Fa.glo x).ok K = true) (F : FnP K x x st (He.ga K x) fd)
    (hb : ∀ (kV doc pm : Value) (an : Option Addr) (cdv ct : Value) (us : List Value), us.length = ps.length → bindArgs (PySem.W.fnOf x x (defArgs st) (defBody st) (defScope st) .none kV doc pm an cdv ct) ⟨us, []⟩ = pure (ps.zip us))
    (ok : FnG P w K mg base CX0 k (He.ga K x) fd ps sp) : DfG P w K mg base k x ps sp := ⟨⟨fd, ok, F.bindsN hb⟩, He.glo_ok X G g, F.kp⟩
theorem dfX {x : Str} {ps : List Str} {sp : Sp} {k : Nat} {st : Stmt} {fd : FuncData} (X : K.In h) (G : h.Ns mainGlobals mg) (g : (He.Fa.glo x).ok K = true) (F : FnP K x x st (He.ga K x) fd)
    (hb : ∀ (kV doc pm : Value) (an : Option Addr) (cdv ct : Value) (us : List Value), us.length = ps.length → bindArgs (PySem.W.fnOf x x (defArgs st) (defBody st) (defScope st) .none kV doc pm an cdv ct) ⟨us, []⟩ = pure (ps.zip us))
    (ok : FnOk P w K mg base (L2.CX P w) k (He.ga K x) fd ps sp) : DfX P w K mg base k x ps sp := ⟨⟨fd, ok, F.bindsN hb⟩, He.glo_ok X G g, F.kp⟩
theorem dfK {x : Str} {ps ks : List Str} {j : List Nat} {sp : Sp} {k : Nat} {st : Stmt} {fd : FuncData} (X : K.In h) (G : h.Ns mainGlobals mg) (g : (He.Fa.glo x).ok K = true) (F : FnP K x x st (He.ga K x) fd)
    (hb : ∀ (kV doc pm : Value) (an : Option Addr) (cdv ct : Value) (ws : List Value), ws.length = ks.length → bindArgs (PySem.W.fnOf x x (defArgs st) (defBody st) (defScope st) .none kV doc pm an cdv ct) ⟨[], ks.zip ws⟩ = pure (ps.zip (j.filterMap fun i => ws[i]?)))
    (ok : FnOk P w K mg base CX0 k (He.ga K x) fd ps sp) : DfK P w K mg base k x ps ks j sp := by
  refine ⟨⟨fd, ok, fun s ws hl => ?_⟩, He.glo_ok X G g, F.kp⟩
  obtain ⟨oc, od, dV, kV, doc, pm, an, cdv, ct, osl, rfl, lk, hcd, hD, hK⟩ := F.ex
  rcases hD with ⟨_, rfl⟩ | ⟨e, _⟩
  · exact .of_eq (hb kV doc pm an cdv ct ws hl)
  · exact absurd rfl e
theorem facts {f : Addr} (X : K.In h) (G : h.Ns mainGlobals mg) (hfa : mg ("law" : Str) = some (.ref f)) (c0 : ob0 K = vl0 w) :
    ∃ fd : FuncData, (∀ (s : Shared) (v : Value), BindsTo s fd ⟨[v], []⟩ [("_law_script", v)]) ∧ ∀ base : Heap, K.In base → base.Ns mainGlobals mg → FnG P w K mg base CX0 16 f fd ["_law_script"] (spLaw K) := by
  have c : He.SaysD fa fn K := congrArg (fun z : AlE => z.1) c0
  have x : exB K = true := congrArg (fun z : AlE => z.2.1) c0
  have dk := He.dicW_ok (congrArg (fun z : AlE => z.2.2) c0)
  have T := tx X G c x dk
  obtain ⟨x1, x⟩ := He.ba x
  obtain ⟨x2, x⟩ := He.ba x
  obtain ⟨x3, x⟩ := He.ba x
  obtain ⟨x4, x⟩ := He.ba x
  obtain ⟨x5, x⟩ := He.ba x
  obtain ⟨x6, x⟩ := He.ba x
  obtain ⟨fd0, F0⟩ : ∃ fd, FnP K "is_integer" "is_integer" (top 8) (He.ga K "is_integer") fd := c.def_ 0 (d := dOf ("is_integer", none) "is_integer" "is_integer" (top 8)) rfl
  obtain ⟨fd1, F1⟩ : ∃ fd, FnP K "is_name" "is_name" (top 9) (He.ga K "is_name") fd := c.def_ 1 (d := dOf ("is_name", none) "is_name" "is_name" (top 9)) rfl
  obtain ⟨fd2, F2⟩ : ∃ fd, FnP K "is_expression_within" "is_expression_within" (top 16) (He.ga K "is_expression_within") fd := c.def_ 2 (d := dOf ("is_expression_within", none) "is_expression_within" "is_expression_within" (top 16)) rfl
  obtain ⟨fd3, F3⟩ : ∃ fd, FnP K "is_expression" "is_expression" (top 17) (He.ga K "is_expression") fd := c.def_ 3 (d := dOf ("is_expression", none) "is_expression" "is_expression" (top 17)) rfl
  obtain ⟨fd4, F4⟩ : ∃ fd, FnP K "computed" "computed" (top 18) (He.ga K "computed") fd := c.def_ 4 (d := dOf ("computed", none) "computed" "computed" (top 18)) rfl
  obtain ⟨fd5, F5⟩ : ∃ fd, FnP K "value_of" "value_of" (top 19) (He.ga K "value_of") fd := c.def_ 5 (d := dOf ("value_of", none) "value_of" "value_of" (top 19)) rfl
  obtain ⟨fd6, F6⟩ : ∃ fd, FnP K "is_part" "is_part" (top 20) (He.ga K "is_part") fd := c.def_ 6 (d := dOf ("is_part", none) "is_part" "is_part" (top 20)) rfl
  obtain ⟨fd7, F7⟩ : ∃ fd, FnP K "is_instruction" "is_instruction" (top 21) (He.ga K "is_instruction") fd := c.def_ 7 (d := dOf ("is_instruction", none) "is_instruction" "is_instruction" (top 21)) rfl
  obtain ⟨fd8, F8⟩ : ∃ fd, FnP K "placed" "placed" (top 22) (He.ga K "placed") fd := c.def_ 8 (d := dOf ("placed", none) "placed" "placed" (top 22)) rfl
  obtain ⟨fd9, F9⟩ : ∃ fd, FnP K "placed_in" "placed_in" (top 23) (He.ga K "placed_in") fd := c.def_ 9 (d := dOf ("placed_in", none) "placed_in" "placed_in" (top 23)) rfl
  obtain ⟨fd10, F10⟩ : ∃ fd, FnP K "depth_at" "depth_at" (top 24) (He.ga K "depth_at") fd := c.def_ 10 (d := dOf ("depth_at", none) "depth_at" "depth_at" (top 24)) rfl
  obtain ⟨fd11, F11⟩ : ∃ fd, FnP K "first_problem" "first_problem" (top 25) (He.ga K "first_problem") fd := c.def_ 11 (d := dOf ("first_problem", none) "first_problem" "first_problem" (top 25)) rfl
  obtain ⟨fd12, F12⟩ : ∃ fd, FnP K "is_program" "is_program" (top 26) (He.ga K "is_program") fd := c.def_ 12 (d := dOf ("is_program", none) "is_program" "is_program" (top 26)) rfl
  obtain ⟨fd13, F13⟩ : ∃ fd, FnP K "__init__" "InvalidValue.__init__" (inClass (top 4) 0) (He.ma K (He.ga K "InvalidValue") "__init__") fd := c.def_ 13 (d := dOf ("InvalidValue", some "__init__") "__init__" "InvalidValue.__init__" (inClass (top 4) 0)) rfl
  obtain ⟨fd14, F14⟩ : ∃ fd, FnP K "_law_rng" "_law_rng" (top 28) (He.ga K "_law_rng") fd := c.def_ 14 (d := dOf ("_law_rng", none) "_law_rng" "_law_rng" (top 28)) rfl
  obtain ⟨fd15, F15⟩ : ∃ fd, FnP K "_law_draw" "_law_draw" (top 29) (He.ga K "_law_draw") fd := c.def_ 15 (d := dOf ("_law_draw", none) "_law_draw" "_law_draw" (top 29)) rfl
  obtain ⟨fd16, F16⟩ : ∃ fd, FnP K "_law_choice" "_law_choice" (top 30) (He.ga K "_law_choice") fd := c.def_ 16 (d := dOf ("_law_choice", none) "_law_choice" "_law_choice" (top 30)) rfl
  obtain ⟨fd17, F17⟩ : ∃ fd, FnP K "_law_name" "_law_name" (top 31) (He.ga K "_law_name") fd := c.def_ 17 (d := dOf ("_law_name", none) "_law_name" "_law_name" (top 31)) rfl
  obtain ⟨fd18, F18⟩ : ∃ fd, FnP K "_law_names" "_law_names" (top 32) (He.ga K "_law_names") fd := c.def_ 18 (d := dOf ("_law_names", none) "_law_names" "_law_names" (top 32)) rfl
  obtain ⟨fd19, F19⟩ : ∃ fd, FnP K "_law_leaf" "_law_leaf" (top 33) (He.ga K "_law_leaf") fd := c.def_ 19 (d := dOf ("_law_leaf", none) "_law_leaf" "_law_leaf" (top 33)) rfl
  obtain ⟨fd20, F20⟩ : ∃ fd, FnP K "_law_drawn" "_law_drawn" (top 34) (He.ga K "_law_drawn") fd := c.def_ 20 (d := dOf ("_law_drawn", none) "_law_drawn" "_law_drawn" (top 34)) rfl
  obtain ⟨fd21, F21⟩ : ∃ fd, FnP K "_law_odd" "_law_odd" (top 35) (He.ga K "_law_odd") fd := c.def_ 21 (d := dOf ("_law_odd", none) "_law_odd" "_law_odd" (top 35)) rfl
  obtain ⟨fd22, F22⟩ : ∃ fd, FnP K "_law_spoilt" "_law_spoilt" (top 36) (He.ga K "_law_spoilt") fd := c.def_ 22 (d := dOf ("_law_spoilt", none) "_law_spoilt" "_law_spoilt" (top 36)) rfl
  obtain ⟨fd23, F23⟩ : ∃ fd, FnP K "_law_is_tag" "_law_is_tag" (top 37) (He.ga K "_law_is_tag") fd := c.def_ 23 (d := dOf ("_law_is_tag", none) "_law_is_tag" "_law_is_tag" (top 37)) rfl
  obtain ⟨fd24, F24⟩ : ∃ fd, FnP K "_law_depth" "_law_depth" (top 38) (He.ga K "_law_depth") fd := c.def_ 24 (d := dOf ("_law_depth", none) "_law_depth" "_law_depth" (top 38)) rfl
  obtain ⟨fd25, F25⟩ : ∃ fd, FnP K "_law_worth" "_law_worth" (top 39) (He.ga K "_law_worth") fd := c.def_ 25 (d := dOf ("_law_worth", none) "_law_worth" "_law_worth" (top 39)) rfl
  obtain ⟨fd26, F26⟩ : ∃ fd, FnP K "_law_told" "_law_told" (top 40) (He.ga K "_law_told") fd := c.def_ 26 (d := dOf ("_law_told", none) "_law_told" "_law_told" (top 40)) rfl
  obtain ⟨fd27, F27⟩ : ∃ fd, FnP K "_law_right" "_law_right" (top 41) (He.ga K "_law_right") fd := c.def_ 27 (d := dOf ("_law_right", none) "_law_right" "_law_right" (top 41)) rfl
  obtain ⟨fd28, F28⟩ : ∃ fd, FnP K "law" "law" (top 42) (He.ga K "law") fd := c.def_ 28 (d := dOf ("law", none) "law" "law" (top 42)) rfl
  have e := hfa.symm.trans (He.glo_ok X G (c.fact 27 (f := .glo "law") rfl))
  cases e
  have b := FunD.bindsA (ps := ["_law_script"]) F28 (fun _ _ _ _ _ _ us hl => match us, hl with | [_], _ => rfl)
  refine ⟨_, fun s v => b s [v] rfl, fun base _ _ => ?_⟩
  have D_is_integer := df (P := P) (w := w) (base := base) X G (c.fact 0 (f := .glo "is_integer") rfl) F0 (ps := ["value"]) (fun _ _ _ _ _ _ us hl => match us, hl with | [_], _ => rfl) (ok_is_integer T F0)
  have D_is_name := df (P := P) (w := w) (base := base) X G (c.fact 1 (f := .glo "is_name") rfl) F1 (ps := ["value"]) (fun _ _ _ _ _ _ us hl => match us, hl with | [_], _ => rfl) (ok_is_name T F1)
  have D_w0 := df (P := P) (w := w) (base := base) X G (c.fact 2 (f := .glo "is_expression_within") rfl) F2 (ps := ["value", "depth"]) (fun _ _ _ _ _ _ us hl => match us, hl with | [_, _], _ => rfl) (ok_within0 F2)
  have D_w1 := df (P := P) (w := w) (base := base) X G (c.fact 2 (f := .glo "is_expression_within") rfl) F2 (ps := ["value", "depth"]) (fun _ _ _ _ _ _ us hl => match us, hl with | [_, _], _ => rfl) (ok_within (n := 0) T D_is_integer D_is_name D_w0 F2)
  have D_w2 := df (P := P) (w := w) (base := base) X G (c.fact 2 (f := .glo "is_expression_within") rfl) F2 (ps := ["value", "depth"]) (fun _ _ _ _ _ _ us hl => match us, hl with | [_, _], _ => rfl) (ok_within (n := 1) T D_is_integer D_is_name D_w1 F2)
  have D_w3 := df (P := P) (w := w) (base := base) X G (c.fact 2 (f := .glo "is_expression_within") rfl) F2 (ps := ["value", "depth"]) (fun _ _ _ _ _ _ us hl => match us, hl with | [_, _], _ => rfl) (ok_within (n := 2) T D_is_integer D_is_name D_w2 F2)
  have D_w4 := df (P := P) (w := w) (base := base) X G (c.fact 2 (f := .glo "is_expression_within") rfl) F2 (ps := ["value", "depth"]) (fun _ _ _ _ _ _ us hl => match us, hl with | [_, _], _ => rfl) (ok_within (n := 3) T D_is_integer D_is_name D_w3 F2)
  have D_w5 := df (P := P) (w := w) (base := base) X G (c.fact 2 (f := .glo "is_expression_within") rfl) F2 (ps := ["value", "depth"]) (fun _ _ _ _ _ _ us hl => match us, hl with | [_, _], _ => rfl) (ok_within (n := 4) T D_is_integer D_is_name D_w4 F2)
  have D_w6 := df (P := P) (w := w) (base := base) X G (c.fact 2 (f := .glo "is_expression_within") rfl) F2 (ps := ["value", "depth"]) (fun _ _ _ _ _ _ us hl => match us, hl with | [_, _], _ => rfl) (ok_within (n := 5) T D_is_integer D_is_name D_w5 F2)
  have D_w7 := df (P := P) (w := w) (base := base) X G (c.fact 2 (f := .glo "is_expression_within") rfl) F2 (ps := ["value", "depth"]) (fun _ _ _ _ _ _ us hl => match us, hl with | [_, _], _ => rfl) (ok_within (n := 6) T D_is_integer D_is_name D_w6 F2)
  have D_is_expression := df (P := P) (w := w) (base := base) X G (c.fact 3 (f := .glo "is_expression") rfl) F3 (ps := ["value"]) (fun _ _ _ _ _ _ us hl => match us, hl with | [_], _ => rfl) (ok_expr T D_w7 F3)
  have D_c0 := df (P := P) (w := w) (base := base) X G (c.fact 4 (f := .glo "computed") rfl) F4 (ps := ["expression", "variables"]) (fun _ _ _ _ _ _ us hl => match us, hl with | [_, _], _ => rfl) (ok_co0 F4)
  have D_c1 := df (P := P) (w := w) (base := base) X G (c.fact 4 (f := .glo "computed") rfl) F4 (ps := ["expression", "variables"]) (fun _ _ _ _ _ _ us hl => match us, hl with | [_, _], _ => rfl) (ok_co (n := 0) T  D_c0 F4)
  have D_c2 := df (P := P) (w := w) (base := base) X G (c.fact 4 (f := .glo "computed") rfl) F4 (ps := ["expression", "variables"]) (fun _ _ _ _ _ _ us hl => match us, hl with | [_, _], _ => rfl) (ok_co (n := 1) T  D_c1 F4)
  have D_c3 := df (P := P) (w := w) (base := base) X G (c.fact 4 (f := .glo "computed") rfl) F4 (ps := ["expression", "variables"]) (fun _ _ _ _ _ _ us hl => match us, hl with | [_, _], _ => rfl) (ok_co (n := 2) T  D_c2 F4)
  have D_c4 := df (P := P) (w := w) (base := base) X G (c.fact 4 (f := .glo "computed") rfl) F4 (ps := ["expression", "variables"]) (fun _ _ _ _ _ _ us hl => match us, hl with | [_, _], _ => rfl) (ok_co (n := 3) T  D_c3 F4)
  have D_c5 := df (P := P) (w := w) (base := base) X G (c.fact 4 (f := .glo "computed") rfl) F4 (ps := ["expression", "variables"]) (fun _ _ _ _ _ _ us hl => match us, hl with | [_, _], _ => rfl) (ok_co (n := 4) T  D_c4 F4)
  have D_c6 := df (P := P) (w := w) (base := base) X G (c.fact 4 (f := .glo "computed") rfl) F4 (ps := ["expression", "variables"]) (fun _ _ _ _ _ _ us hl => match us, hl with | [_, _], _ => rfl) (ok_co (n := 5) T  D_c5 F4)
  have D_c7 := df (P := P) (w := w) (base := base) X G (c.fact 4 (f := .glo "computed") rfl) F4 (ps := ["expression", "variables"]) (fun _ _ _ _ _ _ us hl => match us, hl with | [_, _], _ => rfl) (ok_co (n := 6) T  D_c6 F4)
  have MI : Ei P w K mg base "InvalidValue" "value" := ⟨⟨fd13, ok_errV T F13, F13.bindsN (fun _ _ _ _ _ _ us hl => match us, hl with | [_, _], _ => rfl)⟩⟩
  have D_value_of := dfX (P := P) (w := w) (base := base) X G (c.fact 5 (f := .glo "value_of") rfl) F5 (ps := ["expression", "variables"]) (fun _ _ _ _ _ _ us hl => match us, hl with | [_, _], _ => rfl) (ok_val T D_is_expression D_c7 MI F5)
  have D_is_part := df (P := P) (w := w) (base := base) X G (c.fact 6 (f := .glo "is_part") rfl) F6 (ps := ["kind", "value"]) (fun _ _ _ _ _ _ us hl => match us, hl with | [_, _], _ => rfl) (ok_part T D_is_name D_is_expression F6)
  have D_is_instruction := df (P := P) (w := w) (base := base) X G (c.fact 7 (f := .glo "is_instruction") rfl) F7 (ps := ["value"]) (fun _ _ _ _ _ _ us hl => match us, hl with | [_], _ => rfl) (ok_ins T D_is_part F7)
  have D_placed := df (P := P) (w := w) (base := base) X G (c.fact 8 (f := .glo "placed") rfl) F8 (ps := ["body", "path"]) (fun _ _ _ _ _ _ us hl => match us, hl with | [_, _], _ => rfl) (ok_placed T F8)
  have D_placed_in := df (P := P) (w := w) (base := base) X G (c.fact 9 (f := .glo "placed_in") rfl) F9 (ps := ["instruction", "path"]) (fun _ _ _ _ _ _ us hl => match us, hl with | [_, _], _ => rfl) (ok_placed_in T D_placed F9)
  have D_depth_at := df (P := P) (w := w) (base := base) X G (c.fact 10 (f := .glo "depth_at") rfl) F10 (ps := ["path"]) (fun _ _ _ _ _ _ us hl => match us, hl with | [_], _ => rfl) (ok_dep T F10)
  have D_first_problem := df (P := P) (w := w) (base := base) X G (c.fact 11 (f := .glo "first_problem") rfl) F11 (ps := ["value"]) (fun _ _ _ _ _ _ us hl => match us, hl with | [_], _ => rfl) (ok_first T D_placed D_placed_in D_depth_at D_is_instruction F11)
  have D_is_program := df (P := P) (w := w) (base := base) X G (c.fact 12 (f := .glo "is_program") rfl) F12 (ps := ["value"]) (fun _ _ _ _ _ _ us hl => match us, hl with | [_], _ => rfl) (ok_prog T D_first_problem F12)
  have D__law_rng := df (P := P) (w := w) (base := base) X G (c.fact 13 (f := .glo "_law_rng") rfl) F14 (ps := ["_law_script", "_law_k"]) (fun _ _ _ _ _ _ us hl => match us, hl with | [_, _], _ => rfl) (ok_rng T F14)
  have D__law_draw := df (P := P) (w := w) (base := base) X G (c.fact 14 (f := .glo "_law_draw") rfl) F15 (ps := ["_law_rng_here", "_law_many"]) (fun _ _ _ _ _ _ us hl => match us, hl with | [_, _], _ => rfl) (ok_draw T F15)
  have D__law_choice := df (P := P) (w := w) (base := base) X G (c.fact 15 (f := .glo "_law_choice") rfl) F16 (ps := ["_law_rng_here", "_law_options"]) (fun _ _ _ _ _ _ us hl => match us, hl with | [_, _], _ => rfl) (ok_choice T D__law_draw F16)
  have D__law_name := df (P := P) (w := w) (base := base) X G (c.fact 16 (f := .glo "_law_name") rfl) F17 (ps := ["_law_rng_here", "_law_used"]) (fun _ _ _ _ _ _ us hl => match us, hl with | [_, _], _ => rfl) (ok_nm T D__law_draw F17)
  have D__law_names := df (P := P) (w := w) (base := base) X G (c.fact 17 (f := .glo "_law_names") rfl) F18 (ps := ["_law_rng_here", "_law_many", "_law_used"]) (fun _ _ _ _ _ _ us hl => match us, hl with | [_, _, _], _ => rfl) (ok_nms T D__law_name F18)
  have D__law_leaf := df (P := P) (w := w) (base := base) X G (c.fact 18 (f := .glo "_law_leaf") rfl) F19 (ps := ["_law_rng_here", "_law_names_here"]) (fun _ _ _ _ _ _ us hl => match us, hl with | [_, _], _ => rfl) (ok_leaf T D__law_draw D__law_choice F19)
  have D_r0 := df (P := P) (w := w) (base := base) X G (c.fact 19 (f := .glo "_law_drawn") rfl) F20 (ps := ["_law_rng_here", "_law_names_here", "_law_deep"]) (fun _ _ _ _ _ _ us hl => match us, hl with | [_, _, _], _ => rfl) (ok_dr0 F20)
  have D_r1 := df (P := P) (w := w) (base := base) X G (c.fact 19 (f := .glo "_law_drawn") rfl) F20 (ps := ["_law_rng_here", "_law_names_here", "_law_deep"]) (fun _ _ _ _ _ _ us hl => match us, hl with | [_, _, _], _ => rfl) (ok_dr (n := 0) T D__law_draw D__law_choice D__law_leaf D_r0 F20)
  have D_r2 := df (P := P) (w := w) (base := base) X G (c.fact 19 (f := .glo "_law_drawn") rfl) F20 (ps := ["_law_rng_here", "_law_names_here", "_law_deep"]) (fun _ _ _ _ _ _ us hl => match us, hl with | [_, _, _], _ => rfl) (ok_dr (n := 1) T D__law_draw D__law_choice D__law_leaf D_r1 F20)
  have D_r3 := df (P := P) (w := w) (base := base) X G (c.fact 19 (f := .glo "_law_drawn") rfl) F20 (ps := ["_law_rng_here", "_law_names_here", "_law_deep"]) (fun _ _ _ _ _ _ us hl => match us, hl with | [_, _, _], _ => rfl) (ok_dr (n := 2) T D__law_draw D__law_choice D__law_leaf D_r2 F20)
  have D_r4 := df (P := P) (w := w) (base := base) X G (c.fact 19 (f := .glo "_law_drawn") rfl) F20 (ps := ["_law_rng_here", "_law_names_here", "_law_deep"]) (fun _ _ _ _ _ _ us hl => match us, hl with | [_, _, _], _ => rfl) (ok_dr (n := 3) T D__law_draw D__law_choice D__law_leaf D_r3 F20)
  have D_r5 := df (P := P) (w := w) (base := base) X G (c.fact 19 (f := .glo "_law_drawn") rfl) F20 (ps := ["_law_rng_here", "_law_names_here", "_law_deep"]) (fun _ _ _ _ _ _ us hl => match us, hl with | [_, _, _], _ => rfl) (ok_dr (n := 4) T D__law_draw D__law_choice D__law_leaf D_r4 F20)
  have D_r6 := df (P := P) (w := w) (base := base) X G (c.fact 19 (f := .glo "_law_drawn") rfl) F20 (ps := ["_law_rng_here", "_law_names_here", "_law_deep"]) (fun _ _ _ _ _ _ us hl => match us, hl with | [_, _, _], _ => rfl) (ok_dr (n := 5) T D__law_draw D__law_choice D__law_leaf D_r5 F20)
  have D_r7 := df (P := P) (w := w) (base := base) X G (c.fact 19 (f := .glo "_law_drawn") rfl) F20 (ps := ["_law_rng_here", "_law_names_here", "_law_deep"]) (fun _ _ _ _ _ _ us hl => match us, hl with | [_, _, _], _ => rfl) (ok_dr (n := 6) T D__law_draw D__law_choice D__law_leaf D_r6 F20)
  have D_r8 := df (P := P) (w := w) (base := base) X G (c.fact 19 (f := .glo "_law_drawn") rfl) F20 (ps := ["_law_rng_here", "_law_names_here", "_law_deep"]) (fun _ _ _ _ _ _ us hl => match us, hl with | [_, _, _], _ => rfl) (ok_dr (n := 7) T D__law_draw D__law_choice D__law_leaf D_r7 F20)
  have D__law_odd := df (P := P) (w := w) (base := base) X G (c.fact 20 (f := .glo "_law_odd") rfl) F21 (ps := ["_law_rng_here"]) (fun _ _ _ _ _ _ us hl => match us, hl with | [_], _ => rfl) (ok_odd T D__law_choice F21)
  have D_s0 := df (P := P) (w := w) (base := base) X G (c.fact 21 (f := .glo "_law_spoilt") rfl) F22 (ps := ["_law_rng_here", "_law_value"]) (fun _ _ _ _ _ _ us hl => match us, hl with | [_, _], _ => rfl) (ok_sp0 F22)
  have D_s1 := df (P := P) (w := w) (base := base) X G (c.fact 21 (f := .glo "_law_spoilt") rfl) F22 (ps := ["_law_rng_here", "_law_value"]) (fun _ _ _ _ _ _ us hl => match us, hl with | [_, _], _ => rfl) (ok_sp (n := 0) T D__law_draw D__law_odd D_s0 F22)
  have D_s2 := df (P := P) (w := w) (base := base) X G (c.fact 21 (f := .glo "_law_spoilt") rfl) F22 (ps := ["_law_rng_here", "_law_value"]) (fun _ _ _ _ _ _ us hl => match us, hl with | [_, _], _ => rfl) (ok_sp (n := 1) T D__law_draw D__law_odd D_s1 F22)
  have D_s3 := df (P := P) (w := w) (base := base) X G (c.fact 21 (f := .glo "_law_spoilt") rfl) F22 (ps := ["_law_rng_here", "_law_value"]) (fun _ _ _ _ _ _ us hl => match us, hl with | [_, _], _ => rfl) (ok_sp (n := 2) T D__law_draw D__law_odd D_s2 F22)
  have D_s4 := df (P := P) (w := w) (base := base) X G (c.fact 21 (f := .glo "_law_spoilt") rfl) F22 (ps := ["_law_rng_here", "_law_value"]) (fun _ _ _ _ _ _ us hl => match us, hl with | [_, _], _ => rfl) (ok_sp (n := 3) T D__law_draw D__law_odd D_s3 F22)
  have D_s5 := df (P := P) (w := w) (base := base) X G (c.fact 21 (f := .glo "_law_spoilt") rfl) F22 (ps := ["_law_rng_here", "_law_value"]) (fun _ _ _ _ _ _ us hl => match us, hl with | [_, _], _ => rfl) (ok_sp (n := 4) T D__law_draw D__law_odd D_s4 F22)
  have D_s6 := df (P := P) (w := w) (base := base) X G (c.fact 21 (f := .glo "_law_spoilt") rfl) F22 (ps := ["_law_rng_here", "_law_value"]) (fun _ _ _ _ _ _ us hl => match us, hl with | [_, _], _ => rfl) (ok_sp (n := 5) T D__law_draw D__law_odd D_s5 F22)
  have D_s7 := df (P := P) (w := w) (base := base) X G (c.fact 21 (f := .glo "_law_spoilt") rfl) F22 (ps := ["_law_rng_here", "_law_value"]) (fun _ _ _ _ _ _ us hl => match us, hl with | [_, _], _ => rfl) (ok_sp (n := 6) T D__law_draw D__law_odd D_s6 F22)
  have D_s8 := df (P := P) (w := w) (base := base) X G (c.fact 21 (f := .glo "_law_spoilt") rfl) F22 (ps := ["_law_rng_here", "_law_value"]) (fun _ _ _ _ _ _ us hl => match us, hl with | [_, _], _ => rfl) (ok_sp (n := 7) T D__law_draw D__law_odd D_s7 F22)
  have D_s9 := df (P := P) (w := w) (base := base) X G (c.fact 21 (f := .glo "_law_spoilt") rfl) F22 (ps := ["_law_rng_here", "_law_value"]) (fun _ _ _ _ _ _ us hl => match us, hl with | [_, _], _ => rfl) (ok_sp (n := 8) T D__law_draw D__law_odd D_s8 F22)
  have D__law_is_tag := df (P := P) (w := w) (base := base) X G (c.fact 22 (f := .glo "_law_is_tag") rfl) F23 (ps := ["_law_value"]) (fun _ _ _ _ _ _ us hl => match us, hl with | [_], _ => rfl) (ok_tag T F23)
  have D_d0 := df (P := P) (w := w) (base := base) X G (c.fact 23 (f := .glo "_law_depth") rfl) F24 (ps := ["_law_value"]) (fun _ _ _ _ _ _ us hl => match us, hl with | [_], _ => rfl) (ok_dp0 F24)
  have D_d1 := df (P := P) (w := w) (base := base) X G (c.fact 23 (f := .glo "_law_depth") rfl) F24 (ps := ["_law_value"]) (fun _ _ _ _ _ _ us hl => match us, hl with | [_], _ => rfl) (ok_dp (n := 0) T D__law_is_tag D_d0 F24)
  have D_d2 := df (P := P) (w := w) (base := base) X G (c.fact 23 (f := .glo "_law_depth") rfl) F24 (ps := ["_law_value"]) (fun _ _ _ _ _ _ us hl => match us, hl with | [_], _ => rfl) (ok_dp (n := 1) T D__law_is_tag D_d1 F24)
  have D_d3 := df (P := P) (w := w) (base := base) X G (c.fact 23 (f := .glo "_law_depth") rfl) F24 (ps := ["_law_value"]) (fun _ _ _ _ _ _ us hl => match us, hl with | [_], _ => rfl) (ok_dp (n := 2) T D__law_is_tag D_d2 F24)
  have D_d4 := df (P := P) (w := w) (base := base) X G (c.fact 23 (f := .glo "_law_depth") rfl) F24 (ps := ["_law_value"]) (fun _ _ _ _ _ _ us hl => match us, hl with | [_], _ => rfl) (ok_dp (n := 3) T D__law_is_tag D_d3 F24)
  have D_d5 := df (P := P) (w := w) (base := base) X G (c.fact 23 (f := .glo "_law_depth") rfl) F24 (ps := ["_law_value"]) (fun _ _ _ _ _ _ us hl => match us, hl with | [_], _ => rfl) (ok_dp (n := 4) T D__law_is_tag D_d4 F24)
  have D_d6 := df (P := P) (w := w) (base := base) X G (c.fact 23 (f := .glo "_law_depth") rfl) F24 (ps := ["_law_value"]) (fun _ _ _ _ _ _ us hl => match us, hl with | [_], _ => rfl) (ok_dp (n := 5) T D__law_is_tag D_d5 F24)
  have D_d7 := df (P := P) (w := w) (base := base) X G (c.fact 23 (f := .glo "_law_depth") rfl) F24 (ps := ["_law_value"]) (fun _ _ _ _ _ _ us hl => match us, hl with | [_], _ => rfl) (ok_dp (n := 6) T D__law_is_tag D_d6 F24)
  have D_d8 := df (P := P) (w := w) (base := base) X G (c.fact 23 (f := .glo "_law_depth") rfl) F24 (ps := ["_law_value"]) (fun _ _ _ _ _ _ us hl => match us, hl with | [_], _ => rfl) (ok_dp (n := 7) T D__law_is_tag D_d7 F24)
  have D_d9 := df (P := P) (w := w) (base := base) X G (c.fact 23 (f := .glo "_law_depth") rfl) F24 (ps := ["_law_value"]) (fun _ _ _ _ _ _ us hl => match us, hl with | [_], _ => rfl) (ok_dp (n := 8) T D__law_is_tag D_d8 F24)
  have D_d10 := df (P := P) (w := w) (base := base) X G (c.fact 23 (f := .glo "_law_depth") rfl) F24 (ps := ["_law_value"]) (fun _ _ _ _ _ _ us hl => match us, hl with | [_], _ => rfl) (ok_dp (n := 9) T D__law_is_tag D_d9 F24)
  have D_o0 := df (P := P) (w := w) (base := base) X G (c.fact 24 (f := .glo "_law_worth") rfl) F25 (ps := ["_law_value", "_law_numbers"]) (fun _ _ _ _ _ _ us hl => match us, hl with | [_, _], _ => rfl) (ok_wo0 F25)
  have D_o1 := df (P := P) (w := w) (base := base) X G (c.fact 24 (f := .glo "_law_worth") rfl) F25 (ps := ["_law_value", "_law_numbers"]) (fun _ _ _ _ _ _ us hl => match us, hl with | [_, _], _ => rfl) (ok_wo (n := 0) T  D_o0 F25)
  have D_o2 := df (P := P) (w := w) (base := base) X G (c.fact 24 (f := .glo "_law_worth") rfl) F25 (ps := ["_law_value", "_law_numbers"]) (fun _ _ _ _ _ _ us hl => match us, hl with | [_, _], _ => rfl) (ok_wo (n := 1) T  D_o1 F25)
  have D_o3 := df (P := P) (w := w) (base := base) X G (c.fact 24 (f := .glo "_law_worth") rfl) F25 (ps := ["_law_value", "_law_numbers"]) (fun _ _ _ _ _ _ us hl => match us, hl with | [_, _], _ => rfl) (ok_wo (n := 2) T  D_o2 F25)
  have D_o4 := df (P := P) (w := w) (base := base) X G (c.fact 24 (f := .glo "_law_worth") rfl) F25 (ps := ["_law_value", "_law_numbers"]) (fun _ _ _ _ _ _ us hl => match us, hl with | [_, _], _ => rfl) (ok_wo (n := 3) T  D_o3 F25)
  have D_o5 := df (P := P) (w := w) (base := base) X G (c.fact 24 (f := .glo "_law_worth") rfl) F25 (ps := ["_law_value", "_law_numbers"]) (fun _ _ _ _ _ _ us hl => match us, hl with | [_, _], _ => rfl) (ok_wo (n := 4) T  D_o4 F25)
  have D_o6 := df (P := P) (w := w) (base := base) X G (c.fact 24 (f := .glo "_law_worth") rfl) F25 (ps := ["_law_value", "_law_numbers"]) (fun _ _ _ _ _ _ us hl => match us, hl with | [_, _], _ => rfl) (ok_wo (n := 5) T  D_o5 F25)
  have D_o7 := df (P := P) (w := w) (base := base) X G (c.fact 24 (f := .glo "_law_worth") rfl) F25 (ps := ["_law_value", "_law_numbers"]) (fun _ _ _ _ _ _ us hl => match us, hl with | [_, _], _ => rfl) (ok_wo (n := 6) T  D_o6 F25)
  have D__law_told := df (P := P) (w := w) (base := base) X G (c.fact 25 (f := .glo "_law_told") rfl) F26 (ps := ["_law_value", "_law_numbers"]) (fun _ _ _ _ _ _ us hl => match us, hl with | [_, _], _ => rfl) (ok_told T D_value_of F26)
  have D__law_right := dfG (P := P) (w := w) (base := base) X G (c.fact 26 (f := .glo "_law_right") rfl) F27 (ps := ["_law_value", "_law_numbers"]) (fun _ _ _ _ _ _ us hl => match us, hl with | [_, _], _ => rfl) (ok_right T D_is_expression D_is_program D_d10 D_o7 D__law_told F27)
  exact ok_law T D__law_rng D__law_draw D__law_names D_r8 D__law_odd D_s9 D__law_right F28
end
end K83
open PySem PySem.W PySem.Calls PyProof.Rows
theorem PySem.Challenge.cw_exactroom_k83_expressions_holds : PySem.Challenge.rw_exactroom_k83_expressions.Holds := by
  w_on; o_law
  refine HandSHeadRun.head_any (r := OpenLaw.row PySem.Challenge.rw_exactroom_k83_expressions) (q := view (OpenLaw.row PySem.Challenge.rw_exactroom_k83_expressions).prog [42]) (H := K83.hk) (ob := K83.ob) (M := 16000)
    (loose := K83.loose) (d := HandSHeadRun.topDef (OpenLaw.row PySem.Challenge.rw_exactroom_k83_expressions).prog 42) (kwd := []) K83.ob_eq
    (by kernel_rfl) (fun s => by kernel_rfl) K83.run (by kernel_rfl) (by kernel_rfl) (by kernel_rfl) (by rfl) (by first | assumption | decide +kernel) (by decide +kernel) ⟨rfl, rfl, rfl, rfl, rfl, by decide +kernel⟩ ?hw ?hc
  case hw => w_witness2
  case hc =>
    refine Gu.walkG (l := PySem.Challenge.rw_exactroom_k83_expressions) (n := 63) (k := 16) (x := "_law_script") (CX := L2.CX0) rfl (by decide) (by kernel_rfl) ⟨⟨rfl, by decide, by decide⟩, rfl⟩ ?F (fun _ _ _ _ z => z)
    intro w mg fa h Y G hmg0
    obtain ⟨K, KX, c⟩ := Y
    have hmg : mg ("law" : PySem.Str) = some (.ref fa) := by
      have e : (HandSHeadRun.topDef (OpenLaw.row PySem.Challenge.rw_exactroom_k83_expressions).prog 42).name = ("law" : PySem.Str) := by kernel_rfl
      rw [← e]
      exact hmg0
    obtain ⟨fd, hb, hF⟩ := K83.facts (P := (PySem.Challenge.rw_exactroom_k83_expressions).prog) (w := w) KX G hmg c
    exact ⟨K, fd, K83.spLaw K, KX, hb, fun H a ns hl _ hS => ⟨a, ns, rfl, hS, hl, fun _ => rfl⟩, hF⟩

