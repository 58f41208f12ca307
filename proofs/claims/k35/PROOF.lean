import PyProof.Rows.All
import Wide.All
import OpenK.AllK
import Wide.FinOn
import PyProof.ReprRoads
import HandS.ForMost
import HandS.ForExc
import HandS.Property
import HandS.ClsMeth
import HandS.Defaults
import HandS.IsInst
import HandS.Wide
import HandS.WideBits
import HandS.Ends
import HandS.HeadEnd
import HandS.Head0
import HandS.Head1
import HandS.Head2
import HandS.HeadHook1
import HandS.HeadHook2
import HandS.Flow
import HandS.Style
import PyProof.LongRange
import HandS.ExcInit
import HandS.ExcField
import HandS.ExcIs
import HandS.TryOnly
import HandS.OwnEq
import PyProof.Rows.SetFrom
import HandS.TupSets
import PyProof.InstNe
import HandS.More
import KE.KExcInit
import PyProof.ExcBaseAll.ArithmeticError
import PyProof.ExcBaseAll.LookupError
import PyProof.ExcBaseAll.RuntimeError
import HandS.TryMany
import HandS.EndTab
import HandS.Walk
import HandS.Comp
import KE.KStateDown
import Lean
import HandS.DictComp
import HandS.Iter
import KE.KNestM
import HandS.SortRule
import HandS.Deep
import KE.GoesComp
import KE.GoesRaise
import HandS.SetBool
import HandS.Strs
import KE.DataMinMax
import KE.SortData
import HandS.List
import PyProof.NeKinds
import HandS.Exc
import PySem.Challenge.RW_exactroom_k35_cheapest_regions
set_option Elab.async false
set_option linter.all false
set_option maxRecDepth 100000
set_option maxHeartbeats 4000000
/-! Own layer: defs that are called where no repr is under way (the guards are known to be none), so that repr of data can be walked. -/
namespace Gu
open PySem PySem.Spec PyProof.Rows L2
structure RoomG (k : Nat) (A : Around) : Prop where
  r : Room k A
  g : A.guards = some []
theorem RoomG.mono {j k : Nat} {A : Around} (x : RoomG k A) (h : j ≤ k) : RoomG j A := ⟨x.r.mono h, x.g⟩
theorem RoomG.down {k : Nat} {A : Around} (x : RoomG (k + 1) A) (env : Env) : RoomG k (A.deeper env) := ⟨x.r.deeper env, x.g⟩
structure FnG (P : Program) (w : World) (K : PySem.W.Frag) (mg : Str → Option Value) (base : Heap) (CX : CXT) (k : Nat) (f : Addr) (fd : FuncData) (ps : List Str) (sp : Sp) : Prop where
  len : ∀ vs H Q E, sp vs H Q E → vs.length = ps.length
  run : ∀ (A : Around) (outer : List Env) (s : Shared) (H : Hp) (args : Args) (us : List Value) (vs : List V) (Q : VK) (E : XK),
    RoomG k A → Env0 P w K mg base A outer s H → BindsTo s fd args (ps.zip us) → Vals vs us → sp vs H Q E →
    codeAny (model P w) A (.call (.ref f) args) (CR CX outer P w H s Q E) s
section
variable {P : Program} {w : World} {K : PySem.W.Frag} {mg : Str → Option Value} {base : Heap} {CX : CXT} {k : Nat} {f : Addr} {fd : FuncData} {ps : List Str} {sp : Sp}
theorem FnG.of (F : FnOk P w K mg base CX k f fd ps sp) : FnG P w K mg base CX k f fd ps sp :=
  ⟨F.len, fun A outer s H args us vs Q E hr => F.run A outer s H args us vs Q E hr.r⟩
/-- a def by its body -/
theorem okG {x qual : Str} {params : Arguments} {body : List Stmt} {scope : Scope} {dvs : List V} {kws : List (Str × V)} {N : List Str}
    (F : FunD K x qual params body scope dvs kws f fd) (S : FnScope N ps scope) (len : ∀ vs H Q E, sp vs H Q E → vs.length = ps.length)
    (hbody : ∀ (cdv : Value) (A : Around) (outer : List Env) (s : Shared) (H : Hp) (vs : List V) (Q : VK) (E : XK),
      RoomG k (A.deeper (envOfC qual scope s.heap.objs.size f cdv)) → sp vs H Q E →
      ∃ t, PSs (cxOf CX P w K mg base N qual scope f cdv A outer s H E) body t ∧ t { nx := fun _ H' => Q .non H', rt := Q } (start N vs) H) :
    FnG P w K mg base CX (k + 1) f fd ps sp := by
  obtain ⟨oc, od, dV, kV, doc, pm, an, cdv, ct, osl, rfl, lk, hcd, _, _⟩ := F.ex
  refine ⟨len, fun A outer s H args us vs Q E hr e0 hb rv hsp => ?_⟩
  have KX : K.In s.heap := e0.mod.kin.keeps fun b o e => (e0.bs b o e).1
  have hkinds : ∀ y ∈ ps.zip us, scope.names.lookup y.1 = some .local ∨
      (scope.names.lookup y.1 = some .cell ∧ ((cellsFrom (s.heap.objs.size + 1) scope.names []).lookup y.1).isSome = true) := by
    rintro ⟨n, v⟩ hy
    rcases S.par n (List.of_mem_zip hy).1 with q | q
    · exact .inl q
    · exact .inr ⟨q, PySem.W.cellsFrom_some _ _ _ (.inl q)⟩
  refine codeAny_call_function hr.r.depth (KX _ _ lk) rfl S.co S.gen rfl (PySem.W.codeRec_of KX hcd) (hb _ _ _ _ ?_)
  refine wpAny_newFunctionEnv_cells S.kind hkinds fun env he s1 x => ?_
  subst he
  refine ⟨(e0.mod.nolimit.keeps fun b o e => (e0.bs b o e).1).keeps x.toInCall.keep, codeAny_func ?_⟩
  obtain ⟨t, ht, hq⟩ := hbody cdv A outer s H vs Q E (hr.down _) hsp
  have I := inv_start (CX := CX) (E := E) (N := N) (qual := qual) (f := f) (cd := cdv) S hr.r.hd e0 (len _ _ _ _ hsp) rv x
  refine wpAny_mono (ht.run [] s1 (start N vs) H _ I hq) (fun fl s' hs => ?_) fun e s' hs => hs
  cases fl with
  | ret u =>
    obtain ⟨v, σ', H', J, rv', q⟩ := hs
    exact ⟨v, H', J.os, J.bare, J.base, J.hok, rv', q⟩
  | next =>
    obtain ⟨σ', H', J, q⟩ := hs
    exact ⟨V.non, H', J.os, J.bare, J.base, J.hok, rfl, q⟩
  | brk => exact hs.elim fun _ z => z.elim fun _ z => z.2.elim
  | cont => exact hs.elim fun _ z => z.elim fun _ z => z.2.elim
end
section
variable {X : Cx} {CX : CXT} {k : Nat} {f : Addr} {fd : FuncData} {ps : List Str} {sp : Sp} {dvs : List V} {ds : List Value} {E : XK} {x : Str} {p pos : Pos} {e : Expr} {es : List Expr} {t : TA}
theorem runG {pins : List (Addr × Obj)} {σ : L2.St} {H : Hp} {s : Shared} {Q : VK} {us : List Value} {vs : List V} (F : FnG X.prog X.w X.K X.mg X.base CX k f fd ps sp)
    (hr : RoomG k X.A) (hb : Binds X.K fd ps ds) (hd : Vals dvs ds) (hx : Passes CX X E) (I : Inv X pins σ H s) (r : Vals vs us) (h : sp (vs ++ dvs) H Q E) :
    wpAny (model X.prog X.w) X.A (call (.ref f) us) (EP X pins σ Q) X.xe s := by
  have r2 := r.append hd
  have hl : (us ++ ds).length = ps.length := r2.length.symm.trans (F.len _ _ _ _ h)
  refine wpAny_call (codeAny_mono (F.run X.A X.stack s H ⟨us, []⟩ _ _ Q E hr I.env0 (hb s us I.kIn hl) r2 h) fun r s' hq => ?_)
  match r, hq with
  | .error e, hq => exact hx pins σ H s e s' I hq
  | .ok (.ret u), hq => exact I.after hq
/-- f(e, ..) -/
theorem pe_callG (F : FnG X.prog X.w X.K X.mg X.base CX k f fd ps sp) (hr : RoomG k X.A) (hg : Gl X x) (hm : X.mg x = some (.ref f)) (hk : PySem.W.keepIn X.K (.ref f) = true)
    (hb : Binds X.K fd ps ds) (hd : Vals dvs ds) (hx : Passes CX X E) (ha : PA X (e :: es) t) (hdb : (x == ("__debug__" : Str)) = false := by decide)
    (he : starEach (e :: es) X.env = (false, eval e X.env) :: starEach es X.env := by rfl) (hpl : (backTo pos (starEach es X.env)).any (·.1) = false := by rfl) :
    PE X (.Call (.Name x p) (e :: es) [] pos) (tCall sp dvs E t) :=
  ⟨fun pins s σ H Q I h => wpAny_Call_Name_kw (ld_glob I hg hm (PySem.W.callWith_K (h₀ := X.base) I.ok.mod.kin hk
    (thn (ha.run pos pins s σ H _ I h) fun us s1 ⟨vs, H1, I1, r, q⟩ => ⟨I1.kIn, runG F hr hb hd hx I1 r q⟩) he hpl) hdb)⟩
/-- repr of a list or a tuple of data -/
def rReprD (K : PySem.W.Frag) : List V → Hp → VK → Prop := fun xs H Q => ∃ (a : Addr) (d : PyData), xs = [.ref a] ∧ Dp K H (.ref a) d ∧ d.showable = true ∧ d.hasDict = false ∧ d.depth ≤ 60 ∧ d.shown.length ≤ sizeLine ∧ Q (.str d.shown) H
theorem call_reprD (hr : RoomG k X.A) : CallR X (.builtin "repr") (rReprD X.K) := by
  intro pins s σ H xs us Q I r h
  obtain ⟨a, d, rfl, hd, hs, hn, hdep, hz, q⟩ := h
  obtain ⟨u, rfl, ru⟩ := vals1 r
  obtain rfl : u = Value.ref a := ru
  obtain ⟨as, rd⟩ := Dp.reads I d (.ref a) (.ref a) hd rfl
  have hu := hr.r.units
  exact repr_of_reads' rd hs (PyData.noDict_hsm hn) hr.g (by omega) (fun _ _ e => e) (fun h' u tk hk => ⟨.str d.shown, H, I.kept hk, ⟨u, rfl⟩, q⟩) hz
end
/-- the law's call, from its promise where no repr is under way -/
theorem law_go {P : Program} {w : World} {K : PySem.W.Frag} {mg mb : Str → Option Value} {CX : CXT} {k : Nat} {fa a : Addr} {fd : FuncData} {x : Str} {sp : Sp} {s₁ : Shared} {vs : List Value} {H : Hp}
    (KX : K.In s₁.heap) (hns : s₁.heap.Ns mainGlobals mg) (hb : s₁.heap.Ns builtinsNs mb) (hbb : ∀ x : Str, x ≠ "__name__" → mb x = bootBuiltins x) (hlim : s₁.heap.NoLimit) (hg : s₁.gens = #[])
    (ha : s₁.heap.get? a = some { cls := .type "list", data := .seq vs.toArray }) (hr : RoomG k callerA)
    (F : ∀ base : Heap, K.In base → base.Ns mainGlobals mg → FnG P w K mg base CX k fa fd [x] sp) (hbind : ∀ (s : Shared) (u : Value), BindsTo s fd ⟨[u], []⟩ [(x, u)])
    (hsp : sp [.ref a] H (fun v _ => v = .bl true) fun _ _ _ => False) (hCX : ∀ e s', CX [] H s₁ (fun _ _ _ => False) e s' → False)
    (hO : Only H) (hok : HOk P w H s₁.heap) (hA : ∀ b, H b ≠ none → b = a) (hK : H a ≠ none → K.lookup a = none) :
    codeAny (model P w) callerA (.call (.ref fa) ⟨[.ref a], []⟩) (fun r s' => r = .ok (.ret (.bool true)) ∧ OldK s₁.heap s'.heap ∧ s'.os = s₁.os ∧ AllBare s'.gens) s₁ := by
  have free : ∀ {b : Addr} {o : Obj}, s₁.heap.get? b = some o → (b = a → False) → (hidT s₁.heap H).get? b = some o := fun {b o} e n => hidT_get e (by
    cases q : H b with
    | none => rfl
    | some u => exact (n (hA b (by rw [q]; exact fun z => nomatch z))).elim)
  have nsK : ∀ {b : Addr} {m : Str → Option Value}, s₁.heap.Ns b m → (hidT s₁.heap H).Ns b m := fun {b m} ⟨o, es, ep, e, d, r⟩ => ⟨o, es, ep, free e (fun z => by
    rw [z, ha] at e
    have e' := Option.some.inj e
    rw [← e'] at d
    exact nomatch d), d, r⟩
  have hKb : K.In (hidT s₁.heap H) := fun b o e => hidT_get (KX b o e) (by
    cases q : H b with
    | none => rfl
    | some u =>
      have z : b = a := hA b (by rw [q]; exact fun z => nomatch z)
      rw [z] at e q
      rw [hK (by rw [q]; exact fun z => nomatch z)] at e
      exact nomatch e)
  obtain ⟨mc, l1, l2⟩ := hlim
  have e0 : Env0 P w K mg (hidT s₁.heap H) callerA [] s₁ H :=
    ⟨rfl, ⟨hKb, nsK hns, ⟨mb, nsK hb, hbb⟩, ⟨mc, nsK l1, l2⟩⟩, fun b o e => of_hidT e, Nat.le_of_eq (hidT_size _ _), trivial, fun b hb => absurd (show b ∈ ([] : List Addr) from hb) List.not_mem_nil, hok, .of_eq hg⟩
  refine codeAny_mono ((F _ hKb (nsK hns)).run callerA [] s₁ H ⟨[.ref a], []⟩ [.ref a] [.ref a] _ _ hr e0 (hbind s₁ (.ref a)) (.cons rfl .nil) hsp) fun r s' h => ?_
  match r, h with
  | .error e, h => exact (hCX e s' h).elim
  | .ok (.ret u), h =>
    obtain ⟨v, H', os, bare, un, hok', r', q⟩ := h
    obtain rfl : v = .bl true := q
    obtain rfl : u = Value.bool true := r'
    refine ⟨rfl, OldK.of_keep fun b o e => ?_, os, bare⟩
    cases q : H b with
    | none => exact un.keep b o e q (fun z => absurd (show b ∈ ([] : List Addr) from z) List.not_mem_nil) (fun z => absurd (show b ∈ ([] : List Addr) from z) List.not_mem_nil)
    | some u =>
      rcases hO b with z | ⟨ob, xs, z⟩
      · rw [q] at z
        exact nomatch z
      · obtain ⟨e1, _⟩ := hok b _ z
        obtain ⟨e2, _⟩ := hok' b _ (un.frzs b ob _ z)
        rw [e] at e1
        rw [Option.some.inj e1]
        exact e2
theorem law_callG {P : Program} {w : World} {K : PySem.W.Frag} {mg mb : Str → Option Value} {CX : CXT} {k : Nat} {fa a : Addr} {fd : FuncData} {x : Str} {sp : Sp} {s₁ : Shared} {vs : List Value} {ns : List Int}
    (KX : K.In s₁.heap) (hns : s₁.heap.Ns mainGlobals mg) (hb : s₁.heap.Ns builtinsNs mb) (hbb : ∀ x : Str, x ≠ "__name__" → mb x = bootBuiltins x) (hlim : s₁.heap.NoLimit) (hg : s₁.gens = #[])
    (ha : s₁.heap.get? a = some { cls := .type "list", data := .seq vs.toArray }) (hi : IntsAre vs ns) (hl : ns.length ≤ sizeLine) (hr : RoomG k callerA)
    (F : ∀ base : Heap, K.In base → base.Ns mainGlobals mg → FnG P w K mg base CX k fa fd [x] sp) (hbind : ∀ (s : Shared) (u : Value), BindsTo s fd ⟨[u], []⟩ [(x, u)])
    (hsp : ∀ H : Hp, Only H → SqL K H a (ns.map V.int) → sp [.ref a] H (fun v _ => v = .bl true) fun _ _ _ => False) (hCX : ∀ H e s', CX [] H s₁ (fun _ _ _ => False) e s' → False) :
    codeAny (model P w) callerA (.call (.ref fa) ⟨[.ref a], []⟩) (fun r s' => r = .ok (.ret (.bool true)) ∧ OldK s₁.heap s'.heap ∧ s'.os = s₁.os ∧ AllBare s'.gens) s₁ := by
  have rv := vals_ints hi
  have lenV := hi.length
  cases hk : K.lookup a with
  | some o =>
    have e := (KX a o hk).symm.trans ha
    obtain rfl := Option.some.inj e
    have hO : Only (fun _ => none) := fun _ => .inl rfl
    exact law_go (H := fun _ => none) KX hns hb hbb hlim hg ha hr F hbind
      (hsp _ hO (.inr ⟨_, vs.toArray, _, hk, rfl, rfl, rfl, by rw [List.size_toArray, lenV]; exact hl, by simpa using rv⟩)) (hCX _) hO
      (fun b u z => nomatch (show (none : Option HO) = some u from z)) (fun b z => (z rfl).elim) (fun z => (z rfl).elim)
  | none =>
    let H0 : Hp := fun b => if b = a then some (.frz { cls := .type "list", data := .seq vs.toArray } (.lst (ns.map V.int))) else none
    have at_ : H0 a = some (.frz { cls := .type "list", data := .seq vs.toArray } (.lst (ns.map V.int))) := if_pos rfl
    have off : ∀ b, b ≠ a → H0 b = none := fun b h => if_neg h
    have hO : Only H0 := fun b => by
      by_cases h : b = a
      · rw [h]
        exact .inr ⟨_, _, at_⟩
      · exact .inl (off b h)
    refine law_go (H := H0) KX hns hb hbb hlim hg ha hr F hbind (hsp _ hO (.inl (.inr ⟨_, at_⟩))) (hCX _) hO (fun b u z => ?_) (fun b z => ?_) (fun _ => hk)
    · by_cases h : b = a
      · rw [h, at_] at z
        obtain rfl := Option.some.inj z
        rw [h]
        exact ⟨ha, by rw [List.length_map]; exact hl, vs, _, rv, ha⟩
      · rw [off b h] at z
        exact nomatch z
    · by_cases h : b = a
      · exact h
      · exact (z (off b h)).elim
/-- the end of a law, over a head by facts -/
theorem walkG {l : PySem.W.OpenLaw} {n k : Nat} {q : Program} {loose : List Str} {XP : (Str → Option Value) → Heap → Prop} {YP : World → Heap → Prop} {d : DefRec} {CX : CXT} {x : Str}
    (hn : l.most = some n) (hn2 : n ≤ sizeLine) (hdf : d.params.defaults = []) (hr : RoomG k callerA)
    (F : ∀ (w : World) (mg : Str → Option Value) (fa : Addr) (h : Heap), YP w h → h.Ns mainGlobals mg → mg d.name = some (.ref fa) →
      ∃ (K : PySem.W.Frag) (fd : FuncData) (sp : Sp), K.In h ∧ (∀ (s : Shared) (u : Value), BindsTo s fd ⟨[u], []⟩ [(x, u)]) ∧
        (∀ (H : Hp) (a : Addr) (ns : List Int), ns.length ≤ n → Only H → SqL K H a (ns.map V.int) → sp [.ref a] H (fun v _ => v = .bl true) fun _ _ _ => False) ∧
        ∀ base : Heap, K.In base → base.Ns mainGlobals mg → FnG l.prog w K mg base CX k fa fd [x] sp)
    (hCX : ∀ (H : Hp) (s : Shared) (e : Value) (s' : Shared), CX [] H s (fun _ _ _ => False) e s' → False) :
    PySem.W.WalkO q loose XP YP l.row.toRowW d [] (fun f vs => PySem.call f vs) := by
  refine Att.attach_call hn hdf fun w s₀ s₁ mg mb fa o pm cd doc a vs ns G Y ho hd hcd hmg hobj hints hlen hg => ?_
  obtain ⟨K, fd, sp, KX, hb, hsp, hF⟩ := F w mg fa _ Y G.T.g hmg
  exact law_callG KX G.T.g G.T.b G.T.builtins G.T.nolimit hg hobj hints (Nat.le_trans hlen hn2) hr hF hb (fun H hO hS => hsp H a ns hlen hO hS) fun H e s' => hCX H s₁ e s'
end Gu

set_option Elab.async false
set_option linter.all false
set_option maxRecDepth 100000
set_option maxHeartbeats 4000000
/-! Own layer: defs, methods, makers and properties by their names. -/
namespace Ex
open PySem PySem.Spec PyProof.Rows L2 Gu
section
variable (P : Program) (w : World) (K : PySem.W.Frag) (mg : Str → Option Value) (base : Heap)
/-- the module's def x keeps sp -/
structure Df (k : Nat) (x : Str) (ps : List Str) (sp : Sp) : Prop where
  ex : ∃ fd, FnOk P w K mg base CX0 k (He.ga K x) fd ps sp ∧ Binds K fd ps []
  gl : mg x = some (.ref (He.ga K x))
  kp : PySem.W.keepIn K (.ref (He.ga K x)) = true
structure DfG (k : Nat) (x : Str) (ps : List Str) (sp : Sp) : Prop where
  ex : ∃ fd, FnG P w K mg base CX0 k (He.ga K x) fd ps sp ∧ Binds K fd ps []
  gl : mg x = some (.ref (He.ga K x))
  kp : PySem.W.keepIn K (.ref (He.ga K x)) = true
/-- .. called by keywords ks alone; j: the places of the parameters among the keywords -/
structure DfK (k : Nat) (x : Str) (ps ks : List Str) (j : List Nat) (sp : Sp) : Prop where
  ex : ∃ fd, FnOk P w K mg base CX0 k (He.ga K x) fd ps sp ∧ ∀ (s : Shared) (ws : List Value), ws.length = ks.length → BindsTo s fd ⟨[], ks.zip ws⟩ (ps.zip (j.filterMap fun i => ws[i]?))
  gl : mg x = some (.ref (He.ga K x))
  kp : PySem.W.keepIn K (.ref (He.ga K x)) = true
structure Mf (k : Nat) (c m : Str) (ps : List Str) (sp : Sp) : Prop where
  ex : ∃ fd, FnOk P w K mg base CX0 k (He.ma K (He.ga K c) m) fd ps sp ∧ Binds K fd ps []
  cl : Cls K (He.ga K c)
  me : Meth K (He.ga K c) m (He.ma K (He.ga K c) m)
structure Pf (k : Nat) (c m : Str) (sp : Sp) : Prop where
  cl : Cls K (He.ga K c)
  ex : ∃ (p g : Addr) (fd : FuncData), PropOf K (He.ga K c) m p g ∧ FnOk P w K mg base CX0 k g fd ["self"] sp ∧ Binds K fd ["self"] []
structure Kf (k : Nat) (c : Str) (ps : List Str) (sp : Sp) : Prop where
  ex : ∃ fd, FnOk P w K mg base CX0 k (He.ma K (He.ga K c) "__init__") fd ps sp ∧ Binds K fd ps []
  gl : mg c = some (.ref (He.ga K c))
  mkr : Mk K (He.ga K c) (He.ma K (He.ga K c) "__init__")
end
section
variable {X : Cx} {k j : Nat} {x c m : Str} {ps ks : List Str} {ji : List Nat} {sp : Sp} {p pos apos : Pos} {e o : Expr} {es : List Expr} {kws : List Keyword} {t tk : TA} {ta : TE}
theorem pcall (D : Df X.prog X.w X.K X.mg X.base k x ps sp) (hr : Room j X.A) (ha : PA X (e :: es) t) (hj : k ≤ j := by decide) (hg : Gl X x := by rfl) (hdb : (x == ("__debug__" : Str)) = false := by decide)
    (he : starEach (e :: es) X.env = (false, eval e X.env) :: starEach es X.env := by rfl) (hpl : (backTo pos (starEach es X.env)).any (·.1) = false := by rfl) :
    PE X (.Call (.Name x p) (e :: es) [] pos) (tCall sp [] E0 t) := by
  obtain ⟨fd, F, b⟩ := D.ex
  exact pe_call F (hr.mono hj) hg D.gl D.kp b .nil pass0 ha hdb he hpl
theorem pcallG (D : DfG X.prog X.w X.K X.mg X.base k x ps sp) (hr : RoomG j X.A) (ha : PA X (e :: es) t) (hj : k ≤ j := by decide) (hg : Gl X x := by rfl) (hdb : (x == ("__debug__" : Str)) = false := by decide)
    (he : starEach (e :: es) X.env = (false, eval e X.env) :: starEach es X.env := by rfl) (hpl : (backTo pos (starEach es X.env)).any (·.1) = false := by rfl) :
    PE X (.Call (.Name x p) (e :: es) [] pos) (tCall sp [] E0 t) := by
  obtain ⟨fd, F, b⟩ := D.ex
  exact pe_callG F (hr.mono hj) hg D.gl D.kp b .nil pass0 ha hdb he hpl
def tKw (sp : Sp) (n : Nat) (j : List Nat) (tk : TA) : TE := fun σ H Q => tk σ H fun zs H2 => zs.length = n ∧ sp (j.filterMap fun i => zs[i]?) H2 Q E0
theorem vals_pick {zs : List V} {ws : List Value} (r : Vals zs ws) : ∀ j : List Nat, Vals (j.filterMap fun i => zs[i]?) (j.filterMap fun i => ws[i]?)
  | [] => .nil
  | i :: j => by
    rw [List.filterMap_cons, List.filterMap_cons]
    cases e : zs[i]? with
    | none =>
      rw [r.none_of e]
      exact vals_pick r j
    | some z =>
      obtain ⟨u, hu, ru⟩ := r.get e
      rw [hu]
      exact .cons ru (vals_pick r j)
theorem pcallK (D : DfK X.prog X.w X.K X.mg X.base k x ps ks ji sp) (hr : Room j X.A) (hkw : PK X kws tk) (hj : k ≤ j := by decide) (hg : Gl X x := by rfl)
    (hall : (backToKw pos (keywordEach kws X.env)).all (·.1.isSome) = true := by rfl) (hks : (backToKw pos (keywordEach kws X.env)).filterMap (·.1) = ks := by rfl)
    (hdb : (x == ("__debug__" : Str)) = false := by decide)
    (hpl : ((backTo pos (starEach [] X.env)).any (·.1) || (backToKw pos (keywordEach kws X.env)).any (·.1.isNone)) = false := by rfl) :
    PE X (.Call (.Name x p) [] kws pos) (tKw sp ks.length ji tk) := by
  obtain ⟨fd, F, b⟩ := D.ex
  refine ⟨fun pins s σ H Q I h => wpAny_Call_Name_kw (ld_glob I hg D.gl ?_ hdb)⟩
  refine PySem.W.callWith_KW0 (h₀ := X.base) I.ok.mod.kin D.kp hall (thn (hkw.run pos pins s σ H _ I h) fun ws s2 ⟨zs, H2, I2, rz, l2, q2⟩ => ⟨I2.kIn, ?_⟩) hpl
  rw [hks]
  refine wpAny_call (codeAny_mono (F.run X.A X.stack s2 H2 ⟨[], ks.zip ws⟩ _ _ Q E0 (hr.mono hj) I2.env0 (b s2 ws (rz.length.symm.trans l2)) (vals_pick rz ji) q2) fun r s' hq => ?_)
  match r, hq with
  | .ok (.ret u), hq => exact I2.after hq
theorem pmeth {pl : Sem Bool} (D : Mf X.prog X.w X.K X.mg X.base k c m ps sp) (hr : Room j X.A) (he : PE X o ta) (ha : PA X (e :: es) t) (hj : k ≤ j := by decide)
    (hst : starEach (e :: es) X.env = (false, eval e X.env) :: starEach es X.env := by rfl) (hpl : (backTo pos (starEach es X.env)).any (·.1) = false := by rfl)
    (ht : eval (.Call (.Attribute o m apos) (e :: es) [] pos) X.env = (do
      let ov ← eval o X.env
      standAt apos.atName
      let (f, first) ← holding [ov] (getMethod ov m pl)
      callWith pos f first (backTo pos (starEach (e :: es) X.env)) (backToKw pos (keywordEach [] X.env))) := by rfl) :
    PE X (.Call (.Attribute o m apos) (e :: es) [] pos) (tMeth (He.ga X.K c) m sp [] E0 ta t) := by
  obtain ⟨fd, F, b⟩ := D.ex
  exact pe_meth he D.cl D.me F (hr.mono hj) b .nil pass0 ha hst hpl ht
theorem pmeth0 {pl : Sem Bool} (D : Mf X.prog X.w X.K X.mg X.base k c m ps sp) (hr : Room j X.A) (he : PE X o ta) (hj : k ≤ j := by decide)
    (ht : eval (.Call (.Attribute o m apos) [] [] pos) X.env = (do
      let ov ← eval o X.env
      standAt apos.atName
      let (f, first) ← holding [ov] (getMethod ov m pl)
      callWith pos f first (backTo pos (starEach [] X.env)) (backToKw pos (keywordEach [] X.env))) := by rfl) :
    PE X (.Call (.Attribute o m apos) [] [] pos) (tMeth (He.ga X.K c) m sp [] E0 ta tNil) := by
  obtain ⟨fd, F, b⟩ := D.ex
  exact pe_meth0 he D.cl D.me F (hr.mono hj) b .nil pass0 ht
theorem pprop (D : Pf X.prog X.w X.K X.mg X.base k c m sp) (hr : Room j X.A) (he : PE X o ta) (hj : k + 1 ≤ j := by decide) (hab : attributeBase o m X.env (eval o X.env) = eval o X.env := by rfl) :
    PE X (.Attribute o m pos) (tProp (He.ga X.K c) sp [] E0 ta) := by
  obtain ⟨p, g, fd, hp, F, b⟩ := D.ex
  exact pe_prop he D.cl hp F (hr.mono hj) b .nil pass0 hab
theorem pmake (D : Kf X.prog X.w X.K X.mg X.base k c ps sp) (hr : Room j X.A) (ha : PA X (e :: es) t) (hj : k + 1 ≤ j := by decide) (hg : Gl X c := by rfl) (hdb : (c == ("__debug__" : Str)) = false := by decide)
    (he : starEach (e :: es) X.env = (false, eval e X.env) :: starEach es X.env := by rfl) (hpl : (backTo pos (starEach es X.env)).any (·.1) = false := by rfl) :
    PE X (.Call (.Name c p) (e :: es) [] pos) (tMake (He.ga X.K c) sp [] E0 t) := by
  obtain ⟨fd, F, b⟩ := D.ex
  exact pe_make D.mkr F (hr.mono hj) hg D.gl b .nil pass0 ha hdb he hpl
end
end Ex

set_option Elab.async false
set_option linter.all false
set_option maxRecDepth 100000
set_option maxHeartbeats 4000000
/-! Own layer: range(a, b) of any whole numbers (walked by one or the other iterator of the machine). -/
namespace Ex
open PySem PySem.Spec PyProof.Rows L2 Gu
theorem turn_long {P : Program} {w : World} {K : PySem.W.Frag} {tg : Expr} (it : Addr) (lo : Int) (n : Nat) :
    Turn P w K tg (Itr lo n) [it] it (fun i h => IsLongIter h it (lo + (i : Nat) * 1) ((n : Int) - (i : Nat)) 1) where
  mem := List.mem_singleton.mpr rfl
  obj := fun i h st b hb => by
    obtain rfl := List.mem_singleton.mp hb
    exact ⟨_, st, fun v z => nomatch (show Data.fields _ = Data.cell v from z)⟩
  keep := fun i h h' st k => k it (List.mem_singleton.mpr rfl) _ st
  item := by
    rintro X rfl rfl rfl hc i pins s σ H E I hf st hg
    obtain ⟨f0, f1, f2, f3, f4, f5⟩ := hf it (List.mem_singleton.mpr rfl)
    refine (Walks.longrange (prog := X.prog) (w := X.w) (I.ok.hd hc) it lo 1 n).item i s _ _ hg st fun v h' tk hv st' kk => ?_
    obtain ⟨t, rfl⟩ := hv
    have J : Inv X pins σ H { s with heap := h', toks := tk } := I.turned (fun b o hb e => kk b o (fun z => hb (List.mem_singleton.mp z)) e) f0 f1 f3 f4 f5
    refine ⟨_, rfl, go_of (s := { s with heap := h', toks := tk }) (n := "longrange_iterator") st' rfl rfl (by decide) ⟨.int (lo + i), H, J, ⟨t, ?_⟩, ⟨rfl, rfl⟩, st', fun b hb => (hf b hb).1⟩⟩
    rw [Int.mul_one]
  done := by
    rintro X rfl rfl rfl hc i pins s σ H E I hf st hg
    obtain ⟨f0, f1, f2, f3, f4, f5⟩ := hf it (List.mem_singleton.mpr rfl)
    have hn : n ≤ i := hg
    exact wpAny_pyNext_long_end (I.ok.hd hc) st (by omega) fun h' eb => ⟨rfl, I.turned (t' := s.toks) (fun b o hb e => eb b o hb e) f0 f1 f3 f4 f5⟩
  self := fun _ _ _ _ _ st h => wpAny_pyIter_longiter st h
section
variable {X : Cx} {tg : Expr}
theorem range_any {pins : List (Addr × Obj)} {σ : L2.St} {H : Hp} {s : Shared} {R : It → Hp → Prop} {E : Value → Shared → Prop} {lo hi : Int} {t u v : Tok} {tk : Nat} (I : Inv X pins σ H s) (q : R (Itr lo (hi - lo).toNat) H) :
    wpAny (model X.prog X.w) X.A (pyIter (.ref s.heap.objs.size)) (PIE X pins σ tg R) E { s with heap := s.heap.push { cls := .type "range", data := .fields #[.int lo t, .int hi u, .int 1 v] }, toks := tk } := by
  have J : Inv X pins σ H { s with heap := s.heap.push { cls := .type "range", data := .fields #[.int lo t, .int hi u, .int 1 v] }, toks := tk } := I.kept fun b o e => Heap.get?_push_of_some _ e
  have e1 : lo + ((0 : Nat) : Int) * 1 = lo := by simp
  have e2 : (((hi - lo).toNat : Nat) : Int) - ((0 : Nat) : Int) = Builtin.Range.rangeSize lo hi 1 := by rw [rangeSize_one]; split <;> omega
  have fr : ∀ b ∈ [(s.heap.push { cls := .type "range", data := .fields #[.int lo t, .int hi u, .int 1 v] }).objs.size], _ := fun b hb => by
    obtain rfl := List.mem_singleton.mp hb
    exact J.fpOk (Nat.le_refl _) (J.hok.fresh (Nat.le_refl _))
  cases hs : Builtin.Range.small lo hi 1 with
  | true =>
    refine wpAny_pyIter_range (IsRange.new ..) hs ⟨_, [_], _, _, H, rfl, J.kept (t' := tk) fun b o e => Heap.get?_push_of_some _ e, turn_range _ lo (hi - lo).toNat, ?_, fr, q⟩
    show IsRangeIter _ _ (lo + ((0 : Nat) : Int) * 1) ((((hi - lo).toNat : Nat) : Int) - ((0 : Nat) : Int)) 1
    rw [e1, e2]
    exact Heap.get?_push_size _ rfl
  | false =>
    refine wpAny_pyIter_longrange (IsRange.new ..) hs ⟨_, [_], _, _, H, rfl, J.kept (t' := tk) fun b o e => Heap.get?_push_of_some _ e, turn_long _ lo (hi - lo).toNat, ?_, fr, q⟩
    show IsLongIter _ _ (lo + ((0 : Nat) : Int) * 1) ((((hi - lo).toNat : Nat) : Int) - ((0 : Nat) : Int)) 1
    rw [e1, e2]
    exact Heap.get?_push_size _ rfl
def iRngA (ta : TA) : TI := fun σ H R => ta σ H fun vs H1 => ∃ i j : Int, vs = [.int i, .int j] ∧ R (Itr i (j - i).toNat) H1
theorem pi_rangeA {a b : Expr} {ta : TA} {p pos : Pos} (hg : Gl X "range") (hm : X.mg "range" = none) (ha : PA X [a, b] ta) (hs : starEach [a, b] X.env = [(false, eval a X.env), (false, eval b X.env)] := by rfl)
    (hs2 : starEach [b] X.env = [(false, eval b X.env)] := by rfl) : PI X tg (.Call (.Name "range" p) [a, b] [] pos) (iRngA ta) := by
  refine ⟨fun pins s σ H R I h => Call_ (ld_blt I hg hm boot_range (PyProof.Rows.callWith_type1 (thn (ha.run pos pins s σ H _ I h) fun us s1 ⟨vs, H1, I1, r1, q1⟩ => ?_) (by rw [hs, hs2]) (by rw [hs2]; rfl)))⟩
  obtain ⟨i, j, rfl, q⟩ := q1
  obtain ⟨u, z, rfl, ⟨t, rfl⟩, ⟨t', rfl⟩⟩ := vals2 r1
  exact call_range_2 (range_any I1 q)
end
end Ex

set_option Elab.async false
set_option linter.all false
set_option maxRecDepth 100000
set_option maxHeartbeats 4000000
/-! Own layer: data of any depth, dicts among it, as repr shows it. -/
namespace Ex
open PySem PySem.Spec PyProof.Rows L2 Gu
mutual
inductive Dq (K : PySem.W.Frag) (H : Hp) : V → PyData → Prop
  | non : Dq K H .non .none
  | bl (b : Bool) : Dq K H (.bl b) (.bool b)
  | int (i : Int) : Dq K H (.int i) (.int i)
  | str (x : Str) : Dq K H (.str x) (.str x)
  | lst {a : Addr} {xs : List V} {ds : List PyData} : SqL K H a xs → DqAll K H xs ds → Dq K H (.ref a) (.list ds)
  | tup {a : Addr} {xs : List V} {ds : List PyData} : SqT K H a xs → DqAll K H xs ds → Dq K H (.ref a) (.tuple ds)
  | dct {a : Addr} {kvs : List (Key × V)} {ds : List (PyData × PyData)} : H a = some (.dK kvs) → DqAll K H (kvs.map fun p => kV p.1) (ds.map (·.1)) → DqAll K H (kvs.map (·.2)) (ds.map (·.2)) → Dq K H (.ref a) (.dict ds)
inductive DqAll (K : PySem.W.Frag) (H : Hp) : List V → List PyData → Prop
  | nil : DqAll K H [] []
  | cons {v : V} {vs : List V} {d : PyData} {ds : List PyData} : Dq K H v d → DqAll K H vs ds → DqAll K H (v :: vs) (d :: ds)
end
/-- the table of modules stands in the written part: no list lies there -/
def SysOk (K : PySem.W.Frag) : Prop := ∃ o, K.lookup sysModules = some o ∧ o.cls ≠ .type "list"
section
variable {X : Cx} {pins : List (Addr × Obj)} {σ : L2.St} {H : Hp} {s : Shared}
theorem key_rel {k : Key} {v : Value} (h : keyIs k v = true) : RelV (kV k) v := by
  rcases keyIs_shape h with ⟨i, t, rfl, rfl⟩ | ⟨x, t, rfl, rfl⟩
  · exact ⟨t, rfl⟩
  · exact ⟨t, rfl⟩
theorem not_sys {a : Addr} {o : Obj} (hs : SysOk X.K) (I : Inv X pins σ H s) (ho : s.heap.get? a = some o) (hc : o.cls = .type "list") : a ≠ sysModules := fun z => by
  obtain ⟨u, e, n⟩ := hs
  have h2 := I.kIn _ _ e
  rw [z, h2] at ho
  rw [Option.some.inj ho] at n
  exact n hc
theorem pairs_rel {es : List DictEntry} {vs : List (Key × Value)} (h : Pairs (mixKind X.prog X.w) es vs) : ∀ {kvs : List (Key × V)}, KV kvs vs → Vals (kvs.map fun p => kV p.1) (es.map (·.key)) ∧ Vals (kvs.map (·.2)) (es.map (·.val)) := by
  induction h with
  | nil =>
    intro kvs r
    cases r
    exact ⟨.nil, .nil⟩
  | @cons e kv es vs h1 h2 h3 ih =>
    intro kvs r
    cases r with
    | @cons p _ l _ r1 r2 =>
      obtain ⟨i1, i2⟩ := ih r2
      have k1 : RelV (kV p.1) e.key := by
        rw [r1.1]
        exact key_rel h1
      have k2 : RelV p.2 e.val := by
        rw [h2]
        exact r1.2
      exact ⟨.cons k1 i1, .cons k2 i2⟩
mutual
theorem Dq.reads (hs : SysOk X.K) (I : Inv X pins σ H s) : ∀ {v : V} {d : PyData}, Dq X.K H v d → ∀ u, RelV v u → ∃ as, Reads s.heap u d as ∧ sysModules ∉ as
  | _, _, .non, u, r => by
    cases r
    exact ⟨_, Reads.none, List.not_mem_nil⟩
  | _, _, .bl b, u, r => by
    cases r
    exact ⟨_, Reads.bool b, List.not_mem_nil⟩
  | _, _, .int i, u, r => by
    obtain ⟨t, rfl⟩ := r
    exact ⟨_, Reads.int i t, List.not_mem_nil⟩
  | _, _, .str x, u, r => by
    obtain ⟨t, rfl⟩ := r
    exact ⟨_, Reads.str x t, List.not_mem_nil⟩
  | _, _, .lst (a := a) hq ha, u, r => by
    cases r
    obtain ⟨its, rv, ⟨o, n, ho, hc, _, hd⟩, _⟩ := I.list hq
    obtain ⟨as, hr, na⟩ := Dq.readsAll hs I ha its rv
    refine ⟨_, Reads.list ho hc hd hr, fun hm => ?_⟩
    rcases List.mem_cons.mp hm with z | z
    · exact not_sys hs I ho hc z.symm
    · exact na z
  | _, _, .tup (a := a) hq ha, u, r => by
    cases r
    obtain ⟨its, rv, ⟨o, ho, hc, n, hd⟩, _⟩ := I.tuple hq
    obtain ⟨as, hr, na⟩ := Dq.readsAll hs I ha its rv
    exact ⟨_, Reads.tuple ho hc hd hr, na⟩
  | _, _, .dct (a := a) (kvs := kvs) hq h1 h2, u, r => by
    cases r
    obtain ⟨_, ns, vs, rk, o, es, ep, ho, hx, hd, _, hp, _⟩ := (show ObjOk X.prog X.w H s.heap a (.dK kvs) from I.hok a _ hq)
    obtain ⟨r1, r2⟩ := pairs_rel hp rk
    obtain ⟨as, q1, n1⟩ := Dq.readsAll hs I h1 _ r1
    obtain ⟨bs, q2, n2⟩ := Dq.readsAll hs I h2 _ r2
    refine ⟨_, Reads.dict ho hx.1 hd q1 q2, fun hm => ?_⟩
    rcases List.mem_append.mp hm with z | z
    · rcases List.mem_cons.mp z with z | z
      · rw [← z, beq_self_eq_true] at ns
        cases ns
      · exact n1 z
    · exact n2 z
theorem Dq.readsAll (hs : SysOk X.K) (I : Inv X pins σ H s) : ∀ {vs : List V} {ds : List PyData}, DqAll X.K H vs ds → ∀ us : List Value, Vals vs us → ∃ as, ReadsAll s.heap us ds as ∧ sysModules ∉ as
  | _, _, .nil, us, r => by
    cases r
    exact ⟨_, ReadsAll.nil, List.not_mem_nil⟩
  | _, _, .cons h1 h2, us, r => by
    cases r with
    | cons r1 r2 =>
      obtain ⟨as, q1, n1⟩ := Dq.reads hs I h1 _ r1
      obtain ⟨bs, q2, n2⟩ := Dq.readsAll hs I h2 _ r2
      refine ⟨_, ReadsAll.cons q1 q2, fun hm => ?_⟩
      rcases List.mem_append.mp hm with z | z
      · exact n1 z
      · exact n2 z
end
end
section
variable {X : Cx} {k : Nat}
/-- repr of any data -/
def rReprQ (K : PySem.W.Frag) : List V → Hp → VK → Prop := fun xs H Q => ∃ (v : V) (d : PyData), xs = [v] ∧ Dq K H v d ∧ d.showable = true ∧ d.depth ≤ 60 ∧ d.shown.length ≤ sizeLine ∧ Q (.str d.shown) H
theorem call_reprQ (hr : RoomG k X.A) (hs : SysOk X.K) : CallR X (.builtin "repr") (rReprQ X.K) := by
  intro pins s σ H xs us Q I r h
  obtain ⟨v, d, rfl, hd, hsh, hdep, hz, q⟩ := h
  obtain ⟨u, rfl, ru⟩ := vals1 r
  obtain ⟨as, rd, na⟩ := Dq.reads hs I hd u ru
  have hu := hr.r.units
  cases hd with
  | non =>
    cases ru
    exact PySem.P.repr_of_none ⟨.str _, H, I.tok _, ⟨_, rfl⟩, by simpa only [PyData.shown] using q⟩
  | bl b =>
    cases ru
    exact PySem.P.repr_of_bool ⟨.str _, H, I.tok _, ⟨_, rfl⟩, by simpa only [PyData.shown] using q⟩
  | int i =>
    obtain ⟨t, rfl⟩ := ru
    exact PySem.P.repr_of_int (by simpa [PyData.showable] using hsh) ⟨.str _, H, I.tok _, ⟨_, rfl⟩, by simpa only [PyData.shown] using q⟩
  | str x =>
    obtain ⟨t, rfl⟩ := ru
    exact PySem.P.repr_of_str ⟨.str _, H, I.tok _, ⟨_, rfl⟩, by simpa only [PyData.shown] using q⟩ (by simpa only [PyData.shown] using hz)
  | @lst a xs ds hq ha =>
    obtain rfl : u = Value.ref a := ru
    exact repr_of_reads' rd hsh (fun _ => na) hr.g (by omega) (fun _ _ e => e) (fun h' u tk hk => ⟨.str _, H, I.kept hk, ⟨u, rfl⟩, q⟩) hz
  | @tup a xs ds hq ha =>
    obtain rfl : u = Value.ref a := ru
    exact repr_of_reads' rd hsh (fun _ => na) hr.g (by omega) (fun _ _ e => e) (fun h' u tk hk => ⟨.str _, H, I.kept hk, ⟨u, rfl⟩, q⟩) hz
  | @dct a kvs ds hq h1 h2 =>
    obtain rfl : u = Value.ref a := ru
    exact repr_of_reads' rd hsh (fun _ => na) hr.g (by omega) (fun _ _ e => e) (fun h' u tk hk => ⟨.str _, H, I.kept hk, ⟨u, rfl⟩, q⟩) hz
/-- x is not True, x is not False, of any scalar -/
def rNotBA : R2 := fun x y H Q => ∃ b : Bool, y = .bl b ∧ ((∃ a : Bool, x = .bl a ∧ Q (.bl (!decide (a = b))) H) ∨ (∃ i : Int, x = .int i ∧ Q (.bl true) H))
theorem op_notBA : OpR X (compareOp .IsNot) rNotBA := by
  intro pins s σ H x y v u Q I rx ry h
  obtain ⟨b, rfl, h⟩ := h
  rcases h with ⟨a, rfl, q⟩ | ⟨i, rfl, q⟩
  · exact op_notBl pins s σ H _ _ v u Q I rx ry ⟨a, b, rfl, rfl, q⟩
  · cases (show u = Value.bool b from ry)
    obtain ⟨t, rfl⟩ := (show ∃ t, v = Value.int i t from rx)
    exact wpAny_isNot_other rfl (fun z => nomatch z) ⟨.bl true, H, I, rfl, q⟩
end
end Ex

set_option Elab.async false
set_option linter.all false
set_option maxRecDepth 100000
set_option maxHeartbeats 4000000
/-! Own layer: isinstance of a caught error that has a dict of its own; errors with fields, raised. -/
namespace Ex
open PySem PySem.Spec PySem.Calls PyProof.Rows L2 Gu
section
variable {prog : Program} {w : World} {A : Around} {E : Value → Shared → Prop} {s : Shared} {K : PySem.W.Frag} {x D : Addr} {ox od : Obj}
theorem class_of_exc {Q : Option Value → Shared → Prop} (c : ExcC K D) (X : K.In s.heap) (I : PySem.W.InstAt s.heap x ox D (some od)) (h : Q (some (.ref D)) { s with toks := s.toks + 1 }) :
    wpAny (model prog w) A (getAttr? (.ref x) "__class__") Q E s := by
  have found : PySem.W.findObj K D (some od) "__class__" = some (.bind (.builtin "getset_descriptor.__get__") (.builtin "object.__class__")) :=
    PySem.W.findObj_data (by obtain ⟨cd, e, _⟩ := PySem.W.any_some c.hd; rw [e]; rfl) c.ha c.hn c.ht
  obtain ⟨hp, g, d, t, os⟩ := s
  have lt := I.type (M := model prog w)
  have lg := PySem.W.looks_findIn (M := model prog w) X c.hg
  have lk := PySem.W.looks_findIn (M := model prog w) X c.hk
  have lf := PySem.W.looks_find (M := model prog w) X I found
  have other : (onTheHeap (Value.ref D) && Value.builtin "BaseException.__getattribute__" == Value.builtin "object.__getattribute__") = false := by
    rw [show (Value.builtin "BaseException.__getattribute__" == Value.builtin "object.__getattribute__") = false by decide +kernel]
    rfl
  unfold getAttr? getAttrBy? getAttrBy
  refine wpAny_bind (wpAny_mkText (wpAny_bind (wpAny_attempt (wpAny_holding (wpAny_bind (lt.at (wpAny_bind (lg.at ?own))))))))
  case own =>
    show wpAny _ _ (if (onTheHeap (Value.ref D) && Value.builtin "BaseException.__getattribute__" == Value.builtin "object.__getattribute__") = true then _ else _) _ _ _
    rw [other, if_neg Bool.false_ne_true]
    unfold getAttrByItsOwn hookBefore
    refine wpAny_bind ?_
    rw [if_pos (show onTheHeap (Value.ref D) = true from rfl)]
    refine lk.at (wpAny_bind (wpAny_attempt (wpAny_holding ?_)))
    unfold callGetattribute
    rw [show (false && onTheHeap (Value.builtin "BaseException.__getattribute__")) = false from rfl, if_neg Bool.false_ne_true]
    unfold boundAndCalled
    rw [PySem.F.excAttr_ValueError.ga.bind (.ref x)]
    refine wpAny_bind (wpAny_pure ?_)
    show wpAny _ _ (call (.builtin "BaseException.__getattribute__") [.ref x, .str "__class__" t]) _ _ _
    refine wpAny_call (codeAny_call_builtin PySem.F.excAttr_ValueError.ga.plain PySem.F.entry_bexc_ga
      (@PySem.W.check_slot (model prog w) _ _ ⟨hp, g, d, t + 1, os⟩ "BaseException.__getattribute__" "BaseException" "__getattribute__" (.ref x) [.str "__class__" t] [] _
        (by decide +kernel) (by decide +kernel) (lt.andThen (PySem.W.looks_subIn X c.hs)) (PySem.F.args_bexc_ga (.ref x) (.str "__class__" t)) ?_))
    unfold Builtin.«object.__getattribute__»
    refine wpAny_bind (wpAny_of_eq (a := ((Value.ref x : Value), [Value.str "__class__" t])) (by first | rfl | (simp only [slotArgs]; rfl)) (wpAny_bind (wpAny_pure (wpAny_bind (lt.at (wpAny_bind (lf.at ?_)))))))
    show wpAny _ _ (holding [Value.builtin "object.__class__"] (call (.builtin "getset_descriptor.__get__") [.builtin "object.__class__", .ref x, .ref D]) >>= ret) _ _ _
    refine wpAny_bind (wpAny_holding (wpAny_call (PySem.W.class_get (s := ⟨hp, g, d, t + 1, os⟩) (ox := ox) (od := some od) X I c.hm (wpAny_pure ?_))))
    show wpAny _ _ (handedOut (.ref D)) _ _ _
    rw [PySem.W.handedOut_of (v := .ref D) rfl]
    first
      | exact wpAny_pure (wpAny_pure h)
      | exact wpAny_pure h
      | exact wpAny_pure (wpAny_bind (wpAny_pure (wpAny_pure h)))
theorem kitx_exc (c : ExcC K D) : PySem.W.KitX K (.ref x) (.ref D) (fun h => PySem.W.InstAt h x ox D (some od)) where
  ty := fun _ _ _ I => I.type
  it := fun _ _ X _ => by
    obtain ⟨cd, e, _⟩ := PySem.W.any_some c.hd
    unfold PySem.W.clsIn at e
    split at e
    · rename_i ho
      exact fun A' Q' E' s' k q => by
        unfold isType loadHead
        exact wpAny_bind (wpAny_loadPart (k _ _ (X _ _ ho)) (wpAny_pure q))
    · cases e
  ne := fun h tp dd its n sl X htp => by
    obtain ⟨cd, e, _⟩ := PySem.W.any_some c.hd
    cases q : (Value.ref D == Value.ref tp) with
    | false => rfl
    | true =>
      have z : D = tp := Value.ref.inj (beq_iff_eq.mp q)
      rw [← z] at htp
      unfold PySem.W.clsIn at e
      split at e
      · rename_i ho
        have y := (X _ _ ho).symm.trans htp
        cases y
      · cases e
  ca := fun X I k => class_of_exc c X I k
end
section
variable {X : Cx} {a D : Addr} {oe : Obj} {d : Addr} {pn : List (Addr × Obj)}
/-- the caught error as the machine sees it -/
theorem inst_exc {pins : List (Addr × Obj)} {σ : L2.St} {H : Hp} {s : Shared} {fs : List (Str × V)} (I : Inv (X.suite a ((a, oe) :: pn)) pins σ H s) (hz : Zc (.ref D) (some d) oe) (hf : ∃ vs, oe.data = .fields vs) (hd : H d = some (.xd fs)) :
    ∃ od, PySem.W.InstAt s.heap a oe D (some od) := by
  obtain ⟨hget, _⟩ := I.pin (a, oe) (List.mem_append_left _ List.mem_cons_self)
  obtain ⟨vs, hv⟩ := hf
  obtain ⟨mA, hns, _⟩ := (show ObjOk X.prog X.w H s.heap d (.xd fs) from I.hok d _ hd)
  obtain ⟨od, ho, _⟩ := lookIn_ns hns
  exact ⟨od, hget, hz.1, by unfold PySem.W.notCls; rw [hv] <;> rfl, by rw [hz.2]; exact ho⟩
/-- isinstance(e, c) -/
def rIsX (K : PySem.W.Frag) (D a : Addr) (cls : Value) (d : Option Addr) : List V → Hp → VK → Prop := fun xs H Q => ∃ (c : V) (u : Value) (b : Bool) (dd : Addr) (fs : List (Str × V)), xs = [.ref a, c] ∧ cls = .ref D ∧ d = some dd ∧ ClsV c u ∧ H dd = some (.xd fs) ∧ PySem.W.kitOne K (.ref D) u = some b ∧ Q (.bl b) H
theorem call_isX {cls : Value} {d : Option Addr} (c : ExcC X.K D) (hz : Zc cls d oe) (hf : ∃ vs, oe.data = .fields vs) : CallR (X.suite a ((a, oe) :: pn)) (.builtin "isinstance") (rIsX X.K D a cls d) := by
  intro pins s σ H xs us Q I r h
  obtain ⟨cv, u, b, dd, fs, rfl, rfl, rfl, k, hd, e, q⟩ := h
  obtain ⟨u1, u2, rfl, r1, r2⟩ := vals2 r
  obtain rfl : u1 = Value.ref a := r1
  have e2 := k.eq r2
  subst e2
  obtain ⟨od, J⟩ := inst_exc I hz hf hd
  exact PySem.W.kia_one (kitx_exc c) I.kIn J e (fun z => nomatch z) fun tk => ⟨.bl b, H, I.tok tk, rfl, q⟩
/-- isinstance(e, (c1, c2, ..)) -/
def rIsXT (K : PySem.W.Frag) (D a : Addr) (cls : Value) (d : Option Addr) : List V → Hp → VK → Prop := fun xs H Q => ∃ (tp : Addr) (cs : List V) (us : List Value) (b : Bool) (dd : Addr) (fs : List (Str × V)), xs = [.ref a, .ref tp] ∧ cls = .ref D ∧ d = some dd ∧
  H tp = some (.tup cs) ∧ Paired ClsV cs us ∧ H dd = some (.xd fs) ∧ PySem.W.kitAny K (.ref D) us = some b ∧ Q (.bl b) H
theorem call_isXT {cls : Value} {d : Option Addr} (c : ExcC X.K D) (hz : Zc cls d oe) (hf : ∃ vs, oe.data = .fields vs) : CallR (X.suite a ((a, oe) :: pn)) (.builtin "isinstance") (rIsXT X.K D a cls d) := by
  intro pins s σ H xs us Q I r h
  obtain ⟨tp, cs, ws, b, dd, fs, rfl, rfl, rfl, hT, k, hd, e, q⟩ := h
  obtain ⟨u1, u2, rfl, r1, r2⟩ := vals2 r
  obtain rfl : u1 = Value.ref a := r1
  obtain rfl : u2 = Value.ref tp := r2
  obtain ⟨od, J⟩ := inst_exc I hz hf hd
  obtain ⟨_, its, rv, o, h1, h2, n, h3⟩ := (show ObjOk X.prog X.w H s.heap tp (.tup cs) from I.hok tp _ hT)
  have e3 := ClsV.all k rv
  subst e3
  obtain ⟨oc, odd, dt, sl⟩ := o
  simp only at h2 h3
  subst h2 h3
  exact PySem.W.kia_tup (kitx_exc c) I.kIn J h1 e (fun z => nomatch z) fun tk => ⟨.bl b, H, I.tok tk, rfl, q⟩
end
section
variable {X : Cx}
/-- repr of any data, also while an error is handled -/
theorem call_reprH (hg : X.A.guards = some []) (hu : X.A.units + 64 < cLine) (hs : SysOk X.K) : CallR X (.builtin "repr") (rReprQ X.K) := by
  intro pins s σ H xs us Q I r h
  obtain ⟨v, d, rfl, hd, hsh, hdep, hz, q⟩ := h
  obtain ⟨u, rfl, ru⟩ := vals1 r
  obtain ⟨as, rd, na⟩ := Dq.reads hs I hd u ru
  have viaRef : ∀ {a : Addr}, u = Value.ref a → wpAny (model X.prog X.w) X.A (call (.builtin "repr") [u]) (EP X pins σ Q) X.xe s := fun {a} e => by
    subst e
    exact repr_of_reads' rd hsh (fun _ => na) hg (by omega) (fun _ _ e => e) (fun h' u tk hk => ⟨.str _, H, I.kept hk, ⟨u, rfl⟩, q⟩) hz
  cases hd with
  | non =>
    cases ru
    exact PySem.P.repr_of_none ⟨.str _, H, I.tok _, ⟨_, rfl⟩, by simpa only [PyData.shown] using q⟩
  | bl b =>
    cases ru
    exact PySem.P.repr_of_bool ⟨.str _, H, I.tok _, ⟨_, rfl⟩, by simpa only [PyData.shown] using q⟩
  | int i =>
    obtain ⟨t, rfl⟩ := ru
    exact PySem.P.repr_of_int (by simpa [PyData.showable] using hsh) ⟨.str _, H, I.tok _, ⟨_, rfl⟩, by simpa only [PyData.shown] using q⟩
  | str x =>
    obtain ⟨t, rfl⟩ := ru
    exact PySem.P.repr_of_str ⟨.str _, H, I.tok _, ⟨_, rfl⟩, by simpa only [PyData.shown] using q⟩ (by simpa only [PyData.shown] using hz)
  | lst hq ha => exact viaRef ru
  | tup hq ha => exact viaRef ru
  | dct hq h1 h2 => exact viaRef ru
end
end Ex

set_option Elab.async false
set_option linter.all false
set_option maxRecDepth 100000
set_option maxHeartbeats 4000000
/-! Own layer: len(o) by an own __len__; what repr shows, within bounds; both law-free. -/
namespace Ex
open PySem PySem.Spec PySem.Calls PyProof.Rows L2 Gu
section
variable {X : Cx} {k j : Nat} {c : Str} {ps : List Str} {sp : Sp}
/-- len(o) by the class's own __len__ -/
def rLenO (C : Addr) (sp : Sp) : List V → Hp → VK → Prop := fun xs H Q => ∃ (a dx : Addr) (fs : List (Str × V)), xs = [.ref a] ∧ H a = some (.ins C dx fs) ∧ sp [.ref a] H (fun v H' => ∃ n : Nat, v = .int n ∧ n ≤ sizeLine ∧ Q (.int n) H') E0
theorem call_lenO (D : Mf X.prog X.w X.K X.mg X.base k c "__len__" ps sp) (hr : Room j X.A) (hj : k + 1 ≤ j := by decide) : CallR X (.builtin "len") (rLenO (He.ga X.K c) sp) := by
  intro pins s σ H xs us Q I r h
  obtain ⟨a, dx, fs, rfl, ha, hq⟩ := h
  obtain ⟨u, rfl, ru⟩ := vals1 r
  obtain rfl : u = Value.ref a := ru
  obtain ⟨fd, F, b⟩ := D.ex
  obtain ⟨mA, J, _⟩ := ins_get I.hok ha
  obtain ⟨od, J, _⟩ := J.look
  have rm : Room k X.A.in1 := (hr.mono hj).in1
  refine Calls.call_function_entry kind_len plain_len entry_len (args_len1 _) ?_
  unfold Builtin.«len»
  refine wpAny_bind (m := oneArg "len" _) (wpAny_pure ?_)
  refine wpAny_bind (m := callSpecial? (.ref a) (Str.ofString "__len__")) (PySem.W.special_fn (name := Str.ofString "__len__") (args := []) I.kIn J D.me.at_ (beq_iff_eq.mp D.me.fn) ?_)
  have e0 : Env0 X.prog X.w X.K X.mg X.base X.A.in1 X.stack s H := by
    have e := I.env0
    exact ⟨e.frames, e.mod, e.bs, e.bsz, e.funs, e.frf, e.hok, e.bare⟩
  have hl := F.len _ _ _ _ hq
  refine wpAny_call (codeAny_mono (F.run X.A.in1 X.stack s H ⟨[.ref a], []⟩ [.ref a] [.ref a] _ E0 rm e0 (by
    have := b s [.ref a] I.kIn (by simpa using hl)
    simpa using this) (.cons rfl .nil) hq) fun r s' hq' => ?_)
  match r, hq' with
  | .ok (.ret u), hq' =>
    obtain ⟨v, H', I', rv, n, rfl, hn, q⟩ := I.after hq'
    obtain ⟨t, rfl⟩ := rv
    have hs : sizeLine = 16777216 := sizeLine_eq
    refine wpAny_bind (wpAny_holding (wpAny_pure ?_))
    refine wpAny_bind (wpAny_letGo ?_)
    show wpAny _ _ (if ((n : Nat) : Int) < 0 then _ else _) _ _ _
    rw [if_neg (by omega)]
    show wpAny _ _ (if ((n : Nat) : Int) ≥ 2 ^ 63 then _ else _) _ _ _
    rw [if_neg (by omega)]
    exact wpAny_bind (wpAny_mkInt (wpAny_pure ⟨_, rfl, ⟨.int n, H', I'.tok _, ⟨_, rfl⟩, q⟩⟩))
end
theorem seqT {K : PySem.W.Frag} {H H' : Hp} {a : Addr} {xs : List V} (e : Same H H') (h : SqT K H a xs) : SqT K H' a xs := by
  rcases h with (h | ⟨o, h⟩) | h
  · exact .inl (.inl (e _ _ h))
  · exact .inl (.inr ⟨o, e _ _ h⟩)
  · exact .inr h
mutual
theorem dq_same {K : PySem.W.Frag} {H H' : Hp} (e : Same H H') : ∀ {v : V} {d : PyData}, Dq K H v d → Dq K H' v d
  | _, _, .non => .non
  | _, _, .bl b => .bl b
  | _, _, .int i => .int i
  | _, _, .str x => .str x
  | _, _, .lst hq ha => .lst (e.seq hq) (dqAll_same e ha)
  | _, _, .tup hq ha => .tup (seqT e hq) (dqAll_same e ha)
  | _, _, .dct hq h1 h2 => .dct (e _ _ hq) (dqAll_same e h1) (dqAll_same e h2)
theorem dqAll_same {K : PySem.W.Frag} {H H' : Hp} (e : Same H H') : ∀ {vs : List V} {ds : List PyData}, DqAll K H vs ds → DqAll K H' vs ds
  | _, _, .nil => .nil
  | _, _, .cons h1 h2 => .cons (dq_same e h1) (dqAll_same e h2)
end
/-- a value as repr shows it: nested at most n deep, at most m signs -/
structure Tq (K : PySem.W.Frag) (H : Hp) (v : V) (d : PyData) (n m : Nat) : Prop where
  dq : Dq K H v d
  sh : d.showable = true
  dp : d.depth ≤ n
  ln : d.shown.length ≤ m
structure TqAll (K : PySem.W.Frag) (H : Hp) (xs : List V) (ds : List PyData) (n m : Nat) : Prop where
  dq : DqAll K H xs ds
  sh : PyData.showableAll ds = true
  dp : PyData.depthAll ds ≤ n
  ln : ((PyData.shownAll ds).map (·.length)).sum + 2 * (PyData.shownAll ds).length ≤ xs.length * (m + 2)
section
variable {K : PySem.W.Frag} {H H' : Hp} {n m : Nat}
theorem Tq.same {v : V} {d : PyData} (t : Tq K H v d n m) (e : Same H H') : Tq K H' v d n m := ⟨dq_same e t.dq, t.sh, t.dp, t.ln⟩
theorem Tq.mono {v : V} {d : PyData} {n' m' : Nat} (t : Tq K H v d n m) (h1 : n ≤ n') (h2 : m ≤ m') : Tq K H v d n' m' := ⟨t.dq, t.sh, Nat.le_trans t.dp h1, Nat.le_trans t.ln h2⟩
theorem TqAll.same {xs : List V} {ds : List PyData} (t : TqAll K H xs ds n m) (e : Same H H') : TqAll K H' xs ds n m := ⟨dqAll_same e t.dq, t.sh, t.dp, t.ln⟩
theorem tq_all : ∀ {xs : List V}, (∀ v ∈ xs, ∃ d, Tq K H v d n m) → ∃ ds, TqAll K H xs ds n m
  | [], _ => ⟨[], .nil, rfl, Nat.zero_le _, Nat.zero_le _⟩
  | v :: xs, h => by
    obtain ⟨d, t⟩ := h v List.mem_cons_self
    obtain ⟨ds, a, b, c, e⟩ := tq_all (xs := xs) fun u hu => h u (List.mem_cons_of_mem _ hu)
    refine ⟨d :: ds, .cons t.dq a, ?_, ?_, ?_⟩
    · show (d.showable && PyData.showableAll ds) = true
      rw [t.sh, b]
      rfl
    · show max d.depth (PyData.depthAll ds) ≤ n
      have := t.dp
      omega
    · show (d.shown.length + ((PyData.shownAll ds).map (·.length)).sum) + 2 * ((PyData.shownAll ds).length + 1) ≤ (xs.length + 1) * (m + 2)
      have := t.ln
      rw [Nat.add_mul, Nat.one_mul]
      omega
theorem TqAll.lst {a : Addr} {xs : List V} {ds : List PyData} (t : TqAll K H xs ds n m) (h : H a = some (.lst xs)) : Tq K H (.ref a) (.list ds) (n + 1) (xs.length * (m + 2) + 3) := by
  refine ⟨.lst (SqL.of h) t.dq, t.sh, ?_, ?_⟩
  · show PyData.depthAll ds + 1 ≤ n + 1
    have := t.dp
    omega
  · have e := listText_len_le (PyData.shownAll ds)
    show (listText (PyData.shownAll ds)).length ≤ _
    have := t.ln
    omega
theorem TqAll.tup {a : Addr} {xs : List V} {ds : List PyData} (t : TqAll K H xs ds n m) (h : H a = some (.tup xs)) : Tq K H (.ref a) (.tuple ds) (n + 1) (xs.length * (m + 2) + 3) := by
  refine ⟨.tup (SqT.of h) t.dq, t.sh, ?_, ?_⟩
  · show PyData.depthAll ds + 1 ≤ n + 1
    have := t.dp
    omega
  · have e := tupleText_len_le (PyData.shownAll ds)
    show (tupleText (PyData.shownAll ds)).length ≤ _
    have := t.ln
    omega
theorem tq_non : Tq K H .non .none 0 41 := ⟨.non, rfl, Nat.le_refl _, by decide +kernel⟩
theorem tq_bl (b : Bool) : Tq K H (.bl b) (.bool b) 0 41 := ⟨.bl b, rfl, Nat.le_refl _, by cases b <;> decide +kernel⟩
theorem tq_int {i : Int} (h1 : -(10 ^ 39) ≤ i) (h2 : i ≤ 10 ^ 39) : Tq K H (.int i) (.int i) 0 41 := by
  have b39 : (10 : Int) ^ 39 = 1000000000000000000000000000000000000000 := by decide
  have e : i.natAbs < 10 ^ 40 := by
    have z : (10 : Nat) ^ 40 = 10000000000000000000000000000000000000000 := by decide
    omega
  have a : i.natAbs.log2 < 1920 := Nat.lt_of_lt_of_le (PySem.Flt.log2_lt_of (k := 200) (by decide) (Nat.lt_trans e (by decide))) (by decide)
  refine ⟨.int i, decide_eq_true a, Nat.le_refl _, ?_⟩
  have z := int_text_length_le10 (k := 40) (by decide) e
  show (Str.ofString (toString i)).length ≤ 41
  rw [PySem.ofString_length]
  exact z
theorem tq_text (z : String) (h : (reprText (Str.ofString z)).length ≤ 41) : Tq K H (.str (Str.ofString z)) (.str (Str.ofString z)) 0 41 := ⟨.str _, rfl, Nat.le_refl _, h⟩
theorem tq_dct {a : Addr} (h : H a = some (.dK [])) : Tq K H (.ref a) (.dict []) 1 41 := ⟨.dct h .nil .nil, rfl, by decide, by decide +kernel⟩
end
theorem code_lt {z : String} {c : Nat} (hc : c ∈ (Str.ofString z).cps.toList) : c < 1114112 := by
  have hc2 : c ∈ z.toList.map Char.toNat := by
    rw [← cpsOfBytes_string]
    simpa [Str.ofString] using hc
  obtain ⟨ch, _, rfl⟩ := List.mem_map.mp hc2
  have v : ch.val.toNat < 55296 ∨ (57343 < ch.val.toNat ∧ ch.val.toNat < 1114112) := ch.valid
  show ch.val.toNat < 1114112
  omega
/-- repr of such a value -/
theorem repr_tq {K : PySem.W.Frag} {H : Hp} {v : V} {d : PyData} {n m : Nat} {Q : VK} (t : Tq K H v d n m) (q : Q (.str d.shown) H) (hn : n ≤ 60 := by decide) (hm : m ≤ sizeLine := by decide) : rReprQ K [v] H Q :=
  ⟨v, d, rfl, t.dq, t.sh, Nat.le_trans t.dp hn, Nat.le_trans t.ln hm, q⟩
end Ex

set_option Elab.async false
set_option linter.all false
set_option maxRecDepth 100000
set_option maxHeartbeats 4000000
/-! Own layer: a == b by an own __eq__ that answers True or False; len(set(xs)) of ints that may be equal. -/
namespace Ex
open PySem PySem.Spec PySem.Calls PyProof.Rows L2 Gu
/-- a class's own == -/
structure EqOf (P : Program) (w : World) (K : PySem.W.Frag) (mg : Str → Option Value) (base : Heap) (k : Nat) (c : Str) (sp : Sp) : Prop where
  ex : ∃ fd, FnOk P w K mg base CX0 k (He.ma K (He.ga K c) "__eq__") fd ["self", "other"] sp ∧ Binds K fd ["self", "other"] []
  at_ : PySem.W.findIn K (.ref (He.ga K c)) "__eq__" = some (some (.ref (He.ma K (He.ga K c) "__eq__")))
  fn : PySem.W.isFn K (.ref (He.ma K (He.ga K c) "__eq__")) = true
/-- what isinstance asks of an own class, and that it knows itself -/
structure InsOk (K : PySem.W.Frag) (C : Addr) : Prop where
  cl : Cls K C
  ha : PySem.W.findIn K (.ref C) "__class__" = some (some (.builtin "object.__class__"))
  hn : PySem.W.specialIn K (.builtin "object.__class__") "__get__" = some (some (.builtin "getset_descriptor.__get__"))
  ht : PySem.W.takesIn K (.builtin "object.__class__") = some true
  hm : PySem.W.mroIn K C (.type "object") = some true
  ki : PySem.W.kitOne K (.ref C) (.ref C) = some true
def insB (K : PySem.W.Frag) (C : Addr) : Bool := He.eqO (PySem.W.findIn K (.ref C) "__class__") (some (some (.builtin "object.__class__"))) && (He.eqO (PySem.W.specialIn K (.builtin "object.__class__") "__get__") (some (some (.builtin "getset_descriptor.__get__"))) &&
  (decide (PySem.W.takesIn K (.builtin "object.__class__") = some true) && (decide (PySem.W.mroIn K C (.type "object") = some true) && decide (PySem.W.kitOne K (.ref C) (.ref C) = some true))))
theorem insB_ok {K : PySem.W.Frag} {C : Addr} (cl : Cls K C) (h : insB K C = true) : InsOk K C := by
  obtain ⟨h1, h⟩ := He.ba h
  obtain ⟨h2, h⟩ := He.ba h
  obtain ⟨h3, h⟩ := He.ba h
  obtain ⟨h4, h5⟩ := He.ba h
  exact ⟨cl, He.eqO_ok h1, He.eqO_ok h2, of_decide_eq_true h3, of_decide_eq_true h4, of_decide_eq_true h5⟩
theorem InsOk.ty {K : PySem.W.Frag} {C a dx : Addr} {fs : List (Str × V)} {H : Hp} (i : InsOk K C) (e : H a = some (.ins C dx fs)) : TyX K H (.ref a) (.ref C) := .base (.ins e i.cl i.ha i.hn i.ht i.hm)
/-- the facts of an own == by one Bool -/
def eqB (K : PySem.W.Frag) (C : Addr) : Bool := He.eqO (PySem.W.findIn K (.ref C) "__eq__") (some (some (.ref (He.ma K C "__eq__")))) && PySem.W.isFn K (.ref (He.ma K C "__eq__"))
theorem eqB_ok {K : PySem.W.Frag} {C : Addr} (h : eqB K C = true) : PySem.W.findIn K (.ref C) "__eq__" = some (some (.ref (He.ma K C "__eq__"))) ∧ PySem.W.isFn K (.ref (He.ma K C "__eq__")) = true := by
  obtain ⟨h1, h2⟩ := He.ba h
  exact ⟨He.eqO_ok h1, h2⟩
def rOwnEq (C : Addr) (sp : Sp) : R2 := fun x y H Q => ∃ a b dx dy fs gs, x = .ref a ∧ y = .ref b ∧ H a = some (.ins C dx fs) ∧ H b = some (.ins C dy gs) ∧ sp [.ref a, .ref b] H (fun v H' => (∃ t, v = .bl t) ∧ Q v H') E0
section
variable {X : Cx} {k j : Nat} {c : Str} {sp : Sp}
theorem op_own (D : EqOf X.prog X.w X.K X.mg X.base k c sp) (hr : Room j X.A) (hj : k ≤ j := by decide) : OpR X (compareOp .Eq) (rOwnEq (He.ga X.K c) sp) := by
  intro pins s σ H x y u v Q I rx ry ⟨a, b, dx, dy, fs, gs, ex, ey, ha, hb, hsp⟩
  subst ex ey
  obtain rfl : u = Value.ref a := rx
  obtain rfl : v = Value.ref b := ry
  obtain ⟨fd, F, bi⟩ := D.ex
  have hr' := hr.mono hj
  obtain ⟨mA, J, _⟩ := ins_get I.hok ha
  obtain ⟨mB, J', _⟩ := ins_get I.hok hb
  obtain ⟨od, J, _⟩ := J.look
  obtain ⟨od', J', _⟩ := J'.look
  obtain ⟨m, hF⟩ := I.fr
  show wpAny (model X.prog X.w) X.A (richCompare .Eq (.ref a) (.ref b)) (EP X pins σ Q) X.xe s
  refine PySem.W.cmp_K (op := .Eq) (tb := .ref (He.ga X.K c)) hr'.units0 hF I.ok.mod.kin J J'.type (by simp [PySem.W.notFirst]) D.at_ D.fn ?_
  have r2 : Vals [V.ref a, V.ref b] [Value.ref a, Value.ref b] := .cons rfl (.cons rfl .nil)
  have bb := bi s [.ref a, .ref b] I.kIn rfl
  refine wpAny_call (codeAny_mono (F.run X.A X.stack s H ⟨[.ref a, .ref b], []⟩ [.ref a, .ref b] [.ref a, .ref b] _ E0 hr' I.env0 (by simpa using bb) r2 hsp) fun r s' hq => ?_)
  match r, hq with
  | .ok (.ret w), hq =>
    obtain ⟨z, H', I', rz, ⟨t, ez⟩, q⟩ := I.after hq
    subst ez
    cases rz
    exact ⟨.bl t, H', I', rfl, q⟩
/-- how many different ones -/
def diff (ns : List Int) : Nat := (ns.foldl step_dedup []).length
theorem range_get (ns : List Int) : (List.range ns.length).map (fun i => ns.getD i 0) = ns := by
  apply List.ext_getElem?
  intro i
  by_cases h : i < ns.length
  · rw [List.getElem?_map, List.getElem?_range h, List.getElem?_eq_getElem h]
    simp [h]
  · rw [List.getElem?_eq_none (by rw [List.length_map, List.length_range]; omega), List.getElem?_eq_none (by omega)]
def tLenSetD (K : PySem.W.Frag) (ta : TE) : TE := fun σ H Q => ta σ H fun x H1 => ∃ (l : Addr) (ns : List Int), x = V.ref l ∧ SqL K H1 l (ns.map V.int) ∧ ns.length < 64 ∧ Q (.int (diff ns : Nat)) H1
theorem pe_lenSetD {a : Expr} {ta : TE} {p p2 q pos : Pos} (hc : X.calm = true) (hg : Gl X "len") (hm : X.mg "len" = none) (hg2 : Gl X "set") (hm2 : X.mg "set" = none) (ha : PE X a ta)
    (na : starEach [a] X.env = (false, eval a X.env) :: starEach [] X.env := by rfl) : PE X (.Call (.Name "len" p) [.Call (.Name "set" p2) [a] [] q] [] pos) (tLenSetD X.K ta) := by
  refine ⟨fun pins s σ H Q I h => Call_ (ld_blt I hg hm PySem.boot_len (PyProof.Rows.callWith_builtin1 (PyProof.Rows.args_cons (Call_ (ld_blt I hg2 hm2 PyProof.Rows.boot_set ?_)) rfl) rfl rfl))⟩
  refine PyProof.Rows.callWith_type1 (PyProof.Rows.args_cons (thn (ha.run pins s σ H _ I h) fun v s1 ⟨x, H1, I1, r1, l, ns, ex, hq, h1, q1⟩ => PyProof.Rows.args_nil ?_) na) na rfl
  subst ex
  obtain rfl : v = Value.ref l := r1
  obtain ⟨its, r, pl, hz⟩ := I1.list hq
  have hl : its.toArray.size = ns.length := by rw [List.size_toArray, ← r.length, List.length_map]
  refine call_set_list (I1.ok.hd hc) pl.isList (ns := ns) (by simpa using r.ints) (by unfold scanBound; omega) fun h' tk hS hk => PyProof.Rows.args_nil ?_
  have ed : (PyProof.Rows.firstMet (fun i => ns.getD i 0) its.toArray.size).length = diff ns := by
    unfold PyProof.Rows.firstMet diff
    rw [hl, range_get]
  have le : diff ns ≤ ns.length := by
    rw [← ed, ← hl]
    exact PyProof.Rows.firstMet_length_le _ _
  obtain ⟨o, es, ep, t, ho, hex, hd, _, _, _, hf, hn⟩ := hS
  rw [ed] at hn
  exact call_len_set ho hex hd hf (by rw [hn] <;> omega) ⟨.int (diff ns : Nat), H1, (I1.kept fun b o e => hk b o (Heap.lt_size e) e).tok _, ⟨_, by rw [hn]⟩, q1⟩
end
end Ex

set_option Elab.async false
set_option linter.all false
set_option maxRecDepth 100000
set_option maxHeartbeats 4000000
/-! Own layer: a != b by an own __eq__ and object's __ne__. -/
namespace HN
open PySem PySem.Spec PyProof.Rows PySem.SeqAt
section
variable {prog : Program} {w : World} {A : Around} {E : Value → Shared → Prop} {s : Shared} {K : PySem.W.Frag} {x C f : Addr} {b tb : Value} {ox : Obj} {od : Option Obj}
theorem objNe_entry {Q : Fin → Shared → Prop} (X : K.In s.heap) (I : PySem.W.InstAt s.heap x ox C od) (hs : PySem.W.findIn K (.ref C) "__eq__" = some (some (.ref f))) (hf : PySem.W.isFn K (.ref f) = true) (hu : A.units < cLine)
    (hcall : wpAny (model prog w) A (call (.ref f) [.ref x, b]) (fun v s' => ∃ t, v = .bool t ∧ Q (.done (.ret (.bool (!t)))) s') E s) :
    wpAny (model prog w) A (Builtin.«object.__ne__» ⟨[.ref x, b], []⟩) Q E s := by
  unfold Builtin.«object.__ne__»
  repeat (first
    | with_reducible refine wpAny_cRoomFor hu ?_
    | (refine wpAny_bind (m := callSpecialIfBound? (.ref x) (Str.ofString "__eq__") [b])
        (PySem.W.ifBound_K X I hs hf (wpAny_mono hcall (fun r s' hr => by
          obtain ⟨t, rfl, hq⟩ := hr
          repeat (first | exact hq | exact wpAny_pure hq | exact wpAny_truthy_bool hq | (refine wpAny_bind (m := truthy (.bool _)) (wpAny_truthy_bool ?_)) | wp_step)) fun _ _ e => e)))
    | wp_step)
theorem call_objNe {Q : Value → Shared → Prop} (X : K.In s.heap) (I : PySem.W.InstAt s.heap x ox C od) (hm : PySem.W.mroIn K C (.type "object") = some true) (hs : PySem.W.findIn K (.ref C) "__eq__" = some (some (.ref f))) (hf : PySem.W.isFn K (.ref f) = true) (hu : A.in1.units < cLine)
    (hcall : wpAny (model prog w) A.in1 (call (.ref f) [.ref x, b]) (fun v s' => ∃ t, v = .bool t ∧ Q (.bool (!t)) s') E s) :
    wpAny (model prog w) A (call (.builtin "object.__ne__") [.ref x, b]) Q E s :=
  wpAny_call (codeAny_call_builtin F.cmp_object.ne.plain F.cmpEntry_ne (PySem.W.check_slot F.cmpKind_ne F.cmpSplit_ne (I.type.andThen (PySem.W.looks_mroIn X hm)) (F.cmpArgs_ne _ _) (objNe_entry X I hs hf hu hcall)))
theorem ifBound_objNe {args : List Value} {Q : Option Value → Shared → Prop} {M : Model} (X : K.In s.heap) (I : PySem.W.InstAt s.heap x ox C od) (hs : PySem.W.findIn K (.ref C) "__ne__" = some (some (.builtin "object.__ne__")))
    (h : wpAny M A (call (.builtin "object.__ne__") (.ref x :: args)) (fun v => Q (some v)) E s) : wpAny M A (callSpecialIfBound? (.ref x) "__ne__" args) Q E s := by
  simp only [callSpecialIfBound?, bindSpecialIfBound?]
  refine wpAny_holding (wpAny_bind (wpAny_bind (wpAny_bind (I.type.here ((PySem.W.looks_findIn X hs).here ?_)))))
  refine wpAny_bind (wpAny_askSetting (wpAny_ite ?_))
  have fin : wpAny M A (call (.builtin "object.__ne__") ([.ref x] ++ args) >>= fun v => pure (some v)) Q E s := wpAny_bind (wpAny_mono h (fun v s' h' => wpAny_pure h') fun _ _ h' => h')
  split
  · exact wpAny_bind (wpAny_of_eq (F.cmp_object.ne.bind _) (wpAny_pure (by exact fin)))
  · exact wpAny_tryCatch (wpAny_bind (wpAny_of_eq (F.cmp_object.ne.bind _) (wpAny_pure (by exact fin))))
theorem ne_K {Q : Value → Shared → Prop} (hu : A.units < cLine) (hu1 : A.in1.units < cLine) (X : K.In s.heap) (I : PySem.W.InstAt s.heap x ox C od) (hb : PySem.W.Looks (model prog w) s.heap (typeOf b) (.ref C)) (hm : PySem.W.mroIn K C (.type "object") = some true)
    (hn : PySem.W.findIn K (.ref C) "__ne__" = some (some (.builtin "object.__ne__"))) (hs : PySem.W.findIn K (.ref C) "__eq__" = some (some (.ref f))) (hf : PySem.W.isFn K (.ref f) = true)
    (hcall : wpAny (model prog w) A.in1 (call (.ref f) [.ref x, b]) (fun v s' => ∃ t, v = .bool t ∧ Q (.bool (!t)) s') E s) : wpAny (model prog w) A (richCompare .NotEq (.ref x) b) Q E s := by
  have one : wpAny (model prog w) A (tryCompare (.ref x) "__ne__" b) (fun r s' => ∃ v, r = some v ∧ Q v s') E s := by
    unfold tryCompare
    refine wpAny_bind (ifBound_objNe X I hn (call_objNe X I hm hs hf hu1 (wpAny_mono hcall (fun v s' hv => ?_) fun _ _ e => e)))
    obtain ⟨t, rfl, q⟩ := hv
    exact ⟨t, rfl, wpAny_pure ⟨_, rfl, q⟩⟩
  simp only [richCompare, cmpInfo_NotEq, oneThing_ref]
  refine wpAny_holding (wpAny_bind (wpAny_cRoomFor hu ?_))
  refine wpAny_bind (I.type.here (wpAny_bind (hb.here ?_)))
  rw [show (Value.ref C != Value.ref C) = false from by simp]
  simp only [Bool.false_eq_true, if_false]
  refine wpAny_bind (wpAny_pure ?_)
  simp only [Bool.false_eq_true, if_false]
  refine wpAny_bind (wpAny_mono one (fun r s' z => ?_) fun _ _ e => e)
  obtain ⟨v, rfl, hq⟩ := z
  exact wpAny_pure hq
end
end HN
namespace Ex
open PySem PySem.Spec PySem.Calls PyProof.Rows L2 Gu
structure NeOk (K : PySem.W.Frag) (C : Addr) : Prop where
  ne : PySem.W.findIn K (.ref C) "__ne__" = some (some (.builtin "object.__ne__"))
  hm : PySem.W.mroIn K C (.type "object") = some true
def neB (K : PySem.W.Frag) (C : Addr) : Bool := He.eqO (PySem.W.findIn K (.ref C) "__ne__") (some (some (.builtin "object.__ne__"))) && decide (PySem.W.mroIn K C (.type "object") = some true)
theorem neB_ok {K : PySem.W.Frag} {C : Addr} (h : neB K C = true) : NeOk K C := by
  obtain ⟨h1, h2⟩ := He.ba h
  exact ⟨He.eqO_ok h1, of_decide_eq_true h2⟩
def rOwnNe (C : Addr) (sp : Sp) : R2 := fun x y H Q => ∃ a b dx dy fs gs, x = .ref a ∧ y = .ref b ∧ H a = some (.ins C dx fs) ∧ H b = some (.ins C dy gs) ∧ sp [.ref a, .ref b] H (fun v H' => ∃ t, v = .bl t ∧ Q (.bl (!t)) H') E0
section
variable {X : Cx} {k j : Nat} {c : Str} {sp : Sp}
theorem op_ownN (D : EqOf X.prog X.w X.K X.mg X.base k c sp) (N : NeOk X.K (He.ga X.K c)) (hr : Room j X.A) (hj : k + 1 ≤ j := by decide) : OpR X (compareOp .NotEq) (rOwnNe (He.ga X.K c) sp) := by
  intro pins s σ H x y u v Q I rx ry ⟨a, b, dx, dy, fs, gs, ex, ey, ha, hb, hsp⟩
  subst ex ey
  obtain rfl : u = Value.ref a := rx
  obtain rfl : v = Value.ref b := ry
  obtain ⟨fd, F, bi⟩ := D.ex
  have hr' := hr.mono hj
  obtain ⟨mA, J, _⟩ := ins_get I.hok ha
  obtain ⟨mB, J', _⟩ := ins_get I.hok hb
  obtain ⟨od, J, _⟩ := J.look
  obtain ⟨od', J', _⟩ := J'.look
  show wpAny (model X.prog X.w) X.A (richCompare .NotEq (.ref a) (.ref b)) (EP X pins σ Q) X.xe s
  refine HN.ne_K hr'.units0 hr'.in1.units0 I.kIn J J'.type N.hm N.ne D.at_ D.fn ?_
  have r2 : Vals [V.ref a, V.ref b] [Value.ref a, Value.ref b] := .cons rfl (.cons rfl .nil)
  have bb := bi s [.ref a, .ref b] I.kIn rfl
  refine wpAny_call (codeAny_mono (F.run X.A.in1 X.stack s H ⟨[.ref a, .ref b], []⟩ [.ref a, .ref b] [.ref a, .ref b] _ E0 hr'.in1 I.env0.in1 (by simpa using bb) r2 hsp) fun r s' hq => ?_)
  match r, hq with
  | .ok (.ret w), hq =>
    obtain ⟨z, H', I', rz, ⟨t, ez, q⟩⟩ := I.after hq
    subst ez
    cases rz
    exact ⟨t, rfl, .bl (!t), H', I', rfl, q⟩
end
end Ex

set_option Elab.async false
set_option linter.all false
set_option maxRecDepth 100000
set_option maxHeartbeats 4000000
/-! Own layer: errors with a field over any built-in base (ArithmeticError, LookupError, RuntimeError, ValueError), made and raised. -/
namespace Ex
open PySem PySem.Spec PySem.Calls PyProof.Rows L2 Gu
/-- own classes, then the mro of a built-in base -/
def refsB (tl : List Value) : List Value → Bool
  | .ref _ :: r => refsB tl r
  | l => l == tl
theorem refsB_two (tl : List Value) (l : List Value) (e : refsB tl l = true) : (∃ c r, l = .ref c :: r ∧ refsB tl r = true) ∨ l = tl := by
  cases l with
  | nil => exact .inr (beq_iff_eq.mp e)
  | cons v r => cases v with
    | ref c => exact .inl ⟨c, r, rfl, e⟩
    | _ => exact .inr (beq_iff_eq.mp e)
/-- a built-in base of errors -/
structure BaseE (B : String) (tl : List Value) : Prop where
  ex : ExcBaseFacts B (B ++ ".__new__") (B ++ ".__init__") tl
  pa : ∀ self : Value, refuseLoop self "__setattr__" tl = pure ()
  ob : tl.contains (.type "object") = true
  ne : tl.isEmpty = false
abbrev tailE (B : String) : List Value := [.type B, .type "Exception", .type "BaseException", .type "object"]
theorem base_AE : BaseE "ArithmeticError" (tailE "ArithmeticError") := ⟨F.excBase_ArithmeticError, F.store_ArithmeticError.passes, by decide +kernel, rfl⟩
theorem base_LE : BaseE "LookupError" (tailE "LookupError") := ⟨F.excBase_LookupError, F.store_LookupError.passes, by decide +kernel, rfl⟩
theorem base_RE : BaseE "RuntimeError" (tailE "RuntimeError") := ⟨F.excBase_RuntimeError, F.store_RuntimeError.passes, by decide +kernel, rfl⟩
theorem base_VE : BaseE "ValueError" (tailE "ValueError") := ⟨F.excBase_ValueError, F.store_ValueError.passes, by decide +kernel, rfl⟩
section
variable {B : String} {tl : List Value}
theorem BaseE.pass (b : BaseE B tl) (self : Value) : ∀ l, refsB tl l = true → refuseLoop self "__setattr__" l = pure ()
  | [], e => by
    have z : ([] : List Value) = tl := beq_iff_eq.mp e
    have n := b.ne
    rw [← z] at n
    cases n
  | v :: r, e => by
    rcases refsB_two tl _ e with ⟨c, r', q, h⟩ | q
    · cases q
      rw [refuseLoop_ref]
      exact b.pass self r h
    · rw [q]
      exact b.pa self
theorem BaseE.has (b : BaseE B tl) (Y : String) : ∀ l, refsB tl l = true → l.contains (.type Y) = tl.contains (.type Y)
  | [], e => by
    have z : ([] : List Value) = tl := beq_iff_eq.mp e
    rw [z]
  | v :: r, e => by
    rcases refsB_two tl _ e with ⟨c, r', q, h⟩ | q
    · cases q
      rw [List.contains_cons, b.has Y r h]
      rfl
    · rw [q]
theorem BaseE.some (b : BaseE B tl) {l : List Value} (e : refsB tl l = true) : l.isEmpty = false := by
  cases l with
  | cons _ _ => rfl
  | nil =>
    have z : ([] : List Value) = tl := beq_iff_eq.mp e
    have n := b.ne
    rw [← z] at n
    exact n
end
section
open Builtin Builtin.ObjectAttr
variable {prog : Program} {w : World} {A : Around} {R : Result → Shared → Prop} {hp : Heap} {g : Array GenState} {d : Drawn} {t : Nat} {os : OsState}
/-- the first field of an error is stored by object.__setattr__ -/
theorem first_field {B : String} {tl : List Value} (b : BaseE B tl) {K : W.Frag} {nm : Str} {tk : Tok} {v : Value} {x C : Addr} {fv : Array Value} {cd : ClassData}
    (KX : K.In hp) (hx : hp.get? x = some { cls := .ref C, data := .fields fv }) (hcd : W.clsIn K C = some cd) (mr : refsB tl cd.mro = true) (hdt : cd.hasDict = true) (no : W.findIn K (.ref C) nm = some none)
    (go : ∀ h' tk' dx, (∀ b o, b ≠ x → hp.get? b = some o → h'.get? b = some o) → hp.objs.size ≤ dx → dx ≠ x → h'.get? x = some { cls := .ref C, dict := some dx, data := .fields fv } →
      h'.Ns1 dx (fun y => if y = nm then some v else none) → R (.ok (.ret .none)) ⟨h', g, d, tk', os⟩) :
    codeAny (model prog w) A (.call (.builtin "object.__setattr__") ⟨[.ref x, .str nm tk, v], []⟩) R ⟨hp, g, d, t, os⟩ := by
  have IA : W.InstAt hp x { cls := .ref C, data := .fields fv } C none := ⟨hx, rfl, rfl, trivial⟩
  have so := F.store_object
  have nE := b.some mr
  have isO : cd.mro.contains (.type "object") = true := (b.has "object" _ mr).trans b.ob
  have far : x ≠ hp.objs.size := Nat.ne_of_lt (Heap.lt_size hx)
  have isI : W.Looks (model prog w) hp (isInstance (.ref x) (.type "object")) true := IA.type.andThen (W.looks_mroIn KX (by unfold W.mroIn; rw [hcd, Option.bind_some, if_neg (by rw [nE]; decide), isO]))
  refine codeAny_call_builtin so.slot.plain so.entry (@W.check_slot (model prog w) _ _ ⟨hp, g, d, t, os⟩ "object.__setattr__" "object" "__setattr__" (.ref x) [.str nm tk, v] [] _ so.kind so.split isI (so.args (.ref x) (.str nm tk) v) ?_)
  have lm : W.Looks (model prog w) hp (mroOf (.ref C)) cd.mro := (W.looks_clsIn KX hcd).andThen .now
  have ln : W.Looks (model prog w) hp (storeTaker? none) none := .now
  have lc : W.Looks (model prog w) hp (classData C) cd := W.looks_clsIn KX hcd
  rw [W.osa_eq, refuse_eq]
  refine wpAny_bind (wpAny_bind (IA.type.at (wpAny_bind (lm.at ?_))))
  rw [b.pass _ _ mr]
  refine wpAny_pure (wpAny_bind (IA.type.at (wpAny_bind ((W.looks_findIn KX no).at (wpAny_bind (ln.at ?_))))))
  show wpAny _ _ (storeInOwnDict (.ref x) (.ref C) (.str nm tk) nm v false) _ _ _
  obtain ⟨n1, n2, n3, n4, n5, hd, n7, n8, n9, n10, n11⟩ := cd
  dsimp only at hdt
  subst hdt
  unfold storeInOwnDict ownDictForStores
  repeat (first | with_reducible refine HandSPX.store_in_new ?_ ?_ | with_reducible refine wpAny_loadPart_at hx ?_ | with_reducible refine lc.at ?_ | wp_step)
  · exact ⟨_, #[], _, (Heap.get?_update_ne _ _ _ _ far.symm).trans (Heap.get?_push_at rfl rfl), rfl, fun e he => absurd he (by simp), fun _ => rfl⟩
  · intro h' tk' nn' sb
    have hx1 : (hp.push { cls := .type "dict", data := .dict #[] }).get? x = some { cls := .ref C, data := .fields fv } := Heap.get?_push_of_some _ hx
    exact go h' tk' hp.objs.size (fun c o hc ho => (sb.2 c (Nat.ne_of_lt (Heap.lt_size ho))).trans ((Heap.get?_update_ne _ _ _ _ hc).trans (Heap.get?_push_of_some _ ho))) (Nat.le_refl _) far.symm
      ((sb.2 x far).trans (Heap.get?_update_self _ hx1 rfl)) nn'
end
/-- what the written part says of an error's class over the base B -/
structure OexG (B : String) (tl : List Value) (K : PySem.W.Frag) (C : Addr) : Prop where
  base : BaseE B tl
  cls : ∃ nm q N bs bm sn sub ab col dd k0 k1 k2 k3 k5, K.lookup C = some (excClassObj nm q C N bs bm true sn sub ab col dd k0 k1 k2 k3 k5 (B ++ ".__new__")) ∧ refsB tl bm = true
  sa : PySem.W.findIn K (.ref C) "__setattr__" = some (some (.builtin "object.__setattr__"))
  exC : PySem.W.subIn K (.ref C) (.type "BaseException") = some true
  tyC : PySem.W.typeIn K (.ref C) = some (.type "type")
  kC : PySem.W.keepIn K (.ref C) = true
section
variable {X : Cx} {pins : List (Addr × Obj)} {σ : L2.St} {H : Hp} {s : Shared} {a C dx : Addr} {f : Str} {y : V} {u : Value} {Q : Unit → Shared → Prop} {E : Value → Shared → Prop} {A : Around} {B : String} {tl : List Value}
/-- self.f = y, the first one -/
theorem field_new (T : OexG B tl X.K C) (I : Inv X pins σ H s) (e : H a = some (exo a C none)) (no : PySem.W.findIn X.K (.ref C) f = some none) (ry : RelV y u)
    (go : ∀ dx s', H dx = none → dx ≠ a → Inv X pins σ (upd (upd H dx (exd dx [(f, y)])) a (exo a C (some dx))) s' → Q () s') : wpAny (model X.prog X.w) A (setAttr (.ref a) f u) Q E s := by
  obtain ⟨nm, q, N, bs, bm, sn, sub, ab, col, dd, k0, k1, k2, k3, k5, hC, mr⟩ := T.cls
  have hcl : PySem.W.clsIn X.K C = some { name := nm, bases := bs, mro := .ref C :: bm, ns := N, qualname := q, hasDict := true, slotNames := sn, subclasses := sub, abstract := ab, collection := col, hasDel := false } := by
    unfold PySem.W.clsIn
    rw [hC] <;> rfl
  obtain ⟨t1, at1⟩ := exo_at I.hok e
  obtain ⟨hp, g, dr, tk, os⟩ := s
  refine PySem.W.set_plain I.kIn (ox := { cls := .ref C, dict := none, data := .fields #[.ref t1, .none, .none, .none, .bool false, .none] }) (od := none) ⟨at1, rfl, rfl, trivial⟩ T.sa ?_
  refine first_field T.base I.kIn at1 hcl (show refsB tl (.ref C :: bm) = true from mr) rfl no (fun h' tk' dx k dn dne hx hn => ?_)
  have free : H dx = none := I.hok.fresh dn
  have far : ∀ {b : Addr} {o : Obj}, hp.get? b = some o → b ≠ dx := fun {b o} q => Nat.ne_of_lt (Nat.lt_of_lt_of_le (Heap.lt_size q) dn)
  have na : ∀ {b : Addr}, H b = none → b ≠ a := fun {b} n z => by
    rw [z, e] at n
    cases n
  have at2 : ∀ {b : Addr} {o : HO}, H b = some o → b ≠ a → upd (upd H dx (exd dx [(f, y)])) a (exo a C (some dx)) b = some o := fun {b o} q n => by
    rw [upd_ne n, upd_ne (ne_of_none q free)]
    exact q
  have U : Un X.fs [] H (upd (upd H dx (exd dx [(f, y)])) a (exo a C (some dx))) hp h' := {
    keep := fun b o q n _ _ => k b o (na n) q
    slot := fun b o q n _ _ => ⟨o.slots, k b o (na n) q⟩
    free := fun b o q n _ => (upd_ne (na n)).trans ((upd_ne (far q)).trans n)
    there := fun b o q _ => by
      by_cases hb : b = a
      · rw [hb]
        exact ⟨_, hx⟩
      · exact ⟨o, k b o hb q⟩
    tups := fun b xs q => at2 q (at_ne e q exo_tup)
    frzs := fun b o v q => at2 q (at_ne e q exo_frz)
    tbls := fun b ps q => ⟨#[], by rw [at2 q (at_ne e q exo_tbl)]; simp⟩ }
  refine go dx _ free dne (I.un (t' := tk') U fun b o q => ?_)
  by_cases hb : b = a
  · subst hb
    rw [upd_same] at q
    cases q
    exact exo_ok hx
  · rw [upd_ne hb] at q
    by_cases hd : b = dx
    · subst hd
      rw [upd_same] at q
      cases q
      exact exd_ok hn (relO_put (fs := []) ry fun g => True.intro)
    · rw [upd_ne hd] at q
      refine (I.hok b o q).stay (fun c v hc z => k c v ?_ z) (fun c hc => at2 hc (at_ne e hc exo_own)) (fun c xs hc => at2 hc (at_ne e hc exo_tup))
      rcases hc with hc | hc
      · rw [hc]
        exact hb
      · exact at_ne e hc exo_own
end
/-- self.f = e, the first field of an error -/
def tFst (B : String) (tl : List Value) (K : PySem.W.Frag) (f : Str) (to te : TE) : TS := fun D σ H => te σ H fun y H1 => to σ H1 fun x H2 => ∃ a C : Addr, x = .ref a ∧ OexG B tl K C ∧ PySem.W.findIn K (.ref C) f = some none ∧
  H2 a = some (exo a C none) ∧ ∀ dx, H2 dx = none → dx ≠ a → D.nx σ (upd (upd H2 dx (exd dx [(f, y)])) a (exo a C (some dx)))
section
variable {X : Cx} {o e : Expr} {es : List Expr} {to te : TE} {ta : TA} {f : Str} {p p' pos : Pos} {B : String} {tl : List Value}
theorem ps_fst (ho : PE X o to) (he : PE X e te) (hs : swapsWith e (some (.Attribute o f p')) pos.line X.env = pure false := by rfl) : PS X (.Assign [.Attribute o f p'] e pos) (tFst B tl X.K f to te) := by
  refine ⟨fun pins s σ H D I h => plainObj_wpAny_Assign_Attribute (thn (he.run pins s σ H _ I h) fun v s1 ⟨y, H1, I1, r1, q1⟩ => thn (ho.run pins s1 σ H1 _ I1 q1) fun u s2 ⟨x, H2, I2, r2, a, C, ex, T, no, ea, q⟩ => ?_) hs⟩
  subst ex
  obtain rfl : u = Value.ref a := r2
  exact field_new T I2 ea no r1 fun dx s' n ne J => ⟨σ, _, J, q dx n ne⟩
/-- C(e, ..) for a raise, C's own __init__ keeping sp -/
theorem pmk_oexG {CX : CXT} {x : Str} {C fI : Addr} {k : Nat} {fd : FuncData} {ps : List Str} {sp : Sp} {ds : List Value} {dvs : List V} (T : OexG B tl X.K C) (iC : PySem.W.findIn X.K (.ref C) "__init__" = some (some (.ref fI))) (tI : PySem.W.typeIn X.K (.ref fI) = some (.type "function"))
    (F1 : FnOk X.prog X.w X.K X.mg X.base CX k fI fd ps sp) (hr : Room (k + 1) X.A) (hb : Binds X.K fd ps ds) (hd : Vals dvs ds) (hx : Passes CX X (fun _ _ _ => False)) (hg : Gl X x) (hm : X.mg x = some (.ref C)) (ha : PA X (e :: es) ta)
    (hdb : (x == ("__debug__" : Str)) = false := by decide) (he : starEach (e :: es) X.env = (false, eval e X.env) :: starEach es X.env := by rfl) (hpl : (backTo pos (starEach es X.env)).any (·.1) = false := by rfl) :
    PMk X (.Call (.Name x p) (e :: es) [] pos) (tMkO C sp dvs ta) := by
  intro pins s σ H Q I h
  obtain ⟨nm, q, N, bs, bm, sn, sub, ab, col, dd, k0, k1, k2, k3, k5, hC, mr⟩ := T.cls
  refine wpAny_Call_Name_kw (ld_glob I hg hm (PySem.W.callWith_K (h₀ := X.base) I.ok.mod.kin T.kC (thn (ha.run pos pins s σ H _ I h) fun us s1 ⟨vs, H1, I1, r1, hz, q1⟩ => ⟨I1.kIn, ?_⟩) he hpl) hdb)
  show wpAny _ _ (call (.ref C) us) _ _ _
  obtain ⟨hp, g, dr, tk, os⟩ := s1
  generalize en : hp.objs.size + 1 = n
  have sz : hp.objs.size ≤ n := by omega
  have hq := q1 n (I1.hok.fresh sz)
  generalize ehp : (hp.push (PySem.W.kdv_tup us)).push (PySem.HandSPX.excO C hp.objs.size) = hp2
  have kk : ∀ b o, hp.get? b = some o → hp2.get? b = some o := fun b o e => by
    rw [← ehp]
    exact Heap.get?_push_of_some _ (Heap.get?_push_of_some _ e)
  have hget : hp2.get? n = some (PySem.HandSPX.excO C hp.objs.size) := by
    rw [← ehp, ← en]
    heap_get
  have I2 : Inv X pins σ (upd H1 n (exo n C none)) ⟨hp2, g, dr, tk, os⟩ := I1.laid (t' := tk) kk sz (exo_ok hget)
  have r2 : Vals (V.ref n :: (vs ++ dvs)) (Value.ref n :: (us ++ ds)) := .cons rfl (r1.append hd)
  have hl : (Value.ref n :: us ++ ds).length = ps.length := r2.length.symm.trans (F1.len _ _ _ _ hq)
  have few : us.length ≤ sizeLine := by
    rw [← Paired.length r1, sizeLine_eq]
    omega
  refine wpAny_call (PySem.HandSPX.call_own T.base.ex (fun Y => T.base.has Y bm mr) (I1.kIn _ _ hC) (PySem.W.looks_findIn I1.kIn iC) (fun self => PySem.W.bind_fn I1.kIn self tI) few ?_)
  rw [en, ehp]
  refine codeAny_mono (F1.run _ X.stack _ _ ⟨Value.ref n :: us, []⟩ (Value.ref n :: (us ++ ds)) _ _ (fun _ _ _ => False) (hr.make C us []) (I2.env0.make C us []) (hb _ (Value.ref n :: us) I2.kIn hl) r2 hq) fun r s' hq' => ?_
  match r, hq' with
  | .error er, hq' => exact hx pins σ _ _ er s' I2 hq'
  | .ok (.ret u), hq' =>
    obtain ⟨v, H2, os2, bare2, un2, hok2, rv, ev, d, fs, ea, ed, hd1, q2⟩ := hq'
    subst ev
    obtain ⟨h2, g2, d2, t2, os'⟩ := s'
    exact ⟨rv, mk_end (raises_own T.exC T.tyC) I1 sz kk un2 hok2 os2 bare2 ea ed hd1 q2⟩
end
end Ex

set_option Elab.async false
set_option linter.all false
set_option maxRecDepth 100000
set_option maxHeartbeats 4000000
/-! Own layer: several clauses 'except x as n' of one try, all with the same name n. -/
namespace Ex
open PySem PySem.Spec PySem.Calls PyProof.Rows L2 Gu
abbrev Suites : Type := List (Value × (Addr → Value → Option Addr → TS))
/-- what the clauses wish of an error of the body, one after the other: slot i is n's -/
def wAsAll (K : PySem.W.Frag) (i : Nat) (Wout : WX) (D : Ends) : Suites → WX
  | [] => Wout
  | (c, ts) :: r => wAs K c i ts (wAsAll K i Wout D r) D
inductive HdAs (X : Cx) (n : Str) : List ExceptHandler → Suites → Prop
  | nil : HdAs X n [] []
  | cons {x : Str} {c : Value} {ts : Addr → Value → Option Addr → TS} {b0 : Stmt} {su : List Stmt} {np p2 : Pos} {hs : List ExceptHandler} {l : Suites} (hc : Names X x c)
      (hsu : ∀ (a : Addr) (oe : Obj) (cls : Value) (d : Option Addr) (pn : List (Addr × Obj)), Zc cls d oe → (∃ vs, oe.data = .fields vs) → PSs (X.suite a ((a, oe) :: pn)) (b0 :: su) (ts a cls d)) (r : HdAs X n hs l) :
      HdAs X n (.ExceptHandler (some (.Name x np)) (some n) (b0 :: su) p2 :: hs) ((c, ts) :: l)
section
variable {X : Cx} {n : Str} {i : Nat} {body : List Stmt} {h0 : ExceptHandler} {hds : List ExceptHandler} {l : Suites} {pos : Pos} {tb : WX → TS} {Wout : WX}
theorem ps_try_asAll (hs : X.stack = X.env :: X.outer) (hf : X.env.frame = some X.env.locals) (hN : X.N.Nodup) (hi : X.N[i]? = some n) (hln : X.env.kindOf n = some .local) (tk : Takes X Wout)
    (hb : ∀ (W : WX) (pn : List (Addr × Obj)) (xe : Value → Shared → Prop), Takes (X.tr pn xe) W → PassesOwn (model X.prog X.w) X.A X.env xe → PSs (X.tr pn xe) body (tb W))
    (hh : HdAs X n (h0 :: hds) l) : PS X (.Try body (h0 :: hds) [] [] pos) (fun D σ H => tb (wAsAll X.K i Wout D l) D σ H) := by
  refine ⟨fun pins s σ H D I h => ?_⟩
  have ok := I.ok
  have fr : X.A.frames = some (X.env :: X.outer) := by
    rw [ok.frames, hs]
  refine wpAny_Try_except (wpAny_mono ((hb (wAsAll X.K i Wout D l) (X.pn ++ pins) (fun e s1 => wpAny (model X.prog X.w) X.A (noteFrame e X.env) (fun _ s2 => wpAny (model X.prog X.w) X.A (setFlight e none) (fun _ s3 =>
    wpAny (model X.prog X.w) X.A (handleBy e X.env (h0 :: hds)) (SP X pins D) X.xe s3) X.xe s2) X.xe s1) (fun u s' xx => ?_) PassesOwn.looking).run [] s σ H D (I.toTry _) h) (fun f s1 hsp => ?_) (fun e s1 he => he))
  · obtain ⟨a, B, sI, pins', σ1, H1, cls, d, rfl, J0, nb, up, sky, na, os, ag, w⟩ := xx
    have J : Inv X pins σ1 H1 sI := J0.ofTry ok
    rw [hs] at sky
    show wpAny (model X.prog X.w) X.A (noteFrame (.ref a) X.env) _ _ _
    refine Sky.land Zc.steady fr hf sky fun h3 fl up3 => ?_
    have J3 : Inv X pins σ1 H1 { s' with heap := h3 } := J.landed nb fl.1 (up.trans up3) os ag
    obtain ⟨o3, v3, he3, hz3, hd3⟩ := fl.there
    have nfr : a ∉ frs (X.env :: X.outer) := fun hm => by
      obtain ⟨_, o', e', hnf⟩ := fl.2.2.1.mem hm
      rw [he3] at e'
      cases e'
      exact hnf _ hd3
    have nL : a ≠ X.env.locals := fun z => nfr (List.mem_filterMap.mpr ⟨X.env, List.mem_cons_self, by rw [hf, z]⟩)
    have nF : a ∉ X.fs := fun hm => by
      obtain ⟨e, he, q⟩ := List.mem_filterMap.mp hm
      exact nfr (List.mem_filterMap.mpr ⟨e, List.mem_cons_of_mem _ he, q⟩)
    have S3 := J3.suite he3 hd3 na nL nF
    have go : ∀ {hs2 : List ExceptHandler} {l2 : Suites}, HdAs X n hs2 l2 → wAsAll X.K i Wout D l2 cls d σ1 H1 → wpAny (model X.prog X.w) X.A (handleBy (.ref a) X.env hs2) (SP X pins D) X.xe { s' with heap := h3 } := by
      intro hs2 l2 hk
      induction hk with
      | nil =>
        intro w
        refine wpAny_handleBy_nil ?_
        obtain ⟨_, _, _, oe, vs, Tb, oT, tsT, he, hz, hd, h1, hr⟩ := id fl
        unfold PySem.passOn
        refine wpAny_bind (wpAny_field he hd h1 ?_)
        rw [if_neg (show ¬ ((Value.ref Tb == Value.none) = true) from by simp)]
        have fin : wpAny (model X.prog X.w) X.A (setFlight (.ref a) X.env.frame) (fun _ s4 => wpAny (model X.prog X.w) X.A (throw (.ref a) : Sem Flow) (SP X pins D) X.xe s4) X.xe { s' with heap := h3 } := by
          rw [hf]
          exact HandSPX.setFlight_upZ fl fun h4 hh4 up4 => wpAny_throw (tk _ _ ⟨a, B, sI, pins, σ1, H1, cls, d, rfl, J, nb, (up.trans up3).trans up4, .inr (.inr (by rw [hs]; exact hh4)), na, os, ag, w⟩)
        first
          | exact wpAny_bind (wpAny_pure (wpAny_bind fin))
          | exact wpAny_bind fin
      | @cons x c ts b0 su np p2 hs3 l3 hc hsu r ih =>
        intro w
        obtain ⟨b, hb1, yes, no⟩ := w
        refine wpAny_handleBy_cons (codeAny_handlers_test ?_) (by intro q; cases q)
        have lt : PySem.W.Looks (model X.prog X.w) h3 (typeOf (.ref a)) cls := fun A Q E s k q => wpAny_typeOf_ref (k _ _ he3) (by rw [hz3.1]; exact q)
        have lm := PySem.W.exm_one (M := model X.prog X.w) J3.kIn lt hb1
        have name : ∀ {Q : Value → Shared → Prop} {E : Value → Shared → Prop}, Q c { s' with heap := h3 } → wpAny (model X.prog X.w) (X.A.mark (some (.ref a))) (eval (.Name x np) X.env) Q E { s' with heap := h3 } := fun {Q E} q => by
          obtain ⟨hg, hdbg, hm | ⟨hm, hv, hnn⟩⟩ := hc
          · exact ld_glob (X := X.suite a ((a, o3) :: (X.pn ++ pins))) S3 hg hm q hdbg
          · exact ld_blt (X := X.suite a ((a, o3) :: (X.pn ++ pins))) S3 hg hm hv q hnn hdbg
        refine name (lm.here ?_)
        cases b with
        | false =>
          show wpAny _ X.A (handleBy (.ref a) X.env hs3) _ _ _
          exact ih (no rfl)
        | true =>
          refine codeAny_handlers_suite_as (HandSPX.lands_againZ fl fun h4 fl4 up4 => ?_)
          have J4 : Inv X pins σ1 H1 { s' with heap := h4 } := J.landed nb fl4.1 ((up.trans up3).trans up4) os ag
          obtain ⟨o4, v4, he4, hz4, hd4⟩ := fl4.there
          have S4 := J4.suite he4 hd4 na nL nF
          refine store_ok (X := X.suite a ((a, o4) :: (X.pn ++ pins))) (v := .ref a) S4 hN hi (.inl hln) rfl (fun s5 S5 => ?_) (.inr hln)
          refine wpAny_mono ((hsu a o4 cls d (X.pn ++ pins) hz4 ⟨_, hd4⟩).run [] s5 _ H1 _ S5 (yes rfl a na)) (fun f s6 hsp => ?_) (fun _ _ z => False.elim z)
          have out : ∀ {σ6 : L2.St} {H6 : Hp} {Q : Shared → Prop}, Inv (X.suite a ((a, o4) :: (X.pn ++ pins))) [] σ6 H6 s6 → (∀ s7, Inv X pins (σ6.set i none) H6 s7 → Q s7) →
              wpAny (model X.prog X.w) X.A (do bindName X.env n .none; unbindBehindTheSuite X.env n p2) (fun _ s7 => Q s7) X.xe s6 := fun {σ6 H6 Q} S6 hq => gone_ok (S6.unsuite ok) hN hi hln hq
          match f, hsp with
          | .next, ⟨σ6, H6, S6, q6⟩ => exact out S6 fun s7 J7 => ⟨_, _, J7, q6⟩
          | .brk, ⟨σ6, H6, S6, q6⟩ => exact out S6 fun s7 J7 => ⟨_, _, J7, q6⟩
          | .cont, ⟨σ6, H6, S6, q6⟩ => exact out S6 fun s7 J7 => ⟨_, _, J7, q6⟩
          | .ret u, ⟨v6, σ6, H6, S6, r6, q6⟩ => exact out S6 fun s7 J7 => ⟨_, _, _, J7, r6, q6⟩
    exact go hh w
  · match f, hsp with
    | .next, ⟨σ1, H1, J1, q⟩ => exact wpAny_execs_nil ⟨σ1, H1, J1.ofTry ok, q⟩
    | .brk, ⟨σ1, H1, J1, q⟩ => exact ⟨σ1, H1, J1.ofTry ok, q⟩
    | .cont, ⟨σ1, H1, J1, q⟩ => exact ⟨σ1, H1, J1.ofTry ok, q⟩
    | .ret u, ⟨v, σ1, H1, J1, r, q⟩ => exact ⟨v, σ1, H1, J1.ofTry ok, r, q⟩
end
end Ex

set_option Elab.async false
set_option linter.all false
set_option maxRecDepth 100000
set_option maxHeartbeats 4000000
/-! Own layer: defs that make lambdas; the end of a law whose defs write the tables of their code objects, where no repr is under way. -/
namespace Gu
open PySem PySem.Spec PyProof.Rows L2
section
variable {P : Program} {w : World} {K : PySem.W.Frag} {mg : Str → Option Value} {base : Heap} {CX : CXT} {k : Nat} {f : Addr} {fd : FuncData} {ps : List Str} {sp : Sp}
/-- a def by its body, its code object known -/
theorem okGc {x qual : Str} {params : Arguments} {body : List Stmt} {scope : Scope} {dvs : List V} {kws : List (Str × V)} {N : List Str}
    (F : FunD K x qual params body scope dvs kws f fd) (S : FnScope N ps scope) (len : ∀ vs H Q E, sp vs H Q E → vs.length = ps.length)
    (hbody : ∀ (A : Around) (outer : List Env) (s : Shared) (H : Hp) (vs : List V) (Q : VK) (E : XK),
      RoomG k (A.deeper (envOfC qual scope s.heap.objs.size f fd.code)) → sp vs H Q E →
      ∃ t, PSs (cxOf CX P w K mg base N qual scope f fd.code A outer s H E) body t ∧ t { nx := fun _ H' => Q .non H', rt := Q } (start N vs) H) :
    FnG P w K mg base CX (k + 1) f fd ps sp := by
  obtain ⟨oc, od, dV, kV, doc, pm, an, cdv, ct, osl, rfl, lk, hcd, _, _⟩ := F.ex
  refine ⟨len, fun A outer s H args us vs Q E hr e0 hb rv hsp => ?_⟩
  have KX : K.In s.heap := e0.mod.kin.keeps fun b o e => (e0.bs b o e).1
  have kinds : ∀ y ∈ ps.zip us, scope.names.lookup y.1 = some .local ∨
      (scope.names.lookup y.1 = some .cell ∧ ((cellsFrom (s.heap.objs.size + 1) scope.names []).lookup y.1).isSome = true) := fun ⟨n, v⟩ hy => by
    rcases S.par n (List.of_mem_zip hy).1 with q | q
    · exact .inl q
    · exact .inr ⟨q, PySem.W.cellsFrom_some _ _ _ (.inl q)⟩
  refine codeAny_call_function hr.r.depth (KX _ _ lk) rfl S.co S.gen rfl (PySem.W.codeRec_of KX hcd) (hb _ _ _ _ ?_)
  refine wpAny_newFunctionEnv_cells S.kind kinds fun env he s1 x => ?_
  subst he
  refine ⟨(e0.mod.nolimit.keeps fun b o e => (e0.bs b o e).1).keeps x.toInCall.keep, codeAny_func ?_⟩
  obtain ⟨t, ht, hq⟩ := hbody A outer s H vs Q E (hr.down _) hsp
  have I := inv_start (CX := CX) (E := E) (N := N) (qual := qual) (f := f) (cd := cdv) S hr.r.hd e0 (len _ _ _ _ hsp) rv x
  refine wpAny_mono (ht.run [] s1 (start N vs) H _ I hq) (fun fl s' hs => ?_) fun e s' hs => hs
  match fl, hs with
  | .ret u, ⟨v, σ', H', J, rv', q⟩ => exact ⟨v, H', J.os, J.bare, J.base, J.hok, rv', q⟩
  | .next, ⟨σ', H', J, q⟩ => exact ⟨V.non, H', J.os, J.bare, J.base, J.hok, rfl, q⟩
  | .brk, ⟨_, _, z⟩ => exact z.2.elim
  | .cont, ⟨_, _, z⟩ => exact z.2.elim
end
/-- what stands in the heap before the law's call: the script, and the tables of the code objects cs -/
structure Tab0 (cs : List (Addr × Addr)) (H : Hp) : Prop where
  at_ : ∀ p ∈ cs, H p.2 = some (.tbl #[])
theorem law_goT {P : Program} {w : World} {K : PySem.W.Frag} {mg mb : Str → Option Value} {CX : CXT} {k : Nat} {fa a : Addr} {cs : List (Addr × Addr)} {fd : FuncData} {x : Str} {sp : Sp} {s₁ : Shared} {vs : List Value} {H : Hp}
    (KX : K.In s₁.heap) (hns : s₁.heap.Ns mainGlobals mg) (hb : s₁.heap.Ns builtinsNs mb) (hbb : ∀ x : Str, x ≠ "__name__" → mb x = bootBuiltins x) (hlim : s₁.heap.NoLimit) (hg : s₁.gens = #[])
    (tab : ∀ p ∈ cs, s₁.heap.get? p.2 = some { cls := .none, data := .fields #[] }) (cod : ∀ p ∈ cs, PySem.W.CodeHd s₁.heap p.1 p.2)
    (hbm : ∃ (bm : Addr) (ob : Obj), mg "__builtins__" = some (.ref bm) ∧ bm ≠ builtinsNs ∧ s₁.heap.get? bm = some ob ∧ ob.cls = .type "module" ∧ ob.dict = some builtinsNs ∧ ob.data = .plain)
    (ha : s₁.heap.get? a = some { cls := .type "list", data := .seq vs.toArray }) (hr : RoomG k callerA)
    (F : ∀ base : Heap, K.In base → base.Ns mainGlobals mg → (∀ p ∈ cs, LamX.TabB base mg p.1 p.2) → FnG P w K mg base CX k fa fd [x] sp) (hbind : ∀ (s : Shared) (u : Value), BindsTo s fd ⟨[u], []⟩ [(x, u)])
    (hsp : sp [.ref a] H (fun v _ => v = .bl true) fun _ _ _ => False) (hCX : ∀ e s', CX [] H s₁ (fun _ _ _ => False) e s' → False)
    (hT : Tab0 cs H) (hO : ∀ b, H b = none ∨ b ∈ cs.map (·.2) ∨ ∃ o xs, H b = some (.frz o (.lst xs))) (hok : HOk P w H s₁.heap) (hA : ∀ b, H b ≠ none → b = a ∨ b ∈ cs.map (·.2)) (hK : ∀ b, H b ≠ none → K.lookup b = none) :
    codeAny (model P w) callerA (.call (.ref fa) ⟨[.ref a], []⟩) (fun r s' => r = .ok (.ret (.bool true)) ∧ OldK s₁.heap s'.heap ∧ s'.os = s₁.os ∧ AllBare s'.gens) s₁ := by
  have isT : ∀ b : Addr, b ∈ cs.map (·.2) → s₁.heap.get? b = some { cls := .none, data := .fields #[] } := fun b hb => by
    obtain ⟨p, hp, e⟩ := List.mem_map.mp hb
    rw [← e]
    exact tab p hp
  have un : ∀ {b : Addr} {o : Obj}, s₁.heap.get? b = some o → (∀ zs n, o.data ≠ .seq zs n) → o.data ≠ .fields #[] → H b = none := fun {b o} e h1 h2 => by
    cases q : H b with
    | none => rfl
    | some u =>
      rcases hA b (by rw [q]; exact fun z => nomatch z) with z | z
      · rw [z, ha] at e
        exact (h1 _ _ (congrArg Obj.data (Option.some.inj e)).symm).elim
      · rw [isT b z] at e
        exact (h2 (congrArg Obj.data (Option.some.inj e)).symm).elim
  have nsK : ∀ {b : Addr} {m : Str → Option Value}, s₁.heap.Ns b m → (hidT s₁.heap H).Ns b m := fun {b m} ⟨o, es, ep, e, d, r⟩ =>
    ⟨o, es, ep, hidT_get e (un e (fun zs n z => by rw [d] at z; cases z) (fun z => by rw [d] at z; cases z)), d, r⟩
  have kb : K.In (hidT s₁.heap H) := fun b o e => hidT_get (KX b o e) (by
    cases q : H b with
    | none => rfl
    | some u =>
      rw [hK b (by rw [q]; exact fun z => nomatch z)] at e
      cases e)
  obtain ⟨mc, l1, l2⟩ := hlim
  have tb : ∀ p ∈ cs, LamX.TabB (hidT s₁.heap H) mg p.1 p.2 := fun p hp => by
    refine ⟨?_, ?_, fun z => ?_⟩
    · obtain ⟨o, us, file, tf, flags, tg, inF, text, tt, e1, r1, r2, r3, r4⟩ := cod p hp
      refine ⟨o, us, file, tf, flags, tg, inF, text, tt, hidT_get e1 (un e1 (fun zs n z => by rw [r2] at z; cases z) fun z => ?_), r1, r2, r3, r4⟩
      rw [r2] at z
      cases z
      simp at r3
    · obtain ⟨bm, ob, b1, b2, b3, b4, b5, b6⟩ := hbm
      refine ⟨bm, ob, b1, b2, fun q => ?_, fun q => ?_, hidT_get b3 (un b3 (fun zs n z => by rw [b6] at z; cases z) fun z => by rw [b6] at z; cases z), b4, b5, b6⟩
      · obtain ⟨o, es, ep, e, hd, _⟩ := hns
        rw [q, e] at b3
        cases b3
        rw [hd] at b6
        cases b6
      · rw [q, tab p hp] at b3
        cases b3
        cases b6
    · obtain ⟨o, es, ep, e, hd, _⟩ := hns
      rw [z, tab p hp] at e
      cases e
      cases hd
  have e0 : Env0 P w K mg (hidT s₁.heap H) callerA [] s₁ H :=
    ⟨rfl, ⟨kb, nsK hns, ⟨mb, nsK hb, hbb⟩, ⟨mc, nsK l1, l2⟩⟩, fun b o e => of_hidT e, Nat.le_of_eq (hidT_size _ _), trivial, fun b hb => absurd (show b ∈ ([] : List Addr) from hb) List.not_mem_nil, hok, .of_eq hg⟩
  refine codeAny_mono ((F _ kb (nsK hns) tb).run callerA [] s₁ H ⟨[.ref a], []⟩ [.ref a] [.ref a] _ _ hr e0 (hbind s₁ (.ref a)) (.cons rfl .nil) hsp) fun r s' h => ?_
  match r, h with
  | .error e, h => exact (hCX e s' h).elim
  | .ok (.ret u), h =>
    obtain ⟨v, H', os, bare, un', hok', r', q⟩ := h
    obtain rfl : v = .bl true := q
    obtain rfl : u = Value.bool true := r'
    have key : ∀ b o, b ∉ cs.map (·.2) → s₁.heap.get? b = some o → s'.heap.get? b = some o := fun b o nb e => by
      rcases hO b with z | z | ⟨ob, xs, z⟩
      · exact un'.keep b o e z (fun z => absurd (show b ∈ ([] : List Addr) from z) List.not_mem_nil) (fun z => absurd (show b ∈ ([] : List Addr) from z) List.not_mem_nil)
      · exact absurd z nb
      · obtain ⟨e1, _⟩ := hok b _ z
        obtain ⟨e2, _⟩ := hok' b _ (un'.frzs b ob _ z)
        rw [e] at e1
        rw [Option.some.inj e1]
        exact e2
    have more : ∀ p ∈ cs, ∃ m : Array Value, s'.heap.get? p.2 = some { cls := .none, data := .fields m } := fun p hp => by
      obtain ⟨m, z⟩ := un'.tbls p.2 #[] (hT.at_ p hp)
      exact ⟨_, hok' p.2 _ z⟩
    refine ⟨rfl, ⟨fun b o e => ?_, fun b o e => ?_⟩, os, bare⟩
    · by_cases hb : b ∈ cs.map (·.2)
      · obtain ⟨p, hp, ep⟩ := List.mem_map.mp hb
        obtain ⟨m, hm⟩ := more p hp
        rw [← ep] at e ⊢
        rw [tab p hp] at e
        cases e
        exact .inr (.inl ⟨((cod p hp).tab (tab p hp)).isCodeTable, rfl, #[], m, rfl, by rw [Array.empty_append]; exact hm⟩)
      · exact .inl (key b o hb e)
    · by_cases hb : b ∈ cs.map (·.2)
      · obtain ⟨p, hp, ep⟩ := List.mem_map.mp hb
        obtain ⟨m, hm⟩ := more p hp
        rw [← ep]
        exact ⟨_, hm⟩
      · exact ⟨o, key b o hb e⟩
theorem law_callTG {P : Program} {w : World} {K : PySem.W.Frag} {mg mb : Str → Option Value} {CX : CXT} {k : Nat} {fa a : Addr} {cs : List (Addr × Addr)} {fd : FuncData} {x : Str} {sp : Sp} {s₁ : Shared} {vs : List Value} {ns : List Int}
    (KX : K.In s₁.heap) (hns : s₁.heap.Ns mainGlobals mg) (hb : s₁.heap.Ns builtinsNs mb) (hbb : ∀ x : Str, x ≠ "__name__" → mb x = bootBuiltins x) (hlim : s₁.heap.NoLimit) (hg : s₁.gens = #[])
    (tab : ∀ p ∈ cs, s₁.heap.get? p.2 = some { cls := .none, data := .fields #[] }) (nT : ∀ p ∈ cs, K.lookup p.2 = none) (cod : ∀ p ∈ cs, PySem.W.CodeHd s₁.heap p.1 p.2)
    (hbm : ∃ (bm : Addr) (ob : Obj), mg "__builtins__" = some (.ref bm) ∧ bm ≠ builtinsNs ∧ s₁.heap.get? bm = some ob ∧ ob.cls = .type "module" ∧ ob.dict = some builtinsNs ∧ ob.data = .plain)
    (ha : s₁.heap.get? a = some { cls := .type "list", data := .seq vs.toArray }) (hi : IntsAre vs ns) (hl : ns.length ≤ sizeLine) (hr : RoomG k callerA)
    (F : ∀ base : Heap, K.In base → base.Ns mainGlobals mg → (∀ p ∈ cs, LamX.TabB base mg p.1 p.2) → FnG P w K mg base CX k fa fd [x] sp) (hbind : ∀ (s : Shared) (u : Value), BindsTo s fd ⟨[u], []⟩ [(x, u)])
    (hsp : ∀ H : Hp, Tab0 cs H → SqL K H a (ns.map V.int) → sp [.ref a] H (fun v _ => v = .bl true) fun _ _ _ => False) (hCX : ∀ H e s', CX [] H s₁ (fun _ _ _ => False) e s' → False) :
    codeAny (model P w) callerA (.call (.ref fa) ⟨[.ref a], []⟩) (fun r s' => r = .ok (.ret (.bool true)) ∧ OldK s₁.heap s'.heap ∧ s'.os = s₁.os ∧ AllBare s'.gens) s₁ := by
  have rv := vals_ints hi
  have lenV := hi.length
  have isT : ∀ b : Addr, b ∈ cs.map (·.2) → s₁.heap.get? b = some { cls := .none, data := .fields #[] } ∧ K.lookup b = none := fun b hb => by
    obtain ⟨p, hp, e⟩ := List.mem_map.mp hb
    rw [← e]
    exact ⟨tab p hp, nT p hp⟩
  have aT : a ∉ cs.map (·.2) := fun z => by
    have q := (isT a z).1
    rw [ha] at q
    cases congrArg Obj.data (Option.some.inj q)
  have memT : ∀ p ∈ cs, p.2 ∈ cs.map (·.2) := fun p hp => List.mem_map.mpr ⟨p, hp, rfl⟩
  let H0 : Option HO → Hp := fun z b => if b = a then z else if b ∈ cs.map (·.2) then some (.tbl #[]) else none
  have h_a : ∀ z, H0 z a = z := fun z => if_pos rfl
  have h_t : ∀ z b, b ∈ cs.map (·.2) → H0 z b = some (.tbl #[]) := fun z b hb => (if_neg fun e => aT (by rw [← e]; exact hb)).trans (if_pos hb)
  have h_n : ∀ z b, b ≠ a → b ∉ cs.map (·.2) → H0 z b = none := fun z b n hb => (if_neg n).trans (if_neg hb)
  have t0 : ∀ z, Tab0 cs (H0 z) := fun z => ⟨fun p hp => h_t z _ (memT p hp)⟩
  have two : ∀ z b, H0 z b ≠ none → b = a ∨ b ∈ cs.map (·.2) := fun z b h => by
    by_cases h1 : b = a
    · exact .inl h1
    · by_cases h2 : b ∈ cs.map (·.2)
      · exact .inr h2
      · exact (h (h_n z b h1 h2)).elim
  have tok : ∀ z b u, b ∈ cs.map (·.2) → H0 z b = some u → ObjOk P w (H0 z) s₁.heap b u := fun z b u hb e => by
    rw [h_t z b hb] at e
    cases e
    exact (isT b hb).1
  cases hk : K.lookup a with
  | some o =>
    have e := (KX a o hk).symm.trans ha
    obtain rfl := Option.some.inj e
    refine law_goT (H := H0 none) KX hns hb hbb hlim hg tab cod hbm ha hr F hbind (hsp _ (t0 _) (.inr ⟨_, vs.toArray, _, hk, rfl, rfl, rfl, by rw [List.size_toArray, lenV]; exact hl, by simpa using rv⟩)) (hCX _) (t0 _) (fun b => ?_) (fun b u z => ?_) (two _) (fun b z => ?_)
    · by_cases h2 : b ∈ cs.map (·.2)
      · exact .inr (.inl h2)
      · by_cases h1 : b = a
        · exact .inl (by rw [h1]; exact h_a none)
        · exact .inl (h_n _ b h1 h2)
    · rcases two _ b (by rw [z]; exact fun y => nomatch y) with h1 | h2
      · rw [h1, h_a] at z
        cases z
      · exact tok _ b u h2 z
    · rcases two _ b z with h1 | h2
      · rw [h1, h_a] at z
        exact (z rfl).elim
      · exact (isT b h2).2
  | none =>
    refine law_goT (H := H0 (some (.frz { cls := .type "list", data := .seq vs.toArray } (.lst (ns.map V.int))))) KX hns hb hbb hlim hg tab cod hbm ha hr F hbind (hsp _ (t0 _) (.inl (.inr ⟨_, h_a _⟩))) (hCX _) (t0 _) (fun b => ?_) (fun b u z => ?_) (two _) (fun b z => ?_)
    · by_cases h2 : b ∈ cs.map (·.2)
      · exact .inr (.inl h2)
      · by_cases h1 : b = a
        · exact .inr (.inr ⟨_, _, by rw [h1]; exact h_a _⟩)
        · exact .inl (h_n _ b h1 h2)
    · rcases two _ b (by rw [z]; exact fun y => nomatch y) with h1 | h2
      · rw [h1, h_a] at z
        obtain rfl := Option.some.inj z
        rw [h1]
        exact ⟨ha, by rw [List.length_map]; exact hl, vs, _, rv, ha⟩
      · exact tok _ b u h2 z
    · rcases two _ b z with h1 | h2
      · rw [h1]
        exact hk
      · exact (isT b h2).2
/-- the end of a law with tables, over a head by facts -/
theorem walkGT {l : PySem.W.OpenLaw} {n k : Nat} {q : Program} {loose : List Str} {XP : (Str → Option Value) → Heap → Prop} {YP : World → Heap → Prop} {d : DefRec} {CX : CXT} {x : Str}
    (hn : l.most = some n) (hn2 : n ≤ sizeLine) (hdf : d.params.defaults = []) (hr : RoomG k callerA)
    (F : ∀ (w : World) (mg : Str → Option Value) (fa : Addr) (h : Heap), YP w h → h.Ns mainGlobals mg → mg d.name = some (.ref fa) →
      ∃ (K : PySem.W.Frag) (fd : FuncData) (sp : Sp) (cs : List (Addr × Addr)), K.In h ∧ (∀ p ∈ cs, h.get? p.2 = some { cls := .none, data := .fields #[] }) ∧ (∀ p ∈ cs, K.lookup p.2 = none) ∧ (∀ p ∈ cs, PySem.W.CodeHd h p.1 p.2) ∧ (∀ (s : Shared) (u : Value), BindsTo s fd ⟨[u], []⟩ [(x, u)]) ∧
        (∀ (H : Hp) (a : Addr) (ns : List Int), ns.length ≤ n → Tab0 cs H → SqL K H a (ns.map V.int) → sp [.ref a] H (fun v _ => v = .bl true) fun _ _ _ => False) ∧
        ∀ base : Heap, K.In base → base.Ns mainGlobals mg → (∀ p ∈ cs, LamX.TabB base mg p.1 p.2) → FnG l.prog w K mg base CX k fa fd [x] sp)
    (hCX : ∀ (H : Hp) (s : Shared) (e : Value) (s' : Shared), CX [] H s (fun _ _ _ => False) e s' → False) :
    PySem.W.WalkO q loose XP YP l.row.toRowW d [] (fun f vs => PySem.call f vs) := by
  refine Att.attach_call hn hdf fun w s₀ s₁ mg mb fa o pm cd doc a vs ns G Y ho hd hcd hmg hobj hints hlen hg => ?_
  obtain ⟨K, fd, sp, cs, KX, h1, h2, h3, hb, hsp, hF⟩ := F w mg fa _ Y G.T.g hmg
  exact law_callTG KX G.T.g G.T.b G.T.builtins G.T.nolimit hg h1 h2 h3 G.T.bmain hobj hints (Nat.le_trans hlen hn2) hr hF hb (fun H hT hS => hsp H a ns hlen hT hS) fun H e s' => hCX H s₁ e s'
end Gu

set_option Elab.async false
set_option linter.all false
set_option maxRecDepth 100000
set_option maxHeartbeats 4000000
/-! Own layer: defs and methods that may raise, by their names: called where nothing is let out, in a def that lets errors out, in a try's body; by position and by keywords. -/
namespace Ex
open PySem PySem.Spec PySem.Calls PyProof.Rows L2 Gu
theorem passN {X : Cx} : Passes (L2.CX X.prog X.w) X E0 := fun _ _ _ _ _ _ _ ⟨_, _, _, _, _, _, _, _, _, _, _, _, z⟩ => z.elim
theorem passX {X : Cx} {E : XK} (tk : Takes X (fun cls d _ H => E cls d H)) : Passes (L2.CX X.prog X.w) X E := passes_call tk fun _ _ _ _ h => h
structure DfX (P : Program) (w : World) (K : PySem.W.Frag) (mg : Str → Option Value) (base : Heap) (k : Nat) (x : Str) (ps : List Str) (sp : Sp) : Prop where
  ex : ∃ fd, FnOk P w K mg base (L2.CX P w) k (He.ga K x) fd ps sp ∧ Binds K fd ps []
  gl : mg x = some (.ref (He.ga K x))
  kp : PySem.W.keepIn K (.ref (He.ga K x)) = true
structure MfX (P : Program) (w : World) (K : PySem.W.Frag) (mg : Str → Option Value) (base : Heap) (k : Nat) (c m : Str) (ps : List Str) (sp : Sp) : Prop where
  ex : ∃ fd, FnOk P w K mg base (L2.CX P w) k (He.ma K (He.ga K c) m) fd ps sp ∧ Binds K fd ps []
  cl : Cls K (He.ga K c)
  me : Meth K (He.ga K c) m (He.ma K (He.ga K c) m)
/-- .. called by the keywords ks alone behind self; j: the places of the other parameters among the keywords -/
structure MfXK (P : Program) (w : World) (K : PySem.W.Frag) (mg : Str → Option Value) (base : Heap) (k : Nat) (c m : Str) (ps ks : List Str) (j : List Nat) (sp : Sp) : Prop where
  ex : ∃ fd, FnOk P w K mg base (L2.CX P w) k (He.ma K (He.ga K c) m) fd ps sp ∧ ∀ (s : Shared) (u : Value) (ws : List Value), ws.length = ks.length → BindsTo s fd ⟨[u], ks.zip ws⟩ (ps.zip (u :: j.filterMap fun i => ws[i]?))
  cl : Cls K (He.ga K c)
  me : Meth K (He.ga K c) m (He.ma K (He.ga K c) m)
section
variable {X : Cx} {k j : Nat} {x c m : Str} {ps ks : List Str} {ji : List Nat} {sp : Sp} {p pos apos : Pos} {e o : Expr} {es : List Expr} {kws : List Keyword} {t tk : TA} {ta : TE} {E : XK} {W : WX}
theorem pcallX (D : DfX X.prog X.w X.K X.mg X.base k x ps sp) (hr : Room j X.A) (px : Passes (L2.CX X.prog X.w) X E) (ha : PA X (e :: es) t) (hj : k ≤ j := by decide) (hg : Gl X x := by rfl) (hdb : (x == ("__debug__" : Str)) = false := by decide)
    (he : starEach (e :: es) X.env = (false, eval e X.env) :: starEach es X.env := by rfl) (hpl : (backTo pos (starEach es X.env)).any (·.1) = false := by rfl) :
    PE X (.Call (.Name x p) (e :: es) [] pos) (tCall sp [] E t) := by
  obtain ⟨fd, F, b⟩ := D.ex
  exact pe_call F (hr.mono hj) hg D.gl D.kp b .nil px ha hdb he hpl
theorem pmethX {pl : Sem Bool} (D : MfX X.prog X.w X.K X.mg X.base k c m ps sp) (hr : Room j X.A) (px : Passes (L2.CX X.prog X.w) X E) (he : PE X o ta) (ha : PA X (e :: es) t) (hj : k ≤ j := by decide)
    (hst : starEach (e :: es) X.env = (false, eval e X.env) :: starEach es X.env := by rfl) (hpl : (backTo pos (starEach es X.env)).any (·.1) = false := by rfl)
    (ht : eval (.Call (.Attribute o m apos) (e :: es) [] pos) X.env = (do
      let ov ← eval o X.env
      standAt apos.atName
      let (f, first) ← holding [ov] (getMethod ov m pl)
      callWith pos f first (backTo pos (starEach (e :: es) X.env)) (backToKw pos (keywordEach [] X.env))) := by rfl) :
    PE X (.Call (.Attribute o m apos) (e :: es) [] pos) (tMeth (He.ga X.K c) m sp [] E ta t) := by
  obtain ⟨fd, F, b⟩ := D.ex
  exact pe_meth he D.cl D.me F (hr.mono hj) b .nil px ha hst hpl ht
/-- within a comprehension's block the reading names K by hand -/
theorem pmethXB {pl : Sem Bool} (K : PySem.W.Frag) (D : MfX X.prog X.w X.K X.mg X.base k c m ps sp) (hr : Room j X.A) (px : Passes (L2.CX X.prog X.w) X E) (he : PE X o ta) (ha : PA X (e :: es) t) (hj : k ≤ j := by decide) (hK : X.K = K := by rfl)
    (hst : starEach (e :: es) X.env = (false, eval e X.env) :: starEach es X.env := by rfl) (hpl : (backTo pos (starEach es X.env)).any (·.1) = false := by rfl)
    (ht : eval (.Call (.Attribute o m apos) (e :: es) [] pos) X.env = (do
      let ov ← eval o X.env
      standAt apos.atName
      let (f, first) ← holding [ov] (getMethod ov m pl)
      callWith pos f first (backTo pos (starEach (e :: es) X.env)) (backToKw pos (keywordEach [] X.env))) := by rfl) :
    PE X (.Call (.Attribute o m apos) (e :: es) [] pos) (tMeth (He.ga K c) m sp [] E ta t) := by
  subst hK
  exact pmethX D hr px he ha hj hst hpl ht
def tMethKw (C : Addr) (m : Str) (sp : Sp) (n : Nat) (j : List Nat) (E : XK) (ta : TE) (tk : TA) : TE := fun σ H Q => ta σ H fun x H1 => ∃ a dx fs, x = .ref a ∧ H1 a = some (.ins C dx fs) ∧ fs.lookup m = none ∧
  tk σ H1 fun zs H2 => zs.length = n ∧ sp (x :: j.filterMap fun i => zs[i]?) H2 Q E
theorem pmethXK {pl : Sem Bool} (D : MfXK X.prog X.w X.K X.mg X.base k c m ps ks ji sp) (hr : Room j X.A) (px : Passes (L2.CX X.prog X.w) X E) (he : PE X o ta) (hkw : PK X kws tk) (hj : k ≤ j := by decide)
    (hall : (backToKw pos (keywordEach kws X.env)).all (·.1.isSome) = true := by rfl) (hks : (backToKw pos (keywordEach kws X.env)).filterMap (·.1) = ks := by rfl)
    (hpl : ((backTo pos (starEach [] X.env)).any (·.1) || (backToKw pos (keywordEach kws X.env)).any (·.1.isNone)) = false := by rfl)
    (ht : eval (.Call (.Attribute o m apos) [] kws pos) X.env = (do
      let ov ← eval o X.env
      standAt apos.atName
      let (f, first) ← holding [ov] (getMethod ov m pl)
      callWith pos f first (backTo pos (starEach [] X.env)) (backToKw pos (keywordEach kws X.env))) := by rfl) :
    PE X (.Call (.Attribute o m apos) [] kws pos) (tMethKw (He.ga X.K c) m sp ks.length ji E ta tk) := by
  obtain ⟨fd, F, b⟩ := D.ex
  refine ⟨fun pins s σ H Q I h => PySem.W.methodCall_KW (pl := pl) (thn (he.run pins s σ H _ I h) fun u s1 ⟨x, H1, I1, rx, a, dx, fs, ex, ea, l, q⟩ => ?_) ht⟩
  subst ex
  obtain rfl : u = Value.ref a := rx
  refine getmeth_ok I1 ea D.cl D.me l (PySem.W.callWith_KW0 (first := [.ref a]) (h₀ := X.base) I.ok.mod.kin D.me.kp hall (thn (hkw.run pos pins s1 σ H1 _ I1 q) fun ws s2 ⟨zs, H2, I2, rz, hz, q2⟩ => ⟨I2.kIn, ?_⟩) hpl)
  rw [hks]
  have rv : Vals (V.ref a :: ji.filterMap fun i => zs[i]?) (Value.ref a :: ji.filterMap fun i => ws[i]?) := .cons rfl (vals_pick rz ji)
  refine wpAny_call (codeAny_mono (F.run X.A X.stack s2 H2 ⟨[Value.ref a] ++ [], ks.zip ws⟩ _ _ Q E (hr.mono hj) I2.env0 (b s2 (.ref a) ws (rz.length.symm.trans hz)) rv q2) fun r s' hq => ?_)
  match r, hq with
  | .error e, hq => exact px pins σ H2 s2 e s' I2 hq
  | .ok (.ret u), hq => exact I2.after hq
end
section
variable {X : Cx} {k j : Nat} {c m : Str} {ps : List Str} {sp : Sp} {pos apos : Pos} {e o : Expr} {es : List Expr} {t : TA} {ta : TE} {W : WX}
/-- o.m(e, ..) in a try's body -/
def tMethT (C : Addr) (m : Str) (sp : Sp) (E : L2.St → XK) (ta : TE) (t : TA) : TE := fun σ H Q => ta σ H fun x H1 => ∃ a dx fs, x = .ref a ∧ H1 a = some (.ins C dx fs) ∧ fs.lookup m = none ∧ t σ H1 fun vs H2 => sp (x :: vs) H2 Q (E σ)
theorem pmethT {pl : Sem Bool} (D : MfX X.prog X.w X.K X.mg X.base k c m ps sp) (hr : Room j X.A) (tk : Takes X W) (he : PE X o ta) (ha : PA X (e :: es) t) (hj : k ≤ j := by decide)
    (hst : starEach (e :: es) X.env = (false, eval e X.env) :: starEach es X.env := by rfl) (hpl : (backTo pos (starEach es X.env)).any (·.1) = false := by rfl)
    (ht : eval (.Call (.Attribute o m apos) (e :: es) [] pos) X.env = (do
      let ov ← eval o X.env
      standAt apos.atName
      let (f, first) ← holding [ov] (getMethod ov m pl)
      callWith pos f first (backTo pos (starEach (e :: es) X.env)) (backToKw pos (keywordEach [] X.env))) := by rfl) :
    PE X (.Call (.Attribute o m apos) (e :: es) [] pos) (tMethT (He.ga X.K c) m sp (WE W) ta t) := by
  obtain ⟨fd, F, b⟩ := D.ex
  refine ⟨fun pins s σ H Q I h => PySem.W.methodCall_KW (pl := pl) (thn (he.run pins s σ H _ I h) fun u s1 ⟨x, H1, I1, rx, a, dx, fs, ex, ea, l, q⟩ => ?_) ht⟩
  subst ex
  obtain rfl : u = Value.ref a := rx
  refine getmeth_ok I1 ea D.cl D.me l (PySem.W.callWith_K (first := [.ref a]) (h₀ := X.base) I.ok.mod.kin D.me.kp (thn (ha.run pos pins s1 σ H1 _ I1 q) fun us s2 ⟨vs, H2, I2, r, q2⟩ => ⟨I2.kIn, ?_⟩) hst hpl)
  exact run_fnS (E := WE W) (us := .ref a :: us) (vs := .ref a :: vs) F (hr.mono hj) b (passAt tk σ) I2 (.cons rfl r) q2
end
/-! ### facts of an error's class over any base -/
def oexGB (B : String) (K : PySem.W.Frag) (C : Addr) : Bool := match K.lookup C with
  | some ⟨.type "type", _, .cls cd, sl⟩ => (match cd.mro, sl.toList with
    | .ref c :: bm, [_, _, _, _, some (.builtin n), _] => (c == C && n == B ++ ".__new__") && ((!cd.hasDel && cd.hasDict) && refsB (tailE B) bm)
    | _, _ => false)
  | _ => false
theorem oexGB_ok {B : String} {K : PySem.W.Frag} {C : Addr} (h : oexGB B K C = true) :
    ∃ nm q N bs bm sn sub ab col dd k0 k1 k2 k3 k5, K.lookup C = some (excClassObj nm q C N bs bm true sn sub ab col dd k0 k1 k2 k3 k5 (B ++ ".__new__")) ∧ refsB (tailE B) bm = true := by
  unfold oexGB at h
  split at h
  · rename_i dd cd sl ho
    split at h
    · rename_i c bm k0 k1 k2 k3 n k5 hm hs
      obtain ⟨⟨h1, h2⟩, h3⟩ := (He.ba h).imp_left He.ba
      obtain ⟨h4, h5⟩ := He.ba h3
      obtain ⟨h6, h7⟩ := He.ba h4
      have e1 : c = C := beq_iff_eq.mp h1
      have e2 : n = B ++ ".__new__" := beq_iff_eq.mp h2
      have e3 : cd.hasDel = false := by simpa using h6
      subst e1 e2
      obtain ⟨nm, bs, mro, ns, qn, hd, sn, sub, ab, col, del⟩ := cd
      dsimp only at hm e3 h7
      subst hm e3 h7
      have e4 : sl = #[k0, k1, k2, k3, some (.builtin (B ++ ".__new__")), k5] := by
        obtain ⟨l⟩ := sl
        simp only at hs
        rw [hs]
      subst e4
      exact ⟨nm, qn, ns, bs, bm, sn, sub, ab, col, dd, k0, k1, k2, k3, k5, ho, h5⟩
    · cases h
  · cases h
def bOf (a : Option Bool) (b : Bool) : Bool := decide (a = some b)
theorem bOf_ok {a : Option Bool} {b : Bool} (h : bOf a b = true) : a = some b := of_decide_eq_true h
/-- what the rules ask of an error's class at C, over B, with the field n -/
def errG (B : String) (K : PySem.W.Frag) (C : Addr) (n : Str) : Bool := oexGB B K C && (He.eqO (PySem.W.findIn K (.ref C) "__setattr__") (some (some (.builtin "object.__setattr__"))) && (bOf (PySem.W.subIn K (.ref C) (.type "BaseException")) true &&
  (decide (PySem.W.typeIn K (.ref C) = some (.type "type")) && (PySem.W.keepIn K (.ref C) && (xfB K C && (He.eqO (PySem.W.findIn K (.ref C) "__class__") (some (some (.builtin "object.__class__"))) &&
  (He.eqO (PySem.W.specialIn K (.builtin "object.__class__") "__get__") (some (some (.builtin "getset_descriptor.__get__"))) && (bOf (PySem.W.takesIn K (.builtin "object.__class__")) true && (bOf (PySem.W.mroIn K C (.type "object")) true &&
  (He.eqO (PySem.W.findIn K (.ref C) n) (some none) && (He.eqO (PySem.W.findIn K (.ref C) "__init__") (some (some (.ref (He.ma K C "__init__")))) && (decide (PySem.W.typeIn K (.ref (He.ma K C "__init__")) = some (.type "function")) && bOf (PySem.W.exmOne K (.ref C) (.ref C)) true))))))))))))
structure ErrG (B : String) (K : PySem.W.Frag) (C : Addr) (n : Str) : Prop where
  ox : OexG B (tailE B) K C
  xf : XfC K C
  ec : ExcC K C
  no : PySem.W.findIn K (.ref C) n = some none
  ii : PySem.W.findIn K (.ref C) "__init__" = some (some (.ref (He.ma K C "__init__")))
  ti : PySem.W.typeIn K (.ref (He.ma K C "__init__")) = some (.type "function")
  em : PySem.W.exmOne K (.ref C) (.ref C) = some true
theorem errG_ok {B : String} {K : PySem.W.Frag} {C : Addr} {n : Str} (b : BaseE B (tailE B)) (h : errG B K C n = true) : ErrG B K C n := by
  obtain ⟨a1, h⟩ := He.ba h
  obtain ⟨a2, h⟩ := He.ba h
  obtain ⟨a3, h⟩ := He.ba h
  obtain ⟨a4, h⟩ := He.ba h
  obtain ⟨a5, h⟩ := He.ba h
  obtain ⟨a6, h⟩ := He.ba h
  obtain ⟨a7, h⟩ := He.ba h
  obtain ⟨a8, h⟩ := He.ba h
  obtain ⟨a9, h⟩ := He.ba h
  obtain ⟨a10, h⟩ := He.ba h
  obtain ⟨a11, h⟩ := He.ba h
  obtain ⟨a12, h⟩ := He.ba h
  obtain ⟨a13, a14⟩ := He.ba h
  have x := xfB_ok a6
  exact ⟨⟨b, oexGB_ok a1, He.eqO_ok a2, bOf_ok a3, of_decide_eq_true a4, a5⟩, x, ⟨x.ga, x.gg, x.exC, x.hdC, He.eqO_ok a7, He.eqO_ok a8, bOf_ok a9, bOf_ok a10⟩, He.eqO_ok a11, He.eqO_ok a12, of_decide_eq_true a13, bOf_ok a14⟩
/-- an error's __init__ with one field -/
def spErr (C : Addr) (n : Str) : Sp := fun vs H Q _ => ∃ (a : Addr) (v : V), vs = [.ref a, v] ∧ H a = some (exo a C none) ∧ ∀ dx, H dx = none → dx ≠ a → Q .non (upd (upd H dx (exd dx [(n, v)])) a (exo a C (some dx)))
/-- the error's maker, for a raise -/
structure Ei (P : Program) (w : World) (K : PySem.W.Frag) (mg : Str → Option Value) (base : Heap) (c n : Str) : Prop where
  ex : ∃ fd, FnOk P w K mg base CX0 1 (He.ma K (He.ga K c) "__init__") fd ["self", n] (spErr (He.ga K c) n) ∧ Binds K fd ["self", n] []
theorem heap_err {H : Hp} {a dx : Addr} {fs : List (Str × V)} {o1 o2 o3 : HO} (ha : H a = none) (hd : H dx = none) : Same H (upd (del (upd (upd (upd H a o1) dx o2) a o3) a) dx (.xd fs)) := fun b o e => by
  have nb : b ≠ a := ne_of_none e ha
  have nd : b ≠ dx := ne_of_none e hd
  rw [upd_ne nd, del_ne nb, upd_ne nb, upd_ne nd, upd_ne nb]
  exact e
/-- what is asked at a raise of C(v): that the def's own wish of errors holds of it -/
theorem raise_ok {K : PySem.W.Frag} {c n : Str} {v : V} {H : Hp} {E : XK} (q : ∀ d H', H d = none → Same H H' → H' d = some (.xd [(n, v)]) → E (.ref (He.ga K c)) (some d) H') :
    ∀ a, H a = none → spErr (He.ga K c) n (.ref a :: ([v] ++ [])) (upd H a (exo a (He.ga K c) none))
      (fun u H2 => u = .non ∧ ∃ (d : Addr) (fs : List (Str × V)), H2 a = some (exo a (He.ga K c) (some d)) ∧ H2 d = some (exd d fs) ∧ H d = none ∧ E (.ref (He.ga K c)) (some d) (upd (del H2 a) d (.xd fs))) (fun _ _ _ => False) := fun a ha => by
  refine ⟨a, v, rfl, upd_same, fun dx hdx ne => ⟨rfl, dx, [(n, v)], upd_same, ?_, ?_, ?_⟩⟩
  · rw [upd_ne ne, upd_same]
  · rw [upd_ne ne] at hdx
    exact hdx
  · rw [upd_ne ne] at hdx
    exact q dx _ hdx (heap_err ha hdx) upd_same
end Ex

set_option Elab.async false
set_option linter.all false
set_option maxRecDepth 100000
set_option maxHeartbeats 4000000
namespace K35
open PySem PySem.Spec PyProof.Rows L2 Gu Ex
def top (i : Nat) : Stmt := PySem.Challenge.pw_exactroom_k35_cheapest_regions.main.body.getD i (.Pass ⟨0, 0, 0, 0⟩)
abbrev FnP (K : PySem.W.Frag) (x qual : Str) (st : Stmt) (f : Addr) (fd : FuncData) : Prop := FunD K x qual (defArgs st) (defBody st) (defScope st) [] [] f fd
/-- what the top has left -/
structure Tx (K : PySem.W.Frag) (mg : Str → Option Value) : Prop where
  n_len : mg "len" = none
  n_isinstance : mg "isinstance" = none
  n_int : mg "int" = none
  n_bool : mg "bool" = none
  n_list : mg "list" = none
  n_range : mg "range" = none
  n_divmod : mg "divmod" = none
  n_abs : mg "abs" = none
  n_max : mg "max" = none
  n_min : mg "min" = none
  n_enumerate : mg "enumerate" = none
  n_all : mg "all" = none
  n_sum : mg "sum" = none
  n_tuple : mg "tuple" = none
  n_sorted : mg "sorted" = none
  n_repr : mg "repr" = none
  n_set : mg "set" = none
  n_dict : mg "dict" = none
  n_any : mg "any" = none
  g_Sizes : mg "Sizes" = some (.ref (He.ga K "Sizes"))
  cl : Cls K (He.ga K "Sizes")
  nSL : NoAttr K (He.ga K "Sizes") "size_list"
  rd : ClX.CRead K (He.ga K "Sizes") (.type "type")
  cS : ∃ u, ClX.CVal K (He.ga K "Sizes") (.type "type") "MAX_SIZE" (.int 1000000000) u
  cN : ∃ u, ClX.CVal K (He.ga K "Sizes") (.type "type") "MAX_SIZES" (.int 8) u
  sys : SysOk K
  cC : ∃ u, ClX.CVal K (He.ga K "Sizes") (.type "type") "MAX_CELLS" (.int 1000000000000) u
  g_Layout : mg "Layout" = some (.ref (He.ga K "Layout"))
  ly : Cls K (He.ga K "Layout")
  nST : NoAttr K (He.ga K "Layout") "size_table"
  nCC : NoAttr K (He.ga K "Layout") "cell_count"
  nFC : NoAttr K (He.ga K "Layout") "free_count"
  nBL : NoAttr K (He.ga K "Layout") "block_list"
  iS : InsOk K (He.ga K "Sizes")
  iL : InsOk K (He.ga K "Layout")
  g_InvalidAddress : mg "InvalidAddress" = some (.ref (He.ga K "InvalidAddress"))
  g_InvalidLevel : mg "InvalidLevel" = some (.ref (He.ga K "InvalidLevel"))
  g_InvalidNumber : mg "InvalidNumber" = some (.ref (He.ga K "InvalidNumber"))
  g_RoomError : mg "RoomError" = some (.ref (He.ga K "RoomError"))
  n_LookupError : mg "LookupError" = none
  g_Plan : mg "Plan" = some (.ref (He.ga K "Plan"))
  pl : Cls K (He.ga K "Plan")
  pST : NoAttr K (He.ga K "Plan") "size_table"
  pCC : NoAttr K (He.ga K "Plan") "cell_count"
  pCl : NoAttr K (He.ga K "Plan") "closed"
  pSt : NoAttr K (He.ga K "Plan") "staying"
  pLo : NoAttr K (He.ga K "Plan") "lost"
  pGo : NoAttr K (He.ga K "Plan") "goals"
  eL : ErrG "ValueError" K (He.ga K "InvalidLevel") "value"
  ne : NeOk K (He.ga K "Sizes")
abbrev cL (K : PySem.W.Frag) : Addr := He.ga K "InvalidLevel"
/-- a list of sizes -/
structure Good (ns : List Int) : Prop where
  len : 1 ≤ ns.length ∧ ns.length ≤ 8
  one : ns[0]? = some 1
  rng : ∀ (i : Nat) x, ns[i]? = some x → 1 ≤ x ∧ x ≤ 1000000000
  up : ∀ (i : Nat) x y, ns[i]? = some x → ns[i + 1]? = some y → x < y ∧ y % x = 0
section
variable {P : Program} {w : World} {K : PySem.W.Frag} {mg : Str → Option Value} {base : Heap} {f : Addr} {fd : FuncData}
theorem bT {c : Prop} [Decidable c] (h : c) : V.bl (decide c) = V.bl true := congrArg V.bl (decide_eq_true h)
theorem bF {c : Prop} [Decidable c] (h : ¬ c) : V.bl (decide c) = V.bl false := congrArg V.bl (decide_eq_false h)
theorem ifT {c : Bool} {A B : Prop} (h : c = true) (x : A) : if c = true then A else B := by rw [h]; exact iteT x
theorem ifF {c : Bool} {A B : Prop} (h : c = false) (x : B) : if c = true then A else B := by rw [h]; exact iteF x
theorem vT {a b : Int} (h : a = b) : decide (V.int a = V.int b) = true := decide_eq_true (by rw [h])
theorem vF {a b : Int} (h : a ≠ b) : decide (V.int a = V.int b) = false := decide_eq_false fun z => h (V.int.inj z)
def spInt : Sp := fun vs H Q _ => ∃ i : Int, vs = [.int i] ∧ Q (.bl true) H
theorem sc_is_integer : FnScope ["value"] ["value"] (defScope (top 13)) := ⟨rfl, rfl, rfl, by decide +kernel, rfl, by decide +kernel, by decide +kernel⟩
theorem ok_is_integer (T : Tx K mg) (F : FnP K "is_integer" "is_integer" (top 13) f fd) : FnOk P w K mg base CX0 1 f fd ["value"] spInt := by
  refine F.ok sc_is_integer (fun vs H Q E h => ?_) (fun cdv A outer s H vs Q E hr h => ⟨_, PSs.nox (pss_one (ps_ret (pe_and (pe_callB call_isi (by rfl) T.n_isinstance (by decide +kernel) (pa_cons (pv 0) (pa_cons (pe_bltn (v := .ty "int") (by rfl) T.n_int (by decide +kernel) rfl) pa_nil))) (pe_one (pe_not (pe_callB call_isi (by rfl) T.n_isinstance (by decide +kernel) (pa_cons (pv 0) (pa_cons (pe_bltn (v := .ty "bool") (by rfl) T.n_bool (by decide +kernel) rfl) pa_nil)))))))), ?_⟩)
  · obtain ⟨i, rfl, _⟩ := h
    rfl
  · obtain ⟨i, rfl, q⟩ := h
    refine ⟨_, rfl, _, _, _, _, true, rfl, .ty "int", .base (.int i), kit_ty (by decide +kernel), _, rfl, iteT ?_⟩
    exact ⟨_, rfl, _, _, _, _, false, rfl, .ty "bool", .base (.int i), kit_ty (by decide +kernel), _, rfl, q⟩
/-- a good list at a, a place in it -/
def spProblem (K : PySem.W.Frag) : Sp := fun vs H Q _ => ∃ (a : Addr) (ns : List Int) (p : Nat), vs = [.ref a, .int p] ∧ SqL K H a (ns.map V.int) ∧ Good ns ∧ p < ns.length ∧ Q .non H
theorem at_map {ns : List Int} {p : Nat} {x : Int} (h : ns[p]? = some x) : atI (ns.map V.int) (p : Int) = some (.int x) := atI_nat (by rw [List.getElem?_map, h]; rfl)
theorem sc_size_problem : FnScope ["values", "position", "size", "before"] ["values", "position"] (defScope (top 17)) := ⟨rfl, rfl, rfl, by decide +kernel, rfl, by decide +kernel, by decide +kernel⟩
theorem ok_size_problem (T : Tx K mg) (D_is_integer : Df P w K mg base 1 "is_integer" ["value"] spInt) (F : FnP K "size_problem" "size_problem" (top 17) f fd) :
    FnOk P w K mg base CX0 2 f fd ["values", "position"] (spProblem K) := by
  refine F.ok sc_size_problem (fun vs H Q E h => ?_) (fun cdv A outer s H vs Q E hr h => ⟨_, PSs.nox (pss_cons (ps_set (i := 2) sc_size_problem.nd rfl (by first | exact Or.inl rfl | exact Or.inr rfl) (pe_ix ix_list (pv 0) (pv 1) (fun _ _ => rfl))) (pss_cons (ps_if (PW.pt (pw_or (pt_not (pt_val (pcall D_is_integer hr (pa_cons (pv 2) pa_nil)))) (pw_or1 (pt_not (pt_chain op_le op_le pe_int (pv 2) (ClX.pe_cval (pe_glob (v := .ref _) rfl T.g_Sizes rfl))))))) (pss_one (ps_ret pe_str)) pss_nil) (pss_cons (ps_if (pt_cmpR op_eq (pv 1) pe_int (nomark _)) (pss_one (ps_ret (pe_ifExp (pt_cmpR op_eq (pv 2) pe_int (nomark _)) pe_non pe_str))) pss_nil) (pss_cons (ps_set (i := 3) sc_size_problem.nd rfl (by first | exact Or.inl rfl | exact Or.inr rfl) (pe_ix ix_list (pv 0) (pe_op op_sub (pv 1) pe_int) (fun _ _ => rfl))) (pss_cons (ps_if (PW.pt (pw_or (pt_cmpR op_le (pv 2) (pv 3) (nomark _)) (pw_or1 (pt_cmpR op_ne (pe_op op_mod (pv 2) (pv 3)) pe_int (nomark _))))) (pss_one (ps_ret pe_str)) pss_nil) (pss_one (ps_ret pe_non))))))), ?_⟩)
  · obtain ⟨a, ns, p, rfl, _⟩ := h
    rfl
  · obtain ⟨a, ns, p, rfl, hS, g, hp, q⟩ := h
    have hx : ns[p]? = some ns[p] := List.getElem?_eq_getElem hp
    obtain ⟨b1, b2⟩ := g.rng p _ hx
    obtain ⟨u, cS⟩ := T.cS
    refine ⟨_, rfl, _, rfl, a, _, _, _, rfl, rfl, hS, at_map hx, ?_⟩
    refine ⟨_, rfl, _, rfl, true, rfl, iteF ?_⟩
    refine ⟨_, rfl, _, _, rfl, rfl, true, bT b1, iteT ?_⟩
    refine ⟨_, _, _, _, rfl, T.rd, cS, _, _, rfl, rfl, true, bT b2, iteF ?_⟩
    by_cases h0 : p = 0
    · subst h0
      have e1 : ns[0] = 1 := Option.some.inj (hx.symm.trans g.one)
      exact ⟨_, rfl, rfl, _, rfl, ifT (vT rfl) ⟨_, rfl, rfl, _, rfl, ifT (vT e1) q⟩⟩
    · refine ⟨_, rfl, rfl, _, rfl, ifF (vF (by omega)) ?_⟩
      have hp1 : p - 1 < ns.length := by omega
      have hy : ns[p - 1]? = some ns[p - 1] := List.getElem?_eq_getElem hp1
      have hx2 : ns[p - 1 + 1]? = some ns[p] := by rw [show p - 1 + 1 = p by omega]; exact hx
      obtain ⟨u1, u2⟩ := g.up (p - 1) _ _ hy hx2
      have u3 := (g.rng _ _ hy).1
      refine ⟨_, rfl, _, rfl, _, _, rfl, rfl, a, _, _, _, rfl, rfl, hS, (by rw [show ((p : Int) - 1) = ((p - 1 : Nat) : Int) by omega]; exact at_map hy), ?_⟩
      refine ⟨_, rfl, _, rfl, _, _, rfl, rfl, false, bF (by omega), iteF ?_⟩
      refine ⟨_, rfl, _, rfl, _, _, rfl, rfl, (by show (0 : Int) < _; omega), rfl, false, ?_, iteF q⟩
      exact congrArg V.bl (by rw [vT u2]; rfl)
/-- a good list -/
def spCheck (K : PySem.W.Frag) : Sp := fun vs H Q _ => ∃ (a : Addr) (ns : List Int), vs = [.ref a] ∧ SqL K H a (ns.map V.int) ∧ TyX K H (.ref a) (.type "list") ∧ Good ns ∧ Q .non H
theorem sc_check_sizes : FnScope ["values", "position", "problem"] ["values"] (defScope (top 18)) := ⟨rfl, rfl, rfl, by decide +kernel, rfl, by decide +kernel, by decide +kernel⟩
theorem ok_check_sizes (T : Tx K mg) (D_size_problem : Df P w K mg base 2 "size_problem" ["values", "position"] (spProblem K)) (F : FnP K "check_sizes" "check_sizes" (top 18) f fd) :
    FnOk P w K mg base CX0 3 f fd ["values"] (spCheck K) := by
  refine F.ok sc_check_sizes (fun vs H Q E h => ?_) (fun cdv A outer s H vs Q E hr h => ⟨_, PSs.nox (pss_cons (ps_if (pt_not (pt_val (pe_callB call_isi (by rfl) T.n_isinstance (by decide +kernel) (pa_cons (pv 0) (pa_cons (pe_bltn (v := .ty "list") (by rfl) T.n_list (by decide +kernel) rfl) pa_nil))))) (pss_one ps_never) pss_nil) (pss_cons (ps_for PassesOwn.never rfl (pi_range1 rfl T.n_range (pa_cons (pe_callB call_len_seq (by rfl) T.n_len (by decide +kernel) (pa_cons (pv 0) pa_nil)) pa_nil)) (pg_name (i := 1) sc_check_sizes.nd rfl (by first | exact Or.inl rfl | exact Or.inr rfl)) (pss_cons (ps_set (i := 2) sc_check_sizes.nd rfl (by first | exact Or.inl rfl | exact Or.inr rfl) (pcall D_size_problem hr (pa_cons (pv 0) (pa_cons (pv 1) pa_nil)))) (pss_one (ps_if (pt_cmpR op_notN (pv 2) pe_non (nomark _)) (pss_one ps_never) pss_nil)))) (pss_one (ps_if (pt_not (pt_chain op_le op_le pe_int (pe_callB call_len_seq (by rfl) T.n_len (by decide +kernel) (pa_cons (pv 0) pa_nil)) (ClX.pe_cval (pe_glob (v := .ref _) rfl T.g_Sizes rfl)))) (pss_one ps_never) pss_nil)))), ?_⟩)
  · obtain ⟨a, ns, rfl, _⟩ := h
    rfl
  · obtain ⟨a, ns, rfl, hS, ty, g, q⟩ := h
    obtain ⟨u, cN⟩ := T.cN
    obtain ⟨l1, l2⟩ := g.len
    refine ⟨_, rfl, _, _, _, _, true, rfl, .ty "list", ty, kit_ty (by decide +kernel), true, rfl, iteF ?_⟩
    refine ⟨_, rfl, a, _, rfl, .inl hS, _, rfl, (by simp only [List.length_map]; omega), (by simp only [List.length_map]; omega), ?_⟩
    refine for_range (fun i σ H' => H' = H ∧ ∃ x y, σ = [some (.ref a), x, y]) ⟨rfl, none, none, rfl⟩ ?_ ?_
    · rintro i σ H' hi ⟨rfl, x, y, rfl⟩
      have hi2 : i < ns.length := by simpa using hi
      refine ⟨_, rfl, _, rfl, a, ns, i, (by rw [Int.zero_add]; rfl), hS, g, hi2, ?_⟩
      exact ⟨_, rfl, rfl, false, rfl, iteF ⟨rfl, _, _, rfl⟩⟩
    · rintro σ H' ⟨rfl, x, y, rfl⟩
      refine ⟨_, rfl, a, _, rfl, .inl hS, _, _, rfl, rfl, true, bT (by simp only [List.length_map]; omega), iteT ?_⟩
      exact ⟨_, _, _, _, rfl, T.rd, cN, _, _, rfl, rfl, true, bT (by simp only [List.length_map]; omega), iteF q⟩
end
end K35

set_option Elab.async false
set_option linter.all false
set_option maxRecDepth 100000
set_option maxHeartbeats 0
namespace Ex
open PySem PySem.Spec PyProof.Rows L2 Gu
/-! ### facts of a class beyond those by names: constants, a property -/
def cvB (K : PySem.W.Frag) (C : Addr) (f : Str) (i : Int) : Bool := match PySem.W.findCls K (.ref C) (.type "type") f with
  | some (.val (.int j _)) => decide (j = i)
  | _ => false
theorem cvB_ok {K : PySem.W.Frag} {C : Addr} {f : Str} {i : Int} (h : cvB K C f i = true) : ∃ u, ClX.CVal K C (.type "type") f (.int i) u := by
  unfold cvB at h
  split at h
  · rename_i j t e
    have ej : j = i := of_decide_eq_true h
    exact ⟨_, e, t, by rw [ej]⟩
  · cases h
def rdB (K : PySem.W.Frag) (C : Addr) : Bool := PySem.W.readsIn K C (.type "type") && He.eqO (PySem.W.specialIn K (.ref C) "__getattribute__") (some (some (.builtin "type.__getattribute__")))
theorem rdB_ok {K : PySem.W.Frag} {C : Addr} (h : rdB K C = true) : ClX.CRead K C (.type "type") := by
  obtain ⟨h1, h2⟩ := He.ba h
  exact ⟨h1, He.eqO_ok h2⟩
def prA (K : PySem.W.Frag) (C : Addr) (f : Str) : Addr := match PySem.W.findIn K (.ref C) f with
  | some (some (.ref p)) => p
  | _ => 0
def pgA (K : PySem.W.Frag) (C : Addr) (f : Str) : Addr := match PySem.W.recIn K (prA K C f) "property" with
  | some (.ref g :: _) => g
  | _ => 0
def prB (K : PySem.W.Frag) (C : Addr) (f : Str) : Bool := He.eqO (PySem.W.findIn K (.ref C) f) (some (some (.ref (prA K C f)))) &&
  (He.eqO (PySem.W.specialIn K (.ref (prA K C f)) "__get__") (some (some (.builtin "property.__get__"))) && (decide (PySem.W.takesIn K (.ref (prA K C f)) = some true) &&
    (match PySem.W.recIn K (prA K C f) "property" with
    | some (.ref _ :: _) => true
    | _ => false)))
theorem prB_ok {K : PySem.W.Frag} {C : Addr} {f : Str} (h : prB K C f = true) : PropOf K C f (prA K C f) (pgA K C f) := by
  obtain ⟨h1, h⟩ := He.ba h
  obtain ⟨h2, h⟩ := He.ba h
  obtain ⟨h3, h4⟩ := He.ba h
  refine ⟨He.eqO_ok h1, He.eqO_ok h2, of_decide_eq_true h3, ?_⟩
  unfold pgA
  split at h4
  · rename_i g r e
    rw [e]
    exact ⟨r, rfl⟩
  · cases h4
/-- the def at an address -/
def fnAt (K : PySem.W.Frag) (a : Addr) : He.FnW := match K.lookup a with
  | some ⟨_, _, .func fd, _⟩ => some (fd.name, fd.qualname, fd.params, fd.body, fd.scope, fd.globals, fd.closure, fd.builtins)
  | _ => none
def okAt (K : PySem.W.Frag) (a : Addr) (qual : Str) : Bool := PySem.W.keepIn K (.ref a) && (match K.lookup a with
  | some ⟨_, _, .func fd, _⟩ => PySem.W.codeIn K fd.code qual && (He.dflB K fd.defaults [] && He.kwdB K fd.kwdefaults [])
  | _ => false)
theorem fun_at {K : PySem.W.Frag} {a : Addr} {name qual : Str} {params : Arguments} {body : List Stmt} {scope : Scope} (e : fnAt K a = some (name, qual, params, .stmts body, scope, mainGlobals, [], builtinsNs)) (c : okAt K a qual = true) :
    ∃ fd, FunD K name qual params body scope [] [] a fd := by
  obtain ⟨kp, c2⟩ := He.ba c
  unfold fnAt at e
  split at e
  · rename_i oc od fd sl q
    rw [q] at c2
    obtain ⟨k1, k2⟩ := He.ba c2
    obtain ⟨k3, k4⟩ := He.ba k2
    obtain ⟨n1, n2, n3, n4, n5, n6, n7, n8, n9, n10, n11, n12, n13, n14, n15⟩ := fd
    simp only [Option.some.injEq, Prod.mk.injEq] at e
    obtain ⟨rfl, rfl, rfl, rfl, rfl, rfl, rfl, rfl⟩ := e
    exact ⟨_, ⟨oc, od, n8, n9, n10, n11, n12, n13, n14, sl, rfl, q, k1, He.dflB_ok k3, He.kwdB_ok k4⟩, kp⟩
  · cases e
def sysB (K : PySem.W.Frag) : Bool := match K.lookup sysModules with
  | some o => decide (o.cls ≠ .type "list")
  | none => false
end Ex

set_option Elab.async false
set_option linter.all false
set_option maxRecDepth 100000
set_option maxHeartbeats 4000000
/-! Own layer: fields and methods within a comprehension's block; methods called with keywords; a dict's comprehension over a list. -/
namespace Ex
open PySem PySem.Spec PySem.Calls PyProof.Rows L2 Gu
section
variable {X : Cx} {k j : Nat} {c m : Str} {ps ks : List Str} {sp : Sp} {p pos apos : Pos} {e o : Expr} {es : List Expr} {kws : List Keyword} {t tk : TA} {ta : TE} {f : Str}
theorem pfldB (K : PySem.W.Frag) (he : PE X o ta) (hK : X.K = K := by rfl) (hb : attributeBase o f X.env (eval o X.env) = eval o X.env := by rfl) : PE X (.Attribute o f pos) (tFld K ta f) := by
  subst hK
  exact pe_fld he hb
theorem pmethB {pl : Sem Bool} (K : PySem.W.Frag) (D : Mf X.prog X.w X.K X.mg X.base k c m ps sp) (hr : Room j X.A) (he : PE X o ta) (ha : PA X (e :: es) t) (hj : k ≤ j := by decide) (hK : X.K = K := by rfl)
    (hst : starEach (e :: es) X.env = (false, eval e X.env) :: starEach es X.env := by rfl) (hpl : (backTo pos (starEach es X.env)).any (·.1) = false := by rfl)
    (ht : eval (.Call (.Attribute o m apos) (e :: es) [] pos) X.env = (do
      let ov ← eval o X.env
      standAt apos.atName
      let (f, first) ← holding [ov] (getMethod ov m pl)
      callWith pos f first (backTo pos (starEach (e :: es) X.env)) (backToKw pos (keywordEach [] X.env))) := by rfl) :
    PE X (.Call (.Attribute o m apos) (e :: es) [] pos) (tMeth (He.ga K c) m sp [] E0 ta t) := by
  subst hK
  exact pmeth D hr he ha hj hst hpl ht
/-- a method that is called with n values by position (self among them) and the keywords ks behind them -/
structure MfK (P : Program) (w : World) (K : PySem.W.Frag) (mg : Str → Option Value) (base : Heap) (k : Nat) (c m : Str) (ps : List Str) (n : Nat) (ks : List Str) (sp : Sp) : Prop where
  ex : ∃ fd, FnOk P w K mg base CX0 k (He.ma K (He.ga K c) m) fd ps sp ∧ ∀ (s : Shared) (us ws : List Value), us.length = n → ws.length = ks.length → K.In s.heap → BindsTo s fd ⟨us, ks.zip ws⟩ (ps.zip (us ++ ws))
  cl : Cls K (He.ga K c)
  me : Meth K (He.ga K c) m (He.ma K (He.ga K c) m)
def tMethK (C : Addr) (m : Str) (sp : Sp) (n q : Nat) (ta : TE) (t tk : TA) : TE := fun σ H Q => ta σ H fun x H1 => ∃ a dx fs, x = .ref a ∧ H1 a = some (.ins C dx fs) ∧ fs.lookup m = none ∧
  t σ H1 fun vs H2 => tk σ H2 fun zs H3 => vs.length + 1 = n ∧ zs.length = q ∧ sp (x :: vs ++ zs) H3 Q E0
theorem pmethK {pl : Sem Bool} {n : Nat} (D : MfK X.prog X.w X.K X.mg X.base k c m ps n ks sp) (hr : Room j X.A) (he : PE X o ta) (ha : PA X (e :: es) t) (hkw : PK X kws tk) (hj : k ≤ j := by decide)
    (hst : starEach (e :: es) X.env = (false, eval e X.env) :: starEach es X.env := by rfl)
    (hall : (backToKw pos (keywordEach kws X.env)).all (·.1.isSome) = true := by rfl) (hks : (backToKw pos (keywordEach kws X.env)).filterMap (·.1) = ks := by rfl)
    (hpl : ((backTo pos (starEach (e :: es) X.env)).any (·.1) || (backToKw pos (keywordEach kws X.env)).any (·.1.isNone)) = false := by rfl)
    (ht : eval (.Call (.Attribute o m apos) (e :: es) kws pos) X.env = (do
      let ov ← eval o X.env
      standAt apos.atName
      let (f, first) ← holding [ov] (getMethod ov m pl)
      callWith pos f first (backTo pos (starEach (e :: es) X.env)) (backToKw pos (keywordEach kws X.env))) := by rfl) :
    PE X (.Call (.Attribute o m apos) (e :: es) kws pos) (tMethK (He.ga X.K c) m sp n ks.length ta t tk) := by
  obtain ⟨fd, F, b⟩ := D.ex
  refine ⟨fun pins s σ H Q I h => ?_⟩
  refine PySem.W.methodCall_KW (pl := pl) (thn (he.run pins s σ H _ I h) fun u s1 ⟨x, H1, I1, rx, a, dx, fs, ex, ea, l, q⟩ => ?_) ht
  subst ex
  obtain rfl : u = Value.ref a := rx
  refine getmeth_ok I1 ea D.cl D.me l ?_
  refine PySem.W.callWith_KW (first := [.ref a]) (h₀ := X.base) I.ok.mod.kin D.me.kp hall (thn (ha.run pos pins s1 σ H1 _ I1 q) fun us s2 ⟨vs, H2, I2, r, q2⟩ => thn (hkw.run pos pins s2 σ H2 _ I2 q2) fun ws s3 ⟨zs, H3, I3, rz, hn, hz, q3⟩ => ⟨I3.kIn, ?_⟩) hpl hst
  rw [hks]
  have r2 : Vals (V.ref a :: vs) (Value.ref a :: us) := .cons rfl r
  have r3 : Vals (V.ref a :: vs ++ zs) (Value.ref a :: us ++ ws) := r2.append rz
  have l1 : (Value.ref a :: us).length = n := by
    rw [← r2.length]
    exact hn
  have l2 : ws.length = ks.length := by
    rw [← rz.length]
    exact hz
  refine wpAny_call (codeAny_mono (F.run X.A X.stack s3 H3 ⟨Value.ref a :: us, ks.zip ws⟩ _ _ Q E0 (hr.mono hj) I3.env0 (b s3 (Value.ref a :: us) ws l1 l2 I3.kIn) r3 q3) fun r s' hq => ?_)
  match r, hq with
  | .ok (.ret u), hq => exact I3.after hq
end
/-- a dict's comprehension over a list that stays -/
theorem dc_list {K : PySem.W.Frag} {a : Addr} {xs : List V} {g : TG} {tt : TT} {tk tv : TE} {vs : List Nat} {σ : L2.St} {H1 : Hp} {D : Addr} {Qd : Hp → Prop} (Pv : Nat → Hp → Prop) (h0 : Pv 0 (upd H1 D (.dK []))) (hl : ∀ i H, i ≤ xs.length → Pv i H → SqL K H a xs)
    (hs : ∀ i x H, xs[i]? = some x → Pv i H → g x (wipe σ vs) H fun σ2 H2 => wipe σ2 vs = wipe σ vs ∧ tt σ2 H2 fun b H3 =>
      if b = true then tk σ2 H3 fun y H4 => tv σ2 H4 fun z H5 => ∃ kvs k, y = kV k ∧ H5 D = some (.dK kvs) ∧ kvs.length < sizeLine ∧ Pv (i + 1) (upd H5 D (.dK (putK kvs k z))) else Pv (i + 1) H3) (hd : ∀ H, Pv xs.length H → Qd H) :
    ∃ W : Nat → Nat → Hp → Prop, (∃ m, W 0 m (upd H1 D (.dK []))) ∧ ∀ i m H, W i m H →
      ((Itl K a).stop i H ∧ Qd H) ∨ ((Itl K a).go i H ∧ ∃ Nx : Hp → Prop, (∀ H', Nx H' → ∃ m', m' < m ∧ W (i + 1) m' H') ∧ ∀ x H', (Itl K a).yld i H x H' → g x (wipe σ vs) H' fun σ2 H2 => wipe σ2 vs = wipe σ vs ∧ tt σ2 H2 fun b H3 =>
        if b = true then tk σ2 H3 fun y H4 => tv σ2 H4 fun z H5 => ∃ kvs k, y = kV k ∧ H5 D = some (.dK kvs) ∧ kvs.length < sizeLine ∧ Nx (upd H5 D (.dK (putK kvs k z))) else Nx H3) := by
  refine ⟨fun i m H => m = xs.length - i ∧ i ≤ xs.length ∧ Pv i H, ⟨xs.length, by simp, Nat.zero_le _, h0⟩, ?_⟩
  rintro i m H ⟨rfl, hi, p⟩
  have q := hl i H hi p
  by_cases hlt : i < xs.length
  · refine .inr ⟨⟨xs, xs[i], q, by simp [hlt]⟩, Pv (i + 1), fun H' p' => ⟨xs.length - (i + 1), by omega, rfl, hlt, p'⟩, fun x H' y => ?_⟩
    obtain ⟨e, y⟩ := y
    subst e
    exact hs i x _ (y xs q) p
  · have e : i = xs.length := by omega
    subst e
    exact .inl ⟨⟨xs, q, Nat.le_refl _⟩, hd H p⟩
end Ex

set_option Elab.async false
set_option linter.all false
set_option maxRecDepth 100000
set_option maxHeartbeats 4000000
/-! Own layer: a keyword-only default that is the empty tuple; a call with the keyword given. -/
namespace Ex
open PySem PySem.Spec PyProof.Rows L2 Gu
def tup0 (K : PySem.W.Frag) (z : Addr) : Bool := match K.lookup z with
  | some ⟨.type c, _, .seq its _, _⟩ => decide (c = "tuple") && decide (its.size = 0)
  | _ => false
theorem tup0_ok {K : PySem.W.Frag} {z : Addr} (h : tup0 K z = true) : ∃ (o : Obj) (n : Nat), K.lookup z = some o ∧ o.cls = .type "tuple" ∧ o.data = .seq #[] n := by
  unfold tup0 at h
  split at h
  · rename_i c d its n sl e
    obtain ⟨h1, h2⟩ := He.ba h
    have e1 := of_decide_eq_true h1
    have e2 := of_decide_eq_true h2
    have e3 : its = #[] := Array.eq_empty_of_size_eq_zero e2
    subst e1
    subst e3
    exact ⟨_, n, e, rfl, rfl⟩
  · cases h
def kwV (K : PySem.W.Frag) (k : Str) : Value → Bool
  | .ref D => (match PySem.W.nsIn K D k with
    | some (some (.ref z)) => tup0 K z
    | _ => false)
  | _ => false
def kwB (K : PySem.W.Frag) (f : Addr) (k : Str) : Bool := match K.lookup f with
  | some ⟨_, _, .func fd, _⟩ => kwV K k fd.kwdefaults
  | _ => false
section
variable {K : PySem.W.Frag} {x qual : Str} {params : Arguments} {body : List Stmt} {scope : Scope} {kws : List (Str × V)} {f : Addr} {fd : FuncData} {ps ks : List Str} {k : Str}
theorem kwB_ok (F : FunD K x qual params body scope [] [] f fd) (h : kwB K f k = true) : ∃ (z : Addr) (o : Obj) (n : Nat), FunD K x qual params body scope [] [(k, .ref z)] f fd ∧ K.lookup z = some o ∧ o.cls = .type "tuple" ∧ o.data = .seq #[] n := by
  obtain ⟨⟨oc, od, dV, kV, doc, pm, an, cdv, ct, osl, rfl, lk, hcd, hD, hK⟩, kp⟩ := F
  unfold kwB at h
  rw [lk] at h
  have h1 : kwV K k kV = true := h
  cases kV with
  | ref D =>
    have h2 : (match PySem.W.nsIn K D k with
      | some (some (.ref z)) => tup0 K z
      | _ => false) = true := h1
    split at h2
    · rename_i z e
      obtain ⟨o, n, a, b, c⟩ := tup0_ok h2
      refine ⟨z, o, n, ⟨⟨oc, od, dV, _, doc, pm, an, cdv, ct, osl, rfl, lk, hcd, hD, .inr ⟨D, rfl, fun q hq => ?_⟩⟩, kp⟩, a, b, c⟩
      cases List.mem_singleton.mp hq
      exact ⟨_, e, rfl⟩
    · cases h2
  | _ => cases h1
theorem bindsK {n : Nat} (F : FunD K x qual params body scope [] kws f fd)
    (h : ∀ (kV doc pm : Value) (an : Option Addr) (cdv ct : Value) (us ws : List Value), us.length = n → ws.length = ks.length → bindArgs (PySem.W.fnOf x qual params body scope .none kV doc pm an cdv ct) ⟨us, ks.zip ws⟩ = pure (ps.zip (us ++ ws)))
    (s : Shared) (us ws : List Value) (hu : us.length = n) (hw : ws.length = ks.length) (_ : K.In s.heap) : BindsTo s fd ⟨us, ks.zip ws⟩ (ps.zip (us ++ ws)) := by
  obtain ⟨oc, od, dV, kV, doc, pm, an, cdv, ct, osl, rfl, lk, hcd, hD, hK⟩ := F.ex
  rcases hD with ⟨_, rfl⟩ | ⟨e, _⟩
  · exact .of_eq (h kV doc pm an cdv ct us ws hu hw)
  · exact absurd rfl e
end
end Ex

set_option Elab.async false
set_option linter.all false
set_option maxRecDepth 100000
set_option maxHeartbeats 0
/-! Own layer: the tables of defs that hold lambdas, for an end. -/
namespace Ex
open PySem PySem.Spec PyProof.Rows L2 Gu
/-- keywords alone, behind self; keyword-only defaults may stand -/
theorem bindsKwD {K : PySem.W.Frag} {name qual : Str} {params : Arguments} {body : List Stmt} {scope : Scope} {kws : List (Str × V)} {f : Addr} {ps ks : List Str} {j : List Nat} {fd : FuncData} (F : FunD K name qual params body scope [] kws f fd)
    (hb : ∀ (kV doc pm : Value) (an : Option Addr) (cdv ct u : Value) (ws : List Value), ws.length = ks.length → bindArgs (PySem.W.fnOf name qual params body scope .none kV doc pm an cdv ct) ⟨[u], ks.zip ws⟩ = pure (ps.zip (u :: j.filterMap fun i => ws[i]?))) :
    ∀ (s : Shared) (u : Value) (ws : List Value), ws.length = ks.length → BindsTo s fd ⟨[u], ks.zip ws⟩ (ps.zip (u :: j.filterMap fun i => ws[i]?)) := by
  intro s u ws hl
  obtain ⟨oc, od, dV, kV, doc, pm, an, cdv, ct, osl, rfl, lk, hcd, hD, hK⟩ := F.ex
  rcases hD with ⟨_, rfl⟩ | ⟨e, _⟩
  · exact .of_eq (hb kV doc pm an cdv ct u ws hl)
  · exact absurd rfl e
/-! ### the tables of the defs' code objects -/
def cdA (K : PySem.W.Frag) (x : Str) : Addr := match PySem.W.tabIn K x with
  | some (c, _) => c
  | none => 0
def ptA (K : PySem.W.Frag) (x : Str) : Addr := match PySem.W.tabIn K x with
  | some (_, P) => P
  | none => 0
def tabB (K : PySem.W.Frag) (x : Str) : Bool := match PySem.W.tabIn K x with
  | some (c, P) => PySem.W.codeHdIn K c P && (K.lookup P).isNone
  | none => false
theorem tabB_ok {K : PySem.W.Frag} {x : Str} (h : tabB K x = true) : PySem.W.tabIn K x = some (cdA K x, ptA K x) ∧ PySem.W.codeHdIn K (cdA K x) (ptA K x) = true ∧ K.lookup (ptA K x) = none := by
  unfold tabB at h
  unfold cdA ptA
  split at h
  · rename_i c P e
    obtain ⟨h1, h2⟩ := He.ba h
    rw [e]
    exact ⟨rfl, h1, by simpa using h2⟩
  · cases h
theorem tab_code {K : PySem.W.Frag} {x name qual : Str} {c P : Addr} {params : Arguments} {body : List Stmt} {scope : Scope} {dvs : List V} {kws : List (Str × V)} {fd : FuncData} (h : PySem.W.tabIn K x = some (c, P)) (F : FunD K name qual params body scope dvs kws (He.ga K x) fd) : fd.code = .ref c := by
  obtain ⟨oc, od, dV, kV, doc, pm, an, cdv, ct, osl, rfl, lk, _⟩ := F.ex
  unfold PySem.W.tabIn at h
  split at h
  · rename_i f hf
    have e : He.ga K x = f := by
      unfold He.ga
      rw [hf]
    rw [← e, lk] at h
    dsimp only at h
    split at h
    · rename_i c2 hc
      split at h
      · split at h
        · cases h
          rfl
        · cases h
      · cases h
    · cases h
  · cases h
/-- the addresses of the written part, without the tables of xs -/
def pt0s (g : Addr → Option Obj) (n : Nat) (xs : List Str) : List Addr := xs.map fun x => ptA (He.frG g (cStatics :: sysModules :: He.asD g n)) x
def kkGs (g : Addr → Option Obj) (n : Nat) (xs : List Str) : PySem.W.Frag := He.frG g ((cStatics :: sysModules :: He.asD g n).filter fun a => !(pt0s g n xs).contains a)
/-- the code object of the def at a -/
def gcode (g : Addr → Option Obj) (a : Addr) : Addr := match g a with
  | some ⟨_, _, .func fd, _⟩ => (match fd.code with
    | .ref c => c
    | _ => 0)
  | _ => 0
/-- the code objects of the properties' getters: one step of K less is enough with them -/
def prCs (g : Addr → Option Obj) (n : Nat) (ps : List (Str × Str)) : List Addr := ps.map fun p => gcode g (pgA (He.frG g (cStatics :: sysModules :: He.asD g n)) (He.ga (He.frG g (cStatics :: sysModules :: He.asD g n)) p.1) p.2)
def kkP (g : Addr → Option Obj) (n : Nat) (ps : List (Str × Str)) : PySem.W.Frag := He.frG g ((cStatics :: sysModules :: He.asD g n) ++ prCs g n ps)
def kkPs (g : Addr → Option Obj) (n : Nat) (xs : List Str) (ps : List (Str × Str)) : PySem.W.Frag := He.frG g (((cStatics :: sysModules :: He.asD g n).filter fun a => !(pt0s g n xs).contains a) ++ prCs g n ps)
end Ex

set_option Elab.async false
set_option linter.all false
set_option maxRecDepth 100000
set_option maxHeartbeats 0
namespace Ex
open PySem PySem.Spec PyProof.Rows L2 Gu
def ecB (K : PySem.W.Frag) (C : Addr) : Bool := xfB K C && (He.eqO (PySem.W.findIn K (.ref C) "__class__") (some (some (.builtin "object.__class__"))) &&
  (He.eqO (PySem.W.specialIn K (.builtin "object.__class__") "__get__") (some (some (.builtin "getset_descriptor.__get__"))) && (bOf (PySem.W.takesIn K (.builtin "object.__class__")) true && bOf (PySem.W.mroIn K C (.type "object")) true)))
theorem ecB_ok {K : PySem.W.Frag} {C : Addr} (h : ecB K C = true) : ExcC K C ∧ XfC K C := by
  obtain ⟨a1, h⟩ := He.ba h
  obtain ⟨a2, h⟩ := He.ba h
  obtain ⟨a3, h⟩ := He.ba h
  obtain ⟨a4, a5⟩ := He.ba h
  have x := xfB_ok a1
  exact ⟨⟨x.ga, x.gg, x.exC, x.hdC, He.eqO_ok a2, He.eqO_ok a3, bOf_ok a4, bOf_ok a5⟩, x⟩
end Ex
namespace K35
open PySem PySem.Spec PyProof.Rows L2 Gu Ex
def klB (K : PySem.W.Frag) : Bool := ecB K (cL K) && (He.eqO (PySem.W.findIn K (.ref (cL K)) "value") (some none) && (bOf (PySem.W.kitAny K (.ref (cL K)) [.ref (He.ga K "InvalidAddress"), .ref (He.ga K "InvalidNumber"), .type "LookupError"]) false &&
  (bOf (PySem.W.kitOne K (.ref (cL K)) (.ref (He.ga K "RoomError"))) true && bOf (PySem.W.exmOne K (.ref (cL K)) (.ref (cL K))) true)))
end K35

set_option Elab.async false
set_option linter.all false
set_option maxRecDepth 100000
set_option maxHeartbeats 0
namespace K35
open PySem PySem.Spec PyProof.Rows L2 Gu Ex
abbrev R : PySem.W.OpenRow := PySem.W.OpenLaw.row PySem.Challenge.rw_exactroom_k35_cheapest_regions
def dOf (a : Str × Option Str) (x q : Str) (st : Stmt) : He.DefD := ⟨a, x, q, defArgs st, defBody st, defScope st, [], []⟩
def dOfK (a : Str × Option Str) (x q : Str) (st : Stmt) (kw : List (Str × He.Dv)) : He.DefD := ⟨a, x, q, defArgs st, defBody st, defScope st, [], kw⟩
def fn : List He.DefD := [dOf ("is_integer", none) "is_integer" "is_integer" (top 13),
  dOf ("size_problem", none) "size_problem" "size_problem" (top 17),
  dOf ("check_sizes", none) "check_sizes" "check_sizes" (top 18),
  dOf ("is_cells", none) "is_cells" "is_cells" (top 14),
  dOf ("check_cells", none) "check_cells" "check_cells" (top 15),
  dOf ("Sizes", some "__init__") "__init__" "Sizes.__init__" (inClass (top 19) 4),
  dOf ("Sizes", some "has_level") "has_level" "Sizes.has_level" (inClass (top 19) 12),
  dOf ("Sizes", some "check_level") "check_level" "Sizes.check_level" (inClass (top 19) 13),
  dOf ("Sizes", some "size") "size" "Sizes.size" (inClass (top 19) 14),
  dOf ("Sizes", some "all_sizes") "all_sizes" "Sizes.all_sizes" (inClass (top 19) 11),
  dOf ("Layout", some "__init__") "__init__" "Layout.__init__" (inClass (top 41) 0),
  dOf ("Layout", some "count_below") "count_below" "Layout.count_below" (inClass (top 41) 9),
  dOf ("Layout", some "index_of") "index_of" "Layout.index_of" (inClass (top 41) 10),
  dOf ("Layout", some "block_at") "block_at" "Layout.block_at" (inClass (top 41) 11),
  dOf ("Layout", some "first_taken") "first_taken" "Layout.first_taken" (inClass (top 41) 12),
  dOfK ("Layout", some "put") "put" "Layout.put" (inClass (top 41) 13) [("pinned", .bl false)],
  dOf ("Layout", some "set_pinned") "set_pinned" "Layout.set_pinned" (inClass (top 41) 15),
  dOf ("Layout", some "ranges_of") "ranges_of" "Layout.ranges_of" (inClass (top 41) 16),
  dOf ("Layout", some "pinned_ranges") "pinned_ranges" "Layout.pinned_ranges" (inClass (top 41) 18),
  dOf ("Layout", some "unpinned_levels") "unpinned_levels" "Layout.unpinned_levels" (inClass (top 41) 19),
  dOf ("Layout", some "blocks") "blocks" "Layout.blocks" (inClass (top 41) 7),
  dOf ("Plan", some "__init__") "__init__" "Plan.__init__" (inClass (top 30) 0),
  dOf ("Plan", some "free_gaps") "free_gaps" "Plan.free_gaps" (inClass (top 30) 2),
  dOf ("Plan", some "lowest_free") "lowest_free" "Plan.lowest_free" (inClass (top 30) 3),
  dOf ("Plan", some "filled_regions") "filled_regions" "Plan.filled_regions" (inClass (top 30) 4),
  dOf ("Plan", some "cheapest") "cheapest" "Plan.cheapest" (inClass (top 30) 5),
  dOf ("InvalidLevel", some "__init__") "__init__" "InvalidLevel.__init__" (inClass (top 4) 0),
  dOf ("is_address", none) "is_address" "is_address" (top 21),
  dOf ("check_range", none) "check_range" "check_range" (top 22),
  dOf ("next_start", none) "next_start" "next_start" (top 23),
  dOf ("region_start", none) "region_start" "region_start" (top 27),
  dOf ("count_regions", none) "count_regions" "count_regions" (top 28),
  dOf ("gaps_between", none) "gaps_between" "gaps_between" (top 24),
  dOf ("lies_below", none) "lies_below" "lies_below" (top 25),
  dOf ("is_region", none) "is_region" "is_region" (top 26),
  dOf ("is_move", none) "is_move" "is_move" (top 32),
  dOf ("first_misfit", none) "first_misfit" "first_misfit" (top 33),
  dOf ("places_after", none) "places_after" "places_after" (top 34),
  dOf ("first_clash", none) "first_clash" "first_clash" (top 35),
  dOf ("first_wrong_move", none) "first_wrong_move" "first_wrong_move" (top 36),
  dOf ("check_rearrangement", none) "check_rearrangement" "check_rearrangement" (top 37),
  dOf ("cost", none) "cost" "cost" (top 38),
  dOf ("cheapest_region", none) "cheapest_region" "cheapest_region" (top 39),
  dOf ("_law_rng", none) "_law_rng" "_law_rng" (top 43),
  dOf ("_law_draw", none) "_law_draw" "_law_draw" (top 44),
  dOf ("_law_choice", none) "_law_choice" "_law_choice" (top 45),
  dOf ("_law_shuffled", none) "_law_shuffled" "_law_shuffled" (top 46),
  dOf ("_law_sizes", none) "_law_sizes" "_law_sizes" (top 47),
  dOf ("_law_has_space", none) "_law_has_space" "_law_has_space" (top 48),
  dOf ("_law_blocks", none) "_law_blocks" "_law_blocks" (top 49),
  dOf ("_law_runs", none) "_law_runs" "_law_runs" (top 50),
  dOf ("_law_free_runs", none) "_law_free_runs" "_law_free_runs" (top 51),
  dOf ("_law_made", none) "_law_made" "_law_made" (top 52),
  dOf ("_law_memory", none) "_law_memory" "_law_memory" (top 53),
  dOf ("_law_moves", none) "_law_moves" "_law_moves" (top 54),
  dOf ("_law_problem", none) "_law_problem" "_law_problem" (top 55),
  dOf ("_law_after", none) "_law_after" "_law_after" (top 56),
  dOf ("_law_cells_in", none) "_law_cells_in" "_law_cells_in" (top 57),
  dOf ("_law_due", none) "_law_due" "_law_due" (top 58),
  dOf ("_law_outcome", none) "_law_outcome" "_law_outcome" (top 59),
  dOf ("_law_end_right", none) "_law_end_right" "_law_end_right" (top 60),
  dOf ("_law_right", none) "_law_right" "_law_right" (top 61),
  dOf ("law", none) "law" "law" (top 62)]
def fa : List He.Fa := [.glo "is_integer", .glo "size_problem", .glo "check_sizes", .glo "is_cells", .glo "check_cells", .glo "is_address", .glo "check_range", .glo "next_start", .glo "region_start", .glo "count_regions", .glo "gaps_between", .glo "lies_below", .glo "is_region", .glo "is_move", .glo "first_misfit", .glo "places_after", .glo "first_clash", .glo "first_wrong_move", .glo "check_rearrangement", .glo "cost", .glo "cheapest_region", .glo "_law_rng", .glo "_law_draw", .glo "_law_choice", .glo "_law_shuffled", .glo "_law_sizes", .glo "_law_has_space", .glo "_law_blocks", .glo "_law_runs", .glo "_law_free_runs", .glo "_law_made", .glo "_law_memory", .glo "_law_moves", .glo "_law_problem", .glo "_law_after", .glo "_law_cells_in", .glo "_law_due", .glo "_law_outcome", .glo "_law_end_right", .glo "_law_right", .glo "law", .glo "Sizes", .glo "Layout", .glo "Plan", .glo "InvalidAddress", .glo "InvalidLevel", .glo "InvalidNumber", .glo "RoomError", .free "len", .free "isinstance", .free "int", .free "bool", .free "list", .free "range", .free "divmod", .free "abs", .free "max", .free "min", .free "enumerate", .free "all", .free "sum", .free "tuple", .free "sorted", .free "repr", .free "set", .free "dict", .free "any", .free "LookupError", .free "ValueError", .cls "Sizes", .noat "Sizes" "size_list", .mkr "Sizes", .meth "Sizes" "has_level", .meth "Sizes" "check_level", .meth "Sizes" "size", .meth "Sizes" "all_sizes", .cls "Layout", .mkr "Layout", .noat "Layout" "size_table", .noat "Layout" "cell_count", .noat "Layout" "free_count", .noat "Layout" "block_list", .meth "Layout" "count_below", .meth "Layout" "index_of", .meth "Layout" "block_at", .meth "Layout" "first_taken", .meth "Layout" "put", .meth "Layout" "set_pinned", .meth "Layout" "ranges_of", .meth "Layout" "pinned_ranges", .meth "Layout" "unpinned_levels", .meth "Layout" "blocks", .cls "Plan", .mkr "Plan", .noat "Plan" "size_table", .noat "Plan" "cell_count", .noat "Plan" "closed", .noat "Plan" "staying", .noat "Plan" "lost", .noat "Plan" "goals", .meth "Plan" "free_gaps", .meth "Plan" "lowest_free", .meth "Plan" "filled_regions", .meth "Plan" "cheapest"]
def exB (K : PySem.W.Frag) : Bool := (rdB K (He.ga K "Sizes") && (cvB K (He.ga K "Sizes") "MAX_SIZE" 1000000000 && (cvB K (He.ga K "Sizes") "MAX_SIZES" 8 && (sysB K && (cvB K (He.ga K "Sizes") "MAX_CELLS" 1000000000000 && (neB K (He.ga K "Sizes") && (Ex.insB K (He.ga K "Sizes") && (Ex.insB K (He.ga K "Layout") && (errG "ValueError" K (He.ga K "InvalidLevel") "value" && (klB K && (prB K (He.ga K "Sizes") "top" && (okAt K (pgA K (He.ga K "Sizes") "top") "Sizes.top" && (prB K (He.ga K "Layout") "sizes" && (okAt K (pgA K (He.ga K "Layout") "sizes") "Layout.sizes" && (prB K (He.ga K "Layout") "length" && (okAt K (pgA K (He.ga K "Layout") "length") "Layout.length" && true))))))))))))))))
def v_top : He.FnW := some ("top", "Sizes.top", defArgs (inClass (top 19) 10), .stmts (defBody (inClass (top 19) 10)), defScope (inClass (top 19) 10), mainGlobals, [], builtinsNs)
def v_sizes : He.FnW := some ("sizes", "Layout.sizes", defArgs (inClass (top 41) 4), .stmts (defBody (inClass (top 41) 4)), defScope (inClass (top 41) 4), mainGlobals, [], builtinsNs)
def v_length : He.FnW := some ("length", "Layout.length", defArgs (inClass (top 41) 5), .stmts (defBody (inClass (top 41) 5)), defScope (inClass (top 41) 5), mainGlobals, [], builtinsNs)
abbrev AlE : Type := He.AlD × Bool × He.FnW × He.FnW × He.FnW
def ob0 (K : PySem.W.Frag) : AlE := (He.obsD fa fn K, exB K, fnAt K (pgA K (He.ga K "Sizes") "top"), fnAt K (pgA K (He.ga K "Layout") "sizes"), fnAt K (pgA K (He.ga K "Layout") "length"))
def vl0 : AlE := (He.valD fn, true, v_top, v_sizes, v_length)
def prNs : List (Str × Str) := [("Sizes", "top"), ("Layout", "sizes"), ("Layout", "length")]
def ob1 (g : Addr → Option Obj) : AlE := ob0 (kkP g 4 prNs)
def hk : PySem.W.Hook where
  α := AlE
  obs := fun s => ob1 s.heap.get?
  val := fun _ => vl0
  says := fun _ h => ∃ K : PySem.W.Frag, K.In h ∧ ob0 K = vl0
  of := fun _ _ e => ⟨_, He.frG_in, e⟩
  keeps := fun _ _ _ ⟨K, hK, c⟩ k => ⟨K, PySem.W.Frag.In.keeps hK k, c⟩
def ob (s : PySem.W.SharedT) : AlE := ob1 (HandSHeadRun.getT s)
theorem ob_eq (s : PySem.W.SharedT) : ob s = hk.obs s.abs := by
  have e : HandSHeadRun.getT s = s.abs.heap.get? := funext (HandSHeadRun.getT_eq s)
  show ob1 (HandSHeadRun.getT s) = ob1 s.abs.heap.get?
  rw [e]
def loose : List Str := ("_wall" : Str) :: ("RoomError" : Str) :: ("InvalidSizes" : Str) :: ("InvalidLevel" : Str) :: ("InvalidNumber" : Str) :: ("InvalidNumbers" : Str) :: ("InvalidAddress" : Str) :: ("InvalidMoves" : Str) :: ("UnknownBlock" : Str) :: ("Occupied" : Str) :: ("TooManyPieces" : Str) :: ("is_integer" : Str) :: ("is_cells" : Str) :: ("check_cells" : Str) :: ("check_numbers" : Str) :: ("size_problem" : Str) :: ("check_sizes" : Str) :: ("Sizes" : Str) :: ("is_address" : Str) :: ("check_range" : Str) :: ("next_start" : Str) :: ("gaps_between" : Str) :: ("lies_below" : Str) :: ("is_region" : Str) :: ("region_start" : Str) :: ("count_regions" : Str) :: ("Plan" : Str) :: ("is_move" : Str) :: ("first_misfit" : Str) :: ("places_after" : Str) :: ("first_clash" : Str) :: ("first_wrong_move" : Str) :: ("check_rearrangement" : Str) :: ("cost" : Str) :: ("cheapest_region" : Str) :: ("Layout" : Str) :: ("_law_rng" : Str) :: ("_law_draw" : Str) :: ("_law_choice" : Str) :: ("_law_shuffled" : Str) :: ("_law_sizes" : Str) :: ("_law_has_space" : Str) :: ("_law_blocks" : Str) :: ("_law_runs" : Str) :: ("_law_free_runs" : Str) :: ("_law_made" : Str) :: ("_law_memory" : Str) :: ("_law_moves" : Str) :: ("_law_problem" : Str) :: ("_law_after" : Str) :: ("_law_cells_in" : Str) :: ("_law_due" : Str) :: ("_law_outcome" : Str) :: ("_law_end_right" : Str) :: ("_law_right" : Str) :: []
def kk (s : PySem.W.SharedT) : PySem.W.Frag := kkP (HandSHeadRun.getT s) 4 prNs
noncomputable def ends (w : World) (os : OsState) : Option PySem.W.SharedT := HandSHeadRun.endF (HandSHeadRun.stepQ (HandSHeadRun.denQ HandSHeadRun.tabQ) R.prog w) 16000 R.prog w os
theorem in_parts {σ A B E F : Type} {o : Option σ} {a : σ → A} {b : σ → B} {c d : σ → Bool} {e : σ → E} {f : σ → Bool} {g : σ → F} {x1 : A} {x2 : B} {x5 : E} {x7 : F} (h1 : o.map a = some x1) (h2 : o.map b = some x2) (h3 : o.map c = some true) (h4 : o.map d = some true)
    (h5 : o.map e = some x5) (h6 : o.map f = some true) (h7 : o.map g = some x7) : o.map (fun s => (a s, b s, (((c s && d s), e s), f s, g s))) = some (x1, x2, ((true, x5), true, x7)) := by
  cases o with
  | none => cases h1
  | some s =>
    have g1 : a s = x1 := Option.some.inj h1
    have g2 : b s = x2 := Option.some.inj h2
    have g3 : c s = true := Option.some.inj h3
    have g4 : d s = true := Option.some.inj h4
    have g5 : e s = x5 := Option.some.inj h5
    have g6 : f s = true := Option.some.inj h6
    have g7 : g s = x7 := Option.some.inj h7
    show some (a s, b s, (((c s && d s), e s), f s, g s)) = _
    rw [g1, g2, g3, g4, g5, g6, g7]
    rfl
end K35

set_option Elab.async false
set_option linter.all false
set_option maxRecDepth 100000
set_option maxHeartbeats 0
namespace K35
open PySem PySem.Spec PyProof.Rows L2 Gu Ex PySem.W PySem.Calls
theorem r_looks (w : World) (os : OsState) : (ends w os).map (fun s => HandSHeadRun.looksF R.prog (boot_heap w.params) s.abs) = some true := by kernel_rfl
theorem r_seen (w : World) (os : OsState) : (ends w os).map (fun s => HandSHeadRun.seenQ (PySem.W.view R.prog [62]) loose (PySem.importedModules R.prog.main.body) (fun s => PySem.W.xlAt (PySem.W.view R.prog [62]) [] s && PySem.W.recOk R.toRowW.records s) s.abs) = some (PySem.W.openGood (PySem.W.view R.prog [62]) loose) := by kernel_rfl
end K35

set_option Elab.async false
set_option linter.all false
set_option maxRecDepth 100000
set_option maxHeartbeats 0
namespace K35
open PySem PySem.Spec PyProof.Rows L2 Gu Ex
theorem r_fa (w : World) (os : OsState) : (ends w os).map (fun s => fa.all fun f => f.ok (kk s)) = some true := by kernel_rfl
end K35

set_option Elab.async false
set_option linter.all false
set_option maxRecDepth 100000
set_option maxHeartbeats 0
namespace K35
open PySem PySem.Spec PyProof.Rows L2 Gu Ex
theorem r_fn (w : World) (os : OsState) : (ends w os).map (fun s => fn.all fun d => d.ok (kk s)) = some true := by kernel_rfl
end K35

set_option Elab.async false
set_option linter.all false
set_option maxRecDepth 100000
set_option maxHeartbeats 0
namespace K35
open PySem PySem.Spec PyProof.Rows L2 Gu Ex
theorem r_fw (w : World) (os : OsState) : (ends w os).map (fun s => fn.map fun d => He.fnW (kk s) d.at_) = some (fn.map He.DefD.val) := by kernel_rfl
end K35

set_option Elab.async false
set_option linter.all false
set_option maxRecDepth 100000
set_option maxHeartbeats 0
namespace K35
open PySem PySem.Spec PyProof.Rows L2 Gu Ex
theorem r_ex (w : World) (os : OsState) : (ends w os).map (fun s => exB (kk s)) = some true := by kernel_rfl
theorem r_pr (w : World) (os : OsState) : (ends w os).map (fun s => (fnAt (kk s) (pgA (kk s) (He.ga (kk s) "Sizes") "top"), fnAt (kk s) (pgA (kk s) (He.ga (kk s) "Layout") "sizes"), fnAt (kk s) (pgA (kk s) (He.ga (kk s) "Layout") "length"))) = some (v_top, v_sizes, v_length) := by kernel_rfl
end K35

set_option Elab.async false
set_option linter.all false
set_option maxRecDepth 100000
set_option maxHeartbeats 4000000
namespace K35
open PySem PySem.Spec PyProof.Rows L2 Gu Ex
def szF (l : Addr) : List (Str × V) := [("size_list", V.ref l)]
theorem szF_get (l : Addr) : (szF l).lookup ("size_list" : Str) = some (.ref l) := by simp [szF, List.lookup]
theorem szF_no (l : Addr) {m : Str} (h : (m == ("size_list" : Str)) = false) : (szF l).lookup m = none := by simp [szF, List.lookup, h]
/-- at p an object of Sizes with the list ns -/
def SzAt (C : Addr) (H : Hp) (p : Addr) (ns : List Int) : Prop := ∃ dx l, H p = some (.ins C dx (szF l)) ∧ H l = some (.lst (ns.map V.int))
theorem putF_new (l : Addr) : putF "size_list" (V.ref l) [] = szF l := rfl
section
variable {P : Program} {w : World} {K : PySem.W.Frag} {mg : Str → Option Value} {base : Heap} {f : Addr} {fd : FuncData}
def spMade (K : PySem.W.Frag) : Sp := fun vs H Q _ => ∃ (x dx a : Addr) (ns : List Int), vs = [.ref x, .ref a] ∧ H x = some (.ins (He.ga K "Sizes") dx []) ∧ SqL K H a (ns.map V.int) ∧ TyX K H (.ref a) (.type "list") ∧ Good ns ∧
  ∀ l, H l = none → Q .non (upd (upd H l (.lst (ns.map V.int))) x (.ins (He.ga K "Sizes") dx (szF l)))
theorem sc_Sizes_init : FnScope ["self", "values"] ["self", "values"] (defScope (inClass (top 19) 4)) := ⟨rfl, rfl, rfl, by decide +kernel, rfl, by decide +kernel, by decide +kernel⟩
theorem ok_init (T : Tx K mg) (D_check_sizes : Df P w K mg base 3 "check_sizes" ["values"] (spCheck K)) (F : FnP K "__init__" "Sizes.__init__" (inClass (top 19) 4) f fd) :
    FnOk P w K mg base CX0 4 f fd ["self", "values"] (spMade K) := by
  refine F.ok sc_Sizes_init (fun vs H Q E h => ?_) (fun cdv A outer s H vs Q E hr h => ⟨_, PSs.nox (pss_cons (ps_expr (pcall D_check_sizes hr (pa_cons (pv 1) pa_nil))) (pss_one (ps_fld (pv 0) (pe_callTy call_list_of (by rfl) T.n_list (by decide +kernel) (pa_cons (pv 1) pa_nil)) rfl))), ?_⟩)
  · obtain ⟨x, dx, a, ns, rfl, _⟩ := h
    rfl
  · obtain ⟨x, dx, a, ns, rfl, hx, hS, ty, g, q⟩ := h
    refine ⟨_, rfl, a, ns, rfl, hS, ty, g, ?_⟩
    refine ⟨_, rfl, a, _, rfl, .inl hS, fun l hl => ?_⟩
    refine ⟨_, rfl, x, He.ga K "Sizes", dx, [], rfl, (by rw [upd_ne (ne_of_none hx hl)]; exact hx), T.cl, T.nSL, (by show 0 < 1000; decide), ?_⟩
    exact q l hl
def spTop (K : PySem.W.Frag) : Sp := fun vs H Q _ => ∃ (p : Addr) (ns : List Int), vs = [.ref p] ∧ SzAt (He.ga K "Sizes") H p ns ∧ Q (.int ((ns.length : Int) - 1)) H
theorem sc_top : FnScope ["self"] ["self"] (defScope (inClass (top 19) 10)) := ⟨rfl, rfl, rfl, by decide +kernel, rfl, by decide +kernel, by decide +kernel⟩
theorem ok_top (T : Tx K mg) (F : FnP K "top" "Sizes.top" (inClass (top 19) 10) f fd) : FnOk P w K mg base CX0 1 f fd ["self"] (spTop K) := by
  refine F.ok sc_top (fun vs H Q E h => ?_) (fun cdv A outer s H vs Q E hr h => ⟨_, PSs.nox (pss_one (ps_ret (pe_op op_sub (pe_callB call_len_seq (by rfl) T.n_len (by decide +kernel) (pa_cons (pe_fld (pv 0) rfl) pa_nil)) pe_int))), ?_⟩)
  · obtain ⟨p, ns, rfl, _⟩ := h
    rfl
  · obtain ⟨p, ns, rfl, ⟨dx, l, h1, h2⟩, q⟩ := h
    refine ⟨_, rfl, p, _, dx, _, _, rfl, h1, T.cl, T.nSL, szF_get l, l, _, rfl, .inl (SqL.of h2), _, _, rfl, rfl, ?_⟩
    rw [List.length_map]
    exact q
def spHas (K : PySem.W.Frag) : Sp := fun vs H Q _ => ∃ (p : Addr) (ns : List Int) (i : Nat), vs = [.ref p, .int i] ∧ SzAt (He.ga K "Sizes") H p ns ∧ i < ns.length ∧ Q (.bl true) H
theorem sc_has_level : FnScope ["self", "level"] ["self", "level"] (defScope (inClass (top 19) 12)) := ⟨rfl, rfl, rfl, by decide +kernel, rfl, by decide +kernel, by decide +kernel⟩
theorem ok_has (T : Tx K mg) (D_is_integer : Df P w K mg base 1 "is_integer" ["value"] spInt) (P_top : Pf P w K mg base 1 "Sizes" "top" (spTop K)) (F : FnP K "has_level" "Sizes.has_level" (inClass (top 19) 12) f fd) :
    FnOk P w K mg base CX0 3 f fd ["self", "level"] (spHas K) := by
  refine F.ok sc_has_level (fun vs H Q E h => ?_) (fun cdv A outer s H vs Q E hr h => ⟨_, PSs.nox (pss_one (ps_ret (pe_and (pcall D_is_integer hr (pa_cons (pv 1) pa_nil)) (pe_one (pe_chain op_le op_le pe_int (pv 1) (pprop P_top hr (pv 0))))))), ?_⟩)
  · obtain ⟨p, ns, i, rfl, _⟩ := h
    rfl
  · obtain ⟨p, ns, i, rfl, hz, hi, q⟩ := h
    obtain ⟨dx, l, h1, h2⟩ := id hz
    refine ⟨_, rfl, _, rfl, true, rfl, iteT ?_⟩
    refine ⟨_, rfl, _, _, rfl, rfl, true, bT (by omega), iteT ?_⟩
    refine ⟨_, rfl, p, dx, _, rfl, h1, p, ns, rfl, hz, _, _, rfl, rfl, ?_⟩
    have e : decide ((i : Int) ≤ (ns.length : Int) - 1) = true := decide_eq_true (by omega)
    show Q (.bl (decide ((i : Int) ≤ (ns.length : Int) - 1))) H
    rw [e]
    exact q
def spCheckL (K : PySem.W.Frag) : Sp := fun vs H Q _ => ∃ (p : Addr) (ns : List Int) (i : Nat), vs = [.ref p, .int i] ∧ SzAt (He.ga K "Sizes") H p ns ∧ i < ns.length ∧ Q .non H
theorem sc_check_level : FnScope ["self", "level"] ["self", "level"] (defScope (inClass (top 19) 13)) := ⟨rfl, rfl, rfl, by decide +kernel, rfl, by decide +kernel, by decide +kernel⟩
theorem ok_check_level (T : Tx K mg) (M_has_level : Mf P w K mg base 3 "Sizes" "has_level" ["self", "level"] (spHas K)) (F : FnP K "check_level" "Sizes.check_level" (inClass (top 19) 13) f fd) :
    FnOk P w K mg base CX0 4 f fd ["self", "level"] (spCheckL K) := by
  refine F.ok sc_check_level (fun vs H Q E h => ?_) (fun cdv A outer s H vs Q E hr h => ⟨_, PSs.nox (pss_one (ps_if (pt_not (pt_val (pmeth M_has_level hr (pv 0) (pa_cons (pv 1) pa_nil)))) (pss_one ps_never) pss_nil)), ?_⟩)
  · obtain ⟨p, ns, i, rfl, _⟩ := h
    rfl
  · obtain ⟨p, ns, i, rfl, hz, hi, q⟩ := h
    obtain ⟨dx, l, h1, h2⟩ := id hz
    exact ⟨_, rfl, p, dx, _, rfl, h1, szF_no l (by decide +kernel), _, rfl, p, ns, i, rfl, hz, hi, true, rfl, iteF q⟩
def spSize (K : PySem.W.Frag) : Sp := fun vs H Q _ => ∃ (p : Addr) (ns : List Int) (i : Nat) (x : Int), vs = [.ref p, .int i] ∧ SzAt (He.ga K "Sizes") H p ns ∧ ns[i]? = some x ∧ Q (.int x) H
theorem sc_size : FnScope ["self", "level"] ["self", "level"] (defScope (inClass (top 19) 14)) := ⟨rfl, rfl, rfl, by decide +kernel, rfl, by decide +kernel, by decide +kernel⟩
theorem ok_size (T : Tx K mg) (M_check_level : Mf P w K mg base 4 "Sizes" "check_level" ["self", "level"] (spCheckL K)) (F : FnP K "size" "Sizes.size" (inClass (top 19) 14) f fd) :
    FnOk P w K mg base CX0 5 f fd ["self", "level"] (spSize K) := by
  refine F.ok sc_size (fun vs H Q E h => ?_) (fun cdv A outer s H vs Q E hr h => ⟨_, PSs.nox (pss_cons (ps_expr (pmeth M_check_level hr (pv 0) (pa_cons (pv 1) pa_nil))) (pss_one (ps_ret (pe_ix ix_list (pe_fld (pv 0) rfl) (pv 1) (fun _ _ => rfl))))), ?_⟩)
  · obtain ⟨p, ns, i, x, rfl, _⟩ := h
    rfl
  · obtain ⟨p, ns, i, x, rfl, hz, hx, q⟩ := h
    obtain ⟨dx, l, h1, h2⟩ := id hz
    refine ⟨_, rfl, p, dx, _, rfl, h1, szF_no l (by decide +kernel), _, rfl, p, ns, i, rfl, hz, (List.getElem?_eq_some_iff.mp hx).1, ?_⟩
    exact ⟨_, rfl, p, _, dx, _, _, rfl, h1, T.cl, T.nSL, szF_get l, _, rfl, l, _, _, _, rfl, rfl, SqL.of h2, at_map hx, q⟩
def spAddr : Sp := fun vs H Q _ => ∃ i : Int, vs = [.int i] ∧ 0 ≤ i ∧ Q (.bl true) H
theorem sc_is_address : FnScope ["value"] ["value"] (defScope (top 21)) := ⟨rfl, rfl, rfl, by decide +kernel, rfl, by decide +kernel, by decide +kernel⟩
theorem ok_is_address (T : Tx K mg) (D_is_integer : Df P w K mg base 1 "is_integer" ["value"] spInt) (F : FnP K "is_address" "is_address" (top 21) f fd) : FnOk P w K mg base CX0 2 f fd ["value"] spAddr := by
  refine F.ok sc_is_address (fun vs H Q E h => ?_) (fun cdv A outer s H vs Q E hr h => ⟨_, PSs.nox (pss_one (ps_ret (pe_and (pcall D_is_integer hr (pa_cons (pv 0) pa_nil)) (pe_one (pe_cmpR op_ge (pv 0) pe_int (nomark _)))))), ?_⟩)
  · obtain ⟨i, rfl, _⟩ := h
    rfl
  · obtain ⟨i, rfl, hi, q⟩ := h
    refine ⟨_, rfl, _, rfl, true, rfl, iteT ⟨_, rfl, _, _, rfl, rfl, ?_⟩⟩
    have e : decide ((0 : Int) ≤ i) = true := decide_eq_true hi
    show Q (.bl (decide ((0 : Int) ≤ i))) H
    rw [e]
    exact q
def spRange : Sp := fun vs H Q _ => ∃ a b : Int, vs = [.int a, .int b] ∧ 0 ≤ a ∧ a ≤ b ∧ Q .non H
theorem sc_check_range : FnScope ["low", "high"] ["low", "high"] (defScope (top 22)) := ⟨rfl, rfl, rfl, by decide +kernel, rfl, by decide +kernel, by decide +kernel⟩
theorem ok_check_range (T : Tx K mg) (D_is_integer : Df P w K mg base 1 "is_integer" ["value"] spInt) (D_is_address : Df P w K mg base 2 "is_address" ["value"] spAddr) (F : FnP K "check_range" "check_range" (top 22) f fd) :
    FnOk P w K mg base CX0 3 f fd ["low", "high"] spRange := by
  refine F.ok sc_check_range (fun vs H Q E h => ?_) (fun cdv A outer s H vs Q E hr h => ⟨_, PSs.nox (pss_cons (ps_if (pt_not (pt_val (pcall D_is_address hr (pa_cons (pv 0) pa_nil)))) (pss_one ps_never) pss_nil) (pss_one (ps_if (PW.pt (pw_or (pt_not (pt_val (pcall D_is_integer hr (pa_cons (pv 1) pa_nil)))) (pw_or1 (pt_cmpR op_lt (pv 1) (pv 0) (nomark _))))) (pss_one ps_never) pss_nil))), ?_⟩)
  · obtain ⟨a, b, rfl, _⟩ := h
    rfl
  · obtain ⟨a, b, rfl, ha, hb, q⟩ := h
    refine ⟨_, rfl, _, rfl, ha, true, rfl, iteF ?_⟩
    exact ⟨_, rfl, _, rfl, true, rfl, iteF ⟨_, rfl, _, rfl, _, _, rfl, rfl, false, bF (by omega), iteF q⟩⟩
/-- the least multiple of s from a on -/
def nextI (s a : Int) : Int := -(-a / s) * s
def spNext : Sp := fun vs H Q _ => ∃ s a : Int, vs = [.int s, .int a] ∧ 1 ≤ s ∧ s ≤ 1000000000 ∧ Q (.int (nextI s a)) H
theorem div_ok {i s : Int} (h1 : 1 ≤ s) (h2 : s ≤ 1000000000) : CDivW i s := wide_div (b := 64) (by omega) (by omega) (by decide) (by decide)
theorem sc_next_start : FnScope ["size", "address"] ["size", "address"] (defScope (top 23)) := ⟨rfl, rfl, rfl, by decide +kernel, rfl, by decide +kernel, by decide +kernel⟩
theorem ok_next_start (T : Tx K mg) (F : FnP K "next_start" "next_start" (top 23) f fd) : FnOk P w K mg base CX0 1 f fd ["size", "address"] spNext := by
  refine F.ok sc_next_start (fun vs H Q E h => ?_) (fun cdv A outer s H vs Q E hr h => ⟨_, PSs.nox (pss_one (ps_ret (pe_op op_mul (pe_un un_neg (pe_op op_fdivW (pe_un un_neg (pv 1)) (pv 0))) (pv 0)))), ?_⟩)
  · obtain ⟨s, a, rfl, _⟩ := h
    rfl
  · obtain ⟨s, a, rfl, h1, h2, q⟩ := h
    exact ⟨_, rfl, _, rfl, _, rfl, _, _, rfl, rfl, div_ok h1 h2, _, rfl, _, rfl, _, _, rfl, rfl, .inr ⟨by omega, by omega⟩, q⟩
def spStart (K : PySem.W.Frag) : Sp := fun vs H Q _ => ∃ (p : Addr) (ns : List Int) (i : Nat) (x a : Int), vs = [.ref p, .int i, .int a] ∧ SzAt (He.ga K "Sizes") H p ns ∧ ns[i]? = some x ∧ 1 ≤ x ∧ 0 ≤ a ∧ Q (.int (a - a % x)) H
theorem sc_region_start : FnScope ["sizes", "level", "address", "size"] ["sizes", "level", "address"] (defScope (top 27)) := ⟨rfl, rfl, rfl, by decide +kernel, rfl, by decide +kernel, by decide +kernel⟩
theorem ok_region_start (T : Tx K mg) (D_is_address : Df P w K mg base 2 "is_address" ["value"] spAddr) (M_size : Mf P w K mg base 5 "Sizes" "size" ["self", "level"] (spSize K)) (F : FnP K "region_start" "region_start" (top 27) f fd) :
    FnOk P w K mg base CX0 6 f fd ["sizes", "level", "address"] (spStart K) := by
  refine F.ok sc_region_start (fun vs H Q E h => ?_) (fun cdv A outer s H vs Q E hr h => ⟨_, PSs.nox (pss_cons (ps_set (i := 3) sc_region_start.nd rfl (by first | exact Or.inl rfl | exact Or.inr rfl) (pmeth M_size hr (pv 0) (pa_cons (pv 1) pa_nil))) (pss_cons (ps_if (pt_not (pt_val (pcall D_is_address hr (pa_cons (pv 2) pa_nil)))) (pss_one ps_never) pss_nil) (pss_one (ps_ret (pe_op op_sub (pv 2) (pe_op op_mod (pv 2) (pv 3))))))), ?_⟩)
  · obtain ⟨p, ns, i, x, a, rfl, _⟩ := h
    rfl
  · obtain ⟨p, ns, i, x, a, rfl, hz, hx, x1, ha, q⟩ := h
    obtain ⟨dx, l, h1, h2⟩ := id hz
    refine ⟨_, rfl, p, dx, _, rfl, h1, szF_no l (by decide +kernel), _, rfl, p, ns, i, x, rfl, hz, hx, ?_⟩
    refine ⟨_, rfl, _, rfl, ha, true, rfl, iteF ?_⟩
    exact ⟨_, rfl, _, rfl, _, rfl, _, _, rfl, rfl, (by show (0 : Int) < x; omega), _, _, rfl, rfl, q⟩
/-- what count_regions reckons -/
def cntI (s lo hi : Int) : Int := if ((hi - hi % s) - nextI s lo) / s > 0 then ((hi - hi % s) - nextI s lo) / s else 0
def spCount (K : PySem.W.Frag) : Sp := fun vs H Q _ => ∃ (p : Addr) (ns : List Int) (i : Nat) (x a b : Int), vs = [.ref p, .int i, .int a, .int b] ∧ SzAt (He.ga K "Sizes") H p ns ∧ ns[i]? = some x ∧ 1 ≤ x ∧ x ≤ 1000000000 ∧ 0 ≤ a ∧ a ≤ b ∧ Q (.int (cntI x a b)) H
theorem sc_count_regions : FnScope ["sizes", "level", "low", "high", "size"] ["sizes", "level", "low", "high"] (defScope (top 28)) := ⟨rfl, rfl, rfl, by decide +kernel, rfl, by decide +kernel, by decide +kernel⟩
theorem ok_count_regions (T : Tx K mg) (D_check_range : Df P w K mg base 3 "check_range" ["low", "high"] spRange) (D_region_start : Df P w K mg base 6 "region_start" ["sizes", "level", "address"] (spStart K))
    (D_next_start : Df P w K mg base 1 "next_start" ["size", "address"] spNext) (M_size : Mf P w K mg base 5 "Sizes" "size" ["self", "level"] (spSize K)) (F : FnP K "count_regions" "count_regions" (top 28) f fd) :
    FnOk P w K mg base CX0 7 f fd ["sizes", "level", "low", "high"] (spCount K) := by
  refine F.ok sc_count_regions (fun vs H Q E h => ?_) (fun cdv A outer s H vs Q E hr h => ⟨_, PSs.nox (pss_cons (ps_set (i := 4) sc_count_regions.nd rfl (by first | exact Or.inl rfl | exact Or.inr rfl) (pmeth M_size hr (pv 0) (pa_cons (pv 1) pa_nil))) (pss_cons (ps_expr (pcall D_check_range hr (pa_cons (pv 2) (pa_cons (pv 3) pa_nil)))) (pss_one (ps_ret (pe_callB (call_max2 rfl) (by rfl) T.n_max (by decide +kernel) (pa_cons pe_int (pa_cons (pe_op op_fdivW (pe_op op_sub (pcall D_region_start hr (pa_cons (pv 0) (pa_cons (pv 1) (pa_cons (pv 3) pa_nil)))) (pcall D_next_start hr (pa_cons (pv 4) (pa_cons (pv 2) pa_nil)))) (pv 4)) pa_nil))))))), ?_⟩)
  · obtain ⟨p, ns, i, x, a, b, rfl, _⟩ := h
    rfl
  · obtain ⟨p, ns, i, x, a, b, rfl, hz, hx, x1, x2, ha, hb, q⟩ := h
    obtain ⟨dx, l, h1, h2⟩ := id hz
    refine ⟨_, rfl, p, dx, _, rfl, h1, szF_no l (by decide +kernel), _, rfl, p, ns, i, x, rfl, hz, hx, ?_⟩
    refine ⟨_, rfl, _, rfl, a, b, rfl, ha, hb, ?_⟩
    refine ⟨_, rfl, _, rfl, _, rfl, p, ns, i, x, b, rfl, hz, hx, x1, by omega, _, rfl, _, rfl, x, a, rfl, x1, x2, _, _, rfl, rfl, _, rfl, _, _, rfl, rfl, div_ok x1 x2, _, _, rfl, ?_⟩
    exact q
end
end K35

set_option linter.all false
/-! The mathematics of counted regions. -/
namespace M15
theorem div_is {x s q r : Int} (h : x = s * q + r) (h0 : 0 ≤ r) (h1 : r < s) : x / s = q := by
  have e : r + s * q = x := by rw [h, Int.add_comm]
  exact ((Int.ediv_emod_unique (by omega)).mpr ⟨e, h0, h1⟩).1
/-- the number of multiples below x, rounded up -/
def C (s x : Int) : Int := (x + s - 1) / s
theorem parts (s x : Int) (h : 1 ≤ s) : x = s * (x / s) + x % s ∧ 0 ≤ x % s ∧ x % s < s :=
  ⟨(Int.mul_ediv_add_emod x s).symm, Int.emod_nonneg _ (by omega), Int.emod_lt_of_pos _ (by omega)⟩
theorem C_of {s x q r : Int} (hs : 1 ≤ s) (h : x = s * q + r) (h0 : 0 ≤ r) (h1 : r < s) : C s x = if r = 0 then q else q + 1 := by
  unfold C
  by_cases z : r = 0
  · rw [if_pos z]
    exact div_is (r := s - 1) (by omega) (by omega) (by omega)
  · rw [if_neg z]
    refine div_is (r := r - 1) ?_ (by omega) (by omega)
    have e : s * (q + 1) = s * q + s := by rw [Int.mul_add, Int.mul_one]
    omega
theorem C_step {s x : Int} (hs : 1 ≤ s) : C s (x + 1) = C s x + (if x % s = 0 then 1 else 0) := by
  obtain ⟨e, h0, h1⟩ := parts s x hs
  have a : C s (x + 1) = x / s + 1 := by
    unfold C
    have e2 : s * (x / s + 1) = s * (x / s) + s := by rw [Int.mul_add, Int.mul_one]
    exact div_is (r := x % s) (by omega) h0 h1
  rw [a, C_of hs e h0 h1]
  by_cases z : x % s = 0
  · rw [if_pos z, if_pos z]
  · rw [if_neg z, if_neg z]
    omega
theorem C_mono {s : Int} (hs : 1 ≤ s) (x : Int) (n : Nat) : C s x ≤ C s (x + n) := by
  induction n with
  | zero => simp
  | succ n ih =>
    have e := C_step (s := s) (x := x + n) hs
    rw [show x + ((n + 1 : Nat) : Int) = x + n + 1 by omega, e]
    split <;> omega
theorem C_le {s : Int} (hs : 1 ≤ s) {x y : Int} (h : x ≤ y) : C s x ≤ C s y := by
  have e := C_mono hs x (y - x).toNat
  rw [show x + (((y - x).toNat : Nat) : Int) = y by omega] at e
  exact e
/-- how many of the first n addresses from b on begin a region that ends by e -/
def cnt (s b e : Int) : Nat → Nat
  | 0 => 0
  | n + 1 => cnt s b e n + if (b + n) % s = 0 ∧ b + n + s ≤ e then 1 else 0
theorem cnt_is {s b e : Int} (hs : 1 ≤ s) : ∀ n : Nat, ((cnt s b e n : Nat) : Int) = if C s (min (b + n) (e - s + 1)) > C s b then C s (min (b + n) (e - s + 1)) - C s b else 0
  | 0 => by
    have h : C s (min (b + (0 : Nat)) (e - s + 1)) ≤ C s b := C_le hs (by omega)
    rw [if_neg (by omega)]
    rfl
  | n + 1 => by
    have ih := cnt_is (s := s) (b := b) (e := e) hs n
    show (((cnt s b e n + if (b + n) % s = 0 ∧ b + n + s ≤ e then 1 else 0 : Nat)) : Int) = _
    by_cases hb : b + n + s ≤ e
    · rw [show min (b + ((n + 1 : Nat) : Int)) (e - s + 1) = b + n + 1 by omega, C_step hs]
      rw [show min (b + (n : Int)) (e - s + 1) = b + n by omega] at ih
      have m := C_mono hs b n
      by_cases z : (b + n) % s = 0
      · rw [if_pos ⟨z, hb⟩, if_pos z]
        split at ih <;> split <;> omega
      · rw [if_neg (fun q => z q.1), if_neg z]
        split at ih <;> split <;> omega
    · rw [if_neg (fun q => hb q.2)]
      rw [show min (b + ((n + 1 : Nat) : Int)) (e - s + 1) = e - s + 1 by omega]
      rw [show min (b + (n : Int)) (e - s + 1) = e - s + 1 by omega] at ih
      omega
/-- the greatest of 0 and the difference -/
def cntM (s b e : Int) : Int := if e / s - C s b > 0 then e / s - C s b else 0
theorem C_end {s e : Int} : C s (e - s + 1) = e / s := by
  unfold C
  rw [show e - s + 1 + s - 1 = e by omega]
theorem cnt_all {s b e : Int} (hs : 1 ≤ s) (hb : b ≤ e) : ((cnt s b e (e - b).toNat : Nat) : Int) = cntM s b e := by
  rw [cnt_is hs, show min (b + (((e - b).toNat : Nat) : Int)) (e - s + 1) = e - s + 1 by omega, C_end]
  unfold cntM
  split <;> split <;> omega
theorem up_is {s a : Int} (hs : 1 ≤ s) : -(-a / s) = C s a := by
  obtain ⟨e, h0, h1⟩ := parts s a hs
  rw [C_of hs e h0 h1]
  by_cases z : a % s = 0
  · rw [if_pos z]
    have : -a / s = -(a / s) := div_is (r := 0) (by rw [Int.mul_neg]; omega) (by omega) (by omega)
    omega
  · rw [if_neg z]
    have e2 : s * (-(a / s) - 1) = -(s * (a / s)) - s := by rw [Int.mul_sub, Int.mul_neg, Int.mul_one]
    have : -a / s = -(a / s) - 1 := div_is (r := s - a % s) (by omega) (by omega) (by omega)
    omega
theorem quot_is {s a e : Int} (hs : 1 ≤ s) : ((e - e % s) - -(-a / s) * s) / s = e / s - C s a := by
  obtain ⟨h, h0, h1⟩ := parts s e hs
  rw [up_is hs]
  refine div_is (r := 0) ?_ (by omega) (by omega)
  have x1 : C s a * s = s * C s a := Int.mul_comm _ _
  have x2 : s * (e / s - C s a) = s * (e / s) - s * C s a := Int.mul_sub _ _ _
  omega
/-- a region across the cut -/
theorem across {s b c e : Int} (hs : 1 ≤ s) (h1 : b ≤ c) (h2 : c ≤ e) :
    cntM s b c + cntM s c e + (if b ≤ c - c % s ∧ c - c % s < c ∧ c - c % s + s ≤ e ∧ c % s ≠ 0 then 1 else 0) = cntM s b e := by
  obtain ⟨ec, c0, c1⟩ := parts s c hs
  obtain ⟨ee, e0, e1⟩ := parts s e hs
  obtain ⟨eb, b0, b1⟩ := parts s b hs
  have hCc := C_of hs ec c0 c1
  have hCb := C_of hs eb b0 b1
  have m1 : C s b ≤ C s c := C_le hs h1
  have m2 : c / s ≤ e / s := Int.ediv_le_ediv (by omega) h2
  have m3 : b / s ≤ c / s := Int.ediv_le_ediv (by omega) h1
  unfold cntM
  -- quotients: qb qc qe
  generalize hqb : b / s = qb at *
  generalize hqc : c / s = qc at *
  generalize hqe : e / s = qe at *
  have k1 : b ≤ c - c % s ↔ C s b ≤ qc := by
    have t : c - c % s = s * qc := by omega
    rw [t, hCb]
    constructor
    · intro h
      by_cases z : b % s = 0
      · rw [if_pos z]
        exact m3
      · rw [if_neg z]
        refine Int.not_lt.mp fun hn => ?_
        have : qc = qb := by omega
        rw [this] at h
        omega
    · intro h
      by_cases z : b % s = 0
      · rw [if_pos z] at h
        have := Int.mul_le_mul_of_nonneg_left h (show (0 : Int) ≤ s by omega)
        omega
      · rw [if_neg z] at h
        have := Int.mul_le_mul_of_nonneg_left h (show (0 : Int) ≤ s by omega)
        rw [Int.mul_add, Int.mul_one] at this
        omega
  have k2 : c - c % s + s ≤ e ↔ qc + 1 ≤ qe := by
    have t : c - c % s + s = s * (qc + 1) := by rw [Int.mul_add, Int.mul_one]; omega
    rw [t]
    constructor
    · intro h
      refine Int.not_lt.mp fun hn => ?_
      have := Int.mul_le_mul_of_nonneg_left (show qe ≤ qc by omega) (show (0 : Int) ≤ s by omega)
      have : s * (qc + 1) = s * qc + s := by rw [Int.mul_add, Int.mul_one]
      omega
    · intro h
      have := Int.mul_le_mul_of_nonneg_left h (show (0 : Int) ≤ s by omega)
      omega
  have hI : (if b ≤ c - c % s ∧ c - c % s < c ∧ c - c % s + s ≤ e ∧ c % s ≠ 0 then (1 : Int) else 0) = if c % s ≠ 0 ∧ C s b ≤ qc ∧ qc + 1 ≤ qe then 1 else 0 := by
    by_cases y : c % s ≠ 0 ∧ C s b ≤ qc ∧ qc + 1 ≤ qe
    · rw [if_pos y, if_pos ⟨k1.mpr y.2.1, by omega, k2.mpr y.2.2, y.1⟩]
    · rw [if_neg y, if_neg fun q => y ⟨q.2.2.2, k1.mp q.1, k2.mp q.2.2.1⟩]
  rw [hI]
  have hc3 : C s c = qc ∧ c % s = 0 ∨ C s c = qc + 1 ∧ c % s ≠ 0 := by
    by_cases z : c % s = 0
    · rw [if_pos z] at hCc
      exact .inl ⟨hCc, z⟩
    · rw [if_neg z] at hCc
      exact .inr ⟨hCc, z⟩
  clear hCc hCb k1 k2 hI
  generalize C s b = cb at *
  generalize C s c = cc at *
  rcases hc3 with ⟨rfl, z⟩ | ⟨rfl, z⟩
  · rw [if_neg (c := c % s ≠ 0 ∧ cb ≤ cc ∧ cc + 1 ≤ qe) fun q => q.1 z]
    split <;> split <;> split <;> omega
  · by_cases y : cb ≤ qc ∧ qc + 1 ≤ qe
    · rw [if_pos (c := c % s ≠ 0 ∧ cb ≤ qc ∧ qc + 1 ≤ qe) ⟨z, y.1, y.2⟩]
      split <;> split <;> split <;> omega
    · rw [if_neg (c := c % s ≠ 0 ∧ cb ≤ qc ∧ qc + 1 ≤ qe) fun q => y q.2]
      split <;> split <;> split <;> omega
end M15

set_option Elab.async false
set_option linter.all false
set_option maxRecDepth 100000
set_option maxHeartbeats 4000000
namespace K35
open PySem PySem.Spec PyProof.Rows L2 Gu Ex
/-- the drawing list at r -/
def Rng (H : Hp) (r : Addr) : Prop := ∃ a b : Int, H r = some (.lst [.int a, .int b]) ∧ 0 ≤ a ∧ 0 ≤ b ∧ b < 2147483587
/-- only the drawing list at r may have changed -/
def Stp (r : Addr) (H H' : Hp) : Prop := Rng H' r ∧ ∀ b o, b ≠ r → H b = some o → H' b = some o
theorem Stp.trans {r : Addr} {H H1 H2 : Hp} (a : Stp r H H1) (b : Stp r H1 H2) : Stp r H H2 := ⟨b.1, fun c o n e => b.2 c o n (a.2 c o n e)⟩
theorem Stp.refl {r : Addr} {H : Hp} (h : Rng H r) : Stp r H H := ⟨h, fun _ _ _ e => e⟩
/-- the ways of a choice come together: what holds of every value -/
theorem join {α : Type} {G : Prop} (Pc : α → Prop) {R : α → Prop} (h1 : (∀ c, Pc c → R c) → G) (h2 : ∀ c, Pc c → R c) : G := h1 h2
theorem Rng.ne {H : Hp} {r p : Addr} (h : Rng H r) (hp : H p = none) : r ≠ p := fun z => by
  obtain ⟨_, _, e, _⟩ := h
  rw [z, hp] at e
  cases e
theorem Stp.new {r p : Addr} {H H1 : Hp} {o : HO} (a : Stp r H H1) (hp : H1 p = none) : Stp r H (upd H1 p o) := by
  obtain ⟨⟨x, y, e, z⟩, k⟩ := a
  refine ⟨⟨x, y, ?_, z⟩, fun b u n e2 => ?_⟩
  · rw [upd_ne (ne_of_none e hp)]
    exact e
  · rw [upd_ne (ne_of_none (k b u n e2) hp)]
    exact k b u n e2
theorem Stp.free {r p : Addr} {H H1 : Hp} (a : Stp r H H1) (h : H1 p = none) : H p = none := by
  cases e : H p with
  | none => rfl
  | some o =>
    have n : p ≠ r := fun z => (a.1.ne h) z.symm
    rw [a.2 p o n e] at h
    cases h
section
variable {P : Program} {w : World} {K : PySem.W.Frag} {mg : Str → Option Value} {base : Heap} {f : Addr} {fd : FuncData}
def spRng (K : PySem.W.Frag) : Sp := fun vs H Q _ => ∃ (a : Addr) (ns : List Int) (k : Nat), vs = [.ref a, .int k] ∧ SqL K H a (ns.map V.int) ∧ k ≤ 63 ∧ ∀ p H', H p = none → Same H H' → Rng H' p → Q (.ref p) H'
theorem sc__law_rng : FnScope ["_law_script", "_law_k", "_law_cell"] ["_law_script", "_law_k"] (defScope (top 43)) := ⟨rfl, rfl, rfl, by decide +kernel, rfl, by decide +kernel, by decide +kernel⟩
theorem ok_rng (T : Tx K mg) (F : FnP K "_law_rng" "_law_rng" (top 43) f fd) : FnOk P w K mg base CX0 1 f fd ["_law_script", "_law_k"] (spRng K) := by
  refine F.ok sc__law_rng (fun vs H Q E h => ?_) (fun cdv A outer s H vs Q E hr h => ⟨_, PSs.nox (pss_cons (ps_set (i := 2) sc__law_rng.nd rfl (by first | exact Or.inl rfl | exact Or.inr rfl) (pe_ifExp (pt_cmpR op_lt (pv 1) (pe_callB call_len_seq (by rfl) T.n_len (by decide +kernel) (pa_cons (pv 0) pa_nil)) (nomark _)) (pe_callB call_abs (by rfl) T.n_abs (by decide +kernel) (pa_cons (pe_ix ix_list (pv 0) (pv 1) (fun _ _ => rfl)) pa_nil)) pe_int)) (pss_one (ps_ret (pe_lst (pa_cons (pe_callB (call_max2 rfl) (by rfl) T.n_max (by decide +kernel) (pa_cons pe_int (pa_cons (pe_op op_sub (pv 2) (pe_op op_pow pe_int pe_int)) pa_nil))) (pa_cons (pe_op op_add (pe_op op_mod (pe_op op_pow (pe_op op_add (pe_op op_add (pe_op op_mod (pv 2) pe_int) (pe_op op_mul pe_int (pv 1))) pe_int) pe_int) pe_int) pe_int) pa_nil)))))), ?_⟩)
  · obtain ⟨a, ns, k, rfl, _⟩ := h
    rfl
  · obtain ⟨a, ns, k, rfl, hS, hk, q⟩ := h
    refine join (fun c : Int => 0 ≤ c) (R := ?R) (fun tail => ?main) ?tl
    case main =>
      refine ⟨_, rfl, _, rfl, a, _, rfl, .inl hS, _, _, rfl, rfl, _, rfl, ?_⟩
      by_cases hl : (k : Int) < (((ns.map V.int).length : Nat) : Int)
      · have hk2 : k < ns.length := by rw [List.length_map] at hl; omega
        refine ifT (decide_eq_true hl) ?_
        refine ⟨_, rfl, _, rfl, a, _, _, _, rfl, rfl, hS, at_map (List.getElem?_eq_getElem hk2), _, rfl, ?_⟩
        obtain ⟨c, hc, ec⟩ : ∃ c : Int, 0 ≤ c ∧ (if ns[k] < 0 then -ns[k] else ns[k]) = c := ⟨if ns[k] < 0 then -ns[k] else ns[k], by split <;> omega, rfl⟩
        rw [ec]
        exact tail c hc
      · refine ifF (decide_eq_false hl) ?_
        exact tail 0 (by decide)
    case tl =>
      intro c hc
      have c0 := Int.emod_nonneg c (show (2147483543 : Int) ≠ 0 by decide)
      have c1 := Int.emod_lt_of_pos c (show (0 : Int) < 2147483543 by decide)
      refine ⟨_, rfl, _, _, rfl, rfl, ⟨by decide, by decide, by decide⟩, _, _, rfl, rfl, _, _, rfl, ?_⟩
      refine ⟨_, rfl, _, _, rfl, rfl, (by show (0 : Int) < 2147483543; decide), _, rfl, _, _, rfl, rfl, .inl ⟨by decide, by decide⟩, _, _, rfl, rfl, _, _, rfl, rfl, _, _, rfl, rfl, ⟨by decide, by decide, by omega⟩, _, _, rfl, rfl, (by show (0 : Int) < 2147483497; decide), _, _, rfl, rfl, ?_⟩
      refine ⟨(by show 2 ≤ sizeLine; decide), fun p hp => q p _ hp (fun b o e => by rw [upd_ne (ne_of_none e hp)]; exact e) ⟨_, _, upd_same, ?_, ?_, ?_⟩⟩
      · split <;> omega
      · have := Int.emod_nonneg ((c % 2147483543 + 101 * (k : Int) + 7) ^ (2 : Int).toNat) (show (2147483497 : Int) ≠ 0 by decide)
        omega
      · have := Int.emod_lt_of_pos ((c % 2147483543 + 101 * (k : Int) + 7) ^ (2 : Int).toNat) (show (0 : Int) < 2147483497 by decide)
        omega
def spDraw : Sp := fun vs H Q _ => ∃ (r : Addr) (m : Int), vs = [.ref r, .int m] ∧ Rng H r ∧ 1 ≤ m ∧ m ≤ 10 ^ 40 ∧ ∀ d H', 0 ≤ d → d < m → Stp r H H' → Q (.int d) H'
theorem sc__law_draw : FnScope ["_law_rng_here", "_law_many", "_law_mixed", "_law_digit"] ["_law_rng_here", "_law_many"] (defScope (top 44)) := ⟨rfl, rfl, rfl, by decide +kernel, rfl, by decide +kernel, by decide +kernel⟩
theorem ok_draw (T : Tx K mg) (F : FnP K "_law_draw" "_law_draw" (top 44) f fd) : FnOk P w K mg base CX0 1 f fd ["_law_rng_here", "_law_many"] spDraw := by
  refine F.ok sc__law_draw (fun vs H Q E h => ?_) (fun cdv A outer s H vs Q E hr h => ⟨_, PSs.nox (pss_cons (ps_if (pt_cmpR op_gt (pe_ix ix_list (pv 0) pe_int (fun _ _ => rfl)) pe_int (nomark _)) (pss_cons (ps_asg (pe_callB call_divmodW (by rfl) T.n_divmod (by decide +kernel) (pa_cons (pe_ix ix_list (pv 0) pe_int (fun _ _ => rfl)) (pa_cons (pv 1) pa_nil))) (pg_tup (by rfl) (pgs_cons (pg_sub (pv 0) pe_int set_list) (pgs_cons (pg_name (i := 3) sc__law_draw.nd rfl (by first | exact Or.inl rfl | exact Or.inr rfl)) pgs_nil)))) (pss_one (ps_ret (pv 3)))) pss_nil) (pss_cons (ps_asg (pe_op op_mod (pe_op op_add (pe_op op_mul (pe_ix ix_list (pv 0) pe_int (fun _ _ => rfl)) pe_int) pe_int) pe_int) (pg_sub (pv 0) pe_int set_list)) (pss_cons (ps_set (i := 2) sc__law_draw.nd rfl (by first | exact Or.inl rfl | exact Or.inr rfl) (pe_op op_fdivW (pe_op op_mod (pe_op op_mul (pe_ix ix_list (pv 0) pe_int (fun _ _ => rfl)) (pe_ix ix_list (pv 0) pe_int (fun _ _ => rfl))) pe_int) pe_int)) (pss_one (ps_ret (pe_ifExp (pt_cmpR op_lt (pv 1) (pe_op op_pow pe_int pe_int) (nomark _)) (pe_op op_mod (pv 2) (pv 1)) (pe_op op_mod (pe_op op_mul (pe_op op_add (pe_op op_mul (pv 2) pe_int) (pe_ix ix_list (pv 0) pe_int (fun _ _ => rfl))) pe_int) (pv 1)))))))), ?_⟩)
  · obtain ⟨r, m, rfl, _⟩ := h
    rfl
  · obtain ⟨r, m, rfl, ⟨a, b, hR, ha, hb, hb2⟩, m1, m2, q⟩ := h
    have mb : m.natAbs < 2 ^ 200 := by
      have : (10 : Int) ^ 40 < 2 ^ 200 := by decide
      have e : ((2 : Nat) ^ 200 : Nat) = ((2 : Int) ^ 200).natAbs := by decide
      omega
    refine ⟨_, rfl, r, _, _, _, rfl, rfl, SqL.of hR, rfl, _, _, rfl, rfl, _, rfl, ?_⟩
    by_cases h0 : 0 < a
    · refine ifT (decide_eq_true h0) ?_
      refine ⟨_, rfl, r, _, _, _, rfl, rfl, SqL.of hR, rfl, _, rfl, _, _, rfl, ⟨by omega, PyProof.noPylong_of_log2 (Nat.lt_of_lt_of_le (PySem.Flt.log2_lt_of (by decide) mb) (by decide))⟩, fun p hp => ?_⟩
      have nrp : r ≠ p := ne_of_none hR hp
      have hR2 : (upd H p (.tup [.int (a / m), .int (a % m)])) r = some (.lst [.int a, .int b]) := by rw [upd_ne nrp]; exact hR
      refine ⟨p, _, rfl, .inl (.inl upd_same), rfl, _, _, rfl, _, rfl, r, _, _, 0, rfl, rfl, hR2, rfl, _, _, rfl, rfl, ?_⟩
      refine ⟨_, rfl, q _ _ (Int.emod_nonneg _ (by omega)) (Int.emod_lt_of_pos _ (by omega)) ⟨⟨a / m, b, upd_same, Int.ediv_nonneg (by omega) (by omega), hb, hb2⟩, fun c o n e => ?_⟩⟩
      rw [upd_ne n, upd_ne (ne_of_none e hp)]
      exact e
    · refine ifF (decide_eq_false h0) ?_
      have b0 := Int.emod_nonneg (b * 48271 + 10007) (show (2147483587 : Int) ≠ 0 by decide)
      have b1 := Int.emod_lt_of_pos (b * 48271 + 10007) (show (0 : Int) < 2147483587 by decide)
      refine ⟨_, rfl, r, _, _, _, rfl, rfl, SqL.of hR, rfl, _, _, rfl, rfl, .inr ⟨by decide, by decide⟩, _, _, rfl, rfl, _, _, rfl, rfl, (by show (0 : Int) < 2147483587; decide), _, rfl, r, _, _, 1, rfl, rfl, hR, rfl, ?_⟩
      dsimp only
      generalize hB : (b * 48271 + 10007) % 2147483587 = B at *
      have hR2 : (upd H r (.lst [.int a, .int B])) r = some (.lst [.int a, .int B]) := upd_same
      have st : Stp r H (upd H r (.lst [.int a, .int B])) := ⟨⟨a, B, upd_same, ha, b0, b1⟩, fun c o n e => by rw [upd_ne n]; exact e⟩
      refine ⟨_, rfl, r, _, _, _, rfl, rfl, SqL.of hR2, rfl, _, rfl, r, _, _, _, rfl, rfl, SqL.of hR2, rfl, _, _, rfl, rfl, .inl ⟨by omega, by omega⟩, _, _, rfl, rfl, (by show (0 : Int) < 2147483549; decide), _, _, rfl, rfl, wide_div (b := 64) (by decide) (by decide) (by decide) (by decide), ?_⟩
      refine ⟨_, rfl, _, _, rfl, rfl, ⟨by decide, by decide, by decide⟩, _, _, rfl, rfl, _, rfl, ite2 (fun _ => ?_) (fun _ => ?_)⟩
      · exact ⟨_, rfl, _, rfl, _, _, rfl, rfl, (by show (0 : Int) < m; omega), q _ _ (Int.emod_nonneg _ (by omega)) (Int.emod_lt_of_pos _ (by omega)) st⟩
      · refine ⟨_, rfl, _, _, rfl, rfl, .inr ⟨by decide, by decide⟩, _, rfl, r, _, _, _, rfl, rfl, SqL.of hR2, rfl, _, _, rfl, rfl, _, _, rfl, rfl, .inr ⟨by decide, by decide⟩, _, rfl, _, _, rfl, rfl, (by show (0 : Int) < m; omega), ?_⟩
        exact q _ _ (Int.emod_nonneg _ (by omega)) (Int.emod_lt_of_pos _ (by omega)) st
end
end K35

set_option Elab.async false
set_option linter.all false
set_option maxRecDepth 100000
set_option maxHeartbeats 4000000
namespace K35
open PySem PySem.Spec PyProof.Rows L2 Gu Ex
section
variable {P : Program} {w : World} {K : PySem.W.Frag} {mg : Str → Option Value} {base : Heap} {f : Addr} {fd : FuncData}
theorem at_of {xs : List V} {d : Int} (h0 : 0 ≤ d) (h1 : d < xs.length) : ∃ v, atI xs d = some v ∧ v ∈ xs := by
  obtain ⟨n, rfl⟩ := Int.eq_ofNat_of_zero_le h0
  have hn : n < xs.length := by omega
  exact ⟨xs[n], atI_nat (List.getElem?_eq_getElem hn), List.getElem_mem hn⟩
def spChoice : Sp := fun vs H Q _ => ∃ (r o : Addr) (xs : List V), vs = [.ref r, .ref o] ∧ Rng H r ∧ H o = some (.lst xs) ∧ o ≠ r ∧ 1 ≤ xs.length ∧ xs.length ≤ 1000 ∧ ∀ v H', v ∈ xs → Stp r H H' → Q v H'
theorem sc__law_choice : FnScope ["_law_rng_here", "_law_options"] ["_law_rng_here", "_law_options"] (defScope (top 45)) := ⟨rfl, rfl, rfl, by decide +kernel, rfl, by decide +kernel, by decide +kernel⟩
theorem ok_choice (T : Tx K mg) (D__law_draw : Df P w K mg base 1 "_law_draw" ["_law_rng_here", "_law_many"] spDraw) (F : FnP K "_law_choice" "_law_choice" (top 45) f fd) : FnOk P w K mg base CX0 2 f fd ["_law_rng_here", "_law_options"] spChoice := by
  refine F.ok sc__law_choice (fun vs H Q E h => ?_) (fun cdv A outer s H vs Q E hr h => ⟨_, PSs.nox (pss_one (ps_ret (pe_ix ix_list (pv 1) (pcall D__law_draw hr (pa_cons (pv 0) (pa_cons (pe_callB call_len_seq (by rfl) T.n_len (by decide +kernel) (pa_cons (pv 1) pa_nil)) pa_nil))) (fun _ _ => rfl)))), ?_⟩)
  · obtain ⟨r, o, xs, rfl, _⟩ := h
    rfl
  · obtain ⟨r, o, xs, rfl, hR, hO, ne, l1, l2, q⟩ := h
    refine ⟨_, rfl, _, rfl, _, rfl, o, _, rfl, .inl (SqL.of hO), r, _, rfl, hR, by omega, ?_, fun d H1 d0 d1 st => ?_⟩
    · have : (1000 : Int) ≤ 10 ^ 40 := by decide
      omega
    · obtain ⟨v, hv, hm⟩ := at_of d0 d1
      exact ⟨o, _, _, v, rfl, rfl, SqL.of (st.2 o _ ne hO), hv, q v H1 hm st⟩
theorem good_one : Good [1] := ⟨⟨by decide, by decide⟩, rfl, fun i x h => by
    cases i with
    | zero => cases h; decide
    | succ i => simp at h, fun i x y h1 h2 => by
    cases i with
    | zero => simp at h2
    | succ i => simp at h1⟩
theorem good_more {ns : List Int} {x k : Int} (g : Good ns) (hl : ns.length < 8) (hx : ns[ns.length - 1]? = some x) (hk : 2 ≤ k) (hm : x * k ≤ 1000000000) : Good (ns ++ [x * k]) := by
  have l := g.len
  have xr := g.rng _ _ hx
  have gt : x < x * k := by
    have := Int.mul_le_mul_of_nonneg_left hk (show (0 : Int) ≤ x by omega)
    omega
  refine ⟨⟨by rw [List.length_append, List.length_singleton]; omega, by rw [List.length_append, List.length_singleton]; omega⟩, ?_, fun i y h => ?_, fun i y z h1 h2 => ?_⟩
  · rw [List.getElem?_append_left (by omega)]
    exact g.one
  · by_cases hi : i < ns.length
    · rw [List.getElem?_append_left hi] at h
      exact g.rng i y h
    · rw [List.getElem?_append_right (by omega)] at h
      have hi2 : i - ns.length = 0 := by
        cases e : i - ns.length with
        | zero => rfl
        | succ n => rw [e] at h; simp at h
      rw [hi2] at h
      have e : x * k = y := Option.some.inj h
      omega
  · by_cases hi : i + 1 < ns.length
    · rw [List.getElem?_append_left hi] at h2
      rw [List.getElem?_append_left (by omega)] at h1
      exact g.up i y z h1 h2
    · by_cases hi2 : i + 1 = ns.length
      · rw [List.getElem?_append_left (by omega)] at h1
        rw [List.getElem?_append_right (by omega), hi2, Nat.sub_self] at h2
        have e : x * k = z := Option.some.inj h2
        rw [show i = ns.length - 1 by omega, hx] at h1
        have e2 : x = y := Option.some.inj h1
        rw [← e, ← e2]
        exact ⟨gt, Int.mul_emod_right x k⟩
      · rw [List.getElem?_append_right (by omega)] at h2
        cases e : i + 1 - ns.length with
        | zero => omega
        | succ n => rw [e] at h2; simp at h2
def spSizes : Sp := fun vs H Q _ => ∃ (r : Addr) (lv gr : Int), vs = [.ref r, .int lv, .int gr] ∧ Rng H r ∧ 1 ≤ lv ∧ lv ≤ 8 ∧ 2 ≤ gr ∧ gr ≤ 1000000 ∧
  ∀ l ns H', Good ns → H l = none → H' l = some (.lst (ns.map V.int)) → Stp r H H' → Q (.ref l) H'
theorem at_last (ys : List Int) (x : Int) : atI ((ys ++ [x]).map V.int) (-1) = some (.int x) := by
  rw [List.map_append]
  exact atI_last _ _
theorem last_of : ∀ {ns : List Int}, 1 ≤ ns.length → ∃ ys x, ns = ys ++ [x]
  | [], h => absurd h (by decide)
  | [x], _ => ⟨[], x, rfl⟩
  | a :: b :: r, _ => by
    obtain ⟨ys, x, e⟩ := last_of (ns := b :: r) (by simp)
    exact ⟨a :: ys, x, by rw [e]; rfl⟩
theorem last_get (ys : List Int) (x : Int) : (ys ++ [x])[(ys ++ [x]).length - 1]? = some x := by
  rw [List.length_append, List.length_singleton, Nat.add_sub_cancel, List.getElem?_append_right (Nat.le_refl _), Nat.sub_self]
  rfl
theorem sc__law_sizes : FnScope ["_law_rng_here", "_law_levels", "_law_greatest", "_law_result", "_law_k", "_law_factor"] ["_law_rng_here", "_law_levels", "_law_greatest"] (defScope (top 47)) := ⟨rfl, rfl, rfl, by decide +kernel, rfl, by decide +kernel, by decide +kernel⟩
theorem ok_sizes (T : Tx K mg) (D__law_draw : Df P w K mg base 1 "_law_draw" ["_law_rng_here", "_law_many"] spDraw) (F : FnP K "_law_sizes" "_law_sizes" (top 47) f fd) :
    FnOk P w K mg base CX0 2 f fd ["_law_rng_here", "_law_levels", "_law_greatest"] spSizes := by
  refine F.ok sc__law_sizes (fun vs H Q E h => ?_) (fun cdv A outer s H vs Q E hr h => ⟨_, PSs.nox (pss_cons (ps_set (i := 3) sc__law_sizes.nd rfl (by first | exact Or.inl rfl | exact Or.inr rfl) (pe_lst (pa_cons pe_int pa_nil))) (pss_cons (ps_for PassesOwn.never rfl (pi_range1 rfl T.n_range (pa_cons (pcall D__law_draw hr (pa_cons (pv 0) (pa_cons (pv 1) pa_nil))) pa_nil)) (pg_name (i := 4) sc__law_sizes.nd rfl (by first | exact Or.inl rfl | exact Or.inr rfl)) (pss_cons (ps_set (i := 5) sc__law_sizes.nd rfl (by first | exact Or.inl rfl | exact Or.inr rfl) (pe_ix ix_list (pe_lst (pa_cons pe_int (pa_cons pe_int (pa_cons pe_int (pa_cons pe_int (pa_cons (pe_op op_add pe_int (pcall D__law_draw hr (pa_cons (pv 0) (pa_cons (pe_op op_sub (pv 2) pe_int) pa_nil)))) pa_nil)))))) (pcall D__law_draw hr (pa_cons (pv 0) (pa_cons pe_int pa_nil))) (fun _ _ => rfl))) (pss_one (ps_if (PW.pt (pw_and (pt_cmpR op_le (pe_op op_mul (pe_ix ix_list (pv 3) (pe_un un_neg pe_int) (fun _ _ => rfl)) (pv 5)) (pe_op op_pow pe_int pe_int) (nomark _)) (pw_and1 (pt_cmpR op_le (pv 5) (pv 2) (nomark _))))) (pss_one (ps_expr (pe_bm PySem.F.plainAttrs_list PySem.F.slot_list_append PySem.F.type_list_append mt_append (pv 3) (pa_cons (pe_op op_mul (pe_ix ix_list (pv 3) (pe_un un_neg pe_int) (fun _ _ => rfl)) (pv 5)) pa_nil)))) pss_nil)))) (pss_one (ps_ret (pv 3))))), ?_⟩)
  · obtain ⟨r, lv, gr, rfl, _⟩ := h
    rfl
  · obtain ⟨r, lv, gr, rfl, hR, l1, l2, g1, g2, q⟩ := h
    have big : (10 : Int) ^ 40 = 10000000000000000000000000000000000000000 := by decide
    refine ⟨(by show 1 ≤ sizeLine; decide), fun l hl => ?_⟩
    have nrl : r ≠ l := hR.ne hl
    have s0 : Stp r H (upd H l (.lst [.int 1])) := (Stp.refl hR).new hl
    refine ⟨_, rfl, _, rfl, r, lv, rfl, s0.1, l1, by omega, fun d H1 d0 d1 s1 => ?_⟩
    refine ⟨d, rfl, by omega, by omega, ?_⟩
    have s01 := s0.trans s1
    refine for_range (fun i σ H' => ∃ ns x y, σ = [some (.ref r), some (.int lv), some (.int gr), some (.ref l), x, y] ∧ Good ns ∧ ns.length ≤ i + 1 ∧ H' l = some (.lst (ns.map V.int)) ∧ Stp r H H') ⟨[1], none, none, rfl, good_one, by simp, s1.2 l _ nrl.symm upd_same, s01⟩ ?_ ?_
    · rintro i σ H' hi ⟨ns, x, y, rfl, g, hlen, hL, st⟩
      have hi8 : i < 8 := by omega
      obtain ⟨ys, z, rfl⟩ := last_of g.len.1
      have zr := g.rng _ _ (last_get ys z)
      refine ⟨_, rfl, _, rfl, _, _, rfl, rfl, r, gr - 1, rfl, st.1, by omega, by omega, fun d1 H1 a0 a1 t1 => ?_⟩
      have st1 := st.trans t1
      have hL1 : H1 l = some (.lst ((ys ++ [z]).map V.int)) := t1.2 l _ nrl.symm hL
      refine ⟨_, _, rfl, rfl, (by show 5 ≤ sizeLine; decide), fun t ht => ?_⟩
      have st2 := st1.new (o := .lst [.int 2, .int 2, .int 3, .int 4, .int (2 + d1)]) ht
      have nrt : r ≠ t := st1.1.ne ht
      have hL2 : (upd H1 t (.lst [.int 2, .int 2, .int 3, .int 4, .int (2 + d1)])) l = some (.lst ((ys ++ [z]).map V.int)) := by rw [upd_ne (ne_of_none hL1 ht)]; exact hL1
      refine ⟨_, rfl, r, 5, rfl, st2.1, by decide, by omega, fun d2 H3 b0 b1 t3 => ?_⟩
      have st3 := st2.trans t3
      have hL3 : H3 l = some (.lst ((ys ++ [z]).map V.int)) := t3.2 l _ nrl.symm hL2
      obtain ⟨v, hv, hm⟩ := at_of (xs := [.int 2, .int 2, .int 3, .int 4, .int (2 + d1)]) b0 b1
      obtain ⟨k, rfl, k2⟩ : ∃ k : Int, v = .int k ∧ 2 ≤ k := by
        simp only [List.mem_cons, List.not_mem_nil, or_false] at hm
        rcases hm with rfl | rfl | rfl | rfl | rfl
        · exact ⟨_, rfl, by omega⟩
        · exact ⟨_, rfl, by omega⟩
        · exact ⟨_, rfl, by omega⟩
        · exact ⟨_, rfl, by omega⟩
        · exact ⟨_, rfl, by omega⟩
      refine ⟨t, _, _, _, rfl, rfl, SqL.of (t3.2 t _ nrt.symm upd_same), hv, ?_⟩
      refine ⟨_, rfl, _, rfl, l, _, _, _, rfl, rfl, SqL.of hL3, at_last ys z, _, rfl, _, _, rfl, rfl, .inl ⟨by omega, by omega⟩, _, _, rfl, rfl, ⟨by decide, by decide, by decide⟩, _, _, rfl, rfl, _, rfl, ?_⟩
      by_cases hc : z * k ≤ 10 ^ (9 : Int).toNat
      · refine ifT (decide_eq_true hc) ?_
        refine ⟨_, rfl, _, rfl, _, _, rfl, rfl, _, rfl, ite2 (fun hk => ?_) (fun _ => ?_)⟩
        · refine ⟨_, rfl, .inl ⟨rfl, _, SqL.of hL3⟩, _, rfl, _, rfl, l, _, _, _, rfl, rfl, SqL.of hL3, at_last ys z, _, rfl, _, _, rfl, rfl, .inl ⟨by omega, by omega⟩, l, _, _, rfl, rfl, hL3, ?_, ?_⟩
          · exact small1000 (by rw [List.length_map]; omega)
          · have hc2 : z * k ≤ 1000000000 := hc
            refine ⟨(ys ++ [z]) ++ [z * k], _, _, rfl, good_more g (by omega) (last_get ys z) k2 hc2, by rw [List.length_append (bs := [z * k]), List.length_singleton]; omega, ?_, ?_⟩
            · rw [upd_same, List.map_append (l₂ := [z * k])]
              rfl
            · obtain ⟨⟨x1, x2, e1, e2⟩, kk⟩ := st3
              refine ⟨⟨x1, x2, by rw [upd_ne nrl]; exact e1, e2⟩, fun b o n e => ?_⟩
              rw [upd_ne (ne_of_none e hl)]
              exact kk b o n e
        · exact ⟨_, _, _, rfl, g, by omega, hL3, st3⟩
      · exact ifF (decide_eq_false hc) ⟨_, _, _, rfl, g, by omega, hL3, st3⟩
    · rintro σ H' ⟨ns, x, y, rfl, g, hlen, hL, st⟩
      exact ⟨_, rfl, q l ns H' g hl hL st⟩
end
end K35

set_option Elab.async false
set_option linter.all false
set_option maxRecDepth 100000
set_option maxHeartbeats 4000000
/-! Own layer: range(a, b, c) of any whole numbers a, b and a step from 1 to 2^30; a comprehension over it. -/
namespace Ex
open PySem PySem.Spec PyProof.Rows L2 Gu
theorem turn_longC {P : Program} {w : World} {K : PySem.W.Frag} {tg : Expr} (it : Addr) (lo c : Int) (n : Nat) :
    Turn P w K tg (Itc lo c n) [it] it (fun i h => IsLongIter h it (lo + (i : Nat) * c) ((n : Int) - (i : Nat)) c) where
  mem := List.mem_singleton.mpr rfl
  obj := fun i h st b hb => by
    obtain rfl := List.mem_singleton.mp hb
    exact ⟨_, st, fun v z => nomatch (show Data.fields _ = Data.cell v from z)⟩
  keep := fun i h h' st k => k it (List.mem_singleton.mpr rfl) _ st
  item := by
    rintro X rfl rfl rfl hc i pins s σ H E I hf st hg
    obtain ⟨f0, f1, f2, f3, f4, f5⟩ := hf it (List.mem_singleton.mpr rfl)
    refine (Walks.longrange (prog := X.prog) (w := X.w) (I.ok.hd hc) it lo c n).item i s _ _ hg st fun v h' tk hv st' kk => ?_
    obtain ⟨t, rfl⟩ := hv
    have J : Inv X pins σ H { s with heap := h', toks := tk } := I.turned (fun b o hb e => kk b o (fun z => hb (List.mem_singleton.mp z)) e) f0 f1 f3 f4 f5
    exact ⟨_, rfl, go_of (s := { s with heap := h', toks := tk }) (n := "longrange_iterator") st' rfl rfl (by decide) ⟨.int (lo + (i : Nat) * c), H, J, ⟨t, rfl⟩, ⟨rfl, rfl⟩, st', fun b hb => (hf b hb).1⟩⟩
  done := by
    rintro X rfl rfl rfl hc i pins s σ H E I hf st hg
    obtain ⟨f0, f1, f2, f3, f4, f5⟩ := hf it (List.mem_singleton.mpr rfl)
    have hn : n ≤ i := hg
    exact wpAny_pyNext_long_end (I.ok.hd hc) st (by omega) fun h' eb => ⟨rfl, I.turned (t' := s.toks) (fun b o hb e => eb b o hb e) f0 f1 f3 f4 f5⟩
  self := fun _ _ _ _ _ st h => wpAny_pyIter_longiter st h
section
variable {X : Cx} {tg : Expr}
theorem range_anyC {pins : List (Addr × Obj)} {σ : L2.St} {H : Hp} {s : Shared} {R : It → Hp → Prop} {E : Value → Shared → Prop} {lo hi c : Int} {t u v : Tok} {tk : Nat} (I : Inv X pins σ H s) (q : R (Itc lo c (Builtin.Range.rangeSize lo hi c).toNat) H) :
    wpAny (model X.prog X.w) X.A (pyIter (.ref s.heap.objs.size)) (PIE X pins σ tg R) E { s with heap := s.heap.push { cls := .type "range", data := .fields #[.int lo t, .int hi u, .int c v] }, toks := tk } := by
  have J : Inv X pins σ H { s with heap := s.heap.push { cls := .type "range", data := .fields #[.int lo t, .int hi u, .int c v] }, toks := tk } := I.kept fun b o e => Heap.get?_push_of_some _ e
  have e1 : lo + ((0 : Nat) : Int) * c = lo := by simp
  have e2 : (((Builtin.Range.rangeSize lo hi c).toNat : Nat) : Int) - ((0 : Nat) : Int) = Builtin.Range.rangeSize lo hi c := by
    rw [← rangeSize_toNat]
    simp
  have fr : ∀ b ∈ [(s.heap.push { cls := .type "range", data := .fields #[.int lo t, .int hi u, .int c v] }).objs.size], _ := fun b hb => by
    obtain rfl := List.mem_singleton.mp hb
    exact J.fpOk (Nat.le_refl _) (J.hok.fresh (Nat.le_refl _))
  cases hs : Builtin.Range.small lo hi c with
  | true =>
    refine wpAny_pyIter_range (IsRange.new ..) hs ⟨_, [_], _, _, H, rfl, J.kept (t' := tk) fun b o e => Heap.get?_push_of_some _ e, turn_rangeC _ lo c (Builtin.Range.rangeSize lo hi c).toNat, ?_, fr, q⟩
    show IsRangeIter _ _ (lo + ((0 : Nat) : Int) * c) ((((Builtin.Range.rangeSize lo hi c).toNat : Nat) : Int) - ((0 : Nat) : Int)) c
    rw [e1, e2]
    exact Heap.get?_push_size _ rfl
  | false =>
    refine wpAny_pyIter_longrange (IsRange.new ..) hs ⟨_, [_], _, _, H, rfl, J.kept (t' := tk) fun b o e => Heap.get?_push_of_some _ e, turn_longC _ lo c (Builtin.Range.rangeSize lo hi c).toNat, ?_, fr, q⟩
    show IsLongIter _ _ (lo + ((0 : Nat) : Int) * c) ((((Builtin.Range.rangeSize lo hi c).toNat : Nat) : Int) - ((0 : Nat) : Int)) c
    rw [e1, e2]
    exact Heap.get?_push_size _ rfl
/-- how many turns range(i, j, c) has -/
def stepsN (i j c : Int) : Nat := (Builtin.Range.rangeSize i j c).toNat
def iRngS (ta : TA) : TI := fun σ H R => ta σ H fun vs H1 => ∃ i j c : Int, vs = [.int i, .int j, .int c] ∧ 1 ≤ c ∧ c < 1073741824 ∧ R (Itc i c (stepsN i j c)) H1
theorem pi_rangeS {a b c : Expr} {ta : TA} {p pos : Pos} (hg : Gl X "range") (hm : X.mg "range" = none) (ha : PA X [a, b, c] ta)
    (hs : starEach [a, b, c] X.env = (false, eval a X.env) :: starEach [b, c] X.env := by rfl) (hpl : (backTo pos (starEach [b, c] X.env)).any (·.1) = false := by rfl) :
    PI X tg (.Call (.Name "range" p) [a, b, c] [] pos) (iRngS ta) := by
  refine ⟨fun pins s σ H R I h => ?_⟩
  refine Call_ (ld_blt I hg hm boot_range (PyProof.Rows.callWith_type1 (thn (ha.run pos pins s σ H _ I h) fun us s1 ⟨vs, H1, I1, r1, q1⟩ => ?_) hs hpl))
  obtain ⟨i, j, k, e, c0, c1, q⟩ := q1
  subst e
  cases r1 with
  | cons r rr =>
    cases rr with
    | cons r' rr =>
      cases rr with
      | cons r'' rr =>
        cases rr
        obtain ⟨t, rfl⟩ := r
        obtain ⟨t', rfl⟩ := r'
        obtain ⟨t'', rfl⟩ := r''
        exact call_range_3 (by omega) (range_anyC (tk := s1.toks) I1 q) (.inl (PyProof.noPylong_small (by omega)))
end
theorem steps_le {i j c : Int} (hc : 1 ≤ c) (h : j - i ≤ 100) : stepsN i j c ≤ 100 := by
  unfold stepsN Builtin.Range.rangeSize
  rw [if_pos (by omega)]
  split
  · have h1 := Int.ediv_le_self c (show (0 : Int) ≤ j - i - 1 by omega)
    omega
  · decide
/-- the turns reach every step below the end, and no other -/
theorem steps_lt {i j c : Int} (hc : 1 ≤ c) (n : Nat) : n < stepsN i j c ↔ i + (n : Int) * c < j := by
  unfold stepsN Builtin.Range.rangeSize
  rw [if_pos (by omega)]
  by_cases hij : i < j
  · rw [if_pos hij]
    have d0 : 0 ≤ (j - i - 1) / c := Int.ediv_nonneg (by omega) (by omega)
    have e1 := Int.mul_ediv_add_emod (j - i - 1) c
    have e2 := Int.emod_nonneg (j - i - 1) (show c ≠ 0 by omega)
    have e3 := Int.emod_lt_of_pos (j - i - 1) (show 0 < c by omega)
    generalize (j - i - 1) / c = q at *
    constructor
    · intro h
      have h2 : (n : Int) ≤ q := by omega
      have h3 := Int.mul_le_mul_of_nonneg_left h2 (show 0 ≤ c by omega)
      have h4 : (n : Int) * c = c * n := Int.mul_comm _ _
      omega
    · intro h
      have h4 : (n : Int) * c = c * n := Int.mul_comm _ _
      have h2 : (n : Int) ≤ q := by
        refine Int.not_lt.mp fun z => ?_
        have h3 := Int.mul_le_mul_of_nonneg_left (show q + 1 ≤ (n : Int) by omega) (show 0 ≤ c by omega)
        rw [Int.mul_add, Int.mul_one] at h3
        omega
      omega
  · rw [if_neg hij]
    have : 0 ≤ (n : Int) * c := Int.mul_nonneg (by omega) (by omega)
    constructor
    · intro h
      have : n < (0 : Int).toNat := h
      exact absurd this (Nat.not_lt_zero _)
    · intro h
      omega
/-- a comprehension over such a range -/
theorem lc_rangeC {lo c : Int} {n : Nat} {g : TG} {tt : TT} {te : TE} {vs : List Nat} {σ : L2.St} {H1 : Hp} {D : Addr} {Qd : Hp → Prop} (Pv : Nat → Hp → Prop) (h0 : Pv 0 (upd H1 D (.lst [])))
    (hs : ∀ i H, i < n → Pv i H → g (.int (lo + (i : Nat) * c)) (wipe σ vs) H fun σ2 H2 => wipe σ2 vs = wipe σ vs ∧ tt σ2 H2 fun b H3 =>
      if b = true then te σ2 H3 fun y H4 => ∃ acc, H4 D = some (.lst acc) ∧ acc.length < sizeLine ∧ Pv (i + 1) (upd H4 D (.lst (acc ++ [y]))) else Pv (i + 1) H3) (hd : ∀ H, Pv n H → Qd H) :
    ∃ W : Nat → Nat → Hp → Prop, (∃ m, W 0 m (upd H1 D (.lst []))) ∧ ∀ i m H, W i m H →
      ((Itc lo c n).stop i H ∧ Qd H) ∨ ((Itc lo c n).go i H ∧ ∃ Nx : Hp → Prop, (∀ H', Nx H' → ∃ m', m' < m ∧ W (i + 1) m' H') ∧ ∀ x H', (Itc lo c n).yld i H x H' → g x (wipe σ vs) H' fun σ2 H2 => wipe σ2 vs = wipe σ vs ∧ tt σ2 H2 fun b H3 =>
        if b = true then te σ2 H3 fun y H4 => ∃ acc, H4 D = some (.lst acc) ∧ acc.length < sizeLine ∧ Nx (upd H4 D (.lst (acc ++ [y]))) else Nx H3) := by
  refine ⟨fun i m H => m = n - i ∧ i ≤ n ∧ Pv i H, ⟨n, by simp, Nat.zero_le _, h0⟩, ?_⟩
  rintro i m H ⟨rfl, hi, p⟩
  by_cases hlt : i < n
  · refine .inr ⟨hlt, Pv (i + 1), fun H' p' => ⟨n - (i + 1), by omega, rfl, hlt, p'⟩, fun x H' y => ?_⟩
    obtain ⟨e, y⟩ := y
    subst e y
    exact hs i _ hlt p
  · have e : i = n := by omega
    subst e
    exact .inl ⟨Nat.le_refl _, hd H p⟩
end Ex

set_option Elab.async false
set_option linter.all false
/-! The mathematics of maximal regions: sizes that divide each other, a range from lo to hi. -/
namespace M16
structure Ch (s : Nat → Int) (m : Nat) : Prop where
  m1 : 1 ≤ m
  one : s 0 = 1
  pos : ∀ k, k < m → 1 ≤ s k
  dv : ∀ k, k + 1 < m → s k ∣ s (k + 1)
theorem Ch.dvd {s : Nat → Int} {m : Nat} (c : Ch s m) {j : Nat} : ∀ {k : Nat}, j ≤ k → k < m → s j ∣ s k
  | 0, h, _ => by
    rw [show j = 0 by omega]
    exact Int.dvd_refl _
  | k + 1, h, hk => by
    by_cases e : j = k + 1
    · rw [e]
      exact Int.dvd_refl _
    · exact Int.dvd_trans (Ch.dvd c (show j ≤ k by omega) (by omega)) (c.dv k hk)
theorem gap {z q e : Int} (h1 : z ∣ q) (h2 : z ∣ e) (h : q < e) : q + z ≤ e := by
  have := Int.le_of_dvd (by omega) (Int.dvd_sub h2 h1)
  omega
theorem mod0 {z x : Int} (h : z ∣ x) : x % z = 0 := Int.emod_eq_zero_of_dvd h
theorem dvd0 {z x : Int} (h : x % z = 0) : z ∣ x := Int.dvd_of_emod_eq_zero h
theorem fl_dvd (z x : Int) : z ∣ x - x % z := ⟨x / z, by have := Int.mul_ediv_add_emod x z; omega⟩
theorem fl_le {z : Int} (x : Int) (hz : 1 ≤ z) : x - x % z ≤ x := by
  have := Int.emod_nonneg x (show z ≠ 0 by omega)
  omega
theorem fl_lt {z : Int} (x : Int) (hz : 1 ≤ z) : x < x - x % z + z := by
  have := Int.emod_lt_of_pos x (show 0 < z by omega)
  omega
theorem fl_eq {z q x : Int} (hz : 1 ≤ z) (h : z ∣ q) (h1 : q ≤ x) (h2 : x < q + z) : x - x % z = q := by
  have a := fl_le x hz
  have b := fl_lt x hz
  have d := fl_dvd z x
  rcases Int.lt_trichotomy (x - x % z) q with e | e | e
  · have := gap d h e
    omega
  · exact e
  · have := gap h d e
    omega
theorem fl_ge {z q x : Int} (hz : 1 ≤ z) (h : z ∣ q) (h1 : q ≤ x) : q ≤ x - x % z := by
  have b := fl_lt x hz
  refine Int.not_lt.mp fun e => ?_
  have := gap (fl_dvd z x) h e
  omega
/-- the least multiple from a on -/
def nx (z a : Int) : Int := -(-a / z) * z
theorem nx_is (z a : Int) : nx z a = a + (-a) % z := by
  have e := Int.mul_ediv_add_emod (-a) z
  have h : nx z a = -(z * (-a / z)) := by
    unfold nx
    rw [Int.neg_mul, Int.mul_comm]
  omega
theorem nx_dvd (z a : Int) : z ∣ nx z a := ⟨-(-a / z), by unfold nx; rw [Int.mul_comm]⟩
theorem nx_ge {z : Int} (a : Int) (hz : 1 ≤ z) : a ≤ nx z a := by
  have := Int.emod_nonneg (-a) (show z ≠ 0 by omega)
  rw [nx_is]
  omega
theorem nx_lt {z : Int} (a : Int) (hz : 1 ≤ z) : nx z a < a + z := by
  have := Int.emod_lt_of_pos (-a) (show 0 < z by omega)
  rw [nx_is]
  omega
theorem nx_least {z a q : Int} (hz : 1 ≤ z) (h : z ∣ q) (ha : a ≤ q) : nx z a ≤ q := by
  refine Int.not_lt.mp fun e => ?_
  have := gap h (nx_dvd z a) e
  have := nx_lt a hz
  omega
theorem nx_self {z a : Int} (hz : 1 ≤ z) (h : z ∣ a) : nx z a = a := by
  have := nx_ge a hz
  have := nx_least hz h (Int.le_refl a)
  omega
/-- count_regions is positive just if the first region ends by b -/
theorem cnt_pos {z a b : Int} (hz : 1 ≤ z) : 0 < ((b - b % z) - nx z a) / z ↔ nx z a + z ≤ b := by
  have h : (1 : Int) ≤ ((b - b % z) - nx z a) / z ↔ 1 * z ≤ (b - b % z) - nx z a := Int.le_ediv_iff_mul_le (by omega)
  rw [Int.one_mul] at h
  have l := fl_le b hz
  constructor
  · intro k
    have := h.mp (by omega)
    omega
  · intro k
    have d : z ∣ nx z a + z := Int.dvd_add (nx_dvd z a) (Int.dvd_refl z)
    have := fl_ge hz d k
    have := h.mpr (by omega)
    omega
section
variable (s : Nat → Int) (m : Nat) (hi : Int)
def Lies (a : Int) (k : Nat) : Prop := a % s k = 0 ∧ a + s k ≤ hi
instance (a : Int) (k : Nat) : Decidable (Lies s hi a k) := inferInstanceAs (Decidable (a % s k = 0 ∧ a + s k ≤ hi))
/-- the highest level of a region at a, sought from n down -/
def lev (a : Int) : Nat → Nat
  | 0 => 0
  | n + 1 => if Lies s hi a (n + 1) then n + 1 else lev a n
def L (a : Int) : Nat := lev s hi a (m - 1)
def en (a : Int) : Int := if L s m hi a + 1 < m ∧ nx (s (L s m hi a + 1)) a + s (L s m hi a + 1) ≤ hi then nx (s (L s m hi a + 1)) a else hi - hi % s (L s m hi a)
/-- no region that lies in the range goes across a -/
def B (lo a : Int) : Prop := ∀ j, j < m → a % s j ≠ 0 → ¬ (lo ≤ a - a % s j ∧ a - a % s j + s j ≤ hi)
abbrev Run : Type := Nat × Int × Int
def run (a : Int) : Run := (L s m hi a, a, (en s m hi a - a) / s (L s m hi a))
def lay : Nat → Int → List Run
  | 0, _ => []
  | n + 1, a => if a < hi then run s m hi a :: lay n (en s m hi a) else []
def R (a : Int) : List Run := lay s m hi (hi - a).toNat a
end
section
variable {s : Nat → Int} {m : Nat} {hi a lo : Int}
theorem lev_le : ∀ n, lev s hi a n ≤ n
  | 0 => Nat.le_refl _
  | n + 1 => by
    show (if Lies s hi a (n + 1) then n + 1 else lev s hi a n) ≤ n + 1
    split
    · exact Nat.le_refl _
    · have := lev_le n
      omega
theorem lev_lies (h0 : Lies s hi a 0) : ∀ n, Lies s hi a (lev s hi a n)
  | 0 => h0
  | n + 1 => by
    show Lies s hi a (if Lies s hi a (n + 1) then n + 1 else lev s hi a n)
    split
    · assumption
    · exact lev_lies h0 n
theorem lev_max : ∀ n j, j ≤ n → lev s hi a n < j → ¬ Lies s hi a j
  | 0, j, h, h2 => by
    have : lev s hi a 0 = 0 := rfl
    omega
  | n + 1, j, h, h2 => by
    have e : lev s hi a (n + 1) = if Lies s hi a (n + 1) then n + 1 else lev s hi a n := rfl
    by_cases hl : Lies s hi a (n + 1)
    · rw [e, if_pos hl] at h2
      omega
    · rw [e, if_neg hl] at h2
      by_cases ej : j = n + 1
      · rw [ej]
        exact hl
      · exact lev_max n j (by omega) h2
theorem lies0 (c : Ch s m) (h : a < hi) : Lies s hi a 0 := by
  unfold Lies
  rw [c.one]
  exact ⟨Int.emod_one a, by omega⟩
theorem L_lt (c : Ch s m) : L s m hi a < m := by
  have := lev_le (s := s) (hi := hi) (a := a) (m - 1)
  have := c.m1
  show lev s hi a (m - 1) < m
  omega
theorem L_lies (c : Ch s m) (h : a < hi) : Lies s hi a (L s m hi a) := lev_lies (lies0 c h) _
theorem L_max (c : Ch s m) {j : Nat} (hj : j < m) (h : L s m hi a < j) : ¬ Lies s hi a j := lev_max (m - 1) j (by omega) h
theorem lies_down (c : Ch s m) {j k : Nat} (h : j ≤ k) (hk : k < m) (x : Lies s hi a k) : Lies s hi a j := by
  have d := c.dvd h hk
  have p := c.pos k hk
  have l := Int.le_of_dvd (by omega) d
  exact ⟨mod0 (Int.dvd_trans d (dvd0 x.1)), by have := x.2; omega⟩
theorem en1 (c1 : L s m hi a + 1 < m ∧ nx (s (L s m hi a + 1)) a + s (L s m hi a + 1) ≤ hi) : en s m hi a = nx (s (L s m hi a + 1)) a := if_pos c1
theorem en2 (c2 : ¬ (L s m hi a + 1 < m ∧ nx (s (L s m hi a + 1)) a + s (L s m hi a + 1) ≤ hi)) : en s m hi a = hi - hi % s (L s m hi a) := if_neg c2
theorem en_gt (c : Ch s m) (h : a < hi) : a < en s m hi a := by
  have hl := L_lies c h
  have hm := L_lt (a := a) (hi := hi) c
  by_cases c1 : L s m hi a + 1 < m ∧ nx (s (L s m hi a + 1)) a + s (L s m hi a + 1) ≤ hi
  · rw [en1 c1]
    have z := c.pos _ c1.1
    have g := nx_ge a z
    refine Int.not_le.mp fun hle => ?_
    have e : a = nx (s (L s m hi a + 1)) a := by omega
    refine L_max c c1.1 (Nat.lt_succ_self _) ⟨mod0 ?_, ?_⟩
    · have d := nx_dvd (s (L s m hi a + 1)) a
      rw [← e] at d
      exact d
    · have := c1.2
      rw [← e] at this
      exact this
  · rw [en2 c1]
    have z := c.pos _ hm
    have := fl_ge (x := hi) z (Int.dvd_add (dvd0 hl.1) (Int.dvd_refl _)) hl.2
    omega
theorem en_le (c : Ch s m) : en s m hi a ≤ hi := by
  by_cases c1 : L s m hi a + 1 < m ∧ nx (s (L s m hi a + 1)) a + s (L s m hi a + 1) ≤ hi
  · rw [en1 c1]
    have := c.pos _ c1.1
    have := c1.2
    omega
  · rw [en2 c1]
    exact fl_le hi (c.pos _ (L_lt c))
theorem en_dvd (c : Ch s m) : s (L s m hi a) ∣ en s m hi a := by
  by_cases c1 : L s m hi a + 1 < m ∧ nx (s (L s m hi a + 1)) a + s (L s m hi a + 1) ≤ hi
  · rw [en1 c1]
    exact Int.dvd_trans (c.dv _ c1.1) (nx_dvd _ _)
  · rw [en2 c1]
    exact fl_dvd _ _
/-- one way up, the other down -/
theorem up (c : Ch s m) (c1 : L s m hi a + 1 < m ∧ nx (s (L s m hi a + 1)) a + s (L s m hi a + 1) ≤ hi) : en s m hi a < hi ∧ L s m hi a < L s m hi (en s m hi a) := by
  have z := c.pos _ c1.1
  have e := en1 c1
  have h2 := c1.2
  rw [← e] at h2
  refine ⟨by omega, Nat.lt_of_not_le fun hle => ?_⟩
  refine L_max (a := en s m hi a) c c1.1 (by omega) ⟨mod0 ?_, h2⟩
  rw [e]
  exact nx_dvd _ _
def NoHi (s : Nat → Int) (m : Nat) (hi a : Int) : Prop := ¬ (L s m hi a + 1 < m ∧ nx (s (L s m hi a + 1)) a + s (L s m hi a + 1) ≤ hi)
theorem down (c : Ch s m) (c2 : NoHi s m hi a) (h : en s m hi a < hi) : L s m hi (en s m hi a) < L s m hi a ∧ NoHi s m hi (en s m hi a) := by
  have e := en2 c2
  have hm := L_lt (a := a) (hi := hi) c
  have z := c.pos _ hm
  have l := fl_lt hi z
  have dk : s (L s m hi a) ∣ en s m hi a := en_dvd c
  have lt : L s m hi (en s m hi a) < L s m hi a := Nat.lt_of_not_le fun hle => by
    have x := lies_down c hle (L_lt c) (L_lies c h)
    have := x.2
    omega
  refine ⟨lt, fun c1 => ?_⟩
  have d := Int.dvd_trans (c.dvd (show L s m hi (en s m hi a) + 1 ≤ L s m hi a by omega) hm) dk
  have n := nx_self (c.pos _ c1.1) d
  have k := c1.2
  rw [n] at k
  exact L_max (a := en s m hi a) c c1.1 (Nat.lt_succ_self _) ⟨mod0 d, k⟩
theorem other (c : Ch s m) (h : en s m hi a < hi) : L s m hi a ≠ L s m hi (en s m hi a) := by
  by_cases c1 : L s m hi a + 1 < m ∧ nx (s (L s m hi a + 1)) a + s (L s m hi a + 1) ≤ hi
  · have := (up c c1).2
    omega
  · have := (down c c1 h).1
    omega
theorem B_lo (c : Ch s m) : B s m hi lo lo := fun j hj n h => by
  have := Int.emod_nonneg lo (show s j ≠ 0 by have := c.pos j hj; omega)
  omega
theorem B_next (c : Ch s m) (h : a < hi) (b : B s m hi lo a) : B s m hi lo (en s m hi a) := fun j hj n ⟨h1, h2⟩ => by
  have hm := L_lt (a := a) (hi := hi) c
  have zj := c.pos j hj
  have q0 := fl_dvd (s j) (en s m hi a)
  have q1 := fl_le (en s m hi a) zj
  have q2 := fl_lt (en s m hi a) zj
  have gt := en_gt c h
  have nq : en s m hi a - en s m hi a % s j < en s m hi a := by
    have := Int.emod_nonneg (en s m hi a) (show s j ≠ 0 by omega)
    omega
  generalize en s m hi a - en s m hi a % s j = q at *
  have hk : L s m hi a < j := Nat.lt_of_not_le fun hle => n (mod0 (Int.dvd_trans (c.dvd hle hm) (en_dvd c)))
  have k1 : L s m hi a + 1 < m := by omega
  have z1 := c.pos _ k1
  have dq : s (L s m hi a + 1) ∣ q := Int.dvd_trans (c.dvd (by omega) hj) q0
  have lz : s (L s m hi a + 1) ≤ s j := Int.le_of_dvd (by omega) (c.dvd (by omega) hj)
  have qa : q < a := by
    by_cases c1 : L s m hi a + 1 < m ∧ nx (s (L s m hi a + 1)) a + s (L s m hi a + 1) ≤ hi
    · have e := en1 c1
      have l := nx_lt a z1
      have d := nx_dvd (s (L s m hi a + 1)) a
      rw [← e] at l d
      have := gap dq d nq
      omega
    · refine Int.not_le.mp fun ha => c1 ⟨k1, ?_⟩
      have := nx_least z1 dq ha
      omega
  have f := fl_eq zj q0 (show q ≤ a by omega) (by omega)
  refine b j hj ?_ ?_
  · omega
  · rw [f]
    exact ⟨h1, h2⟩
/-- no higher region around an address of the run lies in the range -/
theorem no_high (c : Ch s m) (h : a < hi) (b : B s m hi lo a) (k1 : L s m hi a + 1 < m) {x : Int} (x1 : a ≤ x) (x2 : x < en s m hi a) :
    ¬ (lo ≤ x - x % s (L s m hi a + 1) ∧ x - x % s (L s m hi a + 1) + s (L s m hi a + 1) ≤ hi) := fun ⟨h1, h2⟩ => by
  have z1 := c.pos _ k1
  have q0 := fl_dvd (s (L s m hi a + 1)) x
  have q1 := fl_le x z1
  have q2 := fl_lt x z1
  generalize x - x % s (L s m hi a + 1) = q at *
  by_cases qa : q < a
  · have f := fl_eq z1 q0 (show q ≤ a by omega) (by omega)
    refine b _ k1 ?_ ?_
    · omega
    · rw [f]
      exact ⟨h1, h2⟩
  · have n := nx_least z1 q0 (show a ≤ q by omega)
    by_cases c1 : L s m hi a + 1 < m ∧ nx (s (L s m hi a + 1)) a + s (L s m hi a + 1) ≤ hi
    · rw [en1 c1] at x2
      omega
    · exact c1 ⟨k1, by omega⟩
theorem top_in (c : Ch s m) (h : a < hi) {x : Int} (x1 : a ≤ x) (x2 : x < en s m hi a) : a ≤ x - x % s (L s m hi a) ∧ x - x % s (L s m hi a) + s (L s m hi a) ≤ en s m hi a := by
  have z := c.pos _ (L_lt (a := a) (hi := hi) c)
  have l := fl_le x z
  refine ⟨fl_ge z (dvd0 (L_lies c h).1) x1, gap (fl_dvd _ _) (en_dvd c) (by omega)⟩
theorem top_max (c : Ch s m) (h : a < hi) (b : B s m hi lo a) {x : Int} (x1 : a ≤ x) (x2 : x < en s m hi a) {j : Nat} (hj : j < m) (h1 : lo ≤ x - x % s j) (h2 : x - x % s j + s j ≤ hi) : j ≤ L s m hi a := by
  refine Nat.le_of_not_lt fun hlt => ?_
  have k1 : L s m hi a + 1 < m := by omega
  have z1 := c.pos _ k1
  have zj := c.pos j hj
  have d := c.dvd (show L s m hi a + 1 ≤ j by omega) hj
  have g1 := fl_ge (x := x) z1 (Int.dvd_trans d (fl_dvd (s j) x)) (fl_le x zj)
  have g2 := gap (fl_dvd (s (L s m hi a + 1)) x) (Int.dvd_add (Int.dvd_trans d (fl_dvd (s j) x)) d) (show x - x % s (L s m hi a + 1) < x - x % s j + s j by
    have := fl_le x z1
    have := fl_lt x zj
    omega)
  exact no_high c h b k1 x1 x2 ⟨by omega, by omega⟩
theorem lay_eq (c : Ch s m) : ∀ n n' a, (hi - a).toNat ≤ n → (hi - a).toNat ≤ n' → lay s m hi n a = lay s m hi n' a
  | 0, 0, _, _, _ => rfl
  | 0, n' + 1, a, h, _ => by
    show ([] : List Run) = if a < hi then run s m hi a :: lay s m hi n' (en s m hi a) else []
    rw [if_neg (by omega)]
  | n + 1, 0, a, _, h => by
    show (if a < hi then run s m hi a :: lay s m hi n (en s m hi a) else []) = []
    rw [if_neg (by omega)]
  | n + 1, n' + 1, a, h, h' => by
    show (if a < hi then run s m hi a :: lay s m hi n (en s m hi a) else []) = if a < hi then run s m hi a :: lay s m hi n' (en s m hi a) else []
    by_cases e : a < hi
    · have g := en_gt c e
      rw [if_pos e, if_pos e, lay_eq c n n' (en s m hi a) (by omega) (by omega)]
    · rw [if_neg e, if_neg e]
theorem R_end (h : ¬ a < hi) : R s m hi a = [] := by
  unfold R
  rw [show (hi - a).toNat = 0 by omega]
  rfl
theorem R_step (c : Ch s m) (h : a < hi) : R s m hi a = run s m hi a :: R s m hi (en s m hi a) := by
  unfold R
  obtain ⟨n, e⟩ : ∃ n, (hi - a).toNat = n + 1 := ⟨(hi - a).toNat - 1, by omega⟩
  rw [e]
  show (if a < hi then run s m hi a :: lay s m hi n (en s m hi a) else []) = _
  have g := en_gt c h
  rw [if_pos h, lay_eq c n (hi - en s m hi a).toNat (en s m hi a) (by omega) (Nat.le_refl _)]
theorem R_down (c : Ch s m) : ∀ (n : Nat) (a : Int), (hi - a).toNat ≤ n → a < hi → NoHi s m hi a → (R s m hi a).length ≤ L s m hi a + 1
  | 0, a, h, h2, _ => by omega
  | n + 1, a, h, h2, c2 => by
    rw [R_step c h2, List.length_cons]
    by_cases e : en s m hi a < hi
    · obtain ⟨d1, d2⟩ := down c c2 e
      have g := en_gt c h2
      have := R_down c n (en s m hi a) (by omega) e d2
      omega
    · rw [R_end e]
      simp
theorem R_len (c : Ch s m) : ∀ (n : Nat) (a : Int), (hi - a).toNat ≤ n → a < hi → (R s m hi a).length + L s m hi a ≤ 2 * m
  | 0, a, h, h2 => by omega
  | n + 1, a, h, h2 => by
    have l := L_lt (a := a) (hi := hi) c
    by_cases c1 : L s m hi a + 1 < m ∧ nx (s (L s m hi a + 1)) a + s (L s m hi a + 1) ≤ hi
    · obtain ⟨u1, u2⟩ := up c c1
      have g := en_gt c h2
      have := R_len c n (en s m hi a) (by omega) u1
      rw [R_step c h2, List.length_cons]
      omega
    · have := R_down c (n + 1) a h h2 c1
      omega
theorem R_short (c : Ch s m) (h8 : m ≤ 8) : (R s m hi a).length ≤ 16 := by
  by_cases h : a < hi
  · have := R_len c _ a (Nat.le_refl _) h
    omega
  · rw [R_end h]
    simp
/-- a place between two runs -/
structure Mid (s : Nat → Int) (m : Nat) (hi lo a : Int) (done : List Run) : Prop where
  eq : R s m hi lo = done ++ R s m hi a
  lo_le : lo ≤ a
  le_hi : a ≤ hi
  bd : B s m hi lo a
  last : a < hi → ∀ t, done.getLast? = some t → t.1 ≠ L s m hi a
theorem mid0 (c : Ch s m) (h : lo ≤ hi) : Mid s m hi lo lo [] := ⟨rfl, Int.le_refl _, h, B_lo c, fun _ t e => by cases e⟩
theorem Mid.next {done : List Run} (c : Ch s m) (M : Mid s m hi lo a done) (h : a < hi) : Mid s m hi lo (en s m hi a) (done ++ [run s m hi a]) := by
  have g := en_gt c h
  have l := M.lo_le
  refine ⟨?_, by omega, en_le c, B_next c h M.bd, fun h2 t e => ?_⟩
  · rw [M.eq, R_step c h, List.append_assoc]
    rfl
  · rw [List.getLast?_concat] at e
    cases e
    exact other c h2
/-- the number of cells of a run -/
theorem run_cells (c : Ch s m) (h : a < hi) : (en s m hi a - a) / s (L s m hi a) * s (L s m hi a) = en s m hi a - a := Int.ediv_mul_cancel (Int.dvd_sub (en_dvd c) (dvd0 (L_lies c h).1))
theorem run_one (c : Ch s m) (h : a < hi) : 1 ≤ (en s m hi a - a) / s (L s m hi a) := by
  have z := c.pos _ (L_lt (a := a) (hi := hi) c)
  have g := gap (dvd0 (L_lies c h).1) (en_dvd c) (en_gt c h)
  exact (Int.le_ediv_iff_mul_le (by omega)).mpr (by omega)
/-- multiples of z below y, from 0 on -/
def cd (z y : Int) : Int := (y + z - 1) / z
theorem cd_zero {z : Int} (hz : 1 ≤ z) : cd z 0 = 0 := by
  unfold cd
  exact Int.ediv_eq_zero_of_lt (by omega) (by omega)
theorem cd_mul {z y : Int} (hz : 1 ≤ z) (h : z ∣ y) : cd z y = y / z := by
  obtain ⟨q, rfl⟩ := h
  unfold cd
  rw [show z * q + z - 1 = (z - 1) + z * q by omega, Int.add_mul_ediv_left _ _ (by omega), Int.mul_ediv_cancel_left _ (by omega), Int.ediv_eq_zero_of_lt (by omega) (by omega)]
  omega
theorem cd_next {z y : Int} (hz : 1 ≤ z) (h : z ∣ y) : cd z (y + 1) = y / z + 1 := by
  obtain ⟨q, rfl⟩ := h
  unfold cd
  rw [show z * q + 1 + z - 1 = z * (q + 1) by rw [Int.mul_add]; omega, Int.mul_ediv_cancel_left _ (by omega), Int.mul_ediv_cancel_left _ (by omega)]
theorem cd_stay {z y : Int} (hz : 1 ≤ z) (h : ¬ z ∣ y) : cd z (y + 1) = cd z y := by
  unfold cd
  have e := Int.mul_ediv_add_emod y z
  have e1 := Int.emod_nonneg y (show z ≠ 0 by omega)
  have e2 := Int.emod_lt_of_pos y (show 0 < z by omega)
  have n : y % z ≠ 0 := fun q => h (dvd0 q)
  have a1 : (y + 1 + z - 1) / z = y / z + 1 := by
    rw [show y + 1 + z - 1 = (y % z) + z * (y / z + 1) by rw [Int.mul_add]; omega, Int.add_mul_ediv_left _ _ (by omega), Int.ediv_eq_zero_of_lt e1 e2]
    omega
  have a2 : (y + z - 1) / z = y / z + 1 := by
    rw [show y + z - 1 = (y % z - 1) + z * (y / z + 1) by rw [Int.mul_add]; omega, Int.add_mul_ediv_left _ _ (by omega), Int.ediv_eq_zero_of_lt (by omega) (by omega)]
    omega
  rw [a1, a2]
end
end M16

set_option Elab.async false
set_option linter.all false
set_option maxRecDepth 100000
set_option maxHeartbeats 4000000
namespace K35
open PySem PySem.Spec PyProof.Rows L2 Gu Ex
theorem same_upd {H : Hp} {p : Addr} {o : HO} (h : H p = none) : Same H (upd H p o) := fun b x e => by
  rw [upd_ne (ne_of_none e h)]
  exact e
theorem SzAt.same {C p : Addr} {H H' : Hp} {ns : List Int} (h : SzAt C H p ns) (s : Same H H') : SzAt C H' p ns := by
  obtain ⟨dx, l, a, b⟩ := h
  exact ⟨dx, l, s _ _ a, s _ _ b⟩
def sz (ns : List Int) (k : Nat) : Int := ns.getD k 0
theorem sz_at {ns : List Int} {k : Nat} (h : k < ns.length) : ns[k]? = some (sz ns k) := by
  unfold sz
  rw [List.getD_eq_getElem?_getD, List.getElem?_eq_getElem h]
  rfl
theorem chain {ns : List Int} (g : Good ns) : M16.Ch (sz ns) ns.length := by
  refine ⟨g.len.1, ?_, fun k h => (g.rng k _ (sz_at h)).1, fun k h => Int.dvd_of_emod_eq_zero (g.up k _ _ (sz_at (by omega)) (sz_at h)).2⟩
  have := (sz_at (ns := ns) (k := 0) (by have := g.len.1; omega)).symm.trans g.one
  exact Option.some.inj this
theorem sz_le {ns : List Int} (g : Good ns) {k : Nat} (h : k < ns.length) : sz ns k ≤ 1000000000 := (g.rng k _ (sz_at h)).2
theorem at_sz {ns : List Int} {k : Nat} (h : k < ns.length) : atI (ns.map V.int) (k : Int) = some (.int (sz ns k)) := at_map (sz_at h)
/-- objects at these addresses, told by f -/
inductive Refs {α : Type} (f : α → List V) (H : Hp) : List Addr → List α → Prop
  | nil : Refs f H [] []
  | cons {p : Addr} {ps : List Addr} {t : α} {ts : List α} : H p = some (.tup (f t)) → Refs f H ps ts → Refs f H (p :: ps) (t :: ts)
section
variable {α : Type} {f : α → List V} {H H' : Hp} {ps qs : List Addr} {ts us : List α}
theorem Refs.mono (h : Refs f H ps ts) (k : ∀ p xs, H p = some (.tup xs) → H' p = some (.tup xs)) : Refs f H' ps ts := by
  induction h with
  | nil => exact .nil
  | cons a _ ih => exact .cons (k _ _ a) ih
theorem Refs.same (h : Refs f H ps ts) (k : Same H H') : Refs f H' ps ts := h.mono fun p xs e => k p _ e
theorem Refs.app (h : Refs f H ps ts) (h2 : Refs f H qs us) : Refs f H (ps ++ qs) (ts ++ us) := by
  induction h with
  | nil => exact h2
  | cons b _ ih => exact .cons b ih
theorem Refs.one {p : Addr} {t : α} (h : H p = some (.tup (f t))) : Refs f H [p] [t] := .cons h .nil
theorem Refs.len (h : Refs f H ps ts) : ps.length = ts.length := by
  induction h with
  | nil => rfl
  | cons _ _ ih => rw [List.length_cons, List.length_cons, ih]
theorem Refs.get (h : Refs f H ps ts) : ∀ {i : Nat} {p : Addr}, ps[i]? = some p → ∃ t, ts[i]? = some t ∧ H p = some (.tup (f t)) := by
  induction h with
  | nil => intro i p e; cases e
  | cons a _ ih =>
    intro i p e
    cases i with
    | zero =>
      cases e
      exact ⟨_, rfl, a⟩
    | succ i => exact ih e
theorem Refs.at_ (h : Refs f H ps ts) {i : Nat} {t : α} (ht : ts[i]? = some t) : ∃ p, ps[i]? = some p ∧ H p = some (.tup (f t)) := by
  have hi : i < ts.length := (List.getElem?_eq_some_iff.mp ht).1
  have hi2 : i < ps.length := by rw [h.len]; exact hi
  obtain ⟨u, e1, e2⟩ := h.get (List.getElem?_eq_getElem hi2)
  rw [ht] at e1
  cases e1
  exact ⟨_, List.getElem?_eq_getElem hi2, e2⟩
theorem Refs.take (h : Refs f H ps ts) : ∀ n, Refs f H (ps.take n) (ts.take n) := by
  induction h with
  | nil => intro n; simp; exact .nil
  | cons a _ ih =>
    intro n
    cases n with
    | zero => exact .nil
    | succ n => exact .cons a (ih n)
theorem Refs.drop (h : Refs f H ps ts) : ∀ n, Refs f H (ps.drop n) (ts.drop n) := by
  induction h with
  | nil => intro n; simp; exact .nil
  | cons a b ih =>
    intro n
    cases n with
    | zero => exact .cons a b
    | succ n => exact ih n
theorem Refs.map_at {i : Nat} {p : Addr} (h : ps[i]? = some p) : atI (ps.map V.ref) (i : Int) = some (.ref p) := atI_nat (by rw [List.getElem?_map, h]; rfl)
end
section
variable {P : Program} {w : World} {K : PySem.W.Frag} {mg : Str → Option Value} {base : Heap} {f : Addr} {fd : FuncData}
def spCells : Sp := fun vs H Q _ => ∃ i : Int, vs = [.int i] ∧ 1 ≤ i ∧ i ≤ 1000000000000 ∧ Q (.bl true) H
theorem sc_is_cells : FnScope ["value"] ["value"] (defScope (top 14)) := ⟨rfl, rfl, rfl, by decide +kernel, rfl, by decide +kernel, by decide +kernel⟩
theorem ok_is_cells (T : Tx K mg) (D_is_integer : Df P w K mg base 1 "is_integer" ["value"] spInt) (F : FnP K "is_cells" "is_cells" (top 14) f fd) : FnOk P w K mg base CX0 2 f fd ["value"] spCells := by
  refine F.ok sc_is_cells (fun vs H Q E h => ?_) (fun cdv A outer s H vs Q E hr h => ⟨_, PSs.nox (pss_one (ps_ret (pe_and (pcall D_is_integer hr (pa_cons (pv 0) pa_nil)) (pe_one (pe_chain op_le op_le pe_int (pv 0) (ClX.pe_cval (pe_glob (v := .ref _) rfl T.g_Sizes rfl))))))), ?_⟩)
  · obtain ⟨i, rfl, _⟩ := h
    rfl
  · obtain ⟨i, rfl, h1, h2, q⟩ := h
    obtain ⟨u, cC⟩ := T.cC
    refine ⟨_, rfl, _, rfl, true, rfl, iteT ⟨_, rfl, _, _, rfl, rfl, _, rfl, ifT (decide_eq_true h1) ⟨_, _, _, _, rfl, T.rd, cC, _, _, rfl, rfl, ?_⟩⟩⟩
    have e : decide (i ≤ 1000000000000) = true := decide_eq_true h2
    show Q (.bl (decide (i ≤ 1000000000000))) H
    rw [e]
    exact q
def spCellsC : Sp := fun vs H Q _ => ∃ i : Int, vs = [.int i] ∧ 1 ≤ i ∧ i ≤ 1000000000000 ∧ Q .non H
theorem sc_check_cells : FnScope ["value"] ["value"] (defScope (top 15)) := ⟨rfl, rfl, rfl, by decide +kernel, rfl, by decide +kernel, by decide +kernel⟩
theorem ok_check_cells (T : Tx K mg) (D_is_cells : Df P w K mg base 2 "is_cells" ["value"] spCells) (F : FnP K "check_cells" "check_cells" (top 15) f fd) : FnOk P w K mg base CX0 3 f fd ["value"] spCellsC := by
  refine F.ok sc_check_cells (fun vs H Q E h => ?_) (fun cdv A outer s H vs Q E hr h => ⟨_, PSs.nox (pss_one (ps_if (pt_not (pt_val (pcall D_is_cells hr (pa_cons (pv 0) pa_nil)))) (pss_one ps_never) pss_nil)), ?_⟩)
  · obtain ⟨i, rfl, _⟩ := h
    rfl
  · obtain ⟨i, rfl, h1, h2, q⟩ := h
    exact ⟨_, rfl, _, rfl, h1, h2, true, rfl, iteF q⟩
def spWhole (K : PySem.W.Frag) : Sp := fun vs H Q _ => ∃ (p : Addr) (ns : List Int) (i : Nat) (x c : Int), vs = [.ref p, .int c, .int i] ∧ SzAt (He.ga K "Sizes") H p ns ∧ ns[i]? = some x ∧ 1 ≤ x ∧ 1 ≤ c ∧ c ≤ 1000000000000 ∧ Q (.int (c - c % x)) H
def spBelow (K : PySem.W.Frag) : Sp := fun vs H Q _ => ∃ (p : Addr) (ns : List Int) (i : Nat) (x a e : Int), vs = [.ref p, .int i, .int a, .int e] ∧ SzAt (He.ga K "Sizes") H p ns ∧ ns[i]? = some x ∧ 1 ≤ x ∧ Q (.bl (decide (a % x = 0 ∧ a + x ≤ e))) H
theorem sc_lies_below : FnScope ["sizes", "level", "address", "end", "size"] ["sizes", "level", "address", "end"] (defScope (top 25)) := ⟨rfl, rfl, rfl, by decide +kernel, rfl, by decide +kernel, by decide +kernel⟩
theorem ok_below (T : Tx K mg) (M_size : Mf P w K mg base 5 "Sizes" "size" ["self", "level"] (spSize K)) (F : FnP K "lies_below" "lies_below" (top 25) f fd) : FnOk P w K mg base CX0 6 f fd ["sizes", "level", "address", "end"] (spBelow K) := by
  refine F.ok sc_lies_below (fun vs H Q E h => ?_) (fun cdv A outer s H vs Q E hr h => ⟨_, PSs.nox (pss_cons (ps_set (i := 4) sc_lies_below.nd rfl (by first | exact Or.inl rfl | exact Or.inr rfl) (pmeth M_size hr (pv 0) (pa_cons (pv 1) pa_nil))) (pss_one (ps_ret (pe_and (pe_cmpR op_eq (pe_op op_mod (pv 2) (pv 4)) pe_int (nomark _)) (pe_one (pe_cmpR op_le (pe_op op_add (pv 2) (pv 4)) (pv 3) (nomark _))))))), ?_⟩)
  · obtain ⟨p, ns, i, x, a, e, rfl, _⟩ := h
    rfl
  · obtain ⟨p, ns, i, x, a, e, rfl, hz, hx, x1, q⟩ := h
    obtain ⟨dx, l, h1, h2⟩ := id hz
    refine ⟨_, rfl, p, dx, _, rfl, h1, szF_no l (by decide +kernel), _, rfl, p, ns, i, x, rfl, hz, hx, ?_⟩
    refine ⟨_, rfl, _, rfl, _, _, rfl, rfl, (by show (0 : Int) < x; omega), rfl, _, rfl, ?_⟩
    by_cases hm : a % x = 0
    · refine ifT (vT hm) ⟨_, rfl, _, rfl, _, _, rfl, rfl, _, rfl, _, _, rfl, rfl, ?_⟩
      have e2 : decide (a % x = 0 ∧ a + x ≤ e) = decide (a + x ≤ e) := by
        by_cases z : a + x ≤ e
        · rw [decide_eq_true z, decide_eq_true ⟨hm, z⟩]
        · rw [decide_eq_false z, decide_eq_false fun y => z y.2]
      rw [e2] at q
      exact q
    · have e2 : decide (a % x = 0 ∧ a + x ≤ e) = false := decide_eq_false fun y => hm y.1
      rw [e2] at q
      exact ifF (vF hm) q
/-- a right region -/
def spRegion (K : PySem.W.Frag) : Sp := fun vs H Q _ => ∃ (p : Addr) (ns : List Int) (i : Nat) (n a : Int), vs = [.ref p, .int n, .int i, .int a] ∧ SzAt (He.ga K "Sizes") H p ns ∧ Good ns ∧ i < ns.length ∧ 1 ≤ n ∧ n ≤ 1000000000000 ∧ 0 ≤ a ∧ a % sz ns i = 0 ∧ a + sz ns i ≤ n ∧ Q (.bl true) H
theorem sc_is_region : FnScope ["sizes", "length", "level", "address"] ["sizes", "length", "level", "address"] (defScope (top 26)) := ⟨rfl, rfl, rfl, by decide +kernel, rfl, by decide +kernel, by decide +kernel⟩
theorem ok_is_region (T : Tx K mg) (D_check_cells : Df P w K mg base 3 "check_cells" ["value"] spCellsC) (M_has_level : Mf P w K mg base 3 "Sizes" "has_level" ["self", "level"] (spHas K)) (D_is_address : Df P w K mg base 2 "is_address" ["value"] spAddr)
    (D_lies_below : Df P w K mg base 6 "lies_below" ["sizes", "level", "address", "end"] (spBelow K)) (F : FnP K "is_region" "is_region" (top 26) f fd) : FnOk P w K mg base CX0 7 f fd ["sizes", "length", "level", "address"] (spRegion K) := by
  refine F.ok sc_is_region (fun vs H Q E h => ?_) (fun cdv A outer s H vs Q E hr h => ⟨_, PSs.nox (pss_cons (ps_expr (pcall D_check_cells hr (pa_cons (pv 1) pa_nil))) (pss_one (ps_ret (pe_and (pmeth M_has_level hr (pv 0) (pa_cons (pv 2) pa_nil)) (pe_and (pcall D_is_address hr (pa_cons (pv 3) pa_nil)) (pe_one (pcall D_lies_below hr (pa_cons (pv 0) (pa_cons (pv 2) (pa_cons (pv 3) (pa_cons (pv 1) pa_nil))))))))))), ?_⟩)
  · obtain ⟨p, ns, i, n, a, rfl, _⟩ := h
    rfl
  · obtain ⟨p, ns, i, n, a, rfl, hz, g, hi, n1, n2, a0, a1, a2, q⟩ := h
    obtain ⟨dx, l, h1, h2⟩ := id hz
    refine ⟨_, rfl, n, rfl, n1, n2, ?_⟩
    refine ⟨_, rfl, p, dx, _, rfl, h1, szF_no l (by decide +kernel), _, rfl, p, ns, i, rfl, hz, hi, true, rfl, iteT ⟨_, rfl, a, rfl, a0, true, rfl, iteT ?_⟩⟩
    refine ⟨_, rfl, _, rfl, _, rfl, _, rfl, p, ns, i, _, a, n, rfl, hz, sz_at hi, (chain g).pos i hi, ?_⟩
    rw [decide_eq_true (show a % sz ns i = 0 ∧ a + sz ns i ≤ n from ⟨a1, a2⟩)]
    exact q
end
end K35

set_option Elab.async false
set_option linter.all false
set_option maxRecDepth 100000
set_option maxHeartbeats 4000000
namespace K35
open PySem PySem.Spec PyProof.Rows L2 Gu Ex
def layF (zp : Addr) (n fr : Int) (bl : Addr) : List (Str × V) := [("size_table", .ref zp), ("cell_count", .int n), ("free_count", .int fr), ("block_list", .ref bl)]
section
variable (zp bl : Addr) (n fr : Int)
theorem lay_st : (layF zp n fr bl).lookup ("size_table" : Str) = some (.ref zp) := by simp [layF, List.lookup]
theorem lay_cc : (layF zp n fr bl).lookup ("cell_count" : Str) = some (.int n) := by
  have e : (("cell_count" : Str) == ("size_table" : Str)) = false := by decide +kernel
  simp [layF, List.lookup, e]
theorem lay_fc : (layF zp n fr bl).lookup ("free_count" : Str) = some (.int fr) := by
  have e : (("free_count" : Str) == ("size_table" : Str)) = false := by decide +kernel
  have e2 : (("free_count" : Str) == ("cell_count" : Str)) = false := by decide +kernel
  simp [layF, List.lookup, e, e2]
theorem lay_bl : (layF zp n fr bl).lookup ("block_list" : Str) = some (.ref bl) := by
  have e : (("block_list" : Str) == ("size_table" : Str)) = false := by decide +kernel
  have e2 : (("block_list" : Str) == ("cell_count" : Str)) = false := by decide +kernel
  have e3 : (("block_list" : Str) == ("free_count" : Str)) = false := by decide +kernel
  simp [layF, List.lookup, e, e2, e3]
theorem lay_no {m : Str} (h1 : (m == ("size_table" : Str)) = false) (h2 : (m == ("cell_count" : Str)) = false) (h3 : (m == ("free_count" : Str)) = false) (h4 : (m == ("block_list" : Str)) = false) : (layF zp n fr bl).lookup m = none := by
  simp [layF, List.lookup, h1, h2, h3, h4]
theorem lay_put (z : Int) : putF "free_count" (.int z) (layF zp n fr bl) = layF zp n z bl := by
  have e : (("size_table" : Str) = ("free_count" : Str)) = False := by
    simp only [eq_iff_iff, iff_false]
    decide +kernel
  have e2 : (("cell_count" : Str) = ("free_count" : Str)) = False := by
    simp only [eq_iff_iff, iff_false]
    decide +kernel
  simp [layF, putF, e, e2]
end
/-- a block: address, level, is it pinned -/
abbrev Blk : Type := Int × Nat × Bool
def blkV (b : Blk) : List V := [.int b.1, .int (b.2.1 : Nat), .bl b.2.2]
def bEnd (ns : List Int) (b : Blk) : Int := b.1 + sz ns b.2.1
structure Wf (ns : List Int) (n : Int) (bs : List Blk) : Prop where
  ok : ∀ b ∈ bs, b.2.1 < ns.length ∧ 0 ≤ b.1 ∧ sz ns b.2.1 ∣ b.1 ∧ bEnd ns b ≤ n
  so : bs.Pairwise fun b c => bEnd ns b ≤ c.1
def tot (ns : List Int) (bs : List Blk) : Int := (bs.map fun b => sz ns b.2.1).sum
structure Ly (K : PySem.W.Frag) (H : Hp) (y zp bl dx : Addr) (ps : List Addr) (ns : List Int) (n : Int) (bs : List Blk) : Prop where
  at_ : H y = some (.ins (He.ga K "Layout") dx (layF zp n (n - tot ns bs) bl))
  szs : SzAt (He.ga K "Sizes") H zp ns
  lst : H bl = some (.lst (ps.map V.ref))
  rf : Refs blkV H ps bs
  wf : Wf ns n bs
  gd : Good ns
  n1 : 1 ≤ n
  n2 : n ≤ 1000000000000
  ln : bs.length ≤ 1000
  ap : ∃ dz l, H zp = some (.ins (He.ga K "Sizes") dz (szF l)) ∧ H l = some (.lst (ns.map V.int)) ∧ l ≠ bl
section
variable {K : PySem.W.Frag} {H H' : Hp} {y zp bl dx : Addr} {ps : List Addr} {ns : List Int} {n : Int} {bs : List Blk}
theorem Ly.same (h : Ly K H y zp bl dx ps ns n bs) (s : Same H H') : Ly K H' y zp bl dx ps ns n bs := ⟨s _ _ h.at_, h.szs.same s, s _ _ h.lst, h.rf.same s, h.wf, h.gd, h.n1, h.n2, h.ln, h.ap.elim fun dz z => z.elim fun l z => ⟨dz, l, s _ _ z.1, s _ _ z.2.1, z.2.2⟩⟩
theorem Wf.pos (w : Wf ns n bs) (g : Good ns) {b : Blk} (h : b ∈ bs) : 1 ≤ sz ns b.2.1 := (chain g).pos _ (w.ok b h).1
/-- the addresses rise -/
theorem Wf.lt (w : Wf ns n bs) (g : Good ns) {i j : Nat} {b c : Blk} (hi : bs[i]? = some b) (hj : bs[j]? = some c) (h : i < j) : bEnd ns b ≤ c.1 ∧ b.1 < c.1 := by
  obtain ⟨h1, e1⟩ := List.getElem?_eq_some_iff.mp hi
  obtain ⟨h2, e2⟩ := List.getElem?_eq_some_iff.mp hj
  have p := List.pairwise_iff_getElem.mp w.so i j h1 h2 h
  rw [e1, e2] at p
  have z := w.pos g (List.mem_of_getElem? hi)
  unfold bEnd at p
  exact ⟨p, by omega⟩
/-- the layout's own objects lie apart from the sizes -/
theorem Ly.far (L : Ly K H y zp bl dx ps ns n bs) : ∃ dz l, H zp = some (.ins (He.ga K "Sizes") dz (szF l)) ∧ H l = some (.lst (ns.map V.int)) ∧ zp ≠ y ∧ zp ≠ bl ∧ l ≠ bl ∧ l ≠ y ∧ y ≠ bl := by
  obtain ⟨dz, l, z1, z2, nb⟩ := L.ap
  refine ⟨dz, l, z1, z2, fun e => ?_, fun e => ?_, nb, fun e => ?_, fun e => ?_⟩
  · rw [e, L.at_] at z1
    have z3 := congrArg List.length (HO.ins.inj (Option.some.inj z1)).2.2
    cases z3
  · rw [e, L.lst] at z1
    cases z1
  · rw [e, L.at_] at z2
    cases z2
  · have a := L.at_
    rw [e, L.lst] at a
    cases a
/-- how many blocks start below a -/
def Below (bs : List Blk) (a : Int) (i : Nat) : Prop := i ≤ bs.length ∧ ∀ j b, bs[j]? = some b → (j < i ↔ b.1 < a)
end
section
variable {P : Program} {w : World} {K : PySem.W.Frag} {mg : Str → Option Value} {base : Heap} {f : Addr} {fd : FuncData}
def spNew (K : PySem.W.Frag) : Sp := fun vs H Q _ => ∃ (y zp dx : Addr) (ns : List Int) (n : Int), vs = [.ref y, .ref zp, .int n] ∧ H y = some (.ins (He.ga K "Layout") dx []) ∧ SzAt (He.ga K "Sizes") H zp ns ∧ Good ns ∧ 1 ≤ n ∧ n ≤ 1000000000000 ∧
  ∀ bl H', H bl = none → (∀ c o, c ≠ y → H c = some o → H' c = some o) → Ly K H' y zp bl dx [] ns n [] → Q .non H'
theorem sc_Layout_init : FnScope ["self", "sizes", "length"] ["self", "sizes", "length"] (defScope (inClass (top 41) 0)) := ⟨rfl, rfl, rfl, by decide +kernel, rfl, by decide +kernel, by decide +kernel⟩
theorem ok_new (T : Tx K mg) (D_check_cells : Df P w K mg base 3 "check_cells" ["value"] spCellsC) (F : FnP K "__init__" "Layout.__init__" (inClass (top 41) 0) f fd) : FnOk P w K mg base CX0 4 f fd ["self", "sizes", "length"] (spNew K) := by
  refine F.ok sc_Layout_init (fun vs H Q E h => ?_) (fun cdv A outer s H vs Q E hr h => ⟨_, PSs.nox (pss_cons (ps_expr (pcall D_check_cells hr (pa_cons (pv 2) pa_nil))) (pss_cons (ps_fld (pv 0) (pv 1) rfl) (pss_cons (ps_fld (pv 0) (pv 2) rfl) (pss_cons (ps_fld (pv 0) (pv 2) rfl) (pss_one (ps_fld (pv 0) (pe_lst pa_nil) rfl)))))), ?_⟩)
  · obtain ⟨y, zp, dx, ns, n, rfl, _⟩ := h
    rfl
  · obtain ⟨y, zp, dx, ns, n, rfl, hy, hz, g, n1, n2, q⟩ := h
    have few : ∀ k, k < 10 → k < 1000 := fun k h => by omega
    refine ⟨_, rfl, n, rfl, n1, n2, ?_⟩
    refine ⟨_, rfl, _, rfl, y, _, dx, _, rfl, hy, T.ly, T.nST, (by show 0 < 1000; decide), ?_⟩
    refine ⟨_, rfl, _, rfl, y, _, dx, _, rfl, upd_same, T.ly, T.nCC, (by show 1 < 1000; decide), ?_⟩
    refine ⟨_, rfl, _, rfl, y, _, dx, _, rfl, upd_same, T.ly, T.nFC, (by show 2 < 1000; decide), ?_⟩
    refine ⟨Nat.zero_le _, fun bl hbl => ⟨_, rfl, y, _, dx, _, rfl, (by rw [upd_ne (ne_of_none (o := .ins (He.ga K "Layout") dx (putF "free_count" (.int n) (putF "cell_count" (.int n) (putF "size_table" (.ref zp) []))))  upd_same hbl)]; exact upd_same), T.ly, T.nBL, (by show 3 < 1000; decide), ?_⟩⟩
    have nyb : y ≠ bl := ne_of_none (o := .ins (He.ga K "Layout") dx (putF "free_count" (.int n) (putF "cell_count" (.int n) (putF "size_table" (.ref zp) [])))) upd_same hbl
    have nb : H bl = none := by
      rw [upd_ne nyb.symm, upd_ne nyb.symm, upd_ne nyb.symm] at hbl
      exact hbl
    have keep : ∀ {c : Addr} {o : HO}, c ≠ y → H c = some o → (upd (upd (upd (upd (upd H y (.ins (He.ga K "Layout") dx (putF "size_table" (.ref zp) []))) y (.ins (He.ga K "Layout") dx (putF "cell_count" (.int n) (putF "size_table" (.ref zp) [])))) y (.ins (He.ga K "Layout") dx (putF "free_count" (.int n) (putF "cell_count" (.int n) (putF "size_table" (.ref zp) []))))) bl (.lst [])) y (.ins (He.ga K "Layout") dx (putF "block_list" (.ref bl) (putF "free_count" (.int n) (putF "cell_count" (.int n) (putF "size_table" (.ref zp) [])))))) c = some o := fun {c o} hc e => by
      rw [upd_ne hc, upd_ne (ne_of_none e nb), upd_ne hc, upd_ne hc, upd_ne hc]
      exact e
    obtain ⟨dz, l, z1, z2⟩ := id hz
    have ny1 : zp ≠ y := fun e => by
      rw [e, hy] at z1
      have z3 := (HO.ins.inj (Option.some.inj z1)).2.2
      cases z3
    have ny2 : l ≠ y := fun e => by
      rw [e, hy] at z2
      cases z2
    refine q bl _ nb (fun c o hc e => keep hc e) ⟨?_, ⟨dz, l, keep ny1 z1, keep ny2 z2⟩, ?_, .nil, ⟨fun b hb => absurd hb List.not_mem_nil, .nil⟩, g, n1, n2, Nat.zero_le _, ⟨dz, l, keep ny1 z1, keep ny2 z2, ne_of_none z2 nb⟩⟩
    · rw [upd_same]
      have e : n - tot ns [] = n := by simp [tot]
      rw [e]
      rfl
    · rw [upd_ne nyb.symm, upd_same]
      rfl
def spCB (K : PySem.W.Frag) : Sp := fun vs H Q _ => ∃ (y zp bl dx : Addr) (ps : List Addr) (ns : List Int) (n a : Int) (bs : List Blk), vs = [.ref y, .int a] ∧ Ly K H y zp bl dx ps ns n bs ∧ ∀ i : Nat, Below bs a i → Q (.int i) H
theorem sc_count_below : FnScope ["self", "address", "low", "high", "middle"] ["self", "address"] (defScope (inClass (top 41) 9)) := ⟨rfl, rfl, rfl, by decide +kernel, rfl, by decide +kernel, by decide +kernel⟩
theorem ok_cb (T : Tx K mg) (F : FnP K "count_below" "Layout.count_below" (inClass (top 41) 9) f fd) : FnOk P w K mg base CX0 1 f fd ["self", "address"] (spCB K) := by
  refine F.ok sc_count_below (fun vs H Q E h => ?_) (fun cdv A outer s H vs Q E hr h => ⟨_, PSs.nox (pss_cons (ps_set (i := 2) sc_count_below.nd rfl (by first | exact Or.inl rfl | exact Or.inr rfl) pe_int) (pss_cons (ps_set (i := 3) sc_count_below.nd rfl (by first | exact Or.inl rfl | exact Or.inr rfl) (pe_callB call_len_seq (by rfl) T.n_len (by decide +kernel) (pa_cons (pe_fld (pv 0) rfl) pa_nil))) (pss_cons (ps_while PassesOwn.never (pt_cmpR op_lt (pv 2) (pv 3) (nomark _)) (pss_cons (ps_set (i := 4) sc_count_below.nd rfl (by first | exact Or.inl rfl | exact Or.inr rfl) (pe_op op_fdivW (pe_op op_add (pv 2) (pv 3)) pe_int)) (pss_one (ps_if (pt_cmpR op_lt (pe_ix ix_tup (pe_ix ix_list (pe_fld (pv 0) rfl) (pv 4) (fun _ _ => rfl)) pe_int (fun _ _ => rfl)) (pv 1) (nomark _)) (pss_one (ps_set (i := 2) sc_count_below.nd rfl (by first | exact Or.inl rfl | exact Or.inr rfl) (pe_op op_add (pv 4) pe_int))) (pss_one (ps_set (i := 3) sc_count_below.nd rfl (by first | exact Or.inl rfl | exact Or.inr rfl) (pv 4))))))) (pss_one (ps_ret (pv 2)))))), ?_⟩)
  · obtain ⟨y, zp, bl, dx, ps, ns, n, a, bs, rfl, _⟩ := h
    rfl
  · obtain ⟨y, zp, bl, dx, ps, ns, n, a, bs, rfl, L, q⟩ := h
    have pl := L.rf.len
    have sl : sizeLine = 16777216 := sizeLine_eq
    refine ⟨_, rfl, y, _, dx, _, _, rfl, L.at_, T.ly, T.nBL, lay_bl .., bl, _, rfl, .inl (SqL.of L.lst), ?_⟩
    refine ⟨fun m σ G => ∃ (lo hi : Nat) (x : Option V), m = hi - lo ∧ G = H ∧ σ = [some (.ref y), some (.int a), some (.int (lo : Nat)), some (.int (hi : Nat)), x] ∧ lo ≤ hi ∧ hi ≤ bs.length ∧ (∀ j b, bs[j]? = some b → j < lo → b.1 < a) ∧ (∀ j b, bs[j]? = some b → hi ≤ j → a ≤ b.1),
      ⟨_, 0, bs.length, none, rfl, rfl, (by rw [List.length_map, pl]; rfl), Nat.zero_le _, Nat.le_refl _, fun j b _ h => absurd h (Nat.not_lt_zero _), fun j b hb h => by
        have := (List.getElem?_eq_some_iff.mp hb).1
        omega⟩, ?_⟩
    rintro m σ G ⟨lo, hi, x, rfl, rfl, rfl, h1, h2, h3, h4⟩
    refine ⟨_, rfl, _, rfl, _, _, rfl, rfl, _, rfl, ?_⟩
    by_cases hc : (lo : Int) < (hi : Int)
    · refine ifT (decide_eq_true hc) ?_
      have em : ((lo : Int) + (hi : Int)) / 2 = (((lo + hi) / 2 : Nat) : Int) := by omega
      have mlt : (lo + hi) / 2 < bs.length := by omega
      obtain ⟨b, hb⟩ : ∃ b, bs[(lo + hi) / 2]? = some b := ⟨_, List.getElem?_eq_getElem mlt⟩
      obtain ⟨p, hp, hT⟩ := L.rf.at_ hb
      refine ⟨fun σ' G' => ∃ (lo' hi' : Nat) (x : Option V), hi' - lo' < hi - lo ∧ G' = G ∧ σ' = [some (.ref y), some (.int a), some (.int (lo' : Nat)), some (.int (hi' : Nat)), x] ∧ lo' ≤ hi' ∧ hi' ≤ bs.length ∧ (∀ j b, bs[j]? = some b → j < lo' → b.1 < a) ∧ (∀ j b, bs[j]? = some b → hi' ≤ j → a ≤ b.1),
        fun σ' G' ⟨lo', hi', x, hl, r⟩ => ⟨hi' - lo', hl, lo', hi', x, rfl, r⟩, ?_⟩
      refine ⟨_, rfl, _, rfl, _, _, rfl, rfl, _, _, rfl, rfl, wide_div (b := 64) (by decide) (by decide) (by decide) (by decide), ?_⟩
      refine ⟨_, rfl, y, _, dx, _, _, rfl, L.at_, T.ly, T.nBL, lay_bl .., _, rfl, bl, _, _, _, rfl, rfl, SqL.of L.lst, (by rw [em]; exact Refs.map_at hp), p, _, _, _, rfl, rfl, SqT.of hT, rfl, _, rfl, _, _, rfl, rfl, _, rfl, ?_⟩
      by_cases hb2 : b.1 < a
      · refine ifT (decide_eq_true hb2) ⟨_, rfl, _, _, rfl, rfl, (lo + hi) / 2 + 1, hi, some (.int (((lo : Int) + (hi : Int)) / 2)), by omega, rfl, ?_, by omega, h2, fun j c hj hlt => ?_, h4⟩
        · show [some (V.ref y), some (V.int a), some (V.int (((lo : Int) + (hi : Int)) / 2 + 1)), some (V.int hi), some (V.int (((lo : Int) + (hi : Int)) / 2))] = _
          rw [em]
          rfl
        · by_cases e : j = (lo + hi) / 2
          · rw [e, hb] at hj
            cases hj
            exact hb2
          · have := (L.wf.lt L.gd hj hb (by omega)).2
            omega
      · refine ifF (decide_eq_false hb2) ⟨_, rfl, lo, (lo + hi) / 2, some (.int (((lo : Int) + (hi : Int)) / 2)), by omega, rfl, ?_, by omega, by omega, h3, fun j c hj hle => ?_⟩
        · show [some (V.ref y), some (V.int a), some (V.int lo), some (V.int (((lo : Int) + (hi : Int)) / 2)), some (V.int (((lo : Int) + (hi : Int)) / 2))] = _
          rw [em]
        · by_cases e : j = (lo + hi) / 2
          · rw [e, hb] at hj
            cases hj
            omega
          · have := (L.wf.lt L.gd hb hj (by omega)).2
            omega
    · refine ifF (decide_eq_false hc) ⟨_, rfl, q lo ⟨by omega, fun j b hb => ⟨h3 j b hb, fun hlt => ?_⟩⟩⟩
      have := h4 j b hb
      omega
end
end K35

set_option Elab.async false
set_option linter.all false
set_option maxRecDepth 100000
set_option maxHeartbeats 4000000
namespace K35
open PySem PySem.Spec PyProof.Rows L2 Gu Ex
theorem lay_nm {zp bl : Addr} {n fr : Int} {m : Str} (h : (m == ("size_table" : Str) || (m == ("cell_count" : Str) || (m == ("free_count" : Str) || m == ("block_list" : Str)))) = false) : (layF zp n fr bl).lookup m = none := by
  obtain ⟨h1, h⟩ := Bool.or_eq_false_iff.mp h
  obtain ⟨h2, h⟩ := Bool.or_eq_false_iff.mp h
  obtain ⟨h3, h4⟩ := Bool.or_eq_false_iff.mp h
  exact lay_no zp bl n fr h1 h2 h3 h4
section
variable {ns : List Int} {n : Int} {bs : List Blk}
/-- the place of a block that starts at a -/
theorem Below.at_ {a : Int} {i j : Nat} {b : Blk} (w : Wf ns n bs) (g : Good ns) (h : Below bs a i) (hj : bs[j]? = some b) (e : b.1 = a) : i = j := by
  have h1 := (h.2 j b hj)
  by_cases hij : i < j
  · have hi : i < bs.length := by
      have := (List.getElem?_eq_some_iff.mp hj).1
      omega
    have h2 := h.2 i _ (List.getElem?_eq_getElem hi)
    have h3 := (w.lt g (List.getElem?_eq_getElem hi) hj hij).2
    omega
  · omega
/-- the block that may contain a -/
theorem Below.holds {a : Int} {i : Nat} {c : Blk} (w : Wf ns n bs) (g : Good ns) (h : Below bs (a + 1) i) (hc : c ∈ bs) (h1 : c.1 ≤ a) (h2 : a < bEnd ns c) : 0 < i ∧ bs[i - 1]? = some c := by
  obtain ⟨j, hj, rfl⟩ := List.getElem_of_mem hc
  have ej := List.getElem?_eq_getElem hj
  have k := (h.2 j _ ej).mpr (by omega)
  refine ⟨by omega, ?_⟩
  have l := h.1
  by_cases e : j = i - 1
  · rw [← e]
    exact ej
  · have hi : i - 1 < bs.length := by omega
    have p := (w.lt g ej (List.getElem?_eq_getElem hi) (by omega)).1
    have k2 := (h.2 (i - 1) _ (List.getElem?_eq_getElem hi)).mp (by omega)
    omega
end
section
variable {P : Program} {w : World} {K : PySem.W.Frag} {mg : Str → Option Value} {base : Heap} {f : Addr} {fd : FuncData}
def spIx (K : PySem.W.Frag) : Sp := fun vs H Q _ => ∃ (y zp bl dx : Addr) (ps : List Addr) (ns : List Int) (n a : Int) (bs : List Blk) (j : Nat) (b : Blk), vs = [.ref y, .int a] ∧ Ly K H y zp bl dx ps ns n bs ∧ bs[j]? = some b ∧ b.1 = a ∧ Q (.int j) H
theorem sc_index_of : FnScope ["self", "address", "index"] ["self", "address"] (defScope (inClass (top 41) 10)) := ⟨rfl, rfl, rfl, by decide +kernel, rfl, by decide +kernel, by decide +kernel⟩
theorem ok_ix (T : Tx K mg) (D_is_integer : Df P w K mg base 1 "is_integer" ["value"] spInt) (M_count_below : Mf P w K mg base 1 "Layout" "count_below" ["self", "address"] (spCB K)) (F : FnP K "index_of" "Layout.index_of" (inClass (top 41) 10) f fd) :
    FnOk P w K mg base CX0 2 f fd ["self", "address"] (spIx K) := by
  refine F.ok sc_index_of (fun vs H Q E h => ?_) (fun cdv A outer s H vs Q E hr h => ⟨_, PSs.nox (pss_cons (ps_if (pt_val (pcall D_is_integer hr (pa_cons (pv 1) pa_nil))) (pss_cons (ps_set (i := 2) sc_index_of.nd rfl (by first | exact Or.inl rfl | exact Or.inr rfl) (pmeth M_count_below hr (pv 0) (pa_cons (pv 1) pa_nil))) (pss_one (ps_if (PW.pt (pw_and (pt_cmpR op_lt (pv 2) (pe_callB call_len_seq (by rfl) T.n_len (by decide +kernel) (pa_cons (pe_fld (pv 0) rfl) pa_nil)) (nomark _)) (pw_and1 (pt_cmpR op_eq (pe_ix ix_tup (pe_ix ix_list (pe_fld (pv 0) rfl) (pv 2) (fun _ _ => rfl)) pe_int (fun _ _ => rfl)) (pv 1) (nomark _))))) (pss_one (ps_ret (pv 2))) pss_nil))) pss_nil) (pss_one ps_never)), ?_⟩)
  · obtain ⟨y, zp, bl, dx, ps, ns, n, a, bs, j, b, rfl, _⟩ := h
    rfl
  · obtain ⟨y, zp, bl, dx, ps, ns, n, a, bs, j, b, rfl, L, hj, hb, q⟩ := h
    refine ⟨_, rfl, a, rfl, true, rfl, iteT ?_⟩
    refine ⟨_, rfl, y, dx, _, rfl, L.at_, lay_nm (by decide +kernel), _, rfl, y, zp, bl, dx, ps, ns, n, a, bs, rfl, L, fun i hi => ?_⟩
    obtain rfl := hi.at_ L.wf L.gd hj hb
    obtain ⟨p, hp, hT⟩ := L.rf.at_ hj
    have jl := (List.getElem?_eq_some_iff.mp hj).1
    have pl := L.rf.len
    refine ⟨_, rfl, _, rfl, y, _, dx, _, _, rfl, L.at_, T.ly, T.nBL, lay_bl .., bl, _, rfl, .inl (SqL.of L.lst), _, _, rfl, rfl, _, rfl, ifT (decide_eq_true (by rw [List.length_map]; omega)) ?_⟩
    exact ⟨_, rfl, y, _, dx, _, _, rfl, L.at_, T.ly, T.nBL, lay_bl .., _, rfl, bl, _, _, _, rfl, rfl, SqL.of L.lst, Refs.map_at hp, p, _, _, _, rfl, rfl, SqT.of hT, rfl, _, rfl, rfl, _, rfl, ifT (vT hb) ⟨_, rfl, q⟩⟩
def spAt (K : PySem.W.Frag) : Sp := fun vs H Q _ => ∃ (y zp bl dx : Addr) (ps : List Addr) (ns : List Int) (n a : Int) (bs : List Blk), vs = [.ref y, .int a] ∧ Ly K H y zp bl dx ps ns n bs ∧ 0 ≤ a ∧ a < n ∧
  ((∀ b ∈ bs, ¬ (b.1 ≤ a ∧ a < bEnd ns b)) → Q .non H) ∧ (∀ b ∈ bs, b.1 ≤ a → a < bEnd ns b → ∀ t, H t = none → Q (.ref t) (upd H t (.tup (blkV b))))
theorem sc_block_at : FnScope ["self", "address", "index", "start", "level", "is_pinned"] ["self", "address"] (defScope (inClass (top 41) 11)) := ⟨rfl, rfl, rfl, by decide +kernel, rfl, by decide +kernel, by decide +kernel⟩
theorem ok_at (T : Tx K mg) (D_is_address : Df P w K mg base 2 "is_address" ["value"] spAddr) (M_count_below : Mf P w K mg base 1 "Layout" "count_below" ["self", "address"] (spCB K)) (M_size : Mf P w K mg base 5 "Sizes" "size" ["self", "level"] (spSize K))
    (F : FnP K "block_at" "Layout.block_at" (inClass (top 41) 11) f fd) : FnOk P w K mg base CX0 6 f fd ["self", "address"] (spAt K) := by
  refine F.ok sc_block_at (fun vs H Q E h => ?_) (fun cdv A outer s H vs Q E hr h => ⟨_, PSs.nox (pss_cons (ps_if (PW.pt (pw_or (pt_not (pt_val (pcall D_is_address hr (pa_cons (pv 1) pa_nil)))) (pw_or1 (pt_cmpR op_ge (pv 1) (pe_fld (pv 0) rfl) (nomark _))))) (pss_one ps_never) pss_nil) (pss_cons (ps_set (i := 2) sc_block_at.nd rfl (by first | exact Or.inl rfl | exact Or.inr rfl) (pe_op op_sub (pmeth M_count_below hr (pv 0) (pa_cons (pe_op op_add (pv 1) pe_int) pa_nil)) pe_int)) (pss_cons (ps_if (pt_cmpR op_lt (pv 2) pe_int (nomark _)) (pss_one (ps_ret pe_non)) pss_nil) (pss_cons (ps_asg (pe_ix ix_list (pe_fld (pv 0) rfl) (pv 2) (fun _ _ => rfl)) (pg_tup (by rfl) (pgs_cons (pg_name (i := 3) sc_block_at.nd rfl (by first | exact Or.inl rfl | exact Or.inr rfl)) (pgs_cons (pg_name (i := 4) sc_block_at.nd rfl (by first | exact Or.inl rfl | exact Or.inr rfl)) (pgs_cons (pg_name (i := 5) sc_block_at.nd rfl (by first | exact Or.inl rfl | exact Or.inr rfl)) pgs_nil))))) (pss_one (ps_ret (pe_ifExp (pt_cmpR op_lt (pv 1) (pe_op op_add (pv 3) (pmeth M_size hr (pe_fld (pv 0) rfl) (pa_cons (pv 4) pa_nil))) (nomark _)) (pe_tup (pa_cons (pv 3) (pa_cons (pv 4) (pa_cons (pv 5) pa_nil)))) pe_non))))))), ?_⟩)
  · obtain ⟨y, zp, bl, dx, ps, ns, n, a, bs, rfl, _⟩ := h
    rfl
  · obtain ⟨y, zp, bl, dx, ps, ns, n, a, bs, rfl, L, a0, a1, q1, q2⟩ := h
    refine ⟨_, rfl, a, rfl, a0, true, rfl, iteF ⟨_, rfl, _, rfl, y, _, dx, _, _, rfl, L.at_, T.ly, T.nCC, lay_cc .., _, _, rfl, rfl, _, rfl, ifF (decide_eq_false (by omega)) ?_⟩⟩
    refine ⟨_, rfl, y, dx, _, rfl, L.at_, lay_nm (by decide +kernel), _, rfl, _, _, rfl, rfl, y, zp, bl, dx, ps, ns, n, a + 1, bs, rfl, L, fun i hi => ⟨_, _, rfl, rfl, ?_⟩⟩
    refine ⟨_, rfl, _, _, rfl, rfl, _, rfl, ?_⟩
    by_cases h0 : ((i : Int) - 1) < 0
    · refine ifT (decide_eq_true h0) (q1 fun b hb hh => ?_)
      have := (hi.holds L.wf L.gd hb hh.1 hh.2).1
      omega
    · refine ifF (decide_eq_false h0) ?_
      have e : ((i : Int) - 1) = ((i - 1 : Nat) : Int) := by omega
      have il : i - 1 < bs.length := by have := hi.1; omega
      obtain ⟨b, hb⟩ : ∃ b, bs[i - 1]? = some b := ⟨_, List.getElem?_eq_getElem il⟩
      have bm := List.mem_of_getElem? hb
      obtain ⟨p, hp, hT⟩ := L.rf.at_ hb
      have b1 := (hi.2 _ _ hb).mp (by omega)
      have bk := (L.wf.ok b bm).1
      obtain ⟨dz, l, z1, z2⟩ := id L.szs
      have hT' : H p = some (.tup [.int b.1, .int (b.2.1 : Nat), .bl b.2.2]) := hT
      refine ⟨_, rfl, y, _, dx, _, _, rfl, L.at_, T.ly, T.nBL, lay_bl .., _, rfl, bl, _, _, _, rfl, rfl, SqL.of L.lst, (by rw [e]; exact Refs.map_at hp), p, _, rfl, .inl (.inl hT'), rfl, _, _, rfl, _, _, rfl, _, _, rfl, rfl, ?_⟩
      refine ⟨_, rfl, _, rfl, _, rfl, y, _, dx, _, _, rfl, L.at_, T.ly, T.nST, lay_st .., zp, dz, _, rfl, z1, szF_no l (by decide +kernel), _, rfl, zp, ns, b.2.1, _, rfl, L.szs, sz_at bk, _, _, rfl, rfl, _, _, rfl, rfl, _, rfl, ?_⟩
      by_cases hc : a < b.1 + sz ns b.2.1
      · exact ifT (decide_eq_true hc) ⟨_, rfl, _, rfl, _, rfl, (by show 3 ≤ sizeLine; decide), fun t ht => q2 b bm (by omega) hc t ht⟩
      · refine ifF (decide_eq_false hc) (q1 fun c hcm hh => ?_)
        have e2 := (hi.holds L.wf L.gd hcm hh.1 hh.2).2
        rw [hb] at e2
        cases e2
        exact hc hh.2
/-- a range without a block -/
def FreeR (ns : List Int) (bs : List Blk) (lo hi : Int) : Prop := ∀ b ∈ bs, bEnd ns b ≤ lo ∨ hi ≤ b.1
def spFirst (K : PySem.W.Frag) : Sp := fun vs H Q _ => ∃ (y zp bl dx : Addr) (ps : List Addr) (ns : List Int) (n lo hi : Int) (bs : List Blk), vs = [.ref y, .int lo, .int hi] ∧ Ly K H y zp bl dx ps ns n bs ∧ 0 ≤ lo ∧ lo < hi ∧ hi ≤ n ∧ FreeR ns bs lo hi ∧ Q .non H
theorem sc_first_taken : FnScope ["self", "low", "high", "index"] ["self", "low", "high"] (defScope (inClass (top 41) 12)) := ⟨rfl, rfl, rfl, by decide +kernel, rfl, by decide +kernel, by decide +kernel⟩
theorem ok_first (T : Tx K mg) (M_block_at : Mf P w K mg base 6 "Layout" "block_at" ["self", "address"] (spAt K)) (M_count_below : Mf P w K mg base 1 "Layout" "count_below" ["self", "address"] (spCB K)) (F : FnP K "first_taken" "Layout.first_taken" (inClass (top 41) 12) f fd) :
    FnOk P w K mg base CX0 7 f fd ["self", "low", "high"] (spFirst K) := by
  refine F.ok sc_first_taken (fun vs H Q E h => ?_) (fun cdv A outer s H vs Q E hr h => ⟨_, PSs.nox (pss_cons (ps_if (pt_cmpR op_notN (pmeth M_block_at hr (pv 0) (pa_cons (pv 1) pa_nil)) pe_non (nomark _)) (pss_one (ps_ret (pv 1))) pss_nil) (pss_cons (ps_set (i := 3) sc_first_taken.nd rfl (by first | exact Or.inl rfl | exact Or.inr rfl) (pmeth M_count_below hr (pv 0) (pa_cons (pv 1) pa_nil))) (pss_cons (ps_if (PW.pt (pw_and (pt_cmpR op_lt (pv 3) (pe_callB call_len_seq (by rfl) T.n_len (by decide +kernel) (pa_cons (pe_fld (pv 0) rfl) pa_nil)) (nomark _)) (pw_and1 (pt_cmpR op_lt (pe_ix ix_tup (pe_ix ix_list (pe_fld (pv 0) rfl) (pv 3) (fun _ _ => rfl)) pe_int (fun _ _ => rfl)) (pv 2) (nomark _))))) (pss_one (ps_ret (pe_ix ix_tup (pe_ix ix_list (pe_fld (pv 0) rfl) (pv 3) (fun _ _ => rfl)) pe_int (fun _ _ => rfl)))) pss_nil) (pss_one (ps_ret pe_non))))), ?_⟩)
  · obtain ⟨y, zp, bl, dx, ps, ns, n, lo, hi, bs, rfl, _⟩ := h
    rfl
  · obtain ⟨y, zp, bl, dx, ps, ns, n, lo, hi, bs, rfl, L, l0, l1, l2, fr, q⟩ := h
    refine ⟨_, rfl, y, dx, _, rfl, L.at_, lay_nm (by decide +kernel), _, rfl, y, zp, bl, dx, ps, ns, n, lo, bs, rfl, L, l0, by omega, fun _ => ?_, fun b hb h1 h2 => ?_⟩
    · refine ⟨rfl, _, rfl, iteF ?_⟩
      refine ⟨_, rfl, y, dx, _, rfl, L.at_, lay_nm (by decide +kernel), _, rfl, y, zp, bl, dx, ps, ns, n, lo, bs, rfl, L, fun i hb0 => ?_⟩
      have pl := L.rf.len
      refine ⟨_, rfl, _, rfl, y, _, dx, _, _, rfl, L.at_, T.ly, T.nBL, lay_bl .., bl, _, rfl, .inl (SqL.of L.lst), _, _, rfl, rfl, _, rfl, ?_⟩
      by_cases hc : ((i : Nat) : Int) < (((ps.map V.ref).length : Nat) : Int)
      · have il : i < bs.length := by rw [List.length_map] at hc; omega
        obtain ⟨b, hb⟩ : ∃ b, bs[i]? = some b := ⟨_, List.getElem?_eq_getElem il⟩
        obtain ⟨p, hp, hT⟩ := L.rf.at_ hb
        have bm := List.mem_of_getElem? hb
        have z := L.wf.pos L.gd bm
        have nb : ¬ b.1 < hi := by
          have k := (hb0.2 i b hb)
          have r := fr b bm
          unfold bEnd at r
          omega
        refine ifT (decide_eq_true hc) ⟨_, rfl, y, _, dx, _, _, rfl, L.at_, T.ly, T.nBL, lay_bl .., _, rfl, bl, _, _, _, rfl, rfl, SqL.of L.lst, Refs.map_at hp, p, _, _, _, rfl, rfl, SqT.of hT, rfl, _, rfl, _, _, rfl, rfl, _, rfl, ifF (decide_eq_false nb) q⟩
      · exact ifF (decide_eq_false hc) q
    · exact absurd (fr b hb) (by unfold bEnd at *; omega)
end
end K35

set_option Elab.async false
set_option linter.all false
set_option maxRecDepth 100000
set_option maxHeartbeats 4000000
namespace K35
open PySem PySem.Spec PyProof.Rows L2 Gu Ex
abbrev FnK (K : PySem.W.Frag) (x qual : Str) (st : Stmt) (kws : List (Str × V)) (f : Addr) (fd : FuncData) : Prop := FunD K x qual (defArgs st) (defBody st) (defScope st) [] kws f fd
section
variable {ns : List Int} {n : Int} {bs : List Blk}
theorem mem_take_at {i : Nat} {c : Blk} (h : c ∈ bs.take i) : ∃ j, j < i ∧ bs[j]? = some c := by
  obtain ⟨j, hj, e⟩ := List.getElem_of_mem h
  rw [List.length_take] at hj
  refine ⟨j, by omega, ?_⟩
  rw [List.getElem_take] at e
  rw [← e]
  exact List.getElem?_eq_getElem (by omega)
theorem mem_drop_at {i : Nat} {c : Blk} (h : c ∈ bs.drop i) : ∃ j, i ≤ j ∧ bs[j]? = some c := by
  obtain ⟨j, hj, e⟩ := List.getElem_of_mem h
  rw [List.length_drop] at hj
  refine ⟨i + j, by omega, ?_⟩
  rw [List.getElem_drop] at e
  rw [← e]
  exact List.getElem?_eq_getElem (by omega)
/-- a block put in at its place -/
def insB (bs : List Blk) (i : Nat) (b : Blk) : List Blk := bs.take i ++ [b] ++ bs.drop i
theorem ins_wf {i : Nat} {b : Blk} (w : Wf ns n bs) (g : Good ns) (h : Below bs b.1 i) (k : b.2.1 < ns.length) (h0 : 0 ≤ b.1) (hd : sz ns b.2.1 ∣ b.1) (he : bEnd ns b ≤ n) (fr : FreeR ns bs b.1 (bEnd ns b)) : Wf ns n (insB bs i b) := by
  have z := (chain g).pos _ k
  have left : ∀ c ∈ bs.take i, bEnd ns c ≤ b.1 := fun c hc => by
    obtain ⟨j, hj, e⟩ := mem_take_at hc
    have h1 := (h.2 j c e).mp hj
    have r := fr c (List.mem_of_getElem? e)
    unfold bEnd at *
    omega
  have right : ∀ c ∈ bs.drop i, bEnd ns b ≤ c.1 := fun c hc => by
    obtain ⟨j, hj, e⟩ := mem_drop_at hc
    have h1 := h.2 j c e
    have r := fr c (List.mem_of_getElem? e)
    have zc := w.pos g (List.mem_of_getElem? e)
    unfold bEnd at *
    omega
  refine ⟨fun c hc => ?_, ?_⟩
  · unfold insB at hc
    rcases List.mem_append.mp hc with hc | hc
    · rcases List.mem_append.mp hc with hc | hc
      · exact w.ok c (List.mem_of_mem_take hc)
      · rw [List.mem_singleton.mp hc]
        exact ⟨k, h0, hd, he⟩
    · exact w.ok c (List.mem_of_mem_drop hc)
  · unfold insB
    rw [List.append_assoc]
    refine List.pairwise_append.mpr ⟨w.so.sublist (List.take_sublist _ _), ?_, fun c hc d hd => ?_⟩
    · refine List.pairwise_append.mpr ⟨List.pairwise_singleton _ _, w.so.sublist (List.drop_sublist _ _), fun c hc d hd => ?_⟩
      rw [List.mem_singleton.mp hc]
      exact right d hd
    · rcases List.mem_append.mp hd with hd | hd
      · rw [List.mem_singleton.mp hd]
        exact left c hc
      · have a1 := left c hc
        have a2 := right d hd
        unfold bEnd at *
        omega
theorem tot_app (xs ys : List Blk) : tot ns (xs ++ ys) = tot ns xs + tot ns ys := by
  unfold tot
  rw [List.map_append, List.sum_append]
theorem tot_one (b : Blk) : tot ns [b] = sz ns b.2.1 := by simp [tot]
theorem tot_ins (bs : List Blk) (i : Nat) (b : Blk) : tot ns (insB bs i b) = tot ns bs + sz ns b.2.1 := by
  unfold insB
  have e := congrArg (tot ns) (List.take_append_drop i bs)
  rw [tot_app] at e
  rw [tot_app, tot_app, tot_one]
  omega
theorem tot_era {j : Nat} {b : Blk} (h : bs[j]? = some b) : tot ns (bs.eraseIdx j) = tot ns bs - sz ns b.2.1 := by
  have e := congrArg (tot ns) (List.take_append_drop j bs)
  obtain ⟨hj, eb⟩ := List.getElem?_eq_some_iff.mp h
  rw [List.eraseIdx_eq_take_drop_succ, tot_app]
  rw [List.drop_eq_getElem_cons hj, tot_app, ← List.singleton_append, tot_app, tot_one, eb] at e
  omega
theorem era_wf {j : Nat} (w : Wf ns n bs) : Wf ns n (bs.eraseIdx j) := ⟨fun b hb => w.ok b (List.mem_of_mem_eraseIdx hb), w.so.sublist (List.eraseIdx_sublist _ _)⟩
/-- a block with another pin -/
def pinB (bs : List Blk) (j : Nat) (b : Blk) (p : Bool) : List Blk := bs.set j (b.1, b.2.1, p)
theorem pin_wf {j : Nat} {b : Blk} {p : Bool} (w : Wf ns n bs) (h : bs[j]? = some b) : Wf ns n (pinB bs j b p) := by
  obtain ⟨hj, eb⟩ := List.getElem?_eq_some_iff.mp h
  refine ⟨fun c hc => ?_, ?_⟩
  · rcases List.mem_or_eq_of_mem_set hc with z | z
    · exact w.ok c z
    · rw [z]
      exact w.ok b (List.mem_of_getElem? h)
  · refine List.pairwise_iff_getElem.mpr fun i k hi hk hik => ?_
    unfold pinB at hi hk ⊢
    rw [List.length_set] at hi hk
    have p0 := List.pairwise_iff_getElem.mp w.so i k hi hk hik
    rw [List.getElem_set, List.getElem_set]
    split
    · rename_i e
      subst e
      rw [if_neg (by omega)]
      rw [eb] at p0
      exact p0
    · split
      · rename_i e
        subst e
        rw [eb] at p0
        exact p0
      · exact p0
theorem tot_pin {j : Nat} {b : Blk} {p : Bool} (h : bs[j]? = some b) : tot ns (pinB bs j b p) = tot ns bs := by
  obtain ⟨hj, eb⟩ := List.getElem?_eq_some_iff.mp h
  unfold pinB tot
  rw [List.map_set]
  congr 1
  have e : sz ns b.2.1 = (bs.map fun b => sz ns b.2.1)[j]'(by rw [List.length_map]; exact hj) := by rw [List.getElem_map, eb]
  show (bs.map fun b => sz ns b.2.1).set j (sz ns b.2.1) = _
  rw [e, List.set_getElem_self]
end
/-- all but the layout's own two objects stay -/
def But2 (y bl : Addr) (H H' : Hp) : Prop := ∀ c o, c ≠ y → c ≠ bl → H c = some o → H' c = some o
theorem Refs.ins {α : Type} {f : α → List V} {H : Hp} {ps : List Addr} {ts : List α} {p : Addr} {t : α} (h : Refs f H ps ts) (i : Nat) (hp : H p = some (.tup (f t))) : Refs f H (ps.take i ++ [p] ++ ps.drop i) (ts.take i ++ [t] ++ ts.drop i) := ((h.take i).app (.one hp)).app (h.drop i)
theorem Refs.era {α : Type} {f : α → List V} {H : Hp} {ps : List Addr} {ts : List α} (h : Refs f H ps ts) (j : Nat) : Refs f H (ps.eraseIdx j) (ts.eraseIdx j) := by
  rw [List.eraseIdx_eq_take_drop_succ, List.eraseIdx_eq_take_drop_succ]
  exact (h.take j).app (h.drop (j + 1))
theorem Refs.set {α : Type} {f : α → List V} {H : Hp} {p : Addr} {t : α} (hp : H p = some (.tup (f t))) : ∀ {ps : List Addr} {ts : List α}, Refs f H ps ts → ∀ j, Refs f H (ps.set j p) (ts.set j t)
  | _, _, .nil, _ => .nil
  | _, _, .cons a b, 0 => .cons hp b
  | _, _, .cons a b, j + 1 => .cons a (Refs.set hp b j)
section
variable {P : Program} {w : World} {K : PySem.W.Frag} {mg : Str → Option Value} {base : Heap} {f : Addr} {fd : FuncData}
def spPut (K : PySem.W.Frag) : Sp := fun vs H Q _ => ∃ (y zp bl dx : Addr) (ps : List Addr) (ns : List Int) (n a : Int) (bs : List Blk) (k : Nat) (p : Bool), vs = [.ref y, .int k, .int a, .bl p] ∧ Ly K H y zp bl dx ps ns n bs ∧ bs.length < 900 ∧ k < ns.length ∧ 0 ≤ a ∧ a % sz ns k = 0 ∧ a + sz ns k ≤ n ∧ FreeR ns bs a (a + sz ns k) ∧
  ∀ i ps' H', Below bs a i → Ly K H' y zp bl dx ps' ns n (insB bs i (a, k, p)) → But2 y bl H H' → Q .non H'
theorem sc_put : FnScope ["self", "level", "address", "pinned", "size", "taken"] ["self", "level", "address", "pinned"] (defScope (inClass (top 41) 13)) := ⟨rfl, rfl, rfl, by decide +kernel, rfl, by decide +kernel, by decide +kernel⟩
theorem ok_put (T : Tx K mg) (M_size : Mf P w K mg base 5 "Sizes" "size" ["self", "level"] (spSize K)) (D_is_region : Df P w K mg base 7 "is_region" ["sizes", "length", "level", "address"] (spRegion K)) (M_first_taken : Mf P w K mg base 7 "Layout" "first_taken" ["self", "low", "high"] (spFirst K))
    (M_count_below : Mf P w K mg base 1 "Layout" "count_below" ["self", "address"] (spCB K)) (F : FnK K "put" "Layout.put" (inClass (top 41) 13) [("pinned", .bl false)] f fd) : FnOk P w K mg base CX0 8 f fd ["self", "level", "address", "pinned"] (spPut K) := by
  refine F.ok sc_put (fun vs H Q E h => ?_) (fun cdv A outer s H vs Q E hr h => ⟨_, PSs.nox (pss_cons (ps_set (i := 4) sc_put.nd rfl (by first | exact Or.inl rfl | exact Or.inr rfl) (pmeth M_size hr (pe_fld (pv 0) rfl) (pa_cons (pv 1) pa_nil))) (pss_cons (ps_if (pt_not (pt_val (pcall D_is_region hr (pa_cons (pe_fld (pv 0) rfl) (pa_cons (pe_fld (pv 0) rfl) (pa_cons (pv 1) (pa_cons (pv 2) pa_nil))))))) (pss_one ps_never) pss_nil) (pss_cons (ps_set (i := 5) sc_put.nd rfl (by first | exact Or.inl rfl | exact Or.inr rfl) (pmeth M_first_taken hr (pv 0) (pa_cons (pv 2) (pa_cons (pe_op op_add (pv 2) (pv 4)) pa_nil)))) (pss_cons (ps_if (pt_cmpR op_notN (pv 5) pe_non (nomark _)) (pss_one ps_never) pss_nil) (pss_cons (ps_expr (pe_bm PySem.F.plainAttrs_list PySem.F.slot_list_insert PySem.F.type_list_insert mt_insert (pe_fld (pv 0) rfl) (pa_cons (pmeth M_count_below hr (pv 0) (pa_cons (pv 2) pa_nil)) (pa_cons (pe_tup (pa_cons (pv 2) (pa_cons (pv 1) (pa_cons (pv 3) pa_nil)))) pa_nil)))) (pss_one (ps_fldaug (pv 0) (pv 4) in_sub))))))), ?_⟩)
  · obtain ⟨y, zp, bl, dx, ps, ns, n, a, bs, k, p, rfl, _⟩ := h
    rfl
  · obtain ⟨y, zp, bl, dx, ps, ns, n, a, bs, k, p, rfl, L, l900, hk, a0, a1, a2, fr, q⟩ := h
    obtain ⟨dz, l, zz, zl, zy, zb, lb, ly, nyb⟩ := L.far
    have z := (chain L.gd).pos _ hk
    have pl := L.rf.len
    have sl : sizeLine = 16777216 := sizeLine_eq
    refine ⟨_, rfl, y, _, dx, _, _, rfl, L.at_, T.ly, T.nST, lay_st .., zp, dz, _, rfl, zz, szF_no l (by decide +kernel), _, rfl, zp, ns, k, _, rfl, L.szs, sz_at hk, ?_⟩
    refine ⟨_, rfl, y, _, dx, _, _, rfl, L.at_, T.ly, T.nST, lay_st .., _, rfl, y, _, dx, _, _, rfl, L.at_, T.ly, T.nCC, lay_cc .., _, rfl, _, rfl, zp, ns, k, n, a, rfl, L.szs, L.gd, hk, L.n1, L.n2, a0, a1, a2, true, rfl, iteF ?_⟩
    refine ⟨_, rfl, y, dx, _, rfl, L.at_, lay_nm (by decide +kernel), _, rfl, _, rfl, _, rfl, _, _, rfl, rfl, y, zp, bl, dx, ps, ns, n, a, a + sz ns k, bs, rfl, L, a0, by omega, a2, fr, ?_⟩
    refine ⟨_, rfl, rfl, _, rfl, iteF ?_⟩
    refine ⟨_, rfl, y, _, dx, _, _, rfl, L.at_, T.ly, T.nBL, lay_bl .., .inl ⟨rfl, _, SqL.of L.lst⟩, _, rfl, y, dx, _, rfl, L.at_, lay_nm (by decide +kernel), _, rfl, y, zp, bl, dx, ps, ns, n, a, bs, rfl, L, fun i hi => ?_⟩
    refine ⟨_, rfl, _, rfl, _, rfl, (by show 3 ≤ sizeLine; decide), fun t ht => ?_⟩
    have ntb : bl ≠ t := ne_of_none L.lst ht
    have nty : y ≠ t := ne_of_none L.at_ ht
    refine ⟨bl, _, i, _, rfl, rfl, (by rw [upd_ne ntb]; exact L.lst), (by rw [List.length_map]; omega), by omega, (by have := hi.1; have := L.ln; omega), ?_⟩
    have keep : ∀ {c : Addr} {o : HO} {u v : HO}, c ≠ y → c ≠ bl → H c = some o → (upd (upd (upd H t (.tup (blkV (a, k, p)))) bl u) y v) c = some o := fun {c o u v} c1 c2 e => by
      rw [upd_ne c1, upd_ne c2, upd_ne (ne_of_none e ht)]
      exact e
    refine ⟨_, rfl, y, _, dx, _, _, rfl, (by rw [upd_ne nyb, upd_ne nty]; exact L.at_), T.ly, T.nFC, lay_fc .., _, rfl, _, _, rfl, rfl, dx, _, (by rw [upd_ne nyb, upd_ne nty]; exact L.at_), (by show 4 < 1000; decide), ?_⟩
    refine q i (ps.take i ++ [t] ++ ps.drop i) _ hi ⟨?_, ?_, ?_, ?_, ins_wf L.wf L.gd hi hk a0 (M16.dvd0 a1) a2 fr, L.gd, L.n1, L.n2, ?_, ⟨dz, l, keep zy zb zz, keep ly lb zl, lb⟩⟩ fun c o c1 c2 e => keep c1 c2 e
    · rw [upd_same, lay_put, tot_ins]
      have e : n - tot ns bs - sz ns k = n - (tot ns bs + sz ns k) := by omega
      exact congrArg (fun z => some (HO.ins (He.ga K "Layout") dx (layF zp n z bl))) e
    · exact ⟨dz, l, keep zy zb zz, keep ly lb zl⟩
    · rw [upd_ne nyb.symm, upd_same, List.map_append, List.map_append, List.map_take, List.map_drop]
      rfl
    · refine Refs.ins (L.rf.mono fun c xs e => ?_) i ?_
      · exact keep (fun z => by rw [z, L.at_] at e; cases e) (fun z => by rw [z, L.lst] at e; cases e) e
      · rw [upd_ne nty.symm, upd_ne ntb.symm, upd_same]
        rfl
    · unfold insB
      rw [List.length_append, List.length_append, List.length_take, List.length_drop, List.length_singleton]
      omega
theorem era_map (ps : List Addr) (j : Nat) : (ps.map V.ref).eraseIdx j = (ps.eraseIdx j).map V.ref := by
  rw [List.eraseIdx_eq_take_drop_succ, List.eraseIdx_eq_take_drop_succ, List.map_append, List.map_take, List.map_drop]
theorem ix_nat {k n : Nat} (h : k < n) : ixN n (k : Int) = some k := by
  unfold ixN
  rw [if_pos (by omega), if_pos (by omega), Int.toNat_natCast]
def spTake (K : PySem.W.Frag) : Sp := fun vs H Q _ => ∃ (y zp bl dx : Addr) (ps : List Addr) (ns : List Int) (n a : Int) (bs : List Blk) (j : Nat) (b : Blk), vs = [.ref y, .int a] ∧ Ly K H y zp bl dx ps ns n bs ∧ bs[j]? = some b ∧ b.1 = a ∧
  ∀ t ps' H', H t = none → Ly K H' y zp bl dx ps' ns n (bs.eraseIdx j) → H' t = some (.tup [.int (b.2.1 : Nat), .bl b.2.2]) → But2 y bl H H' → Q (.ref t) H'
def spPin (K : PySem.W.Frag) : Sp := fun vs H Q _ => ∃ (y zp bl dx : Addr) (ps : List Addr) (ns : List Int) (n a : Int) (bs : List Blk) (j : Nat) (b : Blk) (p : Bool), vs = [.ref y, .int a, .bl p] ∧ Ly K H y zp bl dx ps ns n bs ∧ bs[j]? = some b ∧ b.1 = a ∧
  ∀ ps' H', Ly K H' y zp bl dx ps' ns n (pinB bs j b p) → But2 y bl H H' → Q .non H'
theorem sc_set_pinned : FnScope ["self", "address", "pinned", "index", "start", "level", "was_pinned"] ["self", "address", "pinned"] (defScope (inClass (top 41) 15)) := ⟨rfl, rfl, rfl, by decide +kernel, rfl, by decide +kernel, by decide +kernel⟩
theorem ok_pin (T : Tx K mg) (M_index_of : Mf P w K mg base 2 "Layout" "index_of" ["self", "address"] (spIx K)) (F : FnP K "set_pinned" "Layout.set_pinned" (inClass (top 41) 15) f fd) :
    FnOk P w K mg base CX0 3 f fd ["self", "address", "pinned"] (spPin K) := by
  refine F.ok sc_set_pinned (fun vs H Q E h => ?_) (fun cdv A outer s H vs Q E hr h => ⟨_, PSs.nox (pss_cons (ps_set (i := 3) sc_set_pinned.nd rfl (by first | exact Or.inl rfl | exact Or.inr rfl) (pmeth M_index_of hr (pv 0) (pa_cons (pv 1) pa_nil))) (pss_cons (ps_asg (pe_ix ix_list (pe_fld (pv 0) rfl) (pv 3) (fun _ _ => rfl)) (pg_tup (by rfl) (pgs_cons (pg_name (i := 4) sc_set_pinned.nd rfl (by first | exact Or.inl rfl | exact Or.inr rfl)) (pgs_cons (pg_name (i := 5) sc_set_pinned.nd rfl (by first | exact Or.inl rfl | exact Or.inr rfl)) (pgs_cons (pg_name (i := 6) sc_set_pinned.nd rfl (by first | exact Or.inl rfl | exact Or.inr rfl)) pgs_nil))))) (pss_one (ps_asg (pe_tup (pa_cons (pv 4) (pa_cons (pv 5) (pa_cons (pv 2) pa_nil)))) (pg_sub (pe_fld (pv 0) rfl) (pv 3) set_list))))), ?_⟩)
  · obtain ⟨y, zp, bl, dx, ps, ns, n, a, bs, j, b, p, rfl, _⟩ := h
    rfl
  · obtain ⟨y, zp, bl, dx, ps, ns, n, a, bs, j, b, pp, rfl, L, hj, hb, q⟩ := h
    obtain ⟨dz, l, zz, zl, zy, zb, lb, ly, nyb⟩ := L.far
    have pl := L.rf.len
    have bn := L.ln
    have jl := (List.getElem?_eq_some_iff.mp hj).1
    obtain ⟨p, hp, hT⟩ := L.rf.at_ hj
    have hT' : H p = some (.tup [.int b.1, .int (b.2.1 : Nat), .bl b.2.2]) := hT
    refine ⟨_, rfl, y, dx, _, rfl, L.at_, lay_nm (by decide +kernel), _, rfl, y, zp, bl, dx, ps, ns, n, a, bs, j, b, rfl, L, hj, hb, ?_⟩
    refine ⟨_, rfl, y, _, dx, _, _, rfl, L.at_, T.ly, T.nBL, lay_bl .., _, rfl, bl, _, _, _, rfl, rfl, SqL.of L.lst, Refs.map_at hp, p, _, rfl, .inl (.inl hT'), rfl, _, _, rfl, _, _, rfl, _, _, rfl, rfl, ?_⟩
    refine ⟨_, rfl, _, rfl, _, rfl, (by show 3 ≤ sizeLine; decide), fun t ht => ?_⟩
    have sm := same_upd (o := .tup [.int b.1, .int (b.2.1 : Nat), .bl pp]) ht
    have ntb : bl ≠ t := ne_of_none L.lst ht
    have kp : ∀ {c : Addr} {o : HO} {u : HO}, c ≠ bl → H c = some o → (upd (upd H t (.tup [.int b.1, .int (b.2.1 : Nat), .bl pp])) bl u) c = some o := fun {c o u} c2 e => by
      rw [upd_ne c2]
      exact sm _ _ e
    refine ⟨_, rfl, y, _, dx, _, _, rfl, sm _ _ L.at_, T.ly, T.nBL, lay_bl .., _, rfl, bl, _, _, j, rfl, rfl, sm _ _ L.lst, ?_, ?_⟩
    · rw [List.length_map]
      exact ix_nat (by omega)
    · refine q (ps.set j t) _ ⟨?_, ⟨dz, l, kp zb zz, kp lb zl⟩, ?_, Refs.set (t := (b.1, b.2.1, pp)) ?_ (L.rf.mono fun c xs e => ?_) j, pin_wf L.wf hj, L.gd, L.n1, L.n2, ?_, ⟨dz, l, kp zb zz, kp lb zl, lb⟩⟩ fun c o _ c2 e => kp c2 e
      · rw [tot_pin hj]
        exact kp nyb L.at_
      · rw [upd_same, List.map_set]
      · rw [upd_ne ntb.symm, upd_same]
        rfl
      · exact kp (fun z => by rw [z, L.lst] at e; cases e) e
      · unfold pinB
        rw [List.length_set]
        exact bn
end
end K35

set_option Elab.async false
set_option linter.all false
set_option maxRecDepth 100000
set_option maxHeartbeats 4000000
namespace K35
open PySem PySem.Spec PyProof.Rows L2 Gu Ex
def prV (p : Int × Int) : List V := [.int p.1, .int p.2]
def gapsI (n : Int) : Int → List (Int × Int) → List (Int × Int)
  | low, [] => if low < n then [(low, n)] else []
  | low, (s, e) :: r => (if low < s then [(low, s)] else []) ++ gapsI n e r
def rngB (ns : List Int) (b : Blk) : Int × Int := (b.1, bEnd ns b)
theorem drop_at {α : Type} {rs : List α} {i : Nat} {t : α} (h : rs[i]? = some t) : rs.drop i = t :: rs.drop (i + 1) := by
  obtain ⟨hi, e⟩ := List.getElem?_eq_some_iff.mp h
  rw [List.drop_eq_getElem_cons hi, e]
theorem take_at {α : Type} {rs : List α} {i : Nat} {t : α} (h : rs[i]? = some t) : rs.take (i + 1) = rs.take i ++ [t] := by
  rw [List.take_add_one, h]
  rfl
/-- appending a new tuple to a new list -/
theorem Refs.more {α : Type} {f : α → List V} {H : Hp} {ps : List Addr} {ts : List α} {M t : Addr} {u : α} {xs : List V} (h : Refs f H ps ts) (hM : H M = some (.lst xs)) (ht : H t = none) : Refs f (upd (upd H t (.tup (f u))) M (.lst (xs ++ [.ref t]))) (ps ++ [t]) (ts ++ [u]) := by
  have nM : M ≠ t := ne_of_none hM ht
  refine (h.mono fun b ys e => ?_).app (.one ?_)
  · rw [upd_ne (fun z => by rw [z, hM] at e; cases e), upd_ne (ne_of_none e ht)]
    exact e
  · rw [upd_ne nM.symm, upd_same]
theorem ref_of {ps : List Addr} {i : Nat} {x : V} (h : (ps.map V.ref)[i]? = some x) : ∃ p, ps[i]? = some p ∧ x = .ref p := by
  rw [List.getElem?_map] at h
  cases e : ps[i]? with
  | none => rw [e] at h; cases h
  | some p => rw [e] at h; exact ⟨p, rfl, (Option.some.inj h).symm⟩
section
variable {P : Program} {w : World} {K : PySem.W.Frag} {mg : Str → Option Value} {base : Heap} {f : Addr} {fd : FuncData}
def spGaps : Sp := fun vs H Q _ => ∃ (L : Addr) (n : Int) (ps : List Addr) (rs : List (Int × Int)), vs = [.ref L, .int n] ∧ H L = some (.lst (ps.map V.ref)) ∧ Refs prV H ps rs ∧ rs.length ≤ 1000 ∧
  ∀ M qs H', H M = none → Same H H' → H' M = some (.lst (qs.map V.ref)) → Refs prV H' qs (gapsI n 0 rs) → Q (.ref M) H'
theorem sc_gaps_between : FnScope ["ranges", "length", "gaps", "low", "start", "end"] ["ranges", "length"] (defScope (top 24)) := ⟨rfl, rfl, rfl, by decide +kernel, rfl, by decide +kernel, by decide +kernel⟩
theorem ok_gaps (T : Tx K mg) (F : FnP K "gaps_between" "gaps_between" (top 24) f fd) : FnOk P w K mg base CX0 1 f fd ["ranges", "length"] spGaps := by
  refine F.ok sc_gaps_between (fun vs H Q E h => ?_) (fun cdv A outer s H vs Q E hr h => ⟨_, PSs.nox (pss_cons (ps_set (i := 2) sc_gaps_between.nd rfl (by first | exact Or.inl rfl | exact Or.inr rfl) (pe_lst pa_nil)) (pss_cons (ps_set (i := 3) sc_gaps_between.nd rfl (by first | exact Or.inl rfl | exact Or.inr rfl) pe_int) (pss_cons (ps_for PassesOwn.never rfl (pi_list (pv 0)) (pg_tup (by rfl) (pgs_cons (pg_name (i := 4) sc_gaps_between.nd rfl (by first | exact Or.inl rfl | exact Or.inr rfl)) (pgs_cons (pg_name (i := 5) sc_gaps_between.nd rfl (by first | exact Or.inl rfl | exact Or.inr rfl)) pgs_nil))) (pss_cons (ps_if (pt_cmpR op_lt (pv 3) (pv 4) (nomark _)) (pss_one (ps_expr (pe_bm PySem.F.plainAttrs_list PySem.F.slot_list_append PySem.F.type_list_append mt_append (pv 2) (pa_cons (pe_tup (pa_cons (pv 3) (pa_cons (pv 4) pa_nil))) pa_nil)))) pss_nil) (pss_one (ps_set (i := 3) sc_gaps_between.nd rfl (by first | exact Or.inl rfl | exact Or.inr rfl) (pv 5))))) (pss_cons (ps_if (pt_cmpR op_lt (pv 3) (pv 1) (nomark _)) (pss_one (ps_expr (pe_bm PySem.F.plainAttrs_list PySem.F.slot_list_append PySem.F.type_list_append mt_append (pv 2) (pa_cons (pe_tup (pa_cons (pv 3) (pa_cons (pv 1) pa_nil))) pa_nil)))) pss_nil) (pss_one (ps_ret (pv 2))))))), ?_⟩)
  · obtain ⟨L, n, ps, rs, rfl, _⟩ := h
    rfl
  · obtain ⟨L, n, ps, rs, rfl, hL, rf, r1000, q⟩ := h
    have sl : sizeLine = 16777216 := sizeLine_eq
    have two : 2 ≤ sizeLine := by decide
    refine ⟨Nat.zero_le _, fun M hM => ?_⟩
    refine ⟨_, rfl, L, rfl, ⟨_, SqL.of (same_upd hM _ _ hL)⟩, ?_⟩
    have pl := rf.len
    refine for_list (K := K) (a := L) (xs := ps.map V.ref) (fun i σ G => ∃ (low : Int) (acc : List (Int × Int)) (qs : List Addr) (y4 y5 : Option V), σ = [some (.ref L), some (.int n), some (.ref M), some (.int low), y4, y5] ∧ Same H G ∧ G M = some (.lst (qs.map V.ref)) ∧ Refs prV G qs acc ∧ acc.length ≤ i ∧ gapsI n 0 rs = acc ++ gapsI n low (rs.drop i))
      ⟨0, [], [], none, none, rfl, same_upd hM, upd_same, .nil, Nat.le_refl _, rfl⟩ (fun i σ G _ ⟨_, _, _, _, _, _, sm, _⟩ => SqL.of (sm _ _ hL)) ?_ ?_
    · rintro i x σ G hx ⟨low, acc, qs, y4, y5, rfl, sm, hG, ra, al, eq⟩
      obtain ⟨p, hp, rfl⟩ := ref_of hx
      obtain ⟨t, ht, hT⟩ := (rf.same sm).get hp
      have hT' : G p = some (.tup [.int t.1, .int t.2]) := hT
      have il : i < rs.length := (List.getElem?_eq_some_iff.mp ht).1
      rw [drop_at ht] at eq
      have eq2 : gapsI n 0 rs = acc ++ ((if low < t.1 then [(low, t.1)] else []) ++ gapsI n t.2 (rs.drop (i + 1))) := eq
      have ql := ra.len
      refine ⟨p, _, rfl, .inl (.inl hT'), rfl, _, _, rfl, _, _, rfl, rfl, ?_⟩
      refine ⟨_, rfl, _, rfl, _, _, rfl, rfl, _, rfl, ?_⟩
      by_cases hc : low < t.1
      · rw [if_pos hc] at eq2
        refine ifT (decide_eq_true hc) ⟨_, rfl, .inl ⟨rfl, _, SqL.of hG⟩, _, rfl, _, rfl, two, fun u hu => ?_⟩
        have nM : M ≠ u := ne_of_none hG hu
        refine ⟨M, _, _, rfl, rfl, (by rw [upd_ne nM]; exact hG), (by rw [List.length_map]; omega), _, rfl, t.2, acc ++ [(low, t.1)], qs ++ [u], _, _, rfl, fun b o e => ?_, ?_, Refs.more (u := (low, t.1)) ra hG hu, ?_, ?_⟩
        · rw [upd_ne (ne_of_none e hM), upd_ne (ne_of_none (sm b o e) hu)]
          exact sm b o e
        · rw [upd_same, List.map_append]
          rfl
        · rw [List.length_append, List.length_singleton]
          omega
        · rw [eq2, List.append_assoc]
      · rw [if_neg hc] at eq2
        exact ifF (decide_eq_false hc) ⟨_, rfl, t.2, acc, qs, _, _, rfl, sm, hG, ra, by omega, eq2⟩
    · rintro σ G ⟨low, acc, qs, y4, y5, rfl, sm, hG, ra, al, eq⟩
      rw [List.length_map, pl, List.drop_length] at eq
      have eq2 : gapsI n 0 rs = acc ++ (if low < n then [(low, n)] else []) := eq
      have ql := ra.len
      rw [List.length_map] at al
      refine ⟨_, rfl, _, rfl, _, _, rfl, rfl, _, rfl, ?_⟩
      by_cases hc : low < n
      · rw [if_pos hc] at eq2
        refine ifT (decide_eq_true hc) ⟨_, rfl, .inl ⟨rfl, _, SqL.of hG⟩, _, rfl, _, rfl, two, fun u hu => ?_⟩
        have nM : M ≠ u := ne_of_none hG hu
        refine ⟨M, _, _, rfl, rfl, (by rw [upd_ne nM]; exact hG), (by rw [List.length_map]; omega), _, rfl, q M (qs ++ [u]) _ hM (fun b o e => ?_) ?_ ?_⟩
        · rw [upd_ne (ne_of_none e hM), upd_ne (ne_of_none (sm b o e) hu)]
          exact sm b o e
        · rw [upd_same, List.map_append]
          rfl
        · rw [eq2]
          exact Refs.more (u := (low, n)) ra hG hu
      · rw [if_neg hc, List.append_nil] at eq2
        refine ifF (decide_eq_false hc) ⟨_, rfl, q M qs G hM sm hG ?_⟩
        rw [eq2]
        exact ra
def spRanges (K : PySem.W.Frag) : Sp := fun vs H Q _ => ∃ (y zp bl dx : Addr) (ps : List Addr) (ns : List Int) (n : Int) (bs : List Blk) (M : Addr) (qs : List Addr) (cs : List Blk), vs = [.ref y, .ref M] ∧ Ly K H y zp bl dx ps ns n bs ∧ H M = some (.lst (qs.map V.ref)) ∧ Refs blkV H qs cs ∧ cs.length ≤ 1000 ∧ (∀ b ∈ cs, b.2.1 < ns.length) ∧
  ∀ D rs H', H D = none → Same H H' → H' D = some (.lst (rs.map V.ref)) → Refs prV H' rs (cs.map (rngB ns)) → Q (.ref D) H'
theorem sc_ranges_of : FnScope ["self", "blocks", "address", "level", "is_pinned"] ["self", "blocks"] (defScope (inClass (top 41) 16)) := ⟨rfl, rfl, rfl, by decide +kernel, rfl, by decide +kernel, by decide +kernel⟩
theorem ok_ranges (T : Tx K mg) (M_size : Mf P w K mg base 5 "Sizes" "size" ["self", "level"] (spSize K)) (F : FnP K "ranges_of" "Layout.ranges_of" (inClass (top 41) 16) f fd) : FnOk P w K mg base CX0 6 f fd ["self", "blocks"] (spRanges K) := by
  refine F.ok sc_ranges_of (fun vs H Q E h => ?_) (fun cdv A outer s H vs Q E hr h => ⟨_, PSs.nox (pss_one (ps_ret (pe_lc (own := [("address", 2), ("level", 3), ("is_pinned", 4)]) (g := gTup K 3 (gCons (gName 2) (gCons (gName 3) (gCons (gName 4) gNil)))) rfl sc_ranges_of.nd (pi_list (pv 1)) (blkOk_by (own := [("address", 2), ("level", 3), ("is_pinned", 4)]) (N := ["self", "blocks", "address", "level", "is_pinned"]) (sc := defScope (inClass (top 41) 16)) (by decide +kernel)) (fun _ _ _ _ _ => pg_tup rfl (pgs_cons (pg_name (i := 2) sc_ranges_of.nd rfl (Or.inl rfl)) (pgs_cons (pg_name (i := 3) sc_ranges_of.nd rfl (Or.inl rfl)) (pgs_cons (pg_name (i := 4) sc_ranges_of.nd rfl (Or.inl rfl)) pgs_nil)))) (fun _ _ _ _ _ => pts_nil) (fun _ _ _ _ _ => (pe_tup (pa_cons (pv 2) (pa_cons (pe_op op_add (pv 2) (pmethB K M_size hr (pfldB K (pv 0)) (pa_cons (pv 3) pa_nil))) pa_nil))))))), ?_⟩)
  · obtain ⟨y, zp, bl, dx, ps, ns, n, bs, M, qs, cs, rfl, _⟩ := h
    rfl
  · obtain ⟨y, zp, bl, dx, ps, ns, n, bs, M, qs, cs, rfl, L, hM, rf, c1000, hc, q⟩ := h
    have sl : sizeLine = 16777216 := sizeLine_eq
    have two : 2 ≤ sizeLine := by decide
    have ql := rf.len
    refine ⟨_, rfl, M, rfl, ⟨_, SqL.of hM⟩, fun D hD => ?_⟩
    refine lc_list (K := K) (a := M) (xs := qs.map V.ref) (fun i G => ∃ rs, G D = some (.lst (rs.map V.ref)) ∧ Refs prV G rs ((cs.take i).map (rngB ns)) ∧ Same H G) ⟨[], upd_same, .nil, same_upd hD⟩ (fun i G _ ⟨_, _, _, sm⟩ => SqL.of (sm _ _ hM)) ?_ ?_
    · rintro i x G hx ⟨rs, hG, rr, sm⟩
      obtain ⟨p, hp, rfl⟩ := ref_of hx
      obtain ⟨b, hb, hT⟩ := (rf.same sm).get hp
      have hT' : G p = some (.tup [.int b.1, .int (b.2.1 : Nat), .bl b.2.2]) := hT
      have il : i < cs.length := (List.getElem?_eq_some_iff.mp hb).1
      have bk := hc b (List.mem_of_getElem? hb)
      have LG := L.same sm
      obtain ⟨dz, l, z1, z2⟩ := id LG.szs
      have rl := rr.len
      rw [List.length_map, List.length_take] at rl
      refine ⟨p, _, rfl, .inl (.inl hT'), rfl, _, _, rfl, _, _, rfl, _, _, rfl, rfl, rfl, ?_⟩
      refine ⟨_, rfl, _, rfl, _, rfl, y, _, dx, _, _, rfl, LG.at_, T.ly, T.nST, lay_st .., zp, dz, _, rfl, z1, szF_no l (by decide +kernel), _, rfl, zp, ns, b.2.1, _, rfl, LG.szs, sz_at bk, _, _, rfl, rfl, two, fun t ht => ?_⟩
      have nD : D ≠ t := ne_of_none hG ht
      refine ⟨_, (by rw [upd_ne nD]; exact hG), (by rw [List.length_map]; omega), rs ++ [t], ?_, ?_, fun c o e => ?_⟩
      · rw [upd_same, List.map_append]
        rfl
      · rw [take_at hb, List.map_append]
        exact Refs.more (u := rngB ns b) rr hG ht
      · rw [upd_ne (ne_of_none e hD), upd_ne (ne_of_none (sm c o e) ht)]
        exact sm c o e
    · rintro G ⟨rs, hG, rr, sm⟩
      rw [List.length_map, ql, List.take_length] at rr
      exact q D rs G hD sm hG rr
end
end K35

set_option Elab.async false
set_option linter.all false
set_option maxRecDepth 100000
set_option maxHeartbeats 4000000
namespace K35
open PySem PySem.Spec PyProof.Rows L2 Gu Ex
theorem filter_at {bs : List Blk} {i : Nat} {b : Blk} (p : Blk → Bool) (h : bs[i]? = some b) : (bs.take (i + 1)).filter p = (bs.take i).filter p ++ (if p b = true then [b] else []) := by
  rw [take_at h, List.filter_append, List.filter_cons, List.filter_nil]
/-- the gaps are right ranges -/
theorem gaps_ok {n : Int} : ∀ {rs : List (Int × Int)} {low : Int}, 0 ≤ low → (∀ r ∈ rs, 0 ≤ r.2) → ∀ g ∈ gapsI n low rs, 0 ≤ g.1 ∧ g.1 ≤ g.2
  | [], low, h, _, g, hg => by
    have hg2 : g ∈ (if low < n then [(low, n)] else []) := hg
    split at hg2
    · rw [List.mem_singleton.mp hg2]
      exact ⟨h, by show low ≤ n; omega⟩
    · cases hg2
  | (s, e) :: r, low, h, hr, g, hg => by
    rcases List.mem_append.mp (show g ∈ (if low < s then [(low, s)] else []) ++ gapsI n e r from hg) with z | z
    · split at z
      · rw [List.mem_singleton.mp z]
        exact ⟨h, by show low ≤ s; omega⟩
      · cases z
    · exact gaps_ok (hr (s, e) List.mem_cons_self) (fun x hx => hr x (List.mem_cons_of_mem _ hx)) g z
/-- the clear cells, as reckoned -/
def pinR (ns : List Int) (bs : List Blk) : List (Int × Int) := (bs.filter fun b => b.2.2).map (rngB ns)
def regI (ns : List Int) (k : Nat) (gs : List (Int × Int)) : Int := (gs.map fun g => cntI (sz ns k) g.1 g.2).sum
def clrI (ns : List Int) (n : Int) (bs : List Blk) (k : Nat) : Int := regI ns k (gapsI n 0 (pinR ns bs)) * sz ns k
theorem gaps_len {n : Int} : ∀ (rs : List (Int × Int)) (low : Int), (gapsI n low rs).length ≤ rs.length + 1
  | [], low => by
    show (if low < n then [(low, n)] else []).length ≤ 1
    split <;> simp
  | (s, e) :: r, low => by
    show ((if low < s then [(low, s)] else []) ++ gapsI n e r).length ≤ r.length + 1 + 1
    have := gaps_len (n := n) r e
    rw [List.length_append]
    split
    · rw [List.length_singleton]
      omega
    · rw [List.length_nil]
      omega
section
variable {P : Program} {w : World} {K : PySem.W.Frag} {mg : Str → Option Value} {base : Heap} {f : Addr} {fd : FuncData}
def spPinned (K : PySem.W.Frag) : Sp := fun vs H Q _ => ∃ (y zp bl dx : Addr) (ps : List Addr) (ns : List Int) (n : Int) (bs : List Blk), vs = [.ref y] ∧ Ly K H y zp bl dx ps ns n bs ∧
  ∀ D rs H', H D = none → Same H H' → H' D = some (.lst (rs.map V.ref)) → Refs prV H' rs (pinR ns bs) → Q (.ref D) H'
theorem sc_pinned_ranges : FnScope ["self", "block"] ["self"] (defScope (inClass (top 41) 18)) := ⟨rfl, rfl, rfl, by decide +kernel, rfl, by decide +kernel, by decide +kernel⟩
theorem ok_pinned (T : Tx K mg) (M_ranges_of : Mf P w K mg base 6 "Layout" "ranges_of" ["self", "blocks"] (spRanges K)) (F : FnP K "pinned_ranges" "Layout.pinned_ranges" (inClass (top 41) 18) f fd) : FnOk P w K mg base CX0 7 f fd ["self"] (spPinned K) := by
  refine F.ok sc_pinned_ranges (fun vs H Q E h => ?_) (fun cdv A outer s H vs Q E hr h => ⟨_, PSs.nox (pss_one (ps_ret (pmeth M_ranges_of hr (pv 0) (pa_cons (pe_lc (own := [("block", 1)]) (g := gName 1) rfl sc_pinned_ranges.nd (pi_list (pe_fld (pv 0) rfl)) (blkOk_by (own := [("block", 1)]) (N := ["self", "block"]) (sc := defScope (inClass (top 41) 18)) (by decide +kernel)) (fun _ _ _ _ _ => pg_name (i := 1) sc_pinned_ranges.nd rfl (Or.inl rfl)) (fun _ _ _ _ _ => (pts_one (pt_val (pe_ix (r := rIxT K) ix_tup (pv 1) pe_int (fun _ _ => rfl))))) (fun _ _ _ _ _ => (pv 1))) pa_nil)))), ?_⟩)
  · obtain ⟨y, zp, bl, dx, ps, ns, n, bs, rfl, _⟩ := h
    rfl
  · obtain ⟨y, zp, bl, dx, ps, ns, n, bs, rfl, L, q⟩ := h
    have sl : sizeLine = 16777216 := sizeLine_eq
    have pl := L.rf.len
    have bn := L.ln
    refine ⟨_, rfl, y, dx, _, rfl, L.at_, lay_nm (by decide +kernel), _, rfl, y, _, dx, _, _, rfl, L.at_, T.ly, T.nBL, lay_bl .., bl, rfl, ⟨_, SqL.of L.lst⟩, fun D hD => ?_⟩
    refine lc_list (K := K) (a := bl) (xs := ps.map V.ref) (fun i G => ∃ qs, G D = some (.lst (qs.map V.ref)) ∧ Refs blkV G qs ((bs.take i).filter fun b => b.2.2) ∧ Same H G) ⟨[], upd_same, .nil, same_upd hD⟩ (fun i G _ ⟨_, _, _, sm⟩ => SqL.of (sm _ _ L.lst)) ?_ ?_
    · rintro i x G hx ⟨qs, hG, rr, sm⟩
      obtain ⟨p, hp, rfl⟩ := ref_of hx
      obtain ⟨b, hb, hT⟩ := (L.rf.same sm).get hp
      have il : i < bs.length := (List.getElem?_eq_some_iff.mp hb).1
      have rl := rr.len
      have fl := List.length_filter_le (fun b : Blk => b.2.2) (bs.take i)
      rw [List.length_take] at fl
      have hT' : G p = some (.tup [.int b.1, .int (b.2.1 : Nat), .bl b.2.2]) := hT
      refine ⟨rfl, _, rfl, p, _, _, _, rfl, rfl, SqT.of hT', rfl, _, rfl, ?_⟩
      have fa := filter_at (fun b => b.2.2) hb
      cases hq : b.2.2 with
      | true =>
        rw [hq] at fa
        refine iteT ⟨_, rfl, _, hG, (by rw [List.length_map]; omega), qs ++ [p], ?_, ?_, fun c o e => ?_⟩
        · rw [upd_same, List.map_append]
          rfl
        · rw [fa]
          refine (rr.mono fun c xs e => ?_).app (.one ?_)
          · rw [upd_ne (fun z => by rw [z, hG] at e; cases e)]
            exact e
          · rw [upd_ne (fun z => by rw [z, hG] at hT; cases hT)]
            exact hT
        · rw [upd_ne (ne_of_none e hD)]
          exact sm c o e
      | false =>
        rw [hq] at fa
        refine iteF ⟨qs, hG, ?_, sm⟩
        rw [fa]
        simpa using rr
    · rintro G ⟨qs, hG, rr, sm⟩
      rw [List.length_map, pl, List.take_length] at rr
      refine ⟨y, zp, bl, dx, ps, ns, n, bs, D, qs, _, rfl, L.same sm, hG, rr, Nat.le_trans (List.length_filter_le _ _) bn, fun b hb => (L.wf.ok b ((List.mem_filter.mp hb).1)).1, fun D2 rs H' hD2 sm2 h2 r2 => q D2 rs H' (sm.free hD2) (sm.trans sm2) h2 r2⟩
def spRegIn (K : PySem.W.Frag) : Sp := fun vs H Q _ => ∃ (y zp bl dx : Addr) (ps : List Addr) (ns : List Int) (n : Int) (bs : List Blk) (M : Addr) (qs : List Addr) (gs : List (Int × Int)) (k : Nat), vs = [.ref y, .ref M, .int k] ∧ Ly K H y zp bl dx ps ns n bs ∧ H M = some (.lst (qs.map V.ref)) ∧ Refs prV H qs gs ∧ gs.length ≤ 2000 ∧ (∀ g ∈ gs, 0 ≤ g.1 ∧ g.1 ≤ g.2) ∧ k < ns.length ∧
  ∀ H', Same H H' → Q (.int (regI ns k gs)) H'
def spClear (K : PySem.W.Frag) : Sp := fun vs H Q _ => ∃ (y zp bl dx : Addr) (ps : List Addr) (ns : List Int) (n : Int) (bs : List Blk) (k : Nat), vs = [.ref y, .int k] ∧ Ly K H y zp bl dx ps ns n bs ∧ k < ns.length ∧ ∀ H', Same H H' → Q (.int (clrI ns n bs k)) H'
end
end K35

set_option Elab.async false
set_option linter.all false
set_option maxRecDepth 100000
set_option maxHeartbeats 4000000
namespace K35
open PySem PySem.Spec PyProof.Rows L2 Gu Ex
def unpB (bs : List Blk) : List Blk := bs.filter fun b => !b.2.2
def lvK (cs : List Blk) : List (Key × V) := cs.map fun b => (Sum.inl b.1, V.int (b.2.1 : Nat))
theorem lvK_none {a : Int} : ∀ {cs : List Blk}, (∀ c ∈ cs, c.1 ≠ a) → valV (lvK cs) (Sum.inl a) = none
  | [], _ => rfl
  | c :: cs, h => by
    show valV ((Sum.inl c.1, V.int (c.2.1 : Nat)) :: lvK cs) (Sum.inl a) = none
    rw [valV_neg (fun e => h c List.mem_cons_self (Sum.inl.inj e))]
    exact lvK_none fun d hd => h d (List.mem_cons_of_mem _ hd)
theorem lvK_get : ∀ {cs : List Blk} {b : Blk}, cs.Pairwise (fun b c => b.1 < c.1) → b ∈ cs → valV (lvK cs) (Sum.inl b.1) = some (.int (b.2.1 : Nat))
  | c :: cs, b, hp, hb => by
    show valV ((Sum.inl c.1, V.int (c.2.1 : Nat)) :: lvK cs) (Sum.inl b.1) = _
    have hp2 := List.pairwise_cons.mp hp
    rcases List.mem_cons.mp hb with e | e
    · subst e
      exact valV_pos rfl
    · rw [valV_neg (fun z => by
        have h1 := hp2.1 b e
        have h2 : c.1 = b.1 := Sum.inl.inj z
        omega)]
      exact lvK_get hp2.2 e
theorem Wf.rise {ns : List Int} {n : Int} {bs : List Blk} (w : Wf ns n bs) (g : Good ns) : bs.Pairwise (fun b c => b.1 < c.1) := by
  refine List.pairwise_iff_getElem.mpr fun i j hi hj hij => ?_
  exact (w.lt g (List.getElem?_eq_getElem hi) (List.getElem?_eq_getElem hj) hij).2
/-- the cells of the unpinned blocks of level k or higher -/
def lseI (ns : List Int) (bs : List Blk) (k : Nat) : Int := (((unpB bs).filter fun b => decide (k ≤ b.2.1)).map fun b => sz ns b.2.1).sum
section
variable {P : Program} {w : World} {K : PySem.W.Frag} {mg : Str → Option Value} {base : Heap} {f : Addr} {fd : FuncData}
def spLevels (K : PySem.W.Frag) : Sp := fun vs H Q _ => ∃ (y zp bl dx : Addr) (ps : List Addr) (ns : List Int) (n : Int) (bs : List Blk), vs = [.ref y] ∧ Ly K H y zp bl dx ps ns n bs ∧ ∀ D H', H D = none → Same H H' → H' D = some (.dK (lvK (unpB bs))) → Q (.ref D) H'
theorem sc_unpinned_levels : FnScope ["self", "address", "level", "is_pinned"] ["self"] (defScope (inClass (top 41) 19)) := ⟨rfl, rfl, rfl, by decide +kernel, rfl, by decide +kernel, by decide +kernel⟩
theorem ok_levels (T : Tx K mg) (F : FnP K "unpinned_levels" "Layout.unpinned_levels" (inClass (top 41) 19) f fd) : FnOk P w K mg base CX0 1 f fd ["self"] (spLevels K) := by
  refine F.ok sc_unpinned_levels (fun vs H Q E h => ?_) (fun cdv A outer s H vs Q E hr h => ⟨_, PSs.nox (pss_one (ps_ret (pe_dc (own := [("address", 1), ("level", 2), ("is_pinned", 3)]) (g := gTup K 3 (gCons (gName 1) (gCons (gName 2) (gCons (gName 3) gNil)))) rfl sc_unpinned_levels.nd (pi_list (pe_fld (pv 0) rfl)) (blkOk_by (own := [("address", 1), ("level", 2), ("is_pinned", 3)]) (N := ["self", "address", "level", "is_pinned"]) (sc := defScope (inClass (top 41) 19)) (by decide +kernel)) (fun _ _ _ _ _ => pg_tup rfl (pgs_cons (pg_name (i := 1) sc_unpinned_levels.nd rfl (Or.inl rfl)) (pgs_cons (pg_name (i := 2) sc_unpinned_levels.nd rfl (Or.inl rfl)) (pgs_cons (pg_name (i := 3) sc_unpinned_levels.nd rfl (Or.inl rfl)) pgs_nil)))) (fun _ _ _ _ _ => (pts_one (pt_not (pt_val (pv 3))))) (fun _ _ _ _ _ => (pv 1)) (fun _ _ _ _ _ => (pv 2))))), ?_⟩)
  · obtain ⟨y, zp, bl, dx, ps, ns, n, bs, rfl, _⟩ := h
    rfl
  · obtain ⟨y, zp, bl, dx, ps, ns, n, bs, rfl, L, q⟩ := h
    have sl : sizeLine = 16777216 := sizeLine_eq
    have pl := L.rf.len
    have bn := L.ln
    refine ⟨_, rfl, y, _, dx, _, _, rfl, L.at_, T.ly, T.nBL, lay_bl .., bl, rfl, ⟨_, SqL.of L.lst⟩, fun D hD => ?_⟩
    refine dc_list (K := K) (a := bl) (xs := ps.map V.ref) (fun i G => G D = some (.dK (lvK ((bs.take i).filter fun b => !b.2.2))) ∧ Same H G) ⟨upd_same, same_upd hD⟩ (fun i G _ ⟨_, sm⟩ => SqL.of (sm _ _ L.lst)) ?_ ?_
    · rintro i x G hx ⟨hG, sm⟩
      obtain ⟨p, hp, rfl⟩ := ref_of hx
      obtain ⟨b, hb, hT⟩ := (L.rf.same sm).get hp
      have il : i < bs.length := (List.getElem?_eq_some_iff.mp hb).1
      have hT' : G p = some (.tup [.int b.1, .int (b.2.1 : Nat), .bl b.2.2]) := hT
      have fa := filter_at (fun b => !b.2.2) hb
      have fl := List.length_filter_le (fun b : Blk => !b.2.2) (bs.take i)
      rw [List.length_take] at fl
      refine ⟨p, _, rfl, .inl (.inl hT'), rfl, _, _, rfl, _, _, rfl, _, _, rfl, rfl, rfl, ?_⟩
      refine ⟨_, rfl, _, rfl, ?_⟩
      cases hq : b.2.2 with
      | true =>
        rw [hq] at fa
        refine iteF ⟨?_, sm⟩
        rw [fa]
        simpa using hG
      | false =>
        rw [hq] at fa
        have no : valV (lvK ((bs.take i).filter fun b => !b.2.2)) (Sum.inl b.1) = none := lvK_none fun c hc => by
          obtain ⟨j, hj, ej⟩ := mem_take_at (List.mem_filter.mp hc).1
          have := (L.wf.lt L.gd ej hb hj).2
          omega
        refine iteT ⟨_, rfl, _, rfl, _, Sum.inl b.1, rfl, hG, (by unfold lvK; rw [List.length_map]; omega), ?_, fun c o e => ?_⟩
        · rw [upd_same, putK_new _ no, fa]
          show _ = some (HO.dK (lvK (((bs.take i).filter fun b => !b.2.2) ++ [b])))
          unfold lvK
          rw [List.map_append]
          rfl
        · rw [upd_ne (ne_of_none e hD)]
          exact sm c o e
    · rintro G ⟨hG, sm⟩
      rw [List.length_map, pl, List.take_length] at hG
      exact q D G hD sm hG
def spLoose (K : PySem.W.Frag) : Sp := fun vs H Q _ => ∃ (y zp bl dx : Addr) (ps : List Addr) (ns : List Int) (n : Int) (bs : List Blk) (k : Nat), vs = [.ref y, .int k] ∧ Ly K H y zp bl dx ps ns n bs ∧ k < ns.length ∧ ∀ H', Same H H' → Q (.int (lseI ns bs k)) H'
end
end K35

set_option Elab.async false
set_option linter.all false
set_option maxRecDepth 100000
set_option maxHeartbeats 4000000
namespace K35
open PySem PySem.Spec PyProof.Rows L2 Gu Ex
/-- a list of blocks at a -/
structure Bl (ns : List Int) (H : Hp) (a : Addr) (ps : List Addr) (bs : List Blk) : Prop where
  at_ : H a = some (.lst (ps.map V.ref))
  rf : Refs blkV H ps bs
  lv : ∀ b ∈ bs, b.2.1 < ns.length
  ln : bs.length ≤ 1000
theorem Bl.same {ns : List Int} {H H' : Hp} {a : Addr} {ps : List Addr} {bs : List Blk} (h : Bl ns H a ps bs) (s : Same H H') : Bl ns H' a ps bs := ⟨s _ _ h.at_, h.rf.same s, h.lv, h.ln⟩
def hitB (ns : List Int) (lo hi : Int) (b : Blk) : Bool := b.2.2 && (decide (b.1 < hi) && decide (lo < bEnd ns b))
def clearB (ns : List Int) (bs : List Blk) (lo hi : Int) : Bool := bs.all fun b => !hitB ns lo hi b
theorem all_at {bs : List Blk} {p : Blk → Bool} {i : Nat} {b : Blk} (h : bs[i]? = some b) (k : (bs.take i).all p = true) (hp : p b = true) : (bs.take (i + 1)).all p = true := by
  rw [take_at h, List.all_append, k]
  simp [hp]
theorem all_no {bs : List Blk} {p : Blk → Bool} {b : Blk} (h : b ∈ bs) (hp : p b = false) : bs.all p = false := by
  cases e : bs.all p with
  | false => rfl
  | true =>
    have := List.all_eq_true.mp e b h
    rw [hp] at this
    cases this
end K35

set_option Elab.async false
set_option linter.all false
set_option maxRecDepth 100000
set_option maxHeartbeats 4000000
namespace K35
open PySem PySem.Spec PyProof.Rows L2 Gu Ex
def offB (ns : List Int) (lo hi : Int) (b : Blk) : Bool := decide (hi ≤ b.1) || decide (bEnd ns b ≤ lo)
def spaceB (ns : List Int) (n : Int) (bs : List Blk) (k : Nat) (a : Int) : Bool := decide (sz ns k ∣ a) && (decide (a + sz ns k ≤ n) && bs.all (offB ns a (a + sz ns k)))
section
variable {P : Program} {w : World} {K : PySem.W.Frag} {mg : Str → Option Value} {base : Heap} {f : Addr} {fd : FuncData}
def spSpace : Sp := fun vs H Q _ => ∃ (s a : Addr) (ns : List Int) (n : Int) (ps : List Addr) (bs : List Blk) (k : Nat) (ad : Int), vs = [.ref s, .int n, .ref a, .int k, .int ad] ∧ H s = some (.lst (ns.map V.int)) ∧ Bl ns H a ps bs ∧ Good ns ∧ k < ns.length ∧ 0 ≤ ad ∧ ad ≤ 2000000000000 ∧ ∀ H', Same H H' → Q (.bl (spaceB ns n bs k ad)) H'
theorem sc__law_has_space : FnScope ["_law_sizes_here", "_law_length", "_law_blocks_here", "_law_level", "_law_address", "_law_end", "_law_one"] ["_law_sizes_here", "_law_length", "_law_blocks_here", "_law_level", "_law_address"] (defScope (top 48)) := ⟨rfl, rfl, rfl, by decide +kernel, rfl, by decide +kernel, by decide +kernel⟩
theorem ok_space (T : Tx K mg) (F : FnP K "_law_has_space" "_law_has_space" (top 48) f fd) : FnOk P w K mg base CX0 1 f fd ["_law_sizes_here", "_law_length", "_law_blocks_here", "_law_level", "_law_address"] spSpace := by
  refine F.ok sc__law_has_space (fun vs H Q E h => ?_) (fun cdv A outer s H vs Q E hr h => ⟨_, PSs.nox (pss_cons (ps_set (i := 5) sc__law_has_space.nd rfl (by first | exact Or.inl rfl | exact Or.inr rfl) (pe_op op_add (pv 4) (pe_ix ix_list (pv 0) (pv 3) (fun _ _ => rfl)))) (pss_cons (ps_if (PW.pt (pw_or (pt_cmpR op_ne (pe_op op_mod (pv 4) (pe_ix ix_list (pv 0) (pv 3) (fun _ _ => rfl))) pe_int (nomark _)) (pw_or1 (pt_cmpR op_gt (pv 5) (pv 1) (nomark _))))) (pss_one (ps_ret pe_bl)) pss_nil) (pss_one (ps_ret (pe_callB (cr_all rfl) (by rfl) T.n_all (by decide +kernel) (pa_cons (pe_lc (own := [("_law_one", 6)]) (g := gName 6) rfl sc__law_has_space.nd (pi_list (pv 2)) (blkOk_by (own := [("_law_one", 6)]) (N := ["_law_sizes_here", "_law_length", "_law_blocks_here", "_law_level", "_law_address", "_law_end", "_law_one"]) (sc := defScope (top 48)) (by decide +kernel)) (fun _ _ _ _ _ => pg_name (i := 6) sc__law_has_space.nd rfl (Or.inl rfl)) (fun _ _ _ _ _ => pts_nil) (fun _ _ _ _ _ => (pe_or (pe_cmpR op_ge (pe_ix (r := rIxT K) ix_tup (pv 6) pe_int (fun _ _ => rfl)) (pv 5) (nomark _)) (pe_one (pe_cmpR op_le (pe_op op_add (pe_ix (r := rIxT K) ix_tup (pv 6) pe_int (fun _ _ => rfl)) (pe_ix (r := rIxL K) ix_list (pv 0) (pe_ix (r := rIxT K) ix_tup (pv 6) pe_int (fun _ _ => rfl)) (fun _ _ => rfl))) (pv 4) (nomark _)))))) pa_nil)))))), ?_⟩)
  · obtain ⟨s, a, ns, n, ps, bs, k, ad, rfl, _⟩ := h
    rfl
  · obtain ⟨s, a, ns, n, ps, bs, k, ad, rfl, hs, B, g, hk, a0, a1, q⟩ := h
    have pl := B.rf.len
    have bn := B.ln
    have sl : sizeLine = 16777216 := sizeLine_eq
    have z1 := (chain g).pos k hk
    refine ⟨_, rfl, _, rfl, _, rfl, s, _, _, _, rfl, rfl, SqL.of hs, at_sz hk, _, _, rfl, rfl, ?_⟩
    refine ⟨_, rfl, _, rfl, _, rfl, s, _, _, _, rfl, rfl, SqL.of hs, at_sz hk, _, _, rfl, rfl, by omega, ?_⟩
    by_cases hd : ad % sz ns k = 0
    case neg =>
      refine ⟨rfl, _, rfl, ifT (by rw [vF hd]; rfl) ?_⟩
      have e : spaceB ns n bs k ad = false := by
        unfold spaceB
        rw [decide_eq_false (fun z => hd (Int.emod_eq_zero_of_dvd z))]
        rfl
      have q' := q H (fun _ _ e => e)
      rw [e] at q'
      exact q'
    refine ⟨rfl, _, rfl, ifF (by rw [vT hd]; rfl) ?_⟩
    refine ⟨_, rfl, _, rfl, _, _, rfl, rfl, _, rfl, ?_⟩
    by_cases hl : n < ad + sz ns k
    · refine ifT (decide_eq_true hl) ?_
      have e : spaceB ns n bs k ad = false := by
        unfold spaceB
        rw [decide_eq_false (show ¬ ad + sz ns k ≤ n by omega), Bool.false_and, Bool.and_false]
      have q' := q H (fun _ _ e => e)
      rw [e] at q'
      exact q'
    refine ifF (decide_eq_false hl) ?_
    have e : spaceB ns n bs k ad = bs.all (offB ns ad (ad + sz ns k)) := by
      unfold spaceB
      rw [decide_eq_true (show ad + sz ns k ≤ n by omega), decide_eq_true (Int.dvd_of_emod_eq_zero hd)]
      rfl
    rw [e] at q
    refine ⟨_, rfl, a, rfl, ⟨_, SqL.of B.at_⟩, fun D hD => ?_⟩
    refine lc_list (K := K) (a := a) (xs := ps.map V.ref) (fun i G => G D = some (.lst (((bs.take i).map (offB ns ad (ad + sz ns k))).map V.bl)) ∧ Same H G) ⟨upd_same, same_upd hD⟩ (fun i G _ ⟨_, sm⟩ => SqL.of (sm _ _ B.at_)) ?_ ?_
    · rintro i x G hx ⟨hG, sm⟩
      obtain ⟨p, hp, rfl⟩ := ref_of hx
      obtain ⟨b, hb, hT⟩ := (B.rf.same sm).get hp
      have hT' : G p = some (.tup [.int b.1, .int (b.2.1 : Nat), .bl b.2.2]) := hT
      have bk := B.lv b (List.mem_of_getElem? hb)
      have il : i < bs.length := (List.getElem?_eq_some_iff.mp hb).1
      have fin : ∀ v : Bool, v = offB ns ad (ad + sz ns k) b → ∃ xs, G D = some (.lst xs) ∧ xs.length < sizeLine ∧ (upd G D (.lst (xs ++ [.bl v]))) D = some (.lst (((bs.take (i + 1)).map (offB ns ad (ad + sz ns k))).map V.bl)) ∧ Same H (upd G D (.lst (xs ++ [.bl v]))) := by
        rintro v rfl
        refine ⟨_, hG, (by rw [List.length_map, List.length_map, List.length_take]; omega), ?_, fun c o e => ?_⟩
        · rw [upd_same, take_at hb, List.map_append, List.map_append]
          rfl
        · rw [upd_ne (ne_of_none e hD)]
          exact sm c o e
      refine ⟨rfl, _, rfl, p, _, _, _, rfl, rfl, .inl (.inl hT'), rfl, _, rfl, _, _, rfl, rfl, _, rfl, ?_⟩
      by_cases h1 : ad + sz ns k ≤ b.1
      · refine ifT (decide_eq_true h1) ?_
        exact fin true (by unfold offB; rw [decide_eq_true h1]; rfl)
      · refine ifF (decide_eq_false h1) ?_
        refine ⟨_, rfl, p, _, _, _, rfl, rfl, .inl (.inl hT'), rfl, _, rfl, _, rfl, p, _, _, _, rfl, rfl, .inl (.inl hT'), rfl, s, _, _, _, rfl, rfl, SqL.of (sm _ _ hs), at_sz bk, _, _, rfl, rfl, _, rfl, _, _, rfl, rfl, ?_⟩
        exact fin _ (by unfold offB; rw [decide_eq_false h1]; rfl)
    · rintro G ⟨hG, sm⟩
      rw [List.length_map, pl, List.take_length] at hG
      refine ⟨D, _, rfl, SqL.of hG, ?_⟩
      rw [List.all_map]
      exact q G sm
end
end K35

set_option Elab.async false
set_option linter.all false
set_option maxRecDepth 100000
set_option maxHeartbeats 4000000
/-! sorted of tuples (int, int, bool) with distinct first parts -/
namespace SrtO
open PySem PyProof.Rows Srt
section
variable {prog : Program} {w : World} {A : Around} {E : Value → Shared → Prop} {s : Shared}
def IsTrip (h : Heap) (v : Value) (x : Int) : Prop := ∃ a o t y u b n, v = .ref a ∧ h.get? a = some o ∧ o.cls = .type "tuple" ∧ o.data = .seq #[.int x t, .int y u, .bool b] n
theorem IsTrip.keeps {h h' : Heap} {v : Value} {x : Int} (p : IsTrip h v x) (k : ∀ b o, h.get? b = some o → o.cls = .type "tuple" → h'.get? b = some o) : IsTrip h' v x := by
  obtain ⟨a, o, t, y, u, b, n, e, ho, hc, hd⟩ := p
  exact ⟨a, o, t, y, u, b, n, e, k _ _ ho hc, hc, hd⟩
abbrev ltI (k : Value → Int) (v u : Value) : Bool := decide (k v < k u)
theorem swo_int {α : Type} (k : α → Int) : Swo (fun v u => decide (k v < k u)) := by
  refine ⟨fun x y h => ?_, fun x y z h1 h2 => ?_⟩
  · have a := of_decide_eq_true h
    exact decide_eq_false (by omega)
  · have a := of_decide_eq_false h1
    have b := of_decide_eq_false h2
    exact decide_eq_false (by omega)
theorem trip_cmp {vs : List Value} {k : Value → Int} (hp : ∀ v ∈ vs, IsTrip s.heap v (k v)) (hd : ∀ v ∈ vs, ∀ u ∈ vs, k v = k u → v = u) : Cmp prog w A s (tuples' true) (fun p => p.1 ∈ vs) (lt2 (ltI k)) := by
  intro p q hm hm'
  show wpAny (model prog w) A (keyLt' (tuples' true) p.1 q.1) (fun r s' => s' = s ∧ r = decide (k p.1 < k q.1)) (fun _ _ => False) s
  have h1 := hp _ hm
  have h2 := hp _ hm'
  by_cases ek : k p.1 = k q.1
  · have ev := hd _ hm _ hm' ek
    rw [← ev]
    rw [decide_eq_false (Int.lt_irrefl _)]
    generalize k p.1 = x at h1
    obtain ⟨a, o, t, y, u, b, n, e, ho, hc, hdd⟩ := h1
    rw [e]
    refine PySem.W.kat_lt ho hdd ho hdd ?_
    show PySem.W.KatLex prog w A true (decide (3 < 3)) _ [(.int x t, .int x t), (.int y u, .int y u), (.bool b, .bool b)] 0 s
    refine PySem.W.kat_cons (SeqAt.EqAt.int_int x t x t prog w _ _ ?_)
    refine PySem.W.kat_go (fun _ => ?_) (fun e1 => absurd e1 (by simp))
    refine PySem.W.kat_yes (PySem.W.kat_cons (SeqAt.EqAt.int_int y u y u prog w _ _ ?_))
    refine PySem.W.kat_go (fun _ => ?_) (fun e1 => absurd e1 (by simp))
    refine PySem.W.kat_yes (PySem.W.kat_cons (SeqAt.EqAt.bool_bool b b prog w _ _ ?_))
    refine PySem.W.kat_go (fun _ => ?_) (fun e1 => absurd e1 (by simp))
    exact PySem.W.kat_yes (PySem.W.kat_nil ⟨rfl, rfl⟩)
  · generalize k p.1 = x at h1 ek
    generalize k q.1 = x' at h2 ek
    obtain ⟨a, o, t, y, u, b, n, e, ho, hc, hdd⟩ := h1
    obtain ⟨a', o', t', y', u', b', n', e', ho', hc', hdd'⟩ := h2
    rw [e, e']
    refine PySem.W.kat_lt ho hdd ho' hdd' ?_
    show PySem.W.KatLex prog w A true (decide (3 < 3)) _ [(.int x t, .int x' t'), (.int y u, .int y' u'), (.bool b, .bool b')] 0 s
    refine PySem.W.kat_cons (SeqAt.EqAt.int_int x t x' t' prog w _ _ ?_)
    refine PySem.W.kat_go (fun e1 => absurd (by simpa using e1) ek) (fun e1 => ?_)
    exact PySem.W.kat_no (oneLt_int ⟨rfl, rfl⟩)
theorem firsts3 {h : Heap} : ∀ {vs : List Value}, (∀ v ∈ vs, ∃ x, IsTrip h v x) → ∃ fs : List Value, PySem.W.KatTups h vs fs ∧ fs.length = vs.length ∧ ∀ f ∈ fs, ∃ x t, f = Value.int x t
  | [], _ => ⟨[], PySem.W.KatTups.nil, rfl, fun _ hm => by simp at hm⟩
  | v :: vs, hp => by
    obtain ⟨fs, h1, h2, h3⟩ := firsts3 (vs := vs) fun v' hm => hp v' (List.mem_cons_of_mem _ hm)
    obtain ⟨x, a, o, t, y, u, b, n, e, ho, hc, hd⟩ := hp v (List.mem_cons_self ..)
    subst e
    refine ⟨.int x t :: fs, PySem.W.KatTups.cons ho hc hd rfl h1, by rw [List.length_cons, List.length_cons, h2], fun f hm => ?_⟩
    rcases List.mem_cons.mp hm with rfl | hm
    · exact ⟨x, t, rfl⟩
    · exact h3 f hm
theorem trips_sortable {a : Addr} {vs : List Value} {k : Value → Int} (h0 : 0 < vs.length) (hp : ∀ v ∈ vs, IsTrip s.heap v (k v)) (hd : ∀ v ∈ vs, ∀ u ∈ vs, k v = k u → v = u) (ha : ∀ o, s.heap.get? a = some o → o.cls ≠ .type "tuple") : SortableO prog w A s a vs (ltI k) := by
  intro h' keep
  have hp' : ∀ v ∈ vs, IsTrip h' v (k v) := fun v hm => (hp v hm).keeps fun b o e c => keep b o (fun z => by subst z; exact ha o e c) e
  obtain ⟨fs, h1, h2, h3⟩ := firsts3 fun v hm => ⟨_, hp' v hm⟩
  refine ⟨tuples' true, fun Q E hq => ?_, trip_cmp hp' hd⟩
  refine PySem.W.kat_kind (T := .type "int") h1 (by omega) (fun f hm => ?_) (by rfl) ?_
  · obtain ⟨x, t, rfl⟩ := h3 f hm
    exact PySem.W.Looks.now
  · have e : (Value.type "int" != Value.type "tuple") = true := by first | decide +kernel | rfl | decide
    rw [e]
    exact hq
theorem sorted_trips {l : Addr} {vs : List Value} {k : Value → Int} {Q : Value → Shared → Prop} (hl : s.heap.IsList l vs.toArray) (hz : vs.length ≤ sizeLine) (hp : ∀ v ∈ vs, IsTrip s.heap v (k v)) (hdi : ∀ v ∈ vs, ∀ u ∈ vs, k v = k u → v = u)
    (h : ∀ (h' : Heap) (d : Addr) (out : List Value), Srtd (ltI k) out → Stb (ltI k) out vs → (∀ b o, s.heap.get? b = some o → h'.get? b = some o) → s.heap.objs.size ≤ d → (∃ n, h'.get? d = some (seqObj "list" out.toArray n)) → Q (.ref d) { s with heap := h' }) :
    wpAny (model prog w) A (call (.builtin "sorted") [.ref l]) Q E s := by
  refine sorted_ord (swo_int k) hl hz (fun h2 h₁ a ha kk => ?_) fun out hs hb => ?_
  · refine trips_sortable (s := { s with heap := h₁ }) (by omega) (fun v hm => (hp v hm).keeps fun b o e _ => (kk b o e).2) hdi fun o e => ?_
    have e' : some o = some (seqObj "list" vs.toArray 0) := e.symm.trans ha
    cases e'
    intro c
    exact absurd (Value.type.inj c) (by decide)
  · exact h _ _ out hs hb (fun b o e => sortedAll_old e) (Nat.le_succ _) (sortedAll_at s.heap vs out.toArray)
end
end SrtO
namespace L2
open PySem PySem.Spec PyProof.Rows
theorem vals3S {a b c : V} {us : List Value} (r : Vals [a, b, c] us) : ∃ u v w, us = [u, v, w] ∧ RelV a u ∧ RelV b v ∧ RelV c w := by
  cases r with
  | cons h1 r => cases r with
    | cons h2 r => cases r with
      | cons h3 r => cases r with
        | nil => exact ⟨_, _, _, rfl, h1, h2, h3⟩
def rSortedB (K : PySem.W.Frag) : List V → Hp → VK → Prop := fun vs H Q => ∃ (a : Addr) (xs : List V) (k : V → Int), vs = [V.ref a] ∧ SqL K H a xs ∧ (∀ x ∈ xs, ∃ t j b, x = V.ref t ∧ H t = some (.tup [.int (k x), .int j, .bl b])) ∧ (∀ x ∈ xs, ∀ y ∈ xs, k x = k y → x = y) ∧
  ∀ ys p, ys.Pairwise (fun x y => k x ≤ k y) → ys.Perm xs → H p = none → Q (.ref p) (upd H p (.lst ys))
section
variable {X : Cx}
theorem cr_sortedB : CallR X (.builtin "sorted") (rSortedB X.K) := by
  intro pins s σ H vs us Q I r h
  obtain ⟨a, xs, k, rfl, hs, hx, hdi, q⟩ := h
  obtain ⟨its, rv, hl, hz⟩ := I.list hs
  obtain ⟨u, rfl, ru⟩ := vals1 r
  obtain rfl : u = Value.ref a := ru
  obtain ⟨e1, e2⟩ := refs_back rv fun x m => by
    obtain ⟨t, _, _, e, _⟩ := hx x m
    exact ⟨t, e⟩
  have mem : ∀ v ∈ its, backV v ∈ xs := fun v hv => by rw [e1]; exact List.mem_map.mpr ⟨_, hv, rfl⟩
  refine SrtO.sorted_trips (k := fun u => k (backV u)) hl.isList (by rw [← rv.length]; exact hz) (fun v hv => ?_) (fun v hv u hu e => ?_) fun h' d out h1 h2 kp hd hn => ?_
  · obtain ⟨t, rfl⟩ := e2 v hv
    have hm : V.ref t ∈ xs := mem _ hv
    obtain ⟨t', j, b, e, ht⟩ := hx _ hm
    cases e
    obtain ⟨_, its2, r2, o, ho, hc, n, hd⟩ := I.hok _ _ ht
    obtain ⟨u1, u2, u3, rfl, ri, rj, rb⟩ := vals3S r2
    obtain ⟨t1, rfl⟩ := ri
    obtain ⟨t2, rfl⟩ := rj
    have e3 : u3 = .bool b := rb
    subst e3
    exact ⟨t, o, t1, j, t2, b, n, rfl, ho, hc, hd⟩
  · have z := hdi _ (mem v hv) _ (mem u hu) e
    obtain ⟨t, rfl⟩ := e2 v hv
    obtain ⟨t', rfl⟩ := e2 u hu
    have z2 : V.ref t = V.ref t' := z
    rw [V.ref.inj z2]
  · have h3 : ∀ u ∈ out, ∃ a, u = Value.ref a := fun u hu => e2 u (h2.perm.mem_iff.mp hu)
    obtain ⟨n, hn⟩ := hn
    have hb : (out.map backV).Perm xs := by
      rw [e1]
      exact h2.perm.map backV
    refine ⟨.ref d, upd H d (.lst (out.map backV)), I.laid (t' := s.toks) kp hd ⟨?_, out, n, vals_back h3, hn⟩, rfl, q _ d (List.pairwise_map.mpr (h1.imp fun {x y} e => ?_)) hb (I.hok.fresh hd)⟩
    · rw [hb.length_eq]
      exact hz
    · have z := of_decide_eq_false e
      exact Int.not_lt.mp z
end
end L2

set_option Elab.async false
set_option linter.all false
set_option maxRecDepth 100000
set_option maxHeartbeats 4000000
namespace K35
open PySem PySem.Spec PyProof.Rows L2 Gu Ex
/-- the block at an address -/
def bkA (G : Hp) (t : Addr) : Blk := match G t with
  | some (.tup [.int a, .int l, .bl p]) => (a, l.toNat, p)
  | _ => (0, 0, false)
def keyV (G : Hp) : V → Int
  | .ref t => (bkA G t).1
  | _ => 0
theorem bkA_of {G : Hp} {t : Addr} {b : Blk} (h : G t = some (.tup (blkV b))) : bkA G t = b := by
  unfold bkA
  rw [h]
  obtain ⟨a, l, p⟩ := b
  show (a, ((l : Nat) : Int).toNat, p) = (a, l, p)
  rw [Int.toNat_natCast]
theorem Refs.bk {G : Hp} {qs : List Addr} {bs : List Blk} (h : Refs blkV G qs bs) : bs = qs.map (bkA G) ∧ ∀ t ∈ qs, G t = some (.tup (blkV (bkA G t))) := by
  induction h with
  | nil => exact ⟨rfl, fun _ m => nomatch m⟩
  | cons e _ ih =>
    have e2 := bkA_of e
    refine ⟨by rw [List.map_cons, e2, ih.1], fun t ht => ?_⟩
    rcases List.mem_cons.mp ht with z | z
    · rw [z, e2]; exact e
    · exact ih.2 t z
theorem Refs.of_bk {G : Hp} : ∀ {qs : List Addr}, (∀ t ∈ qs, G t = some (.tup (blkV (bkA G t)))) → Refs blkV G qs (qs.map (bkA G))
  | [], _ => .nil
  | t :: qs, h => .cons (h t List.mem_cons_self) (Refs.of_bk fun u hu => h u (List.mem_cons_of_mem _ hu))
def Dj (ns : List Int) (b c : Blk) : Prop := bEnd ns b ≤ c.1 ∨ bEnd ns c ≤ b.1
/-- blocks as they are put, in any order -/
structure Un (ns : List Int) (n : Int) (bs : List Blk) : Prop where
  ok : ∀ b ∈ bs, b.2.1 < ns.length ∧ 0 ≤ b.1 ∧ sz ns b.2.1 ∣ b.1 ∧ bEnd ns b ≤ n
  dj : bs.Pairwise (Dj ns)
theorem Wf.un {ns : List Int} {n : Int} {bs : List Blk} (w : Wf ns n bs) : Un ns n bs := ⟨w.ok, w.so.imp fun h => .inl h⟩
theorem Un.snoc {ns : List Int} {n : Int} {bs : List Blk} {k : Nat} {a : Int} {p : Bool} (u : Un ns n bs) (hk : k < ns.length) (a0 : 0 ≤ a) (h : spaceB ns n bs k a = true) : Un ns n (bs ++ [(a, k, p)]) := by
  unfold spaceB at h
  rw [Bool.and_eq_true, Bool.and_eq_true] at h
  obtain ⟨h1, h2, h3⟩ := h
  have d1 := of_decide_eq_true h1
  have d2 := of_decide_eq_true h2
  refine ⟨fun b hb => ?_, List.pairwise_append.mpr ⟨u.dj, List.pairwise_singleton _ _, fun b hb c hc => ?_⟩⟩
  · rcases List.mem_append.mp hb with e | e
    · exact u.ok b e
    · rw [List.mem_singleton.mp e]
      exact ⟨hk, a0, d1, d2⟩
  · rw [List.mem_singleton.mp hc]
    have := List.all_eq_true.mp h3 b hb
    unfold offB at this
    rw [Bool.or_eq_true] at this
    rcases this with z | z
    · exact .inr (of_decide_eq_true z)
    · exact .inl (of_decide_eq_true z)
section
variable {ns : List Int} {n : Int} {bs : List Blk} {G : Hp} {qs : List Addr}
theorem Un.perm {cs : List Blk} (u : Un ns n bs) (p : cs.Perm bs) : Un ns n cs := ⟨fun b hb => u.ok b (p.mem_iff.mp hb), (p.pairwise_iff (fun h => h.symm)).mpr u.dj⟩
theorem Un.wf (u : Un ns n bs) (g : Good ns) (s : bs.Pairwise (fun b c => b.1 ≤ c.1)) : Wf ns n bs := by
  refine ⟨u.ok, List.pairwise_iff_getElem.mpr fun i j hi hj hij => ?_⟩
  have h1 := List.pairwise_iff_getElem.mp u.dj i j hi hj hij
  have h2 := List.pairwise_iff_getElem.mp s i j hi hj hij
  have h3 := (chain g).pos _ (u.ok _ (List.getElem_mem hj)).1
  rcases h1 with h | h
  · exact h
  · unfold bEnd at h
    omega
/-- what sorted wants -/
theorem Un.keys (u : Un ns n bs) (g : Good ns) (rf : Refs blkV G qs bs) : (∀ x ∈ qs.map V.ref, ∃ t j b, x = V.ref t ∧ G t = some (.tup [.int (keyV G x), .int j, .bl b])) ∧ ∀ x ∈ qs.map V.ref, ∀ y ∈ qs.map V.ref, keyV G x = keyV G y → x = y := by
  obtain ⟨e, h⟩ := rf.bk
  refine ⟨fun x hx => ?_, fun x hx y hy hk => ?_⟩
  · obtain ⟨t, ht, rfl⟩ := List.mem_map.mp hx
    exact ⟨t, _, _, rfl, h t ht⟩
  · obtain ⟨t, ht, rfl⟩ := List.mem_map.mp hx
    obtain ⟨t2, ht2, rfl⟩ := List.mem_map.mp hy
    obtain ⟨i, hi, ei⟩ := List.mem_iff_getElem.mp ht
    obtain ⟨j, hj, ej⟩ := List.mem_iff_getElem.mp ht2
    by_cases ij : i = j
    · subst ij
      rw [ei] at ej
      rw [ej]
    · exfalso
      have hk2 : (bkA G t).1 = (bkA G t2).1 := hk
      have pw := List.pairwise_iff_getElem.mp u.dj
      have li : i < bs.length := by rw [e, List.length_map]; exact hi
      have lj : j < bs.length := by rw [e, List.length_map]; exact hj
      have bi : bs[i] = bkA G t := by
        have : bs[i]? = some (bkA G t) := by rw [e, List.getElem?_map, List.getElem?_eq_getElem hi, ei]; rfl
        rw [List.getElem?_eq_getElem li] at this
        exact Option.some.inj this
      have bj : bs[j] = bkA G t2 := by
        have : bs[j]? = some (bkA G t2) := by rw [e, List.getElem?_map, List.getElem?_eq_getElem hj, ej]; rfl
        rw [List.getElem?_eq_getElem lj] at this
        exact Option.some.inj this
      have p1 := (chain g).pos _ (u.ok _ (List.getElem_mem li)).1
      have p2 := (chain g).pos _ (u.ok _ (List.getElem_mem lj)).1
      have dd : Dj ns bs[i] bs[j] := by
        rcases Nat.lt_or_gt_of_ne ij with l | l
        · exact pw i j li lj l
        · exact (pw j i lj li l).symm
      have hk3 : bs[i].1 = bs[j].1 := by rw [bi, bj]; exact hk2
      unfold Dj bEnd at dd
      omega
def unR : V → Addr
  | .ref t => t
  | _ => 0
theorem map_unR (qs : List Addr) : (qs.map V.ref).map unR = qs := by
  induction qs with
  | nil => rfl
  | cons t qs ih => rw [List.map_cons, List.map_cons, ih]; rfl
theorem refs_of : ∀ {zs : List V}, (∀ v ∈ zs, ∃ t, v = V.ref t) → ∃ qs : List Addr, zs = qs.map V.ref
  | [], _ => ⟨[], rfl⟩
  | v :: zs, h => by
    obtain ⟨t, rfl⟩ := h v List.mem_cons_self
    obtain ⟨qs, rfl⟩ := refs_of (zs := zs) fun u hu => h u (List.mem_cons_of_mem _ hu)
    exact ⟨t :: qs, rfl⟩
theorem Un.sorted (u : Un ns n bs) (g : Good ns) (rf : Refs blkV G qs bs) {zs : List V} (hs : zs.Pairwise (fun x y => keyV G x ≤ keyV G y)) (hp : zs.Perm (qs.map V.ref)) : ∃ qs' bs', zs = qs'.map V.ref ∧ Refs blkV G qs' bs' ∧ bs'.Perm bs ∧ Wf ns n bs' := by
  obtain ⟨e, h⟩ := rf.bk
  obtain ⟨qs', hq, hz⟩ : ∃ qs' : List Addr, qs'.Perm qs ∧ zs = qs'.map V.ref := by
    obtain ⟨qs', rfl⟩ := refs_of (zs := zs) fun v hv => by
      obtain ⟨t, _, rfl⟩ := List.mem_map.mp (hp.mem_iff.mp hv)
      exact ⟨t, rfl⟩
    have := hp.map unR
    rw [map_unR, map_unR] at this
    exact ⟨qs', this, rfl⟩
  subst hz
  have rf' := Refs.of_bk (G := G) (qs := qs') fun t ht => h t (hq.mem_iff.mp ht)
  have pm : (qs'.map (bkA G)).Perm bs := by rw [e]; exact hq.map _
  refine ⟨qs', _, rfl, rf', pm, (u.perm pm).wf g ?_⟩
  have hs' : qs'.Pairwise (fun x y => (bkA G x).1 ≤ (bkA G y).1) := (List.pairwise_map (f := V.ref) (R := fun x y => keyV G x ≤ keyV G y)).mp hs
  exact List.pairwise_map.mpr hs'
/-- sorted lists of the same blocks are one -/
theorem uniqB : ∀ {l m : List Blk}, l.Pairwise (fun b c => b.1 < c.1) → m.Pairwise (fun b c => b.1 < c.1) → l.Perm m → l = m
  | [], m, _, _, h => (List.Perm.eq_nil h.symm).symm
  | x :: l, [], _, _, h => absurd h.length_eq (by simp)
  | x :: l, y :: m, hl, hm, h => by
    have pl := List.pairwise_cons.mp hl
    have pm := List.pairwise_cons.mp hm
    have e : x = y := by
      rcases List.mem_cons.mp (h.mem_iff.mp (List.mem_cons_self (a := x) (l := l))) with e | e
      · exact e
      · rcases List.mem_cons.mp (h.mem_iff.mpr (List.mem_cons_self (a := y) (l := m))) with e2 | e2
        · exact e2.symm
        · have := pm.1 x e
          have := pl.1 y e2
          omega
    subst e
    rw [uniqB pl.2 pm.2 (List.Perm.cons_inv h)]
end
theorem dn_iff {s e i : Int} (hs : 1 ≤ s) : i < e / s ↔ i * s + s ≤ e := by
  have h : i + 1 ≤ e / s ↔ (i + 1) * s ≤ e := Int.le_ediv_iff_mul_le (by omega)
  rw [Int.add_mul, Int.one_mul] at h
  omega
theorem join2 {α β : Type} {G : Prop} (Pc : α → β → Prop) {R : α → β → Prop} (h1 : (∀ c d, Pc c d → R c d) → G) (h2 : ∀ c d, Pc c d → R c d) : G := h1 h2
section
variable {P : Program} {w : World} {K : PySem.W.Frag} {mg : Str → Option Value} {base : Heap} {f : Addr} {fd : FuncData}
def spBlocks : Sp := fun vs H Q _ => ∃ (r s : Addr) (ns : List Int) (n many one : Int), vs = [.ref r, .ref s, .int n, .int many, .int one] ∧ Rng H r ∧ H s = some (.lst (ns.map V.int)) ∧ s ≠ r ∧ Good ns ∧ 1 ≤ n ∧ n ≤ 1000000000000 ∧ 0 ≤ many ∧ many ≤ 100 ∧ 0 ≤ one ∧ one ≤ 100 ∧
  ∀ a qs bs H', H a = none → Stp r H H' → H' a = some (.lst (qs.map V.ref)) → Refs blkV H' qs bs → Wf ns n bs → (bs.length : Int) ≤ many → Q (.ref a) H'
theorem sc__law_blocks : FnScope ["_law_rng_here", "_law_sizes_here", "_law_length", "_law_many", "_law_pinned", "_law_result", "_law_k", "_law_level", "_law_address", "_law_is_pinned"] ["_law_rng_here", "_law_sizes_here", "_law_length", "_law_many", "_law_pinned"] (defScope (top 49)) := ⟨rfl, rfl, rfl, by decide +kernel, rfl, by decide +kernel, by decide +kernel⟩
theorem ok_blocks (T : Tx K mg) (D__law_draw : Df P w K mg base 1 "_law_draw" ["_law_rng_here", "_law_many"] spDraw) (D__law_has_space : Df P w K mg base 1 "_law_has_space" ["_law_sizes_here", "_law_length", "_law_blocks_here", "_law_level", "_law_address"] spSpace)
    (F : FnP K "_law_blocks" "_law_blocks" (top 49) f fd) : FnOk P w K mg base CX0 2 f fd ["_law_rng_here", "_law_sizes_here", "_law_length", "_law_many", "_law_pinned"] spBlocks := by
  refine F.ok sc__law_blocks (fun vs H Q E h => ?_) (fun cdv A outer s H vs Q E hr h => ⟨_, PSs.nox (pss_cons (ps_set (i := 5) sc__law_blocks.nd rfl (by first | exact Or.inl rfl | exact Or.inr rfl) (pe_lst pa_nil)) (pss_cons (ps_for PassesOwn.never rfl (pi_range1 rfl T.n_range (pa_cons (pcall D__law_draw hr (pa_cons (pv 0) (pa_cons (pe_op op_add (pv 3) pe_int) pa_nil))) pa_nil)) (pg_name (i := 6) sc__law_blocks.nd rfl (by first | exact Or.inl rfl | exact Or.inr rfl)) (pss_cons (ps_set (i := 7) sc__law_blocks.nd rfl (by first | exact Or.inl rfl | exact Or.inr rfl) (pcall D__law_draw hr (pa_cons (pv 0) (pa_cons (pe_callB call_len_seq (by rfl) T.n_len (by decide +kernel) (pa_cons (pv 1) pa_nil)) pa_nil)))) (pss_one (ps_if (pt_cmpR op_le (pe_ix ix_list (pv 1) (pv 7) (fun _ _ => rfl)) (pv 2) (nomark _)) (pss_cons (ps_set (i := 8) sc__law_blocks.nd rfl (by first | exact Or.inl rfl | exact Or.inr rfl) (pe_op op_mul (pcall D__law_draw hr (pa_cons (pv 0) (pa_cons (pe_op op_fdivW (pv 2) (pe_ix ix_list (pv 1) (pv 7) (fun _ _ => rfl))) pa_nil))) (pe_ix ix_list (pv 1) (pv 7) (fun _ _ => rfl)))) (pss_cons (ps_set (i := 9) sc__law_blocks.nd rfl (by first | exact Or.inl rfl | exact Or.inr rfl) (pe_and (pe_cmpR op_gt (pv 4) pe_int (nomark _)) (pe_one (pe_cmpR op_eq (pcall D__law_draw hr (pa_cons (pv 0) (pa_cons (pe_callB (call_max2 rfl) (by rfl) T.n_max (by decide +kernel) (pa_cons pe_int (pa_cons (pv 4) pa_nil))) pa_nil))) pe_int (nomark _))))) (pss_one (ps_if (pt_val (pcall D__law_has_space hr (pa_cons (pv 1) (pa_cons (pv 2) (pa_cons (pv 5) (pa_cons (pv 7) (pa_cons (pv 8) pa_nil))))))) (pss_one (ps_expr (pe_bm PySem.F.plainAttrs_list PySem.F.slot_list_append PySem.F.type_list_append mt_append (pv 5) (pa_cons (pe_tup (pa_cons (pv 8) (pa_cons (pv 7) (pa_cons (pv 9) pa_nil)))) pa_nil)))) pss_nil)))) pss_nil)))) (pss_one (ps_ret (pe_callB cr_sortedB (by rfl) T.n_sorted (by decide +kernel) (pa_cons (pv 5) pa_nil)))))), ?_⟩)
  · obtain ⟨r, s, ns, n, many, one, rfl, _⟩ := h
    rfl
  · obtain ⟨r, s, ns, n, many, one, rfl, hR, hs, nsr, g, n1, n2, m1, m2, o1, o2, q⟩ := h
    have sl : sizeLine = 16777216 := sizeLine_eq
    have big : (10 : Int) ^ 40 = 10000000000000000000000000000000000000000 := by decide
    have g8 := g.len
    refine ⟨Nat.zero_le _, fun R hRn => ?_⟩
    have nrR : R ≠ r := (hR.ne hRn).symm
    have s0 : Stp r H (upd H R (.lst [])) := (Stp.refl hR).new hRn
    have hR0 : (upd H R (.lst [])) R = some (.lst []) := upd_same
    generalize upd H R (.lst []) = H0 at s0 hR0
    refine ⟨_, rfl, _, rfl, _, _, rfl, rfl, r, many + 1, rfl, s0.1, by omega, by omega, fun d H1 d0 d1 s1 => ?_⟩
    refine ⟨d, rfl, by omega, by omega, ?_⟩
    have two : 3 ≤ sizeLine := by decide
    refine for_range (fun i σ G => ∃ (x6 x7 x8 x9 : Option V) (qs : List Addr) (bs : List Blk), σ = [some (.ref r), some (.ref s), some (.int n), some (.int many), some (.int one), some (.ref R), x6, x7, x8, x9] ∧ Stp r H G ∧ G R = some (.lst (qs.map V.ref)) ∧ Refs blkV G qs bs ∧ Un ns n bs ∧ bs.length ≤ i)
      ⟨none, none, none, none, [], [], rfl, s0.trans s1, s1.2 _ _ nrR hR0, .nil, ⟨fun _ m => (nomatch m), .nil⟩, Nat.le_refl _⟩ ?_ ?_
    · rintro i σ G hi ⟨x6, x7, x8, x9, qs, bs, rfl, st, hG, rf, un, bl⟩
      have hi2 : i < 101 := by omega
      have hsG : G s = some (.lst (ns.map V.int)) := st.2 _ _ nsr hs
      refine ⟨_, rfl, _, rfl, s, _, rfl, .inl (SqL.of hsG), r, _, rfl, st.1, (by rw [List.length_map]; omega), (by rw [List.length_map]; omega), fun d7 G1 a0 a1 t1 => ?_⟩
      rw [List.length_map] at a1
      obtain ⟨k, rfl⟩ : ∃ k : Nat, d7 = (k : Int) := ⟨d7.toNat, by omega⟩
      have hk : k < ns.length := by omega
      have st1 := st.trans t1
      have mv : ∀ {G G' : Hp}, Stp r G G' → Refs blkV G qs bs → Rng G r → Refs blkV G' qs bs := fun {G G'} t rf rg => rf.mono fun p xs e => t.2 p _ (fun z => by
        obtain ⟨_, _, e2, _⟩ := rg
        rw [z, e2] at e
        cases e) e
      have rf1 := mv t1 rf st.1
      have hG1 := t1.2 _ _ nrR hG
      have hs1 := st1.2 _ _ nsr hs
      have z1 := (chain g).pos k hk
      have z2 := sz_le g hk
      refine ⟨_, rfl, _, rfl, s, _, _, _, rfl, rfl, SqL.of hs1, at_sz hk, _, rfl, _, _, rfl, rfl, _, rfl, ?_⟩
      by_cases hc : sz ns k ≤ n
      case neg =>
        exact ifF (decide_eq_false hc) ⟨_, _, _, _, qs, bs, rfl, st1, hG1, rf1, un, by omega⟩
      refine ifT (decide_eq_true hc) ?_
      have j1 : 1 ≤ n / sz ns k := (Int.le_ediv_iff_mul_le (by omega)).mpr (by omega)
      have j2 : n / sz ns k ≤ 1000000000000 := Int.le_trans (Int.ediv_le_self _ (by omega)) n2
      refine ⟨_, rfl, _, rfl, _, rfl, _, rfl, s, _, _, _, rfl, rfl, SqL.of hs1, at_sz hk, _, _, rfl, rfl, wide_div (b := 30) (by omega) (by omega) (by decide) (by decide), r, _, rfl, st1.1, j1, by omega, fun d8 G2 b0 b1 t2 => ?_⟩
      have st2 := st1.trans t2
      have hs2 := st2.2 _ _ nsr hs
      refine ⟨_, rfl, _, rfl, s, _, _, _, rfl, rfl, SqL.of hs2, at_sz hk, _, _, rfl, rfl, .inr ⟨by omega, by omega⟩, ?_⟩
      have ad0 : 0 ≤ d8 * sz ns k := Int.mul_nonneg b0 (by omega)
      have ad1 : d8 * sz ns k ≤ 1000000000000 := by
        have h1 := (dn_iff (s := sz ns k) (e := n) (i := d8) z1).mp b1
        omega
      have rf2 := mv t2 rf1 st1.1
      have hG2 := t2.2 _ _ nrR hG1
      refine join2 (fun (_ : Bool) (G3 : Hp) => Stp r G2 G3) (R := ?R) (fun tail => ?main) ?tl
      case main =>
        by_cases o0 : 0 < one
        · refine ⟨_, rfl, _, _, rfl, rfl, true, bT (by omega), iteT ?_⟩
          have mx : 1 ≤ (if one > 1 then one else 1) ∧ (if one > 1 then one else 1) ≤ 100 := by
            split <;> omega
          refine ⟨_, rfl, _, rfl, _, _, rfl, r, _, rfl, st2.1, mx.1, by omega, fun d9 G3 c0 c1 t3 => ⟨rfl, ?_⟩⟩
          generalize decide (V.int d9 = V.int 0) = p
          exact tail p G3 t3
        · refine ⟨_, rfl, _, _, rfl, rfl, false, bF (by omega), iteF ?_⟩
          exact tail false G2 (Stp.refl st2.1)
      case tl =>
      intro p G3 t3
      have st3 := st2.trans t3
      have hs3 := st3.2 _ _ nsr hs
      have rf3 := mv t3 rf2 st2.1
      have hG3 := t3.2 _ _ nrR hG2
      refine ⟨_, rfl, _, rfl, _, rfl, _, rfl, _, rfl, s, R, ns, n, qs, bs, k, _, rfl, hs3, ⟨hG3, rf3, fun b hb => (un.ok b hb).1, by omega⟩, g, hk, ad0, by omega, fun G4 s4 => ?_⟩
      have st4 : Stp r H G4 := ⟨by
        obtain ⟨x, y, e, z⟩ := st3.1
        exact ⟨x, y, s4 _ _ e, z⟩, fun b o nb e => s4 _ _ (st3.2 b o nb e)⟩
      have rf4 := rf3.same s4
      have hG4 := s4 _ _ hG3
      refine ⟨_, rfl, ?_⟩
      cases hsp : spaceB ns n bs k (d8 * sz ns k) with
      | false => exact iteF ⟨_, _, _, _, qs, bs, rfl, st4, hG4, rf4, un, by omega⟩
      | true =>
        have ql := rf.len
        refine iteT ⟨_, rfl, .inl ⟨rfl, _, SqL.of hG4⟩, _, rfl, _, rfl, _, rfl, two, fun u hu => ?_⟩
        have nM : R ≠ u := ne_of_none hG4 hu
        refine ⟨R, _, _, rfl, rfl, (by rw [upd_ne nM]; exact hG4), (by rw [List.length_map]; omega), ?_⟩
        refine ⟨_, _, _, _, qs ++ [u], bs ++ [(d8 * sz ns k, k, _)], rfl, ?_, ?_, Refs.more (u := (d8 * sz ns k, k, _)) rf4 hG4 hu, un.snoc hk ad0 hsp, (by rw [List.length_append, List.length_singleton]; omega)⟩
        · refine ⟨?_, fun b o nb e => ?_⟩
          · obtain ⟨x, y, e, z⟩ := st4.1
            exact ⟨x, y, by rw [upd_ne nrR.symm, upd_ne (ne_of_none e hu)]; exact e, z⟩
          · rw [upd_ne (ne_of_none e hRn), upd_ne (ne_of_none (st4.2 b o nb e) hu)]
            exact st4.2 b o nb e
        · rw [upd_same, List.map_append]
          rfl
    · rintro σ G ⟨x6, x7, x8, x9, qs, bs, rfl, st, hG, rf, un, bl⟩
      obtain ⟨k1, k2⟩ := un.keys g rf
      refine ⟨_, rfl, R, _, keyV G, rfl, SqL.of hG, k1, k2, fun zs p hs' hp hpn => ?_⟩
      obtain ⟨qs', bs', rfl, rf', pm, wf⟩ := un.sorted g rf hs' hp
      refine q p qs' bs' _ (st.free hpn) (st.new hpn) upd_same (rf'.same (same_upd hpn)) wf ?_
      rw [pm.length_eq]
      omega
end
end K35

set_option Elab.async false
set_option linter.all false
set_option maxRecDepth 100000
set_option maxHeartbeats 4000000
namespace K35
open PySem PySem.Spec PyProof.Rows L2 Gu Ex
def blkD (b : Blk) : PyData := .tuple [.int b.1, .int (b.2.1 : Nat), .bool b.2.2]
theorem Refs.dp {K : PySem.W.Frag} {H : Hp} {qs : List Addr} {bs : List Blk} (h : Refs blkV H qs bs) : DpAll K H (qs.map V.ref) (bs.map blkD) := by
  induction h with
  | nil => exact .nil
  | cons e _ ih => exact .cons (.tup (SqT.of e) (.cons (.int _) (.cons (.int _) (.cons (.bl _) .nil)))) ih
theorem lay_blk : ∀ bs : List Blk, PyData.canLayAll0 (bs.map blkD) = true
  | [] => rfl
  | b :: r => by
    have e : (blkD b).canLay0 = true := rfl
    simp only [List.map_cons, PyData.canLayAll0, e, lay_blk r, Bool.and_self]
theorem dep_blk : ∀ bs : List Blk, PyData.depthAll (bs.map blkD) ≤ 1
  | [] => Nat.zero_le _
  | b :: r => by
    have e : (blkD b).depth = 1 := rfl
    simp only [List.map_cons, PyData.depthAll, e]
    have := dep_blk r
    omega
theorem shaped_blk (bs : List Blk) : SeqAt.shaped (.list (bs.map blkD)) = true := by
  have c : (PyData.list (bs.map blkD)).canLay0 = true := lay_blk bs
  have e : (PyData.list (bs.map blkD)).depth ≤ 2 := by
    show PyData.depthAll (bs.map blkD) + 1 ≤ 2
    have := dep_blk bs
    omega
  unfold SeqAt.shaped
  rw [c]
  simp
  omega
theorem trues_len (i : Nat) : (List.map V.bl (List.replicate i true)).length = i := by simp
theorem trues_more (i : Nat) : List.map V.bl (List.replicate i true) ++ [V.bl true] = List.map V.bl (List.replicate (i + 1) true) := by
  rw [List.replicate_succ', List.map_append]
  rfl
theorem all_trues (i : Nat) : (List.replicate i true).all id = true := by
  rw [List.all_replicate]
  split <;> rfl

theorem eqv_ints : ∀ ns ms : List Int, PyData.eqvAll (ns.map PyData.int) (ms.map PyData.int) = decide (ns = ms)
  | [], [] => rfl
  | [], _ :: _ => rfl
  | _ :: _, [] => rfl
  | n :: ns, m :: ms => by
    show ((n == m) && PyData.eqvAll (ns.map PyData.int) (ms.map PyData.int)) = _
    rw [eqv_ints ns ms]
    by_cases h : n = m
    · subst h
      simp
    · simp [h]
theorem eqv_blk (b c : Blk) : PyData.eqv (blkD b) (blkD c) = decide (b = c) := by
  obtain ⟨a, k, p⟩ := b
  obtain ⟨a2, k2, p2⟩ := c
  show ((a == a2) && (((k : Int) == (k2 : Int)) && ((p == p2) && true))) = _
  by_cases h1 : a = a2
  · by_cases h2 : k = k2
    · by_cases h3 : p = p2
      · subst h1 h2 h3
        simp
      · simp [h1, h2, h3]
    · have h2' : ¬ (k : Int) = (k2 : Int) := by omega
      simp [h1, h2, h2']
  · simp [h1]
theorem eqv_blks : ∀ bs cs : List Blk, PyData.eqvAll (bs.map blkD) (cs.map blkD) = decide (bs = cs)
  | [], [] => rfl
  | [], _ :: _ => rfl
  | _ :: _, [] => rfl
  | b :: bs, c :: cs => by
    show (PyData.eqv (blkD b) (blkD c) && PyData.eqvAll (bs.map blkD) (cs.map blkD)) = _
    rw [eqv_blks bs cs, eqv_blk]
    by_cases h : b = c
    · subst h
      simp
    · simp [h]
theorem dp_ints {K : PySem.W.Frag} {H : Hp} : ∀ ns : List Int, DpAll K H (ns.map V.int) (ns.map PyData.int)
  | [] => .nil
  | n :: r => .cons (.int n) (dp_ints r)
theorem flat : ∀ ns : List Int, PyData.depthAll (ns.map PyData.int) = 0
  | [] => rfl
  | n :: r => by
    show max 0 (PyData.depthAll (r.map PyData.int)) = 0
    rw [flat r]
    rfl
theorem can_lay : ∀ ns : List Int, PyData.canLayAll0 (ns.map PyData.int) = true
  | [] => rfl
  | n :: r => by simp only [List.map_cons, PyData.canLayAll0, PyData.canLay0, can_lay r, Bool.and_self]
theorem shaped_ints (ns : List Int) : SeqAt.shaped (.list (ns.map PyData.int)) = true := by
  have e : (PyData.list (ns.map PyData.int)).depth = 1 := by
    show PyData.depthAll (ns.map PyData.int) + 1 = 1
    rw [flat]
  have c : (PyData.list (ns.map PyData.int)).canLay0 = true := can_lay ns
  unfold SeqAt.shaped
  rw [c, e]
  rfl
section
variable {P : Program} {w : World} {K : PySem.W.Frag} {mg : Str → Option Value} {base : Heap} {f : Addr} {fd : FuncData}
def spBlk (K : PySem.W.Frag) : Sp := fun vs H Q _ => ∃ (y zp bl dx : Addr) (ps : List Addr) (ns : List Int) (n : Int) (bs : List Blk), vs = [.ref y] ∧ Ly K H y zp bl dx ps ns n bs ∧ ∀ l, H l = none → Q (.ref l) (upd H l (.lst (ps.map V.ref)))
theorem sc_blocks : FnScope ["self"] ["self"] (defScope (inClass (top 41) 7)) := ⟨rfl, rfl, rfl, by decide +kernel, rfl, by decide +kernel, by decide +kernel⟩
theorem ok_blk (T : Tx K mg) (F : FnP K "blocks" "Layout.blocks" (inClass (top 41) 7) f fd) : FnOk P w K mg base CX0 1 f fd ["self"] (spBlk K) := by
  refine F.ok sc_blocks (fun vs H Q E h => ?_) (fun cdv A outer s H vs Q E hr h => ⟨_, PSs.nox (pss_one (ps_ret (pe_callTy call_list_of (by rfl) T.n_list (by decide +kernel) (pa_cons (pe_fld (pv 0) rfl) pa_nil)))), ?_⟩)
  · obtain ⟨y, zp, bl, dx, ps, ns, n, bs, rfl, _⟩ := h
    rfl
  · obtain ⟨y, zp, bl, dx, ps, ns, n, bs, rfl, L, q⟩ := h
    exact ⟨_, rfl, y, _, dx, _, _, rfl, L.at_, T.ly, T.nBL, lay_bl .., bl, _, rfl, .inl (SqL.of L.lst), q⟩
def spSEq (K : PySem.W.Frag) : Sp := fun vs H Q _ => ∃ (p q : Addr) (ns ms : List Int), vs = [.ref p, .ref q] ∧ SzAt (He.ga K "Sizes") H p ns ∧ SzAt (He.ga K "Sizes") H q ms ∧ Q (.bl (decide (ns = ms))) H
def spLen (K : PySem.W.Frag) : Sp := fun vs H Q _ => ∃ (p : Addr) (ns : List Int), vs = [.ref p] ∧ SzAt (He.ga K "Sizes") H p ns ∧ Q (.int (ns.length : Nat)) H
theorem sc_Sizes_len : FnScope ["self"] ["self"] (defScope (inClass (top 19) 6)) := ⟨rfl, rfl, rfl, by decide +kernel, rfl, by decide +kernel, by decide +kernel⟩
theorem ok_len (T : Tx K mg) (F : FnP K "__len__" "Sizes.__len__" (inClass (top 19) 6) f fd) : FnOk P w K mg base CX0 1 f fd ["self"] (spLen K) := by
  refine F.ok sc_Sizes_len (fun vs H Q E h => ?_) (fun cdv A outer s H vs Q E hr h => ⟨_, PSs.nox (pss_one (ps_ret (pe_callB call_len_seq (by rfl) T.n_len (by decide +kernel) (pa_cons (pe_fld (pv 0) rfl) pa_nil)))), ?_⟩)
  · obtain ⟨p, ns, rfl, _⟩ := h
    rfl
  · obtain ⟨p, ns, rfl, ⟨dx, l, h1, h2⟩, q⟩ := h
    refine ⟨_, rfl, p, _, dx, _, _, rfl, h1, T.cl, T.nSL, szF_get l, l, _, rfl, .inl (SqL.of h2), ?_⟩
    rw [List.length_map]
    exact q
def spLEq (K : PySem.W.Frag) : Sp := fun vs H Q _ => ∃ (y zp bl dx y2 zp2 bl2 dx2 : Addr) (ps ps2 : List Addr) (ns ns2 : List Int) (n n2 : Int) (bs bs2 : List Blk), vs = [.ref y, .ref y2] ∧ Ly K H y zp bl dx ps ns n bs ∧ Ly K H y2 zp2 bl2 dx2 ps2 ns2 n2 bs2 ∧
  ns = ns2 ∧ n = n2 ∧ Q (.bl (decide (bs = bs2))) H
def spFree (K : PySem.W.Frag) : Sp := fun vs H Q _ => ∃ (y zp bl dx : Addr) (ps : List Addr) (ns : List Int) (n : Int) (bs : List Blk), vs = [.ref y] ∧ Ly K H y zp bl dx ps ns n bs ∧ Q (.int (n - tot ns bs)) H
/-- the free gaps -/
def fgI (ns : List Int) (n : Int) (bs : List Blk) : List (Int × Int) := gapsI n 0 (bs.map (rngB ns))
def spFg (K : PySem.W.Frag) : Sp := fun vs H Q _ => ∃ (y zp bl dx : Addr) (ps : List Addr) (ns : List Int) (n : Int) (bs : List Blk), vs = [.ref y] ∧ Ly K H y zp bl dx ps ns n bs ∧
  ∀ M qs H', H M = none → Same H H' → H' M = some (.lst (qs.map V.ref)) → Refs prV H' qs (fgI ns n bs) → Q (.ref M) H'
def spFr (K : PySem.W.Frag) : Sp := fun vs H Q _ => ∃ (y zp bl dx : Addr) (ps : List Addr) (ns : List Int) (n : Int) (bs : List Blk) (k : Nat), vs = [.ref y, .int k] ∧ Ly K H y zp bl dx ps ns n bs ∧ k < ns.length ∧ ∀ H', Same H H' → Q (.int (regI ns k (fgI ns n bs))) H'
theorem fg_ok {ns : List Int} {n : Int} {bs : List Blk} (w : Wf ns n bs) (g : Good ns) : (∀ x ∈ fgI ns n bs, 0 ≤ x.1 ∧ x.1 ≤ x.2) ∧ (fgI ns n bs).length ≤ bs.length + 1 := by
  refine ⟨gaps_ok (Int.le_refl _) fun r hr => ?_, ?_⟩
  · obtain ⟨b, hb, rfl⟩ := List.mem_map.mp hr
    have p := w.pos g hb
    have o := (w.ok b hb).2.1
    show 0 ≤ b.1 + sz ns b.2.1
    omega
  · have h := gaps_len (n := n) (bs.map (rngB ns)) 0
    rw [List.length_map] at h
    exact h
end
end K35

set_option Elab.async false
set_option linter.all false
set_option maxRecDepth 100000
set_option maxHeartbeats 4000000
namespace K35
open PySem PySem.Spec PyProof.Rows L2 Gu Ex
/-- values of any kind -/
inductive Any (H : Hp) : V → Prop
  | non : Any H .non
  | bl (b : Bool) : Any H (.bl b)
  | int (i : Int) : Any H (.int i)
  | str (x : Str) : Any H (.str x)
  | lst {a : Addr} {xs : List V} : H a = some (.lst xs) → Any H (.ref a)
  | tup {a : Addr} {xs : List V} : H a = some (.tup xs) → Any H (.ref a)
  | dct {a : Addr} {kvs : List (Key × V)} : H a = some (.dK kvs) → Any H (.ref a)
def isI : V → Bool
  | .int _ => true
  | _ => false
def isB : V → Bool
  | .bl _ => true
  | _ => false
theorem Any.ty {K : PySem.W.Frag} {H : Hp} {v : V} (h : Any H v) : ∃ T, TyX K H v (.type T) ∧ kitB T "int" = some (isI v || isB v) ∧ kitB T "bool" = some (isB v) := by
  cases h with
  | non => exact ⟨"NoneType", .base .non, (show kitB "NoneType" "int" = some false by decide +kernel), (show kitB "NoneType" "bool" = some false by decide +kernel)⟩
  | bl b => exact ⟨"bool", .base (.bl b), (show kitB "bool" "int" = some true by decide +kernel), (show kitB "bool" "bool" = some true by decide +kernel)⟩
  | int i => exact ⟨"int", .base (.int i), (show kitB "int" "int" = some true by decide +kernel), (show kitB "int" "bool" = some false by decide +kernel)⟩
  | str x => exact ⟨"str", .base (.str x), (show kitB "str" "int" = some false by decide +kernel), (show kitB "str" "bool" = some false by decide +kernel)⟩
  | lst e => exact ⟨"list", .base (.lst e), (show kitB "list" "int" = some false by decide +kernel), (show kitB "list" "bool" = some false by decide +kernel)⟩
  | tup e => exact ⟨"tuple", .base (.tup e), (show kitB "tuple" "int" = some false by decide +kernel), (show kitB "tuple" "bool" = some false by decide +kernel)⟩
  | dct e => exact ⟨"dict", .base (.dK e), (show kitB "dict" "int" = some false by decide +kernel), (show kitB "dict" "bool" = some false by decide +kernel)⟩
theorem Any.same {H H' : Hp} {v : V} (h : Any H v) (s : Same H H') : Any H' v := by
  cases h with
  | non => exact .non
  | bl b => exact .bl b
  | int i => exact .int i
  | str x => exact .str x
  | lst e => exact .lst (s _ _ e)
  | tup e => exact .tup (s _ _ e)
  | dct e => exact .dct (s _ _ e)
/-- is it a tuple -/
theorem Any.tp {K : PySem.W.Frag} {H : Hp} {v : V} (h : Any H v) : (∃ t xs, v = .ref t ∧ H t = some (.tup xs)) ∨ ((∀ t xs, v = .ref t → H t ≠ some (.tup xs)) ∧ ∃ T, TyX K H v (.type T) ∧ kitB T "tuple" = some false) := by
  cases h with
  | non => exact .inr ⟨(fun _ _ z => nomatch z), "NoneType", .base .non, by decide +kernel⟩
  | bl b => exact .inr ⟨(fun _ _ z => nomatch z), "bool", .base (.bl b), by decide +kernel⟩
  | int i => exact .inr ⟨(fun _ _ z => nomatch z), "int", .base (.int i), by decide +kernel⟩
  | str x => exact .inr ⟨(fun _ _ z => nomatch z), "str", .base (.str x), by decide +kernel⟩
  | lst e => exact .inr ⟨(fun t xs z q => by cases z; rw [e] at q; cases q), "list", .base (.lst e), by decide +kernel⟩
  | tup e => exact .inl ⟨_, _, rfl, e⟩
  | dct e => exact .inr ⟨(fun t xs z q => by cases z; rw [e] at q; cases q), "dict", .base (.dK e), by decide +kernel⟩
/-- is it a list -/
theorem Any.ls {K : PySem.W.Frag} {H : Hp} {v : V} (h : Any H v) : (∃ t xs, v = .ref t ∧ H t = some (.lst xs)) ∨ ((∀ t xs, v = .ref t → H t ≠ some (.lst xs)) ∧ ∃ T, TyX K H v (.type T) ∧ kitB T "list" = some false) := by
  cases h with
  | non => exact .inr ⟨(fun _ _ z => nomatch z), "NoneType", .base .non, by decide +kernel⟩
  | bl b => exact .inr ⟨(fun _ _ z => nomatch z), "bool", .base (.bl b), by decide +kernel⟩
  | int i => exact .inr ⟨(fun _ _ z => nomatch z), "int", .base (.int i), by decide +kernel⟩
  | str x => exact .inr ⟨(fun _ _ z => nomatch z), "str", .base (.str x), by decide +kernel⟩
  | lst e => exact .inl ⟨_, _, rfl, e⟩
  | tup e => exact .inr ⟨(fun t xs z q => by cases z; rw [e] at q; cases q), "tuple", .base (.tup e), by decide +kernel⟩
  | dct e => exact .inr ⟨(fun t xs z q => by cases z; rw [e] at q; cases q), "dict", .base (.dK e), by decide +kernel⟩
theorem Any.obj {H : Hp} {t : Addr} (h : Any H (.ref t)) : ∃ o, H t = some o := by
  cases h with
  | lst e => exact ⟨_, e⟩
  | tup e => exact ⟨_, e⟩
  | dct e => exact ⟨_, e⟩
/-- a value that may be a move: two ints, or nothing of the kind -/
inductive Mv (H : Hp) : V → Option (Int × Int) → Prop
  | mv {t : Addr} {a b : Int} : H t = some (.tup [.int a, .int b]) → Mv H (.ref t) (some (a, b))
  | other {v : V} : Any H v → (∀ t xs, v = .ref t → H t = some (.tup xs) → xs.length ≠ 2) → Mv H v none
  | odd {t : Addr} {x y : V} : H t = some (.tup [x, y]) → Any H x → Any H y → (isI x && isI y) = false → Mv H (.ref t) none
theorem Mv.same {H H' : Hp} {v : V} {m : Option (Int × Int)} (h : Mv H v m) (s : Same H H') : Mv H' v m := by
  cases h with
  | mv e => exact .mv (s _ _ e)
  | other a n =>
    refine .other (a.same s) fun t xs e q => ?_
    subst e
    obtain ⟨o, ho⟩ := a.obj
    have q2 := s _ _ ho
    rw [q] at q2
    cases q2
    exact n t xs rfl ho
  | odd e x y n => exact .odd (s _ _ e) (x.same s) (y.same s) n
def mvB : Option (Int × Int) → Bool
  | some (a, b) => decide (0 ≤ a) && (decide (0 ≤ b) && !decide (a = b))
  | none => false
def addrB : V → Bool
  | .int i => decide (0 ≤ i)
  | _ => false
section
variable {P : Program} {w : World} {K : PySem.W.Frag} {mg : Str → Option Value} {base : Heap} {f : Addr} {fd : FuncData}
def spIntA : Sp := fun vs H Q _ => ∃ v : V, vs = [v] ∧ Any H v ∧ Q (.bl (isI v)) H
theorem ok_is_integerA (T : Tx K mg) (F : FnP K "is_integer" "is_integer" (top 13) f fd) : FnOk P w K mg base CX0 1 f fd ["value"] spIntA := by
  refine F.ok sc_is_integer (fun vs H Q E h => ?_) (fun cdv A outer s H vs Q E hr h => ⟨_, PSs.nox (pss_one (ps_ret (pe_and (pe_callB call_isi (by rfl) T.n_isinstance (by decide +kernel) (pa_cons (pv 0) (pa_cons (pe_bltn (v := .ty "int") (by rfl) T.n_int (by decide +kernel) rfl) pa_nil))) (pe_one (pe_not (pe_callB call_isi (by rfl) T.n_isinstance (by decide +kernel) (pa_cons (pv 0) (pa_cons (pe_bltn (v := .ty "bool") (by rfl) T.n_bool (by decide +kernel) rfl) pa_nil)))))))), ?_⟩)
  · obtain ⟨v, rfl, _⟩ := h
    rfl
  · obtain ⟨v, rfl, hv, q⟩ := h
    obtain ⟨Ty, ty, k1, k2⟩ := hv.ty (K := K)
    refine ⟨_, rfl, _, _, _, _, _, rfl, .ty "int", ty, kit_ty k1, _, rfl, ?_⟩
    cases e : (isI v || isB v) with
    | true =>
      refine iteT ⟨_, rfl, _, _, _, _, _, rfl, .ty "bool", ty, kit_ty k2, _, rfl, ?_⟩
      have e2 : (!isB v) = isI v := by cases v <;> first | rfl | cases e
      rw [e2]
      exact q
    | false =>
      have e2 : isI v = false := by cases v <;> first | rfl | cases e
      rw [e2] at q
      exact iteF q
def spAddrA : Sp := fun vs H Q _ => ∃ v : V, vs = [v] ∧ Any H v ∧ Q (.bl (addrB v)) H
theorem ok_is_addressA (T : Tx K mg) (D_is_integer : Df P w K mg base 1 "is_integer" ["value"] spIntA) (F : FnP K "is_address" "is_address" (top 21) f fd) : FnOk P w K mg base CX0 2 f fd ["value"] spAddrA := by
  refine F.ok sc_is_address (fun vs H Q E h => ?_) (fun cdv A outer s H vs Q E hr h => ⟨_, PSs.nox (pss_one (ps_ret (pe_and (pcall D_is_integer hr (pa_cons (pv 0) pa_nil)) (pe_one (pe_cmpR op_ge (pv 0) pe_int (nomark _)))))), ?_⟩)
  · obtain ⟨v, rfl, _⟩ := h
    rfl
  · obtain ⟨v, rfl, hv, q⟩ := h
    refine ⟨_, rfl, v, rfl, hv, _, rfl, ?_⟩
    cases v with
    | int i => exact iteT ⟨_, rfl, _, _, rfl, rfl, q⟩
    | _ => exact iteF q
def spMove : Sp := fun vs H Q _ => ∃ (v : V) (m : Option (Int × Int)), vs = [v] ∧ Mv H v m ∧ Q (.bl (mvB m)) H
theorem sc_is_move : FnScope ["value", "old", "new"] ["value"] (defScope (top 32)) := ⟨rfl, rfl, rfl, by decide +kernel, rfl, by decide +kernel, by decide +kernel⟩
theorem ok_is_move (T : Tx K mg) (D_is_address : Df P w K mg base 2 "is_address" ["value"] spAddrA) (F : FnP K "is_move" "is_move" (top 32) f fd) : FnOk P w K mg base CX0 3 f fd ["value"] spMove := by
  refine F.ok sc_is_move (fun vs H Q E h => ?_) (fun cdv A outer s H vs Q E hr h => ⟨_, PSs.nox (pss_cons (ps_if (PW.pt (pw_or (pt_not (pt_val (pe_callB call_isi (by rfl) T.n_isinstance (by decide +kernel) (pa_cons (pv 0) (pa_cons (pe_bltn (v := .ty "tuple") (by rfl) T.n_tuple (by decide +kernel) rfl) pa_nil))))) (pw_or1 (pt_cmpR op_ne (pe_callB call_len_seq (by rfl) T.n_len (by decide +kernel) (pa_cons (pv 0) pa_nil)) pe_int (nomark _))))) (pss_one (ps_ret pe_bl)) pss_nil) (pss_cons (ps_asg (pv 0) (pg_tup (by rfl) (pgs_cons (pg_name (i := 1) sc_is_move.nd rfl (by first | exact Or.inl rfl | exact Or.inr rfl)) (pgs_cons (pg_name (i := 2) sc_is_move.nd rfl (by first | exact Or.inl rfl | exact Or.inr rfl)) pgs_nil)))) (pss_one (ps_ret (pe_and (pcall D_is_address hr (pa_cons (pv 1) pa_nil)) (pe_and (pcall D_is_address hr (pa_cons (pv 2) pa_nil)) (pe_one (pe_cmpR op_ne (pv 1) (pv 2) (nomark _))))))))), ?_⟩)
  · obtain ⟨v, m, rfl, _⟩ := h
    rfl
  · obtain ⟨v, m, rfl, hm, q⟩ := h
    have kt : kitB "tuple" "tuple" = some true := by decide +kernel
    cases hm with
    | other an nl =>
      rcases an.tp (K := K) with ⟨t, xs, rfl, e⟩ | ⟨no, Ty, ty, k⟩
      · refine ⟨_, rfl, _, _, _, _, _, rfl, .ty "tuple", .base (.tup e), kit_ty kt, _, rfl, iteF ?_⟩
        refine ⟨_, rfl, t, _, rfl, .inr (SqT.of e), rfl, _, rfl, ifT ?_ ?_⟩
        · rw [vF (show ((xs.length : Nat) : Int) ≠ 2 from fun z => nl t xs rfl e (by omega))]
          rfl
        · exact q
      · exact ⟨_, rfl, _, _, _, _, _, rfl, .ty "tuple", ty, kit_ty k, _, rfl, iteT q⟩
    | @mv t a b e =>
      refine ⟨_, rfl, _, _, _, _, _, rfl, .ty "tuple", .base (.tup e), kit_ty kt, _, rfl, iteF ?_⟩
      refine ⟨_, rfl, t, _, rfl, .inr (SqT.of e), rfl, _, rfl, ifF rfl ?_⟩
      refine ⟨_, rfl, t, _, rfl, .inl (.inl e), rfl, _, _, rfl, _, _, rfl, rfl, ?_⟩
      refine ⟨_, rfl, .int a, rfl, .int a, _, rfl, ?_⟩
      by_cases h1 : 0 ≤ a
      · refine ifT (decide_eq_true h1) ⟨_, rfl, .int b, rfl, .int b, _, rfl, ?_⟩
        by_cases h2 : 0 ≤ b
        · refine ifT (decide_eq_true h2) ⟨_, rfl, _, rfl, rfl, ?_⟩
          have e3 : mvB (some (a, b)) = !decide (a = b) := by
            show (decide (0 ≤ a) && (decide (0 ≤ b) && !decide (a = b))) = _
            rw [decide_eq_true h1, decide_eq_true h2]
            rfl
          rw [e3] at q
          have e4 : decide (V.int a = V.int b) = decide (a = b) := by
            by_cases z : a = b
            · rw [vT z, decide_eq_true z]
            · rw [vF z, decide_eq_false z]
          rw [e4]
          exact q
        · refine ifF (decide_eq_false h2) ?_
          have e3 : mvB (some (a, b)) = false := by
            show (decide (0 ≤ a) && (decide (0 ≤ b) && !decide (a = b))) = _
            rw [decide_eq_true h1, decide_eq_false h2]
            rfl
          rw [e3] at q
          exact q
      · refine ifF (decide_eq_false h1) ?_
        have e3 : mvB (some (a, b)) = false := by
          show (decide (0 ≤ a) && (decide (0 ≤ b) && !decide (a = b))) = _
          rw [decide_eq_false h1]
          rfl
        rw [e3] at q
        exact q
    | @odd t x y e ax ay no =>
      refine ⟨_, rfl, _, _, _, _, _, rfl, .ty "tuple", .base (.tup e), kit_ty kt, _, rfl, iteF ?_⟩
      refine ⟨_, rfl, t, _, rfl, .inr (SqT.of e), rfl, _, rfl, ifF rfl ?_⟩
      refine ⟨_, rfl, t, _, rfl, .inl (.inl e), rfl, _, _, rfl, _, _, rfl, rfl, ?_⟩
      refine ⟨_, rfl, x, rfl, ax, _, rfl, ?_⟩
      cases hx : addrB x with
      | false => exact iteF q
      | true =>
        refine iteT ⟨_, rfl, y, rfl, ay, _, rfl, ?_⟩
        have ix : isI x = true := by cases x <;> first | rfl | cases hx
        have hy : addrB y = false := by
          rw [ix] at no
          cases y <;> first | rfl | cases no
        rw [hy]
        exact iteF q
end
end K35

set_option Elab.async false
set_option linter.all false
set_option maxRecDepth 100000
set_option maxHeartbeats 4000000
namespace K35
open PySem PySem.Spec PyProof.Rows L2 Gu Ex
theorem u1 {k : Nat} {A : Around} (h : Room k A) : A.units + 1 < cLine := by
  have := h.units
  omega
abbrev Mo : Type := Option (Int × Int)
inductive Mvs (H : Hp) : List V → List Mo → Prop
  | nil : Mvs H [] []
  | cons {v : V} {m : Mo} {vs : List V} {ms : List Mo} : Mv H v m → Mvs H vs ms → Mvs H (v :: vs) (m :: ms)
theorem Mvs.same {H H' : Hp} {vs : List V} {ms : List Mo} (h : Mvs H vs ms) (s : Same H H') : Mvs H' vs ms := by
  induction h with
  | nil => exact .nil
  | cons a _ ih => exact .cons (a.same s) ih
theorem Mvs.len {H : Hp} {vs : List V} {ms : List Mo} (h : Mvs H vs ms) : vs.length = ms.length := by
  induction h with
  | nil => rfl
  | cons _ _ ih => rw [List.length_cons, List.length_cons, ih]
theorem Mvs.get {H : Hp} {vs : List V} {ms : List Mo} (h : Mvs H vs ms) : ∀ {i : Nat} {v : V}, vs[i]? = some v → ∃ m, ms[i]? = some m ∧ Mv H v m := by
  induction h with
  | nil => intro i v e; cases e
  | cons a _ ih =>
    intro i v e
    cases i with
    | zero =>
      cases e
      exact ⟨_, rfl, a⟩
    | succ i => exact ih e
/-- the old addresses -/
def oldsOf (ms : List Mo) : List Int := ms.filterMap fun m => m.map Prod.fst
theorem olds_take {ms : List Mo} {i : Nat} {a b : Int} (h : ms[i]? = some (some (a, b))) : oldsOf (ms.take (i + 1)) = oldsOf (ms.take i) ++ [a] := by
  unfold oldsOf
  rw [take_at h, List.filterMap_append]
  rfl
/-- the i-th one moves an unpinned block that no earlier one moves, and to a region -/
def Gd (ns : List Int) (n : Int) (bs : List Blk) (ms : List Mo) (i : Nat) : Prop := ∃ (a b : Int) (k : Nat), ms[i]? = some (some (a, b)) ∧ 0 ≤ a ∧ 0 ≤ b ∧ a ≠ b ∧ (a, k, false) ∈ bs ∧ a ∉ oldsOf (ms.take i) ∧ b % sz ns k = 0 ∧ b + sz ns k ≤ n
def restB (bs : List Blk) (os : List Int) : List Blk := (unpB bs).filter fun c => !decide (c.1 ∈ os)
theorem rest_nil (bs : List Blk) : restB bs [] = unpB bs := by
  unfold restB
  rw [List.filter_eq_self]
  intro c _
  rfl
theorem rest_more (bs : List Blk) (os : List Int) (a : Int) : lvK (restB bs (os ++ [a])) = dropK (lvK (restB bs os)) (Sum.inl a) := by
  unfold lvK dropK restB
  rw [List.filter_map, List.filter_filter]
  refine congrArg _ (List.filter_congr fun c _ => ?_)
  by_cases h1 : c.1 ∈ os <;> by_cases h2 : c.1 = a <;> simp [h1, h2]
theorem mem_rest {bs : List Blk} {os : List Int} {c : Blk} : c ∈ restB bs os ↔ c ∈ bs ∧ c.2.2 = false ∧ c.1 ∉ os := by
  unfold restB unpB
  rw [List.mem_filter, List.mem_filter]
  constructor
  · rintro ⟨⟨h1, h2⟩, h3⟩
    exact ⟨h1, by simpa using h2, by simpa using h3⟩
  · rintro ⟨h1, h2, h3⟩
    exact ⟨⟨h1, by simpa using h2⟩, by simpa using h3⟩
theorem rest_get {ns : List Int} {n : Int} {bs : List Blk} (w : Wf ns n bs) (g : Good ns) {os : List Int} {c : Blk} (h : c ∈ restB bs os) : valV (lvK (restB bs os)) (Sum.inl c.1) = some (.int (c.2.1 : Nat)) :=
  lvK_get (((w.rise g).filter _).filter _) h
theorem rest_none {bs : List Blk} {os : List Int} {a : Int} (h : ∀ c ∈ bs, c.2.2 = false → c.1 = a → a ∈ os) : valV (lvK (restB bs os)) (Sum.inl a) = none := lvK_none fun c hc e => by
  obtain ⟨h1, h2, h3⟩ := mem_rest.mp hc
  exact h3 (e ▸ h c h1 h2 e)
def But1 (D : Addr) (H H' : Hp) : Prop := ∀ c o, c ≠ D → H c = some o → H' c = some o
section
variable {P : Program} {w : World} {K : PySem.W.Frag} {mg : Str → Option Value} {base : Heap} {f : Addr} {fd : FuncData}
def spSzs (K : PySem.W.Frag) : Sp := fun vs H Q _ => ∃ (y zp bl dx : Addr) (ps : List Addr) (ns : List Int) (n : Int) (bs : List Blk), vs = [.ref y] ∧ Ly K H y zp bl dx ps ns n bs ∧ Q (.ref zp) H
theorem sc_sizes : FnScope ["self"] ["self"] (defScope (inClass (top 41) 4)) := ⟨rfl, rfl, rfl, by decide +kernel, rfl, by decide +kernel, by decide +kernel⟩
theorem ok_psizes (T : Tx K mg) (F : FnP K "sizes" "Layout.sizes" (inClass (top 41) 4) f fd) : FnOk P w K mg base CX0 1 f fd ["self"] (spSzs K) := by
  refine F.ok sc_sizes (fun vs H Q E h => ?_) (fun cdv A outer s H vs Q E hr h => ⟨_, PSs.nox (pss_one (ps_ret (pe_fld (pv 0) rfl))), ?_⟩)
  · obtain ⟨y, zp, bl, dx, ps, ns, n, bs, rfl, _⟩ := h
    rfl
  · obtain ⟨y, zp, bl, dx, ps, ns, n, bs, rfl, L, q⟩ := h
    exact ⟨_, rfl, y, _, dx, _, _, rfl, L.at_, T.ly, T.nST, lay_st .., q⟩
def spLen2 (K : PySem.W.Frag) : Sp := fun vs H Q _ => ∃ (y zp bl dx : Addr) (ps : List Addr) (ns : List Int) (n : Int) (bs : List Blk), vs = [.ref y] ∧ Ly K H y zp bl dx ps ns n bs ∧ Q (.int n) H
theorem sc_length : FnScope ["self"] ["self"] (defScope (inClass (top 41) 5)) := ⟨rfl, rfl, rfl, by decide +kernel, rfl, by decide +kernel, by decide +kernel⟩
theorem ok_plength (T : Tx K mg) (F : FnP K "length" "Layout.length" (inClass (top 41) 5) f fd) : FnOk P w K mg base CX0 1 f fd ["self"] (spLen2 K) := by
  refine F.ok sc_length (fun vs H Q E h => ?_) (fun cdv A outer s H vs Q E hr h => ⟨_, PSs.nox (pss_one (ps_ret (pe_fld (pv 0) rfl))), ?_⟩)
  · obtain ⟨y, zp, bl, dx, ps, ns, n, bs, rfl, _⟩ := h
    rfl
  · obtain ⟨y, zp, bl, dx, ps, ns, n, bs, rfl, L, q⟩ := h
    exact ⟨_, rfl, y, _, dx, _, _, rfl, L.at_, T.ly, T.nCC, lay_cc .., q⟩
/-- a level of the sizes, an address: is it a region's -/
def spRegionB (K : PySem.W.Frag) : Sp := fun vs H Q _ => ∃ (p : Addr) (ns : List Int) (i : Nat) (n a : Int), vs = [.ref p, .int n, .int i, .int a] ∧ SzAt (He.ga K "Sizes") H p ns ∧ Good ns ∧ i < ns.length ∧ 1 ≤ n ∧ n ≤ 1000000000000 ∧ 0 ≤ a ∧ Q (.bl (decide (a % sz ns i = 0 ∧ a + sz ns i ≤ n))) H
theorem ok_is_regionB (T : Tx K mg) (D_check_cells : Df P w K mg base 3 "check_cells" ["value"] spCellsC) (M_has_level : Mf P w K mg base 3 "Sizes" "has_level" ["self", "level"] (spHas K)) (D_is_address : Df P w K mg base 2 "is_address" ["value"] spAddr)
    (D_lies_below : Df P w K mg base 6 "lies_below" ["sizes", "level", "address", "end"] (spBelow K)) (F : FnP K "is_region" "is_region" (top 26) f fd) : FnOk P w K mg base CX0 7 f fd ["sizes", "length", "level", "address"] (spRegionB K) := by
  refine F.ok sc_is_region (fun vs H Q E h => ?_) (fun cdv A outer s H vs Q E hr h => ⟨_, PSs.nox (pss_cons (ps_expr (pcall D_check_cells hr (pa_cons (pv 1) pa_nil))) (pss_one (ps_ret (pe_and (pmeth M_has_level hr (pv 0) (pa_cons (pv 2) pa_nil)) (pe_and (pcall D_is_address hr (pa_cons (pv 3) pa_nil)) (pe_one (pcall D_lies_below hr (pa_cons (pv 0) (pa_cons (pv 2) (pa_cons (pv 3) (pa_cons (pv 1) pa_nil))))))))))), ?_⟩)
  · obtain ⟨p, ns, i, n, a, rfl, _⟩ := h
    rfl
  · obtain ⟨p, ns, i, n, a, rfl, hz, g, hi, n1, n2, a0, q⟩ := h
    obtain ⟨dx, l, h1, h2⟩ := id hz
    refine ⟨_, rfl, n, rfl, n1, n2, ?_⟩
    refine ⟨_, rfl, p, dx, _, rfl, h1, szF_no l (by decide +kernel), _, rfl, p, ns, i, rfl, hz, hi, true, rfl, iteT ⟨_, rfl, a, rfl, a0, true, rfl, iteT ?_⟩⟩
    exact ⟨_, rfl, _, rfl, _, rfl, _, rfl, p, ns, i, _, a, n, rfl, hz, sz_at hi, (chain g).pos i hi, q⟩
/-- a layout, a list of values: the position of the first misfit, or None -/
def spMisfit (K : PySem.W.Frag) : Sp := fun vs H Q _ => ∃ (y zp bl dx a : Addr) (ps : List Addr) (ns : List Int) (n : Int) (bs : List Blk) (xs : List V) (ms : List Mo), vs = [.ref y, .ref a] ∧ Ly K H y zp bl dx ps ns n bs ∧ H a = some (.lst xs) ∧ Mvs H xs ms ∧
  (∀ H', Same H H' → (∀ i, i < ms.length → Gd ns n bs ms i) → Q .non H') ∧ ∀ (i : Nat) H', Same H H' → i < ms.length → ¬ Gd ns n bs ms i → Q (.int i) H'
theorem sc_first_misfit : FnScope ["layout", "moves", "levels", "position", "move", "level"] ["layout", "moves"] (defScope (top 33)) := ⟨rfl, rfl, rfl, by decide +kernel, rfl, by decide +kernel, by decide +kernel⟩
theorem ok_misfit (T : Tx K mg) (M_unpinned_levels : Mf P w K mg base 1 "Layout" "unpinned_levels" ["self"] (spLevels K)) (D_is_move : Df P w K mg base 3 "is_move" ["value"] spMove) (D_is_region : Df P w K mg base 7 "is_region" ["sizes", "length", "level", "address"] (spRegionB K))
    (P_sizes : Pf P w K mg base 1 "Layout" "sizes" (spSzs K)) (P_length : Pf P w K mg base 1 "Layout" "length" (spLen2 K)) (F : FnP K "first_misfit" "first_misfit" (top 33) f fd) : FnOk P w K mg base CX0 8 f fd ["layout", "moves"] (spMisfit K) := by
  refine F.ok sc_first_misfit (fun vs H Q E h => ?_) (fun cdv A outer s H vs Q E hr h => ⟨_, PSs.nox (pss_cons (ps_set (i := 2) sc_first_misfit.nd rfl (by first | exact Or.inl rfl | exact Or.inr rfl) (pmeth0 M_unpinned_levels hr (pv 0))) (pss_cons (ps_for PassesOwn.never rfl (pi_enum rfl T.n_enumerate (pa_cons (pv 1) pa_nil)) (pg_tup (by rfl) (pgs_cons (pg_name (i := 3) sc_first_misfit.nd rfl (by first | exact Or.inl rfl | exact Or.inr rfl)) (pgs_cons (pg_name (i := 4) sc_first_misfit.nd rfl (by first | exact Or.inl rfl | exact Or.inr rfl)) pgs_nil))) (pss_cons (ps_if (PW.pt (pw_or (pt_not (pt_val (pcall D_is_move hr (pa_cons (pv 4) pa_nil)))) (pw_or1 (pt_cmp (pc_dnotin (u1 hr) (pe_ix ix_tup (pv 4) pe_int (fun _ _ => rfl)) (pv 2)))))) (pss_one (ps_ret (pv 3))) pss_nil) (pss_cons (ps_set (i := 5) sc_first_misfit.nd rfl (by first | exact Or.inl rfl | exact Or.inr rfl) (pe_dpop1 (pv 2) (pe_ix ix_tup (pv 4) pe_int (fun _ _ => rfl)) ⟨rfl, rfl, rfl, rfl⟩)) (pss_one (ps_if (pt_not (pt_val (pcall D_is_region hr (pa_cons (pprop P_sizes hr (pv 0)) (pa_cons (pprop P_length hr (pv 0)) (pa_cons (pv 5) (pa_cons (pe_ix ix_tup (pv 4) pe_int (fun _ _ => rfl)) pa_nil))))))) (pss_one (ps_ret (pv 3))) pss_nil))))) (pss_one (ps_ret pe_non)))), ?_⟩)
  · obtain ⟨y, zp, bl, dx, a, ps, ns, n, bs, xs, ms, rfl, _⟩ := h
    rfl
  · obtain ⟨y, zp, bl, dx, a, ps, ns, n, bs, xs, ms, rfl, L, ha, hm, q1, q2⟩ := h
    have wf := L.wf
    have gd := L.gd
    refine ⟨_, rfl, y, dx, _, rfl, L.at_, lay_nm (by decide +kernel), y, zp, bl, dx, ps, ns, n, bs, rfl, L, fun D H0 hD0 s0 hD => ?_⟩
    have ha0 := s0 _ _ ha
    have hDf : H D = none := hD0
    refine ⟨_, rfl, a, _, rfl, SqL.of ha0, ?_⟩
    refine for_it (walk_enum (xs := xs)) (fun i σ G => (∃ x z u, σ = [some (.ref y), some (.ref a), some (.ref D), x, z, u]) ∧ Same H G ∧ G D = some (.dK (lvK (restB bs (oldsOf (ms.take i))))) ∧ ∀ j, j < i → Gd ns n bs ms j) ⟨⟨none, none, none, rfl⟩, s0, by rw [List.take_zero]; show H0 D = some (.dK (lvK (restB bs []))); rw [rest_nil]; exact hD, fun j hj => absurd hj (Nat.not_lt_zero j)⟩ (fun i σ G _ h => SqL.of (h.2.1 _ _ ha)) ?_ ?_
    · rintro i x σ G1 G2 hi ⟨⟨x', z', u', rfl⟩, sm, hG, hall⟩ ⟨T', y1, y2, rfl, hT, rfl, e1, e2⟩
      cases e1
      have hx : xs[i]? = some y2 := e2
      obtain ⟨m, hmi, hmv⟩ := hm.get hx
      have il : i < ms.length := by rw [← hm.len]; exact hi
      have s1 := same_upd (o := .tup [.int (i : Nat), y2]) hT
      have sm2 := sm.trans s1
      have hG2 := s1 _ _ hG
      refine ⟨T', _, rfl, .inl (.inl upd_same), rfl, _, _, rfl, _, _, rfl, rfl, ?_⟩
      generalize (upd G1 T' (.tup [.int (i : Nat), y2])) = G at *
      refine ⟨_, rfl, y2, m, rfl, hmv.same sm2, _, rfl, ?_⟩
      have bad : ¬ Gd ns n bs ms i → Q (.int (i : Nat)) G := fun h => q2 i G sm2 il h
      cases hmb : mvB m with
      | false =>
        refine ifT rfl ?_
        refine ⟨_, rfl, bad ?_⟩
        rintro ⟨a1, b1, k, e, g0, g1, g2, _⟩
        rw [hmi] at e
        cases e
        have : mvB (some (a1, b1)) = true := by
          show (decide (0 ≤ a1) && (decide (0 ≤ b1) && !decide (a1 = b1))) = true
          rw [decide_eq_true g0, decide_eq_true g1, decide_eq_false g2]
          rfl
        rw [this] at hmb
        cases hmb
      | true =>
        refine ifF rfl ?_
        cases hmv with
        | other _ _ => cases hmb
        | odd _ _ _ _ => cases hmb
        | @mv t a1 b1 et =>
          have hmb' : (decide (0 ≤ a1) && (decide (0 ≤ b1) && !decide (a1 = b1))) = true := hmb
          simp only [Bool.and_eq_true, decide_eq_true_eq, Bool.not_eq_true', decide_eq_false_iff_not] at hmb'
          obtain ⟨g0, g1, g2⟩ := hmb'
          have et2 := sm2 _ _ et
          refine ⟨_, rfl, t, _, _, _, rfl, rfl, .inl (.inl et2), rfl, _, rfl, D, _, rfl, DGet.k (k := Sum.inl a1) hG2, _, rfl, ?_⟩
          by_cases hin : ∃ k, (a1, k, false) ∈ bs ∧ a1 ∉ oldsOf (ms.take i)
          · obtain ⟨k, hk, ho⟩ := hin
            have hv := rest_get wf gd (os := oldsOf (ms.take i)) (mem_rest.mpr ⟨hk, rfl, ho⟩)
            have hv' : valV (lvK (restB bs (oldsOf (ms.take i)))) (Sum.inl a1) = some (.int (k : Nat)) := hv
            refine ifF (by rw [hv']; rfl) ?_
            refine ⟨_, rfl, D, rfl, .inl ⟨_, .inl hG2⟩, _, rfl, t, _, _, _, rfl, rfl, .inl (.inl et2), rfl, _, Sum.inl a1, _, hG2, rfl, hv', ?_⟩
            have kl : k < ns.length := (wf.ok _ hk).1
            have bt : But1 D G (upd G D (.dK (dropK (lvK (restB bs (oldsOf (ms.take i)))) (Sum.inl a1)))) := fun c o nc ec => by
              rw [upd_ne nc]
              exact ec
            have hD3 : (upd G D (.dK (dropK (lvK (restB bs (oldsOf (ms.take i)))) (Sum.inl a1)))) D = some (.dK (lvK (restB bs (oldsOf (ms.take (i + 1)))))) := by
              rw [upd_same, olds_take hmi, rest_more]
            generalize (upd G D (.dK (dropK (lvK (restB bs (oldsOf (ms.take i)))) (Sum.inl a1)))) = G3 at bt hD3
            have sm3 : Same H G3 := fun c o ec => bt c o (ne_of_none ec hDf) (sm2 _ _ ec)
            have L3 := L.same sm3
            have et3 := sm3 _ _ et
            refine ⟨_, rfl, y, dx, _, rfl, L3.at_, y, zp, bl, dx, ps, ns, n, bs, rfl, L3, ?_⟩
            refine ⟨_, rfl, y, dx, _, rfl, L3.at_, y, zp, bl, dx, ps, ns, n, bs, rfl, L3, ?_⟩
            refine ⟨_, rfl, _, rfl, t, _, _, _, rfl, rfl, .inl (.inl et3), rfl, zp, ns, k, n, b1, rfl, L3.szs, gd, kl, L3.n1, L3.n2, g1, _, rfl, ?_⟩
            by_cases hr2 : b1 % sz ns k = 0 ∧ b1 + sz ns k ≤ n
            · refine ifF (by rw [decide_eq_true hr2]; rfl) ⟨⟨_, _, _, rfl⟩, sm3, hD3, fun j hj => ?_⟩
              rcases Nat.lt_or_ge j i with z | z
              · exact hall j z
              · obtain rfl : j = i := by omega
                exact ⟨a1, b1, k, hmi, g0, g1, g2, hk, ho, hr2.1, hr2.2⟩
            · refine ifT (by rw [decide_eq_false hr2]; rfl) ⟨_, rfl, q2 i G3 sm3 il ?_⟩
              rintro ⟨a2, b2, k2, e, _, _, _, g3, _, g5, g6⟩
              rw [hmi] at e
              cases e
              have ek : k2 = k := by
                have h1 := rest_get wf gd (os := oldsOf (ms.take i)) (mem_rest.mpr ⟨g3, rfl, ho⟩)
                have h1' : valV (lvK (restB bs (oldsOf (ms.take i)))) (Sum.inl a1) = some (.int (k2 : Nat)) := h1
                rw [hv'] at h1'
                have h2 := V.int.inj (Option.some.inj h1')
                omega
              rw [ek] at g5 g6
              exact hr2 ⟨g5, g6⟩
          · have hv : valV (lvK (restB bs (oldsOf (ms.take i)))) (Sum.inl a1) = none := rest_none fun c hc h1 h2 => Classical.byContradiction fun no => hin ⟨c.2.1, by
              rw [← h2, ← h1]
              exact hc, no⟩
            refine ifT (by rw [hv]; rfl) ⟨_, rfl, bad ?_⟩
            rintro ⟨a2, b2, k, e, _, _, _, g3, g4, _⟩
            rw [hmi] at e
            cases e
            exact hin ⟨k, g3, g4⟩
    · rintro σ G ⟨⟨x, z, u, rfl⟩, sm, hG, hall⟩
      exact q1 G sm fun i hi => hall i (by rw [hm.len]; exact hi)
end
end K35

set_option Elab.async false
set_option linter.all false
set_option maxRecDepth 100000
set_option maxHeartbeats 4000000
/-! Mathematics: a sweep over places finds a clash of a moved one exactly if there is one. -/
namespace K35
open PySem PySem.Spec PyProof.Rows L2 Gu Ex
theorem rev_ind {α : Type} {P : List α → Prop} (h0 : P []) (h1 : ∀ r u, P r → P (r ++ [u])) : ∀ l, P l := fun l => by
  have : ∀ m : List α, P m.reverse := fun m => by
    induction m with
    | nil => exact h0
    | cons a m ih =>
      rw [List.reverse_cons]
      exact h1 _ _ ih
  rw [← List.reverse_reverse l]
  exact this _
/-- a place: low, high, index of its move -/
abbrev Pl : Type := Int × Int × Int
def ov (x y : Pl) : Prop := x.1 < y.2.1 ∧ y.1 < x.2.1
theorem ov_symm {x y : Pl} (h : ov x y) : ov y x := ⟨h.2, h.1⟩
def endI (ts : List Pl) : Int := ts.foldl (fun e t => if t.2.1 > e then t.2.1 else e) 0
theorem endI_snoc (ts : List Pl) (t : Pl) : endI (ts ++ [t]) = if t.2.1 > endI ts then t.2.1 else endI ts := by
  unfold endI
  rw [List.foldl_append]
  rfl
theorem endI_ge {ts : List Pl} : ∀ {t : Pl}, t ∈ ts → t.2.1 ≤ endI ts := by
  refine rev_ind (P := fun ts => ∀ {t : Pl}, t ∈ ts → t.2.1 ≤ endI ts) (fun {t} h => nomatch h) (fun r u ih {t} h => ?_) ts
  rw [endI_snoc]
  rcases List.mem_append.mp h with z | z
  · have := ih z
    split <;> omega
  · rw [List.mem_singleton.mp z]
    split <;> omega
theorem endI_at {ts : List Pl} : endI ts = 0 ∨ ∃ t ∈ ts, t.2.1 = endI ts := by
  refine rev_ind (P := fun ts => endI ts = 0 ∨ ∃ t ∈ ts, t.2.1 = endI ts) (.inl rfl) (fun r u ih => ?_) ts
  rw [endI_snoc]
  split
  · exact .inr ⟨u, List.mem_append_right _ (List.mem_singleton.mpr rfl), rfl⟩
  · rcases ih with z | ⟨t, h, e⟩
    · exact .inl z
    · exact .inr ⟨t, List.mem_append_left _ h, e⟩
/-- the i-th place is told: it begins ahead of an end, or meets the next -/
def flag (ts : List Pl) (i : Nat) : Prop := ∃ t, ts[i]? = some t ∧ (t.1 < endI (ts.take i) ∨ ∃ u, ts[i + 1]? = some u ∧ u.1 < t.2.1)
def Hit (ts : List Pl) (L : Int) (i : Nat) : Prop := flag ts i ∧ ∃ t, ts[i]? = some t ∧ t.2.2 < L
def NoOv (ts : List Pl) : Prop := ts.Pairwise fun x y => ¬ ov x y
theorem pair_lt {α : Type} {R : α → α → Prop} {l : List α} (h : l.Pairwise R) {i j : Nat} {x y : α} (hi : l[i]? = some x) (hj : l[j]? = some y) (lt : i < j) : R x y := by
  obtain ⟨h1, e1⟩ := List.getElem?_eq_some_iff.mp hi
  obtain ⟨h2, e2⟩ := List.getElem?_eq_some_iff.mp hj
  rw [← e1, ← e2]
  exact List.pairwise_iff_getElem.mp h i j h1 h2 lt
theorem mem_take_lt {α : Type} {l : List α} {i : Nat} {x : α} (h : x ∈ l.take i) : ∃ j, j < i ∧ l[j]? = some x := by
  obtain ⟨j, hj⟩ := List.mem_iff_getElem?.mp h
  have hl := (List.getElem?_eq_some_iff.mp hj).1
  rw [List.length_take] at hl
  exact ⟨j, by omega, by rw [List.getElem?_take_of_lt (by omega)] at hj; exact hj⟩
theorem clash_iff {ts : List Pl} {L : Int} (so : ts.Pairwise fun x y => x.1 ≤ y.1) (pos : ∀ t ∈ ts, 0 ≤ t.1 ∧ t.1 < t.2.1) (un : ts.Pairwise fun x y => ¬ (x.2.2 < L) → ¬ (y.2.2 < L) → ¬ ov x y) :
    (∃ i, Hit ts L i) ↔ ¬ NoOv ts := by
  constructor
  · rintro ⟨i, ⟨t, ht, hf⟩, _⟩ no
    have tp := pos t (List.mem_of_getElem? ht)
    rcases hf with h | ⟨u, hu, h⟩
    · rcases endI_at (ts := ts.take i) with z | ⟨v, hv, e⟩
      · omega
      · obtain ⟨j, hj, ej⟩ := mem_take_lt hv
        have h1 := pair_lt so ej ht hj
        exact pair_lt no ej ht hj ⟨by omega, by omega⟩
    · have h1 := pair_lt so ht hu (by omega)
      have up := pos u (List.mem_of_getElem? hu)
      exact pair_lt no ht hu (by omega) ⟨by omega, by omega⟩
  · intro no
    refine Classical.byContradiction fun nh => no (List.pairwise_iff_getElem.mpr fun i j hi hj lt o => ?_)
    have ei := List.getElem?_eq_getElem hi
    have ej := List.getElem?_eq_getElem hj
    have u := pair_lt un ei ej lt
    have s := pair_lt so ei ej lt
    by_cases c1 : ts[j].2.2 < L
    · refine nh ⟨j, ⟨_, ej, .inl ?_⟩, _, ej, c1⟩
      have h1 : ts[i].2.1 ≤ endI (ts.take j) := endI_ge (List.mem_iff_getElem?.mpr ⟨i, by rw [List.getElem?_take_of_lt lt]; exact ei⟩)
      have := o.2
      omega
    · by_cases c2 : ts[i].2.2 < L
      · have hn : i + 1 < ts.length := by omega
        have en := List.getElem?_eq_getElem hn
        refine nh ⟨i, ⟨_, ei, .inr ⟨_, en, ?_⟩⟩, _, ei, c2⟩
        have h2 := o.2
        rcases Nat.lt_or_ge (i + 1) j with z | z
        · have h3 := pair_lt so en ej z
          omega
        · obtain rfl : j = i + 1 := by omega
          exact h2
      · exact u c2 c1 o
theorem noOv_perm {ts us : List Pl} (p : ts.Perm us) : NoOv ts ↔ NoOv us := by
  unfold NoOv
  exact p.pairwise_iff fun {x y} h o => h (ov_symm o)
end K35

set_option Elab.async false
set_option linter.all false
set_option maxRecDepth 100000
set_option maxHeartbeats 4000000
/-! Mathematics: the moves' goals, the places behind them, and what the law asks of pairs. -/
namespace K35
open PySem PySem.Spec PyProof.Rows L2 Gu Ex
/-- old, new, index -/
def gl : Nat → List (Int × Int) → List (Int × Int × Nat)
  | _, [] => []
  | j, (a, b) :: r => (a, b, j) :: gl (j + 1) r
theorem gl_snoc (a b : Int) : ∀ (j : Nat) (mm : List (Int × Int)), gl j (mm ++ [(a, b)]) = gl j mm ++ [(a, b, j + mm.length)]
  | j, [] => rfl
  | j, (x, y) :: r => by
    rw [List.cons_append]
    show (x, y, j) :: gl (j + 1) (r ++ [(a, b)]) = _
    rw [gl_snoc a b (j + 1) r, List.length_cons, show j + 1 + r.length = j + (r.length + 1) by omega]
    rfl
theorem gl_len : ∀ (j : Nat) (mm : List (Int × Int)), (gl j mm).length = mm.length
  | _, [] => rfl
  | j, (a, b) :: r => congrArg (· + 1) (gl_len (j + 1) r)
theorem gl_mem {a b : Int} {i : Nat} : ∀ {j : Nat} {mm : List (Int × Int)}, (a, b, i) ∈ gl j mm ↔ j ≤ i ∧ mm[i - j]? = some (a, b)
  | j, [] => by
    constructor
    · intro h; cases h
    · rintro ⟨_, h⟩; cases h
  | j, (x, y) :: r => by
    show (a, b, i) ∈ (x, y, j) :: gl (j + 1) r ↔ _
    rw [List.mem_cons, gl_mem (j := j + 1) (mm := r)]
    constructor
    · rintro (h | ⟨h1, h2⟩)
      · cases h
        exact ⟨Nat.le_refl _, by rw [Nat.sub_self]; rfl⟩
      · refine ⟨by omega, ?_⟩
        rw [show i - j = (i - (j + 1)) + 1 by omega]
        exact h2
    · rintro ⟨h1, h2⟩
      rcases Nat.eq_or_lt_of_le h1 with e | e
      · subst e
        rw [Nat.sub_self] at h2
        cases h2
        exact .inl rfl
      · refine .inr ⟨e, ?_⟩
        rw [show i - j = (i - (j + 1)) + 1 by omega] at h2
        exact h2
structure Fit (ns : List Int) (n : Int) (bs : List Blk) (mm : List (Int × Int)) : Prop where
  at_ : ∀ (i : Nat) (a b : Int), mm[i]? = some (a, b) → ∃ k, (a, k, false) ∈ bs ∧ 0 ≤ b ∧ b % sz ns k = 0 ∧ b + sz ns k ≤ n
  nd : ∀ (i j : Nat) (a b c : Int), mm[i]? = some (a, b) → mm[j]? = some (a, c) → i = j
def goal (mm : List (Int × Int)) (a : Int) : Option (Int × Nat) := ((gl 0 mm).find? fun g => decide (g.1 = a)).map (·.2)
theorem goal_some {ns : List Int} {n : Int} {bs : List Blk} {mm : List (Int × Int)} (F : Fit ns n bs mm) {i : Nat} {a b : Int} (h : mm[i]? = some (a, b)) : goal mm a = some (b, i) := by
  unfold goal
  cases e : (gl 0 mm).find? fun g => decide (g.1 = a) with
  | none =>
    have := List.find?_eq_none.mp e (a, b, i) (gl_mem.mpr ⟨Nat.zero_le _, h⟩)
    simp at this
  | some g =>
    obtain ⟨x, y, j⟩ := g
    have h1 := List.find?_some e
    have h2 := List.mem_of_find?_eq_some e
    have ex : x = a := by simpa using h1
    subst ex
    have h3 := (gl_mem.mp h2).2
    rw [Nat.sub_zero] at h3
    obtain rfl := F.nd i j _ _ _ h h3
    rw [h] at h3
    cases h3
    rfl
theorem goal_none {mm : List (Int × Int)} {a : Int} (h : a ∉ mm.map Prod.fst) : goal mm a = none := by
  unfold goal
  cases e : (gl 0 mm).find? fun g => decide (g.1 = a) with
  | none => rfl
  | some g =>
    obtain ⟨x, y, j⟩ := g
    have h1 := List.find?_some e
    have h2 := List.mem_of_find?_eq_some e
    have ex : x = a := by simpa using h1
    subst ex
    have h3 := (gl_mem.mp h2).2
    exact absurd (List.mem_map.mpr ⟨_, List.mem_of_getElem? h3, rfl⟩) h
/-- the place behind the moves -/
def plc (ns : List Int) (mm : List (Int × Int)) (c : Blk) : Pl := match goal mm c.1 with
  | some (b, j) => (b, b + sz ns c.2.1, j)
  | none => (c.1, c.1 + sz ns c.2.1, mm.length)
theorem olds_mem {mm : List (Int × Int)} {a : Int} (h : a ∈ mm.map Prod.fst) : ∃ (i : Nat) (b : Int), mm[i]? = some (a, b) := by
  obtain ⟨⟨x, y⟩, hm, rfl⟩ := List.mem_map.mp h
  obtain ⟨i, hi⟩ := List.mem_iff_getElem?.mp hm
  exact ⟨i, y, hi⟩
theorem blk_uniq {ns : List Int} {n : Int} {bs : List Blk} (w : Wf ns n bs) (g : Good ns) {i j : Nat} {c d : Blk} (hi : bs[i]? = some c) (hj : bs[j]? = some d) (e : c.1 = d.1) : i = j := by
  rcases Nat.lt_trichotomy i j with h | h | h
  · have := (w.lt g hi hj h).2
    omega
  · exact h
  · have := (w.lt g hj hi h).2
    omega
def ov2 (x y : Int × Int) : Prop := x.1 < y.2 ∧ y.1 < x.2
def lev (bs : List Blk) (a : Int) : Nat := ((bs.find? fun c => decide (c.1 = a)).map fun c => c.2.1).getD 0
theorem lev_is {ns : List Int} {n : Int} {bs : List Blk} (w : Wf ns n bs) (g : Good ns) {a : Int} {k : Nat} {p : Bool} (h : (a, k, p) ∈ bs) : lev bs a = k := by
  unfold lev
  cases e : bs.find? fun c => decide (c.1 = a) with
  | none =>
    have := List.find?_eq_none.mp e _ h
    simp at this
  | some c =>
    have h1 := List.find?_some e
    have h2 := List.mem_of_find?_eq_some e
    have ec : c.1 = a := by simpa using h1
    obtain ⟨i, hi⟩ := List.mem_iff_getElem?.mp h
    obtain ⟨j, hj⟩ := List.mem_iff_getElem?.mp h2
    obtain rfl := blk_uniq w g hi hj ec.symm
    rw [hi] at hj
    cases hj
    rfl
def rg (ns : List Int) (bs : List Blk) (m : Int × Int) : Int × Int := (m.2, m.2 + sz ns (lev bs m.1))
/-- no move's goal meets another one's or a block that stays -/
def LawOk (ns : List Int) (bs : List Blk) (mm : List (Int × Int)) : Prop := ∀ (p : Nat) (m : Int × Int), mm[p]? = some m → (∀ (q : Nat) (m' : Int × Int), mm[q]? = some m' → q ≠ p → ¬ ov2 (rg ns bs m) (rg ns bs m')) ∧ ∀ c ∈ bs, c.1 ∉ mm.map Prod.fst → ¬ ov2 (rg ns bs m) (c.1, c.1 + sz ns c.2.1)
section
variable {ns : List Int} {n : Int} {bs : List Blk} {mm : List (Int × Int)}
theorem plc_moved (w : Wf ns n bs) (g : Good ns) (F : Fit ns n bs mm) {p : Nat} {m : Int × Int} (h : mm[p]? = some m) : ∃ (i k : Nat), bs[i]? = some (m.1, k, false) ∧ plc ns mm (m.1, k, false) = (m.2, m.2 + sz ns k, (p : Int)) ∧ lev bs m.1 = k := by
  obtain ⟨a, b⟩ := m
  obtain ⟨k, hk, _⟩ := F.at_ p a b h
  obtain ⟨i, hi⟩ := List.mem_iff_getElem?.mp hk
  refine ⟨i, k, hi, ?_, lev_is w g hk⟩
  unfold plc
  rw [goal_some F h]
theorem plc_stays {c : Blk} (h : c.1 ∉ mm.map Prod.fst) : plc ns mm c = (c.1, c.1 + sz ns c.2.1, (mm.length : Int)) := by
  unfold plc
  rw [goal_none h]
theorem noOv_at (h : NoOv (bs.map (plc ns mm))) {i j : Nat} {c d : Blk} (hi : bs[i]? = some c) (hj : bs[j]? = some d) (ne : i ≠ j) : ¬ ov (plc ns mm c) (plc ns mm d) := by
  have ei : (bs.map (plc ns mm))[i]? = some (plc ns mm c) := by rw [List.getElem?_map, hi]; rfl
  have ej : (bs.map (plc ns mm))[j]? = some (plc ns mm d) := by rw [List.getElem?_map, hj]; rfl
  rcases Nat.lt_or_gt_of_ne ne with z | z
  · exact pair_lt h ei ej z
  · exact fun o => pair_lt h ej ei z (ov_symm o)
theorem law_iff (w : Wf ns n bs) (g : Good ns) (F : Fit ns n bs mm) : NoOv (bs.map (plc ns mm)) ↔ LawOk ns bs mm := by
  constructor
  · intro no p m hp
    obtain ⟨i, k, hi, e1, e2⟩ := plc_moved w g F hp
    refine ⟨fun q m' hq ne o => ?_, fun c hc st o => ?_⟩
    · obtain ⟨j, k', hj, e3, e4⟩ := plc_moved w g F hq
      have nij : i ≠ j := fun z => by
        subst z
        rw [hi] at hj
        have e5 : m.1 = m'.1 := congrArg (fun z : Option Blk => (z.getD (0, 0, false)).1) hj
        obtain ⟨a, b⟩ := m
        obtain ⟨a', b'⟩ := m'
        cases e5
        exact ne (F.nd q p _ _ _ hq hp)
      refine noOv_at no hi hj nij ?_
      rw [e1, e3]
      unfold rg at o
      rw [e2, e4] at o
      exact o
    · obtain ⟨j, hj⟩ := List.mem_iff_getElem?.mp hc
      have nij : i ≠ j := fun z => by
        subst z
        rw [hi] at hj
        cases hj
        exact st (List.mem_map.mpr ⟨m, List.mem_of_getElem? hp, rfl⟩)
      refine noOv_at no hi hj nij ?_
      rw [e1, plc_stays st]
      unfold rg at o
      rw [e2] at o
      exact o
  · intro ok
    refine List.pairwise_map.mpr (List.pairwise_iff_getElem.mpr fun i j hi hj lt o => ?_)
    have ei := List.getElem?_eq_getElem hi
    have ej := List.getElem?_eq_getElem hj
    generalize bs[i] = c at ei o
    generalize bs[j] = d at ej o
    have mvd : ∀ {l : Nat} {e : Blk}, bs[l]? = some e → e.1 ∈ mm.map Prod.fst → ∃ (q : Nat) (m : Int × Int), mm[q]? = some m ∧ m.1 = e.1 ∧ plc ns mm e = (m.2, m.2 + sz ns e.2.1, (q : Int)) ∧ rg ns bs m = (m.2, m.2 + sz ns e.2.1) := fun {l e} hl hm => by
      obtain ⟨q, b, hq⟩ := olds_mem hm
      obtain ⟨i2, k, h1, h2, h3⟩ := plc_moved w g F hq
      obtain rfl := blk_uniq w g hl h1 rfl
      rw [hl] at h1
      have h4 := Option.some.inj h1
      have ek : e.2.1 = k := congrArg (fun z : Blk => z.2.1) h4
      rw [← h4] at h2
      rw [ek]
      refine ⟨q, _, hq, rfl, h2, ?_⟩
      unfold rg
      rw [h3]
    by_cases c1 : c.1 ∈ mm.map Prod.fst <;> by_cases c2 : d.1 ∈ mm.map Prod.fst
    · obtain ⟨p, m, hp, e1, e2, e3⟩ := mvd ei c1
      obtain ⟨q, m', hq, e4, e5, e6⟩ := mvd ej c2
      have ne : q ≠ p := fun z => by
        subst z
        rw [hp] at hq
        cases hq
        have := (w.lt g ei ej lt).2
        omega
      refine (ok p m hp).1 q m' hq ne ?_
      rw [e3, e6]
      rw [e2, e5] at o
      exact o
    · obtain ⟨p, m, hp, e1, e2, e3⟩ := mvd ei c1
      refine (ok p m hp).2 d (List.mem_of_getElem? ej) c2 ?_
      rw [e3]
      rw [e2, plc_stays c2] at o
      exact o
    · obtain ⟨p, m, hp, e1, e2, e3⟩ := mvd ej c2
      refine (ok p m hp).2 c (List.mem_of_getElem? ei) c1 ?_
      rw [e3]
      rw [e2, plc_stays c1] at o
      exact ⟨o.2, o.1⟩
    · rw [plc_stays c1, plc_stays c2] at o
      have h1 := (w.lt g ei ej lt).1
      have h2 : c.1 + sz ns c.2.1 ≤ d.1 := h1
      have h3 := o.2
      have h4 : d.1 < c.1 + sz ns c.2.1 := h3
      omega
/-- what the sweep asks of the places -/
theorem plc_ok (w : Wf ns n bs) (g : Good ns) (F : Fit ns n bs mm) : (∀ t ∈ bs.map (plc ns mm), 0 ≤ t.1 ∧ t.1 < t.2.1 ∧ 0 ≤ t.2.2 ∧ t.2.2 ≤ mm.length ∧ t.2.1 ≤ n) ∧ (bs.map (plc ns mm)).Pairwise fun x y => ¬ (x.2.2 < (mm.length : Int)) → ¬ (y.2.2 < (mm.length : Int)) → ¬ ov x y := by
  constructor
  · intro t ht
    obtain ⟨c, hc, rfl⟩ := List.mem_map.mp ht
    have z1 := w.pos g hc
    have bo := w.ok c hc
    by_cases c1 : c.1 ∈ mm.map Prod.fst
    · obtain ⟨q, b, hq⟩ := olds_mem c1
      obtain ⟨k, hk, b0, _, bn⟩ := F.at_ q _ _ hq
      have ql := (List.getElem?_eq_some_iff.mp hq).1
      have ek : k = c.2.1 := (lev_is w g hk).symm.trans (lev_is w g (p := c.2.2) (k := c.2.1) hc)
      unfold plc
      rw [goal_some F hq]
      refine ⟨b0, ?_, ?_, ?_, ?_⟩
      · show b < b + sz ns c.2.1
        omega
      · show (0 : Int) ≤ (q : Int)
        omega
      · show (q : Int) ≤ _
        omega
      · show b + sz ns c.2.1 ≤ n
        rw [← ek]
        exact bn
    · rw [plc_stays c1]
      refine ⟨bo.2.1, ?_, ?_, Int.le_refl _, bo.2.2.2⟩
      · show c.1 < c.1 + sz ns c.2.1
        omega
      · show (0 : Int) ≤ (mm.length : Int)
        omega
  · refine List.pairwise_map.mpr (List.pairwise_iff_getElem.mpr fun i j hi hj lt h1 h2 o => ?_)
    have ei := List.getElem?_eq_getElem hi
    have ej := List.getElem?_eq_getElem hj
    generalize bs[i] = c at ei o h1
    generalize bs[j] = d at ej o h2
    have st : ∀ {e : Blk}, ¬ ((plc ns mm e).2.2 < (mm.length : Int)) → e.1 ∉ mm.map Prod.fst := fun {e} h z => by
      obtain ⟨q, b, hq⟩ := olds_mem z
      have ql := (List.getElem?_eq_some_iff.mp hq).1
      refine h ?_
      unfold plc
      rw [goal_some F hq]
      show (q : Int) < _
      omega
    rw [plc_stays (st h1), plc_stays (st h2)] at o
    have h4 := (w.lt g ei ej lt).1
    have h5 : c.1 + sz ns c.2.1 ≤ d.1 := h4
    have h3 := o.2
    have h6 : d.1 < c.1 + sz ns c.2.1 := h3
    omega
/-- moves that all fit are ones -/
theorem fit_of {ms : List Mo} (h : ∀ i : Nat, i < ms.length → Gd ns n bs ms i) : ∃ mm, ms = mm.map some ∧ Fit ns n bs mm := by
  have hs : ∀ i : Nat, i < ms.length → ∃ m, ms[i]? = some (some m) := fun i hi => by
    obtain ⟨a, b, k, e, _⟩ := h i hi
    exact ⟨_, e⟩
  have e : ms = (ms.map fun m => m.getD (0, 0)).map some := by
    refine List.ext_getElem? fun i => ?_
    rw [List.getElem?_map, List.getElem?_map]
    cases q : ms[i]? with
    | none => rfl
    | some m =>
      obtain ⟨m2, h2⟩ := hs i (List.getElem?_eq_some_iff.mp q).1
      rw [q] at h2
      cases h2
      rfl
  refine ⟨_, e, ⟨fun i a b q => ?_, ?_⟩⟩
  · have q2 : ms[i]? = some (some (a, b)) := by rw [e, List.getElem?_map, q]; rfl
    obtain ⟨a2, b2, k, e2, _, b0, _, hk, _, h1, h2⟩ := h i (List.getElem?_eq_some_iff.mp q2).1
    rw [q2] at e2
    cases e2
    exact ⟨k, hk, b0, h1, h2⟩
  · have one : ∀ (i j : Nat) (a b c : Int), (ms.map fun m => m.getD (0, 0))[i]? = some (a, b) → (ms.map fun m => m.getD (0, 0))[j]? = some (a, c) → ¬ i < j := fun i j a b c q1 q2 lt => by
      have r1 : ms[i]? = some (some (a, b)) := by rw [e, List.getElem?_map, q1]; rfl
      have r2 : ms[j]? = some (some (a, c)) := by rw [e, List.getElem?_map, q2]; rfl
      obtain ⟨a2, b2, k, e2, _, _, _, _, no, _⟩ := h j (List.getElem?_eq_some_iff.mp r2).1
      rw [r2] at e2
      cases e2
      refine no ?_
      unfold oldsOf
      refine List.mem_filterMap.mpr ⟨some (a, b), ?_, rfl⟩
      exact List.mem_iff_getElem?.mpr ⟨i, by rw [List.getElem?_take_of_lt lt]; exact r1⟩
    intro i j a b c q1 q2
    have h1 := one i j a b c q1 q2
    have h2 := one j i a c b q2 q1
    omega
end
end K35

set_option Elab.async false
set_option linter.all false
set_option maxRecDepth 100000
set_option maxHeartbeats 4000000
/-! Own layer: sorted of tuples of three ints, in their own order. -/
namespace SrtO
open PySem PyProof.Rows Srt
section
variable {prog : Program} {w : World} {A : Around} {E : Value → Shared → Prop} {s : Shared}
abbrev I3 : Type := Int × Int × Int
def IsT3 (h : Heap) (v : Value) (x : I3) : Prop := ∃ a o t u r n, v = .ref a ∧ h.get? a = some o ∧ o.cls = .type "tuple" ∧ o.data = .seq #[.int x.1 t, .int x.2.1 u, .int x.2.2 r] n
theorem IsT3.keeps {h h' : Heap} {v : Value} {x : I3} (p : IsT3 h v x) (k : ∀ b o, h.get? b = some o → o.cls = .type "tuple" → h'.get? b = some o) : IsT3 h' v x := by
  obtain ⟨a, o, t, u, r, n, e, ho, hc, hd⟩ := p
  exact ⟨a, o, t, u, r, n, e, k _ _ ho hc, hc, hd⟩
def lex3 (a b : I3) : Bool := decide (a.1 < b.1 ∨ (a.1 = b.1 ∧ (a.2.1 < b.2.1 ∨ (a.2.1 = b.2.1 ∧ a.2.2 < b.2.2))))
abbrev ltT (k : Value → I3) (v u : Value) : Bool := lex3 (k v) (k u)
theorem swo_t3 {α : Type} (k : α → I3) : Swo (fun v u => lex3 (k v) (k u)) := by
  unfold lex3
  refine ⟨fun x y h => ?_, fun x y z h1 h2 => ?_⟩
  · have a := of_decide_eq_true h
    exact decide_eq_false (by omega)
  · have a := of_decide_eq_false h1
    have b := of_decide_eq_false h2
    exact decide_eq_false (by omega)
theorem t3_cmp {vs : List Value} {k : Value → I3} (hp : ∀ v ∈ vs, IsT3 s.heap v (k v)) : Cmp prog w A s (tuples' true) (fun p => p.1 ∈ vs) (lt2 (ltT k)) := by
  intro p q hm hm'
  show wpAny (model prog w) A (keyLt' (tuples' true) p.1 q.1) (fun r s' => s' = s ∧ r = lex3 (k p.1) (k q.1)) (fun _ _ => False) s
  have h1 := hp _ hm
  have h2 := hp _ hm'
  generalize k p.1 = x at h1
  generalize k q.1 = y at h2
  obtain ⟨a, o, t, u, r, n, e, ho, hc, hdd⟩ := h1
  obtain ⟨a', o', t', u', r', n', e', ho', hc', hdd'⟩ := h2
  rw [e, e']
  obtain ⟨x1, x2, x3⟩ := x
  obtain ⟨y1, y2, y3⟩ := y
  refine PySem.W.kat_lt ho hdd ho' hdd' ?_
  show PySem.W.KatLex prog w A true (decide (3 < 3)) _ [(.int x1 t, .int y1 t'), (.int x2 u, .int y2 u'), (.int x3 r, .int y3 r')] 0 s
  refine PySem.W.kat_cons (SeqAt.EqAt.int_int x1 t y1 t' prog w _ _ ?_)
  refine PySem.W.kat_go (fun e1 => ?_) (fun e1 => ?_)
  · have e1' : x1 = y1 := by simpa using e1
    refine PySem.W.kat_yes (PySem.W.kat_cons (SeqAt.EqAt.int_int x2 u y2 u' prog w _ _ ?_))
    refine PySem.W.kat_go (fun e2 => ?_) (fun e2 => ?_)
    · have e2' : x2 = y2 := by simpa using e2
      refine PySem.W.kat_yes (PySem.W.kat_cons (SeqAt.EqAt.int_int x3 r y3 r' prog w _ _ ?_))
      refine PySem.W.kat_go (fun e3 => ?_) (fun e3 => ?_)
      · have e3' : x3 = y3 := by simpa using e3
        exact PySem.W.kat_yes (PySem.W.kat_nil ⟨rfl, by
          show decide (3 < 3) = _
          unfold lex3
          rw [decide_eq_false (by decide : ¬ 3 < 3)]
          symm
          exact decide_eq_false (by show ¬ (x1 < y1 ∨ (x1 = y1 ∧ (x2 < y2 ∨ (x2 = y2 ∧ x3 < y3)))); omega)⟩)
      · have e3' : ¬ x3 = y3 := by simpa using e3
        refine PySem.W.kat_no ?_
        refine PySem.W.kat_one _ _ (PyProof.Rows.lt_int ?_)
        exact (⟨rfl, by
          unfold lex3
          exact decide_eq_decide.mpr (by show _ ↔ (x1 < y1 ∨ (x1 = y1 ∧ (x2 < y2 ∨ (x2 = y2 ∧ x3 < y3)))); omega)⟩)
    · have e2' : ¬ x2 = y2 := by simpa using e2
      refine PySem.W.kat_no ?_
      refine PySem.W.kat_one _ _ (PyProof.Rows.lt_int ?_)
      exact (⟨rfl, by
        unfold lex3
        exact decide_eq_decide.mpr (by show _ ↔ (x1 < y1 ∨ (x1 = y1 ∧ (x2 < y2 ∨ (x2 = y2 ∧ x3 < y3)))); omega)⟩)
  · have e1' : ¬ x1 = y1 := by simpa using e1
    refine PySem.W.kat_no ?_
    refine oneLt_int ?_
    exact (⟨rfl, by
      unfold lex3
      exact decide_eq_decide.mpr (by show _ ↔ (x1 < y1 ∨ (x1 = y1 ∧ (x2 < y2 ∨ (x2 = y2 ∧ x3 < y3)))); omega)⟩)
theorem firstsT {h : Heap} : ∀ {vs : List Value}, (∀ v ∈ vs, ∃ x, IsT3 h v x) → ∃ fs : List Value, PySem.W.KatTups h vs fs ∧ fs.length = vs.length ∧ ∀ f ∈ fs, ∃ x t, f = Value.int x t
  | [], _ => ⟨[], PySem.W.KatTups.nil, rfl, fun _ hm => by simp at hm⟩
  | v :: vs, hp => by
    obtain ⟨fs, h1, h2, h3⟩ := firstsT (vs := vs) fun v' hm => hp v' (List.mem_cons_of_mem _ hm)
    obtain ⟨x, a, o, t, u, r, n, e, ho, hc, hd⟩ := hp v (List.mem_cons_self ..)
    subst e
    refine ⟨.int x.1 t :: fs, PySem.W.KatTups.cons ho hc hd rfl h1, by rw [List.length_cons, List.length_cons, h2], fun f hm => ?_⟩
    rcases List.mem_cons.mp hm with rfl | hm
    · exact ⟨x.1, t, rfl⟩
    · exact h3 f hm
theorem t3_sortable {a : Addr} {vs : List Value} {k : Value → I3} (h0 : 0 < vs.length) (hp : ∀ v ∈ vs, IsT3 s.heap v (k v)) (ha : ∀ o, s.heap.get? a = some o → o.cls ≠ .type "tuple") : SortableO prog w A s a vs (ltT k) := by
  intro h' keep
  have hp' : ∀ v ∈ vs, IsT3 h' v (k v) := fun v hm => (hp v hm).keeps fun b o e c => keep b o (fun z => by subst z; exact ha o e c) e
  obtain ⟨fs, h1, h2, h3⟩ := firstsT fun v hm => ⟨_, hp' v hm⟩
  refine ⟨tuples' true, fun Q E hq => ?_, t3_cmp hp'⟩
  refine PySem.W.kat_kind (T := .type "int") h1 (by omega) (fun f hm => ?_) (by rfl) ?_
  · obtain ⟨x, t, rfl⟩ := h3 f hm
    exact PySem.W.Looks.now
  · have e : (Value.type "int" != Value.type "tuple") = true := by first | decide +kernel | rfl | decide
    rw [e]
    exact hq
theorem sorted_t3 {l : Addr} {vs : List Value} {k : Value → I3} {Q : Value → Shared → Prop} (hl : s.heap.IsList l vs.toArray) (hz : vs.length ≤ sizeLine) (hp : ∀ v ∈ vs, IsT3 s.heap v (k v))
    (h : ∀ (h' : Heap) (d : Addr) (out : List Value), Srtd (ltT k) out → Stb (ltT k) out vs → (∀ b o, s.heap.get? b = some o → h'.get? b = some o) → s.heap.objs.size ≤ d → (∃ n, h'.get? d = some (seqObj "list" out.toArray n)) → Q (.ref d) { s with heap := h' }) :
    wpAny (model prog w) A (call (.builtin "sorted") [.ref l]) Q E s := by
  refine sorted_ord (swo_t3 k) hl hz (fun h2 h₁ a ha kk => ?_) fun out hs hb => ?_
  · refine t3_sortable (s := { s with heap := h₁ }) (by omega) (fun v hm => (hp v hm).keeps fun b o e _ => (kk b o e).2) fun o e => ?_
    have e' : some o = some (seqObj "list" vs.toArray 0) := e.symm.trans ha
    cases e'
    intro c
    exact absurd (Value.type.inj c) (by decide)
  · exact h _ _ out hs hb (fun b o e => sortedAll_old e) (Nat.le_succ _) (sortedAll_at s.heap vs out.toArray)
end
end SrtO
namespace L2
open PySem PySem.Spec PyProof.Rows
def rSortedT3 (K : PySem.W.Frag) : List V → Hp → VK → Prop := fun vs H Q => ∃ (a : Addr) (xs : List V) (k : V → SrtO.I3), vs = [V.ref a] ∧ SqL K H a xs ∧ (∀ x ∈ xs, ∃ t, x = V.ref t ∧ H t = some (.tup [.int (k x).1, .int (k x).2.1, .int (k x).2.2])) ∧
  ∀ ys p, ys.Pairwise (fun x y => (k x).1 ≤ (k y).1) → ys.Perm xs → H p = none → Q (.ref p) (upd H p (.lst ys))
section
variable {X : Cx}
theorem cr_sortedT3 : CallR X (.builtin "sorted") (rSortedT3 X.K) := by
  intro pins s σ H vs us Q I r h
  obtain ⟨a, xs, k, rfl, hs, hx, q⟩ := h
  obtain ⟨its, rv, hl, hz⟩ := I.list hs
  obtain ⟨u, rfl, ru⟩ := vals1 r
  obtain rfl : u = Value.ref a := ru
  obtain ⟨e1, e2⟩ := refs_back rv fun x m => by
    obtain ⟨t, e, _⟩ := hx x m
    exact ⟨t, e⟩
  have mem : ∀ v ∈ its, backV v ∈ xs := fun v hv => by rw [e1]; exact List.mem_map.mpr ⟨_, hv, rfl⟩
  refine SrtO.sorted_t3 (k := fun u => k (backV u)) hl.isList (by rw [← rv.length]; exact hz) (fun v hv => ?_) fun h' d out h1 h2 kp hd hn => ?_
  · obtain ⟨t, rfl⟩ := e2 v hv
    have hm : V.ref t ∈ xs := mem _ hv
    obtain ⟨t', e, ht⟩ := hx _ hm
    cases e
    obtain ⟨_, its2, r2, o, ho, hc, n, hd⟩ := I.hok _ _ ht
    obtain ⟨u1, u2, u3, rfl, ri, rj, rb⟩ := vals3S r2
    obtain ⟨t1, rfl⟩ := ri
    obtain ⟨t2, rfl⟩ := rj
    obtain ⟨t3, rfl⟩ := rb
    exact ⟨t, o, t1, t2, t3, n, rfl, ho, hc, hd⟩
  · have h3 : ∀ u ∈ out, ∃ a, u = Value.ref a := fun u hu => e2 u (h2.perm.mem_iff.mp hu)
    obtain ⟨n, hn⟩ := hn
    have hb : (out.map backV).Perm xs := by
      rw [e1]
      exact h2.perm.map backV
    refine ⟨.ref d, upd H d (.lst (out.map backV)), I.laid (t' := s.toks) kp hd ⟨?_, out, n, vals_back h3, hn⟩, rfl, q _ d (List.pairwise_map.mpr (h1.imp fun {x y} e => ?_)) hb (I.hok.fresh hd)⟩
    · rw [hb.length_eq]
      exact hz
    · have z : ¬ ((k (backV y)).1 < (k (backV x)).1 ∨ _) := of_decide_eq_false e
      show (k (backV x)).1 ≤ (k (backV y)).1
      omega
end
end L2

set_option Elab.async false
set_option linter.all false
set_option maxRecDepth 100000
set_option maxHeartbeats 4000000
/-! Own layer: a dict comprehension over any walk. -/
namespace L2
open PySem PySem.Spec PyProof.Rows
theorem dc_it {J : It} {n : Nat} {G : Hp → Prop} {Y : Nat → Hp → V → Hp → Prop} (w : Walk J n G Y) {g : TG} {tt : TT} {tk tv : TE} {vs : List Nat} {σ : St} {H1 : Hp} {D : Addr} {Qd : Hp → Prop} (Pv : Nat → Hp → Prop) (h0 : Pv 0 (upd H1 D (.dK []))) (hG : ∀ i H, i ≤ n → Pv i H → G H)
    (hs : ∀ i x H H', i < n → Pv i H → Y i H x H' → g x (wipe σ vs) H' fun σ2 H2 => wipe σ2 vs = wipe σ vs ∧ tt σ2 H2 fun b H3 =>
      if b = true then tk σ2 H3 fun y H4 => tv σ2 H4 fun z H5 => ∃ kvs k, y = kV k ∧ H5 D = some (.dK kvs) ∧ kvs.length < sizeLine ∧ Pv (i + 1) (upd H5 D (.dK (putK kvs k z))) else Pv (i + 1) H3) (hd : ∀ H, Pv n H → Qd H) :
    ∃ W : Nat → Nat → Hp → Prop, (∃ m, W 0 m (upd H1 D (.dK []))) ∧ ∀ i m H, W i m H →
      (J.stop i H ∧ Qd H) ∨ (J.go i H ∧ ∃ Nx : Hp → Prop, (∀ H', Nx H' → ∃ m', m' < m ∧ W (i + 1) m' H') ∧ ∀ x H', J.yld i H x H' → g x (wipe σ vs) H' fun σ2 H2 => wipe σ2 vs = wipe σ vs ∧ tt σ2 H2 fun b H3 =>
        if b = true then tk σ2 H3 fun y H4 => tv σ2 H4 fun z H5 => ∃ kvs k, y = kV k ∧ H5 D = some (.dK kvs) ∧ kvs.length < sizeLine ∧ Nx (upd H5 D (.dK (putK kvs k z))) else Nx H3) := by
  refine ⟨fun i m H => m = n - i ∧ i ≤ n ∧ Pv i H, ⟨n, by simp, Nat.zero_le _, h0⟩, ?_⟩
  rintro i m H ⟨rfl, hi, p⟩
  have q := hG i H hi p
  by_cases hlt : i < n
  · refine .inr ⟨w.goes i H hlt q, Pv (i + 1), fun H' p' => ⟨n - (i + 1), by omega, rfl, hlt, p'⟩, fun x H' y => hs i x H H' hlt p (w.yields i H x H' hlt q y)⟩
  · have e : i = n := by omega
    subst e
    exact .inl ⟨w.stops H q, hd H p⟩
end L2
namespace L2
open PySem PySem.Spec PyProof.Rows
section
variable {X : Cx}
theorem sw_trueD {kx vx : Expr} {gs : List Comprehension} {scope : Scope} {pos py : Pos} {y : Str} {l : Nat} {env : Env} (hk : env.scope.kind = .function) (hy : env.scope.names.lookup y = some .local) (hl : (py.line == pos.line) = true)
    (ha : (scope.names.any fun (n, k) => n == y && (k == .local || k == .cell)) = false) : swapsWith (.DictComp kx vx gs scope pos) (some (.Name y py)) l env = pure true := by
  have ky : env.kindOf y = some .local := hy
  have hb : env.blockKind = .function := by unfold Env.blockKind; rw [hk]; rfl
  unfold swapsWith
  simp only [hb, ky, ha, Expr.pos, hl]
  rfl
/-- y = {k: v for target in iter if ..} -/
theorem ps_setDc {i : Nat} {y : Str} {py : Pos} {kx vx tg iter : Expr} {ifs : List Expr} {scope : Scope} {own : List (Str × Nat)} {pos spos : Pos} {wi : TI} {g : TG} {tt : TT} {tk tv : TE} (hc : X.calm = true) (hN : X.N.Nodup) (hy : X.N[i]? = some y) (hyl : X.env.scope.names.lookup y = some .local)
    (hsw : swapsWith (.DictComp kx vx [⟨tg, iter, ifs, 0⟩] scope pos) (some (.Name y py)) spos.line X.env = pure true) (hi : PI X tg iter wi) (ok : BlkOk X.N X.env.scope scope own)
    (hg : ∀ (s : Shared) (H : Hp) (C : Addr) (cl : List (Str × Addr)) (fp : List Addr), PG (X.blk s H scope (compEnvC scope cl C X.env) fp) tg g) (ht : ∀ (s : Shared) (H : Hp) (C : Addr) (cl : List (Str × Addr)) (fp : List Addr), PTs (X.blk s H scope (compEnvC scope cl C X.env) fp) ifs tt)
    (hk : ∀ (s : Shared) (H : Hp) (C : Addr) (cl : List (Str × Addr)) (fp : List Addr), PE (X.blk s H scope (compEnvC scope cl C X.env) fp) kx tk)
    (he : ∀ (s : Shared) (H : Hp) (C : Addr) (cl : List (Str × Addr)) (fp : List Addr), PE (X.blk s H scope (compEnvC scope cl C X.env) fp) vx tv) (hs : ∀ x, foldedSetIterable iter X.env x = pure x := by intro _; rfl) :
    PS X (.Assign [.Name y py] (.DictComp kx vx [⟨tg, iter, ifs, 0⟩] scope pos) spos) (tAsg (tDc wi g tt tk tv (own.map (·.2))) (gName i)) := by
  refine ⟨fun pins s σ H D I h => ?_⟩
  rw [exec_Assign_Name_used _ _ _ _ hsw]
  refine wpAny_bind (wpAny_standAt (wpAny_bind ?_))
  show wpAny _ X.A (do let _ ← comprehension (.DictComp kx vx [⟨tg, iter, ifs, 0⟩] scope pos) scope X.env (firstIterPos [⟨tg, iter, ifs, 0⟩] pos) newDict false (eval iter X.env) (some (assign (.Name y py) X.env))) _ _ s
  have h : tDc wi g tt tk tv (own.map (·.2)) σ H (fun x H1 => gName i x σ H1 D.nx) := h
  refine wpAny_bind (thn (dc_core (Qf := fun _ s' => SP X pins D .next s') hc hN I hi ok hg ht hk he hs h fun L C s' m H' I' q hn f => ?_) fun _ s' hq => wpAny_pure (wpAny_pure hq))
  show wpAny _ _ (assign (.Name y py) X.env (.ref L)) _ _ _
  refine wpAny_assign_Name (store_ok2 (v := V.ref L) I' hN hy (.inl hyl) rfl (fun s2 I2 ⟨a, sb, ha⟩ => ?_) (.inr hyl))
  obtain ⟨f0, f1, f2, f3, f4, f5⟩ := f
  have haC : C ≠ a := by
    rcases ha with z | z
    · rw [z]; exact f1
    · exact fun e => f4 y a z e.symm
  refine ⟨m, hn.sameBut sb haC, fun h3 sb3 => ?_⟩
  exact ⟨_, H', I2.turned (t' := s2.toks) (fun b o hb e => (sb3.2 b hb).trans e) f0 f1 f3 f4 f5, q⟩
end
end L2
namespace Ex
open PySem PySem.Spec PyProof.Rows L2 Gu
/-- len(xs) within a block -/
def rLenS (K : PySem.W.Frag) : List V → Hp → VK → Prop := fun xs H Q => ∃ p ys, xs = [.ref p] ∧ (SqL K H p ys ∨ SqT K H p ys) ∧ Q (.int ys.length) H
section
variable {X : Cx} {o e : Expr} {es : List Expr} {to : TE} {t : TA} {name : Str} {apos cpos pos p : Pos} {T id : String} {r : V → List V → Hp → VK → Prop}
theorem pbmB (K : PySem.W.Frag) (pa : PlainAttrs T) (slot : Slot T name id) (hty : typeOf (.builtin id) = pure (.type "method_descriptor")) (hm : MtR X id r) (ho : PE X o to) (ha : PA X (e :: es) t) (hK : X.K = K := by rfl)
    (hbase : attributeBase o name X.env (eval o X.env) = eval o X.env := by rfl)
    (hfew : ((backTo cpos (starEach (e :: es) X.env)).all (fun x => !x.1) && (backToKw cpos (keywordEach [] X.env)).all (fun x => x.1.isSome)
      && decide ((e :: es).length + ([] : List Keyword).length + (if ([] : List Keyword).isEmpty then 0 else 1) < 30)) = true := by rfl)
    (hline : (apos.endLine == cpos.line) = true := by rfl) (hs : starEach (e :: es) X.env = (false, eval e X.env) :: starEach es X.env := by rfl) (hplain : (backTo cpos (starEach es X.env)).any (·.1) = false := by rfl) :
    PE X (.Call (.Attribute o name apos) (e :: es) [] cpos) (tBM K T r to t) := by
  subst hK
  exact pe_bm pa slot hty hm ho ha hbase hfew hline hs hplain
theorem plenB (K : PySem.W.Frag) (hg : Gl X "len") (hm : X.mg "len" = none) (ha : PA X [e] t) (hK : X.K = K := by rfl) (he : starEach [e] X.env = (false, eval e X.env) :: starEach [] X.env := by rfl) :
    PE X (.Call (.Name "len" p) [e] [] pos) (tCB (rLenS K) t) := by
  subst hK
  exact pe_callB call_len_seq hg hm (by decide +kernel) ha (by decide) (by decide) he (by rfl)
end
end Ex

set_option Elab.async false
set_option linter.all false
set_option maxRecDepth 100000
set_option maxHeartbeats 4000000
namespace K35
open PySem PySem.Spec PyProof.Rows L2 Gu Ex
/-- the dict of the goals -/
inductive Gls (H : Hp) : List (Key × V) → List (Int × Int × Nat) → Prop
  | nil : Gls H [] []
  | cons {t : Addr} {a b : Int} {j : Nat} {kvs : List (Key × V)} {l : List (Int × Int × Nat)} : H t = some (.tup [.int b, .int (j : Nat)]) → Gls H kvs l → Gls H ((Sum.inl a, .ref t) :: kvs) ((a, b, j) :: l)
section
variable {H H' : Hp} {kvs : List (Key × V)} {l : List (Int × Int × Nat)}
theorem Gls.same (h : Gls H kvs l) (s : Same H H') : Gls H' kvs l := by
  induction h with
  | nil => exact .nil
  | cons e _ ih => exact .cons (s _ _ e) ih
theorem Gls.but {D : Addr} {xs : List (Key × V)} (h : Gls H kvs l) (hD : H D = some (.dK xs)) (s : But1 D H H') : Gls H' kvs l := by
  induction h with
  | nil => exact .nil
  | cons e _ ih =>
    refine .cons (s _ _ (fun z => ?_) e) ih
    rw [z, hD] at e
    cases e
theorem Gls.snoc (h : Gls H kvs l) {t : Addr} {a b : Int} {j : Nat} (e : H t = some (.tup [.int b, .int (j : Nat)])) : Gls H (kvs ++ [(Sum.inl a, .ref t)]) (l ++ [(a, b, j)]) := by
  induction h with
  | nil => exact .cons e .nil
  | cons e2 _ ih => exact .cons e2 ih
theorem Gls.get (h : Gls H kvs l) (a : Int) : (valV kvs (Sum.inl a) = none ∧ l.find? (fun g => decide (g.1 = a)) = none) ∨ ∃ (t : Addr) (b : Int) (j : Nat), valV kvs (Sum.inl a) = some (.ref t) ∧ H t = some (.tup [.int b, .int (j : Nat)]) ∧ l.find? (fun g => decide (g.1 = a)) = some (a, b, j) := by
  induction h with
  | nil => exact .inl ⟨rfl, rfl⟩
  | @cons t a' b j kvs l e _ ih =>
    by_cases z : a' = a
    · subst z
      refine .inr ⟨t, b, j, valV_pos rfl, e, ?_⟩
      rw [List.find?_cons_of_pos (by simp)]
    · rw [valV_neg (fun q => z (by cases q; rfl)), List.find?_cons_of_neg (by simpa using z)]
      exact ih
theorem Gls.len (h : Gls H kvs l) : kvs.length = l.length := by
  induction h with
  | nil => rfl
  | cons _ _ ih => rw [List.length_cons, List.length_cons, ih]
end
theorem Gls.butL {H H' : Hp} {kvs : List (Key × V)} {l : List (Int × Int × Nat)} {D : Addr} {xs : List V} (h : Gls H kvs l) (hD : H D = some (.lst xs)) (s : But1 D H H') : Gls H' kvs l := by
  induction h with
  | nil => exact .nil
  | cons e _ ih =>
    refine .cons (s _ _ (fun z => ?_) e) ih
    rw [z, hD] at e
    cases e
theorem join3 {α β γ : Type} {G : Prop} (Pc : α → β → γ → Prop) {R : α → β → γ → Prop} (h1 : (∀ c d e, Pc c d e → R c d e) → G) (h2 : ∀ c d e, Pc c d e → R c d e) : G := h1 h2
def plV (t : Pl) : List V := [.int t.1, .int t.2.1, .int t.2.2]
def plA (G : Hp) : V → Pl
  | .ref t => match G t with
    | some (.tup [.int a, .int b, .int c]) => (a, b, c)
    | _ => (0, 0, 0)
  | _ => (0, 0, 0)
theorem plA_of {G : Hp} {t : Addr} {x : Pl} (h : G t = some (.tup (plV x))) : plA G (.ref t) = x := by
  unfold plA
  show (match G t with
    | some (.tup [.int a, .int b, .int c]) => (a, b, c)
    | _ => (0, 0, 0)) = x
  rw [h]
  rfl
theorem pl_refs {G : Hp} {qs : List Addr} {ts : List Pl} (h : Refs plV G qs ts) : ts = (qs.map V.ref).map (plA G) ∧ ∀ x ∈ qs.map V.ref, ∃ t, x = V.ref t ∧ G t = some (.tup (plV (plA G x))) := by
  induction h with
  | nil => exact ⟨rfl, fun _ z => nomatch z⟩
  | @cons p ps t ts e _ ih =>
    refine ⟨?_, fun x hx => ?_⟩
    · rw [List.map_cons, List.map_cons, plA_of e, ← ih.1]
    · rcases List.mem_cons.mp hx with z | z
      · subst z
        exact ⟨p, rfl, by rw [plA_of e]; exact e⟩
      · exact ih.2 x z
theorem refs_pl {G : Hp} : ∀ {ys : List V}, (∀ x ∈ ys, ∃ t, x = V.ref t ∧ G t = some (.tup (plV (plA G x)))) → ∃ qs : List Addr, ys = qs.map V.ref ∧ Refs plV G qs (ys.map (plA G))
  | [], _ => ⟨[], rfl, .nil⟩
  | y :: ys, h => by
    obtain ⟨t, e, ht⟩ := h y List.mem_cons_self
    obtain ⟨qs, e2, r⟩ := refs_pl (ys := ys) fun x hx => h x (List.mem_cons_of_mem _ hx)
    subst e
    refine ⟨t :: qs, by rw [e2]; rfl, ?_⟩
    rw [List.map_cons]
    exact .cons ht r
section
variable {P : Program} {w : World} {K : PySem.W.Frag} {mg : Str → Option Value} {base : Heap} {f : Addr} {fd : FuncData}
theorem Mvs.at_some {H : Hp} {xs : List V} {mm : List (Int × Int)} (h : Mvs H xs (mm.map some)) {i : Nat} {v : V} (hv : xs[i]? = some v) : ∃ t a b, v = .ref t ∧ H t = some (.tup [.int a, .int b]) ∧ mm[i]? = some (a, b) := by
  obtain ⟨m, hm, mv⟩ := h.get hv
  rw [List.getElem?_map] at hm
  cases e : mm[i]? with
  | none => rw [e] at hm; cases hm
  | some p =>
    rw [e] at hm
    cases hm
    obtain ⟨a, b⟩ := p
    cases mv with
    | mv e2 => exact ⟨_, a, b, rfl, e2, rfl⟩
def spPlaces (K : PySem.W.Frag) : Sp := fun vs H Q _ => ∃ (y zp bl dx a : Addr) (ps : List Addr) (ns : List Int) (n : Int) (bs : List Blk) (xs : List V) (mm : List (Int × Int)), vs = [.ref y, .ref a] ∧ Ly K H y zp bl dx ps ns n bs ∧ H a = some (.lst xs) ∧ Mvs H xs (mm.map some) ∧ Fit ns n bs mm ∧ xs.length ≤ 1000 ∧
  ∀ l qs ts H', H l = none → Same H H' → H' l = some (.lst (qs.map V.ref)) → Refs plV H' qs ts → ts.Perm (bs.map (plc ns mm)) → ts.Pairwise (fun x y => x.1 ≤ y.1) → Q (.ref l) H'
theorem sc_places_after : FnScope ["layout", "moves", "goals", "places", "address", "level", "is_pinned", "low", "index", "old", "new"] ["layout", "moves"] (defScope (top 34)) := ⟨rfl, rfl, rfl, by decide +kernel, rfl, by decide +kernel, by decide +kernel⟩
theorem ok_places (T : Tx K mg) (M_blocks : Mf P w K mg base 1 "Layout" "blocks" ["self"] (spBlk K)) (P_sizes : Pf P w K mg base 1 "Layout" "sizes" (spSzs K)) (M_size : Mf P w K mg base 5 "Sizes" "size" ["self", "level"] (spSize K))
    (F : FnP K "places_after" "places_after" (top 34) f fd) : FnOk P w K mg base CX0 6 f fd ["layout", "moves"] (spPlaces K) := by
  refine F.ok sc_places_after (fun vs H Q E h => ?_) (fun cdv A outer s H vs Q E hr h => ⟨_, PSs.nox (pss_cons (ps_setDc (i := 2) (own := [("index", 8), ("old", 9), ("new", 10)]) (g := gTup K 2 (gCons (gName 8) (gCons (gTup K 2 (gCons (gName 9) (gCons (gName 10) gNil))) gNil))) rfl sc_places_after.nd rfl rfl (sw_trueD rfl rfl rfl (by decide +kernel)) (pi_enum rfl T.n_enumerate (pa_cons (pv 1) pa_nil)) (blkOk_by (own := [("index", 8), ("old", 9), ("new", 10)]) (N := ["layout", "moves", "goals", "places", "address", "level", "is_pinned", "low", "index", "old", "new"]) (sc := defScope (top 34)) (by decide +kernel)) (fun _ _ _ _ _ => pg_tup rfl (pgs_cons (pg_name (i := 8) sc_places_after.nd rfl (Or.inl rfl)) (pgs_cons (pg_tup rfl (pgs_cons (pg_name (i := 9) sc_places_after.nd rfl (Or.inl rfl)) (pgs_cons (pg_name (i := 10) sc_places_after.nd rfl (Or.inl rfl)) pgs_nil))) pgs_nil))) (fun _ _ _ _ _ => pts_nil) (fun _ _ _ _ _ => (pv 9)) (fun _ _ _ _ _ => (pe_tup (pa_cons (pv 10) (pa_cons (pv 8) pa_nil))))) (pss_cons (ps_set (i := 3) sc_places_after.nd rfl (by first | exact Or.inl rfl | exact Or.inr rfl) (pe_lst pa_nil)) (pss_cons (ps_for PassesOwn.never rfl (pi_list (pmeth0 M_blocks hr (pv 0))) (pg_tup (by rfl) (pgs_cons (pg_name (i := 4) sc_places_after.nd rfl (by first | exact Or.inl rfl | exact Or.inr rfl)) (pgs_cons (pg_name (i := 5) sc_places_after.nd rfl (by first | exact Or.inl rfl | exact Or.inr rfl)) (pgs_cons (pg_name (i := 6) sc_places_after.nd rfl (by first | exact Or.inl rfl | exact Or.inr rfl)) pgs_nil)))) (pss_cons (ps_asg (pe_dget2 (u1 hr) (pv 2) (pv 4) (pe_tup (pa_cons (pv 4) (pa_cons (pe_callB call_len_seq (by rfl) T.n_len (by decide +kernel) (pa_cons (pv 1) pa_nil)) pa_nil))) ⟨rfl, rfl, rfl, rfl⟩) (pg_tup (by rfl) (pgs_cons (pg_name (i := 7) sc_places_after.nd rfl (by first | exact Or.inl rfl | exact Or.inr rfl)) (pgs_cons (pg_name (i := 8) sc_places_after.nd rfl (by first | exact Or.inl rfl | exact Or.inr rfl)) pgs_nil)))) (pss_one (ps_expr (pe_bm PySem.F.plainAttrs_list PySem.F.slot_list_append PySem.F.type_list_append mt_append (pv 3) (pa_cons (pe_tup (pa_cons (pv 7) (pa_cons (pe_op op_add (pv 7) (pmeth M_size hr (pprop P_sizes hr (pv 0)) (pa_cons (pv 5) pa_nil))) (pa_cons (pv 8) pa_nil)))) pa_nil)))))) (pss_one (ps_ret (pe_callB cr_sortedT3 (by rfl) T.n_sorted (by decide +kernel) (pa_cons (pv 3) pa_nil))))))), ?_⟩)
  · obtain ⟨y, zp, bl, dx, a, ps, ns, n, bs, xs, mm, rfl, _⟩ := h
    rfl
  · obtain ⟨y, zp, bl, dx, a, ps, ns, n, bs, xs, mm, rfl, L, ha, hm, Ft, x1000, q⟩ := h
    have wf := L.wf
    have gd := L.gd
    have sl : sizeLine = 16777216 := sizeLine_eq
    have xl : xs.length = mm.length := by rw [hm.len, List.length_map]
    refine ⟨_, rfl, a, _, rfl, SqL.of ha, fun D hD => ?_⟩
    refine dc_it (walk_enum (xs := xs)) (fun i G => Same H G ∧ ∃ kvs, G D = some (.dK kvs) ∧ Gls G kvs (gl 0 (mm.take i))) ⟨same_upd hD, [], upd_same, .nil⟩ (fun i G _ h => SqL.of (h.1 _ _ ha)) ?_ ?_
    · rintro i x G1 G2 hi ⟨sm, kvs, hG, hg⟩ ⟨T', y1, y2, rfl, hT, rfl, e1, e2⟩
      cases e1
      obtain ⟨t, a1, b1, rfl, et, em⟩ := hm.at_some e2
      have s1 := same_upd (o := .tup [.int (i : Nat), .ref t]) hT
      have sm1 := sm.trans s1
      have hG1 := s1 _ _ hG
      have hg1 := hg.same s1
      have et1 := sm1 _ _ et
      have il : i < mm.length := by rw [← xl]; exact hi
      refine ⟨T', _, rfl, .inl (.inl upd_same), rfl, _, _, rfl, _, _, rfl, t, _, rfl, .inl (.inl et1), rfl, _, _, rfl, _, _, rfl, rfl, rfl, ?_⟩
      generalize (upd G1 T' (.tup [.int (i : Nat), .ref t])) = G at *
      refine ⟨rfl, _, rfl, _, rfl, _, rfl, (by show 2 ≤ sizeLine; decide), fun u hu => ?_⟩
      have s2 := same_upd (o := .tup [.int b1, .int (i : Nat)]) hu
      have hu2 : (upd G u (.tup [.int b1, .int (i : Nat)])) u = some (.tup [.int b1, .int (i : Nat)]) := upd_same
      have hG2 := s2 _ _ hG1
      have hg2 := hg1.same s2
      have sm2 := sm1.trans s2
      generalize (upd G u (.tup [.int b1, .int (i : Nat)])) = G4 at *
      have no : valV kvs (Sum.inl a1) = none := by
        rcases hg.get a1 with ⟨z, _⟩ | ⟨t', b', j', _, _, z⟩
        · exact z
        · have h2 := List.mem_of_find?_eq_some z
          obtain ⟨_, h3⟩ := gl_mem.mp h2
          rw [Nat.sub_zero] at h3
          have lj : j' < i := by
            have := (List.getElem?_eq_some_iff.mp h3).1
            rw [List.length_take] at this
            omega
          rw [List.getElem?_take_of_lt lj] at h3
          have := Ft.nd _ _ _ _ _ h3 em
          omega
      refine ⟨kvs, Sum.inl a1, rfl, hG2, (by rw [hg.len, gl_len, List.length_take]; omega), fun c o ec => ?_, kvs ++ [(Sum.inl a1, .ref u)], ?_, ?_⟩
      · rw [upd_ne (ne_of_none ec hD)]
        exact sm2 c o ec
      · rw [upd_same, putK_new _ no]
      · have tk : mm.take (i + 1) = mm.take i ++ [(a1, b1)] := by rw [List.take_add_one, em]; rfl
        rw [tk, gl_snoc, Nat.zero_add, List.length_take, Nat.min_eq_left (by omega)]
        refine (hg2.but hG2 fun c o nc ec => by rw [upd_ne nc]; exact ec).snoc ?_
        rw [upd_ne (fun z => by rw [z, hG2] at hu2; cases hu2)]
        exact hu2
    · rintro G0 ⟨sm0, kvs, hG0, hg0⟩
      rw [xl, List.take_length] at hg0
      refine ⟨(by show 0 ≤ sizeLine; decide), fun R hR => ?_⟩
      have s1 := same_upd (o := .lst []) hR
      have hR0 : (upd G0 R (.lst [])) R = some (.lst (([] : List Addr).map V.ref)) := upd_same
      have sm1 := sm0.trans s1
      have fR := sm0.free hR
      generalize (upd G0 R (.lst [])) = G1 at *
      refine ⟨_, rfl, y, dx, _, rfl, (sm1 _ _ L.at_), lay_nm (by decide +kernel), y, zp, bl, dx, ps, ns, n, bs, rfl, L.same sm1, fun l hl => ?_⟩
      have s2 := same_upd (o := .lst (ps.map V.ref)) hl
      have hl2 : (upd G1 l (.lst (ps.map V.ref))) l = some (.lst (ps.map V.ref)) := upd_same
      have sm2 := sm1.trans s2
      have hR2 := s2 _ _ hR0
      have hg2 := (hg0.same s1).same s2
      have hG2 := s2 _ _ (s1 _ _ hG0)
      have nlR : l ≠ R := (ne_of_none hR0 hl).symm
      generalize (upd G1 l (.lst (ps.map V.ref))) = G2 at *
      have L2 := L.same sm2
      refine ⟨l, rfl, ⟨_, SqL.of hl2⟩, ?_⟩
      have pl := L.rf.len
      have bn := L.ln
      refine for_list (K := K) (a := l) (xs := ps.map V.ref) (fun i σ G => (∃ x4 x5 x6 x7 x8, σ = [some (.ref y), some (.ref a), some (.ref D), some (.ref R), x4, x5, x6, x7, x8, none, none]) ∧ Same H G ∧ G l = some (.lst (ps.map V.ref)) ∧ G D = some (.dK kvs) ∧ Gls G kvs (gl 0 mm) ∧ ∃ qs, G R = some (.lst (qs.map V.ref)) ∧ Refs plV G qs ((bs.take i).map (plc ns mm)))
        ⟨⟨none, none, none, none, none, rfl⟩, sm2, hl2, hG2, hg2, [], hR2, .nil⟩ (fun i σ G _ h => SqL.of h.2.2.1) ?_ ?_
      · rintro i x σ G hx ⟨⟨x4, x5, x6, x7, x8, rfl⟩, sm, hl3, hG3, hg3, qs, hR3, rf3⟩
        obtain ⟨p, hp, rfl⟩ := ref_of hx
        have L3 := L.same sm
        obtain ⟨b, hb, hT⟩ := L3.rf.get hp
        have hT' : G p = some (.tup [.int b.1, .int (b.2.1 : Nat), .bl b.2.2]) := hT
        have bm := List.mem_of_getElem? hb
        have il := (List.getElem?_eq_some_iff.mp hb).1
        have kl : b.2.1 < ns.length := (wf.ok b bm).1
        refine ⟨p, _, rfl, .inl (.inl hT'), rfl, _, _, rfl, _, _, rfl, _, _, rfl, rfl, ?_⟩
        refine join3 (fun (lo ix : Int) (G' : Hp) => Same G G' ∧ plc ns mm b = (lo, lo + sz ns b.2.1, ix)) (R := ?R) (fun tail => ?main) ?tl
        case main =>
          refine ⟨_, rfl, D, rfl, .inl ⟨_, .inl hG3⟩, _, rfl, _, rfl, _, rfl, a, _, rfl, .inl (SqL.of (sm _ _ ha)), (by show 2 ≤ sizeLine; decide), fun u hu => ?_⟩
          have s4 := same_upd (o := .tup [.int b.1, .int (xs.length : Nat)]) hu
          have hu4 : (upd G u (.tup [.int b.1, .int (xs.length : Nat)])) u = some (.tup [.int b.1, .int (xs.length : Nat)]) := upd_same
          have hG4 := s4 _ _ hG3
          have hg4 := hg3.same s4
          generalize (upd G u (.tup [.int b.1, .int (xs.length : Nat)])) = G4 at *
          refine ⟨_, DGet.k (k := Sum.inl b.1) hG4, ?_⟩
          rcases (hg4.get b.1).symm with ⟨t, lo, j, z1, et, z2⟩ | ⟨z1, z2⟩
          · rw [z1]
            obtain ⟨ix, eix⟩ : ∃ z : Int, z = (j : Int) := ⟨_, rfl⟩
            rw [← eix] at et
            have ep : plc ns mm b = (lo, lo + sz ns b.2.1, ix) := by
              unfold plc goal
              rw [z2, eix]
              rfl
            refine ⟨t, _, rfl, .inl (.inl et), rfl, _, _, rfl, _, _, rfl, rfl, ?_⟩
            exact tail lo ix G4 ⟨s4, ep⟩
          · rw [z1]
            refine ⟨u, _, rfl, .inl (.inl hu4), rfl, _, _, rfl, _, _, rfl, rfl, ?_⟩
            have ep : plc ns mm b = (b.1, b.1 + sz ns b.2.1, (xs.length : Int)) := by
              unfold plc goal
              rw [z2, xl]
              rfl
            exact tail b.1 (xs.length : Nat) G4 ⟨s4, ep⟩
        case tl =>
          rintro lo ix G4 ⟨s4, ep⟩
          have sm4 := sm.trans s4
          have L4 := L.same sm4
          have hR4 := s4 _ _ hR3
          obtain ⟨dz, lz, z1, z2⟩ := id L4.szs
          refine ⟨_, rfl, .inl ⟨rfl, _, SqL.of hR4⟩, _, rfl, _, rfl, _, rfl, y, dx, _, rfl, L4.at_, y, zp, bl, dx, ps, ns, n, bs, rfl, L4, zp, dz, _, rfl, z1, szF_no lz (by decide +kernel), _, rfl, zp, ns, b.2.1, _, rfl, L4.szs, sz_at kl, _, _, rfl, rfl, _, rfl, (by show 3 ≤ sizeLine; decide), fun v hv => ?_⟩
          have s5 := same_upd (o := .tup [.int lo, .int (lo + sz ns b.2.1), .int ix]) hv
          have hv5 : (upd G4 v (.tup [.int lo, .int (lo + sz ns b.2.1), .int ix])) v = some (.tup [.int lo, .int (lo + sz ns b.2.1), .int ix]) := upd_same
          have s45 := s4.trans s5
          have hR5 := s5 _ _ hR4
          have sm5 := sm4.trans s5
          generalize (upd G4 v (.tup [.int lo, .int (lo + sz ns b.2.1), .int ix])) = G5 at *
          have ql := rf3.len
          rw [List.length_map, List.length_take] at ql
          have bt : But1 R G5 (upd G5 R (.lst (qs.map V.ref ++ [.ref v]))) := fun c o nc ec => by
            rw [upd_ne nc]
            exact ec
          have nlst : ∀ {c : Addr} {zs : List V}, G5 c = some (.tup zs) → c ≠ R := fun {c zs} ec z => by
            rw [z, hR5] at ec
            cases ec
          refine ⟨R, _, _, rfl, rfl, hR5, (by rw [List.length_map]; omega), ?_⟩
          have hR6 : (upd G5 R (.lst (qs.map V.ref ++ [.ref v]))) R = some (.lst ((qs ++ [v]).map V.ref)) := by
            rw [upd_same, List.map_append]
            rfl
          generalize (upd G5 R (.lst (qs.map V.ref ++ [.ref v]))) = G6 at *
          have h45 := s45 _ _ hl3
          have hD45 := s45 _ _ hG3
          refine ⟨⟨_, _, _, _, _, rfl⟩, fun c o ec => bt c o (ne_of_none ec fR) (sm5 c o ec), bt _ _ nlR h45, bt _ _ (fun z => by rw [z, hR5] at hD45; cases hD45) hD45, ?_, qs ++ [v], hR6, ?_⟩
          · have h5 := hg3.same s45
            exact h5.butL hR5 bt
          · have tk : bs.take (i + 1) = bs.take i ++ [b] := by rw [List.take_add_one, hb]; rfl
            rw [tk, List.map_append]
            refine Refs.app ((rf3.same s45).mono fun c zs ec => bt c _ (nlst ec) ec) (Refs.one ?_)
            rw [ep]
            exact bt _ _ (nlst hv5) hv5
      · rintro σ G ⟨⟨x4, x5, x6, x7, x8, rfl⟩, sm, hl3, hG3, hg3, qs, hR3, rf3⟩
        rw [List.length_map, pl, List.take_length] at rf3
        obtain ⟨e1, e2⟩ := pl_refs rf3
        refine ⟨_, rfl, R, _, plA G, rfl, SqL.of hR3, e2, fun ys p hs hp hpn => ?_⟩
        obtain ⟨qs', e3, rf'⟩ := refs_pl (G := G) (ys := ys) fun x hx => e2 x (hp.mem_iff.mp hx)
        subst e3
        refine q p qs' _ _ (sm.free hpn) (sm.trans (same_upd hpn)) upd_same (rf'.same (same_upd hpn)) ?_ ?_
        · rw [e1]
          exact hp.map _
        · exact List.pairwise_map.mpr hs
end
end K35

set_option Elab.async false
set_option linter.all false
set_option maxRecDepth 100000
set_option maxHeartbeats 4000000
set_option pp.maxSteps 900
namespace K35
open PySem PySem.Spec PyProof.Rows L2 Gu Ex
section
variable {P : Program} {w : World} {K : PySem.W.Frag} {mg : Str → Option Value} {base : Heap} {f : Addr} {fd : FuncData}
def spClash (K : PySem.W.Frag) : Sp := fun vs H Q _ => ∃ (y zp bl dx a : Addr) (ps : List Addr) (ns : List Int) (n : Int) (bs : List Blk) (xs : List V) (mm : List (Int × Int)), vs = [.ref y, .ref a] ∧ Ly K H y zp bl dx ps ns n bs ∧ H a = some (.lst xs) ∧ Mvs H xs (mm.map some) ∧ Fit ns n bs mm ∧ xs.length ≤ 1000 ∧
  (NoOv (bs.map (plc ns mm)) → ∀ H', Same H H' → Q .non H') ∧ (¬ NoOv (bs.map (plc ns mm)) → ∀ (p : Int) H', Same H H' → Q (.int p) H')
theorem sc_first_clash : FnScope ["layout", "moves", "places", "first", "end", "at", "meets_next", "low", "high", "index"] ["layout", "moves"] (defScope (top 35)) := ⟨rfl, rfl, rfl, by decide +kernel, rfl, by decide +kernel, by decide +kernel⟩
theorem ok_clash (T : Tx K mg) (D_places_after : Df P w K mg base 6 "places_after" ["layout", "moves"] (spPlaces K)) (F : FnP K "first_clash" "first_clash" (top 35) f fd) : FnOk P w K mg base CX0 7 f fd ["layout", "moves"] (spClash K) := by
  refine F.ok sc_first_clash (fun vs H Q E h => ?_) (fun cdv A outer s H vs Q E hr h => ⟨_, PSs.nox (pss_cons (ps_set (i := 2) sc_first_clash.nd rfl (by first | exact Or.inl rfl | exact Or.inr rfl) (pcall D_places_after hr (pa_cons (pv 0) (pa_cons (pv 1) pa_nil)))) (pss_cons (ps_set (i := 3) sc_first_clash.nd rfl (by first | exact Or.inl rfl | exact Or.inr rfl) (pe_callB call_len_seq (by rfl) T.n_len (by decide +kernel) (pa_cons (pv 1) pa_nil))) (pss_cons (ps_set (i := 4) sc_first_clash.nd rfl (by first | exact Or.inl rfl | exact Or.inr rfl) pe_int) (pss_cons (ps_for PassesOwn.never rfl (pi_enum rfl T.n_enumerate (pa_cons (pv 2) pa_nil)) (pg_tup (by rfl) (pgs_cons (pg_name (i := 5) sc_first_clash.nd rfl (by first | exact Or.inl rfl | exact Or.inr rfl)) (pgs_cons (pg_tup (by rfl) (pgs_cons (pg_name (i := 7) sc_first_clash.nd rfl (by first | exact Or.inl rfl | exact Or.inr rfl)) (pgs_cons (pg_name (i := 8) sc_first_clash.nd rfl (by first | exact Or.inl rfl | exact Or.inr rfl)) (pgs_cons (pg_name (i := 9) sc_first_clash.nd rfl (by first | exact Or.inl rfl | exact Or.inr rfl)) pgs_nil)))) pgs_nil))) (pss_cons (ps_set (i := 6) sc_first_clash.nd rfl (by first | exact Or.inl rfl | exact Or.inr rfl) (pe_and (pe_cmpR op_lt (pe_op op_add (pv 5) pe_int) (pe_callB call_len_seq (by rfl) T.n_len (by decide +kernel) (pa_cons (pv 2) pa_nil)) (nomark _)) (pe_one (pe_cmpR op_lt (pe_ix ix_tup (pe_ix ix_list (pv 2) (pe_op op_add (pv 5) pe_int) (fun _ _ => rfl)) pe_int (fun _ _ => rfl)) (pv 8) (nomark _))))) (pss_cons (ps_if (PW.pt (pw_or (pt_cmpR op_lt (pv 7) (pv 4) (nomark _)) (pw_or1 (pt_val (pv 6))))) (pss_one (ps_set (i := 3) sc_first_clash.nd rfl (by first | exact Or.inl rfl | exact Or.inr rfl) (pe_callB (call_min2 rfl) (by rfl) T.n_min (by decide +kernel) (pa_cons (pv 3) (pa_cons (pv 9) pa_nil))))) pss_nil) (pss_one (ps_set (i := 4) sc_first_clash.nd rfl (by first | exact Or.inl rfl | exact Or.inr rfl) (pe_callB (call_max2 rfl) (by rfl) T.n_max (by decide +kernel) (pa_cons (pv 4) (pa_cons (pv 8) pa_nil)))))))) (pss_one (ps_ret (pe_ifExp (pt_cmpR op_lt (pv 3) (pe_callB call_len_seq (by rfl) T.n_len (by decide +kernel) (pa_cons (pv 1) pa_nil)) (nomark _)) (pv 3) pe_non))))))), ?_⟩)
  · obtain ⟨y, zp, bl, dx, a, ps, ns, n, bs, xs, mm, rfl, _⟩ := h
    rfl
  · obtain ⟨y, zp, bl, dx, a, ps, ns, n, bs, xs, mm, rfl, L, ha, hm, Ft, x1000, q1, q2⟩ := h
    have wf := L.wf
    have gd := L.gd
    have sl : sizeLine = 16777216 := sizeLine_eq
    have xl : xs.length = mm.length := by rw [hm.len, List.length_map]
    refine ⟨_, rfl, _, rfl, y, zp, bl, dx, a, ps, ns, n, bs, xs, mm, rfl, L, ha, hm, Ft, x1000, fun l qs ts H1 hl0 s1 hl rf pm so => ?_⟩
    obtain ⟨ok1, ok2⟩ := plc_ok wf gd Ft
    have pos : ∀ t ∈ ts, 0 ≤ t.1 ∧ t.1 < t.2.1 ∧ 0 ≤ t.2.2 ∧ t.2.2 ≤ mm.length ∧ t.2.1 ≤ n := fun t ht => ok1 t (pm.mem_iff.mp ht)
    have un : ts.Pairwise fun x y => ¬ (x.2.2 < (mm.length : Int)) → ¬ (y.2.2 < (mm.length : Int)) → ¬ ov x y := (pm.symm.pairwise_iff fun {x y} h h1 h2 o => h h2 h1 (ov_symm o)).mp ok2
    have key := clash_iff so (fun t ht => ⟨(pos t ht).1, (pos t ht).2.1⟩) un
    rw [noOv_perm pm] at key
    have ha1 := s1 _ _ ha
    have ql := rf.len
    refine ⟨_, rfl, a, _, rfl, .inl (SqL.of ha1), ?_⟩
    rw [xl]
    refine ⟨_, rfl, l, _, rfl, SqL.of hl, ?_⟩
    refine for_it (walk_enum (xs := qs.map V.ref)) (fun i σ G => ∃ (fi : Int) (x5 x6 x7 x8 x9 : Option V), σ = [some (.ref y), some (.ref a), some (.ref l), some (.int fi), some (.int (endI (ts.take i))), x5, x6, x7, x8, x9] ∧ Same H1 G ∧ 0 ≤ fi ∧ fi ≤ mm.length ∧ (fi < mm.length ↔ ∃ j, j < i ∧ Hit ts mm.length j))
      ⟨_, none, none, none, none, none, rfl, Same.refl _, by omega, Int.le_refl _, ⟨fun z => absurd z (Int.lt_irrefl _), fun ⟨j, hj, _⟩ => absurd hj (Nat.not_lt_zero j)⟩⟩ (fun i σ G _ h => ?_) ?_ ?_
    · obtain ⟨_, _, _, _, _, _, _, sm, _⟩ := h
      exact SqL.of (sm _ _ hl)
    · rintro i x σ G1 G2 hi ⟨fi, x5, x6, x7, x8, x9, rfl, sm, f0, f1, fiff⟩ ⟨T', y1, y2, rfl, hT, rfl, e1, e2⟩
      cases e1
      obtain ⟨p, hp, rfl⟩ := ref_of e2
      have sT := same_upd (o := .tup [.int (i : Nat), .ref p]) hT
      have sm1 := sm.trans sT
      obtain ⟨t, ht, et⟩ := (rf.same sm1).get hp
      have et' : (upd G1 T' (.tup [.int (i : Nat), .ref p])) p = some (.tup [.int t.1, .int t.2.1, .int t.2.2]) := et
      have tp := pos t (List.mem_of_getElem? ht)
      have il := (List.getElem?_eq_some_iff.mp ht).1
      refine ⟨T', _, rfl, .inl (.inl upd_same), rfl, _, _, rfl, _, _, rfl, p, _, rfl, .inl (.inl et'), rfl, _, _, rfl, _, _, rfl, _, _, rfl, rfl, rfl, ?_⟩
      have rf1 := rf.same sm1
      have hl1 := sm1 _ _ hl
      generalize (upd G1 T' (.tup [.int (i : Nat), .ref p])) = G at *
      refine join (fun mb : Bool => mb = true ↔ ∃ u, ts[i + 1]? = some u ∧ u.1 < t.2.1) (R := ?R) (fun tail => ?main) ?tl
      case main =>
        refine ⟨_, rfl, _, _, rfl, rfl, _, rfl, l, _, rfl, .inl (SqL.of hl1), _, _, rfl, rfl, _, rfl, ?_⟩
        by_cases h1 : (i : Int) + 1 < ((qs.map V.ref).length : Nat)
        · have h2 : i + 1 < ts.length := by rw [List.length_map] at h1; omega
          have eu := List.getElem?_eq_getElem h2
          obtain ⟨p', hp', eu'⟩ := rf1.at_ eu
          have eu2 : G p' = some (.tup [.int ts[i + 1].1, .int ts[i + 1].2.1, .int ts[i + 1].2.2]) := eu'
          refine ifT (decide_eq_true h1) ?_
          refine ⟨_, rfl, _, rfl, _, _, rfl, rfl, l, _, _, _, rfl, rfl, SqL.of hl1, (by exact Refs.map_at (i := i + 1) hp'), p', _, _, _, rfl, rfl, .inl (.inl eu2), rfl, _, rfl, _, _, rfl, rfl, ?_⟩
          dsimp only
          generalize hmb : decide (ts[i + 1].1 < t.2.1) = mb
          refine tail mb ?_
          rw [← hmb, decide_eq_true_eq]
          exact ⟨fun z => ⟨_, eu, z⟩, fun ⟨u, hu, z⟩ => by rw [eu] at hu; cases hu; exact z⟩
        · refine ifF (decide_eq_false h1) (tail false ?_)
          refine ⟨fun z => (nomatch z), fun ⟨u, hu, _⟩ => ?_⟩
          have := (List.getElem?_eq_some_iff.mp hu).1
          rw [List.length_map] at h1
          omega
      case tl =>
        intro mb hmb
        have tk : ts.take (i + 1) = ts.take i ++ [t] := by rw [List.take_add_one, ht]; rfl
        have fl : flag ts i ↔ (t.1 < endI (ts.take i) ∨ mb = true) := by
          rw [hmb]
          constructor
          · rintro ⟨t', ht', h⟩
            rw [ht] at ht'
            cases ht'
            exact h
          · intro h
            exact ⟨t, ht, h⟩
        have hit : Hit ts mm.length i ↔ ((t.1 < endI (ts.take i) ∨ mb = true) ∧ t.2.2 < mm.length) := by
          unfold Hit
          rw [fl]
          constructor
          · rintro ⟨h1, t', ht', h2⟩
            rw [ht] at ht'
            cases ht'
            exact ⟨h1, h2⟩
          · rintro ⟨h1, h2⟩
            exact ⟨h1, t, ht, h2⟩
        have more : ∀ fi' : Int, (fi' < mm.length ↔ (fi < mm.length ∨ Hit ts mm.length i)) → (fi' < mm.length ↔ ∃ j, j < i + 1 ∧ Hit ts mm.length j) := fun fi' h => by
          rw [h, fiff]
          constructor
          · rintro (⟨j, hj, z⟩ | z)
            · exact ⟨j, by omega, z⟩
            · exact ⟨i, by omega, z⟩
          · rintro ⟨j, hj, z⟩
            rcases Nat.lt_or_ge j i with h1 | h1
            · exact .inl ⟨j, h1, z⟩
            · obtain rfl : j = i := by omega
              exact .inr z
        refine join (fun fi' : Int => 0 ≤ fi' ∧ fi' ≤ mm.length ∧ (fi' < mm.length ↔ (fi < mm.length ∨ Hit ts mm.length i))) (R := ?R2) (fun tail => ?main2) ?tl2
        case main2 =>
          have yes : (t.1 < endI (ts.take i) ∨ mb = true) → 0 ≤ (if t.2.2 < fi then t.2.2 else fi) ∧ (if t.2.2 < fi then t.2.2 else fi) ≤ mm.length ∧ ((if t.2.2 < fi then t.2.2 else fi) < mm.length ↔ (fi < mm.length ∨ Hit ts mm.length i)) := fun h => by
            rw [hit]
            refine ⟨?_, ?_, ?_⟩
            · split <;> omega
            · split <;> omega
            · constructor
              · intro z
                by_cases c : t.2.2 < mm.length
                · exact .inr ⟨h, c⟩
                · split at z
                  · omega
                  · exact .inl z
              · rintro (z | ⟨_, z⟩)
                · split <;> omega
                · split <;> omega
          refine ⟨_, rfl, _, rfl, _, _, rfl, rfl, _, rfl, ?_⟩
          by_cases h1 : t.1 < endI (ts.take i)
          · refine ifT (decide_eq_true h1) ⟨_, rfl, _, rfl, _, _, rfl, ?_⟩
            have y := yes (.inl h1)
            generalize (if t.2.2 < fi then t.2.2 else fi) = fi' at y
            exact tail fi' y
          · refine ifF (decide_eq_false h1) ⟨_, rfl, _, rfl, ?_⟩
            by_cases hm2 : mb = true
            · refine ifT hm2 ⟨_, rfl, _, rfl, _, _, rfl, ?_⟩
              have y := yes (.inr hm2)
              generalize (if t.2.2 < fi then t.2.2 else fi) = fi' at y
              exact tail fi' y
            · refine ifF (by simpa using hm2) (tail fi ⟨f0, f1, ?_⟩)
              rw [hit]
              constructor
              · exact fun z => .inl z
              · rintro (z | ⟨z | z, _⟩)
                · exact z
                · exact absurd z h1
                · exact absurd z hm2
        case tl2 =>
          rintro fi' ⟨g0, g1, g2⟩
          refine ⟨_, rfl, _, rfl, _, _, rfl, fi', some (.int (i : Nat)), some (.bl mb), some (.int t.1), some (.int t.2.1), some (.int t.2.2), ?_, sm1, g0, g1, more fi' g2⟩
          rw [tk, endI_snoc]
          rfl
    · rintro σ G ⟨fi, x5, x6, x7, x8, x9, rfl, sm, f0, f1, fiff⟩
      have tl : (qs.map V.ref).length = ts.length := by rw [List.length_map, ql]
      rw [tl] at fiff
      have smH := s1.trans sm
      have hitI : (∃ j, j < ts.length ∧ Hit ts mm.length j) ↔ ∃ j, Hit ts mm.length j := by
        constructor
        · rintro ⟨j, _, z⟩
          exact ⟨j, z⟩
        · rintro ⟨j, z⟩
          obtain ⟨⟨t, ht, _⟩, _⟩ := id z
          exact ⟨j, (List.getElem?_eq_some_iff.mp ht).1, z⟩
      rw [hitI, key] at fiff
      refine ⟨_, rfl, _, rfl, a, _, rfl, .inl (SqL.of (sm _ _ ha1)), ?_⟩
      rw [xl]
      refine ⟨_, _, rfl, rfl, _, rfl, ?_⟩
      by_cases hf : fi < (mm.length : Int)
      · refine ifT (decide_eq_true hf) ⟨_, rfl, ?_⟩
        exact q2 (fiff.mp hf) fi G smH
      · refine ifF (decide_eq_false hf) ?_
        exact q1 (Classical.byContradiction fun z => hf (fiff.mpr z)) G smH
end
end K35

set_option Elab.async false
set_option linter.all false
set_option maxRecDepth 100000
set_option maxHeartbeats 4000000
set_option pp.maxSteps 900
namespace K35
open PySem PySem.Spec PyProof.Rows L2 Gu Ex
/-- a value that may be a list of moves -/
inductive Th (H : Hp) : V → Option (List Mo) → Prop
  | list {a : Addr} {xs : List V} {ms : List Mo} : H a = some (.lst xs) → Mvs H xs ms → xs.length ≤ 1000 → Th H (.ref a) (some ms)
  | other {v : V} : Any H v → (∀ t xs, v = .ref t → H t ≠ some (.lst xs)) → Th H v none
theorem Th.same {H H' : Hp} {v : V} {o : Option (List Mo)} (h : Th H v o) (s : Same H H') : Th H' v o := by
  cases h with
  | list e m l => exact .list (s _ _ e) (m.same s) l
  | other a n =>
    refine .other (a.same s) fun t xs e q => ?_
    subst e
    obtain ⟨o, ho⟩ := a.obj
    have q2 := s _ _ ho
    rw [q] at q2
    cases q2
    exact n t xs rfl ho
/-- it is a rearrangement -/
def OkR (ns : List Int) (n : Int) (bs : List Blk) : Option (List Mo) → Prop
  | none => False
  | some ms => (∀ i : Nat, i < ms.length → Gd ns n bs ms i) ∧ ∀ mm, ms = mm.map some → LawOk ns bs mm
section
variable {P : Program} {w : World} {K : PySem.W.Frag} {mg : Str → Option Value} {base : Heap} {f : Addr} {fd : FuncData}
def spWrong (K : PySem.W.Frag) : Sp := fun vs H Q _ => ∃ (y zp bl dx : Addr) (ps : List Addr) (ns : List Int) (n : Int) (bs : List Blk) (v : V) (o : Option (List Mo)), vs = [.ref y, v] ∧ Ly K H y zp bl dx ps ns n bs ∧ Th H v o ∧
  (OkR ns n bs o → ∀ H', Same H H' → Q .non H') ∧ (¬ OkR ns n bs o → ∀ (p : Int) H', Same H H' → Q (.int p) H')
theorem sc_first_wrong_move : FnScope ["layout", "value", "position"] ["layout", "value"] (defScope (top 36)) := ⟨rfl, rfl, rfl, by decide +kernel, rfl, by decide +kernel, by decide +kernel⟩
theorem ok_wrong (T : Tx K mg) (D_first_misfit : Df P w K mg base 8 "first_misfit" ["layout", "moves"] (spMisfit K)) (D_first_clash : Df P w K mg base 7 "first_clash" ["layout", "moves"] (spClash K)) (F : FnP K "first_wrong_move" "first_wrong_move" (top 36) f fd) : FnOk P w K mg base CX0 9 f fd ["layout", "value"] (spWrong K) := by
  refine F.ok sc_first_wrong_move (fun vs H Q E h => ?_) (fun cdv A outer s H vs Q E hr h => ⟨_, PSs.nox (pss_cons (ps_if (pt_not (pt_val (pe_callB call_isi (by rfl) T.n_isinstance (by decide +kernel) (pa_cons (pv 1) (pa_cons (pe_bltn (v := .ty "list") (by rfl) T.n_list (by decide +kernel) rfl) pa_nil))))) (pss_one (ps_ret pe_int)) pss_nil) (pss_cons (ps_set (i := 2) sc_first_wrong_move.nd rfl (by first | exact Or.inl rfl | exact Or.inr rfl) (pcall D_first_misfit hr (pa_cons (pv 0) (pa_cons (pv 1) pa_nil)))) (pss_one (ps_ret (pe_ifExp (pt_cmpR op_isN (pv 2) pe_non (nomark _)) (pcall D_first_clash hr (pa_cons (pv 0) (pa_cons (pv 1) pa_nil))) (pv 2)))))), ?_⟩)
  · obtain ⟨y, zp, bl, dx, ps, ns, n, bs, v, o, rfl, _⟩ := h
    rfl
  · obtain ⟨y, zp, bl, dx, ps, ns, n, bs, v, o, rfl, L, th, q1, q2⟩ := h
    cases th with
    | other an nl =>
      rcases an.ls (K := K) with ⟨t, xs, rfl, e⟩ | ⟨_, Ty, ty, k⟩
      · exact absurd e (nl t xs rfl)
      · exact ⟨_, rfl, _, _, _, _, _, rfl, .ty "list", ty, kit_ty k, _, rfl, iteT (q2 (fun z => z) 0 H (Same.refl H))⟩
    | @list a xs ms ha hm x1000 =>
      refine ⟨_, rfl, _, _, _, _, _, rfl, .ty "list", .base (.lst ha), kit_ty (show kitB "list" "list" = some true by decide +kernel), _, rfl, iteF ?_⟩
      refine ⟨_, rfl, _, rfl, y, zp, bl, dx, a, ps, ns, n, bs, xs, ms, rfl, L, ha, hm, fun H1 s1 hg => ?_, fun i H1 s1 hi hb => ?_⟩
      · obtain ⟨mm, em, Ft⟩ := fit_of hg
        subst em
        have wf := L.wf
        have gd := L.gd
        refine ⟨_, rfl, rfl, _, rfl, ifT (decide_eq_true rfl) ?_⟩
        refine ⟨_, rfl, _, rfl, y, zp, bl, dx, a, ps, ns, n, bs, xs, mm, rfl, L.same s1, s1 _ _ ha, hm.same s1, Ft, x1000, fun no H2 s2 => ?_, fun no p H2 s2 => ?_⟩
        · refine q1 ⟨hg, fun mm' e => ?_⟩ H2 (s1.trans s2)
          have e2 : mm = mm' := (List.map_inj_right (fun _ _ z => Option.some.inj z)).mp e
          rw [← e2]
          exact (law_iff wf gd Ft).mp no
        · exact q2 (fun z => no ((law_iff wf gd Ft).mpr (z.2 mm rfl))) p H2 (s1.trans s2)
      · refine ⟨_, rfl, rfl, _, rfl, ifF (decide_eq_false fun z => nomatch z) ⟨_, rfl, ?_⟩⟩
        exact q2 (fun z => hb (z.1 i hi)) i H1 s1
def spIsR (K : PySem.W.Frag) : Sp := fun vs H Q _ => ∃ (y zp bl dx : Addr) (ps : List Addr) (ns : List Int) (n : Int) (bs : List Blk) (v : V) (o : Option (List Mo)), vs = [.ref y, v] ∧ Ly K H y zp bl dx ps ns n bs ∧ Th H v o ∧ ∀ (b : Bool) H', (b = true ↔ OkR ns n bs o) → Same H H' → Q (.bl b) H'
end
end K35

set_option Elab.async false
set_option linter.all false
set_option maxRecDepth 100000
set_option maxHeartbeats 4000000
set_option pp.maxSteps 900
namespace K35
open PySem PySem.Spec PyProof.Rows L2 Gu Ex
structure MfD (P : Program) (w : World) (K : PySem.W.Frag) (mg : Str → Option Value) (base : Heap) (k : Nat) (c m : Str) (ps : List Str) (dvs : List V) (sp : Sp) : Prop where
  ex : ∃ fd ds, FnOk P w K mg base CX0 k (He.ma K (He.ga K c) m) fd ps sp ∧ Vals dvs ds ∧ Binds K fd ps ds
  cl : Cls K (He.ga K c)
  me : Meth K (He.ga K c) m (He.ma K (He.ga K c) m)
section
variable {X : Cx} {k j : Nat} {c m : Str} {ps : List Str} {dvs : List V} {sp : Sp} {o e : Expr} {es : List Expr} {ta : TE} {t : TA} {apos pos : Pos}
theorem pmethD {pl : Sem Bool} (D : MfD X.prog X.w X.K X.mg X.base k c m ps dvs sp) (hr : Room j X.A) (he : PE X o ta) (ha : PA X (e :: es) t) (hj : k ≤ j := by decide)
    (hst : starEach (e :: es) X.env = (false, eval e X.env) :: starEach es X.env := by rfl) (hpl : (backTo pos (starEach es X.env)).any (·.1) = false := by rfl)
    (ht : eval (.Call (.Attribute o m apos) (e :: es) [] pos) X.env = (do
      let ov ← eval o X.env
      standAt apos.atName
      let (f, first) ← holding [ov] (getMethod ov m pl)
      callWith pos f first (backTo pos (starEach (e :: es) X.env)) (backToKw pos (keywordEach [] X.env))) := by rfl) :
    PE X (.Call (.Attribute o m apos) (e :: es) [] pos) (tMeth (He.ga X.K c) m sp dvs E0 ta t) := by
  obtain ⟨fd, ds, F, v, b⟩ := D.ex
  exact pe_meth he D.cl D.me F (hr.mono hj) b v pass0 ha hst hpl ht
end
theorem Stp.same {r : Addr} {H H' : Hp} (hR : Rng H r) (s : Same H H') : Stp r H H' := ⟨by
  obtain ⟨x, y, e, z⟩ := hR
  exact ⟨x, y, s _ _ e, z⟩, fun b o _ e => s b o e⟩
theorem Rng.tup {r p : Addr} {H : Hp} {xs : List V} (h : Rng H r) (e : H p = some (.tup xs)) : p ≠ r := fun z => by
  obtain ⟨x, y, e2, _⟩ := h
  rw [z, e2] at e
  cases e
theorem Rng.lst {r p : Addr} {H : Hp} {qs : List Addr} (h : Rng H r) (e : H p = some (.lst (qs.map V.ref))) : p ≠ r := fun z => by
  obtain ⟨x, y, e2, _⟩ := h
  rw [z, e2] at e
  cases qs with
  | nil => cases e
  | cons q qs => cases e
theorem seq_nat {k n : Nat} (h : k < n) : seqIndex? (k : Int) n = some k := by
  unfold seqIndex?
  have h0 : ¬ ((k : Int) < 0) := by omega
  simp [h0, h]
theorem erase_perm {α : Type} : ∀ (zs : List α) (k : Nat) (h : k < zs.length), (zs[k] :: zs.eraseIdx k).Perm zs
  | x :: r, 0, _ => List.Perm.refl _
  | x :: r, k + 1, h => by
    have ih := erase_perm r k (Nat.lt_of_succ_lt_succ h)
    show (r[k]'(Nat.lt_of_succ_lt_succ h) :: x :: r.eraseIdx k).Perm (x :: r)
    exact (List.Perm.swap x _ _).trans (ih.cons x)
section
variable {P : Program} {w : World} {K : PySem.W.Frag} {mg : Str → Option Value} {base : Heap} {f : Addr} {fd : FuncData}
/-- a rearrangement of a list's items, as a new list -/
def spShuf : Sp := fun vs H Q _ => ∃ (r a : Addr) (xs : List V), vs = [.ref r, .ref a] ∧ Rng H r ∧ H a = some (.lst xs) ∧ a ≠ r ∧ xs.length ≤ 1000 ∧ ∀ l ys H', H l = none → Stp r H H' → H' l = some (.lst ys) → ys.Perm xs → Q (.ref l) H'
theorem sc__law_shuffled : FnScope ["_law_rng_here", "_law_values", "_law_pool", "_law_k"] ["_law_rng_here", "_law_values"] (defScope (top 46)) := ⟨rfl, rfl, rfl, by decide +kernel, rfl, by decide +kernel, by decide +kernel⟩
theorem ok_shuf (T : Tx K mg) (D__law_draw : Df P w K mg base 1 "_law_draw" ["_law_rng_here", "_law_many"] spDraw) (F : FnP K "_law_shuffled" "_law_shuffled" (top 46) f fd) : FnOk P w K mg base CX0 2 f fd ["_law_rng_here", "_law_values"] spShuf := by
  refine F.ok sc__law_shuffled (fun vs H Q E h => ?_) (fun cdv A outer s H vs Q E hr h => ⟨_, PSs.nox (pss_cons (ps_set (i := 2) sc__law_shuffled.nd rfl (by first | exact Or.inl rfl | exact Or.inr rfl) (pe_callTy call_list_of (by rfl) T.n_list (by decide +kernel) (pa_cons (pv 1) pa_nil))) (pss_one (ps_ret (pe_lc (own := [("_law_k", 3)]) (g := gName 3) rfl sc__law_shuffled.nd (pi_range1 rfl T.n_range (pa_cons (pe_callB call_len_seq (by rfl) T.n_len (by decide +kernel) (pa_cons (pv 1) pa_nil)) pa_nil)) (blkOk_by (own := [("_law_k", 3)]) (N := ["_law_rng_here", "_law_values", "_law_pool", "_law_k"]) (sc := defScope (top 46)) (by decide +kernel)) (fun _ _ _ _ _ => pg_name (i := 3) sc__law_shuffled.nd rfl (Or.inl rfl)) (fun _ _ _ _ _ => pts_nil) (fun _ _ _ _ _ => (pbmB K PySem.F.plainAttrs_list PySem.F.slot_list_pop PySem.F.type_list_pop mt_popAt (pv 2) (pa_cons (pcall D__law_draw hr (pa_cons (pv 0) (pa_cons (plenB K (by rfl) T.n_len (pa_cons (pv 2) pa_nil)) pa_nil))) pa_nil))))))), ?_⟩)
  · obtain ⟨r, a, xs, rfl, _⟩ := h
    rfl
  · obtain ⟨r, a, xs, rfl, hR, ha, nar, x1000, q⟩ := h
    have sl : sizeLine = 16777216 := sizeLine_eq
    have big : (10 : Int) ^ 40 = 10000000000000000000000000000000000000000 := by decide
    refine ⟨_, rfl, a, _, rfl, .inl (SqL.of ha), fun p hp => ?_⟩
    have t0 := (Stp.refl hR).new (o := .lst xs) hp
    have npr : p ≠ r := (hR.ne hp).symm
    have hp0 : (upd H p (.lst xs)) p = some (.lst xs) := upd_same
    have ha0 := t0.2 _ _ nar ha
    have pf : H p = none := hp
    generalize upd H p (.lst xs) = H0 at t0 hp0 ha0
    refine ⟨_, rfl, a, _, rfl, .inl (SqL.of ha0), _, rfl, by omega, by omega, fun D hD => ?_⟩
    have fD := t0.free hD
    have nDr : D ≠ r := (t0.1.ne hD).symm
    have nDp : D ≠ p := fun z => by
      rw [z, hp0] at hD
      cases hD
    refine lc_range (fun i G => ∃ ys zs : List V, ys.length = i ∧ G D = some (.lst ys) ∧ G p = some (.lst zs) ∧ (ys ++ zs).Perm xs ∧ Rng G r ∧ ∀ c o, c ≠ r → H c = some o → G c = some o) ⟨[], xs, rfl, upd_same, by rw [upd_ne nDp.symm]; exact hp0, List.Perm.refl _, (t0.new hD).1, fun c o nc ec => by
      rw [upd_ne (ne_of_none ec fD)]
      exact t0.2 c o nc ec⟩ ?_ ?_
    · rintro i G hi ⟨ys, zs, yl, hGD, hGp, pm, rg, kp⟩
      have pl := pm.length_eq
      rw [List.length_append] at pl
      have hi' : i < xs.length := by omega
      refine ⟨rfl, _, rfl, .inl ⟨rfl, _, SqL.of hGp⟩, _, rfl, _, rfl, p, _, rfl, .inl (SqL.of hGp), r, _, rfl, rg, by omega, by omega, fun d G1 d0 d1 t1 => ?_⟩
      obtain ⟨k, rfl⟩ : ∃ k : Nat, d = (k : Int) := ⟨d.toNat, by omega⟩
      have hk : k < zs.length := by omega
      have hp1 := t1.2 _ _ npr hGp
      have hD1 := t1.2 _ _ nDr hGD
      refine ⟨p, zs, k, k, zs[k], rfl, rfl, hp1, by omega, by omega, ?_, List.getElem?_eq_getElem hk, ?_⟩
      · exact seq_nat hk
      · have hD2 : (upd G1 p (.lst (zs.eraseIdx k))) D = some (.lst ys) := by
          rw [upd_ne nDp]
          exact hD1
        refine ⟨ys, hD2, by omega, ys ++ [zs[k]], zs.eraseIdx k, by rw [List.length_append, yl]; rfl, upd_same, by rw [upd_ne nDp.symm, upd_same], ?_, ?_, fun c o nc ec => ?_⟩
        · rw [List.append_assoc]
          refine List.Perm.trans (List.Perm.append_left ys ?_) pm
          rw [List.singleton_append]
          exact erase_perm zs k hk
        · obtain ⟨x, y, e, z⟩ := t1.1
          exact ⟨x, y, by rw [upd_ne nDr.symm, upd_ne npr.symm]; exact e, z⟩
        · rw [upd_ne (ne_of_none ec fD), upd_ne (ne_of_none ec pf)]
          exact t1.2 c o nc (kp c o nc ec)
    · rintro G ⟨ys, zs, yl, hGD, hGp, pm, rg, kp⟩
      have pl := pm.length_eq
      rw [List.length_append] at pl
      have z0 : zs = [] := List.eq_nil_of_length_eq_zero (by omega)
      subst z0
      rw [List.append_nil] at pm
      exact q D ys G fD ⟨rg, kp⟩ hGD pm
end
end K35

set_option Elab.async false
set_option linter.all false
set_option maxRecDepth 100000
set_option maxHeartbeats 4000000
set_option pp.maxSteps 900
namespace K35
open PySem PySem.Spec PyProof.Rows L2 Gu Ex
theorem ins_end {ns : List Int} {n : Int} {bs : List Blk} {i j : Nat} {b c : Blk} (w : Wf ns n bs) (g : Good ns) (hb : bs[i]? = some b) (h : Below (bs.take i) b.1 j) : insB (bs.take i) j c = bs.take i ++ [c] := by
  have il := (List.getElem?_eq_some_iff.mp hb).1
  have tl : (bs.take i).length = i := by rw [List.length_take]; omega
  have ej : j = (bs.take i).length := by
    refine Nat.le_antisymm h.1 ?_
    rcases Nat.lt_or_ge j (bs.take i).length with hl | hl
    · have e := List.getElem?_eq_getElem hl
      have e2 := e
      rw [List.getElem?_take_of_lt (by omega)] at e2
      have lt := (w.lt g e2 hb (by omega)).2
      exact absurd ((h.2 j _ e).mpr lt) (Nat.lt_irrefl _)
    · exact hl
  unfold insB
  rw [ej, List.take_length, List.drop_length, List.append_nil]
section
variable {P : Program} {w : World} {K : PySem.W.Frag} {mg : Str → Option Value} {base : Heap} {f : Addr} {fd : FuncData}
def spMadeL (K : PySem.W.Frag) : Sp := fun vs H Q _ => ∃ (s a : Addr) (ns : List Int) (n : Int) (qs : List Addr) (bs : List Blk), vs = [.ref s, .int n, .ref a] ∧ H s = some (.lst (ns.map V.int)) ∧ Good ns ∧ H a = some (.lst (qs.map V.ref)) ∧ Refs blkV H qs bs ∧ Wf ns n bs ∧ bs.length ≤ 100 ∧ 1 ≤ n ∧ n ≤ 1000000000000 ∧
  ∀ y zp bl dx dz l ps H', Same H H' → Ly K H' y zp bl dx ps ns n bs → H y = none → H bl = none → H' zp = some (.ins (He.ga K "Sizes") dz (szF l)) → H l = none → H' l = some (.lst (ns.map V.int)) → Q (.ref y) H'
theorem sc__law_made : FnScope ["_law_sizes_here", "_law_length", "_law_blocks_here", "_law_store", "_law_address", "_law_level", "_law_is_pinned"] ["_law_sizes_here", "_law_length", "_law_blocks_here"] (defScope (top 52)) := ⟨rfl, rfl, rfl, by decide +kernel, rfl, by decide +kernel, by decide +kernel⟩
theorem ok_made (T : Tx K mg) (D_Sizes : Kf P w K mg base 4 "Sizes" ["self", "values"] (spMade K)) (D_Layout : Kf P w K mg base 4 "Layout" ["self", "sizes", "length"] (spNew K)) (M_put_d : MfD P w K mg base 8 "Layout" "put" ["self", "level", "address", "pinned"] [.bl false] (spPut K)) (M_set_pinned : Mf P w K mg base 3 "Layout" "set_pinned" ["self", "address", "pinned"] (spPin K))
    (F : FnP K "_law_made" "_law_made" (top 52) f fd) : FnOk P w K mg base CX0 9 f fd ["_law_sizes_here", "_law_length", "_law_blocks_here"] (spMadeL K) := by
  refine F.ok sc__law_made (fun vs H Q E h => ?_) (fun cdv A outer s H vs Q E hr h => ⟨_, PSs.nox (pss_cons (ps_set (i := 3) sc__law_made.nd rfl (by first | exact Or.inl rfl | exact Or.inr rfl) (pmake D_Layout hr (pa_cons (pmake D_Sizes hr (pa_cons (pe_callTy call_list_of (by rfl) T.n_list (by decide +kernel) (pa_cons (pv 0) pa_nil)) pa_nil)) (pa_cons (pv 1) pa_nil)))) (pss_cons (ps_for PassesOwn.never rfl (pi_list (pv 2)) (pg_tup (by rfl) (pgs_cons (pg_name (i := 4) sc__law_made.nd rfl (by first | exact Or.inl rfl | exact Or.inr rfl)) (pgs_cons (pg_name (i := 5) sc__law_made.nd rfl (by first | exact Or.inl rfl | exact Or.inr rfl)) (pgs_cons (pg_name (i := 6) sc__law_made.nd rfl (by first | exact Or.inl rfl | exact Or.inr rfl)) pgs_nil)))) (pss_cons (ps_expr (pmethD M_put_d hr (pv 3) (pa_cons (pv 5) (pa_cons (pv 4) pa_nil)))) (pss_one (ps_expr (pmeth M_set_pinned hr (pv 3) (pa_cons (pv 4) (pa_cons (pv 6) pa_nil))))))) (pss_one (ps_ret (pv 3))))), ?_⟩)
  · obtain ⟨s, a, ns, n, qs, bs, rfl, _⟩ := h
    rfl
  · obtain ⟨s, a, ns, n, qs, bs, rfl, hs, g, ha, rf, wf, b100, n1, n2, q⟩ := h
    have ql := rf.len
    refine ⟨_, rfl, s, _, rfl, .inl (SqL.of hs), fun s2 hs2 => ?_⟩
    have k0 := same_upd (o := .lst (ns.map V.int)) hs2
    have e2 : (upd H s2 (.lst (ns.map V.int))) s2 = some (.lst (ns.map V.int)) := upd_same
    generalize upd H s2 (.lst (ns.map V.int)) = H0 at k0 e2
    intro x dz hx hdz ndz
    have e1 : (upd (upd H0 dz (.own x)) x (.ins (He.ga K "Sizes") dz [])) s2 = some (.lst (ns.map V.int)) := by
      rw [upd_ne (ne_of_none e2 hx), upd_ne (ne_of_none e2 hdz)]
      exact e2
    refine ⟨x, dz, s2, ns, rfl, upd_same, SqL.of e1, .base (.lst e1), g, fun l hl => ⟨rfl, ?_⟩⟩
    have nxl : x ≠ l := ne_of_none upd_same hl
    have ndl : dz ≠ l := fun z => by
      rw [← z, upd_ne ndz, upd_same] at hl
      cases hl
    have l0 : H0 l = none := by
      rw [upd_ne nxl.symm, upd_ne ndl.symm] at hl
      exact hl
    refine ⟨_, rfl, ?_⟩
    intro y dx hy hdx ndx
    have kp1 : ∀ {c : Addr} {o : HO}, H0 c = some o → (upd (upd (upd (upd H0 dz (.own x)) x (.ins (He.ga K "Sizes") dz [])) l (.lst (ns.map V.int))) x (.ins (He.ga K "Sizes") dz (szF l))) c = some o := fun {c o} e => by
      rw [upd_ne (ne_of_none e hx), upd_ne (ne_of_none e l0), upd_ne (ne_of_none e hx), upd_ne (ne_of_none e hdz)]
      exact e
    have hx1 : (upd (upd (upd (upd H0 dz (.own x)) x (.ins (He.ga K "Sizes") dz [])) l (.lst (ns.map V.int))) x (.ins (He.ga K "Sizes") dz (szF l))) x = some (.ins (He.ga K "Sizes") dz (szF l)) := upd_same
    have hl1 : (upd (upd (upd (upd H0 dz (.own x)) x (.ins (He.ga K "Sizes") dz [])) l (.lst (ns.map V.int))) x (.ins (He.ga K "Sizes") dz (szF l))) l = some (.lst (ns.map V.int)) := by rw [upd_ne nxl.symm, upd_same]
    have kp2 : ∀ {c : Addr} {o : HO}, (upd (upd (upd (upd H0 dz (.own x)) x (.ins (He.ga K "Sizes") dz [])) l (.lst (ns.map V.int))) x (.ins (He.ga K "Sizes") dz (szF l))) c = some o → (upd (upd (upd (upd (upd (upd H0 dz (.own x)) x (.ins (He.ga K "Sizes") dz [])) l (.lst (ns.map V.int))) x (.ins (He.ga K "Sizes") dz (szF l))) dx (.own y)) y (.ins (He.ga K "Layout") dx [])) c = some o := fun {c o} e => by
      rw [upd_ne (ne_of_none e hy), upd_ne (ne_of_none e hdx)]
      exact e
    have free : ∀ {c : Addr}, (upd (upd (upd (upd (upd (upd H0 dz (.own x)) x (.ins (He.ga K "Sizes") dz [])) l (.lst (ns.map V.int))) x (.ins (He.ga K "Sizes") dz (szF l))) dx (.own y)) y (.ins (He.ga K "Layout") dx [])) c = none → H0 c = none := fun {c} e => by
      cases e2 : H0 c with
      | none => rfl
      | some o =>
        exact nomatch (kp2 (kp1 e2)).symm.trans e
    have y0 : H0 y = none := by
      cases e2 : H0 y with
      | none => rfl
      | some o =>
        exact nomatch (kp1 e2).symm.trans hy
    refine ⟨y, x, dx, ns, n, rfl, upd_same, ⟨dz, l, kp2 hx1, kp2 hl1⟩, g, n1, n2, fun bl H' hbl keep L => ⟨rfl, ?_⟩⟩
    have bl0 := free hbl
    have sm0 : Same H0 H' := fun c o e => keep c o (ne_of_none e y0) (kp2 (kp1 e))
    have sm := k0.trans sm0
    have hx' : H' x = some (.ins (He.ga K "Sizes") dz (szF l)) := keep x _ (ne_of_none hx1 hy) (kp2 hx1)
    have hl' : H' l = some (.lst (ns.map V.int)) := keep l _ (ne_of_none hl1 hy) (kp2 hl1)
    have y00 := k0.free y0
    have bl00 := k0.free bl0
    have l00 := k0.free l0
    have nlb : l ≠ bl := ne_of_none (kp2 hl1) hbl
    refine ⟨_, rfl, a, rfl, ⟨_, SqL.of (sm _ _ ha)⟩, ?_⟩
    refine for_list (K := K) (a := a) (xs := qs.map V.ref) (fun i σ G => ∃ (ps : List Addr) (x4 x5 x6 : Option V), σ = [some (.ref s), some (.int n), some (.ref a), some (.ref y), x4, x5, x6] ∧ Same H G ∧ Ly K G y x bl dx ps ns n (bs.take i) ∧ G x = some (.ins (He.ga K "Sizes") dz (szF l)) ∧ G l = some (.lst (ns.map V.int))) ⟨[], none, none, none, rfl, sm, L, hx', hl'⟩ (fun i σ G _ ⟨_, _, _, _, _, sm, _⟩ => SqL.of (sm _ _ ha)) ?_ ?_
    · rintro i v σ G hv ⟨ps, x4, x5, x6, rfl, sm, L, hxG, hlG⟩
      obtain ⟨p, hp, rfl⟩ := ref_of hv
      obtain ⟨b, hb, hT⟩ := (rf.same sm).get hp
      have hT' : G p = some (.tup [.int b.1, .int (b.2.1 : Nat), .bl b.2.2]) := hT
      have bm := List.mem_of_getElem? hb
      have il := (List.getElem?_eq_some_iff.mp hb).1
      have bo := wf.ok b bm
      have z1 := (chain g).pos _ bo.1
      have nly : l ≠ y := fun z => by
        rw [z, L.at_] at hlG
        cases hlG
      refine ⟨p, _, rfl, .inl (.inl hT'), rfl, _, _, rfl, _, _, rfl, _, _, rfl, rfl, ?_⟩
      refine ⟨_, rfl, y, dx, _, rfl, L.at_, lay_nm (by decide +kernel), _, rfl, _, rfl, y, x, bl, dx, ps, ns, n, b.1, bs.take i, b.2.1, false, rfl, L, (by rw [List.length_take]; omega), bo.1, bo.2.1, Int.emod_eq_zero_of_dvd bo.2.2.1, bo.2.2.2, fun c hc => ?_, fun j ps' G' hbw L' bt => ?_⟩
      · obtain ⟨jj, hj, ej⟩ := mem_take_at hc
        exact .inl (wf.lt g ej hb hj).1
      · rw [ins_end wf g hb hbw] at L'
        obtain ⟨_, _, _, _, zy, zb, _, _, _⟩ := L.far
        have tl : (bs.take i).length = i := by rw [List.length_take]; omega
        have at_i : (bs.take i ++ [(b.1, b.2.1, false)])[i]? = some (b.1, b.2.1, false) := by
          rw [List.getElem?_append_right (by omega), tl, Nat.sub_self]
          rfl
        refine ⟨_, rfl, y, dx, _, rfl, L'.at_, lay_nm (by decide +kernel), _, rfl, _, rfl, y, x, bl, dx, ps', ns, n, b.1, _, i, _, b.2.2, rfl, L', at_i, rfl, fun ps2 G2 L2 bt2 => ?_⟩
        have e3 : pinB (bs.take i ++ [(b.1, b.2.1, false)]) i (b.1, b.2.1, false) b.2.2 = bs.take (i + 1) := by
          unfold pinB
          rw [take_at hb, List.set_append_right _ _ (by omega), tl, Nat.sub_self]
          rfl
        rw [e3] at L2
        have h1 := bt _ _ zy zb hxG
        exact ⟨ps2, _, _, _, rfl, fun c o e => bt2 c o (ne_of_none e y00) (ne_of_none e bl00) (bt c o (ne_of_none e y00) (ne_of_none e bl00) (sm c o e)), L2, bt2 _ _ zy zb h1, bt2 _ _ nly nlb (bt _ _ nly nlb hlG)⟩
    · rintro σ G ⟨ps, x4, x5, x6, rfl, sm, L, hxG, hlG⟩
      rw [List.length_map, ql, List.take_length] at L
      exact ⟨_, rfl, q y x bl dx dz l ps G sm L y00 bl00 hxG l00 hlG⟩
end
end K35

set_option Elab.async false
set_option linter.all false
set_option maxRecDepth 100000
set_option maxHeartbeats 4000000
set_option pp.maxSteps 900
namespace K35
open PySem PySem.Spec PyProof.Rows L2 Gu Ex
structure Lb (ns : List Int) (n : Int) (H : Hp) (s a : Addr) (qs : List Addr) (bs : List Blk) : Prop where
  hs : H s = some (.lst (ns.map V.int))
  ha : H a = some (.lst (qs.map V.ref))
  rf : Refs blkV H qs bs
  wf : Wf ns n bs
  gd : Good ns
  n1 : 1 ≤ n
  n2 : n ≤ 1000000000000
  ln : bs.length ≤ 16
theorem Lb.same {ns : List Int} {n : Int} {H H' : Hp} {s a : Addr} {qs : List Addr} {bs : List Blk} (h : Lb ns n H s a qs bs) (sm : Same H H') : Lb ns n H' s a qs bs := ⟨sm _ _ h.hs, sm _ _ h.ha, h.rf.same sm, h.wf, h.gd, h.n1, h.n2, h.ln⟩
theorem Lb.step {ns : List Int} {n : Int} {H H' : Hp} {r s a : Addr} {qs : List Addr} {bs : List Blk} (h : Lb ns n H s a qs bs) (R : Rng H r) (sr : s ≠ r) (t : Stp r H H') : Lb ns n H' s a qs bs :=
  ⟨t.2 _ _ sr h.hs, t.2 _ _ (R.lst h.ha) h.ha, h.rf.mono fun p xs e => t.2 p _ (R.tup e) e, h.wf, h.gd, h.n1, h.n2, h.ln⟩
theorem of_mem {xs : List Int} {lo hi : Int} {v : V} (h : v ∈ xs.map V.int) (b : ∀ x ∈ xs, lo ≤ x ∧ x ≤ hi) : ∃ c : Int, v = .int c ∧ lo ≤ c ∧ c ≤ hi := by
  obtain ⟨c, hc, rfl⟩ := List.mem_map.mp h
  exact ⟨c, rfl, (b c hc).1, (b c hc).2⟩
section
variable {P : Program} {w : World} {K : PySem.W.Frag} {mg : Str → Option Value} {base : Heap} {f : Addr} {fd : FuncData}
def spMem : Sp := fun vs H Q _ => ∃ r : Addr, vs = [.ref r] ∧ Rng H r ∧ ∀ t s a ns n qs bs H', Stp r H H' → H' t = some (.tup [.ref s, .int n, .ref a]) → Lb ns n H' s a qs bs → s ≠ r → H s = none → H a = none → Q (.ref t) H'
theorem sc__law_memory : FnScope ["_law_rng_here", "_law_way", "_law_sizes_here", "_law_length"] ["_law_rng_here"] (defScope (top 53)) := ⟨rfl, rfl, rfl, by decide +kernel, rfl, by decide +kernel, by decide +kernel⟩
theorem ok_mem (T : Tx K mg) (D__law_draw : Df P w K mg base 1 "_law_draw" ["_law_rng_here", "_law_many"] spDraw) (D__law_sizes : Df P w K mg base 2 "_law_sizes" ["_law_rng_here", "_law_levels", "_law_greatest"] spSizes) (D__law_blocks : Df P w K mg base 2 "_law_blocks" ["_law_rng_here", "_law_sizes_here", "_law_length", "_law_many", "_law_pinned"] spBlocks)
    (F : FnP K "_law_memory" "_law_memory" (top 53) f fd) : FnOk P w K mg base CX0 3 f fd ["_law_rng_here"] spMem := by
  refine F.ok sc__law_memory (fun vs H Q E h => ?_) (fun cdv A outer s H vs Q E hr h => ⟨_, PSs.nox (pss_cons (ps_set (i := 1) sc__law_memory.nd rfl (by first | exact Or.inl rfl | exact Or.inr rfl) (pcall D__law_draw hr (pa_cons (pv 0) (pa_cons pe_int pa_nil)))) (pss_cons (ps_set (i := 2) sc__law_memory.nd rfl (by first | exact Or.inl rfl | exact Or.inr rfl) (pcall D__law_sizes hr (pa_cons (pv 0) (pa_cons (pe_ix ix_list (pe_lst (pa_cons pe_int (pa_cons pe_int (pa_cons pe_int (pa_cons pe_int pa_nil))))) (pv 1) (fun _ _ => rfl)) (pa_cons (pe_ix ix_list (pe_lst (pa_cons pe_int (pa_cons pe_int (pa_cons pe_int (pa_cons pe_int pa_nil))))) (pv 1) (fun _ _ => rfl)) pa_nil))))) (pss_cons (ps_set (i := 3) sc__law_memory.nd rfl (by first | exact Or.inl rfl | exact Or.inr rfl) (pe_op op_add pe_int (pcall D__law_draw hr (pa_cons (pv 0) (pa_cons (pe_ix ix_list (pe_lst (pa_cons pe_int (pa_cons pe_int (pa_cons pe_int (pa_cons (pe_op op_pow pe_int pe_int) pa_nil))))) (pv 1) (fun _ _ => rfl)) pa_nil))))) (pss_one (ps_ret (pe_tup (pa_cons (pv 2) (pa_cons (pv 3) (pa_cons (pcall D__law_blocks hr (pa_cons (pv 0) (pa_cons (pv 2) (pa_cons (pv 3) (pa_cons (pe_ix ix_list (pe_lst (pa_cons pe_int (pa_cons pe_int (pa_cons pe_int (pa_cons pe_int pa_nil))))) (pv 1) (fun _ _ => rfl)) (pa_cons (pe_ix ix_list (pe_lst (pa_cons pe_int (pa_cons pe_int pa_nil))) (pcall D__law_draw hr (pa_cons (pv 0) (pa_cons pe_int pa_nil))) (fun _ _ => rfl)) pa_nil)))))) pa_nil))))))))), ?_⟩)
  · obtain ⟨r, rfl, _⟩ := h
    rfl
  · obtain ⟨r, rfl, hR, q⟩ := h
    have big : (10 : Int) ^ 40 = 10000000000000000000000000000000000000000 := by decide
    have e12 : (10 : Int) ^ (12 : Int).toNat = 1000000000000 := by decide
    have pw12 : CPow 10 12 := ⟨by decide, by decide, by decide⟩
    have four : 4 ≤ sizeLine := by decide
    refine ⟨_, rfl, r, 4, rfl, hR, by decide, by omega, fun d H1 d0 d1 t1 => ?_⟩
    refine ⟨_, rfl, four, fun p1 h1 => ?_⟩
    have t2 := t1.new (o := .lst [.int 4, .int 5, .int 4, .int 8]) h1
    obtain ⟨v1, a1, m1⟩ := at_of (xs := ([4, 5, 4, 8] : List Int).map V.int) d0 d1
    obtain ⟨lv, rfl, lv1, lv2⟩ := of_mem (lo := 1) (hi := 8) m1 (by decide)
    refine ⟨_, rfl, p1, _, _, _, rfl, rfl, SqL.of upd_same, a1, four, fun p2 h2 => ?_⟩
    have t3 := t2.new (o := .lst [.int 3, .int 4, .int 3, .int 50]) h2
    obtain ⟨v2, a2, m2⟩ := at_of (xs := ([3, 4, 3, 50] : List Int).map V.int) d0 d1
    obtain ⟨gr, rfl, gr1, gr2⟩ := of_mem (lo := 2) (hi := 1000000) m2 (by decide)
    refine ⟨_, rfl, p2, _, _, _, rfl, rfl, SqL.of upd_same, a2, r, lv, gr, rfl, t3.1, lv1, lv2, gr1, gr2, fun s ns H3 gd hs0 hs t4 => ?_⟩
    have t5 := t3.trans t4
    have sr : s ≠ r := (t3.1.ne hs0).symm
    have s00 := t3.free hs0
    refine ⟨_, rfl, _, _, rfl, rfl, pw12, four, fun p3 h3 => ?_⟩
    rw [e12] at *
    have t6 := t5.new (o := .lst [.int 14, .int 300, .int 40, .int 1000000000000]) h3
    obtain ⟨v3, a3, m3⟩ := at_of (xs := ([14, 300, 40, 1000000000000] : List Int).map V.int) d0 d1
    obtain ⟨len, rfl, len1, len2⟩ := of_mem (lo := 1) (hi := 1000000000000) m3 (by decide)
    refine ⟨_, rfl, p3, _, _, _, rfl, rfl, SqL.of upd_same, a3, r, len, rfl, t6.1, len1, by omega, fun d2 H4 e0 e1 t7 => ?_⟩
    have t8 := t6.trans t7
    have t68 := ((Stp.refl t5.1).new (o := .lst [.int 14, .int 300, .int 40, .int 1000000000000]) h3).trans t7
    have hs4 := t68.2 _ _ sr hs
    refine ⟨_, _, rfl, rfl, _, rfl, _, rfl, _, rfl, _, rfl, _, rfl, four, fun p4 h4 => ?_⟩
    have t9 := t8.new (o := .lst [.int 8, .int 16, .int 12, .int 12]) h4
    have u9 := (Stp.refl t8.1).new (o := .lst [.int 8, .int 16, .int 12, .int 12]) h4
    obtain ⟨v4, a4, m4⟩ := at_of (xs := ([8, 16, 12, 12] : List Int).map V.int) d0 d1
    obtain ⟨many, rfl, many1, many2⟩ := of_mem (lo := 0) (hi := 16) m4 (by decide)
    refine ⟨_, rfl, p4, _, _, _, rfl, rfl, SqL.of upd_same, a4, (by show 2 ≤ sizeLine; decide), fun p5 h5 => ?_⟩
    have t10 := t9.new (o := .lst [.int 0, .int 4]) h5
    have u10 := u9.new (o := .lst [.int 0, .int 4]) h5
    have n5 : p5 ≠ r := (t9.1.ne h5).symm
    refine ⟨_, rfl, r, 2, rfl, t10.1, by decide, by omega, fun d3 H5 f0 f1 t11 => ?_⟩
    have t12 := t10.trans t11
    have hs5 := (u10.trans t11).2 _ _ sr hs4
    have h5' : H5 p5 = some (.lst [.int 0, .int 4]) := t11.2 _ _ n5 upd_same
    obtain ⟨v5, a5, m5⟩ := at_of (xs := ([0, 4] : List Int).map V.int) f0 f1
    obtain ⟨one, rfl, one1, one2⟩ := of_mem (lo := 0) (hi := 100) m5 (by decide)
    refine ⟨p5, _, _, _, rfl, rfl, SqL.of h5', a5, r, s, ns, 1 + d2, many, one, rfl, t12.1, hs5, sr, gd, by omega, by omega, many1, by omega, one1, one2, fun a qs bs H6 ha0 t13 ha6 rf6 wf6 bl6 => ?_⟩
    have t14 := t12.trans t13
    refine ⟨(by show 3 ≤ sizeLine; decide), fun t ht => ?_⟩
    have x7 := same_upd (o := .tup [.ref s, .int (1 + d2), .ref a]) ht
    exact q t s a ns (1 + d2) qs bs _ (t14.new ht) upd_same ⟨x7 _ _ (t13.2 _ _ sr hs5), x7 _ _ ha6, rf6.same x7, wf6, gd, by omega, by omega, by omega⟩ sr s00 (t12.free ha0)
end
end K35

set_option Elab.async false
set_option linter.all false
set_option maxRecDepth 100000
set_option maxHeartbeats 4000000
set_option pp.maxSteps 900
namespace K35
open PySem PySem.Spec PyProof.Rows L2 Gu Ex
theorem u65 {k : Nat} {A : Around} (h : Room k A) : A.units + 65 < cLine := by
  have := h.un
  omega
theorem cut_map {α β : Type} (f : α → β) (xs : List α) (a b : Nat) : ((xs.map f).drop a).take b = ((xs.drop a).take b).map f := by
  rw [← List.map_drop, ← List.map_take]
/-- refs to blocks of bs -/
theorem refs_perm {G : Hp} {qs : List Addr} {cs : List Blk} (h : Refs blkV G qs cs) {ys : List V} (p : ys.Perm (qs.map V.ref)) : ∃ qs' cs', ys = qs'.map V.ref ∧ Refs blkV G qs' cs' ∧ (∀ c ∈ cs', c ∈ cs) ∧ cs'.length = cs.length := by
  obtain ⟨e1, e2⟩ := h.bk
  obtain ⟨qs', rfl⟩ := refs_of (zs := ys) fun v hv => by
    obtain ⟨t, _, rfl⟩ := List.mem_map.mp (p.mem_iff.mp hv)
    exact ⟨t, rfl⟩
  have sub : ∀ t ∈ qs', t ∈ qs := fun t ht => by
    obtain ⟨t', h', e⟩ := List.mem_map.mp (p.mem_iff.mp (List.mem_map.mpr ⟨t, ht, rfl⟩))
    cases e
    exact h'
  refine ⟨qs', _, rfl, Refs.of_bk fun t ht => e2 t (sub t ht), fun c hc => ?_, ?_⟩
  · obtain ⟨t, ht, rfl⟩ := List.mem_map.mp hc
    rw [e1]
    exact List.mem_map.mpr ⟨t, sub t ht, rfl⟩
  · have := p.length_eq
    rw [List.length_map, List.length_map] at this
    rw [List.length_map, this, h.len]
section
variable {P : Program} {w : World} {K : PySem.W.Frag} {mg : Str → Option Value} {base : Heap} {f : Addr} {fd : FuncData}
def spMoves : Sp := fun vs H Q _ => ∃ (r s a : Addr) (ns : List Int) (n : Int) (qs : List Addr) (bs : List Blk), vs = [.ref r, .ref s, .int n, .ref a] ∧ Rng H r ∧ Lb ns n H s a qs bs ∧ s ≠ r ∧
  ∀ l (ps : List Addr) (mm : List (Int × Int)) H', H l = none → Stp r H H' → H' l = some (.lst (ps.map V.ref)) → Refs prV H' ps mm → (∀ m ∈ mm, (0 ≤ m.1 ∧ m.1 ≤ 1000000000000) ∧ 0 ≤ m.2 ∧ m.2 ≤ 1000000000000) → mm.length ≤ 16 → Q (.ref l) H'
theorem sc__law_moves : FnScope ["_law_rng_here", "_law_sizes_here", "_law_length", "_law_blocks_here", "_law_moved", "_law_now", "_law_found", "_law_address", "_law_level", "_law_is_pinned", "_law_places", "_law_rest", "_law_place", "_law_one", "_law_turn"] ["_law_rng_here", "_law_sizes_here", "_law_length", "_law_blocks_here"] (defScope (top 54)) := ⟨rfl, rfl, rfl, by decide +kernel, rfl, by decide +kernel, by decide +kernel⟩
theorem ok_moves (T : Tx K mg) (D__law_draw : Df P w K mg base 1 "_law_draw" ["_law_rng_here", "_law_many"] spDraw) (D__law_shuffled : Df P w K mg base 2 "_law_shuffled" ["_law_rng_here", "_law_values"] spShuf) (D__law_has_space : Df P w K mg base 1 "_law_has_space" ["_law_sizes_here", "_law_length", "_law_blocks_here", "_law_level", "_law_address"] spSpace)
    (F : FnP K "_law_moves" "_law_moves" (top 54) f fd) : FnOk P w K mg base CX0 3 f fd ["_law_rng_here", "_law_sizes_here", "_law_length", "_law_blocks_here"] spMoves := by
  refine F.ok sc__law_moves (fun vs H Q E h => ?_) (fun cdv A outer s H vs Q E hr h => ⟨_, PSs.nox (pss_cons (ps_set (i := 4) sc__law_moves.nd rfl (by first | exact Or.inl rfl | exact Or.inr rfl) (pe_slice sl_list (pcall D__law_shuffled hr (pa_cons (pv 0) (pa_cons (pe_lc (own := [("_law_one", 13)]) (g := gName 13) rfl sc__law_moves.nd (pi_list (pv 3)) (blkOk_by (own := [("_law_one", 13)]) (N := ["_law_rng_here", "_law_sizes_here", "_law_length", "_law_blocks_here", "_law_moved", "_law_now", "_law_found", "_law_address", "_law_level", "_law_is_pinned", "_law_places", "_law_rest", "_law_place", "_law_one", "_law_turn"]) (sc := defScope (top 54)) (by decide +kernel)) (fun _ _ _ _ _ => pg_name (i := 13) sc__law_moves.nd rfl (Or.inl rfl)) (fun _ _ _ _ _ => (pts_one (pt_not (pt_val (pe_ix (r := rIxT K) ix_tup (pv 13) pe_int (fun _ _ => rfl)))))) (fun _ _ _ _ _ => (pv 13))) pa_nil))) po_none (po_some (pcall D__law_draw hr (pa_cons (pv 0) (pa_cons pe_int pa_nil)))))) (pss_cons (ps_asg (pe_tup (pa_cons (pe_lc (own := [("_law_one", 13)]) (g := gName 13) rfl sc__law_moves.nd (pi_list (pv 3)) (blkOk_by (own := [("_law_one", 13)]) (N := ["_law_rng_here", "_law_sizes_here", "_law_length", "_law_blocks_here", "_law_moved", "_law_now", "_law_found", "_law_address", "_law_level", "_law_is_pinned", "_law_places", "_law_rest", "_law_place", "_law_one", "_law_turn"]) (sc := defScope (top 54)) (by decide +kernel)) (fun _ _ _ _ _ => pg_name (i := 13) sc__law_moves.nd rfl (Or.inl rfl)) (fun _ _ _ _ _ => (pts_one (pt_cmpR (r := rNotInD K) (op_notInD (u65 hr)) (pv 13) (pv 4) rfl))) (fun _ _ _ _ _ => (pv 13))) (pa_cons (pe_lst pa_nil) pa_nil))) (pg_tup (by rfl) (pgs_cons (pg_name (i := 5) sc__law_moves.nd rfl (by first | exact Or.inl rfl | exact Or.inr rfl)) (pgs_cons (pg_name (i := 6) sc__law_moves.nd rfl (by first | exact Or.inl rfl | exact Or.inr rfl)) pgs_nil)))) (pss_cons (ps_for PassesOwn.never rfl (pi_list (pv 4)) (pg_tup (by rfl) (pgs_cons (pg_name (i := 7) sc__law_moves.nd rfl (by first | exact Or.inl rfl | exact Or.inr rfl)) (pgs_cons (pg_name (i := 8) sc__law_moves.nd rfl (by first | exact Or.inl rfl | exact Or.inr rfl)) (pgs_cons (pg_name (i := 9) sc__law_moves.nd rfl (by first | exact Or.inl rfl | exact Or.inr rfl)) pgs_nil)))) (pss_cons (ps_setLc (i := 10) (own := [("_law_one", 13)]) (g := gName 13) rfl sc__law_moves.nd rfl rfl (sw_true rfl rfl rfl (by decide +kernel)) (pi_list (pv 4)) (blkOk_by (own := [("_law_one", 13)]) (N := ["_law_rng_here", "_law_sizes_here", "_law_length", "_law_blocks_here", "_law_moved", "_law_now", "_law_found", "_law_address", "_law_level", "_law_is_pinned", "_law_places", "_law_rest", "_law_place", "_law_one", "_law_turn"]) (sc := defScope (top 54)) (by decide +kernel)) (fun _ _ _ _ _ => pg_name (i := 13) sc__law_moves.nd rfl (Or.inl rfl)) (fun _ _ _ _ _ => (pts_one (PW.pt (pw_and (pt_cmpR op_eq (pe_ix (r := rIxT K) ix_tup (pv 13) pe_int (fun _ _ => rfl)) (pv 8) (nomark _)) (pw_and1 (pt_cmpR op_ne (pe_ix (r := rIxT K) ix_tup (pv 13) pe_int (fun _ _ => rfl)) (pv 7) (nomark _))))))) (fun _ _ _ _ _ => (pe_ix (r := rIxT K) ix_tup (pv 13) pe_int (fun _ _ => rfl)))) (pss_cons (ps_set (i := 10) sc__law_moves.nd rfl (by first | exact Or.inl rfl | exact Or.inr rfl) (pe_op op_cat (pv 10) (pe_lc (own := [("_law_turn", 14)]) (g := gName 14) rfl sc__law_moves.nd (pi_range1 rfl T.n_range (pa_cons pe_int pa_nil)) (blkOk_by (own := [("_law_turn", 14)]) (N := ["_law_rng_here", "_law_sizes_here", "_law_length", "_law_blocks_here", "_law_moved", "_law_now", "_law_found", "_law_address", "_law_level", "_law_is_pinned", "_law_places", "_law_rest", "_law_place", "_law_one", "_law_turn"]) (sc := defScope (top 54)) (by decide +kernel)) (fun _ _ _ _ _ => pg_name (i := 14) sc__law_moves.nd rfl (Or.inl rfl)) (fun _ _ _ _ _ => pts_nil) (fun _ _ _ _ _ => (pe_op op_mul (pcall D__law_draw hr (pa_cons (pv 0) (pa_cons (pe_op op_fdivW (pv 2) (pe_ix (r := rIxL K) ix_list (pv 1) (pv 8) (fun _ _ => rfl))) pa_nil))) (pe_ix (r := rIxL K) ix_list (pv 1) (pv 8) (fun _ _ => rfl))))))) (pss_cons (ps_setLc (i := 11) (own := [("_law_place", 12)]) (g := gName 12) rfl sc__law_moves.nd rfl rfl (sw_true rfl rfl rfl (by decide +kernel)) (pi_list (pv 10)) (blkOk_by (own := [("_law_place", 12)]) (N := ["_law_rng_here", "_law_sizes_here", "_law_length", "_law_blocks_here", "_law_moved", "_law_now", "_law_found", "_law_address", "_law_level", "_law_is_pinned", "_law_places", "_law_rest", "_law_place", "_law_one", "_law_turn"]) (sc := defScope (top 54)) (by decide +kernel)) (fun _ _ _ _ _ => pg_name (i := 12) sc__law_moves.nd rfl (Or.inl rfl)) (fun _ _ _ _ _ => (pts_one (pt_val (pcall D__law_has_space hr (pa_cons (pv 1) (pa_cons (pv 2) (pa_cons (pv 5) (pa_cons (pv 8) (pa_cons (pv 12) pa_nil))))))))) (fun _ _ _ _ _ => (pv 12))) (pss_cons (ps_set (i := 12) sc__law_moves.nd rfl (by first | exact Or.inl rfl | exact Or.inr rfl) (pe_ifExp (PW.pt (pw_and (pt_cmpR (op_neD hr.units) (pv 11) (pe_lst pa_nil) (nomark _)) (pw_and1 (pt_cmpR op_gt (pcall D__law_draw hr (pa_cons (pv 0) (pa_cons pe_int pa_nil))) pe_int (nomark _))))) (pe_ix ix_list (pv 11) pe_int (fun _ _ => rfl)) (pe_ix ix_list (pv 10) (pe_un un_neg pe_int) (fun _ _ => rfl)))) (pss_cons (ps_if (pt_cmpR op_ne (pv 12) (pv 7) (nomark _)) (pss_one (ps_expr (pe_bm PySem.F.plainAttrs_list PySem.F.slot_list_append PySem.F.type_list_append mt_append (pv 6) (pa_cons (pe_tup (pa_cons (pv 7) (pa_cons (pv 12) pa_nil))) pa_nil)))) pss_nil) (pss_one (ps_expr (pe_bm PySem.F.plainAttrs_list PySem.F.slot_list_append PySem.F.type_list_append mt_append (pv 5) (pa_cons (pe_tup (pa_cons (pv 12) (pa_cons (pv 8) (pa_cons pe_bl pa_nil)))) pa_nil)))))))))) (pss_one (ps_ret (pv 6)))))), ?_⟩)
  · obtain ⟨r, s, a, ns, n, qs, bs, rfl, _⟩ := h
    rfl
  · obtain ⟨r, s, a, ns, n, qs, bs, rfl, hR, B, sr, q⟩ := h
    have sl : sizeLine = 16777216 := sizeLine_eq
    have big : (10 : Int) ^ 40 = 10000000000000000000000000000000000000000 := by decide
    have pl := B.rf.len
    have bl := B.ln
    have n1 := B.n1
    have n2 := B.n2
    have wf := B.wf
    have gd := B.gd
    refine ⟨_, rfl, _, rfl, a, rfl, ⟨_, SqL.of B.ha⟩, fun D hD => ?_⟩
    refine lc_list (K := K) (a := a) (xs := qs.map V.ref) (fun i G => ∃ ps', G D = some (.lst (ps'.map V.ref)) ∧ Refs blkV G ps' ((bs.take i).filter fun b => !b.2.2) ∧ Same H G) ⟨[], upd_same, .nil, same_upd hD⟩ (fun i G _ ⟨_, _, _, sm⟩ => SqL.of (sm _ _ B.ha)) ?_ ?_
    · rintro i x G hx ⟨ps', hG, rf', sm⟩
      obtain ⟨p, hp, rfl⟩ := ref_of hx
      obtain ⟨b, hb, hT⟩ := (B.rf.same sm).get hp
      have hT' : G p = some (.tup [.int b.1, .int (b.2.1 : Nat), .bl b.2.2]) := hT
      have il := (List.getElem?_eq_some_iff.mp hb).1
      have fa := filter_at (fun b => !b.2.2) hb
      have fl := List.length_filter_le (fun b : Blk => !b.2.2) (bs.take i)
      rw [List.length_take] at fl
      have ql := rf'.len
      refine ⟨rfl, _, rfl, p, _, _, _, rfl, rfl, .inl (.inl hT'), rfl, _, rfl, ?_⟩
      cases hq : b.2.2 with
      | true =>
        rw [hq] at fa
        refine iteF ⟨ps', hG, ?_, sm⟩
        rw [fa]
        simpa using rf'
      | false =>
        rw [hq] at fa
        refine iteT ⟨_, rfl, _, hG, (by rw [List.length_map]; omega), ps' ++ [p], by rw [upd_same, List.map_append]; rfl, ?_, fun c o e => ?_⟩
        · rw [fa]
          refine ((rf'.app (Refs.one hT)).mono fun c zs ec => ?_)
          rw [upd_ne (fun z => by rw [z, hG] at ec; cases ec)]
          exact ec
        · rw [upd_ne (ne_of_none e hD)]
          exact sm c o e
    rintro G1 ⟨ps1, hG1, rf1, s1⟩
    rw [List.length_map, pl, List.take_length] at rf1
    have t1 := Stp.same hR s1
    have nD := (hR.ne hD).symm
    have fl1 := List.length_filter_le (fun b : Blk => !b.2.2) bs
    have l1 := rf1.len
    refine ⟨r, D, _, rfl, t1.1, hG1, nD, (by rw [List.length_map]; omega), fun l2 ys G2 hl2 t2 hG2 pm => ?_⟩
    have rf1' : Refs blkV G2 ps1 (bs.filter fun b => !b.2.2) := rf1.mono fun p xs e => t2.2 p _ (t1.1.tup e) e
    obtain ⟨qs2, cs2, rfl, rf2, sub2, len2⟩ := refs_perm rf1' pm
    refine ⟨_, rfl, r, 5, rfl, t2.1, by decide, by omega, fun d G3 d0 d1 t3 => ?_⟩
    have t13 := (t1.trans t2).trans t3
    have nl2 : l2 ≠ r := (t1.1.ne hl2).symm
    have hl3 := t3.2 _ _ nl2 hG2
    have rf3 : Refs blkV G3 qs2 cs2 := rf2.mono fun p xs e => t3.2 p _ (t2.1.tup e) e
    refine ⟨_, rfl, l2, _, rfl, SqL.of hl3, fun M hM => ?_⟩
    obtain ⟨j1, j2, ecut⟩ : ∃ j1 j2, cutV (qs2.map V.ref) none (some d) = ((qs2.drop j1).take j2).map V.ref := ⟨_, _, cut_map ..⟩
    have t4 := t13.new (o := .lst (cutV (qs2.map V.ref) none (some d))) hM
    have s4 := same_upd (o := .lst (cutV (qs2.map V.ref) none (some d))) hM
    have hM4 : (upd G3 M (.lst (cutV (qs2.map V.ref) none (some d)))) M = some (.lst (((qs2.drop j1).take j2).map V.ref)) := by rw [upd_same, ecut]
    have rfM : Refs blkV (upd G3 M (.lst (cutV (qs2.map V.ref) none (some d)))) ((qs2.drop j1).take j2) ((cs2.drop j1).take j2) := ((rf3.drop j1).take j2).same s4
    have subM : ∀ c ∈ (cs2.drop j1).take j2, c ∈ bs := fun c hc => (List.mem_filter.mp (sub2 c (List.mem_of_mem_drop (List.mem_of_mem_take hc)))).1
    have lenM : ((cs2.drop j1).take j2).length ≤ 16 := by
      rw [List.length_take, List.length_drop]
      omega
    have nM : M ≠ r := (t13.1.ne hM).symm
    have fM := t13.free hM
    generalize upd G3 M (.lst (cutV (qs2.map V.ref) none (some d))) = G4 at t4 s4 hM4 rfM
    generalize (qs2.drop j1).take j2 = mq at hM4 rfM
    generalize (cs2.drop j1).take j2 = mc at rfM subM lenM
    have B4 := B.step hR sr t4
    have mql := rfM.len
    refine ⟨_, rfl, a, rfl, ⟨_, SqL.of B4.ha⟩, fun D2 hD2 => ?_⟩
    refine lc_list (K := K) (a := a) (xs := qs.map V.ref) (fun i G => ∃ ps' cs, G D2 = some (.lst (ps'.map V.ref)) ∧ Refs blkV G ps' cs ∧ (∀ c ∈ cs, c ∈ bs) ∧ cs.length ≤ i ∧ Same G4 G) ⟨[], [], upd_same, .nil, (fun _ z => nomatch z), Nat.le_refl _, same_upd hD2⟩ (fun i G _ ⟨_, _, _, _, _, _, sm⟩ => SqL.of (sm _ _ B4.ha)) ?_ ?_
    · rintro i x G hx ⟨ps', cs, hG, rf', sub', len', sm⟩
      obtain ⟨p, hp, rfl⟩ := ref_of hx
      obtain ⟨b, hb, hT⟩ := (B4.rf.same sm).get hp
      have il := (List.getElem?_eq_some_iff.mp hb).1
      have ql := rf'.len
      have dpB : Dp K G (.ref p) (blkD b) := .tup (SqT.of hT) (.cons (.int _) (.cons (.int _) (.cons (.bl _) .nil)))
      have dpM : Dp K G (.ref M) (.list (mc.map blkD)) := .lst (SqL.of (sm _ _ hM4)) (rfM.same sm).dp
      refine ⟨rfl, _, rfl, _, rfl, blkD b, mc.map blkD, dpB, dpM, rfl, shaped_blk _, _, rfl, ?_⟩
      generalize (!(mc.map blkD).any fun z => PyData.eqv z (blkD b)) = tt
      cases tt with
      | false => exact iteF ⟨ps', cs, hG, rf', sub', by omega, sm⟩
      | true =>
        refine iteT ⟨_, rfl, _, hG, (by rw [List.length_map]; omega), ps' ++ [p], cs ++ [b], by rw [upd_same, List.map_append]; rfl, ?_, fun c hc => ?_, by rw [List.length_append, List.length_singleton]; omega, fun c o e => ?_⟩
        · refine ((rf'.app (Refs.one hT)).mono fun c zs ec => ?_)
          rw [upd_ne (fun z => by rw [z, hG] at ec; cases ec)]
          exact ec
        · rcases List.mem_append.mp hc with z | z
          · exact sub' c z
          · rw [List.mem_singleton.mp z]
            exact List.mem_of_getElem? hb
        · rw [upd_ne (ne_of_none e hD2)]
          exact sm c o e
    rintro G5 ⟨pn, cn, hN5, rfN5, subN, lenN, s5⟩
    rw [List.length_map] at lenN
    have fD2 := t4.free hD2
    have nD2 : D2 ≠ r := (t4.1.ne hD2).symm
    have nD2M : D2 ≠ M := (ne_of_none hM4 hD2).symm
    refine ⟨(by show 0 ≤ sizeLine; decide), fun F hF => ?_⟩
    have s6 := s5.trans (same_upd (o := .lst []) hF)
    have s6' := same_upd (o := .lst []) hF
    have hF6 : (upd G5 F (.lst [])) F = some (.lst (([] : List Addr).map V.ref)) := upd_same
    have fF := t4.free (s5.free hF)
    have nFr : F ≠ r := (t4.1.ne (s5.free hF)).symm
    have nFM : F ≠ M := (ne_of_none (s5 _ _ hM4) hF).symm
    have nFD : F ≠ D2 := (ne_of_none hN5 hF).symm
    have hN6 := s6' _ _ hN5
    have rfN6 := rfN5.same s6'
    generalize upd G5 F (.lst []) = G6 at s6 hF6 hN6 rfN6
    refine ⟨(by show 2 ≤ sizeLine; decide), fun t ht => ?_⟩
    have s7 := same_upd (o := .tup [.ref D2, .ref F]) ht
    refine ⟨t, _, rfl, .inl (.inl upd_same), rfl, _, _, rfl, _, _, rfl, rfl, ?_⟩
    have s47 := s6.trans s7
    have hF7 := s7 _ _ hF6
    have hN7 := s7 _ _ hN6
    have rfN7 := rfN6.same s7
    have hM7 := s47 _ _ hM4
    have rfM7 := rfM.same s47
    have t7 := t4.trans (Stp.same t4.1 s47)
    generalize upd G6 t (.tup [.ref D2, .ref F]) = G7 at hF7 hN7 rfN7 hM7 rfM7 t7
    refine ⟨_, rfl, M, rfl, ⟨_, SqL.of hM7⟩, ?_⟩
    refine for_list (K := K) (a := M) (xs := mq.map V.ref) (fun i σ G => (∃ x7 x8 x9 x10 x11 x12, σ = [some (.ref r), some (.ref s), some (.int n), some (.ref a), some (.ref M), some (.ref D2), some (.ref F), x7, x8, x9, x10, x11, x12, none, none]) ∧ Stp r H G ∧ G M = some (.lst (mq.map V.ref)) ∧ Refs blkV G mq mc ∧
      ∃ (pn : List Addr) (cn : List Blk) (pf : List Addr) (mm : List (Int × Int)), G D2 = some (.lst (pn.map V.ref)) ∧ Refs blkV G pn cn ∧ (∀ c ∈ cn, c.2.1 < ns.length) ∧ cn.length ≤ 16 + i ∧ G F = some (.lst (pf.map V.ref)) ∧ Refs prV G pf mm ∧ (∀ m ∈ mm, (0 ≤ m.1 ∧ m.1 ≤ 1000000000000) ∧ 0 ≤ m.2 ∧ m.2 ≤ 1000000000000) ∧ mm.length ≤ i)
      ⟨⟨none, none, none, none, none, none, rfl⟩, t7, hM7, rfM7, pn, cn, [], [], hN7, rfN7, fun c hc => (wf.ok c (subN c hc)).1, by omega, hF7, .nil, (fun _ z => nomatch z), Nat.le_refl _⟩ (fun i σ G _ h => SqL.of h.2.2.1) ?_ ?_
    · rintro i x σ G hx ⟨⟨x7, x8, x9, x10, x11, x12, rfl⟩, tG, hMG, rfMG, pn, cn, pf, mm, hNG, rfNG, lvN, lenN, hFG, rfFG, bm, lenF⟩
      obtain ⟨p, hp, rfl⟩ := ref_of hx
      obtain ⟨b, hb, hT⟩ := rfMG.get hp
      have hT' : G p = some (.tup [.int b.1, .int (b.2.1 : Nat), .bl b.2.2]) := hT
      have il := (List.getElem?_eq_some_iff.mp hb).1
      have bo := wf.ok b (subM b (List.mem_of_getElem? hb))
      have hk := bo.1
      have z1 := (chain gd).pos _ hk
      have z2 := sz_le gd hk
      have b0 : 0 ≤ b.1 := bo.2.1
      have b9 : b.1 + sz ns b.2.1 ≤ n := bo.2.2.2
      have j1 : 1 ≤ n / sz ns b.2.1 := (Int.le_ediv_iff_mul_le (by omega)).mpr (by omega)
      have j2 : n / sz ns b.2.1 ≤ 1000000000000 := Int.le_trans (Int.ediv_le_self _ (by omega)) n2
      refine ⟨p, _, rfl, .inl (.inl hT'), rfl, _, _, rfl, _, _, rfl, _, _, rfl, rfl, ?_⟩
      -- the places of the others of its level
      refine ⟨_, rfl, M, rfl, ⟨_, SqL.of hMG⟩, fun P1 hP1 => ?_⟩
      refine lc_list (K := K) (a := M) (xs := mq.map V.ref) (fun i G' => ∃ ms : List Int, G' P1 = some (.lst (ms.map V.int)) ∧ (∀ x ∈ ms, 0 ≤ x ∧ x ≤ 1000000000000) ∧ ms.length ≤ i ∧ Same G G') ⟨[], upd_same, (fun _ z => nomatch z), Nat.le_refl _, same_upd hP1⟩ (fun i G' _ ⟨_, _, _, _, sm⟩ => SqL.of (sm _ _ hMG)) ?_ ?_
      · rintro i' x G' hx' ⟨ms, hG', bms, lms, sm⟩
        obtain ⟨p', hp', rfl⟩ := ref_of hx'
        obtain ⟨c, hc, hTc⟩ := (rfMG.same sm).get hp'
        have hTc' : G' p' = some (.tup [.int c.1, .int (c.2.1 : Nat), .bl c.2.2]) := hTc
        have co := wf.ok c (subM c (List.mem_of_getElem? hc))
        have c9 : c.1 + sz ns c.2.1 ≤ n := co.2.2.2
        have c8 := (chain gd).pos _ co.1
        have il' := (List.getElem?_eq_some_iff.mp hc).1
        refine ⟨rfl, _, rfl, p', _, _, _, rfl, rfl, .inl (.inl hTc'), rfl, _, rfl, rfl, _, rfl, ?_⟩
        by_cases e1 : V.int (c.2.1 : Nat) = V.int (b.2.1 : Nat)
        · refine ifT (decide_eq_true e1) ⟨_, rfl, p', _, _, _, rfl, rfl, .inl (.inl hTc'), rfl, _, rfl, rfl, _, rfl, ?_⟩
          by_cases e2 : V.int c.1 = V.int b.1
          · exact ifF (by rw [decide_eq_true e2]; rfl) ⟨ms, hG', bms, by omega, sm⟩
          · refine ifT (by rw [decide_eq_false e2]; rfl) ⟨_, rfl, p', _, _, _, rfl, rfl, .inl (.inl hTc'), rfl, _, hG', (by rw [List.length_map]; omega), ms ++ [c.1], by rw [upd_same, List.map_append]; rfl, fun x hx => ?_, by rw [List.length_append, List.length_singleton]; omega, fun c' o e => ?_⟩
            · rcases List.mem_append.mp hx with z | z
              · exact bms x z
              · rw [List.mem_singleton.mp z]
                exact ⟨co.2.1, by omega⟩
            · rw [upd_ne (ne_of_none e hP1)]
              exact sm c' o e
        · exact ifF (decide_eq_false e1) ⟨ms, hG', bms, by omega, sm⟩
      rintro GA ⟨ms1, hA, bms1, lms1, sA⟩
      rw [List.length_map, mql] at lms1
      have tA := tG.trans (Stp.same tG.1 sA)
      have nP1 : P1 ≠ r := (tG.1.ne hP1).symm
      refine ⟨_, rfl, 3, rfl, by decide, by decide, fun P2 hP2 => ?_⟩
      have nP2 : P2 ≠ r := (tA.1.ne hP2).symm
      refine lc_range (fun i G' => ∃ ms : List Int, G' P2 = some (.lst (ms.map V.int)) ∧ (∀ x ∈ ms, 0 ≤ x ∧ x ≤ 1000000000000) ∧ ms.length = i ∧ Stp r GA G') ⟨[], upd_same, (fun _ z => nomatch z), rfl, (Stp.refl tA.1).new hP2⟩ ?_ ?_
      · rintro i' G' hi' ⟨ms, hG', bms, lms, tG'⟩
        have hsG := (tA.trans tG').2 _ _ sr B.hs
        refine ⟨rfl, _, rfl, _, rfl, _, rfl, _, rfl, s, _, _, _, rfl, rfl, SqL.of hsG, at_sz hk, _, _, rfl, rfl, wide_div (b := 30) (by omega) (by omega) (by decide) (by decide), r, _, rfl, tG'.1, j1, by omega, fun d G'' e0 e1 t'' => ?_⟩
        have hs2 := (tA.trans (tG'.trans t'')).2 _ _ sr B.hs
        have hG2 := t''.2 _ _ nP2 hG'
        have ad0 : 0 ≤ d * sz ns b.2.1 := Int.mul_nonneg e0 (by omega)
        have ad1 : d * sz ns b.2.1 ≤ 1000000000000 := by
          have h1 := (dn_iff (s := sz ns b.2.1) (e := n) (i := d) z1).mp e1
          omega
        have tt := tG'.trans t''
        have i3 : i' < 3 := hi'
        refine ⟨_, rfl, _, rfl, s, _, _, _, rfl, rfl, SqL.of hs2, at_sz hk, _, _, rfl, rfl, .inr ⟨by omega, by omega⟩, _, hG2, (by rw [List.length_map]; omega), ms ++ [d * sz ns b.2.1], by rw [upd_same, List.map_append]; rfl, fun x hx => ?_, by rw [List.length_append, lms]; rfl, ?_, fun c o nc e => ?_⟩
        · rcases List.mem_append.mp hx with z | z
          · exact bms x z
          · rw [List.mem_singleton.mp z]
            exact ⟨ad0, ad1⟩
        · obtain ⟨x, y, e, z⟩ := tt.1
          exact ⟨x, y, by rw [upd_ne nP2.symm]; exact e, z⟩
        · rw [upd_ne (ne_of_none e hP2)]
          exact tt.2 c o nc e
      rintro GB ⟨ms2, hB, bms2, lms2, tB⟩
      have lms2' : ms2.length = 3 := lms2
      have hA2 := tB.2 _ _ nP1 hA
      refine ⟨P1, P2, _, _, rfl, rfl, hA2, hB, (by rw [List.length_map, List.length_map]; omega), fun P3 hP3 => ?_⟩
      rw [← List.map_append]
      have tAB := tA.trans tB
      have bms : ∀ x ∈ ms1 ++ ms2, 0 ≤ x ∧ x ≤ 1000000000000 := fun x hx => (List.mem_append.mp hx).elim (bms1 x) (bms2 x)
      have lms : 3 ≤ (ms1 ++ ms2).length ∧ (ms1 ++ ms2).length ≤ 19 := by rw [List.length_append]; omega
      generalize ms1 ++ ms2 = ms at *
      have sC := same_upd (o := .lst (ms.map V.int)) hP3
      have hC : (upd GB P3 (.lst (ms.map V.int))) P3 = some (.lst (ms.map V.int)) := upd_same
      have tC := tAB.trans (Stp.same tAB.1 sC)
      have tGC := ((Stp.same tG.1 sA).trans tB).trans (Stp.same tB.1 sC)
      generalize upd GB P3 (.lst (ms.map V.int)) = GC at sC hC tC tGC
      refine ⟨_, rfl, P3, rfl, ⟨_, SqL.of hC⟩, fun P4 hP4 => ?_⟩
      have nDr : D2 ≠ r := nD2
      have hNC := tGC.2 _ _ nD2 hNG
      have rfNC : Refs blkV GC pn cn := rfNG.mono fun p xs e => tGC.2 p _ (tG.1.tup e) e
      refine lc_list (K := K) (a := P3) (xs := ms.map V.int) (fun i G' => ∃ zs : List Int, G' P4 = some (.lst (zs.map V.int)) ∧ (∀ x ∈ zs, 0 ≤ x ∧ x ≤ 1000000000000) ∧ zs.length ≤ i ∧ Same GC G') ⟨[], upd_same, (fun _ z => nomatch z), Nat.le_refl _, same_upd hP4⟩ (fun i G' _ ⟨_, _, _, _, sm⟩ => SqL.of (sm _ _ hC)) ?_ ?_
      · rintro i' x G' hx' ⟨zs, hG', bzs, lzs, sm⟩
        rw [List.getElem?_map] at hx'
        cases ex : ms[i']? with
        | none => rw [ex] at hx'; cases hx'
        | some ad =>
        rw [ex] at hx'
        cases hx'
        have bad := bms ad (List.mem_of_getElem? ex)
        have il' := (List.getElem?_eq_some_iff.mp ex).1
        refine ⟨rfl, _, rfl, _, rfl, _, rfl, _, rfl, _, rfl, s, D2, ns, n, pn, cn, b.2.1, ad, rfl, sm _ _ (tC.2 _ _ sr B.hs), ⟨sm _ _ hNC, rfNC.same sm, lvN, by omega⟩, gd, hk, bad.1, by omega, fun G'' s'' => ⟨_, rfl, ?_⟩⟩
        have hG2 := s'' _ _ hG'
        generalize spaceB ns n cn b.2.1 ad = tt
        cases tt with
        | false => exact iteF ⟨zs, hG2, bzs, by omega, sm.trans s''⟩
        | true =>
          refine iteT ⟨_, rfl, _, hG2, (by rw [List.length_map]; omega), zs ++ [ad], by rw [upd_same, List.map_append]; rfl, fun x hx => ?_, by rw [List.length_append, List.length_singleton]; omega, fun c' o e => ?_⟩
          · rcases List.mem_append.mp hx with z | z
            · exact bzs x z
            · rw [List.mem_singleton.mp z]
              exact bad
          · rw [upd_ne (ne_of_none e hP4)]
            exact (sm.trans s'') c' o e
      rintro GD ⟨zs, hD4, bzs, lzs, sD⟩
      rw [List.length_map] at lzs
      have tD := tC.trans (Stp.same tC.1 sD)
      have tGD := tGC.trans (Stp.same tGC.1 sD)
      have hC2 := sD _ _ hC
      have nP3 : P3 ≠ r := (tAB.1.ne hP3).symm
      have nP4 : P4 ≠ r := (tC.1.ne hP4).symm
      refine join2 (fun (x : Int) (G' : Hp) => (0 ≤ x ∧ x ≤ 1000000000000) ∧ Stp r GD G') (R := ?R) (fun tail => ?main) ?tl
      case main =>
        refine ⟨_, rfl, (by show 0 ≤ sizeLine; decide), fun e he => ?_⟩
        have sE := same_upd (o := .lst []) he
        have hE : (upd GD e (.lst [])) e = some (.lst (([] : List Int).map V.int)) := upd_same
        have hD5 := sE _ _ hD4
        have hC5 := sE _ _ hC2
        have tE := Stp.same tD.1 sE
        generalize upd GD e (.lst []) = GE at sE hE hD5 hC5 tE
        -- places[-1]
        have lastw : ∀ {G' : Hp}, Stp r GE G' → ∃ y, atI (ms.map V.int) (-1) = some (.int y) ∧ (0 ≤ y ∧ y ≤ 1000000000000) := fun {G'} _ => by
          have hne : ms ≠ [] := fun z => by rw [z] at lms; have := lms.1; simp at this
          refine ⟨ms.getLast hne, ?_, bms _ (List.getLast_mem hne)⟩
          have := at_last ms.dropLast (ms.getLast hne)
          rw [List.dropLast_concat_getLast hne] at this
          exact this
        obtain ⟨yl, ayl, byl⟩ := lastw (Stp.refl tE.1)
        refine ⟨.list (zs.map PyData.int), .list (([] : List Int).map PyData.int), .lst (SqL.of hD5) (dp_ints _), .lst (SqL.of hE) (dp_ints _), shaped_ints _, shaped_ints _, _, rfl, ?_⟩
        have eve : PyData.eqv (.list (zs.map PyData.int)) (.list (([] : List Int).map PyData.int)) = decide (zs = []) := eqv_ints zs []
        by_cases hz : zs = []
        · refine ifF (by rw [eve, decide_eq_true hz]; rfl) ⟨_, rfl, _, rfl, P3, _, _, _, rfl, rfl, SqL.of hC5, ayl, ?_⟩
          exact tail yl GE ⟨byl, tE⟩
        · refine ifT (by rw [eve, decide_eq_false hz]; rfl) ⟨_, rfl, r, 12, rfl, tE.1, by decide, by omega, fun d GF f0 f1 tF => ⟨_, _, rfl, rfl, _, rfl, ?_⟩⟩
          have tEF := tE.trans tF
          by_cases hd : d > 0
          · obtain ⟨x0, r0, ez⟩ : ∃ x0 r0, zs = x0 :: r0 := by
              cases zs with
              | nil => exact absurd rfl hz
              | cons x0 r0 => exact ⟨x0, r0, rfl⟩
            refine ifT (decide_eq_true hd) ⟨_, rfl, P4, _, _, _, rfl, rfl, SqL.of (tF.2 _ _ nP4 hD5), (by exact at_map (ns := zs) (p := 0) (x := x0) (by rw [ez]; rfl)), ?_⟩
            exact tail x0 GF ⟨bzs x0 (by rw [ez]; exact List.mem_cons_self), tEF⟩
          · refine ifF (decide_eq_false hd) ⟨_, rfl, _, rfl, P3, _, _, _, rfl, rfl, SqL.of (tF.2 _ _ nP3 hC5), ayl, ?_⟩
            exact tail yl GF ⟨byl, tEF⟩
      case tl =>
        rintro x GE ⟨bx, tE⟩
        have tGE := tGD.trans tE
        have hNE := tGE.2 _ _ nD2 hNG
        have hFE := tGE.2 _ _ nFr hFG
        have hME := tGE.2 _ _ nM hMG
        have rfNE : Refs blkV GE pn cn := rfNG.mono fun p xs e => tGE.2 p _ (tG.1.tup e) e
        have rfFE : Refs prV GE pf mm := rfFG.mono fun p xs e => tGE.2 p _ (tG.1.tup e) e
        have rfME : Refs blkV GE mq mc := rfMG.mono fun p xs e => tGE.2 p _ (tG.1.tup e) e
        have tHE := tG.trans tGE
        refine join3 (fun (pf' : List Addr) (mm' : List (Int × Int)) (G' : Hp) => Stp r H G' ∧ G' M = some (.lst (mq.map V.ref)) ∧ Refs blkV G' mq mc ∧ G' D2 = some (.lst (pn.map V.ref)) ∧ Refs blkV G' pn cn ∧ G' F = some (.lst (pf'.map V.ref)) ∧ Refs prV G' pf' mm' ∧ (∀ m ∈ mm', (0 ≤ m.1 ∧ m.1 ≤ 1000000000000) ∧ 0 ≤ m.2 ∧ m.2 ≤ 1000000000000) ∧ mm'.length ≤ i + 1) (R := ?R2) (fun tail => ?main2) ?tl2
        case main2 =>
          refine ⟨_, rfl, _, rfl, rfl, _, rfl, ?_⟩
          by_cases hx : ¬ (V.int x = V.int b.1)
          · refine ifT (by rw [decide_eq_false hx]; rfl) ⟨_, rfl, .inl ⟨rfl, _, SqL.of hFE⟩, _, rfl, _, rfl, (by show 2 ≤ sizeLine; decide), fun v hv => ?_⟩
            have sv := same_upd (o := .tup [.int b.1, .int x]) hv
            have hv5 : (upd GE v (.tup [.int b.1, .int x])) v = some (.tup (prV (b.1, x))) := upd_same
            have hF5 := sv _ _ hFE
            have hM5 := sv _ _ hME
            have hN5 := sv _ _ hNE
            have rfN5 := rfNE.same sv
            have rfF5 := rfFE.same sv
            have rfM5 := rfME.same sv
            have t5 := tHE.trans (Stp.same tHE.1 sv)
            generalize upd GE v (.tup [.int b.1, .int x]) = GF at *
            have fl := rfF5.len
            refine ⟨F, _, _, rfl, rfl, hF5, (by rw [List.length_map]; omega), ?_⟩
            have bt : But1 F GF (upd GF F (.lst (pf.map V.ref ++ [.ref v]))) := fun c o nc ec => by
              rw [upd_ne nc]
              exact ec
            have nt : ∀ {c : Addr} {zs : List V}, GF c = some (.tup zs) → c ≠ F := fun {c zs} ec z => by
              rw [z, hF5] at ec
              cases ec
            have hF6 : (upd GF F (.lst (pf.map V.ref ++ [.ref v]))) F = some (.lst ((pf ++ [v]).map V.ref)) := by
              rw [upd_same, List.map_append]
              rfl
            generalize upd GF F (.lst (pf.map V.ref ++ [.ref v])) = GG at bt hF6
            have rf6 : Refs prV GG (pf ++ [v]) (mm ++ [(b.1, x)]) := (rfF5.app (Refs.one hv5)).mono fun p xs e => bt p _ (nt e) e
            have bm6 : ∀ m ∈ mm ++ [(b.1, x)], (0 ≤ m.1 ∧ m.1 ≤ 1000000000000) ∧ 0 ≤ m.2 ∧ m.2 ≤ 1000000000000 := fun m hm => by
              rcases List.mem_append.mp hm with z | z
              · exact bm m z
              · rw [List.mem_singleton.mp z]
                exact ⟨⟨b0, by show b.1 ≤ _; omega⟩, bx⟩
            have lm6 : (mm ++ [(b.1, x)]).length ≤ i + 1 := by rw [List.length_append, List.length_singleton]; omega
            have t6 : Stp r H GG := ⟨by
              obtain ⟨x', y', e, z⟩ := t5.1
              exact ⟨x', y', bt _ _ nFr.symm e, z⟩, fun c o nc ec => bt c o (ne_of_none ec fF) (t5.2 c o nc ec)⟩
            have hM6 := bt _ _ nFM.symm hM5
            have rfM6 : Refs blkV GG mq mc := rfM5.mono fun p xs e => bt p _ (nt e) e
            have hN6 := bt _ _ nFD.symm hN5
            have rfN6 : Refs blkV GG pn cn := rfN5.mono fun p xs e => bt p _ (nt e) e
            generalize pf ++ [v] = pf' at hF6 rf6
            generalize mm ++ [(b.1, x)] = mm' at rf6 bm6 lm6
            exact tail pf' mm' GG ⟨t6, hM6, rfM6, hN6, rfN6, hF6, rf6, bm6, lm6⟩
          · have hx' : V.int x = V.int b.1 := Classical.not_not.mp hx
            refine ifF (by rw [decide_eq_true hx']; rfl) ?_
            exact tail pf mm GE ⟨tHE, hME, rfME, hNE, rfNE, hFE, rfFE, bm, by omega⟩
        case tl2 =>
          rintro pf' mm' GF ⟨tF, hMF, rfMF, hNF, rfNF, hFF, rfFF, bmF, lmF⟩
          refine ⟨_, rfl, .inl ⟨rfl, _, SqL.of hNF⟩, _, rfl, _, rfl, (by show 3 ≤ sizeLine; decide), fun v hv => ?_⟩
          have sv := same_upd (o := .tup [.int x, .int (b.2.1 : Nat), .bl false]) hv
          have hv5 : (upd GF v (.tup [.int x, .int (b.2.1 : Nat), .bl false])) v = some (.tup (blkV (x, b.2.1, false))) := upd_same
          have hF5 := sv _ _ hFF
          have hM5 := sv _ _ hMF
          have hN5 := sv _ _ hNF
          have rfN5 := rfNF.same sv
          have rfF5 := rfFF.same sv
          have rfM5 := rfMF.same sv
          have t5 := tF.trans (Stp.same tF.1 sv)
          generalize upd GF v (.tup [.int x, .int (b.2.1 : Nat), .bl false]) = GG at *
          have nl := rfN5.len
          have im : i < mc.length := il
          refine ⟨D2, _, _, rfl, rfl, hN5, (by rw [List.length_map]; omega), ?_⟩
          have bt : But1 D2 GG (upd GG D2 (.lst (pn.map V.ref ++ [.ref v]))) := fun c o nc ec => by
            rw [upd_ne nc]
            exact ec
          have nt : ∀ {c : Addr} {zs : List V}, GG c = some (.tup zs) → c ≠ D2 := fun {c zs} ec z => by
            rw [z, hN5] at ec
            cases ec
          have hN6 : (upd GG D2 (.lst (pn.map V.ref ++ [.ref v]))) D2 = some (.lst ((pn ++ [v]).map V.ref)) := by
            rw [upd_same, List.map_append]
            rfl
          generalize upd GG D2 (.lst (pn.map V.ref ++ [.ref v])) = GH at bt hN6
          refine ⟨⟨_, _, _, _, _, _, rfl⟩, ⟨?_, fun c o nc ec => bt c o (ne_of_none ec fD2) (t5.2 c o nc ec)⟩, bt _ _ nD2M.symm hM5, rfM5.mono fun p xs e => bt p _ (nt e) e, pn ++ [v], cn ++ [(x, b.2.1, false)], pf', mm', hN6, (rfN5.app (Refs.one hv5)).mono fun p xs e => bt p _ (nt e) e, fun c hc => ?_, by rw [List.length_append, List.length_singleton]; omega, bt _ _ nFD hF5, rfF5.mono fun p xs e => bt p _ (nt e) e, bmF, lmF⟩
          · obtain ⟨x', y', e, z⟩ := t5.1
            exact ⟨x', y', bt _ _ nD2.symm e, z⟩
          · rcases List.mem_append.mp hc with z | z
            · exact lvN c z
            · rw [List.mem_singleton.mp z]
              exact hk
    · rintro σ G ⟨⟨x7, x8, x9, x10, x11, x12, rfl⟩, tG, hMG, rfMG, pn, cn, pf, mm, hNG, rfNG, lvN, lenN, hFG, rfFG, bm, lenF⟩
      rw [List.length_map, mql] at lenF
      exact ⟨_, rfl, q F pf mm G fF tG hFG rfFG bm (by omega)⟩
end
end K35

set_option Elab.async false
set_option linter.all false
set_option maxRecDepth 100000
set_option maxHeartbeats 4000000
set_option pp.maxSteps 900
namespace K35
open PySem PySem.Spec PyProof.Rows L2 Gu Ex
theorem merge_lv : ∀ (cs ds : List Blk), (ds ++ cs).Pairwise (fun b c => b.1 < c.1) → mergeK (lvK ds) (lvK cs) = lvK (ds ++ cs)
  | [], ds, _ => by rw [List.append_nil]; rfl
  | c :: cs, ds, h => by
    have no : valV (lvK ds) (Sum.inl c.1) = none := lvK_none fun d hd e => by
      have := (List.pairwise_append.mp h).2.2 d hd c List.mem_cons_self
      omega
    show mergeK (putK (lvK ds) (Sum.inl c.1) (.int (c.2.1 : Nat))) (lvK cs) = _
    rw [putK_new _ no]
    have e : lvK ds ++ [(Sum.inl c.1, V.int (c.2.1 : Nat))] = lvK (ds ++ [c]) := by
      unfold lvK
      rw [List.map_append]
      rfl
    rw [e, merge_lv cs (ds ++ [c]) (by rw [List.append_assoc]; exact h), List.append_assoc]
    rfl
def lvV (b : Blk) : List V := [.int b.1, .int (b.2.1 : Nat)]
theorem lv_paired {K : PySem.W.Frag} {G : Hp} {ps : List Addr} {cs : List Blk} (h : Refs lvV G ps cs) : Paired (fun p kv => SqT K G p [kV kv.1, kv.2]) ps (lvK cs) := by
  induction h with
  | nil => exact .nil
  | cons e _ ih => exact .cons (SqT.of e) ih
theorem addr_int {v : V} (h : addrB v = true) : isI v = true := by
  cases v <;> first | rfl | cases h
theorem inV_ints (a : Int) : ∀ os : List Int, inV (.int a) (os.map V.int) = decide (a ∈ os)
  | [] => rfl
  | b :: r => by
    show ((b == a) || inV (.int a) (r.map V.int)) = _
    rw [inV_ints a r]
    by_cases h1 : b = a
    · subst h1
      simp
    · have h2 : ¬ a = b := fun z => h1 z.symm
      simp [h1, h2]
theorem flat_ints (os : List Int) : (os.map V.int).all flatV = true := by
  rw [List.all_map, List.all_eq_true]
  intro z _
  rfl
def rb (ns : List Int) (c : Blk) : Int × Int := (c.1, c.1 + sz ns c.2.1)
def ovB (m o : Int × Int) : Bool := decide (o.1 < m.2) && decide (m.1 < o.2)
theorem olds_some (mm : List (Int × Int)) : oldsOf (mm.map some) = mm.map Prod.fst := by
  unfold oldsOf
  rw [List.filterMap_map]
  induction mm with
  | nil => rfl
  | cons m r ih =>
    exact congrArg (m.1 :: ·) ih
theorem mem_but {α : Type} {l : List α} {i q : Nat} {x : α} (h : l[q]? = some x) (ne : q ≠ i) : x ∈ l.take i ++ l.drop (i + 1) := by
  rcases Nat.lt_or_gt_of_ne ne with z | z
  · exact List.mem_append_left _ (List.mem_iff_getElem?.mpr ⟨q, by rw [List.getElem?_take_of_lt z]; exact h⟩)
  · exact List.mem_append_right _ (List.mem_iff_getElem?.mpr ⟨q - (i + 1), by rw [List.getElem?_drop, show i + 1 + (q - (i + 1)) = q by omega]; exact h⟩)
theorem but_mem {α : Type} {l : List α} {i : Nat} {x : α} (h : x ∈ l.take i ++ l.drop (i + 1)) : ∃ q, q ≠ i ∧ l[q]? = some x := by
  rcases List.mem_append.mp h with z | z
  · obtain ⟨j, hj, e⟩ := mem_take_lt z
    exact ⟨j, by omega, e⟩
  · obtain ⟨j, hj⟩ := List.mem_iff_getElem?.mp z
    rw [List.getElem?_drop] at hj
    exact ⟨i + 1 + j, by omega, hj⟩
theorem cut_to (xs : List V) (i : Nat) : cutV xs none (some (i : Int)) = xs.take i := by
  unfold cutV
  rw [HT.sIx_none, HT.sIx_nat, List.drop_zero, Nat.sub_zero]
  by_cases h : i ≤ xs.length
  · rw [Nat.min_eq_left h]
  · rw [Nat.min_eq_right (by omega), List.take_length, List.take_of_length_le (by omega)]
theorem cut_from (xs : List V) (i : Nat) : cutV xs (some (i : Int)) none = xs.drop i := by
  unfold cutV
  rw [HT.sIx_none, HT.sIx_nat]
  by_cases h : i ≤ xs.length
  · rw [Nat.min_eq_left h, List.take_of_length_le (by rw [List.length_drop]; omega)]
  · rw [Nat.min_eq_right (by omega), List.drop_of_length_le (by omega), List.drop_of_length_le (by omega)]
    exact List.take_nil
section
variable {P : Program} {w : World} {K : PySem.W.Frag} {mg : Str → Option Value} {base : Heap} {f : Addr} {fd : FuncData}
def spProb (K : PySem.W.Frag) : Sp := fun vs H Q _ => ∃ (s a : Addr) (ns : List Int) (n : Int) (qs : List Addr) (bs : List Blk) (v : V) (o : Option (List Mo)), vs = [.ref s, .int n, .ref a, v] ∧ Lb ns n H s a qs bs ∧ Th H v o ∧
  (OkR ns n bs o → ∀ H', Same H H' → Q .non H') ∧ (¬ OkR ns n bs o → ∀ (p : Int) H', Same H H' → Q (.int p) H')
theorem sc__law_problem : FnScope ["_law_sizes_here", "_law_length", "_law_blocks_here", "_law_some", "_law_ranges", "_law_rest", "_law_levels", "_law_olds", "_law_position", "_law_move", "_law_size", "_law_others", "_law_one", "_law_start", "_law_end"] ["_law_sizes_here", "_law_length", "_law_blocks_here", "_law_some"] (defScope (top 55)) := ⟨rfl, rfl, rfl, by decide +kernel, rfl, by decide +kernel, by decide +kernel⟩
theorem ok_prob (T : Tx K mg) (F : FnP K "_law_problem" "_law_problem" (top 55) f fd) : FnOk P w K mg base CX0 1 f fd ["_law_sizes_here", "_law_length", "_law_blocks_here", "_law_some"] (spProb K) := by
  refine F.ok sc__law_problem (fun vs H Q E h => ?_) (fun cdv A outer s H vs Q E hr h => ⟨_, PSs.nox (pss_cons (ps_if (pt_not (pt_val (pe_callB call_isi (by rfl) T.n_isinstance (by decide +kernel) (pa_cons (pv 3) (pa_cons (pe_bltn (v := .ty "list") (by rfl) T.n_list (by decide +kernel) rfl) pa_nil))))) (pss_one (ps_ret pe_int)) pss_nil) (pss_cons (ps_asg (pe_tup (pa_cons (pe_callTy (call_dictP rfl) (by rfl) T.n_dict (by decide +kernel) (pa_cons (pe_lc (own := [("_law_one", 12)]) (g := gName 12) rfl sc__law_problem.nd (pi_list (pv 2)) (blkOk_by (own := [("_law_one", 12)]) (N := ["_law_sizes_here", "_law_length", "_law_blocks_here", "_law_some", "_law_ranges", "_law_rest", "_law_levels", "_law_olds", "_law_position", "_law_move", "_law_size", "_law_others", "_law_one", "_law_start", "_law_end"]) (sc := defScope (top 55)) (by decide +kernel)) (fun _ _ _ _ _ => pg_name (i := 12) sc__law_problem.nd rfl (Or.inl rfl)) (fun _ _ _ _ _ => (pts_one (pt_not (pt_val (pe_ix (r := rIxT K) ix_tup (pv 12) pe_int (fun _ _ => rfl)))))) (fun _ _ _ _ _ => (pe_tup (pa_cons (pe_ix (r := rIxT K) ix_tup (pv 12) pe_int (fun _ _ => rfl)) (pa_cons (pe_ix (r := rIxT K) ix_tup (pv 12) pe_int (fun _ _ => rfl)) pa_nil))))) pa_nil)) (pa_cons (pe_lst pa_nil) pa_nil))) (pg_tup (by rfl) (pgs_cons (pg_name (i := 6) sc__law_problem.nd rfl (by first | exact Or.inl rfl | exact Or.inr rfl)) (pgs_cons (pg_name (i := 7) sc__law_problem.nd rfl (by first | exact Or.inl rfl | exact Or.inr rfl)) pgs_nil)))) (pss_cons (ps_for PassesOwn.never rfl (pi_enum rfl T.n_enumerate (pa_cons (pv 3) pa_nil)) (pg_tup (by rfl) (pgs_cons (pg_name (i := 8) sc__law_problem.nd rfl (by first | exact Or.inl rfl | exact Or.inr rfl)) (pgs_cons (pg_name (i := 9) sc__law_problem.nd rfl (by first | exact Or.inl rfl | exact Or.inr rfl)) pgs_nil))) (pss_cons (ps_if (PW.pt (pw_or (pt_not (pt_val (pe_callB call_isi (by rfl) T.n_isinstance (by decide +kernel) (pa_cons (pv 9) (pa_cons (pe_bltn (v := .ty "tuple") (by rfl) T.n_tuple (by decide +kernel) rfl) pa_nil))))) (pw_or1 (pt_cmpR op_ne (pe_callB call_len_seq (by rfl) T.n_len (by decide +kernel) (pa_cons (pv 9) pa_nil)) pe_int (nomark _))))) (pss_one (ps_ret (pv 8))) pss_nil) (pss_cons (ps_if (pt_not (pt_val (pe_callB (cr_all rfl) (by rfl) T.n_all (by decide +kernel) (pa_cons (pe_lc (own := [("_law_one", 12)]) (g := gName 12) rfl sc__law_problem.nd (pi_tup (pv 9)) (blkOk_by (own := [("_law_one", 12)]) (N := ["_law_sizes_here", "_law_length", "_law_blocks_here", "_law_some", "_law_ranges", "_law_rest", "_law_levels", "_law_olds", "_law_position", "_law_move", "_law_size", "_law_others", "_law_one", "_law_start", "_law_end"]) (sc := defScope (top 55)) (by decide +kernel)) (fun _ _ _ _ _ => pg_name (i := 12) sc__law_problem.nd rfl (Or.inl rfl)) (fun _ _ _ _ _ => pts_nil) (fun _ _ _ _ _ => (pe_and (pe_callB (r := rIsi K) call_isi (by rfl) T.n_isinstance (by decide +kernel) (pa_cons (pv 12) (pa_cons (pe_bltn (v := .ty "int") (by rfl) T.n_int (by decide +kernel) rfl) pa_nil))) (pe_and (pe_not (pe_callB (r := rIsi K) call_isi (by rfl) T.n_isinstance (by decide +kernel) (pa_cons (pv 12) (pa_cons (pe_bltn (v := .ty "bool") (by rfl) T.n_bool (by decide +kernel) rfl) pa_nil)))) (pe_one (pe_cmpR op_ge (pv 12) pe_int (nomark _))))))) pa_nil)))) (pss_one (ps_ret (pv 8))) pss_nil) (pss_cons (ps_if (PW.pt (pw_or (pt_cmpR op_eq (pe_ix (r := rIxT K) ix_tup (pv 9) pe_int (fun _ _ => rfl)) (pe_ix (r := rIxT K) ix_tup (pv 9) pe_int (fun _ _ => rfl)) (nomark _)) (pw_or (pt_cmp (pc_dnotin (u1 hr) (pe_ix (r := rIxT K) ix_tup (pv 9) pe_int (fun _ _ => rfl)) (pv 6))) (pw_or1 (pt_cmpR (r := rIn K false) op_in_seq (pe_ix (r := rIxT K) ix_tup (pv 9) pe_int (fun _ _ => rfl)) (pv 7) rfl))))) (pss_one (ps_ret (pv 8))) pss_nil) (pss_cons (ps_set (i := 10) sc__law_problem.nd rfl (by first | exact Or.inl rfl | exact Or.inr rfl) (pe_ix ix_list (pv 0) (pe_dget (u1 hr) (pv 6) (pe_ix (r := rIxT K) ix_tup (pv 9) pe_int (fun _ _ => rfl)) (fun _ _ => rfl)) (fun _ _ => rfl))) (pss_cons (ps_if (PW.pt (pw_or (pt_cmpR op_ne (pe_op op_mod (pe_ix (r := rIxT K) ix_tup (pv 9) pe_int (fun _ _ => rfl)) (pv 10)) pe_int (nomark _)) (pw_or1 (pt_cmpR op_gt (pe_op op_add (pe_ix (r := rIxT K) ix_tup (pv 9) pe_int (fun _ _ => rfl)) (pv 10)) (pv 1) (nomark _))))) (pss_one (ps_ret (pv 8))) pss_nil) (pss_one (ps_expr (pe_bm PySem.F.plainAttrs_list PySem.F.slot_list_append PySem.F.type_list_append mt_append (pv 7) (pa_cons (pe_ix (r := rIxT K) ix_tup (pv 9) pe_int (fun _ _ => rfl)) pa_nil)))))))))) (pss_cons (ps_setLc (i := 4) (own := [("_law_move", 9)]) (g := gName 9) rfl sc__law_problem.nd rfl rfl (sw_true rfl rfl rfl (by decide +kernel)) (pi_list (pv 3)) (blkOk_by (own := [("_law_move", 9)]) (N := ["_law_sizes_here", "_law_length", "_law_blocks_here", "_law_some", "_law_ranges", "_law_rest", "_law_levels", "_law_olds", "_law_position", "_law_move", "_law_size", "_law_others", "_law_one", "_law_start", "_law_end"]) (sc := defScope (top 55)) (by decide +kernel)) (fun _ _ _ _ _ => pg_name (i := 9) sc__law_problem.nd rfl (Or.inl rfl)) (fun _ _ _ _ _ => pts_nil) (fun _ _ _ _ _ => (pe_tup (pa_cons (pe_ix (r := rIxT K) ix_tup (pv 9) pe_int (fun _ _ => rfl)) (pa_cons (pe_op op_add (pe_ix (r := rIxT K) ix_tup (pv 9) pe_int (fun _ _ => rfl)) (pe_ix (r := rIxL K) ix_list (pv 0) (pe_dget (u1 hr) (pv 6) (pe_ix (r := rIxT K) ix_tup (pv 9) pe_int (fun _ _ => rfl)) (fun _ _ => rfl)) (fun _ _ => rfl))) pa_nil))))) (pss_cons (ps_setLc (i := 5) (own := [("_law_one", 12)]) (g := gName 12) rfl sc__law_problem.nd rfl rfl (sw_true rfl rfl rfl (by decide +kernel)) (pi_list (pv 2)) (blkOk_by (own := [("_law_one", 12)]) (N := ["_law_sizes_here", "_law_length", "_law_blocks_here", "_law_some", "_law_ranges", "_law_rest", "_law_levels", "_law_olds", "_law_position", "_law_move", "_law_size", "_law_others", "_law_one", "_law_start", "_law_end"]) (sc := defScope (top 55)) (by decide +kernel)) (fun _ _ _ _ _ => pg_name (i := 12) sc__law_problem.nd rfl (Or.inl rfl)) (fun _ _ _ _ _ => (pts_one (pt_cmpR (r := rIn K true) op_notIn_seq (pe_ix (r := rIxT K) ix_tup (pv 12) pe_int (fun _ _ => rfl)) (pv 7) rfl))) (fun _ _ _ _ _ => (pe_tup (pa_cons (pe_ix (r := rIxT K) ix_tup (pv 12) pe_int (fun _ _ => rfl)) (pa_cons (pe_op op_add (pe_ix (r := rIxT K) ix_tup (pv 12) pe_int (fun _ _ => rfl)) (pe_ix (r := rIxL K) ix_list (pv 0) (pe_ix (r := rIxT K) ix_tup (pv 12) pe_int (fun _ _ => rfl)) (fun _ _ => rfl))) pa_nil))))) (pss_cons (ps_for PassesOwn.never rfl (pi_enum rfl T.n_enumerate (pa_cons (pv 4) pa_nil)) (pg_tup (by rfl) (pgs_cons (pg_name (i := 8) sc__law_problem.nd rfl (by first | exact Or.inl rfl | exact Or.inr rfl)) (pgs_cons (pg_tup (by rfl) (pgs_cons (pg_name (i := 13) sc__law_problem.nd rfl (by first | exact Or.inl rfl | exact Or.inr rfl)) (pgs_cons (pg_name (i := 14) sc__law_problem.nd rfl (by first | exact Or.inl rfl | exact Or.inr rfl)) pgs_nil))) pgs_nil))) (pss_cons (ps_set (i := 11) sc__law_problem.nd rfl (by first | exact Or.inl rfl | exact Or.inr rfl) (pe_op op_cat (pe_op op_cat (pe_slice sl_list (pv 4) po_none (po_some (pv 8))) (pe_slice sl_list (pv 4) (po_some (pe_op op_add (pv 8) pe_int)) po_none)) (pv 5))) (pss_one (ps_if (pt_val (pe_callB (cr_any rfl) (by rfl) T.n_any (by decide +kernel) (pa_cons (pe_lc (own := [("_law_one", 12)]) (g := gName 12) rfl sc__law_problem.nd (pi_list (pv 11)) (blkOk_by (own := [("_law_one", 12)]) (N := ["_law_sizes_here", "_law_length", "_law_blocks_here", "_law_some", "_law_ranges", "_law_rest", "_law_levels", "_law_olds", "_law_position", "_law_move", "_law_size", "_law_others", "_law_one", "_law_start", "_law_end"]) (sc := defScope (top 55)) (by decide +kernel)) (fun _ _ _ _ _ => pg_name (i := 12) sc__law_problem.nd rfl (Or.inl rfl)) (fun _ _ _ _ _ => pts_nil) (fun _ _ _ _ _ => (pe_and (pe_cmpR op_lt (pe_ix (r := rIxT K) ix_tup (pv 12) pe_int (fun _ _ => rfl)) (pv 14) (nomark _)) (pe_one (pe_cmpR op_lt (pv 13) (pe_ix (r := rIxT K) ix_tup (pv 12) pe_int (fun _ _ => rfl)) (nomark _)))))) pa_nil))) (pss_one (ps_ret (pv 8))) pss_nil)))) (pss_one (ps_ret pe_non)))))))), ?_⟩)
  · obtain ⟨s, a, ns, n, qs, bs, v, o, rfl, _⟩ := h
    rfl
  · obtain ⟨s, a, ns, n, qs, bs, v, o, rfl, B, th, q1, q2⟩ := h
    have sl : sizeLine = 16777216 := sizeLine_eq
    have pl := B.rf.len
    have bl := B.ln
    have wf := B.wf
    have gd := B.gd
    cases th with
    | other an nl =>
      rcases an.ls (K := K) with ⟨t, xs, rfl, e⟩ | ⟨_, Ty, ty, k⟩
      · exact absurd e (nl t xs rfl)
      · exact ⟨_, rfl, _, _, _, _, _, rfl, .ty "list", ty, kit_ty k, _, rfl, iteT (q2 (fun z => z) 0 H (Same.refl H))⟩
    | @list L xs ms hL hm x1000 =>
      refine ⟨_, rfl, _, _, _, _, _, rfl, .ty "list", .base (.lst hL), kit_ty (show kitB "list" "list" = some true by decide +kernel), _, rfl, iteF ?_⟩
      refine ⟨_, rfl, a, rfl, ⟨_, SqL.of B.ha⟩, fun D hD => ?_⟩
      refine lc_list (K := K) (a := a) (xs := qs.map V.ref) (fun i G => ∃ ps', G D = some (.lst (ps'.map V.ref)) ∧ Refs lvV G ps' ((bs.take i).filter fun b => !b.2.2) ∧ Same H G) ⟨[], upd_same, .nil, same_upd hD⟩ (fun i G _ ⟨_, _, _, sm⟩ => SqL.of (sm _ _ B.ha)) ?_ ?_
      · rintro i x G hx ⟨ps', hG, rf', sm⟩
        obtain ⟨p, hp, rfl⟩ := ref_of hx
        obtain ⟨b, hb, hT⟩ := (B.rf.same sm).get hp
        have hT' : G p = some (.tup [.int b.1, .int (b.2.1 : Nat), .bl b.2.2]) := hT
        have il := (List.getElem?_eq_some_iff.mp hb).1
        have fa := filter_at (fun b => !b.2.2) hb
        have fl := List.length_filter_le (fun b : Blk => !b.2.2) (bs.take i)
        rw [List.length_take] at fl
        have ql := rf'.len
        refine ⟨rfl, _, rfl, p, _, _, _, rfl, rfl, .inl (.inl hT'), rfl, _, rfl, ?_⟩
        cases hq : b.2.2 with
        | true =>
          rw [hq] at fa
          refine iteF ⟨ps', hG, ?_, sm⟩
          rw [fa]
          simpa using rf'
        | false =>
          rw [hq] at fa
          refine iteT ⟨_, rfl, p, _, _, _, rfl, rfl, .inl (.inl hT'), rfl, _, rfl, p, _, _, _, rfl, rfl, .inl (.inl hT'), rfl, (by show 2 ≤ sizeLine; decide), fun u hu => ?_⟩
          have su := same_upd (o := .tup [.int b.1, .int (b.2.1 : Nat)]) hu
          have hu2 : (upd G u (.tup [.int b.1, .int (b.2.1 : Nat)])) u = some (.tup (lvV b)) := upd_same
          have hG2 := su _ _ hG
          have rf2 := rf'.same su
          have sm2 := sm.trans su
          generalize upd G u (.tup [.int b.1, .int (b.2.1 : Nat)]) = G2 at *
          refine ⟨_, hG2, (by rw [List.length_map]; omega), ps' ++ [u], by rw [upd_same, List.map_append]; rfl, ?_, fun c o e => ?_⟩
          · rw [fa]
            refine ((rf2.app (Refs.one hu2)).mono fun c zs ec => ?_)
            rw [upd_ne (fun z => by rw [z, hG2] at ec; cases ec)]
            exact ec
          · rw [upd_ne (ne_of_none e hD)]
            exact sm2 c o e
      rintro G1 ⟨ps1, hG1, rf1, s1⟩
      rw [List.length_map, pl, List.take_length] at rf1
      refine ⟨D, ps1, lvK (unpB bs), rfl, SqL.of hG1, lv_paired rf1, fun Dl hDl => ?_⟩
      have em : mergeK [] (lvK (unpB bs)) = lvK (unpB bs) := merge_lv (unpB bs) [] (by rw [List.nil_append]; exact (wf.rise gd).filter _)
      rw [em]
      have s2 := s1.trans (same_upd (o := .dK (lvK (unpB bs))) hDl)
      have hL2 : (upd G1 Dl (.dK (lvK (unpB bs)))) Dl = some (.dK (lvK (unpB bs))) := upd_same
      generalize upd G1 Dl (.dK (lvK (unpB bs))) = G2 at s2 hL2
      refine ⟨(by show 0 ≤ sizeLine; decide), fun O hO => ?_⟩
      have s3 := same_upd (o := .lst []) hO
      have hO3 : (upd G2 O (.lst [])) O = some (.lst (([] : List Int).map V.int)) := upd_same
      have fO := s2.free hO
      have nOD : O ≠ Dl := (ne_of_none hL2 hO).symm
      have hL3 := s3 _ _ hL2
      have s23 := s2.trans s3
      generalize upd G2 O (.lst []) = G3 at s3 hO3 hL3 s23
      refine ⟨(by show 2 ≤ sizeLine; decide), fun tt htt => ?_⟩
      have s4 := same_upd (o := .tup [.ref Dl, .ref O]) htt
      refine ⟨tt, _, rfl, .inl (.inl upd_same), rfl, _, _, rfl, _, _, rfl, rfl, ?_⟩
      have hO4 := s4 _ _ hO3
      have hL4 := s4 _ _ hL3
      have s24 := s23.trans s4
      generalize upd G3 tt (.tup [.ref Dl, .ref O]) = G4 at s4 hO4 hL4 s24
      refine ⟨_, rfl, L, _, rfl, SqL.of (s24 _ _ hL), ?_⟩
      refine for_it (walk_enum (xs := xs)) (fun i σ G => (∃ x8 x9 x10, σ = [some (.ref s), some (.int n), some (.ref a), some (.ref L), none, none, some (.ref Dl), some (.ref O), x8, x9, x10, none, none, none, none]) ∧ Same H G ∧ G Dl = some (.dK (lvK (unpB bs))) ∧ G O = some (.lst ((oldsOf (ms.take i)).map V.int)) ∧ ∀ j, j < i → Gd ns n bs ms j)
        ⟨⟨none, none, none, rfl⟩, s24, hL4, hO4, fun j hj => absurd hj (Nat.not_lt_zero j)⟩ (fun i σ G _ h => SqL.of (h.2.1 _ _ hL)) ?_ ?_
      · rintro i x σ GA GB hi ⟨⟨x8, x9, x10, rfl⟩, sm, hLG, hOG, hall⟩ ⟨T', y1, y2, rfl, hT, rfl, e1, e2⟩
        cases e1
        have hx : xs[i]? = some y2 := e2
        obtain ⟨m, hmi, hmv⟩ := hm.get hx
        have il : i < ms.length := by rw [← hm.len]; exact hi
        have sT := same_upd (o := .tup [.int (i : Nat), y2]) hT
        have sm1 := sm.trans sT
        have hL1 := sT _ _ hLG
        have hO1 := sT _ _ hOG
        refine ⟨T', _, rfl, .inl (.inl upd_same), rfl, _, _, rfl, _, _, rfl, rfl, ?_⟩
        generalize (upd GA T' (.tup [.int (i : Nat), y2])) = G at *
        have bad : ∀ G', Same G G' → ¬ Gd ns n bs ms i → Q (.int (i : Nat)) G' := fun G' s' h => q2 (fun z => h (z.1 i il)) i G' (sm1.trans s')
        have kt : kitB "tuple" "tuple" = some true := by decide +kernel
        have none_bad : m = none → ¬ Gd ns n bs ms i := fun e ⟨a1, b1, k, e2, _⟩ => by
          rw [hmi, e] at e2
          cases e2
        have cls : (m = none ∧ Any G y2 ∧ ∀ t zs, y2 = .ref t → G t = some (.tup zs) → zs.length ≠ 2) ∨ ∃ t x y, y2 = .ref t ∧ G t = some (.tup [x, y]) ∧ Any G x ∧ Any G y ∧ ((∃ a b, x = .int a ∧ y = .int b ∧ m = some (a, b)) ∨ (m = none ∧ (isI x && isI y) = false)) := by
          cases hmv.same sm1 with
          | other an nl => exact .inl ⟨rfl, an, nl⟩
          | mv e => exact .inr ⟨_, _, _, rfl, e, .int _, .int _, .inl ⟨_, _, rfl, rfl, rfl⟩⟩
          | odd e ax ay no => exact .inr ⟨_, _, _, rfl, e, ax, ay, .inr ⟨rfl, no⟩⟩
        rcases cls with ⟨em, an, nl⟩ | ⟨t, x, y, rfl, et, ax, ay, hxy⟩
        · rcases an.tp (K := K) with ⟨t, zs, rfl, e⟩ | ⟨no, Ty, ty, k⟩
          · refine ⟨_, rfl, _, _, _, _, _, rfl, .ty "tuple", .base (.tup e), kit_ty kt, _, rfl, iteF ?_⟩
            refine ⟨_, rfl, t, _, rfl, .inr (SqT.of e), rfl, _, rfl, ifT ?_ ⟨_, rfl, bad G (Same.refl G) (none_bad em)⟩⟩
            rw [vF (show ((zs.length : Nat) : Int) ≠ 2 from fun z => nl t zs rfl e (by omega))]
            rfl
          · exact ⟨_, rfl, _, _, _, _, _, rfl, .ty "tuple", ty, kit_ty k, _, rfl, iteT ⟨_, rfl, bad G (Same.refl G) (none_bad em)⟩⟩
        refine ⟨_, rfl, _, _, _, _, _, rfl, .ty "tuple", .base (.tup et), kit_ty kt, _, rfl, iteF ?_⟩
        refine ⟨_, rfl, t, _, rfl, .inr (SqT.of et), rfl, _, rfl, ifF rfl ?_⟩
        refine ⟨_, rfl, t, rfl, ⟨_, SqT.of et⟩, fun C hC => ?_⟩
        refine lc_tup (K := K) (a := t) (xs := [x, y]) (fun i G' => G' C = some (.lst ((([x, y].take i).map addrB).map V.bl)) ∧ Same G G') ⟨upd_same, same_upd hC⟩ (fun i G' _ h => SqT.of (h.2 _ _ et)) ?_ ?_
        · rintro i' x' G' hx' ⟨hG', sm'⟩
          have an : Any G' x' := by
            have hmem := List.mem_of_getElem? hx'
            simp only [List.mem_cons, List.not_mem_nil, or_false] at hmem
            rcases hmem with rfl | rfl
            · exact ax.same sm'
            · exact ay.same sm'
          have il' := (List.getElem?_eq_some_iff.mp hx').1
          have il2 : i' < 2 := il'
          have fin : ∀ v : Bool, v = addrB x' → ∃ xs, G' C = some (.lst xs) ∧ xs.length < sizeLine ∧ (upd G' C (.lst (xs ++ [.bl v]))) C = some (.lst ((([x, y].take (i' + 1)).map addrB).map V.bl)) ∧ Same G (upd G' C (.lst (xs ++ [.bl v]))) := by
            rintro v rfl
            refine ⟨_, hG', (by rw [List.length_map, List.length_map, List.length_take]; omega), ?_, fun c o e => ?_⟩
            · rw [upd_same, take_at hx', List.map_append, List.map_append]
              rfl
            · rw [upd_ne (ne_of_none e hC)]
              exact sm' c o e
          obtain ⟨Ty, ty, k1, k2⟩ := an.ty (K := K)
          refine ⟨rfl, _, rfl, _, _, _, _, _, rfl, .ty "int", ty, kit_ty k1, _, rfl, ?_⟩
          cases hv : (isI x' || isB x') with
          | false =>
            refine iteF (fin false ?_)
            cases x' <;> first | rfl | cases hv
          | true =>
            refine iteT ⟨_, rfl, _, _, _, _, _, rfl, .ty "bool", ty, kit_ty k2, _, rfl, _, rfl, ?_⟩
            cases x' with
            | int i => exact iteT ⟨_, rfl, _, _, rfl, rfl, fin _ rfl⟩
            | bl b => exact iteF (fin false rfl)
            | _ => cases hv
        rintro GC ⟨hC1, sC⟩
        refine ⟨C, [addrB x, addrB y], rfl, SqL.of hC1, _, rfl, ?_⟩
        have hLC := sC _ _ hL1
        have hOC := sC _ _ hO1
        have smC := sm1.trans sC
        have etC := sC _ _ et
        by_cases hab : (addrB x && addrB y) = true
        case neg =>
          have hab' : ([addrB x, addrB y].all id) = false := by
            cases h1 : addrB x <;> cases h2 : addrB y <;> first | rfl | (rw [h1, h2] at hab; exact absurd rfl hab)
          refine ifT (by rw [hab']; rfl) ⟨_, rfl, bad GC sC ?_⟩
          rcases hxy with ⟨a1, b1, rfl, rfl, em⟩ | ⟨em, _⟩
          · rintro ⟨a2, b2, k, e, g0, g1, _⟩
            rw [hmi, em] at e
            cases e
            refine hab ?_
            show (decide (0 ≤ a1) && decide (0 ≤ b1)) = true
            rw [decide_eq_true g0, decide_eq_true g1]
            rfl
          · exact none_bad em
        have hab' : ([addrB x, addrB y].all id) = true := by
          cases h1 : addrB x <;> cases h2 : addrB y <;> first | rfl | (rw [h1, h2] at hab; exact absurd hab (by decide))
        refine ifF (by rw [hab']; rfl) ?_
        rcases hxy with ⟨a1, b1, rfl, rfl, em⟩ | ⟨_, no⟩
        case inr =>
          exfalso
          rw [Bool.and_eq_true] at hab
          rw [addr_int hab.1, addr_int hab.2] at no
          cases no
        rw [em] at hmi
        have hab2 : (decide (0 ≤ a1) && decide (0 ≤ b1)) = true := hab
        rw [Bool.and_eq_true, decide_eq_true_eq, decide_eq_true_eq] at hab2
        obtain ⟨g0, g1⟩ := hab2
        refine ⟨_, rfl, t, _, _, _, rfl, rfl, .inl (.inl etC), rfl, _, rfl, t, _, _, _, rfl, rfl, .inl (.inl etC), rfl, rfl, _, rfl, ?_⟩
        by_cases hne : V.int a1 = V.int b1
        · refine ifT (decide_eq_true hne) ⟨_, rfl, bad GC sC ?_⟩
          rintro ⟨a2, b2, k, e, _, _, ne, _⟩
          rw [hmi] at e
          cases e
          exact ne (V.int.inj hne)
        refine ifF (decide_eq_false hne) ?_
        have ne1 : a1 ≠ b1 := fun z => hne (by rw [z])
        refine ⟨_, rfl, t, _, _, _, rfl, rfl, .inl (.inl etC), rfl, _, rfl, Dl, _, rfl, DGet.k (k := Sum.inl a1) hLC, _, rfl, ?_⟩
        by_cases hin : ∃ k, (a1, k, false) ∈ bs
        case neg =>
          have hv : valV (lvK (unpB bs)) (Sum.inl a1) = none := lvK_none fun c hc e => by
            obtain ⟨h1, h2⟩ := List.mem_filter.mp hc
            have h3 : c.2.2 = false := by simpa using h2
            exact hin ⟨c.2.1, by rw [← h3, ← e]; exact h1⟩
          refine ifT (by rw [hv]; rfl) ⟨_, rfl, bad GC sC ?_⟩
          rintro ⟨a2, b2, k, e, _, _, _, g3, _⟩
          rw [hmi] at e
          cases e
          exact hin ⟨k, g3⟩
        obtain ⟨k, hk⟩ := hin
        have hv : valV (lvK (unpB bs)) (Sum.inl a1) = some (.int (k : Nat)) := lvK_get (cs := unpB bs) (b := (a1, k, false)) ((wf.rise gd).filter _) (List.mem_filter.mpr ⟨hk, rfl⟩)
        refine ifF (by rw [hv]; rfl) ?_
        have flatO : ((oldsOf (ms.take i)).map V.int).all flatV = true := by
          rw [List.all_map, List.all_eq_true]
          intro z _
          rfl
        have inO : inV (.int a1) ((oldsOf (ms.take i)).map V.int) = decide (a1 ∈ oldsOf (ms.take i)) := inV_ints ..
        refine ⟨_, rfl, t, _, _, _, rfl, rfl, .inl (.inl etC), rfl, _, rfl, O, _, rfl, .inl (SqL.of hOC), rfl, flatO, _, rfl, ?_⟩
        by_cases ho : a1 ∈ oldsOf (ms.take i)
        · refine ifT (by rw [inO]; exact decide_eq_true ho) ⟨_, rfl, bad GC sC ?_⟩
          rintro ⟨a2, b2, k, e, _, _, _, _, g4, _⟩
          rw [hmi] at e
          cases e
          exact g4 ho
        refine ifF (by rw [inO]; exact decide_eq_false ho) ?_
        have kl : k < ns.length := (wf.ok _ hk).1
        have z1 := (chain gd).pos k kl
        have hsC := smC _ _ B.hs
        refine ⟨_, rfl, _, rfl, _, rfl, t, _, _, _, rfl, rfl, .inl (.inl etC), rfl, Dl, _, rfl, (by rw [← hv]; exact DGet.k (k := Sum.inl a1) hLC), s, _, _, _, rfl, rfl, SqL.of hsC, at_sz kl, ?_⟩
        refine ⟨_, rfl, t, _, _, _, rfl, rfl, .inl (.inl etC), rfl, _, rfl, _, _, rfl, rfl, (by show (0 : Int) < sz ns k; omega), rfl, _, rfl, ?_⟩
        have only : ∀ {a2 b2 : Int} {k2 : Nat}, (a2, k2, false) ∈ bs → a2 = a1 → k2 = k := fun {a2 b2 k2} h e => by
          subst e
          exact (lev_is wf gd h).symm.trans (lev_is wf gd hk)
        by_cases hm0 : V.int (b1 % sz ns k) = V.int 0
        case neg =>
          refine ifT (by rw [decide_eq_false hm0]; rfl) ⟨_, rfl, bad GC sC ?_⟩
          rintro ⟨a2, b2, k2, e, _, _, _, g3, _, g5, _⟩
          rw [hmi] at e
          cases e
          rw [only (b2 := 0) g3 rfl] at g5
          exact hm0 (by rw [g5])
        refine ifF (by rw [decide_eq_true hm0]; rfl) ?_
        refine ⟨_, rfl, t, _, _, _, rfl, rfl, .inl (.inl etC), rfl, _, rfl, _, _, rfl, rfl, _, rfl, _, _, rfl, rfl, _, rfl, ?_⟩
        by_cases hl : n < b1 + sz ns k
        · refine ifT (decide_eq_true hl) ⟨_, rfl, bad GC sC ?_⟩
          rintro ⟨a2, b2, k2, e, _, _, _, g3, _, _, g6⟩
          rw [hmi] at e
          cases e
          rw [only (b2 := 0) g3 rfl] at g6
          omega
        refine ifF (decide_eq_false hl) ?_
        refine ⟨_, rfl, .inl ⟨rfl, _, SqL.of hOC⟩, _, rfl, t, _, _, _, rfl, rfl, .inl (.inl etC), rfl, O, _, _, rfl, rfl, hOC, ?_, ?_⟩
        · have h1 := List.length_filterMap_le (fun m : Mo => m.map Prod.fst) (ms.take i)
          rw [List.length_take] at h1
          have h2 := hm.len
          rw [List.length_map]
          unfold oldsOf
          omega
        have bt : But1 O GC (upd GC O (.lst ((oldsOf (ms.take i)).map V.int ++ [.int a1]))) := fun c o nc ec => by
          rw [upd_ne nc]
          exact ec
        refine ⟨⟨_, _, _, rfl⟩, fun c o e => bt c o (ne_of_none e fO) (smC c o e), bt _ _ nOD.symm hLC, ?_, fun j hj => ?_⟩
        · rw [upd_same, olds_take hmi, List.map_append]
          rfl
        · rcases Nat.lt_or_ge j i with z | z
          · exact hall j z
          · obtain rfl : j = i := by omega
            exact ⟨a1, b1, k, hmi, g0, g1, ne1, hk, ho, V.int.inj hm0, by omega⟩
      · rintro σ G ⟨⟨x8, x9, x10, rfl⟩, sm, hLG, hOG, hall⟩
        rw [hm.len, List.take_length] at hOG
        rw [hm.len] at hall
        obtain ⟨mm, em, Ft⟩ := fit_of hall
        subst em
        rw [olds_some] at hOG
        have lmm : xs.length = mm.length := by rw [hm.len, List.length_map]
        have hsG := sm _ _ B.hs
        have lok : LawOk ns bs mm → OkR ns n bs (some (mm.map some)) := fun h => ⟨hall, fun mm' e => by
          have e2 : mm = mm' := (List.map_inj_right (fun _ _ z => Option.some.inj z)).mp e
          rw [← e2]
          exact h⟩
        -- the ranges
        refine ⟨_, rfl, L, rfl, ⟨_, SqL.of (sm _ _ hL)⟩, fun U hU => ?_⟩
        refine lc_list (K := K) (a := L) (xs := xs) (fun i G' => ∃ us, G' U = some (.lst (us.map V.ref)) ∧ Refs prV G' us ((mm.take i).map (rg ns bs)) ∧ Same G G') ⟨[], upd_same, .nil, same_upd hU⟩ (fun i G' _ ⟨_, _, _, s'⟩ => SqL.of ((sm.trans s') _ _ hL)) ?_ ?_
        · rintro i x G' hx ⟨us, hG', rfU, s'⟩
          obtain ⟨t, a1, b1, rfl, et, emm⟩ := (hm.same (sm.trans s')).at_some hx
          obtain ⟨k, hk, _⟩ := Ft.at_ i a1 b1 emm
          have kl : k < ns.length := (wf.ok _ hk).1
          have hv : valV (lvK (unpB bs)) (Sum.inl a1) = some (.int (k : Nat)) := lvK_get (cs := unpB bs) (b := (a1, k, false)) ((wf.rise gd).filter _) (List.mem_filter.mpr ⟨hk, rfl⟩)
          have il := (List.getElem?_eq_some_iff.mp emm).1
          have ul := rfU.len
          rw [List.length_map, List.length_take] at ul
          refine ⟨rfl, _, rfl, t, _, _, _, rfl, rfl, .inl (.inl et), rfl, _, rfl, t, _, _, _, rfl, rfl, .inl (.inl et), rfl, _, rfl, _, rfl, _, rfl, t, _, _, _, rfl, rfl, .inl (.inl et), rfl, Dl, _, rfl, (by rw [← hv]; exact DGet.k (k := Sum.inl a1) (s' _ _ hLG)), s, _, _, _, rfl, rfl, SqL.of (s' _ _ hsG), at_sz kl, _, _, rfl, rfl, (by show 2 ≤ sizeLine; decide), fun u hu => ?_⟩
          have su := same_upd (o := .tup [.int b1, .int (b1 + sz ns k)]) hu
          have hu2 : (upd G' u (.tup [.int b1, .int (b1 + sz ns k)])) u = some (.tup (prV (b1, b1 + sz ns k))) := upd_same
          have hG2 := su _ _ hG'
          have rf2 := rfU.same su
          have s2' := s'.trans su
          generalize upd G' u (.tup [.int b1, .int (b1 + sz ns k)]) = G2 at *
          refine ⟨_, hG2, (by rw [List.length_map]; omega), us ++ [u], by rw [upd_same, List.map_append]; rfl, ?_, fun c o e => ?_⟩
          · rw [take_at emm, List.map_append]
            have er : rg ns bs (a1, b1) = (b1, b1 + sz ns k) := by
              unfold rg
              rw [lev_is wf gd hk]
            refine ((rf2.app (Refs.one (by rw [er]; exact hu2))).mono fun c zs ec => ?_)
            rw [upd_ne (fun z => by rw [z, hG2] at ec; cases ec)]
            exact ec
          · rw [upd_ne (ne_of_none e hU)]
            exact s2' c o e
        rintro GU ⟨us, hUU, rfU, sU⟩
        rw [lmm, List.take_length] at rfU
        have smU := sm.trans sU
        have hOU := sU _ _ hOG
        have BU := B.same smU
        -- the blocks that stay
        refine ⟨_, rfl, a, rfl, ⟨_, SqL.of BU.ha⟩, fun W hW => ?_⟩
        refine lc_list (K := K) (a := a) (xs := qs.map V.ref) (fun i G' => ∃ ws, G' W = some (.lst (ws.map V.ref)) ∧ Refs prV G' ws (((bs.take i).filter fun c => !decide (c.1 ∈ mm.map Prod.fst)).map (rb ns)) ∧ Same GU G') ⟨[], upd_same, .nil, same_upd hW⟩ (fun i G' _ ⟨_, _, _, s'⟩ => SqL.of (s' _ _ BU.ha)) ?_ ?_
        · rintro i x G' hx ⟨ws, hG', rfW, s'⟩
          obtain ⟨p, hp, rfl⟩ := ref_of hx
          obtain ⟨b, hb, hT⟩ := (BU.rf.same s').get hp
          have hT' : G' p = some (.tup [.int b.1, .int (b.2.1 : Nat), .bl b.2.2]) := hT
          have bk := (wf.ok b (List.mem_of_getElem? hb)).1
          have il := (List.getElem?_eq_some_iff.mp hb).1
          have fa := filter_at (fun c => !decide (c.1 ∈ mm.map Prod.fst)) hb
          have fl := List.length_filter_le (fun c : Blk => !decide (c.1 ∈ mm.map Prod.fst)) (bs.take i)
          rw [List.length_take] at fl
          have wl := rfW.len
          rw [List.length_map] at wl
          refine ⟨rfl, _, rfl, p, _, _, _, rfl, rfl, .inl (.inl hT'), rfl, _, rfl, O, _, rfl, .inl (SqL.of (s' _ _ hOU)), rfl, flat_ints _, _, rfl, ?_⟩
          by_cases hin : b.1 ∈ mm.map Prod.fst
          · rw [if_neg (by rw [decide_eq_true hin]; decide), List.append_nil] at fa
            refine ifF (by show (!inV (.int b.1) _) = false; rw [inV_ints, decide_eq_true hin]; rfl) ⟨ws, hG', ?_, s'⟩
            rw [fa]
            exact rfW
          · rw [if_pos (by rw [decide_eq_false hin]; rfl)] at fa
            refine ifT (by show (!inV (.int b.1) _) = true; rw [inV_ints, decide_eq_false hin]; rfl) ⟨_, rfl, p, _, _, _, rfl, rfl, .inl (.inl hT'), rfl, _, rfl, p, _, _, _, rfl, rfl, .inl (.inl hT'), rfl, _, rfl, _, rfl, p, _, _, _, rfl, rfl, .inl (.inl hT'), rfl, s, _, _, _, rfl, rfl, SqL.of (s' _ _ BU.hs), at_sz bk, _, _, rfl, rfl, (by show 2 ≤ sizeLine; decide), fun u hu => ?_⟩
            have su := same_upd (o := .tup [.int b.1, .int (b.1 + sz ns b.2.1)]) hu
            have hu2 : (upd G' u (.tup [.int b.1, .int (b.1 + sz ns b.2.1)])) u = some (.tup (prV (rb ns b))) := upd_same
            have hG2 := su _ _ hG'
            have rf2 := rfW.same su
            have s2' := s'.trans su
            generalize upd G' u (.tup [.int b.1, .int (b.1 + sz ns b.2.1)]) = G2 at *
            refine ⟨_, hG2, (by rw [List.length_map]; omega), ws ++ [u], by rw [upd_same, List.map_append]; rfl, ?_, fun c o e => ?_⟩
            · rw [fa, List.map_append]
              refine ((rf2.app (Refs.one hu2)).mono fun c zs ec => ?_)
              rw [upd_ne (fun z => by rw [z, hG2] at ec; cases ec)]
              exact ec
            · rw [upd_ne (ne_of_none e hW)]
              exact s2' c o e
        rintro GW ⟨ws, hWW, rfW, sW⟩
        rw [List.length_map, pl, List.take_length] at rfW
        have smW := smU.trans sW
        have hUW := sW _ _ hUU
        have rfUW := rfU.same sW
        have ul := rfU.len
        have wl := rfW.len
        rw [List.length_map] at ul wl
        have fl := List.length_filter_le (fun c : Blk => !decide (c.1 ∈ mm.map Prod.fst)) bs
        refine ⟨_, rfl, U, _, rfl, SqL.of hUW, ?_⟩
        refine for_it (walk_enum (xs := us.map V.ref)) (fun i σ G' => (∃ x8 x9 x10 x11 x13 x14, σ = [some (.ref s), some (.int n), some (.ref a), some (.ref L), some (.ref U), some (.ref W), some (.ref Dl), some (.ref O), x8, x9, x10, x11, none, x13, x14]) ∧ Same GW G' ∧ ∀ p, p < i → ∀ m, mm[p]? = some m → ∀ o ∈ ((mm.map (rg ns bs)).take p ++ (mm.map (rg ns bs)).drop (p + 1)) ++ (bs.filter fun c => !decide (c.1 ∈ mm.map Prod.fst)).map (rb ns), ovB (rg ns bs m) o = false)
          ⟨⟨_, _, _, _, _, _, rfl⟩, Same.refl _, fun j hj => absurd hj (Nat.not_lt_zero j)⟩ (fun i σ G' _ h => SqL.of (h.2.1 _ _ hUW)) ?_ ?_
        · rintro i x σ GA GB hi ⟨⟨x8', x9', x10', x11, x13, x14, rfl⟩, s', hall'⟩ ⟨T', y1, y2, rfl, hT, rfl, e1, e2⟩
          cases e1
          obtain ⟨u, hu, rfl⟩ := ref_of e2
          have sT := same_upd (o := .tup [.int (i : Nat), .ref u]) hT
          have s1' := s'.trans sT
          obtain ⟨m0, hm0, et⟩ := (rfUW.same s1').get hu
          have et' : (upd GA T' (.tup [.int (i : Nat), .ref u])) u = some (.tup [.int m0.1, .int m0.2]) := et
          have il := (List.getElem?_eq_some_iff.mp hm0).1
          rw [List.length_map] at il
          have emi := List.getElem?_eq_getElem il
          have em0 : m0 = rg ns bs mm[i] := by
            rw [List.getElem?_map, emi] at hm0
            exact (Option.some.inj hm0).symm
          refine ⟨T', _, rfl, .inl (.inl upd_same), rfl, _, _, rfl, _, _, rfl, u, _, rfl, .inl (.inl et'), rfl, _, _, rfl, _, _, rfl, rfl, rfl, ?_⟩
          have hU1 := s1' _ _ hUW
          have hW1 := s1' _ _ hWW
          have rfU1 := rfUW.same s1'
          have rfW1 := rfW.same s1'
          generalize (upd GA T' (.tup [.int (i : Nat), .ref u])) = G1' at *
          refine ⟨_, rfl, _, rfl, _, rfl, U, _, rfl, SqL.of hU1, fun q1' hq1 => ?_⟩
          have sA := same_upd (o := .lst (cutV (us.map V.ref) none (some (i : Int)))) hq1
          have hA : (upd G1' q1' (.lst (cutV (us.map V.ref) none (some (i : Int))))) q1' = some (.lst ((us.take i).map V.ref)) := by rw [upd_same, cut_to, List.map_take]
          have hU2 := sA _ _ hU1
          generalize (upd G1' q1' (.lst (cutV (us.map V.ref) none (some (i : Int))))) = G2' at sA hA hU2
          refine ⟨_, rfl, _, rfl, _, _, rfl, rfl, _, rfl, U, _, rfl, SqL.of hU2, fun q2' hq2 => ?_⟩
          have sB := same_upd (o := .lst (cutV (us.map V.ref) (some ((i : Int) + 1)) none)) hq2
          have hB : (upd G2' q2' (.lst (cutV (us.map V.ref) (some ((i : Int) + 1)) none))) q2' = some (.lst ((us.drop (i + 1)).map V.ref)) := by
            rw [upd_same, show ((i : Int) + 1) = ((i + 1 : Nat) : Int) by omega, cut_from, List.map_drop]
          have hA2 := sB _ _ hA
          generalize (upd G2' q2' (.lst (cutV (us.map V.ref) (some ((i : Int) + 1)) none))) = G3' at sB hB hA2
          refine ⟨q1', q2', _, _, rfl, rfl, hA2, hB, (by rw [List.length_map, List.length_map, List.length_take, List.length_drop]; omega), fun q3' hq3 => ?_⟩
          rw [← List.map_append]
          have sC := same_upd (o := .lst ((us.take i ++ us.drop (i + 1)).map V.ref)) hq3
          have hC : (upd G3' q3' (.lst ((us.take i ++ us.drop (i + 1)).map V.ref))) q3' = some (.lst ((us.take i ++ us.drop (i + 1)).map V.ref)) := upd_same
          generalize (upd G3' q3' (.lst ((us.take i ++ us.drop (i + 1)).map V.ref))) = G4' at sC hC
          have sABC := (sA.trans sB).trans sC
          refine ⟨_, rfl, q3', W, _, _, rfl, rfl, hC, sABC _ _ hW1, (by rw [List.length_map, List.length_map, List.length_append, List.length_take, List.length_drop]; omega), fun q4' hq4 => ?_⟩
          rw [← List.map_append]
          have sD := same_upd (o := .lst ((us.take i ++ us.drop (i + 1) ++ ws).map V.ref)) hq4
          have hD4 : (upd G4' q4' (.lst ((us.take i ++ us.drop (i + 1) ++ ws).map V.ref))) q4' = some (.lst ((us.take i ++ us.drop (i + 1) ++ ws).map V.ref)) := upd_same
          generalize (upd G4' q4' (.lst ((us.take i ++ us.drop (i + 1) ++ ws).map V.ref))) = G5' at sD hD4
          have sE := sABC.trans sD
          have rfO : Refs prV G5' (us.take i ++ us.drop (i + 1) ++ ws) (((mm.map (rg ns bs)).take i ++ (mm.map (rg ns bs)).drop (i + 1)) ++ (bs.filter fun c => !decide (c.1 ∈ mm.map Prod.fst)).map (rb ns)) := (((rfU1.same sE).take i).app ((rfU1.same sE).drop (i + 1))).app (rfW1.same sE)
          have ol := rfO.len
          have olen : (us.take i ++ us.drop (i + 1) ++ ws).length ≤ 2016 := by
            rw [List.length_append, List.length_append, List.length_take, List.length_drop]
            omega
          generalize us.take i ++ us.drop (i + 1) ++ ws = os at hD4 rfO ol olen
          generalize hot : ((mm.map (rg ns bs)).take i ++ (mm.map (rg ns bs)).drop (i + 1)) ++ (bs.filter fun c => !decide (c.1 ∈ mm.map Prod.fst)).map (rb ns) = ot at rfO ol
          refine ⟨_, rfl, q4', rfl, ⟨_, SqL.of hD4⟩, fun C hC => ?_⟩
          refine lc_list (K := K) (a := q4') (xs := os.map V.ref) (fun j G' => G' C = some (.lst (((ot.take j).map (ovB m0)).map V.bl)) ∧ Same G5' G') ⟨upd_same, same_upd hC⟩ (fun j G' _ ⟨_, z⟩ => SqL.of (z _ _ hD4)) ?_ ?_
          · rintro j x G' hx ⟨hG', z⟩
            obtain ⟨p, hp, rfl⟩ := ref_of hx
            obtain ⟨o, ho, hT2⟩ := (rfO.same z).get hp
            have hT2' : G' p = some (.tup [.int o.1, .int o.2]) := hT2
            have jl := (List.getElem?_eq_some_iff.mp ho).1
            have fin : ∀ v : Bool, v = ovB m0 o → ∃ xs, G' C = some (.lst xs) ∧ xs.length < sizeLine ∧ (upd G' C (.lst (xs ++ [.bl v]))) C = some (.lst (((ot.take (j + 1)).map (ovB m0)).map V.bl)) ∧ Same G5' (upd G' C (.lst (xs ++ [.bl v]))) := by
              rintro v rfl
              refine ⟨_, hG', (by rw [List.length_map, List.length_map, List.length_take]; omega), ?_, fun c o' e => ?_⟩
              · rw [upd_same, take_at ho, List.map_append, List.map_append]
                rfl
              · rw [upd_ne (ne_of_none e hC)]
                exact z c o' e
            refine ⟨rfl, _, rfl, p, _, _, _, rfl, rfl, .inl (.inl hT2'), rfl, _, rfl, _, _, rfl, rfl, _, rfl, ?_⟩
            by_cases c1 : o.1 < m0.2
            · refine ifT (decide_eq_true c1) ⟨_, rfl, _, rfl, p, _, _, _, rfl, rfl, .inl (.inl hT2'), rfl, _, _, rfl, rfl, fin _ ?_⟩
              unfold ovB
              rw [decide_eq_true c1]
              rfl
            · refine ifF (decide_eq_false c1) (fin _ ?_)
              unfold ovB
              rw [decide_eq_false c1]
              rfl
          rintro GC ⟨hGC, zC⟩
          rw [List.length_map, ol, List.take_length] at hGC
          refine ⟨C, ot.map (ovB m0), rfl, SqL.of hGC, _, rfl, ?_⟩
          have sAll := (s1'.trans sE).trans zC
          cases hany : (ot.map (ovB m0)).any id with
          | true =>
            refine ifT rfl ⟨_, rfl, ?_⟩
            refine q2 (fun ok => ?_) i GC (smW.trans sAll)
            have lo := ok.2 mm rfl
            obtain ⟨v, hv, hid⟩ := List.any_eq_true.mp hany
            obtain ⟨o, ho, rfl⟩ := List.mem_map.mp hv
            have hov : ovB m0 o = true := hid
            unfold ovB at hov
            rw [Bool.and_eq_true, decide_eq_true_eq, decide_eq_true_eq] at hov
            obtain ⟨l1, l2⟩ := lo i _ emi
            rw [← em0] at l1 l2
            rw [← hot] at ho
            rcases List.mem_append.mp ho with z | z
            · obtain ⟨qq, nq, eq⟩ := but_mem z
              rw [List.getElem?_map] at eq
              cases e3 : mm[qq]? with
              | none => rw [e3] at eq; cases eq
              | some m' =>
                rw [e3] at eq
                cases eq
                exact l1 qq m' e3 nq ⟨hov.2, hov.1⟩
            · obtain ⟨c, hc, rfl⟩ := List.mem_map.mp z
              obtain ⟨h1, h2⟩ := List.mem_filter.mp hc
              exact l2 c h1 (by simpa using h2) ⟨hov.2, hov.1⟩
          | false =>
            refine ifF rfl ⟨⟨_, _, _, _, _, _, rfl⟩, sAll, fun p hp m hpm o ho => ?_⟩
            rcases Nat.lt_or_ge p i with z | z
            · exact hall' p z m hpm o ho
            · obtain rfl : p = i := by omega
              rw [emi] at hpm
              cases hpm
              rw [← em0]
              rw [hot] at ho
              have := List.any_eq_false.mp hany (ovB m0 o) (List.mem_map.mpr ⟨o, ho, rfl⟩)
              simpa using this
        · rintro σ G' ⟨⟨x8', x9', x10', x11, x13, x14, rfl⟩, s', hall'⟩
          refine q1 (lok fun p m hpm => ?_) G' (smW.trans s')
          have pl2 := (List.getElem?_eq_some_iff.mp hpm).1
          have hf := hall' p (by rw [List.length_map, ul]; exact pl2) m hpm
          have nov : ∀ {o : Int × Int}, ovB (rg ns bs m) o = false → ¬ ov2 (rg ns bs m) o := fun {o} h z => by
            unfold ovB at h
            rw [decide_eq_true z.2, decide_eq_true z.1] at h
            cases h
          refine ⟨fun qq m' hq ne => nov (hf _ (List.mem_append_left _ (mem_but (by rw [List.getElem?_map, hq]; rfl) ne))), fun c hc hn => nov (hf _ (List.mem_append_right _ (List.mem_map.mpr ⟨c, List.mem_filter.mpr ⟨hc, by simpa using hn⟩, rfl⟩)))⟩
end
end K35

set_option Elab.async false
set_option linter.all false
set_option maxRecDepth 100000
set_option maxHeartbeats 4000000
/-! The mathematics of a rearrangement that is done: all moved blocks are taken out, then put in. -/
namespace K35
open PySem PySem.Spec PyProof.Rows L2 Gu Ex
def oldB (bs : List Blk) (m : Int × Int) : Blk := (m.1, lev bs m.1, false)
def newB (bs : List Blk) (m : Int × Int) : Blk := (m.2, lev bs m.1, false)
def tgt (mm : List (Int × Int)) (a : Int) : Int := match goal mm a with
  | some (b, _) => b
  | none => a
def mvd (mm : List (Int × Int)) (c : Blk) : Blk := (tgt mm c.1, c.2.1, c.2.2)
section
variable {ns : List Int} {n : Int} {bs cur stay : List Blk} {mm : List (Int × Int)}
theorem old_in (w : Wf ns n bs) (g : Good ns) (F : Fit ns n bs mm) {i : Nat} {m : Int × Int} (h : mm[i]? = some m) : oldB bs m ∈ bs ∧ 0 ≤ m.2 ∧ m.2 % sz ns (lev bs m.1) = 0 ∧ m.2 + sz ns (lev bs m.1) ≤ n ∧ lev bs m.1 < ns.length := by
  obtain ⟨a, b⟩ := m
  obtain ⟨k, h1, h2, h3, h4⟩ := F.at_ i a b h
  have e : lev bs a = k := lev_is w g h1
  unfold oldB
  refine ⟨?_, ?_, ?_, ?_, ?_⟩
  · show (a, lev bs a, false) ∈ bs
    rw [e]
    exact h1
  · exact h2
  · show b % sz ns (lev bs a) = 0
    rw [e]
    exact h3
  · show b + sz ns (lev bs a) ≤ n
    rw [e]
    exact h4
  · show lev bs a < ns.length
    rw [e]
    exact (w.ok _ h1).1
theorem take_snoc {α : Type} {l : List α} {i : Nat} {x : α} (h : l[i]? = some x) : l.take (i + 1) = l.take i ++ [x] := by
  rw [List.take_add_one, h]
  rfl
theorem erase_perm2 {α : Type} : ∀ {zs : List α} {k : Nat} {x : α}, zs[k]? = some x → zs.Perm (x :: zs.eraseIdx k)
  | [], _, _, h => by cases h
  | z :: r, 0, x, h => by
    cases h
    exact List.Perm.refl _
  | z :: r, k + 1, x, h => ((erase_perm2 (zs := r) (k := k) h).cons z).trans (List.Perm.swap x z _)
theorem take_step (w : Wf ns n bs) (g : Good ns) (F : Fit ns n bs mm) {i : Nat} {m : Int × Int} (hm : mm[i]? = some m) (p : bs.Perm ((mm.take i).map (oldB bs) ++ cur)) : ∃ j : Nat, cur[j]? = some (oldB bs m) ∧ bs.Perm ((mm.take (i + 1)).map (oldB bs) ++ cur.eraseIdx j) := by
  have h1 := p.mem_iff.mp (old_in w g F hm).1
  have hc : oldB bs m ∈ cur := by
    rcases List.mem_append.mp h1 with z | z
    · exfalso
      obtain ⟨m', hm', e⟩ := List.mem_map.mp z
      obtain ⟨q, hq, e2⟩ := mem_take_lt hm'
      have e3 : m'.1 = m.1 := congrArg (fun b : Blk => b.1) e
      have : q = i := F.nd q i m'.1 m'.2 m.2 e2 (by rw [hm, e3])
      omega
    · exact z
  obtain ⟨j, hj⟩ := List.mem_iff_getElem?.mp hc
  refine ⟨j, hj, ?_⟩
  rw [take_snoc hm, List.map_append, List.append_assoc]
  exact p.trans (List.Perm.append_left _ (erase_perm2 hj))
theorem Wf.nd (w : Wf ns n bs) (g : Good ns) : (bs.map fun b => b.1).Nodup := by
  refine List.pairwise_map.mpr (w.so.imp_of_mem fun {a b} ha hb h => ?_)
  have := (chain g).pos _ (w.ok a ha).1
  unfold bEnd at h
  omega
theorem stay_of (w : Wf ns n bs) (g : Good ns) (p : bs.Perm (mm.map (oldB bs) ++ stay)) {c : Blk} (hc : c ∈ stay) : c ∈ bs ∧ c.1 ∉ mm.map Prod.fst := by
  refine ⟨p.mem_iff.mpr (List.mem_append_right _ hc), fun hn => ?_⟩
  have nd := ((p.map fun b => b.1).nodup_iff).mp (w.nd g)
  rw [List.map_append] at nd
  have dj := (List.nodup_append.mp nd).2.2
  obtain ⟨m, hm, e⟩ := List.mem_map.mp hn
  exact dj m.1 (List.mem_map.mpr ⟨oldB bs m, List.mem_map.mpr ⟨m, hm, rfl⟩, rfl⟩) c.1 (List.mem_map.mpr ⟨c, hc, rfl⟩) e
theorem ins_perm (cur : List Blk) (j : Nat) (b : Blk) : (insB cur j b).Perm (cur ++ [b]) := by
  unfold insB
  have h : (cur.take j ++ [b] ++ cur.drop j).Perm (cur.take j ++ (cur.drop j ++ [b])) := by
    rw [List.append_assoc]
    exact List.Perm.append_left _ List.perm_append_comm
  refine h.trans ?_
  rw [← List.append_assoc, List.take_append_drop]
theorem put_step (w : Wf ns n bs) (g : Good ns) (F : Fit ns n bs mm) (ok : LawOk ns bs mm) (ps : bs.Perm (mm.map (oldB bs) ++ stay)) {i : Nat} {m : Int × Int} (hm : mm[i]? = some m) (p : cur.Perm (stay ++ (mm.take i).map (newB bs))) :
    FreeR ns cur m.2 (m.2 + sz ns (lev bs m.1)) ∧ ∀ j, (insB cur j (newB bs m)).Perm (stay ++ (mm.take (i + 1)).map (newB bs)) := by
  refine ⟨fun c hc => ?_, fun j => ?_⟩
  · have far : ∀ {r : Int × Int}, ¬ ov2 (rg ns bs m) r → r.2 ≤ m.2 ∨ m.2 + sz ns (lev bs m.1) ≤ r.1 := fun {r} h => by
      rcases Int.lt_or_le m.2 r.2 with z | z
      · rcases Int.lt_or_le r.1 (m.2 + sz ns (lev bs m.1)) with y | y
        · exact absurd ⟨z, y⟩ h
        · exact .inr y
      · exact .inl z
    rcases List.mem_append.mp (p.mem_iff.mp hc) with z | z
    · obtain ⟨h1, h2⟩ := stay_of w g ps z
      exact far ((ok i m hm).2 c h1 h2)
    · obtain ⟨m', hm', rfl⟩ := List.mem_map.mp z
      obtain ⟨q, hq, e2⟩ := mem_take_lt hm'
      exact far ((ok i m hm).1 q m' e2 (by omega))
  · refine (ins_perm cur j _).trans ?_
    rw [take_snoc hm, List.map_append, ← List.append_assoc]
    exact p.append_right _
theorem tgt_some (F : Fit ns n bs mm) {i : Nat} {m : Int × Int} (h : mm[i]? = some m) : tgt mm m.1 = m.2 := by
  unfold tgt
  rw [goal_some F (a := m.1) (b := m.2) h]
theorem tgt_none {a : Int} (h : a ∉ mm.map Prod.fst) : tgt mm a = a := by
  unfold tgt
  rw [goal_none h]
theorem fin_perm (w : Wf ns n bs) (g : Good ns) (F : Fit ns n bs mm) (ps : bs.Perm (mm.map (oldB bs) ++ stay)) (p : cur.Perm (stay ++ mm.map (newB bs))) : cur.Perm (bs.map (mvd mm)) := by
  refine p.trans (List.perm_append_comm.trans ((?_ : (mm.map (newB bs) ++ stay) = ((mm.map (oldB bs) ++ stay).map (mvd mm))) ▸ (ps.map (mvd mm)).symm))
  rw [List.map_append, List.map_map]
  congr 1
  · refine List.map_congr_left fun m hm => ?_
    obtain ⟨i, hi⟩ := List.mem_iff_getElem?.mp hm
    show newB bs m = mvd mm (oldB bs m)
    unfold newB mvd oldB
    rw [tgt_some F hi]
  · have : stay.map (mvd mm) = stay.map id := List.map_congr_left fun c hc => by
      unfold mvd
      rw [tgt_none (stay_of w g ps hc).2]
      rfl
    rw [this, List.map_id]
end
end K35

set_option Elab.async false
set_option linter.all false
set_option maxRecDepth 100000
set_option maxHeartbeats 4000000
set_option pp.maxSteps 900
namespace K35
open PySem PySem.Spec PyProof.Rows L2 Gu Ex
theorem lay_putB (zp bl : Addr) (n fr : Int) (z : Addr) : putF "block_list" (.ref z) (layF zp n fr bl) = layF zp n fr z := by
  have e : (("size_table" : Str) = ("block_list" : Str)) = False := by
    simp only [eq_iff_iff, iff_false]
    decide +kernel
  have e2 : (("cell_count" : Str) = ("block_list" : Str)) = False := by
    simp only [eq_iff_iff, iff_false]
    decide +kernel
  have e3 : (("free_count" : Str) = ("block_list" : Str)) = False := by
    simp only [eq_iff_iff, iff_false]
    decide +kernel
  simp [layF, putF, e, e2, e3]
section
variable {P : Program} {w : World} {K : PySem.W.Frag} {mg : Str → Option Value} {base : Heap} {f : Addr} {fd : FuncData}
def spClone (K : PySem.W.Frag) : Sp := fun vs H Q _ => ∃ (y zp bl dx : Addr) (ps : List Addr) (ns : List Int) (n : Int) (bs : List Blk), vs = [.ref y] ∧ Ly K H y zp bl dx ps ns n bs ∧
  ∀ y2 bl2 dx2 H', H y2 = none → H bl2 = none → Same H H' → Ly K H' y2 zp bl2 dx2 ps ns n bs → Q (.ref y2) H'
def spChk (K : PySem.W.Frag) : Sp := fun vs H Q _ => ∃ (y zp bl dx : Addr) (ps : List Addr) (ns : List Int) (n : Int) (bs : List Blk) (v : V) (o : Option (List Mo)), vs = [.ref y, v] ∧ Ly K H y zp bl dx ps ns n bs ∧ Th H v o ∧ OkR ns n bs o ∧ ∀ H', Same H H' → Q .non H'
theorem sc_check_rearrangement : FnScope ["layout", "value", "position"] ["layout", "value"] (defScope (top 37)) := ⟨rfl, rfl, rfl, by decide +kernel, rfl, by decide +kernel, by decide +kernel⟩
theorem ok_chk (T : Tx K mg) (D_first_wrong_move : Df P w K mg base 9 "first_wrong_move" ["layout", "value"] (spWrong K)) (F : FnP K "check_rearrangement" "check_rearrangement" (top 37) f fd) : FnOk P w K mg base CX0 10 f fd ["layout", "value"] (spChk K) := by
  refine F.ok sc_check_rearrangement (fun vs H Q E h => ?_) (fun cdv A outer s H vs Q E hr h => ⟨_, PSs.nox (pss_cons (ps_set (i := 2) sc_check_rearrangement.nd rfl (by first | exact Or.inl rfl | exact Or.inr rfl) (pcall D_first_wrong_move hr (pa_cons (pv 0) (pa_cons (pv 1) pa_nil)))) (pss_one (ps_if (pt_cmpR op_notN (pv 2) pe_non (nomark _)) (pss_one ps_never) pss_nil))), ?_⟩)
  · obtain ⟨y, zp, bl, dx, ps, ns, n, bs, v, o, rfl, _⟩ := h
    rfl
  · obtain ⟨y, zp, bl, dx, ps, ns, n, bs, v, o, rfl, L, th, ok, q⟩ := h
    refine ⟨_, rfl, _, rfl, y, zp, bl, dx, ps, ns, n, bs, v, o, rfl, L, th, fun _ H' sm => ?_, fun nok => absurd ok nok⟩
    refine ⟨_, rfl, rfl, _, rfl, ifF (by rw [decide_eq_true rfl]; rfl) (q H' sm)⟩
theorem okR_of {ns : List Int} {n : Int} {bs : List Blk} {mm : List (Int × Int)} (h : OkR ns n bs (some (mm.map some))) : Fit ns n bs mm ∧ LawOk ns bs mm := by
  obtain ⟨mm', e, Ft⟩ := fit_of h.1
  have e2 : mm = mm' := (List.map_inj_right (fun _ _ z => Option.some.inj z)).mp e
  rw [← e2] at Ft
  exact ⟨Ft, h.2 mm rfl⟩
def spRear (K : PySem.W.Frag) : Sp := fun vs H Q _ => ∃ (y zp bl dx a : Addr) (ps : List Addr) (ns : List Int) (n : Int) (bs : List Blk) (xs : List V) (mm : List (Int × Int)), vs = [.ref y, .ref a] ∧ Ly K H y zp bl dx ps ns n bs ∧ H a = some (.lst xs) ∧ Mvs H xs (mm.map some) ∧ xs.length ≤ 800 ∧ OkR ns n bs (some (mm.map some)) ∧ bs.length < 900 ∧
  ∀ y2 bl2 dx2 ps2 bs2 H', H y2 = none → H bl2 = none → Same H H' → Ly K H' y2 zp bl2 dx2 ps2 ns n bs2 → bs2.Perm (bs.map (mvd mm)) → Q (.ref y2) H'
end
end K35

set_option Elab.async false
set_option linter.all false
set_option maxRecDepth 100000
set_option maxHeartbeats 4000000
namespace Ex
open PySem PySem.Spec PySem.Calls PyProof.Rows L2 Gu
section
variable {X : Cx} {k j : Nat} {c m : Str} {sp : Sp} {o : Expr} {ta : TE} {pos : Pos}
/-- a property that is read in a comprehension's block -/
theorem ppropB (K : PySem.W.Frag) (D : Pf X.prog X.w X.K X.mg X.base k c m sp) (hr : Room j X.A) (he : PE X o ta) (hj : k + 1 ≤ j := by decide) (hK : X.K = K := by rfl) (hab : attributeBase o m X.env (eval o X.env) = eval o X.env := by rfl) :
    PE X (.Attribute o m pos) (tProp (He.ga K c) sp [] E0 ta) := by
  subst hK
  exact pprop D hr he hj hab
end
end Ex

set_option Elab.async false
set_option linter.all false
set_option maxRecDepth 100000
set_option maxHeartbeats 4000000
set_option pp.maxSteps 900
namespace K35
open PySem PySem.Spec PyProof.Rows L2 Gu Ex
def costI (ns : List Int) (bs : List Blk) (mm : List (Int × Int)) : Int := (mm.map fun m => sz ns (lev bs m.1)).sum
section
variable {P : Program} {w : World} {K : PySem.W.Frag} {mg : Str → Option Value} {base : Heap} {f : Addr} {fd : FuncData}
def spCost (K : PySem.W.Frag) : Sp := fun vs H Q _ => ∃ (y zp bl dx a : Addr) (ps : List Addr) (ns : List Int) (n : Int) (bs : List Blk) (xs : List V) (mm : List (Int × Int)), vs = [.ref y, .ref a] ∧ Ly K H y zp bl dx ps ns n bs ∧ H a = some (.lst xs) ∧ Mvs H xs (mm.map some) ∧ xs.length ≤ 800 ∧ OkR ns n bs (some (mm.map some)) ∧ ∀ H', Same H H' → Q (.int (costI ns bs mm)) H'
theorem sc_cost : FnScope ["layout", "moves", "levels", "old", "new"] ["layout", "moves"] (defScope (top 38)) := ⟨rfl, rfl, rfl, by decide +kernel, rfl, by decide +kernel, by decide +kernel⟩
theorem ok_cost (T : Tx K mg) (D_check_rearrangement : Df P w K mg base 10 "check_rearrangement" ["layout", "value"] (spChk K)) (M_unpinned_levels : Mf P w K mg base 1 "Layout" "unpinned_levels" ["self"] (spLevels K)) (P_sizes : Pf P w K mg base 1 "Layout" "sizes" (spSzs K)) (M_size : Mf P w K mg base 5 "Sizes" "size" ["self", "level"] (spSize K))
    (F : FnP K "cost" "cost" (top 38) f fd) : FnOk P w K mg base CX0 11 f fd ["layout", "moves"] (spCost K) := by
  refine F.ok sc_cost (fun vs H Q E h => ?_) (fun cdv A outer s H vs Q E hr h => ⟨_, PSs.nox (pss_cons (ps_expr (pcall D_check_rearrangement hr (pa_cons (pv 0) (pa_cons (pv 1) pa_nil)))) (pss_cons (ps_set (i := 2) sc_cost.nd rfl (by first | exact Or.inl rfl | exact Or.inr rfl) (pmeth0 M_unpinned_levels hr (pv 0))) (pss_one (ps_ret (pe_callB (cr_sum rfl) (by rfl) T.n_sum (by decide +kernel) (pa_cons (pe_lc (own := [("old", 3), ("new", 4)]) (g := gTup K 2 (gCons (gName 3) (gCons (gName 4) gNil))) rfl sc_cost.nd (pi_list (pv 1)) (blkOk_by (own := [("old", 3), ("new", 4)]) (N := ["layout", "moves", "levels", "old", "new"]) (sc := defScope (top 38)) (by decide +kernel)) (fun _ _ _ _ _ => pg_tup rfl (pgs_cons (pg_name (i := 3) sc_cost.nd rfl (Or.inl rfl)) (pgs_cons (pg_name (i := 4) sc_cost.nd rfl (Or.inl rfl)) pgs_nil))) (fun _ _ _ _ _ => pts_nil) (fun _ _ _ _ _ => (pmethB K M_size hr (ppropB K P_sizes hr (pv 0)) (pa_cons (pe_dget (u1 hr) (pv 2) (pv 3) (fun _ _ => rfl)) pa_nil)))) pa_nil)))))), ?_⟩)
  · obtain ⟨y, zp, bl, dx, a, ps, ns, n, bs, xs, mm, rfl, _⟩ := h
    rfl
  · obtain ⟨y, zp, bl, dx, a, ps, ns, n, bs, xs, mm, rfl, L, ha, hm, xl, ok, q⟩ := h
    have sl : sizeLine = 16777216 := sizeLine_eq
    obtain ⟨Ft, lo⟩ := okR_of ok
    have wf := L.wf
    have gd := L.gd
    have ml : xs.length = mm.length := by rw [hm.len, List.length_map]
    refine ⟨_, rfl, _, rfl, y, zp, bl, dx, ps, ns, n, bs, _, _, rfl, L, .list ha hm (by omega), ok, fun H1 s1 => ?_⟩
    have L1 := L.same s1
    refine ⟨_, rfl, y, dx, _, rfl, L1.at_, rfl, y, zp, bl, dx, ps, ns, n, bs, rfl, L1, fun Dl H2 d0 s2 hD => ?_⟩
    have L2 := L1.same s2
    have s12 := s1.trans s2
    have ha2 := s12 _ _ ha
    have hm2 := hm.same s12
    refine ⟨_, rfl, a, rfl, ⟨_, SqL.of ha2⟩, fun R hR => ?_⟩
    refine lc_list (K := K) (a := a) (xs := xs) (fun i G => G R = some (.lst (((mm.take i).map fun m => sz ns (lev bs m.1)).map V.int)) ∧ Same H2 G) ⟨upd_same, same_upd hR⟩ (fun i G _ h => SqL.of (h.2 _ _ ha2)) ?_ ?_
    · rintro i v G hv ⟨hG, sG⟩
      obtain ⟨t, p1, p2, rfl, et, emm⟩ := (hm2.same sG).at_some hv
      obtain ⟨o1, o2, o3, o4, o5⟩ := old_in wf gd Ft emm
      have hk : valV (lvK (unpB bs)) (Sum.inl p1) = some (.int (lev bs p1 : Nat)) := lvK_get (cs := unpB bs) (b := (p1, lev bs p1, false)) ((wf.rise gd).filter _) (List.mem_filter.mpr ⟨o1, rfl⟩)
      have LG := L2.same sG
      have il := (List.getElem?_eq_some_iff.mp emm).1
      refine ⟨t, _, rfl, .inl (.inl et), rfl, _, _, rfl, _, _, rfl, rfl, rfl, ?_⟩
      obtain ⟨dz, lz, z1, z2, _⟩ := LG.ap
      refine ⟨_, rfl, y, dx, _, rfl, LG.at_, y, zp, bl, dx, ps, ns, n, bs, rfl, LG, zp, dz, _, rfl, z1, rfl, _, rfl, _, rfl, Dl, _, rfl, (by rw [← hk]; exact DGet.k (k := Sum.inl p1) (sG _ _ hD)), ?_⟩
      refine ⟨zp, ns, lev bs p1, _, rfl, LG.szs, sz_at o5, ?_⟩
      refine ⟨_, hG, (by rw [List.length_map, List.length_map, List.length_take]; omega), ?_, fun c o e => ?_⟩
      · rw [upd_same, take_snoc emm, List.map_append, List.map_append]
        rfl
      · rw [upd_ne (ne_of_none e hR)]
        exact sG c o e
    rintro G ⟨hG, sG⟩
    rw [ml, List.take_length] at hG
    exact ⟨R, _, rfl, SqL.of hG, q G (s12.trans sG)⟩
end
end K35

set_option Elab.async false
set_option linter.all false
set_option maxRecDepth 100000
set_option maxHeartbeats 4000000
set_option pp.maxSteps 900
namespace K35
open PySem PySem.Spec PyProof.Rows L2 Gu Ex
section
variable {ns : List Int} {n : Int} {bs : List Blk} {mm : List (Int × Int)}
theorem plc_mvd (c : Blk) : (plc ns mm c).1 = (mvd mm c).1 ∧ (plc ns mm c).2.1 = bEnd ns (mvd mm c) := by
  unfold plc mvd tgt bEnd
  cases goal mm c.1 with
  | none => exact ⟨rfl, rfl⟩
  | some z => exact ⟨rfl, rfl⟩
theorem un_mvd (w : Wf ns n bs) (g : Good ns) (F : Fit ns n bs mm) (lo : LawOk ns bs mm) : Un ns n (bs.map (mvd mm)) := by
  refine ⟨fun b hb => ?_, ?_⟩
  · obtain ⟨c, hc, rfl⟩ := List.mem_map.mp hb
    by_cases h : c.1 ∈ mm.map Prod.fst
    · obtain ⟨i, b, hi⟩ := olds_mem h
      obtain ⟨o1, o2, o3, o4, o5⟩ := old_in w g F hi
      have e : c.2.1 = lev bs c.1 := (lev_is w g (p := c.2.2) hc).symm
      have t : tgt mm c.1 = b := tgt_some F hi
      have em : mvd mm c = (b, lev bs c.1, c.2.2) := by
        unfold mvd
        rw [t, e]
      rw [em]
      exact ⟨o5, o2, Int.dvd_of_emod_eq_zero o3, o4⟩
    · have em : mvd mm c = c := by
        unfold mvd
        rw [tgt_none h]
      rw [em]
      exact w.ok c hc
  · have no := List.pairwise_map.mp ((law_iff w g F).mpr lo)
    refine List.pairwise_map.mpr (no.imp fun {c d} h => ?_)
    obtain ⟨c1, c2⟩ := plc_mvd (ns := ns) (mm := mm) c
    obtain ⟨d1, d2⟩ := plc_mvd (ns := ns) (mm := mm) d
    unfold ov at h
    rw [c1, c2, d1, d2] at h
    unfold Dj
    rcases Int.lt_or_le (mvd mm c).1 (bEnd ns (mvd mm d)) with z | z
    · rcases Int.lt_or_le (mvd mm d).1 (bEnd ns (mvd mm c)) with y | y
      · exact absurd ⟨z, y⟩ h
      · exact .inl y
    · exact .inr z
def tgK (mm : List (Int × Int)) : List (Key × V) := mm.map fun m => (Sum.inl m.1, V.int m.2)
theorem tgK_none {a : Int} : ∀ {mm : List (Int × Int)}, a ∉ mm.map Prod.fst → valV (tgK mm) (Sum.inl a) = none
  | [], _ => rfl
  | m :: r, h => by
    show valV ((Sum.inl m.1, V.int m.2) :: tgK r) (Sum.inl a) = none
    rw [valV_neg (fun e => h (by rw [← Sum.inl.inj e]; exact List.mem_cons_self))]
    exact tgK_none fun z => h (List.mem_cons_of_mem _ z)
theorem tgK_get : ∀ {mm : List (Int × Int)} {m : Int × Int}, (mm.map Prod.fst).Nodup → m ∈ mm → valV (tgK mm) (Sum.inl m.1) = some (.int m.2)
  | x :: r, m, hn, hm => by
    have h2 := List.nodup_cons.mp hn
    show valV ((Sum.inl x.1, V.int x.2) :: tgK r) (Sum.inl m.1) = _
    rcases List.mem_cons.mp hm with e | e
    · subst e
      exact valV_pos rfl
    · rw [valV_neg (fun z => h2.1 (by
        have h3 : x.1 = m.1 := Sum.inl.inj z
        show x.1 ∈ _
        rw [h3]
        exact List.mem_map.mpr ⟨m, e, rfl⟩))]
      exact tgK_get h2.2 e
theorem merge_tg : ∀ (mm ds : List (Int × Int)), ((ds ++ mm).map Prod.fst).Nodup → mergeK (tgK ds) (tgK mm) = tgK (ds ++ mm)
  | [], ds, _ => by rw [List.append_nil]; rfl
  | m :: r, ds, h => by
    have no : valV (tgK ds) (Sum.inl m.1) = none := tgK_none fun z => by
      rw [List.map_append] at h
      exact (List.nodup_append.mp h).2.2 _ z m.1 List.mem_cons_self rfl
    show mergeK (putK (tgK ds) (Sum.inl m.1) (.int m.2)) (tgK r) = _
    rw [putK_new _ no]
    have e : tgK ds ++ [(Sum.inl m.1, V.int m.2)] = tgK (ds ++ [m]) := by
      unfold tgK
      rw [List.map_append]
      rfl
    rw [e, merge_tg r (ds ++ [m]) (by rw [List.append_assoc]; exact h), List.append_assoc]
    rfl
theorem Fit.nodup (F : Fit ns n bs mm) : (mm.map Prod.fst).Nodup := by
  refine List.pairwise_map.mpr (List.pairwise_iff_getElem.mpr fun i j hi hj hij e => ?_)
  have := F.nd i j mm[i].1 mm[i].2 mm[j].2 (List.getElem?_eq_getElem hi) (by rw [List.getElem?_eq_getElem hj, e])
  omega
theorem tg_paired {K : PySem.W.Frag} {G : Hp} {ps : List Addr} {mm : List (Int × Int)} (h : Refs prV G ps mm) : Paired (fun p kv => SqT K G p [kV kv.1, kv.2]) ps (tgK mm) := by
  induction h with
  | nil => exact .nil
  | cons e _ ih => exact .cons (SqT.of e) ih
theorem val_tg (F : Fit ns n bs mm) (a : Int) : valV (tgK mm) (Sum.inl a) = some (.int (tgt mm a)) ∨ valV (tgK mm) (Sum.inl a) = none ∧ tgt mm a = a := by
  by_cases h : a ∈ mm.map Prod.fst
  · obtain ⟨i, b, hi⟩ := olds_mem h
    have t : tgt mm a = b := tgt_some F hi
    rw [t]
    exact .inl (tgK_get (m := (a, b)) F.nodup (List.mem_of_getElem? hi))
  · exact .inr ⟨tgK_none h, tgt_none h⟩
end
section
variable {P : Program} {w : World} {K : PySem.W.Frag} {mg : Str → Option Value} {base : Heap} {f : Addr} {fd : FuncData}
def spAfter : Sp := fun vs H Q _ => ∃ (a l : Addr) (qs ps : List Addr) (ns : List Int) (n : Int) (bs : List Blk) (mm : List (Int × Int)), vs = [.ref a, .ref l] ∧ H a = some (.lst (qs.map V.ref)) ∧ Refs blkV H qs bs ∧ Wf ns n bs ∧ Good ns ∧ bs.length ≤ 800 ∧ H l = some (.lst (ps.map V.ref)) ∧ Refs prV H ps mm ∧ Fit ns n bs mm ∧ LawOk ns bs mm ∧
  ∀ a' qs' bs' H', H a' = none → Same H H' → H' a' = some (.lst (qs'.map V.ref)) → Refs blkV H' qs' bs' → Wf ns n bs' → bs'.Perm (bs.map (mvd mm)) → Q (.ref a') H'
theorem sc__law_after : FnScope ["_law_blocks_here", "_law_moves_here", "_law_targets", "_law_one"] ["_law_blocks_here", "_law_moves_here"] (defScope (top 56)) := ⟨rfl, rfl, rfl, by decide +kernel, rfl, by decide +kernel, by decide +kernel⟩
theorem ok_after (T : Tx K mg) (F : FnP K "_law_after" "_law_after" (top 56) f fd) : FnOk P w K mg base CX0 1 f fd ["_law_blocks_here", "_law_moves_here"] spAfter := by
  refine F.ok sc__law_after (fun vs H Q E h => ?_) (fun cdv A outer s H vs Q E hr h => ⟨_, PSs.nox (pss_cons (ps_set (i := 2) sc__law_after.nd rfl (by first | exact Or.inl rfl | exact Or.inr rfl) (pe_callTy (call_dictP rfl) (by rfl) T.n_dict (by decide +kernel) (pa_cons (pv 1) pa_nil))) (pss_one (ps_ret (pe_callB cr_sortedB (by rfl) T.n_sorted (by decide +kernel) (pa_cons (pe_lc (own := [("_law_one", 3)]) (g := gName 3) rfl sc__law_after.nd (pi_list (pv 0)) (blkOk_by (own := [("_law_one", 3)]) (N := ["_law_blocks_here", "_law_moves_here", "_law_targets", "_law_one"]) (sc := defScope (top 56)) (by decide +kernel)) (fun _ _ _ _ _ => pg_name (i := 3) sc__law_after.nd rfl (Or.inl rfl)) (fun _ _ _ _ _ => pts_nil) (fun _ _ _ _ _ => (pe_tup (pa_cons (pe_dget2 (u1 hr) (pv 2) (pe_ix (r := rIxT K) ix_tup (pv 3) pe_int (fun _ _ => rfl)) (pe_ix (r := rIxT K) ix_tup (pv 3) pe_int (fun _ _ => rfl)) ⟨rfl, rfl, rfl, rfl⟩) (pa_cons (pe_ix (r := rIxT K) ix_tup (pv 3) pe_int (fun _ _ => rfl)) (pa_cons (pe_ix (r := rIxT K) ix_tup (pv 3) pe_int (fun _ _ => rfl)) pa_nil)))))) pa_nil))))), ?_⟩)
  · obtain ⟨a, l, qs, ps, ns, n, bs, mm, rfl, _⟩ := h
    rfl
  · obtain ⟨a, l, qs, ps, ns, n, bs, mm, rfl, ha, rf, wf, gd, bl, hl, rfp, Ft, lo, q⟩ := h
    have sl : sizeLine = 16777216 := sizeLine_eq
    have pl := rf.len
    refine ⟨_, rfl, l, ps, tgK mm, rfl, SqL.of hl, tg_paired rfp, fun D hD => ?_⟩
    have em : mergeK [] (tgK mm) = tgK mm := merge_tg mm [] Ft.nodup
    rw [em]
    have s1 := same_upd (o := .dK (tgK mm)) hD
    have hD1 : (upd H D (.dK (tgK mm))) D = some (.dK (tgK mm)) := upd_same
    generalize upd H D (.dK (tgK mm)) = H1 at s1 hD1
    have ha1 := s1 _ _ ha
    have rf1 := rf.same s1
    refine ⟨_, rfl, a, rfl, ⟨_, SqL.of ha1⟩, fun R hR => ?_⟩
    refine lc_list (K := K) (a := a) (xs := qs.map V.ref) (fun i G => ∃ rs, G R = some (.lst (rs.map V.ref)) ∧ Refs blkV G rs ((bs.take i).map (mvd mm)) ∧ Same H1 G) ⟨[], upd_same, .nil, same_upd hR⟩ (fun i G _ ⟨_, _, _, sm⟩ => SqL.of (sm _ _ ha1)) ?_ ?_
    · rintro i x G hx ⟨rs, hG, rfr, sm⟩
      obtain ⟨p, hp, rfl⟩ := ref_of hx
      obtain ⟨b, hb, hT⟩ := (rf1.same sm).get hp
      have hT' : G p = some (.tup [.int b.1, .int (b.2.1 : Nat), .bl b.2.2]) := hT
      have il := (List.getElem?_eq_some_iff.mp hb).1
      have rl := rfr.len
      rw [List.length_map, List.length_take] at rl
      have fin : ∀ u : Addr, G u = none → ∃ xs, (upd G u (.tup [.int (tgt mm b.1), .int (b.2.1 : Nat), .bl b.2.2])) R = some (.lst xs) ∧ xs.length < sizeLine ∧ ∃ rs', (upd (upd G u (.tup [.int (tgt mm b.1), .int (b.2.1 : Nat), .bl b.2.2])) R (.lst (xs ++ [.ref u]))) R = some (.lst (rs'.map V.ref)) ∧ Refs blkV (upd (upd G u (.tup [.int (tgt mm b.1), .int (b.2.1 : Nat), .bl b.2.2])) R (.lst (xs ++ [.ref u]))) rs' ((bs.take (i + 1)).map (mvd mm)) ∧ Same H1 (upd (upd G u (.tup [.int (tgt mm b.1), .int (b.2.1 : Nat), .bl b.2.2])) R (.lst (xs ++ [.ref u]))) := fun u hu => by
        have su := same_upd (o := .tup [.int (tgt mm b.1), .int (b.2.1 : Nat), .bl b.2.2]) hu
        have hu2 : (upd G u (.tup [.int (tgt mm b.1), .int (b.2.1 : Nat), .bl b.2.2])) u = some (.tup (blkV (mvd mm b))) := upd_same
        have hG2 := su _ _ hG
        have rf2 := rfr.same su
        have sm2 := sm.trans su
        generalize upd G u (.tup [.int (tgt mm b.1), .int (b.2.1 : Nat), .bl b.2.2]) = G2 at *
        refine ⟨_, hG2, (by rw [List.length_map]; omega), rs ++ [u], by rw [upd_same, List.map_append]; rfl, ?_, fun c o e => ?_⟩
        · rw [take_snoc hb, List.map_append]
          refine ((rf2.app (Refs.one hu2)).mono fun c zs ec => ?_)
          rw [upd_ne (fun z => by rw [z, hG2] at ec; cases ec)]
          exact ec
        · rw [upd_ne (ne_of_none e hR)]
          exact sm2 c o e
      refine ⟨rfl, _, rfl, D, rfl, .inl ⟨_, .inl (sm _ _ hD1)⟩, _, rfl, p, _, _, _, rfl, rfl, .inl (.inl hT'), rfl, _, rfl, p, _, _, _, rfl, rfl, .inl (.inl hT'), rfl, _, DGet.k (k := Sum.inl b.1) (sm _ _ hD1), ?_⟩
      rcases val_tg Ft b.1 with z | ⟨z, z2⟩
      · rw [z]
        refine ⟨_, rfl, p, _, _, _, rfl, rfl, .inl (.inl hT'), rfl, _, rfl, p, _, _, _, rfl, rfl, .inl (.inl hT'), rfl, (by show 3 ≤ sizeLine; decide), fun u hu => ?_⟩
        exact fin u hu
      · rw [z]
        rw [z2] at fin
        refine ⟨_, rfl, p, _, _, _, rfl, rfl, .inl (.inl hT'), rfl, _, rfl, p, _, _, _, rfl, rfl, .inl (.inl hT'), rfl, (by show 3 ≤ sizeLine; decide), fun u hu => ?_⟩
        exact fin u hu
    rintro G ⟨rs, hG, rfr, sm⟩
    rw [List.length_map, pl, List.take_length] at rfr
    have un := un_mvd wf gd Ft lo
    obtain ⟨k1, k2⟩ := un.keys gd rfr
    refine ⟨R, _, keyV G, rfl, SqL.of hG, k1, k2, fun zs p hs' hp hpn => ?_⟩
    obtain ⟨qs', bs', rfl, rf', pm, wf'⟩ := un.sorted gd rfr hs' hp
    have s9 := same_upd (o := .lst (qs'.map V.ref)) hpn
    exact q p qs' bs' _ (s1.free (sm.free hpn)) ((s1.trans sm).trans s9) upd_same (rf'.same s9) wf' pm
end
end K35

set_option Elab.async false
set_option linter.all false
set_option maxRecDepth 100000
set_option maxHeartbeats 4000000
/-! Moves as maps of addresses: one after another, and back. -/
namespace K35
open PySem PySem.Spec PyProof.Rows L2 Gu Ex
abbrev Pr : Type := Int × Int
def ple (x y : Pr) : Prop := x.1 < y.1 ∨ (x.1 = y.1 ∧ x.2 ≤ y.2)
instance (x y : Pr) : Decidable (ple x y) := by unfold ple; infer_instance
theorem ple_tot {x y : Pr} (h : ¬ ple x y) : ple y x := by
  unfold ple at *
  omega
theorem ple_tr {x y z : Pr} (h : ple x y) (k : ple y z) : ple x z := by
  unfold ple at *
  omega
def insP (x : Pr) : List Pr → List Pr
  | [] => [x]
  | y :: r => if ple x y then x :: y :: r else y :: insP x r
def srtP : List Pr → List Pr
  | [] => []
  | x :: r => insP x (srtP r)
theorem insP_perm (x : Pr) : ∀ l, (insP x l).Perm (x :: l)
  | [] => List.Perm.refl _
  | y :: r => by
    unfold insP
    split
    · exact List.Perm.refl _
    · exact ((insP_perm x r).cons y).trans (List.Perm.swap x y r)
theorem srtP_perm : ∀ l, (srtP l).Perm l
  | [] => List.Perm.refl _
  | x :: r => (insP_perm x _).trans ((srtP_perm r).cons x)
theorem insP_so (x : Pr) : ∀ {l : List Pr}, l.Pairwise ple → (insP x l).Pairwise ple
  | [], _ => List.pairwise_singleton _ _
  | y :: r, h => by
    have hc := List.pairwise_cons.mp h
    unfold insP
    split
    · rename_i c
      refine List.pairwise_cons.mpr ⟨fun z hz => ?_, h⟩
      rcases List.mem_cons.mp hz with e | e
      · rw [e]; exact c
      · exact ple_tr c (hc.1 z e)
    · rename_i c
      refine List.pairwise_cons.mpr ⟨fun z hz => ?_, insP_so x hc.2⟩
      rcases List.mem_cons.mp ((insP_perm x r).mem_iff.mp hz) with e | e
      · rw [e]; exact ple_tot c
      · exact hc.1 z e
theorem srtP_so : ∀ l, (srtP l).Pairwise ple
  | [] => .nil
  | x :: r => insP_so x (srtP_so r)
theorem srt_uniq : ∀ {l m : List Pr}, l.Pairwise ple → m.Pairwise ple → l.Perm m → l = m
  | [], m, _, _, h => (List.Perm.eq_nil h.symm).symm
  | x :: l, [], _, _, h => absurd h.length_eq (by simp)
  | x :: l, y :: m, hl, hm, h => by
    have pl := List.pairwise_cons.mp hl
    have pm := List.pairwise_cons.mp hm
    have e : x = y := by
      rcases List.mem_cons.mp (h.mem_iff.mp (List.mem_cons_self (a := x) (l := l))) with e | e
      · exact e
      · rcases List.mem_cons.mp (h.mem_iff.mpr (List.mem_cons_self (a := y) (l := m))) with e2 | e2
        · exact e2.symm
        · have h1 := pm.1 x e
          have h2 := pl.1 y e2
          unfold ple at h1 h2
          exact Prod.ext (by omega) (by omega)
    subst e
    rw [srt_uniq pl.2 pm.2 (List.Perm.cons_inv h)]
theorem srt_eq {l m : List Pr} (so : l.Pairwise ple) (p : l.Perm m) : l = srtP m := srt_uniq so (srtP_so m) (p.trans (srtP_perm m).symm)
theorem srt_pm {l m : List Pr} (p : l.Perm m) : srtP l = srtP m := srt_eq (srtP_so l) ((srtP_perm l).trans p)
/-- where a list of moves brings an address -/
def go (mm : List Pr) (a : Int) : Int := ((mm.find? fun m => decide (m.1 = a)).map Prod.snd).getD a
theorem go_none {mm : List Pr} {a : Int} (h : a ∉ mm.map Prod.fst) : go mm a = a := by
  unfold go
  cases e : mm.find? fun m => decide (m.1 = a) with
  | none => rfl
  | some m =>
    have h1 : m.1 = a := by simpa using List.find?_some e
    exact absurd (List.mem_map.mpr ⟨m, List.mem_of_find?_eq_some e, h1⟩) h
theorem nd_inj {mm : List Pr} (n1 : (mm.map Prod.fst).Nodup) {a b c : Int} (h1 : (a, b) ∈ mm) (h2 : (a, c) ∈ mm) : b = c := by
  induction mm with
  | nil => cases h1
  | cons x r ih =>
    rw [List.map_cons] at n1
    have hn := List.nodup_cons.mp n1
    rcases List.mem_cons.mp h1 with e1 | e1
    · rcases List.mem_cons.mp h2 with e2 | e2
      · exact congrArg Prod.snd (e1.trans e2.symm)
      · exact absurd (List.mem_map.mpr ⟨_, e2, by rw [← e1]⟩) hn.1
    · rcases List.mem_cons.mp h2 with e2 | e2
      · exact absurd (List.mem_map.mpr ⟨_, e1, by rw [← e2]⟩) hn.1
      · exact ih hn.2 e1 e2
theorem go_some {mm : List Pr} (n1 : (mm.map Prod.fst).Nodup) {a b : Int} (h : (a, b) ∈ mm) : go mm a = b := by
  unfold go
  cases e : mm.find? fun m => decide (m.1 = a) with
  | none =>
    have := List.find?_eq_none.mp e _ h
    simp at this
  | some m =>
    obtain ⟨x, y⟩ := m
    have h1 : x = a := by simpa using List.find?_some e
    subst h1
    exact nd_inj n1 (List.mem_of_find?_eq_some e) h
theorem go_perm {mm mm' : List Pr} (n1 : (mm.map Prod.fst).Nodup) (p : mm'.Perm mm) (a : Int) : go mm' a = go mm a := by
  have n1' : (mm'.map Prod.fst).Nodup := ((p.map Prod.fst).nodup_iff).mpr n1
  by_cases h : a ∈ mm.map Prod.fst
  · obtain ⟨⟨x, b⟩, hm, e⟩ := List.mem_map.mp h
    have e : x = a := e
    subst e
    rw [go_some n1 hm, go_some n1' (p.mem_iff.mpr hm)]
  · rw [go_none h, go_none fun z => h ((p.map Prod.fst).mem_iff.mp z)]
def mvG (mm : List Pr) (c : Blk) : Blk := (go mm c.1, c.2.1, c.2.2)
structure GoodM (mm : List Pr) : Prop where
  p : ∀ m ∈ mm, 0 ≤ m.1 ∧ 0 ≤ m.2 ∧ m.1 ≠ m.2
  n1 : (mm.map Prod.fst).Nodup
  n2 : (mm.map Prod.snd).Nodup
theorem GoodM.nil : GoodM [] := ⟨(fun _ h => nomatch h), .nil, .nil⟩
theorem GoodM.perm {mm mm' : List Pr} (h : GoodM mm) (p : mm'.Perm mm) : GoodM mm' := ⟨fun m hm => h.p m (p.mem_iff.mp hm), ((p.map Prod.fst).nodup_iff).mpr h.n1, ((p.map Prod.snd).nodup_iff).mpr h.n2⟩
def ad (bs : List Blk) : List Int := bs.map fun b => b.1
/-- a rearrangement and the blocks afterwards -/
structure Rr (ns : List Int) (n : Int) (bs : List Blk) (mm : List Pr) (cs : List Blk) : Prop where
  wb : Wf ns n bs
  wc : Wf ns n cs
  gm : GoodM mm
  un : ∀ m ∈ mm, ∃ k, (m.1, k, false) ∈ bs
  pm : cs.Perm (bs.map (mvG mm))
section
variable {ns : List Int} {n : Int} {bs cs ds : List Blk} {mm : List Pr}
theorem Rr.perm {mm' : List Pr} (R : Rr ns n bs mm cs) (p : mm'.Perm mm) : Rr ns n bs mm' cs := by
  refine ⟨R.wb, R.wc, R.gm.perm p, fun m hm => R.un m (p.mem_iff.mp hm), ?_⟩
  have e : mvG mm' = mvG mm := funext fun c => by unfold mvG; rw [go_perm R.gm.n1 p]
  rw [e]
  exact R.pm
theorem Rr.srt (R : Rr ns n bs mm cs) : Rr ns n bs (srtP mm) cs := R.perm (srtP_perm mm)
theorem Rr.old (R : Rr ns n bs mm cs) {m : Pr} (h : m ∈ mm) : m.1 ∈ ad bs := by
  obtain ⟨k, hk⟩ := R.un m h
  exact List.mem_map.mpr ⟨_, hk, rfl⟩
theorem Rr.to (R : Rr ns n bs mm cs) {a : Int} {k : Nat} {p : Bool} (h : (a, k, p) ∈ bs) : (go mm a, k, p) ∈ cs := R.pm.mem_iff.mpr (List.mem_map.mpr ⟨_, h, rfl⟩)
theorem Rr.ad_to (R : Rr ns n bs mm cs) {a : Int} (h : a ∈ ad bs) : go mm a ∈ ad cs := by
  obtain ⟨⟨x, k, p⟩, hb, rfl⟩ := List.mem_map.mp h
  exact List.mem_map.mpr ⟨_, R.to hb, rfl⟩
theorem Rr.back (R : Rr ns n bs mm cs) {a : Int} {k : Nat} {p : Bool} (h : (a, k, p) ∈ cs) : ∃ x, (x, k, p) ∈ bs ∧ go mm x = a := by
  obtain ⟨⟨x, k', p'⟩, hb, e⟩ := List.mem_map.mp (R.pm.mem_iff.mp h)
  unfold mvG at e
  cases e
  exact ⟨x, hb, rfl⟩
theorem inj_of {α β : Type} {f : α → β} : ∀ {l : List α}, (l.map f).Nodup → ∀ {x y : α}, x ∈ l → y ∈ l → f x = f y → x = y
  | [], _, _, _, h, _, _ => nomatch h
  | z :: l, h, x, y, hx, hy, e => by
    rw [List.map_cons] at h
    have hn := List.nodup_cons.mp h
    rcases List.mem_cons.mp hx with e1 | e1
    · rcases List.mem_cons.mp hy with e2 | e2
      · rw [e1, e2]
      · exact absurd (List.mem_map.mpr ⟨y, e2, by rw [← e, e1]⟩) hn.1
    · rcases List.mem_cons.mp hy with e2 | e2
      · exact absurd (List.mem_map.mpr ⟨x, e1, by rw [e, e2]⟩) hn.1
      · exact inj_of hn.2 e1 e2 e
theorem Rr.inj (R : Rr ns n bs mm cs) (g : Good ns) {x y : Int} (hx : x ∈ ad bs) (hy : y ∈ ad bs) (e : go mm x = go mm y) : x = y := by
  have h1 : (ad cs).Nodup := R.wc.nd g
  have h2 : (ad cs).Perm (bs.map fun b => go mm b.1) := by
    have := R.pm.map fun b : Blk => b.1
    rw [List.map_map] at this
    exact this
  have h3 := h2.nodup_iff.mp h1
  obtain ⟨b, hb, rfl⟩ := List.mem_map.mp hx
  obtain ⟨c, hc, rfl⟩ := List.mem_map.mp hy
  rw [inj_of h3 hb hc e]
theorem Rr.mem (R : Rr ns n bs mm cs) {a c : Int} : (a, c) ∈ mm ↔ a ∈ ad bs ∧ go mm a = c ∧ a ≠ c := by
  constructor
  · intro h
    exact ⟨R.old h, go_some R.gm.n1 h, (R.gm.p _ h).2.2⟩
  · rintro ⟨_, h2, h3⟩
    by_cases h : a ∈ mm.map Prod.fst
    · obtain ⟨⟨x, b⟩, hm, e⟩ := List.mem_map.mp h
      have e : x = a := e
      subst e
      rw [go_some R.gm.n1 hm] at h2
      rw [← h2]
      exact hm
    · rw [go_none h] at h2
      exact absurd h2 h3
theorem Rr.nd (R : Rr ns n bs mm cs) : mm.Nodup := nodup_of_map Prod.fst R.gm.n1
where nodup_of_map {α β : Type} (f : α → β) : ∀ {l : List α}, (l.map f).Nodup → l.Nodup
  | [], _ => .nil
  | x :: l, h => by
    rw [List.map_cons] at h
    have hn := List.nodup_cons.mp h
    exact List.nodup_cons.mpr ⟨fun z => hn.1 (List.mem_map.mpr ⟨x, z, rfl⟩), nodup_of_map f hn.2⟩
theorem Rr.uniq {m1 m2 : List Pr} {c1 c2 : List Blk} (R1 : Rr ns n bs m1 c1) (R2 : Rr ns n bs m2 c2) (h : ∀ x ∈ ad bs, go m1 x = go m2 x) : srtP m1 = srtP m2 := by
  refine srt_pm ((List.perm_ext_iff_of_nodup R1.nd R2.nd).mpr fun ⟨a, c⟩ => ?_)
  rw [R1.mem, R2.mem]
  constructor
  · rintro ⟨h1, h2, h3⟩
    exact ⟨h1, (h a h1) ▸ h2, h3⟩
  · rintro ⟨h1, h2, h3⟩
    exact ⟨h1, (h a h1).symm ▸ h2, h3⟩
/-- a list of moves that does what a map does -/
theorem Rr.mk' {F : Int → Int} (g : Good ns) (wb : Wf ns n bs) (wd : Wf ns n ds) (pm : ds.Perm (bs.map fun b => (F b.1, b.2.1, b.2.2))) (n1 : (mm.map Prod.fst).Nodup) (h : ∀ m ∈ mm, (∃ k, (m.1, k, false) ∈ bs) ∧ m.2 = F m.1 ∧ m.1 ≠ m.2) (h2 : ∀ x ∈ ad bs, F x ≠ x → (x, F x) ∈ mm) :
    Rr ns n bs mm ds ∧ ∀ x ∈ ad bs, go mm x = F x := by
  have hgo : ∀ x ∈ ad bs, go mm x = F x := fun x hx => by
    by_cases e : F x = x
    · by_cases hm : x ∈ mm.map Prod.fst
      · obtain ⟨⟨a, b⟩, hm2, ea⟩ := List.mem_map.mp hm
        have ea : a = x := ea
        subst ea
        have := h _ hm2
        exact absurd (this.2.1.trans e).symm this.2.2
      · rw [go_none hm, e]
    · exact go_some n1 (h2 x hx e)
  have nd : (bs.map fun b => F b.1).Nodup := by
    have h1 : (ad ds).Nodup := wd.nd g
    have h2 := pm.map fun b : Blk => b.1
    rw [List.map_map] at h2
    exact h2.nodup_iff.mp h1
  refine ⟨⟨wb, wd, ⟨fun m hm => ?_, n1, ?_⟩, fun m hm => (h m hm).1, ?_⟩, hgo⟩
  · obtain ⟨⟨k, hk⟩, e, ne⟩ := h m hm
    refine ⟨(wb.ok _ hk).2.1, ?_, ne⟩
    have : (F m.1, k, false) ∈ ds := pm.mem_iff.mpr (List.mem_map.mpr ⟨_, hk, rfl⟩)
    rw [e]
    exact (wd.ok _ this).2.1
  · refine List.pairwise_map.mpr ((List.pairwise_map.mp n1).imp_of_mem fun {x y} hx hy ne e => ne ?_)
    obtain ⟨⟨k, hk⟩, e1, _⟩ := h x hx
    obtain ⟨⟨k', hk'⟩, e2, _⟩ := h y hy
    rw [e1, e2] at e
    have := inj_of nd hk hk' e
    exact congrArg (fun b : Blk => b.1) this
  · have e : bs.map (mvG mm) = bs.map fun b => (F b.1, b.2.1, b.2.2) := List.map_congr_left fun b hb => by
      unfold mvG
      rw [hgo b.1 (List.mem_map.mpr ⟨b, hb, rfl⟩)]
    rw [e]
    exact pm
def invM (mm : List Pr) : List Pr := mm.map fun m => (m.2, m.1)
theorem Rr.inv (R : Rr ns n bs mm cs) (g : Good ns) : Rr ns n cs (invM mm) bs ∧ ∀ x ∈ ad bs, go (invM mm) (go mm x) = x := by
  have n1 : ((invM mm).map Prod.fst).Nodup := by
    unfold invM
    rw [List.map_map]
    exact R.gm.n2
  have hgo : ∀ x ∈ ad bs, go (invM mm) (go mm x) = x := fun x hx => by
    by_cases hm : x ∈ mm.map Prod.fst
    · obtain ⟨⟨a, b⟩, hm2, ea⟩ := List.mem_map.mp hm
      have ea : a = x := ea
      subst ea
      rw [go_some R.gm.n1 hm2]
      exact go_some n1 (List.mem_map.mpr ⟨_, hm2, rfl⟩)
    · rw [go_none hm]
      refine go_none fun z => ?_
      obtain ⟨p, hp, e⟩ := List.mem_map.mp z
      obtain ⟨⟨y, b⟩, hq, rfl⟩ := List.mem_map.mp hp
      have e : b = x := e
      subst e
      have h1 := go_some R.gm.n1 hq
      have h2 : y = b := R.inj g (R.old hq) hx (by rw [h1, go_none hm])
      exact (R.gm.p _ hq).2.2 h2
  refine ⟨⟨R.wc, R.wb, ⟨fun m hm => ?_, n1, ?_⟩, fun m hm => ?_, ?_⟩, hgo⟩
  · obtain ⟨q, hq, rfl⟩ := List.mem_map.mp hm
    have := R.gm.p q hq
    exact ⟨this.2.1, this.1, this.2.2.symm⟩
  · unfold invM
    rw [List.map_map]
    exact R.gm.n1
  · obtain ⟨⟨a, b⟩, hq, rfl⟩ := List.mem_map.mp hm
    obtain ⟨k, hk⟩ := R.un _ hq
    refine ⟨k, ?_⟩
    have := R.to hk
    rw [go_some R.gm.n1 hq] at this
    exact this
  · refine List.Perm.trans ?_ (R.pm.map _).symm
    rw [List.map_map]
    have e : bs.map (mvG (invM mm) ∘ mvG mm) = bs.map id := List.map_congr_left fun b hb => by
      show (go (invM mm) (go mm b.1), b.2.1, b.2.2) = b
      rw [hgo b.1 (List.mem_map.mpr ⟨b, hb, rfl⟩)]
    rw [e, List.map_id]
/-- the rows of two rearrangements one after the other -/
def rows (one two : List Pr) : List Pr := one.map (fun m => (m.1, go two m.2)) ++ two.filter fun m => !decide (m.1 ∈ one.map Prod.snd)
def neP (m : Pr) : Bool := !decide (m.1 = m.2)
def compM (one two : List Pr) : List Pr := srtP ((rows one two).filter neP)
theorem Rr.comp {one two : List Pr} (R : Rr ns n bs one cs) (S : Rr ns n cs two ds) (g : Good ns) : Rr ns n bs (compM one two) ds ∧ ∀ x ∈ ad bs, go (compM one two) x = go two (go one x) := by
  have stay : ∀ {a c : Int}, (a, c) ∈ two → a ∉ one.map Prod.snd → (∃ k, (a, k, false) ∈ bs) ∧ go one a = a ∧ a ∉ one.map Prod.fst := fun {a c} h hn => by
    obtain ⟨k, hk⟩ := S.un _ h
    obtain ⟨x, hx, e⟩ := R.back hk
    have hx1 : x ∉ one.map Prod.fst := fun z => by
      obtain ⟨⟨y, b⟩, hm, ea⟩ := List.mem_map.mp z
      have ea : y = x := ea
      subst ea
      rw [go_some R.gm.n1 hm] at e
      exact hn (List.mem_map.mpr ⟨_, hm, e⟩)
    have e2 := go_none hx1
    have e3 : x = a := e2.symm.trans e
    subst e3
    exact ⟨⟨k, hx⟩, e2, hx1⟩
  have row : ∀ m ∈ rows one two, (∃ k, (m.1, k, false) ∈ bs) ∧ m.2 = go two (go one m.1) := fun m hm => by
    rcases List.mem_append.mp hm with z | z
    · obtain ⟨⟨a, b⟩, h, rfl⟩ := List.mem_map.mp z
      refine ⟨R.un (a, b) h, ?_⟩
      show go two b = go two (go one a)
      rw [go_some R.gm.n1 h]
    · obtain ⟨h1, h2⟩ := List.mem_filter.mp z
      have h2 : m.1 ∉ one.map Prod.snd := by simpa using h2
      obtain ⟨s1, s2, _⟩ := stay (a := m.1) (c := m.2) h1 h2
      refine ⟨s1, ?_⟩
      rw [s2, go_some S.gm.n1 (b := m.2) h1]
  have n1 : ((rows one two).map Prod.fst).Nodup := by
    unfold rows
    rw [List.map_append, List.map_map]
    refine List.nodup_append.mpr ⟨R.gm.n1, ?_, ?_⟩
    · exact List.Pairwise.sublist ((List.filter_sublist).map Prod.fst) S.gm.n1
    · rintro a ha b hb rfl
      obtain ⟨m, hm, e⟩ := List.mem_map.mp hb
      obtain ⟨h1, h2⟩ := List.mem_filter.mp hm
      have h2 : m.1 ∉ one.map Prod.snd := by simpa using h2
      have := (stay (a := m.1) (c := m.2) h1 h2).2.2
      rw [e] at this
      exact this ha
  have pmd : ds.Perm (bs.map fun b => (go two (go one b.1), b.2.1, b.2.2)) := by
    refine S.pm.trans ((R.pm.map _).trans ?_)
    rw [List.map_map]
    exact List.Perm.refl _
  have key := Rr.mk' (F := fun x => go two (go one x)) (mm := (rows one two).filter neP) g R.wb S.wc pmd ?_ ?_ ?_
  · refine ⟨key.1.srt, fun x hx => ?_⟩
    rw [← key.2 x hx]
    exact go_perm key.1.gm.n1 (srtP_perm _) x
  · exact List.Pairwise.sublist ((List.filter_sublist).map Prod.fst) n1
  · intro m hm
    obtain ⟨h1, h2⟩ := List.mem_filter.mp hm
    have h2 : ¬ m.1 = m.2 := by unfold neP at h2; simpa using h2
    have := row m h1
    exact ⟨this.1, this.2, h2⟩
  · intro x hx ne
    have ne : go two (go one x) ≠ x := ne
    refine List.mem_filter.mpr ⟨?_, by unfold neP; simp; exact fun z => ne z.symm⟩
    by_cases hm : x ∈ one.map Prod.fst
    · obtain ⟨⟨a, b⟩, hm2, ea⟩ := List.mem_map.mp hm
      have ea : a = x := ea
      subst ea
      refine List.mem_append_left _ (List.mem_map.mpr ⟨_, hm2, ?_⟩)
      show (a, go two b) = (a, go two (go one a))
      rw [go_some R.gm.n1 hm2]
    · have e1 := go_none hm
      rw [e1] at ne
      have h2 : (x, go two x) ∈ two := S.mem.mpr ⟨by have := R.ad_to hx; rw [e1] at this; exact this, rfl, ne.symm⟩
      rw [e1]
      refine List.mem_append_right _ (List.mem_filter.mpr ⟨h2, ?_⟩)
      have : x ∉ one.map Prod.snd := fun z => by
        obtain ⟨⟨y, b⟩, hq, e⟩ := List.mem_map.mp z
        have e : b = x := e
        subst e
        have h3 : y = b := R.inj g (R.old hq) hx (by rw [go_some R.gm.n1 hq, e1])
        exact (R.gm.p _ hq).2.2 h3
      simpa using this
theorem Rr.id (w : Wf ns n bs) : Rr ns n bs [] bs := ⟨w, w, GoodM.nil, (fun _ h => nomatch h), by
  have e : bs.map (mvG []) = bs.map _root_.id := List.map_congr_left fun b _ => rfl
  rw [e, List.map_id]⟩
theorem compM_so (one two : List Pr) : srtP (compM one two) = compM one two := (srt_eq (srtP_so _) (List.Perm.refl _)).symm
theorem Rr.comp_inv (R : Rr ns n bs mm cs) (g : Good ns) : compM mm (invM mm) = [] := by
  obtain ⟨I, e⟩ := R.inv g
  obtain ⟨C, e2⟩ := R.comp I g
  have := C.uniq (Rr.id R.wb) fun x hx => by rw [e2 x hx, e x hx]; rfl
  rw [compM_so] at this
  exact this
theorem Rr.inv_go (R : Rr ns n bs mm cs) (g : Good ns) {y : Int} (hy : y ∈ ad cs) : go mm (go (invM mm) y) = y := by
  obtain ⟨⟨a, k, p⟩, hb, rfl⟩ := List.mem_map.mp hy
  obtain ⟨x, hx, e⟩ := R.back hb
  show go mm (go (invM mm) a) = a
  rw [← e, (R.inv g).2 x (List.mem_map.mpr ⟨_, hx, rfl⟩)]
theorem Rr.inv_comp (R : Rr ns n bs mm cs) (g : Good ns) : compM (invM mm) mm = [] := by
  obtain ⟨I, e⟩ := R.inv g
  obtain ⟨C, e2⟩ := I.comp R g
  have := C.uniq (Rr.id R.wc) fun x hx => by rw [e2 x hx, R.inv_go g hx]; rfl
  rw [compM_so] at this
  exact this
theorem Rr.comp_nil (R : Rr ns n bs mm cs) (g : Good ns) : compM mm [] = srtP mm := by
  obtain ⟨C, e2⟩ := R.comp (Rr.id R.wc) g
  have := C.uniq R fun x hx => by rw [e2 x hx]; rfl
  rw [compM_so] at this
  exact this
theorem Rr.nil_comp (R : Rr ns n bs mm cs) (g : Good ns) : compM [] mm = srtP mm := by
  obtain ⟨C, e2⟩ := (Rr.id R.wb).comp R g
  have := C.uniq R fun x hx => by rw [e2 x hx]; rfl
  rw [compM_so] at this
  exact this
theorem Rr.assoc {a b c : List Pr} {es : List Blk} (A : Rr ns n bs a cs) (B : Rr ns n cs b ds) (C : Rr ns n ds c es) (g : Good ns) : compM (compM a b) c = compM a (compM b c) := by
  obtain ⟨AB, e1⟩ := A.comp B g
  obtain ⟨BC, e2⟩ := B.comp C g
  obtain ⟨L, e3⟩ := AB.comp C g
  obtain ⟨M, e4⟩ := A.comp BC g
  have := L.uniq M fun x hx => by rw [e3 x hx, e1 x hx, e4 x hx, e2 _ (A.ad_to hx)]
  rw [compM_so, compM_so] at this
  exact this
theorem invM_invM (mm : List Pr) : invM (invM mm) = mm := by
  unfold invM
  rw [List.map_map]
  exact List.map_id _
theorem comp_perm {one one' two two' : List Pr} (n1 : (two.map Prod.fst).Nodup) (p : one'.Perm one) (q : two'.Perm two) : compM one' two' = compM one two := by
  refine srt_pm (List.Perm.filter _ ?_)
  unfold rows
  have e1 : (fun m : Pr => (m.1, go two' m.2)) = fun m => (m.1, go two m.2) := funext fun m => by rw [go_perm n1 q]
  have e2 : (fun m : Pr => !decide (m.1 ∈ one'.map Prod.snd)) = fun m => !decide (m.1 ∈ one.map Prod.snd) := funext fun m => by
    congr 1
    exact decide_eq_decide.mpr (p.map Prod.snd).mem_iff
  rw [e1, e2]
  exact List.Perm.append (p.map _) (q.filter _)
/-- what the program's rearrangement wants -/
theorem Rr.fit (R : Rr ns n bs mm cs) : Fit ns n bs mm := by
  refine ⟨fun i a b h => ?_, fun i j a b c h1 h2 => ?_⟩
  · have hm := List.mem_of_getElem? h
    obtain ⟨k, hk⟩ := R.un _ hm
    have h2 := R.to hk
    rw [go_some R.gm.n1 hm] at h2
    have o := R.wc.ok _ h2
    exact ⟨k, hk, o.2.1, Int.emod_eq_zero_of_dvd o.2.2.1, o.2.2.2⟩
  · have n1 := R.gm.n1
    have e1 : (mm.map Prod.fst)[i]? = some a := by rw [List.getElem?_map, h1]; rfl
    have e2 : (mm.map Prod.fst)[j]? = some a := by rw [List.getElem?_map, h2]; rfl
    have l1 := (List.getElem?_eq_some_iff.mp e1).1
    have l2 := (List.getElem?_eq_some_iff.mp e2).1
    have pw := List.pairwise_iff_getElem.mp n1
    rcases Nat.lt_trichotomy i j with l | l | l
    · exact absurd (by rw [(List.getElem?_eq_some_iff.mp e1).2, (List.getElem?_eq_some_iff.mp e2).2]) (pw i j l1 l2 l)
    · exact l
    · exact absurd (by rw [(List.getElem?_eq_some_iff.mp e1).2, (List.getElem?_eq_some_iff.mp e2).2]) (pw j i l2 l1 l)
theorem Rr.tgt_eq (R : Rr ns n bs mm cs) (a : Int) : tgt mm a = go mm a := by
  by_cases h : a ∈ mm.map Prod.fst
  · obtain ⟨i, b, hi⟩ := olds_mem h
    rw [tgt_some R.fit hi, go_some R.gm.n1 (List.mem_of_getElem? hi)]
  · rw [tgt_none h, go_none h]
theorem Rr.law (R : Rr ns n bs mm cs) (g : Good ns) : LawOk ns bs mm := by
  have apart : ∀ {b c : Blk}, b ∈ cs → c ∈ cs → b.1 ≠ c.1 → ¬ ov2 (b.1, b.1 + sz ns b.2.1) (c.1, c.1 + sz ns c.2.1) := fun {b c} hb hc ne h => by
    obtain ⟨i, hi⟩ := List.mem_iff_getElem?.mp hb
    obtain ⟨j, hj⟩ := List.mem_iff_getElem?.mp hc
    have h1 : b.1 < c.1 + sz ns c.2.1 := h.1
    have h2 : c.1 < b.1 + sz ns b.2.1 := h.2
    rcases Nat.lt_trichotomy i j with l | l | l
    · have := (R.wc.lt g hi hj l).1
      unfold bEnd at this
      omega
    · subst l
      rw [hi] at hj
      cases hj
      exact ne rfl
    · have := (R.wc.lt g hj hi l).1
      unfold bEnd at this
      omega
  intro p m hm
  have hmm := List.mem_of_getElem? hm
  obtain ⟨k, hk⟩ := R.un _ hmm
  have lk : lev bs m.1 = k := lev_is R.wb g hk
  have h2 := R.to hk
  rw [go_some R.gm.n1 (b := m.2) hmm] at h2
  have old := R.old hmm
  refine ⟨fun q m' hq ne => ?_, fun c hc hn => ?_⟩
  · have hmm' := List.mem_of_getElem? hq
    obtain ⟨k', hk'⟩ := R.un _ hmm'
    have lk' : lev bs m'.1 = k' := lev_is R.wb g hk'
    have h2' := R.to hk'
    rw [go_some R.gm.n1 (b := m'.2) hmm'] at h2'
    unfold rg
    rw [lk, lk']
    refine apart h2 h2' fun e => ne ?_
    have e : m.2 = m'.2 := e
    have e1 : m.1 = m'.1 := R.inj g old (R.old hmm') (by rw [go_some R.gm.n1 (b := m.2) hmm, go_some R.gm.n1 (b := m'.2) hmm', e])
    exact R.fit.nd q p m'.1 m'.2 m.2 hq (by rw [hm, ← e1])
  · obtain ⟨a, k', p'⟩ := c
    have hc2 := R.to hc
    rw [go_none hn] at hc2
    unfold rg
    rw [lk]
    refine apart h2 hc2 fun e => hn ?_
    have e : m.2 = a := e
    have e1 : m.1 = a := R.inj g old (List.mem_map.mpr ⟨_, hc, rfl⟩) (by rw [go_some R.gm.n1 (b := m.2) hmm, go_none hn, e])
    exact absurd (e1.trans e.symm) (R.gm.p _ hmm).2.2
theorem Rr.after (R : Rr ns n bs mm cs) (g : Good ns) {bs2 : List Blk} (w : Wf ns n bs2) (p : bs2.Perm (bs.map (mvd mm))) : bs2 = cs := by
  have e : mvd mm = mvG mm := funext fun c => by unfold mvd mvG; rw [R.tgt_eq]
  rw [e] at p
  exact uniqB (w.rise g) (R.wc.rise g) (p.trans R.pm.symm)
end
end K35

set_option Elab.async false
set_option linter.all false
set_option maxRecDepth 100000
set_option maxHeartbeats 4000000
/-! Where a block of a level has a free region: maximal runs, and a count. -/
namespace K35
open PySem PySem.Spec PyProof.Rows L2 Gu Ex
section
open M16
variable {s : Nat → Int} {m : Nat} {hi lo : Int}
theorem R_sound (c : Ch s m) : ∀ (n : Nat) (a : Int), (hi - a).toNat ≤ n → ∀ r ∈ M16.R s m hi a, r.1 < m ∧ s r.1 ∣ r.2.1 ∧ a ≤ r.2.1 ∧ 1 ≤ r.2.2 ∧ r.2.1 + r.2.2 * s r.1 ≤ hi
  | n, a, h => by
    by_cases ha : a < hi
    · have e1 := en_gt c ha
      match n, h with
      | 0, h => omega
      | n + 1, h =>
        intro r hr
        rw [R_step c ha] at hr
        rcases List.mem_cons.mp hr with z | z
        · subst z
          refine ⟨L_lt c, dvd0 (L_lies c ha).1, Int.le_refl _, run_one c ha, ?_⟩
          have e2 : (run s m hi a).2.2 * s (run s m hi a).1 = en s m hi a - a := run_cells c ha
          have e3 : (run s m hi a).2.1 = a := rfl
          have := en_le (s := s) (m := m) (hi := hi) (a := a) c
          rw [e2, e3]
          omega
        · obtain ⟨h1, h2, h3, h4, h5⟩ := R_sound c n (en s m hi a) (by omega) r z
          exact ⟨h1, h2, by omega, h4, h5⟩
    · intro r hr
      rw [R_end ha] at hr
      cases hr
theorem R_complete (c : Ch s m) {l : Nat} {x : Int} (hl : l < m) (dx : s l ∣ x) (hx : x + s l ≤ hi) : ∀ (n : Nat) (a : Int), (hi - a).toNat ≤ n → B s m hi lo a → lo ≤ a → a ≤ x → ∃ r ∈ M16.R s m hi a, l ≤ r.1 ∧ r.2.1 ≤ x
  | n, a, h, b, la, ax => by
    have p := c.pos l hl
    have ha : a < hi := by omega
    have e1 := en_gt c ha
    rw [R_step c ha]
    by_cases hx2 : x < en s m hi a
    · have e0 := mod0 dx
      exact ⟨_, List.mem_cons_self, top_max c ha b ax hx2 hl (by omega) (by omega), ax⟩
    · match n, h with
      | 0, h => omega
      | n + 1, h =>
        obtain ⟨r, h1, h2⟩ := R_complete c hl dx hx n (en s m hi a) (by omega) (B_next c ha b) (by omega) (by omega)
        exact ⟨r, List.mem_cons_of_mem _ h1, h2⟩
theorem R_asc (c : Ch s m) : ∀ (n : Nat) (a : Int), (hi - a).toNat ≤ n → (M16.R s m hi a).Pairwise fun r q => r.2.1 ≤ q.2.1
  | n, a, h => by
    by_cases ha : a < hi
    · have e1 := en_gt c ha
      match n, h with
      | 0, h => omega
      | n + 1, h =>
        rw [R_step c ha]
        refine .cons (fun q hq => ?_) (R_asc c n (en s m hi a) (by omega))
        have k := (R_sound c _ (en s m hi a) (Nat.le_refl _) q hq).2.2.1
        show a ≤ q.2.1
        omega
    · rw [R_end ha]
      exact .nil
end
/-- runs of free regions among the first blocks -/
structure FrI (ns : List Int) (bs : List Blk) (i : Nat) (at_ : Int) (rs : List M16.Run) : Prop where
  snd : ∀ r ∈ rs, r.1 < ns.length ∧ sz ns r.1 ∣ r.2.1 ∧ 0 ≤ r.2.1 ∧ 1 ≤ r.2.2 ∧ r.2.1 + r.2.2 * sz ns r.1 ≤ at_ ∧ ∀ b ∈ bs, bEnd ns b ≤ r.2.1 ∨ r.2.1 + r.2.2 * sz ns r.1 ≤ b.1
  cmp : ∀ (l : Nat) (x : Int), l < ns.length → sz ns l ∣ x → 0 ≤ x → x + sz ns l ≤ at_ → (∀ b ∈ bs, bEnd ns b ≤ x ∨ x + sz ns l ≤ b.1) → ∃ r ∈ rs, l ≤ r.1 ∧ r.2.1 ≤ x
  asc : rs.Pairwise fun r q => r.2.1 ≤ q.2.1
  low : ∀ (j : Nat) (b : Blk), j < i → bs[j]? = some b → bEnd ns b ≤ at_
  edge : (i = 0 ∧ at_ = 0) ∨ ∃ b, bs[i - 1]? = some b ∧ 0 < i ∧ bEnd ns b = at_
  len : rs.length ≤ 16 * i
section
variable {ns : List Int} {n : Int} {bs : List Blk} {i : Nat} {at_ : Int} {rs : List M16.Run}
theorem FrI.start (g : Good ns) : FrI ns bs 0 0 [] := ⟨(fun _ h => nomatch h), fun l x hl _ h0 h1 _ => by
  have := (chain g).pos l hl
  omega, .nil, fun j _ h => absurd h (Nat.not_lt_zero j), .inl ⟨rfl, rfl⟩, Nat.le_refl _⟩
theorem FrI.at0 (F : FrI ns bs i at_ rs) (w : Wf ns n bs) (g : Good ns) : 0 ≤ at_ ∧ (∀ b ∈ bs, bEnd ns b ≤ n) := by
  refine ⟨?_, fun b hb => (w.ok b hb).2.2.2⟩
  rcases F.edge with ⟨_, e⟩ | ⟨b, hb, _, e⟩
  · omega
  · have o := w.ok b (List.mem_of_getElem? hb)
    have := (chain g).pos _ o.1
    unfold bEnd at e
    omega
/-- the runs up to the next block, or to the end -/
theorem FrI.more (F : FrI ns bs i at_ rs) (w : Wf ns n bs) (g : Good ns) {hi : Int} (h : at_ ≤ hi) (up : ∀ (j : Nat) (b : Blk), i ≤ j → bs[j]? = some b → hi ≤ b.1) :
    (∀ r ∈ rs ++ M16.R (sz ns) ns.length hi at_, r.1 < ns.length ∧ sz ns r.1 ∣ r.2.1 ∧ 0 ≤ r.2.1 ∧ 1 ≤ r.2.2 ∧ r.2.1 + r.2.2 * sz ns r.1 ≤ hi ∧ ∀ b ∈ bs, bEnd ns b ≤ r.2.1 ∨ r.2.1 + r.2.2 * sz ns r.1 ≤ b.1) ∧
    (∀ (l : Nat) (x : Int), l < ns.length → sz ns l ∣ x → 0 ≤ x → x + sz ns l ≤ hi → (∀ b ∈ bs, bEnd ns b ≤ x ∨ x + sz ns l ≤ b.1) → ∃ r ∈ rs ++ M16.R (sz ns) ns.length hi at_, l ≤ r.1 ∧ r.2.1 ≤ x) ∧ ((rs ++ M16.R (sz ns) ns.length hi at_).Pairwise fun r q => r.2.1 ≤ q.2.1) ∧ (rs ++ M16.R (sz ns) ns.length hi at_).length ≤ 16 * (i + 1) := by
  have c := chain g
  have a0 := F.at0 w g
  refine ⟨fun r hr => ?_, fun l x hl dx x0 xh fr => ?_, ?_, ?_⟩
  · rcases List.mem_append.mp hr with z | z
    · obtain ⟨h1, h2, h3, h4, h5, h6⟩ := F.snd r z
      exact ⟨h1, h2, h3, h4, by omega, h6⟩
    · obtain ⟨h1, h2, h3, h4, h5⟩ := R_sound c _ at_ (Nat.le_refl _) r z
      refine ⟨h1, h2, by omega, h4, h5, fun b hb => ?_⟩
      obtain ⟨j, hj⟩ := List.mem_iff_getElem?.mp hb
      rcases Nat.lt_or_ge j i with k | k
      · have := F.low j b k hj
        exact .inl (by omega)
      · have := up j b k hj
        exact .inr (by omega)
  · by_cases hx : x + sz ns l ≤ at_
    · obtain ⟨r, h1, h2⟩ := F.cmp l x hl dx x0 hx fr
      exact ⟨r, List.mem_append_left _ h1, h2⟩
    · have ax : at_ ≤ x := by
        rcases F.edge with ⟨_, e⟩ | ⟨b, hb, _, e⟩
        · omega
        · have hb := List.mem_of_getElem? hb
          have o := w.ok b hb
          have := c.pos _ o.1
          rcases fr b hb with z | z
          · omega
          · unfold bEnd at e
            omega
      obtain ⟨r, h1, h2⟩ := R_complete (lo := at_) c hl dx xh _ at_ (Nat.le_refl _) (M16.B_lo c) (Int.le_refl _) ax
      exact ⟨r, List.mem_append_right _ h1, h2⟩
  · refine List.pairwise_append.mpr ⟨F.asc, R_asc c _ at_ (Nat.le_refl _), fun r hr q hq => ?_⟩
    obtain ⟨h1, h2, h3, h4, h5, _⟩ := F.snd r hr
    have k := (R_sound c _ at_ (Nat.le_refl _) q hq).2.2.1
    have p := c.pos _ h1
    have : 0 ≤ r.2.2 * sz ns r.1 := Int.mul_nonneg (by omega) (by omega)
    omega
  · have := M16.R_short (hi := hi) (a := at_) c g.len.2
    have := F.len
    rw [List.length_append]
    omega
theorem FrI.next (F : FrI ns bs i at_ rs) (w : Wf ns n bs) (g : Good ns) {b : Blk} (hb : bs[i]? = some b) : at_ ≤ b.1 ∧ FrI ns bs (i + 1) (bEnd ns b) (rs ++ M16.R (sz ns) ns.length b.1 at_) := by
  have hm := List.mem_of_getElem? hb
  have o := w.ok b hm
  have p := (chain g).pos _ o.1
  have le : at_ ≤ b.1 := by
    rcases F.edge with ⟨_, e⟩ | ⟨c, hc, i0, e⟩
    · omega
    · have := (w.lt g hc hb (by omega)).1
      omega
  obtain ⟨s1, s2, s2b, s3⟩ := F.more w g (hi := b.1) le fun j c hj hc => by
    rcases Nat.eq_or_lt_of_le hj with k | k
    · subst k
      rw [hb] at hc
      cases hc
      exact Int.le_refl _
    · exact Int.le_of_lt (w.lt g hb hc k).2
  have be : bEnd ns b = b.1 + sz ns b.2.1 := rfl
  refine ⟨le, fun r hr => ?_, fun l x hl dx x0 xh fr => ?_, s2b, fun j c hj hc => ?_, .inr ⟨b, hb, Nat.succ_pos _, rfl⟩, s3⟩
  · obtain ⟨h1, h2, h3, h4, h5, h6⟩ := s1 r hr
    exact ⟨h1, h2, h3, h4, by omega, h6⟩
  · refine s2 l x hl dx x0 ?_ fr
    have := (chain g).pos l hl
    rcases fr b hm with z | z <;> omega
  · rcases Nat.lt_or_ge j i with k | k
    · have := F.low j c k hc
      omega
    · obtain rfl : j = i := by omega
      rw [hb] at hc
      cases hc
      exact Int.le_refl _
structure FrOk (ns : List Int) (n : Int) (bs : List Blk) (rs : List M16.Run) : Prop where
  snd : ∀ r ∈ rs, r.1 < ns.length ∧ sz ns r.1 ∣ r.2.1 ∧ 0 ≤ r.2.1 ∧ 1 ≤ r.2.2 ∧ r.2.1 + r.2.2 * sz ns r.1 ≤ n ∧ ∀ b ∈ bs, bEnd ns b ≤ r.2.1 ∨ r.2.1 + r.2.2 * sz ns r.1 ≤ b.1
  cmp : ∀ (l : Nat) (x : Int), l < ns.length → sz ns l ∣ x → 0 ≤ x → x + sz ns l ≤ n → (∀ b ∈ bs, bEnd ns b ≤ x ∨ x + sz ns l ≤ b.1) → ∃ r ∈ rs, l ≤ r.1 ∧ r.2.1 ≤ x
  asc : rs.Pairwise fun r q => r.2.1 ≤ q.2.1
  len : rs.length ≤ 16 * (bs.length + 1)
theorem FrI.le_n (F : FrI ns bs i at_ rs) (w : Wf ns n bs) (n0 : 0 ≤ n) : at_ ≤ n := by
  rcases F.edge with ⟨_, e⟩ | ⟨c, hc, i0, e⟩
  · omega
  · have := (w.ok c (List.mem_of_getElem? hc)).2.2.2
    omega
theorem FrI.fin (F : FrI ns bs bs.length at_ rs) (w : Wf ns n bs) (g : Good ns) (n0 : 0 ≤ n) : at_ ≤ n ∧ FrOk ns n bs (rs ++ M16.R (sz ns) ns.length n at_) := by
  have le := F.le_n w n0
  obtain ⟨s1, s2, s2b, s3⟩ := F.more w g (hi := n) le fun j c hj hc => absurd (List.getElem?_eq_some_iff.mp hc).1 (Nat.not_lt.mpr hj)
  exact ⟨le, s1, s2, s2b, s3⟩
theorem FrOk.perm {cs : List Blk} (F : FrOk ns n bs rs) (p : cs.Perm bs) : FrOk ns n cs rs := ⟨fun r hr => by
  obtain ⟨h1, h2, h3, h4, h5, h6⟩ := F.snd r hr
  exact ⟨h1, h2, h3, h4, h5, fun b hb => h6 b (p.mem_iff.mp hb)⟩, fun l x hl dx x0 xh fr => F.cmp l x hl dx x0 xh fun b hb => fr b (p.mem_iff.mpr hb), F.asc, by rw [p.length_eq]; exact F.len⟩
/-- a region of a level within a run -/
theorem FrOk.spot (F : FrOk ns n bs rs) (g : Good ns) {r : M16.Run} (hr : r ∈ rs) {l : Nat} (hl : l ≤ r.1) {d : Int} (d0 : 0 ≤ d) (d1 : d < r.2.2 * sz ns r.1 / sz ns l) :
    0 ≤ r.2.1 + d * sz ns l ∧ sz ns l ∣ r.2.1 + d * sz ns l ∧ r.2.1 + d * sz ns l + sz ns l ≤ n ∧ ∀ b ∈ bs, bEnd ns b ≤ r.2.1 + d * sz ns l ∨ r.2.1 + d * sz ns l + sz ns l ≤ b.1 := by
  obtain ⟨h1, h2, h3, h4, h5, h6⟩ := F.snd r hr
  have c := chain g
  have p := c.pos l (by omega)
  have e1 : (d + 1) * sz ns l ≤ r.2.2 * sz ns r.1 := (Int.le_ediv_iff_mul_le (by omega)).mp (by omega)
  have e2 : 0 ≤ d * sz ns l := Int.mul_nonneg d0 (by omega)
  rw [Int.add_mul, Int.one_mul] at e1
  refine ⟨by omega, Int.dvd_add (Int.dvd_trans (c.dvd hl h1) h2) (Int.dvd_mul_left _ _), by omega, fun b hb => ?_⟩
  rcases h6 b hb with z | z
  · exact .inl (by omega)
  · exact .inr (by omega)
theorem Un.snoc' {k : Nat} {a : Int} {p : Bool} (u : Un ns n bs) (hk : k < ns.length) (a0 : 0 ≤ a) (dv : sz ns k ∣ a) (le : a + sz ns k ≤ n) (h : ∀ b ∈ bs, bEnd ns b ≤ a ∨ a + sz ns k ≤ b.1) : Un ns n (bs ++ [(a, k, p)]) := by
  refine ⟨fun b hb => ?_, List.pairwise_append.mpr ⟨u.dj, List.pairwise_singleton _ _, fun b hb c hc => ?_⟩⟩
  · rcases List.mem_append.mp hb with e | e
    · exact u.ok b e
    · rw [List.mem_singleton.mp e]
      exact ⟨hk, a0, dv, le⟩
  · rw [List.mem_singleton.mp hc]
    rcases h b hb with z | z
    · exact .inl z
    · exact .inr z
end
/-! the count -/
theorem cnt_seg (u v : Nat) : ∀ N, (List.range N).countP (fun i => decide (u ≤ i) && decide (i < v)) = min N v - min N u
  | 0 => by simp
  | N + 1 => by
    rw [List.range_succ, List.countP_append, cnt_seg u v N, List.countP_singleton]
    by_cases h1 : u ≤ N <;> by_cases h2 : N < v <;> simp [h1, h2] <;> omega
theorem cnt_or {α : Type} {p q : α → Bool} : ∀ {l : List α}, (∀ i ∈ l, ¬ (p i = true ∧ q i = true)) → l.countP (fun i => p i || q i) = l.countP p + l.countP q
  | [], _ => rfl
  | x :: l, h => by
    have ih := cnt_or (l := l) (p := p) (q := q) fun i hi => h i (List.mem_cons_of_mem _ hi)
    have hx := h x List.mem_cons_self
    rw [List.countP_cons, List.countP_cons, List.countP_cons, ih]
    cases hp : p x <;> cases hq : q x
    · simp
    · simp; omega
    · simp; omega
    · exact absurd ⟨hp, hq⟩ hx
def insd (ns : List Int) (s : Int) (c : Blk) (i : Nat) : Bool := decide (c.1 ≤ i * s) && decide (i * s + s ≤ bEnd ns c)
section
variable {ns : List Int} {n : Int} {l : Nat}
theorem seg_of (g : Good ns) {c : Blk} (hc : c.2.1 < ns.length) (lc : l ≤ c.2.1) (c0 : 0 ≤ c.1) (dv : sz ns c.2.1 ∣ c.1) : ∃ u : Nat, c.1 = sz ns l * u ∧ sz ns c.2.1 = sz ns l * ((sz ns c.2.1 / sz ns l).toNat : Nat) ∧
    ∀ i : Nat, insd ns (sz ns l) c i = (decide (u ≤ i) && decide (i < u + (sz ns c.2.1 / sz ns l).toNat)) := by
  have ch := chain g
  have p := ch.pos l (by omega)
  have pc := ch.pos _ hc
  have d1 := ch.dvd lc hc
  have d2 := Int.dvd_trans d1 dv
  have e1 : sz ns l * (c.1 / sz ns l) = c.1 := Int.mul_ediv_cancel' d2
  have e2 : sz ns l * (sz ns c.2.1 / sz ns l) = sz ns c.2.1 := Int.mul_ediv_cancel' d1
  have q1 : 0 ≤ c.1 / sz ns l := Int.ediv_nonneg c0 (by omega)
  have q2 : 0 ≤ sz ns c.2.1 / sz ns l := Int.ediv_nonneg (by omega) (by omega)
  obtain ⟨u, hu⟩ : ∃ u : Nat, c.1 / sz ns l = u := ⟨(c.1 / sz ns l).toNat, by omega⟩
  obtain ⟨w, hw⟩ : ∃ w : Nat, sz ns c.2.1 / sz ns l = w := ⟨(sz ns c.2.1 / sz ns l).toNat, by omega⟩
  rw [hu] at e1
  rw [hw] at e2
  rw [hw, Int.toNat_natCast]
  refine ⟨u, e1.symm, e2.symm, fun i => ?_⟩
  unfold insd bEnd
  rw [← e1, ← e2]
  congr 1
  · refine decide_eq_decide.mpr ?_
    rw [Int.mul_comm (i : Int)]
    have : sz ns l * (u : Int) ≤ sz ns l * (i : Int) ↔ (u : Int) ≤ (i : Int) := Int.mul_le_mul_left (by omega)
    omega
  · refine decide_eq_decide.mpr ?_
    have : sz ns l * ((i : Int) + 1) ≤ sz ns l * ((u : Int) + w) ↔ (i : Int) + 1 ≤ (u : Int) + w := Int.mul_le_mul_left (by omega)
    rw [Int.mul_add, Int.mul_add, Int.mul_one] at this
    rw [Int.mul_comm (i : Int)]
    omega
theorem cnt_one (g : Good ns) {c : Blk} {N : Nat} (hc : c.2.1 < ns.length) (lc : l ≤ c.2.1) (c0 : 0 ≤ c.1) (dv : sz ns c.2.1 ∣ c.1) (le : bEnd ns c ≤ n) (hN : (N : Int) = n / sz ns l) :
    (List.range N).countP (insd ns (sz ns l) c) = (sz ns c.2.1 / sz ns l).toNat := by
  have p := (chain g).pos l (by omega)
  obtain ⟨u, e1, e2, h⟩ := seg_of g hc lc c0 dv
  rw [funext h, cnt_seg]
  have : (u : Int) + (sz ns c.2.1 / sz ns l).toNat ≤ n / sz ns l := by
    refine (Int.le_ediv_iff_mul_le (by omega)).mpr ?_
    unfold bEnd at le
    rw [Int.add_mul, Int.mul_comm (u : Int), Int.mul_comm (((sz ns c.2.1 / sz ns l).toNat : Nat) : Int), ← e1, ← e2]
    exact le
  omega
theorem cnt_all (g : Good ns) {N : Nat} (hN : (N : Int) = n / sz ns l) : ∀ {B : List Blk}, Un ns n B → (∀ c ∈ B, l ≤ c.2.1) → (List.range N).countP (fun i => B.any fun c => insd ns (sz ns l) c i) = ((B.map fun c => (sz ns c.2.1 / sz ns l).toNat)).sum
  | [], _, _ => by
    induction N with
    | zero => rfl
    | succ N ih => simp
  | c :: B, u, h => by
    have hp := List.pairwise_cons.mp u.dj
    have uB : Un ns n B := ⟨fun b hb => u.ok b (List.mem_cons_of_mem _ hb), hp.2⟩
    have ih := cnt_all g hN uB fun b hb => h b (List.mem_cons_of_mem _ hb)
    have o := u.ok c List.mem_cons_self
    rw [List.map_cons, List.sum_cons, ← ih, ← cnt_one g o.1 (h c List.mem_cons_self) o.2.1 o.2.2.1 o.2.2.2 hN]
    refine cnt_or fun i _ ⟨h1, h2⟩ => ?_
    obtain ⟨b, hb, h2⟩ := List.any_eq_true.mp h2
    unfold insd at h1 h2
    rw [Bool.and_eq_true, decide_eq_true_eq, decide_eq_true_eq] at h1 h2
    have p := (chain g).pos l (by have := h c List.mem_cons_self; omega)
    rcases hp.1 b hb with z | z <;> omega
theorem cnt_mono {α : Type} {p q : α → Bool} : ∀ {l : List α}, (∀ i ∈ l, p i = true → q i = true) → l.countP p ≤ l.countP q
  | [], _ => Nat.le_refl _
  | x :: l, h => by
    have ih := cnt_mono (l := l) (p := p) (q := q) fun i hi => h i (List.mem_cons_of_mem _ hi)
    have hx := h x List.mem_cons_self
    rw [List.countP_cons, List.countP_cons]
    cases hp : p x <;> cases hq : q x
    · simpa using ih
    · simp; omega
    · rw [hx hp] at hq; cases hq
    · simp; omega
/-- there is a free region for the next block, if the ones ahead of it were at least as large -/
theorem place_ex (g : Good ns) {K L0 Pl : List Blk} {b : Blk} (u1 : Un ns n (K ++ (L0 ++ [b]))) (u2 : Un ns n (K ++ Pl)) (lv : Pl.map (fun c => c.2.1) = L0.map fun c => c.2.1) (big : ∀ c ∈ L0, b.2.1 ≤ c.2.1) :
    ∃ x : Int, 0 ≤ x ∧ sz ns b.2.1 ∣ x ∧ x + sz ns b.2.1 ≤ n ∧ ∀ c ∈ K ++ Pl, bEnd ns c ≤ x ∨ x + sz ns b.2.1 ≤ c.1 := by
  have ob := u1.ok b (by simp)
  have ch := chain g
  have p := ch.pos _ ob.1
  have uL : Un ns n (L0 ++ [b]) := ⟨fun c hc => u1.ok c (List.mem_append_right _ hc), (List.pairwise_append.mp u1.dj).2.1⟩
  have uP : Un ns n Pl := ⟨fun c hc => u2.ok c (List.mem_append_right _ hc), (List.pairwise_append.mp u2.dj).2.1⟩
  have n0 : 0 ≤ n := by
    have := ob.2.2.2
    unfold bEnd at this
    omega
  obtain ⟨N, hN⟩ : ∃ N : Nat, (N : Int) = n / sz ns b.2.1 := ⟨(n / sz ns b.2.1).toNat, by have := Int.ediv_nonneg n0 (show 0 ≤ sz ns b.2.1 by omega); omega⟩
  have bigP : ∀ c ∈ Pl, b.2.1 ≤ c.2.1 := fun c hc => by
    have : c.2.1 ∈ Pl.map fun c => c.2.1 := List.mem_map.mpr ⟨c, hc, rfl⟩
    rw [lv] at this
    obtain ⟨d, hd, e⟩ := List.mem_map.mp this
    have := big d hd
    omega
  have c1 := cnt_all (l := b.2.1) g hN uL fun c hc => by
    rcases List.mem_append.mp hc with z | z
    · exact big c z
    · rw [List.mem_singleton.mp z]
      exact Nat.le_refl _
  have c2 := cnt_all (l := b.2.1) g hN uP bigP
  have e1 : Pl.map (fun c => (sz ns c.2.1 / sz ns b.2.1).toNat) = L0.map fun c => (sz ns c.2.1 / sz ns b.2.1).toNat := by
    have := congrArg (List.map fun k => (sz ns k / sz ns b.2.1).toNat) lv
    rw [List.map_map, List.map_map] at this
    exact this
  have e2 : (sz ns b.2.1 / sz ns b.2.1).toNat = 1 := by
    rw [Int.ediv_self (by omega)]
    rfl
  rw [List.map_append, List.sum_append, List.map_singleton, List.sum_singleton, e2, ← e1, ← c2] at c1
  obtain ⟨i, hi, h1, h2⟩ : ∃ i ∈ List.range N, ((L0 ++ [b]).any fun c => insd ns (sz ns b.2.1) c i) = true ∧ ¬ (Pl.any fun c => insd ns (sz ns b.2.1) c i) = true := by
    refine Classical.byContradiction fun no => ?_
    have := cnt_mono (l := List.range N) (p := fun i => (L0 ++ [b]).any fun c => insd ns (sz ns b.2.1) c i) (q := fun i => Pl.any fun c => insd ns (sz ns b.2.1) c i) fun i hi h => Classical.byContradiction fun z => no ⟨i, hi, h, z⟩
    omega
  obtain ⟨d, hd, hin⟩ := List.any_eq_true.mp h1
  unfold insd at hin
  rw [Bool.and_eq_true, decide_eq_true_eq, decide_eq_true_eq] at hin
  have od := uL.ok d hd
  refine ⟨i * sz ns b.2.1, Int.mul_nonneg (by omega) (by omega), Int.dvd_mul_left _ _, by omega, fun c hc => ?_⟩
  rcases List.mem_append.mp hc with z | z
  · have := (List.pairwise_append.mp u1.dj).2.2 c z d hd
    rcases this with k | k
    · exact .inl (by omega)
    · exact .inr (by omega)
  · have oc := uP.ok c z
    obtain ⟨u, f1, f2, f3⟩ := seg_of (l := b.2.1) g oc.1 (bigP c z) oc.2.1 oc.2.2.1
    have no : insd ns (sz ns b.2.1) c i = false := by
      cases e : insd ns (sz ns b.2.1) c i with
      | false => rfl
      | true => exact absurd (List.any_eq_true.mpr ⟨c, z, e⟩) h2
    rw [f3] at no
    generalize (sz ns c.2.1 / sz ns b.2.1).toNat = w at *
    have bc : bEnd ns c = sz ns b.2.1 * (u : Int) + sz ns b.2.1 * (w : Int) := by
      unfold bEnd
      rw [f1, f2]
    rcases Nat.lt_or_ge i u with k | k
    · refine .inr ?_
      have : sz ns b.2.1 * ((i : Int) + 1) ≤ sz ns b.2.1 * (u : Int) := Int.mul_le_mul_of_nonneg_left (by omega) (by omega)
      rw [Int.mul_add, Int.mul_one] at this
      rw [Int.mul_comm (i : Int), f1]
      exact this
    · refine .inl ?_
      have k2 : u + w ≤ i := by
        rcases Nat.lt_or_ge i (u + w) with q | q
        · rw [decide_eq_true k, decide_eq_true q] at no
          cases no
        · exact q
      have : sz ns b.2.1 * ((u : Int) + w) ≤ sz ns b.2.1 * (i : Int) := Int.mul_le_mul_of_nonneg_left (by omega) (by omega)
      rw [Int.mul_add] at this
      rw [bc, Int.mul_comm (i : Int)]
      exact this
end
end K35

set_option Elab.async false
set_option linter.all false
set_option maxRecDepth 100000
set_option maxHeartbeats 4000000
set_option pp.maxSteps 900
namespace K35
open PySem PySem.Spec PyProof.Rows L2 Gu Ex
def runV (t : M16.Run) : List V := [.int (t.1 : Nat), .int t.2.1, .int t.2.2]
section
variable {P : Program} {w : World} {K : PySem.W.Frag} {mg : Str → Option Value} {base : Heap} {f : Addr} {fd : FuncData}
def fitB (ns : List Int) (a hi : Int) (k : Nat) : Bool := decide (a % sz ns k = 0) && decide (a + sz ns k ≤ hi)
def spRunsL : Sp := fun vs H Q _ => ∃ (s : Addr) (ns : List Int) (lo hi : Int), vs = [.ref s, .int lo, .int hi] ∧ H s = some (.lst (ns.map V.int)) ∧ Good ns ∧ 0 ≤ lo ∧ lo ≤ hi ∧ hi ≤ 1000000000000 ∧
  ∀ L ps H', H L = none → Same H H' → H' L = some (.lst (ps.map V.ref)) → Refs runV H' ps (M16.R (sz ns) ns.length hi lo) → Q (.ref L) H'
theorem lv_is {ns : List Int} (g : Good ns) {a hi : Int} (h : a < hi) {m : Int} (h1 : m ∈ ((List.range ns.length).filter (fitB ns a hi)).map fun k : Nat => (k : Int)) (h2 : ∀ y ∈ ((List.range ns.length).filter (fitB ns a hi)).map fun k : Nat => (k : Int), y ≤ m) : m = (M16.L (sz ns) ns.length hi a : Nat) := by
  have c := chain g
  obtain ⟨k, hk, rfl⟩ := List.mem_map.mp h1
  obtain ⟨k1, k2⟩ := List.mem_filter.mp hk
  have k1 := List.mem_range.mp k1
  unfold fitB at k2
  rw [Bool.and_eq_true, decide_eq_true_eq, decide_eq_true_eq] at k2
  have e1 : k ≤ M16.L (sz ns) ns.length hi a := Classical.byContradiction fun z => M16.L_max c (a := a) (hi := hi) k1 (by omega) k2
  have e2 := h2 (M16.L (sz ns) ns.length hi a : Nat) (List.mem_map.mpr ⟨_, List.mem_filter.mpr ⟨List.mem_range.mpr (M16.L_lt c), by
    have := M16.L_lies c h
    unfold fitB
    rw [decide_eq_true this.1, decide_eq_true this.2]
    rfl⟩, rfl⟩)
  omega
theorem up_nx {z a : Int} (hz : 1 ≤ z) : (a + z - 1) / z * z = M16.nx z a := by
  have h1 := M16.nx_dvd z a
  have h2 := M16.nx_ge a hz
  have h3 := M16.nx_lt a hz
  have e : (a + z - 1) / z * z = (a + z - 1) - (a + z - 1) % z := by
    have := Int.mul_ediv_add_emod (a + z - 1) z
    rw [Int.mul_comm] at this
    omega
  have d : z ∣ (a + z - 1) / z * z := Int.dvd_mul_left _ _
  have m0 := Int.emod_nonneg (a + z - 1) (show z ≠ 0 by omega)
  have m1 := Int.emod_lt_of_pos (a + z - 1) (show 0 < z by omega)
  rw [e] at d ⊢
  have le : M16.nx z a ≤ (a + z - 1) - (a + z - 1) % z := M16.nx_least hz d (by omega)
  rcases Int.lt_or_eq_of_le le with k | k
  · have := M16.gap h1 d k
    omega
  · exact k.symm
theorem many2 {s : Nat → Int} {m : Nat} {hi a : Int} (c : M16.Ch s m) (h : a < hi) (c2 : ¬ (M16.L s m hi a + 1 < m ∧ M16.nx (s (M16.L s m hi a + 1)) a + s (M16.L s m hi a + 1) ≤ hi)) : (hi - a) / s (M16.L s m hi a) = (M16.en s m hi a - a) / s (M16.L s m hi a) := by
  rw [M16.en2 c2]
  have z := c.pos _ (M16.L_lt (s := s) (hi := hi) (a := a) c)
  obtain ⟨k, hk⟩ := M16.dvd0 (M16.L_lies c h).1
  generalize s (M16.L s m hi a) = z1 at *
  have e : (hi - hi % z1 - a) = z1 * (hi / z1 - k) := by
    have := Int.mul_ediv_add_emod hi z1
    rw [Int.mul_sub, ← hk]
    omega
  have e2 : hi - a = hi + z1 * (-k) := by rw [Int.mul_neg, ← hk]; omega
  rw [e, Int.mul_ediv_cancel_left _ (by omega), e2, Int.add_mul_ediv_left _ _ (by omega)]
  omega
theorem ints_refs (ns : List Int) (ps : List Addr) {x : Prop} (g : Good ns) (h : some (HO.lst (ps.map V.ref)) = some (.lst (ns.map V.int))) : x := by
  have h0 := g.one
  cases ns with
  | nil => cases h0
  | cons n r =>
    cases ps with
    | nil => cases h
    | cons p ps => cases h
theorem sc__law_runs : FnScope ["_law_sizes_here", "_law_low", "_law_high", "_law_result", "_law_at", "_law_level", "_law_many", "_law_large", "_law_up", "_law_k"] ["_law_sizes_here", "_law_low", "_law_high"] (defScope (top 50)) := ⟨rfl, rfl, rfl, by decide +kernel, rfl, by decide +kernel, by decide +kernel⟩
theorem ok_runs (T : Tx K mg) (F : FnP K "_law_runs" "_law_runs" (top 50) f fd) : FnOk P w K mg base CX0 1 f fd ["_law_sizes_here", "_law_low", "_law_high"] spRunsL := by
  refine F.ok sc__law_runs (fun vs H Q E h => ?_) (fun cdv A outer s H vs Q E hr h => ⟨_, PSs.nox (pss_cons (ps_asg (pe_tup (pa_cons (pe_lst pa_nil) (pa_cons (pv 1) pa_nil))) (pg_tup (by rfl) (pgs_cons (pg_name (i := 3) sc__law_runs.nd rfl (by first | exact Or.inl rfl | exact Or.inr rfl)) (pgs_cons (pg_name (i := 4) sc__law_runs.nd rfl (by first | exact Or.inl rfl | exact Or.inr rfl)) pgs_nil)))) (pss_cons (ps_while PassesOwn.never (pt_cmpR op_lt (pv 4) (pv 2) (nomark _)) (pss_cons (ps_set (i := 5) sc__law_runs.nd rfl (by first | exact Or.inl rfl | exact Or.inr rfl) (pe_callB (cr_max rfl) (by rfl) T.n_max (by decide +kernel) (pa_cons (pe_lc (own := [("_law_k", 9)]) (g := gName 9) rfl sc__law_runs.nd (pi_range1 rfl T.n_range (pa_cons (pe_callB call_len_seq (by rfl) T.n_len (by decide +kernel) (pa_cons (pv 0) pa_nil)) pa_nil)) (blkOk_by (own := [("_law_k", 9)]) (N := ["_law_sizes_here", "_law_low", "_law_high", "_law_result", "_law_at", "_law_level", "_law_many", "_law_large", "_law_up", "_law_k"]) (sc := defScope (top 50)) (by decide +kernel)) (fun _ _ _ _ _ => pg_name (i := 9) sc__law_runs.nd rfl (Or.inl rfl)) (fun _ _ _ _ _ => (pts_one (PW.pt (pw_and (pt_cmpR op_eq (pe_op op_mod (pv 4) (pe_ix (r := rIxL K) ix_list (pv 0) (pv 9) (fun _ _ => rfl))) pe_int (nomark _)) (pw_and1 (pt_cmpR op_le (pe_op op_add (pv 4) (pe_ix (r := rIxL K) ix_list (pv 0) (pv 9) (fun _ _ => rfl))) (pv 2) (nomark _))))))) (fun _ _ _ _ _ => (pv 9))) pa_nil))) (pss_cons (ps_set (i := 6) sc__law_runs.nd rfl (by first | exact Or.inl rfl | exact Or.inr rfl) (pe_op op_fdivW (pe_op op_sub (pv 2) (pv 4)) (pe_ix ix_list (pv 0) (pv 5) (fun _ _ => rfl)))) (pss_cons (ps_if (pt_cmpR op_lt (pe_op op_add (pv 5) pe_int) (pe_callB call_len_seq (by rfl) T.n_len (by decide +kernel) (pa_cons (pv 0) pa_nil)) (nomark _)) (pss_cons (ps_set (i := 7) sc__law_runs.nd rfl (by first | exact Or.inl rfl | exact Or.inr rfl) (pe_ix ix_list (pv 0) (pe_op op_add (pv 5) pe_int) (fun _ _ => rfl))) (pss_cons (ps_set (i := 8) sc__law_runs.nd rfl (by first | exact Or.inl rfl | exact Or.inr rfl) (pe_op op_mul (pe_op op_fdivW (pe_op op_sub (pe_op op_add (pv 4) (pv 7)) pe_int) (pv 7)) (pv 7))) (pss_one (ps_if (pt_cmpR op_le (pe_op op_add (pv 8) (pv 7)) (pv 2) (nomark _)) (pss_one (ps_set (i := 6) sc__law_runs.nd rfl (by first | exact Or.inl rfl | exact Or.inr rfl) (pe_op op_fdivW (pe_op op_sub (pv 8) (pv 4)) (pe_ix ix_list (pv 0) (pv 5) (fun _ _ => rfl))))) pss_nil)))) pss_nil) (pss_cons (ps_expr (pe_bm PySem.F.plainAttrs_list PySem.F.slot_list_append PySem.F.type_list_append mt_append (pv 3) (pa_cons (pe_tup (pa_cons (pv 5) (pa_cons (pv 4) (pa_cons (pv 6) pa_nil)))) pa_nil))) (pss_one (ps_set (i := 4) sc__law_runs.nd rfl (by first | exact Or.inl rfl | exact Or.inr rfl) (pe_op op_add (pv 4) (pe_op op_mul (pv 6) (pe_ix ix_list (pv 0) (pv 5) (fun _ _ => rfl))))))))))) (pss_one (ps_ret (pv 3))))), ?_⟩)
  · obtain ⟨s, ns, lo, hi, rfl, _⟩ := h
    rfl
  · obtain ⟨s, ns, lo, hi, rfl, hs, g, lo0, le, hi9, q⟩ := h
    have c := chain g
    have sl : sizeLine = 16777216 := sizeLine_eq
    have g8 := g.len
    refine ⟨(by show 0 ≤ sizeLine; decide), fun L hL => ⟨_, rfl, (by show 2 ≤ sizeLine; decide), fun t ht => ?_⟩⟩
    refine ⟨t, _, rfl, .inl (.inl upd_same), rfl, _, _, rfl, _, _, rfl, rfl, ?_⟩
    have s0 := (same_upd (o := .lst []) hL).trans (same_upd (o := .tup [.ref L, .int lo]) ht)
    have hL0 : (upd (upd H L (.lst [])) t (.tup [.ref L, .int lo])) L = some (.lst (([] : List Addr).map V.ref)) := same_upd (o := .tup [.ref L, .int lo]) ht _ _ upd_same
    generalize upd (upd H L (.lst [])) t (.tup [.ref L, .int lo]) = H0 at s0 hL0
    refine ⟨fun m σ G => ∃ (a : Int) (ps : List Addr) (done : List M16.Run) (x5 x6 x7 x8 : Option V), m = (hi - a).toNat ∧ σ = [some (.ref s), some (.int lo), some (.int hi), some (.ref L), some (.int a), x5, x6, x7, x8, none] ∧ Same H G ∧ G L = some (.lst (ps.map V.ref)) ∧ Refs runV G ps done ∧ M16.Mid (sz ns) ns.length hi lo a done,
      ⟨_, lo, [], [], none, none, none, none, rfl, rfl, s0, hL0, .nil, M16.mid0 c le⟩, ?_⟩
    rintro m σ G ⟨a, ps, done, x5, x6, x7, x8, rfl, rfl, sm, hG, rf, M⟩
    refine ⟨_, rfl, _, rfl, _, _, rfl, rfl, _, rfl, ?_⟩
    by_cases hc : a < hi
    case neg =>
      refine ifF (decide_eq_false hc) ⟨_, rfl, q L ps G hL sm hG ?_⟩
      have e := M.eq
      rw [M16.R_end hc, List.append_nil] at e
      rw [e]
      exact rf
    refine ifT (decide_eq_true hc) ?_
    have la := M.lo_le
    have short : done.length ≤ 16 := by
      have l := M16.R_short (s := sz ns) (a := lo) (hi := hi) c g.len.2
      have l2 := congrArg List.length M.eq
      rw [List.length_append] at l2
      omega
    refine ⟨fun σ' G' => ∃ (ps : List Addr) (done : List M16.Run) (x5 x6 x7 x8 : Option V), σ' = [some (.ref s), some (.int lo), some (.int hi), some (.ref L), some (.int (M16.en (sz ns) ns.length hi a)), x5, x6, x7, x8, none] ∧ Same H G' ∧ G' L = some (.lst (ps.map V.ref)) ∧ Refs runV G' ps done ∧ M16.Mid (sz ns) ns.length hi lo (M16.en (sz ns) ns.length hi a) done,
      fun σ' G' ⟨ps, done, x5, x6, x7, x8, r⟩ => ⟨_, (by have gg : a < M16.en (sz ns) ns.length hi a := M16.en_gt c hc; show (hi - M16.en (sz ns) ns.length hi a).toNat < _; omega), M16.en (sz ns) ns.length hi a, ps, done, x5, x6, x7, x8, rfl, r⟩, ?_⟩
    have hsG := sm _ _ hs
    refine ⟨_, rfl, s, _, rfl, .inl (SqL.of hsG), _, rfl, (by omega), (by rw [List.length_map]; omega), fun D hD => ?_⟩
    refine lc_range (fun i G' => G' D = some (.lst ((((List.range i).filter (fitB ns a hi)).map fun k : Nat => (k : Int)).map V.int)) ∧ Same G G') ⟨upd_same, same_upd hD⟩ ?_ ?_
    · rintro i G1 hi2 ⟨hD1, s1⟩
      rw [List.length_map] at hi2
      have ik : i < ns.length := by omega
      have z1 := c.pos i ik
      have fl := List.length_filter_le (fitB ns a hi) (List.range i)
      rw [List.length_range] at fl
      refine ⟨rfl, _, rfl, _, rfl, _, rfl, s, _, _, _, rfl, rfl, SqL.of (s1 _ _ hsG), (by rw [Int.zero_add]; exact at_sz ik), _, _, rfl, rfl, (by show 0 < sz ns i; omega), rfl, _, rfl, ?_⟩
      have tk : (List.range (i + 1)).filter (fitB ns a hi) = (List.range i).filter (fitB ns a hi) ++ (if fitB ns a hi i then [i] else []) := by
        rw [List.range_succ, List.filter_append]
        cases e : fitB ns a hi i <;> simp [e]
      have no : fitB ns a hi i = false → G1 D = some (.lst ((((List.range (i + 1)).filter (fitB ns a hi)).map fun k : Nat => (k : Int)).map V.int)) ∧ Same G G1 := fun e => by
        rw [tk, e]
        refine ⟨?_, s1⟩
        simpa using hD1
      by_cases h1 : a % sz ns i = 0
      · refine ifT (vT h1) ?_
        refine ⟨_, rfl, _, rfl, _, rfl, s, _, _, _, rfl, rfl, SqL.of (s1 _ _ hsG), (by rw [Int.zero_add]; exact at_sz ik), _, _, rfl, rfl, _, rfl, _, _, rfl, rfl, _, rfl, ?_⟩
        by_cases h2 : a + sz ns i ≤ hi
        · have fit : fitB ns a hi i = true := by unfold fitB; rw [decide_eq_true h1, decide_eq_true h2]; rfl
          refine ifT (decide_eq_true h2) ⟨_, rfl, _, hD1, (by rw [List.length_map, List.length_map]; omega), ?_, fun c o e => ?_⟩
          · rw [upd_same, tk, fit, Int.zero_add]
            simp
          · rw [upd_ne (ne_of_none e hD)]
            exact s1 c o e
        · exact ifF (decide_eq_false h2) (no (by unfold fitB; rw [decide_eq_false h2, Bool.and_false]))
      · exact ifF (vF h1) (iteF (no (by unfold fitB; rw [decide_eq_false h1]; rfl)))
    · rintro G1 ⟨hD1, s1⟩
      rw [List.length_map, Int.toNat_natCast] at hD1
      refine ⟨D, _, rfl, SqL.of hD1, ?_, fun m m1 m2 => ?_⟩
      · refine List.length_pos_iff.mpr fun z => ?_
        have : M16.L (sz ns) ns.length hi a ∈ (List.range ns.length).filter (fitB ns a hi) := List.mem_filter.mpr ⟨List.mem_range.mpr (M16.L_lt c), by
          have := M16.L_lies c hc
          unfold fitB
          rw [decide_eq_true this.1, decide_eq_true this.2]
          rfl⟩
        rw [List.map_eq_nil_iff.mp z] at this
        cases this
      · obtain rfl := lv_is g hc m1 m2
        have lm : M16.L (sz ns) ns.length hi a < ns.length := M16.L_lt c
        have zL := c.pos _ lm
        have zL9 := sz_le g lm
        have sm1 := sm.trans s1
        have hs1 := sm1 _ _ hs
        refine ⟨_, rfl, _, rfl, _, _, rfl, rfl, _, rfl, _, rfl, s, _, _, _, rfl, rfl, SqL.of hs1, at_sz lm, _, _, rfl, rfl, div_ok zL zL9, ?_⟩
        refine ⟨_, rfl, _, _, rfl, rfl, _, rfl, s, _, rfl, .inl (SqL.of hs1), _, _, rfl, rfl, _, rfl, ?_⟩
        by_cases c1 : M16.L (sz ns) ns.length hi a + 1 < ns.length
        · have zU := c.pos _ c1
          have zU9 := sz_le g c1
          have un := up_nx (a := a) zU
          refine ifT (decide_eq_true (by rw [List.length_map]; omega)) ?_
          refine ⟨_, rfl, _, rfl, _, _, rfl, rfl, s, _, _, _, rfl, rfl, SqL.of hs1, (show atI (ns.map V.int) ((M16.L (sz ns) ns.length hi a : Nat) + 1) = some (.int (sz ns (M16.L (sz ns) ns.length hi a + 1))) from at_sz c1), ?_⟩
          refine ⟨_, rfl, _, rfl, _, _, rfl, rfl, _, _, rfl, rfl, _, rfl, _, _, rfl, rfl, div_ok zU zU9, _, rfl, _, _, rfl, rfl, .inr ⟨by omega, by omega⟩, ?_⟩
          refine ⟨_, rfl, _, rfl, _, _, rfl, rfl, _, rfl, _, _, rfl, rfl, _, rfl, ?_⟩
          by_cases c2 : (a + sz ns (M16.L (sz ns) ns.length hi a + 1) - 1) / sz ns (M16.L (sz ns) ns.length hi a + 1) * sz ns (M16.L (sz ns) ns.length hi a + 1) + sz ns (M16.L (sz ns) ns.length hi a + 1) ≤ hi
          · refine ifT (decide_eq_true c2) ?_
            rw [un] at c2
            have em := M16.en1 (s := sz ns) (m := ns.length) (hi := hi) (a := a) ⟨c1, c2⟩
            rw [← un] at em
            have em := congrArg (fun x => (x - a) / sz ns (M16.L (sz ns) ns.length hi a)) em.symm
            refine ⟨_, rfl, _, rfl, _, _, rfl, rfl, _, rfl, _, rfl, s, _, _, _, rfl, rfl, SqL.of hs1, at_sz lm, _, _, rfl, rfl, div_ok zL zL9, ?_⟩
            have m1 := M16.run_one c hc
            have mc := M16.run_cells c hc
            have eg := M16.en_gt c hc
            have el := M16.en_le (s := sz ns) (m := ns.length) (hi := hi) (a := a) c
            have hG1 := s1 _ _ hG
            refine ⟨_, rfl, .inl ⟨rfl, _, SqL.of hG1⟩, _, rfl, _, rfl, _, rfl, (by show 3 ≤ sizeLine; decide), fun u hu => ?_⟩
            have nL : L ≠ u := ne_of_none hG1 hu
            have rl := rf.len
            refine ⟨L, _, _, rfl, rfl, (by rw [upd_ne nL]; exact hG1), (by rw [List.length_map]; omega), ?_⟩
            refine ⟨_, rfl, _, rfl, _, rfl, _, rfl, s, _, _, _, rfl, rfl, SqL.of (by rw [upd_ne (fun z => by rw [z, hG1] at hs1; exact ints_refs ns ps g hs1), upd_ne (ne_of_none hs1 hu)]; exact hs1), at_sz lm, _, _, rfl, rfl, .inr ⟨by omega, by omega⟩, _, _, rfl, rfl, ?_⟩
            refine ⟨ps ++ [u], done ++ [M16.run (sz ns) ns.length hi a], ?x5a, ?x6a, ?x7a, ?x8a, ?e1, fun c o e => ?e2, ?e3, ?e4, M.next c hc⟩
            case e1 =>
              dsimp only
              rw [em, mc, show a + (M16.en (sz ns) ns.length hi a - a) = M16.en (sz ns) ns.length hi a by omega]
              rfl
            case e2 =>
              rw [upd_ne (ne_of_none e hL), upd_ne (ne_of_none (sm1 _ _ e) hu)]
              exact sm1 _ _ e
            case e3 =>
              rw [upd_same, List.map_append]
              rfl
            case e4 =>
              dsimp only
              rw [em]
              refine Refs.more (u := M16.run (sz ns) ns.length hi a) (rf.same s1) hG1 hu
          · refine ifF (decide_eq_false c2) ?_
            rw [un] at c2
            have em := many2 c hc fun z => c2 z.2
            have m1 := M16.run_one c hc
            have mc := M16.run_cells c hc
            have eg := M16.en_gt c hc
            have el := M16.en_le (s := sz ns) (m := ns.length) (hi := hi) (a := a) c
            have hG1 := s1 _ _ hG
            refine ⟨_, rfl, .inl ⟨rfl, _, SqL.of hG1⟩, _, rfl, _, rfl, _, rfl, (by show 3 ≤ sizeLine; decide), fun u hu => ?_⟩
            have nL : L ≠ u := ne_of_none hG1 hu
            have rl := rf.len
            refine ⟨L, _, _, rfl, rfl, (by rw [upd_ne nL]; exact hG1), (by rw [List.length_map]; omega), ?_⟩
            refine ⟨_, rfl, _, rfl, _, rfl, _, rfl, s, _, _, _, rfl, rfl, SqL.of (by rw [upd_ne (fun z => by rw [z, hG1] at hs1; exact ints_refs ns ps g hs1), upd_ne (ne_of_none hs1 hu)]; exact hs1), at_sz lm, _, _, rfl, rfl, .inr ⟨by omega, by omega⟩, _, _, rfl, rfl, ?_⟩
            refine ⟨ps ++ [u], done ++ [M16.run (sz ns) ns.length hi a], ?x5b, ?x6b, ?x7b, ?x8b, ?e1, fun c o e => ?e2, ?e3, ?e4, M.next c hc⟩
            case e1 =>
              dsimp only
              rw [em, mc, show a + (M16.en (sz ns) ns.length hi a - a) = M16.en (sz ns) ns.length hi a by omega]
              rfl
            case e2 =>
              rw [upd_ne (ne_of_none e hL), upd_ne (ne_of_none (sm1 _ _ e) hu)]
              exact sm1 _ _ e
            case e3 =>
              rw [upd_same, List.map_append]
              rfl
            case e4 =>
              dsimp only
              rw [em]
              refine Refs.more (u := M16.run (sz ns) ns.length hi a) (rf.same s1) hG1 hu
        · refine ifF (decide_eq_false (by rw [List.length_map]; omega)) ?_
          have em := many2 c hc fun z => c1 z.1
          have m1 := M16.run_one c hc
          have mc := M16.run_cells c hc
          have eg := M16.en_gt c hc
          have el := M16.en_le (s := sz ns) (m := ns.length) (hi := hi) (a := a) c
          have hG1 := s1 _ _ hG
          refine ⟨_, rfl, .inl ⟨rfl, _, SqL.of hG1⟩, _, rfl, _, rfl, _, rfl, (by show 3 ≤ sizeLine; decide), fun u hu => ?_⟩
          have nL : L ≠ u := ne_of_none hG1 hu
          have rl := rf.len
          refine ⟨L, _, _, rfl, rfl, (by rw [upd_ne nL]; exact hG1), (by rw [List.length_map]; omega), ?_⟩
          refine ⟨_, rfl, _, rfl, _, rfl, _, rfl, s, _, _, _, rfl, rfl, SqL.of (by rw [upd_ne (fun z => by rw [z, hG1] at hs1; exact ints_refs ns ps g hs1), upd_ne (ne_of_none hs1 hu)]; exact hs1), at_sz lm, _, _, rfl, rfl, .inr ⟨by omega, by omega⟩, _, _, rfl, rfl, ?_⟩
          refine ⟨ps ++ [u], done ++ [M16.run (sz ns) ns.length hi a], ?x5c, ?x6c, ?x7c, ?x8c, ?e1, fun c o e => ?e2, ?e3, ?e4, M.next c hc⟩
          case e1 =>
            dsimp only
            rw [em, mc, show a + (M16.en (sz ns) ns.length hi a - a) = M16.en (sz ns) ns.length hi a by omega]
            rfl
          case e2 =>
            rw [upd_ne (ne_of_none e hL), upd_ne (ne_of_none (sm1 _ _ e) hu)]
            exact sm1 _ _ e
          case e3 =>
            rw [upd_same, List.map_append]
            rfl
          case e4 =>
            dsimp only
            rw [em]
            refine Refs.more (u := M16.run (sz ns) ns.length hi a) (rf.same s1) hG1 hu
end
end K35

set_option Elab.async false
set_option linter.all false
set_option maxRecDepth 100000
set_option maxHeartbeats 4000000
set_option pp.maxSteps 900
namespace K35
open PySem PySem.Spec PyProof.Rows L2 Gu Ex
theorem filter_atG {α : Type} (c : α → Bool) {l : List α} {i : Nat} {x : α} (h : l[i]? = some x) : (l.take (i + 1)).filter c = (l.take i).filter c ++ (if c x = true then [x] else []) := by
  rw [take_snoc h, List.filter_append]
  cases e : c x <;> simp [e]
section
variable {P : Program} {w : World} {K : PySem.W.Frag} {mg : Str → Option Value} {base : Heap} {f : Addr} {fd : FuncData}
def spFrL : Sp := fun vs H Q _ => ∃ (s a : Addr) (ns : List Int) (n : Int) (qs : List Addr) (bs : List Blk), vs = [.ref s, .int n, .ref a] ∧ H s = some (.lst (ns.map V.int)) ∧ Good ns ∧ H a = some (.lst (qs.map V.ref)) ∧ Refs blkV H qs bs ∧ Un ns n bs ∧ 0 ≤ n ∧ n ≤ 1000000000000 ∧ bs.length ≤ 100 ∧
  ∀ L ps rs H', H L = none → Same H H' → H' L = some (.lst (ps.map V.ref)) → Refs runV H' ps rs → FrOk ns n bs rs → Q (.ref L) H'
theorem sc__law_free_runs : FnScope ["_law_sizes_here", "_law_length", "_law_blocks_here", "_law_result", "_law_at", "_law_address", "_law_level", "_law_is_pinned"] ["_law_sizes_here", "_law_length", "_law_blocks_here"] (defScope (top 51)) := ⟨rfl, rfl, rfl, by decide +kernel, rfl, by decide +kernel, by decide +kernel⟩
theorem ok_frl (T : Tx K mg) (D__law_runs : Df P w K mg base 1 "_law_runs" ["_law_sizes_here", "_law_low", "_law_high"] spRunsL) (F : FnP K "_law_free_runs" "_law_free_runs" (top 51) f fd) : FnOk P w K mg base CX0 2 f fd ["_law_sizes_here", "_law_length", "_law_blocks_here"] spFrL := by
  refine F.ok sc__law_free_runs (fun vs H Q E h => ?_) (fun cdv A outer s H vs Q E hr h => ⟨_, PSs.nox (pss_cons (ps_par (by rfl) sc__law_free_runs.nd (i := 3) (j := 4) rfl rfl (by decide) rfl rfl (pa_cons (pe_lst pa_nil) (pa_cons pe_int pa_nil)) (by rfl)) (pss_cons (ps_for PassesOwn.never rfl (pi_list (pe_callB cr_sortedB (by rfl) T.n_sorted (by decide +kernel) (pa_cons (pv 2) pa_nil))) (pg_tup (by rfl) (pgs_cons (pg_name (i := 5) sc__law_free_runs.nd rfl (by first | exact Or.inl rfl | exact Or.inr rfl)) (pgs_cons (pg_name (i := 6) sc__law_free_runs.nd rfl (by first | exact Or.inl rfl | exact Or.inr rfl)) (pgs_cons (pg_name (i := 7) sc__law_free_runs.nd rfl (by first | exact Or.inl rfl | exact Or.inr rfl)) pgs_nil)))) (pss_cons (ps_set (i := 3) sc__law_free_runs.nd rfl (by first | exact Or.inl rfl | exact Or.inr rfl) (pe_op op_cat (pv 3) (pcall D__law_runs hr (pa_cons (pv 0) (pa_cons (pv 4) (pa_cons (pv 5) pa_nil)))))) (pss_one (ps_set (i := 4) sc__law_free_runs.nd rfl (by first | exact Or.inl rfl | exact Or.inr rfl) (pe_op op_add (pv 5) (pe_ix ix_list (pv 0) (pv 6) (fun _ _ => rfl))))))) (pss_one (ps_ret (pe_op op_cat (pv 3) (pcall D__law_runs hr (pa_cons (pv 0) (pa_cons (pv 4) (pa_cons (pv 1) pa_nil))))))))), ?_⟩)
  · obtain ⟨s, a, ns, n, qs, bs, rfl, _⟩ := h
    rfl
  · obtain ⟨s, a, ns, n, qs, bs, rfl, hs, g, ha, rf, un, n0, n9, b100, q⟩ := h
    have sl : sizeLine = 16777216 := sizeLine_eq
    refine ⟨(by show 0 ≤ sizeLine; decide), fun L hL => ⟨_, _, rfl, ?_⟩⟩
    have s0 := same_upd (o := .lst []) hL
    have hL0 : (upd H L (.lst [])) L = some (.lst (([] : List Addr).map V.ref)) := upd_same
    have rfa := rf.same s0
    have ha0 := s0 _ _ ha
    obtain ⟨k1, k2⟩ := un.keys g rfa
    generalize upd H L (.lst []) = H0 at s0 hL0 rfa ha0 k1 k2
    refine ⟨_, rfl, a, _, keyV H0, rfl, SqL.of ha0, k1, k2, fun zs p hs' hp hpn => ?_⟩
    obtain ⟨qs', bs', rfl, rf', pm, wf⟩ := un.sorted g rfa hs' hp
    have s1 := same_upd (o := .lst (qs'.map V.ref)) hpn
    have hp1 : (upd H0 p (.lst (qs'.map V.ref))) p = some (.lst (qs'.map V.ref)) := upd_same
    have sH := s0.trans s1
    have hL1 := s1 _ _ hL0
    have rf1 := rf'.same s1
    generalize upd H0 p (.lst (qs'.map V.ref)) = H1 at s1 hp1 sH hL1 rf1
    have bl : bs'.length ≤ 100 := by rw [pm.length_eq]; exact b100
    have ql := rf1.len
    refine ⟨p, rfl, ⟨_, SqL.of hp1⟩, ?_⟩
    refine for_list (K := K) (a := p) (xs := qs'.map V.ref) (fun i σ G => ∃ (R : Addr) (at_ : Int) (ps : List Addr) (rs : List M16.Run) (x5 x6 x7 : Option V), σ = [some (.ref s), some (.int n), some (.ref a), some (.ref R), some (.int at_), x5, x6, x7] ∧ H R = none ∧ Same H G ∧ Same H1 G ∧ G R = some (.lst (ps.map V.ref)) ∧ Refs runV G ps rs ∧ FrI ns bs' i at_ rs)
      ⟨L, 0, [], [], none, none, none, rfl, hL, sH, Same.refl _, hL1, .nil, FrI.start g⟩ (fun i σ G _ ⟨_, _, _, _, _, _, _, _, _, _, sm, _⟩ => SqL.of (sm _ _ hp1)) ?_ ?_
    · rintro i v σ G hv ⟨R, at_, ps, rs, x5, x6, x7, rfl, hR, sm, sm1, hG, rfG, FI⟩
      obtain ⟨p', hp', rfl⟩ := ref_of hv
      obtain ⟨b, hb, hT⟩ := (rf1.same sm1).get hp'
      have hT' : G p' = some (.tup [.int b.1, .int (b.2.1 : Nat), .bl b.2.2]) := hT
      have il := (List.getElem?_eq_some_iff.mp hb).1
      have o := wf.ok b (List.mem_of_getElem? hb)
      have z1 := (chain g).pos _ o.1
      obtain ⟨le, FN⟩ := FI.next wf g hb
      have a0 := (FI.at0 wf g).1
      have b9 : b.1 + sz ns b.2.1 ≤ n := o.2.2.2
      have rl := rfG.len
      have rl2 := FI.len
      refine ⟨p', _, rfl, .inl (.inl hT'), rfl, _, _, rfl, _, _, rfl, _, _, rfl, rfl, ?_⟩
      refine ⟨_, rfl, _, rfl, _, rfl, _, rfl, s, ns, at_, b.1, rfl, sm _ _ hs, g, a0, le, by omega, fun L2 ps2 G2 hL2 s2 hL2' rf2 => ?_⟩
      have hG2 := s2 _ _ hG
      have r2 := rf2.len
      have r3 := M16.R_short (s := sz ns) (a := at_) (hi := b.1) (chain g) g.len.2
      refine ⟨R, L2, _, _, rfl, rfl, hG2, hL2', (by rw [List.length_map, List.length_map]; omega), fun L3 hL3 => ?_⟩
      have s3 := same_upd (o := .lst (ps.map V.ref ++ ps2.map V.ref)) hL3
      have hL3' : (upd G2 L3 (.lst (ps.map V.ref ++ ps2.map V.ref))) L3 = some (.lst ((ps ++ ps2).map V.ref)) := by rw [upd_same, List.map_append]
      have s23 := s2.trans s3
      have f3 := sm.free (s2.free hL3)
      have rfN := (rfG.same s23).app (rf2.same s3)
      generalize upd G2 L3 (.lst (ps.map V.ref ++ ps2.map V.ref)) = G3 at s3 hL3' s23 rfN
      have hs3 := (sm.trans s23) _ _ hs
      refine ⟨_, rfl, _, rfl, _, rfl, s, _, _, _, rfl, rfl, SqL.of hs3, at_sz o.1, _, _, rfl, rfl, ?_⟩
      exact ⟨L3, bEnd ns b, ps ++ ps2, _, _, _, _, rfl, f3, sm.trans s23, sm1.trans s23, hL3', rfN, FN⟩
    · rintro σ G ⟨R, at_, ps, rs, x5, x6, x7, rfl, hR, sm, sm1, hG, rfG, FI⟩
      rw [List.length_map, ql] at FI
      obtain ⟨le, FO⟩ := FI.fin wf g n0
      have a0 := (FI.at0 wf g).1
      have rl := rfG.len
      have rl2 := FI.len
      refine ⟨_, rfl, _, rfl, _, rfl, _, rfl, s, ns, at_, n, rfl, sm _ _ hs, g, a0, le, n9, fun L2 ps2 G2 hL2 s2 hL2' rf2 => ?_⟩
      have hG2 := s2 _ _ hG
      have r2 := rf2.len
      have r3 := M16.R_short (s := sz ns) (a := at_) (hi := n) (chain g) g.len.2
      refine ⟨R, L2, _, _, rfl, rfl, hG2, hL2', (by rw [List.length_map, List.length_map]; omega), fun L3 hL3 => ?_⟩
      have s3 := same_upd (o := .lst (ps.map V.ref ++ ps2.map V.ref)) hL3
      have s23 := s2.trans s3
      exact q L3 (ps ++ ps2) _ _ (sm.free (s2.free hL3)) (sm.trans s23) (by rw [upd_same, List.map_append]) ((rfG.same s23).app (rf2.same s3)) (FO.perm pm.symm)
def spPlc : Sp := fun vs H Q _ => ∃ (r s a : Addr) (ns : List Int) (n : Int) (qs : List Addr) (bs : List Blk) (k : Nat), vs = [.ref r, .ref s, .int n, .ref a, .int k] ∧ Rng H r ∧ H s = some (.lst (ns.map V.int)) ∧ s ≠ r ∧ Good ns ∧ H a = some (.lst (qs.map V.ref)) ∧ Refs blkV H qs bs ∧ Un ns n bs ∧ 0 ≤ n ∧ n ≤ 1000000000000 ∧ bs.length ≤ 60 ∧ k < ns.length ∧
  (∃ x : Int, 0 ≤ x ∧ sz ns k ∣ x ∧ x + sz ns k ≤ n ∧ ∀ c ∈ bs, bEnd ns c ≤ x ∨ x + sz ns k ≤ c.1) ∧
  ∀ (x : Int) H', 0 ≤ x → sz ns k ∣ x → x + sz ns k ≤ n → (∀ c ∈ bs, bEnd ns c ≤ x ∨ x + sz ns k ≤ c.1) → Stp r H H' → Q (.int x) H'
end
end K35

set_option Elab.async false
set_option linter.all false
set_option maxRecDepth 100000
set_option maxHeartbeats 4000000
/-! The law's own moves: unpinned blocks, the larger ones first, go to free regions. -/
namespace K35
open PySem PySem.Spec PyProof.Rows L2 Gu Ex
theorem refs_pm0 {α : Type} {f : α → List V} {G : Hp} {qs' qs : List Addr} (p : qs'.Perm qs) : ∀ {ts : List α}, Refs f G qs ts → ∃ ts', Refs f G qs' ts' ∧ ts'.Perm ts := by
  induction p with
  | nil => exact fun h => ⟨_, h, List.Perm.refl _⟩
  | cons x p ih =>
    intro ts h
    cases h with
    | cons e h =>
      obtain ⟨ts', h1, h2⟩ := ih h
      exact ⟨_, .cons e h1, h2.cons _⟩
  | swap x y l =>
    intro ts h
    cases h with
    | cons e h =>
      cases h with
      | cons e2 h => exact ⟨_, .cons e2 (.cons e h), List.Perm.swap _ _ _⟩
  | trans p1 p2 i1 i2 =>
    intro ts h
    obtain ⟨t2, h2, q2⟩ := i2 h
    obtain ⟨t1, h1, q1⟩ := i1 h2
    exact ⟨t1, h1, q1.trans q2⟩
theorem refs_pm {α : Type} {f : α → List V} {G : Hp} {qs : List Addr} {ts : List α} (h : Refs f G qs ts) {ys : List V} (p : ys.Perm (qs.map V.ref)) : ∃ qs' ts', ys = qs'.map V.ref ∧ Refs f G qs' ts' ∧ ts'.Perm ts := by
  obtain ⟨qs', rfl⟩ := refs_of (zs := ys) fun v hv => by
    obtain ⟨t, _, rfl⟩ := List.mem_map.mp (p.mem_iff.mp hv)
    exact ⟨t, rfl⟩
  have := p.map unR
  rw [map_unR, map_unR] at this
  obtain ⟨ts', h1, h2⟩ := refs_pm0 this h
  exact ⟨qs', ts', rfl, h1, h2⟩
def prA (G : Hp) : V → Pr
  | .ref t => match G t with
    | some (.tup [.int a, .int b]) => (a, b)
    | _ => (0, 0)
  | _ => (0, 0)
theorem prA_of {G : Hp} {t : Addr} {x : Pr} (h : G t = some (.tup (prV x))) : prA G (.ref t) = x := by
  unfold prA
  show (match G t with
    | some (.tup [.int a, .int b]) => (a, b)
    | _ => (0, 0)) = x
  rw [h]
  rfl
theorem pr_refs {G : Hp} {qs : List Addr} {ts : List Pr} (h : Refs prV G qs ts) : ts = (qs.map V.ref).map (prA G) ∧ ∀ x ∈ qs.map V.ref, ∃ t, x = V.ref t ∧ G t = some (.tup (prV (prA G x))) := by
  induction h with
  | nil => exact ⟨rfl, fun _ z => nomatch z⟩
  | @cons p ps t ts e _ ih =>
    refine ⟨?_, fun x hx => ?_⟩
    · rw [List.map_cons, List.map_cons, prA_of e, ← ih.1]
    · rcases List.mem_cons.mp hx with z | z
      · subst z
        exact ⟨p, rfl, by rw [prA_of e]; exact e⟩
      · exact ih.2 x z
theorem refs_pr {G : Hp} : ∀ {ys : List V}, (∀ x ∈ ys, ∃ t, x = V.ref t ∧ G t = some (.tup (prV (prA G x)))) → ∃ qs : List Addr, ys = qs.map V.ref ∧ Refs prV G qs (ys.map (prA G))
  | [], _ => ⟨[], rfl, .nil⟩
  | y :: ys, h => by
    obtain ⟨t, e, ht⟩ := h y List.mem_cons_self
    obtain ⟨qs, e2, r⟩ := refs_pr (ys := ys) fun x hx => h x (List.mem_cons_of_mem _ hx)
    subst e
    refine ⟨t :: qs, by rw [e2]; rfl, ?_⟩
    rw [List.map_cons]
    exact .cons ht r
/-- what sorted gives of pairs -/
theorem pairs_sorted {G : Hp} {qs : List Addr} {ts : List Pr} (h : Refs prV G qs ts) {ys : List V} (so : SrtO.Srtd (ltP (prA G)) ys) (sb : SrtO.Stb (ltP (prA G)) ys (qs.map V.ref)) : ∃ qs', ys = qs'.map V.ref ∧ Refs prV G qs' (srtP ts) := by
  obtain ⟨e, k⟩ := pr_refs h
  obtain ⟨qs', e2, r⟩ := refs_pr (G := G) (ys := ys) fun x hx => k x (sb.perm.mem_iff.mp hx)
  refine ⟨qs', e2, ?_⟩
  have : ys.map (prA G) = srtP ts := by
    refine srt_eq (List.pairwise_map.mpr (so.imp fun {x y} z => ?_)) (by rw [e]; exact sb.perm.map _)
    have z : SrtO.lexB (prA G y) (prA G x) = false := z
    have := SrtO.lexB_no.mp z
    unfold ple
    omega
  rw [← this]
  exact r
/-- the level, negative, and the address -/
def keyP (b : Blk) : Pr := (-(b.2.1 : Int), b.1)
def unK (p : Pr) : Blk := (p.2, (-p.1).toNat, false)
theorem unK_key {b : Blk} (h : b.2.2 = false) : unK (keyP b) = b := by
  obtain ⟨a, k, p⟩ := b
  cases h
  unfold unK keyP
  simp
theorem lo_of {mc : List Blk} (h : ∀ b ∈ mc, b.2.2 = false) : ∃ Lo : List Blk, Lo.Perm mc ∧ srtP (mc.map keyP) = Lo.map keyP ∧ Lo.Pairwise fun b c => c.2.1 ≤ b.2.1 := by
  have e1 : (mc.map keyP).map unK = mc := by
    rw [List.map_map]
    have : mc.map (unK ∘ keyP) = mc.map id := List.map_congr_left fun b hb => unK_key (h b hb)
    rw [this, List.map_id]
  have pm := (srtP_perm (mc.map keyP)).map unK
  rw [e1] at pm
  have e2 : srtP (mc.map keyP) = ((srtP (mc.map keyP)).map unK).map keyP := by
    rw [List.map_map]
    have : (srtP (mc.map keyP)).map (keyP ∘ unK) = (srtP (mc.map keyP)).map id := List.map_congr_left fun p hp => by
      obtain ⟨b, hb, rfl⟩ := List.mem_map.mp ((srtP_perm _).mem_iff.mp hp)
      show keyP (unK (keyP b)) = keyP b
      rw [unK_key (h b hb)]
    rw [this, List.map_id]
  refine ⟨_, pm, e2, ?_⟩
  have so := srtP_so (mc.map keyP)
  rw [e2] at so
  refine (List.pairwise_map.mp so).imp fun {b c} z => ?_
  unfold ple keyP at z
  dsimp only at z
  omega
/-- a block and the address where it goes -/
def newOf (t : Blk × Int) : Blk := (t.2, t.1.2.1, false)
def movedB (t : Blk × Int) : Bool := !decide (t.2 = t.1.1)
def mvOf (t : Blk × Int) : Pr := (t.1.1, t.2)
def mmOf (tr : List (Blk × Int)) : List Pr := (tr.filter movedB).map mvOf
theorem nodup_of_map {α β : Type} (f : α → β) : ∀ {l : List α}, (l.map f).Nodup → l.Nodup
  | [], _ => .nil
  | x :: l, h => by
    rw [List.map_cons] at h
    have hn := List.nodup_cons.mp h
    exact List.nodup_cons.mpr ⟨fun z => hn.1 (List.mem_map.mpr ⟨x, z, rfl⟩), nodup_of_map f hn.2⟩
theorem split_in {bs mc : List Blk} (nb : bs.Nodup) (nm : mc.Nodup) (sub : ∀ c ∈ mc, c ∈ bs) : bs.Perm ((bs.filter fun b => !decide (b ∈ mc)) ++ mc) := by
  have h1 := List.filter_append_perm (fun b => !decide (b ∈ mc)) bs
  refine h1.symm.trans (List.Perm.append_left _ ?_)
  refine (List.perm_ext_iff_of_nodup (nb.filter _) nm).mpr fun b => ?_
  rw [List.mem_filter]
  constructor
  · rintro ⟨_, z⟩
    simpa using z
  · intro z
    exact ⟨sub b z, by simpa using z⟩
theorem rr_of {ns : List Int} {n : Int} {bs cs K Lo : List Blk} {tr : List (Blk × Int)} (g : Good ns) (wb : Wf ns n bs) (pb : bs.Perm (K ++ Lo)) (un : ∀ b ∈ Lo, b.2.2 = false) (et : tr.map Prod.fst = Lo) (wc : Wf ns n cs) (pc : cs.Perm (K ++ tr.map newOf)) : Rr ns n bs (mmOf tr) cs := by
  have ndA : ((K ++ Lo).map fun b => b.1).Nodup := ((pb.map _).nodup_iff).mp (wb.nd g)
  rw [List.map_append] at ndA
  obtain ⟨nK, nL, dis⟩ := List.nodup_append.mp ndA
  have e1 : (tr.map fun t => t.1.1) = Lo.map fun b => b.1 := by rw [← et, List.map_map]; rfl
  have n1 : ((mmOf tr).map Prod.fst).Nodup := by
    unfold mmOf
    rw [List.map_map]
    refine List.Pairwise.sublist ((List.filter_sublist (p := movedB)).map _) ?_
    show (tr.map fun t => t.1.1).Nodup
    rw [e1]
    exact nL
  have inLo : ∀ t ∈ tr, t.1 ∈ Lo := fun t ht => by rw [← et]; exact List.mem_map.mpr ⟨t, ht, rfl⟩
  have olds : ∀ a ∈ (mmOf tr).map Prod.fst, ∃ t ∈ tr, movedB t = true ∧ t.1.1 = a := fun a ha => by
    obtain ⟨m, hm, e⟩ := List.mem_map.mp ha
    obtain ⟨t, ht, rfl⟩ := List.mem_map.mp hm
    obtain ⟨h1, h2⟩ := List.mem_filter.mp ht
    exact ⟨t, h1, h2, e⟩
  have uniq : ∀ t ∈ tr, ∀ t' ∈ tr, t.1.1 = t'.1.1 → t = t' := fun t ht t' ht' e => inj_of (f := fun t : Blk × Int => t.1.1) (by rw [e1]; exact nL) ht ht' e
  refine (Rr.mk' (F := go (mmOf tr)) g wb wc ?_ n1 (fun m hm => ?_) fun x hx ne => ?_).1
  · refine pc.trans (List.Perm.trans ?_ (pb.map _).symm)
    rw [List.map_append]
    have eK : K.map (fun b => (go (mmOf tr) b.1, b.2.1, b.2.2)) = K := by
      have : K.map (fun b => (go (mmOf tr) b.1, b.2.1, b.2.2)) = K.map id := List.map_congr_left fun b hb => by
        rw [go_none]
        · rfl
        · intro z
          obtain ⟨t, ht, _, e⟩ := olds _ z
          exact dis b.1 (List.mem_map.mpr ⟨b, hb, rfl⟩) t.1.1 (List.mem_map.mpr ⟨_, inLo t ht, rfl⟩) e.symm
      rw [this, List.map_id]
    have eL : Lo.map (fun b => (go (mmOf tr) b.1, b.2.1, b.2.2)) = tr.map newOf := by
      rw [← et, List.map_map]
      refine List.map_congr_left fun t ht => ?_
      have pf := un _ (inLo t ht)
      show (go (mmOf tr) t.1.1, t.1.2.1, t.1.2.2) = (t.2, t.1.2.1, false)
      rw [pf]
      have : go (mmOf tr) t.1.1 = t.2 := by
        cases hm : movedB t with
        | true => exact go_some n1 (List.mem_map.mpr ⟨t, List.mem_filter.mpr ⟨ht, hm⟩, rfl⟩)
        | false =>
          have e : t.2 = t.1.1 := by unfold movedB at hm; simpa using hm
          rw [go_none, e]
          intro z
          obtain ⟨t', ht', h1, h2⟩ := olds _ z
          rw [uniq t' ht' t ht h2] at h1
          rw [h1] at hm
          cases hm
      rw [this]
    rw [eK, eL]
  · obtain ⟨a, c⟩ := m
    refine ⟨?_, (go_some n1 hm).symm, ?_⟩
    · obtain ⟨t, ht, _, e⟩ := olds a (List.mem_map.mpr ⟨_, hm, rfl⟩)
      have h1 := inLo t ht
      have h2 := pb.mem_iff.mpr (List.mem_append_right K h1)
      have pf := un _ h1
      refine ⟨t.1.2.1, ?_⟩
      show (a, t.1.2.1, false) ∈ bs
      rw [← e, ← pf]
      exact h2
    · obtain ⟨t, ht, e⟩ := List.mem_map.mp hm
      obtain ⟨_, h2⟩ := List.mem_filter.mp ht
      unfold mvOf at e
      cases e
      have : ¬ t.2 = t.1.1 := by unfold movedB at h2; simpa using h2
      exact fun z => this z.symm
  · by_cases hm : x ∈ (mmOf tr).map Prod.fst
    · obtain ⟨⟨a, b⟩, hm2, e⟩ := List.mem_map.mp hm
      have e : a = x := e
      subst e
      rw [go_some n1 hm2]
      exact hm2
    · exact absurd (go_none hm) ne
end K35

set_option Elab.async false
set_option linter.all false
set_option maxRecDepth 100000
set_option maxHeartbeats 4000000
/-! Own layer: a list comprehension whose element may raise. -/
namespace Ex
open PySem PySem.Spec PySem.Calls PyProof.Rows L2 Gu
/-- the wish of a block: the error is noted, the block's names are let go, the error goes on in the def -/
abbrev fails (X : Cx) (ce : Env) : Value → Shared → Prop := notedBy (model X.prog X.w) X.A ce (CompFails (model X.prog X.w) X.A X.xe ce)
theorem hide1 {h : Heap} {C b : Addr} {o : Obj} (e : h.get? b = some o) (n : b ≠ C) : (PySem.W.hideAll h [C]).get? b = some o := PySem.W.hideAll_get _ e (by simpa using n)
theorem of_hide1 {h : Heap} {C b : Addr} {o : Obj} (e : (PySem.W.hideAll h [C]).get? b = some o) : h.get? b = some o ∧ b ≠ C := by
  refine ⟨PySem.W.of_hideAll _ e, fun z => ?_⟩
  rw [z, PySem.W.hideAll_none _ (by simp)] at e
  cases e
theorem none_hide {h : Heap} {C b : Addr} (e : h.get? b = none) : (PySem.W.hideAll h [C]).get? b = none := by
  cases q : (PySem.W.hideAll h [C]).get? b with
  | none => rfl
  | some o =>
    rw [(of_hide1 q).1] at e
    cases e
section
variable {X : Cx} {pins : List (Addr × Obj)} {σ : L2.St} {H3 : Hp} {s3 : Shared} {scope : Scope} {ce : Env} {fp : List Addr} {E : XK}
theorem pass_blk (I3 : Inv X pins σ H3 s3) (hs : X.stack = X.env :: X.outer) (hf : X.env.frame = some X.env.locals) (hl : ce.locals = s3.heap.objs.size) (hce : ce.frame = X.env.frame) (f3 : ∀ b ∈ fp, FpOk X pins H3 b) (tk : Takes X (fun c d _ H => E c d H)) :
    Passes (L2.CX X.prog X.w) ((X.blk s3 H3 scope ce fp).wish (fails X ce)) E := by
  intro pB σB HB sB u s' IB0 cx
  have IB : Inv (X.blk s3 H3 scope ce fp) pB σB HB sB := IB0.unwish
  obtain ⟨a, B, H', cls, d, rfl, fl, hok, ub, na, os, ag, hE⟩ := cx
  have nC3 : ∀ b o, s3.heap.get? b = some o → b ≠ ce.locals := fun b o e => by
    rw [hl]
    exact Nat.ne_of_lt (Heap.lt_size e)
  have hfs : ce.locals ∉ frs X.stack := fun z => by
    obtain ⟨_, o, e, _⟩ := I3.stack.mem z
    exact nC3 _ o e rfl
  obtain ⟨m, nsB, _⟩ := id IB.loc
  have nsB : sB.heap.Ns ce.locals m := nsB
  obtain ⟨oC, es, ep, eC, dC, rC⟩ := nsB
  have hBC : HB ce.locals = none := IB.free
  have eB : B.get? ce.locals = some oC := ub.keep _ _ eC hBC hfs
  have eS : s'.heap.get? ce.locals = some oC := fl.1 _ _ eB
  have hC' : H' ce.locals = none := ub.free _ _ eC hBC
  obtain ⟨G, g1, g2⟩ := restrict s'.heap fun b => (B.get? b).isSome || decide (b ∈ frs X.stack)
  have gB : ∀ b o, B.get? b = some o → G.get? b = some o := fun b o e => (g1 b (by rw [e]; rfl)).trans (fl.1 b o e)
  have gF : ∀ b, b ∈ frs X.stack → G.get? b = s'.heap.get? b := fun b z => g1 b (by rw [decide_eq_true z, Bool.or_true])
  have gO : ∀ b o, G.get? b = some o → s'.heap.get? b = some o ∧ (b ∉ frs X.stack → B.get? b = some o) := fun b o e => by
    cases q : ((B.get? b).isSome || decide (b ∈ frs X.stack)) with
    | false =>
      rw [g2 b q] at e
      cases e
    | true =>
      have e1 := (g1 b q).symm.trans e
      refine ⟨e1, fun nf => ?_⟩
      rw [decide_eq_false nf, Bool.or_false] at q
      obtain ⟨o', q'⟩ := Option.isSome_iff_exists.mp q
      have := (fl.1 b o' q').symm.trans e1
      rw [q', this]
  have un : Un (frs X.stack) fp H3 H' s3.heap G := by
    have b0 : Un (frs X.stack) fp H3 HB s3.heap sB.heap := IB.base
    refine ⟨fun b o e n nf nx => gB b o (ub.keep b o (b0.keep b o e n nf nx) (b0.free b o e n nx) nf), fun b o e n z nx => ?_, fun b o e n nx => ?_, fun b o e nx => ?_, fun b xs e => ub.tups b xs (b0.tups b xs e), fun b o v e => ub.frzs b o v (b0.frzs b o v e), fun b ps e => ?_⟩
    · obtain ⟨sl, e1⟩ := b0.slot b o e n z nx
      obtain ⟨sl2, e2⟩ := ub.slot b _ e1 z
      exact ⟨sl2, (gF b z).trans e2⟩
    · obtain ⟨o1, e1⟩ := b0.there b o e nx
      exact ub.free b o1 e1 (b0.free b o e n nx)
    · obtain ⟨o1, e1⟩ := b0.there b o e nx
      by_cases z : b ∈ frs X.stack
      · obtain ⟨sl2, e2⟩ := ub.slot b _ e1 z
        exact ⟨_, (gF b z).trans e2⟩
      · obtain ⟨o2, e2⟩ := ub.there b _ e1 z
        exact ⟨o2, gB b o2 e2⟩
    · obtain ⟨m1, e1⟩ := b0.tbls b ps e
      obtain ⟨m2, e2⟩ := ub.tbls b _ e1
      exact ⟨m1 ++ m2, by rw [e2, Array.append_assoc]⟩
  have J0 : Inv X pins σ H' { s' with heap := G } := I3.call' (ch := fp) (show s'.os = s3.os from os.trans IB.os) un (hok.kept gB) ag fun b hb => ⟨(f3 b hb).2.2.2.1, (f3 b hb).2.1, (f3 b hb).2.2.2.2.1, (f3 b hb).2.2.2.2.2⟩
  have fC : FpOk X pins H' ce.locals := I3.fpOk (Nat.le_of_eq hl.symm) hC'
  obtain ⟨k0, k1, k2, k3, k4, k5⟩ := id fC
  have J : Inv X pins σ H' { s' with heap := PySem.W.hideAll G [ce.locals] } := J0.turned (t' := s'.toks) (fun b o n e => hide1 e n) k0 k1 k3 k4 k5
  have hfr : X.A.frames = some (X.env :: X.outer) := by rw [I3.ok.frames, hs]
  show wpAny (model X.prog X.w) X.A (noteFrame (.ref a) ce) _ _ s'
  rw [noteFrame_env _ hce]
  refine HandSPX.looks_onZ Zc.steady hfr hf (by rw [← hs]; exact fl) fun h1 held up1 => ?_
  have nfC : ∀ vs, oC.data ≠ .fields vs := fun vs z => by
    rw [dC] at z
    cases z
  obtain ⟨sl1, e1C⟩ := up1 _ _ eS nfC
  refine ⟨m, ⟨_, es, ep, e1C, dC, rC⟩, fun h2 m2 hn2 sb2 => ?_⟩
  obtain ⟨b1, b2, b3, oe, vs, T, oT, ts, t1, t2, t3, t4, t5, t6, t7, t8, t9⟩ := held
  have na' : a ≠ ce.locals := fun z => by
    rw [z, e1C] at t1
    cases t1
    exact nfC _ t3
  have nT' : T ≠ ce.locals := fun z => by
    rw [z, e1C] at t7
    cases t7
    exact nfC _ t8
  have held2 : HandSPX.HeldZ (PySem.W.hideAll B [ce.locals]) (X.env :: X.outer) a (Zc cls d) X.env.locals h2 := by
    refine ⟨fun b o e => ?_, none_hide b2, ?_, oe, vs, T, oT, ts, (sb2.2 a na').trans t1, t2, t3, t4, none_hide t5, t6, (sb2.2 T nT').trans t7, t8, t9⟩
    · obtain ⟨e1, n⟩ := of_hide1 e
      exact (sb2.2 b n).trans (b1 b o e1)
    · exact funFrames_none (Heap.FunFrames.sameBut sb2 hn2 b3) fun L hL => none_hide (by
        obtain ⟨z, _⟩ := b3.mem hL
        exact z)
  unfold PySem.passOn
  refine wpAny_bind (wpAny_field held2.2.2.2.choose_spec.choose_spec.choose_spec.choose_spec.choose_spec.1 held2.2.2.2.choose_spec.choose_spec.choose_spec.choose_spec.choose_spec.2.2.1 held2.2.2.2.choose_spec.choose_spec.choose_spec.choose_spec.choose_spec.2.2.2.1 ?_)
  rw [if_neg (by simp), hce, hf]
  refine wpAny_bind (HandSPX.setFlight_onZ held2 fun h3 held3 up3 => wpAny_throw (tk _ _ ?_))
  refine ⟨a, PySem.W.hideAll B [ce.locals], _, pins, σ, H', cls, d, rfl, J, fun b o e nf => ?_, fun b o e nv => ?_, .inr (.inr (by rw [hs]; exact held3)), na, rfl, ag, hE⟩
  · obtain ⟨e1, n⟩ := of_hide1 e
    exact hide1 ((gO b o e1).2 nf) n
  · obtain ⟨e1, n⟩ := of_hide1 e
    obtain ⟨sl1, q1⟩ := up1 b o (gO b o e1).1 nv
    obtain ⟨sl3, q3⟩ := up3 b _ ((sb2.2 b n).trans q1) nv
    exact ⟨sl3, q3⟩
end
end Ex

set_option Elab.async false
set_option linter.all false
set_option maxRecDepth 100000
set_option maxHeartbeats 4000000
namespace Ex
open PySem PySem.Spec PySem.Calls PyProof.Rows L2 Gu
theorem anyE {α : Type} {t : Sem α} {Q Q' : α → Shared → Prop} {M : Model} {A : Around} {F : Value → Shared → Prop} {s : Shared} (h : wpAny M A t Q (fun _ _ => False) s) (k : ∀ a s1, Q a s1 → Q' a s1) : wpAny M A t Q' F s := wpAny_mono h k fun _ _ z => z.elim
section
variable {X : Cx} {elt tg iter : Expr} {ifs : List Expr} {scope : Scope} {own : List (Str × Nat)} {pos : Pos} {wi : TI} {g : TG} {tt : TT} {te : TE} {E : XK}
/-- [elt for tg in iter if ..], the element may raise: it is read under the wish that every call's errors pass -/
theorem lcX_core {pins : List (Addr × Obj)} {s : Shared} {σ : L2.St} {H : Hp} {Q : VK} {pos2 : Pos} {use : Option (Value → Sem Unit)} {Qf : Value → Shared → Prop} (I : Inv X pins σ H s)
    (hc : X.calm = true) (hN : X.N.Nodup) (hs : X.stack = X.env :: X.outer) (hf : X.env.frame = some X.env.locals) (tk : Takes X (fun c d _ H => E c d H)) (hi : PI X tg iter wi) (ok : BlkOk X.N X.env.scope scope own)
    (hG : ∀ (t : Shared) (G : Hp) (C : Addr) (cl : List (Str × Addr)) (fp : List Addr), PG (X.blk t G scope (compEnvC scope cl C X.env) fp) tg g)
    (hT : ∀ (t : Shared) (G : Hp) (C : Addr) (cl : List (Str × Addr)) (fp : List Addr), PTs (X.blk t G scope (compEnvC scope cl C X.env) fp) ifs tt)
    (hE : ∀ (t : Shared) (G : Hp) (C : Addr) (cl : List (Str × Addr)) (fp : List Addr) (F : Value → Shared → Prop), Passes (L2.CX X.prog X.w) ((X.blk t G scope (compEnvC scope cl C X.env) fp).wish F) E → PE ((X.blk t G scope (compEnvC scope cl C X.env) fp).wish F) elt te)
    (hset : ∀ x, foldedSetIterable iter X.env x = pure x) (h : tLc wi g tt te (own.map (·.2)) σ H Q)
    (fin : ∀ D ce t m G, Inv X pins σ G t → Q (.ref D) G → t.heap.Ns ce.locals m → FpOk X pins G ce.locals → compEnds (model X.prog X.w) X.A X.xe use Qf (.ref D) ce (.ok .next) t) :
    wpAny (model X.prog X.w) X.A (comprehension (.ListComp elt [⟨tg, iter, ifs, 0⟩] scope pos) scope X.env pos2 (newList []) false (eval iter X.env) use) Qf X.xe s := by
  have hfree : ∀ z ∈ scope.names, z.2 = .free → ∃ c, X.env.cells.lookup z.1 = some c := fun z hz e => I.ok.has _ (ok.free z hz e)
  refine comprehension_at (use := use) rfl hset (closure_ok hfree) ok.kind (fun z hz e => (ok.uniq z hz).trans (congrArg some e)) (thn (hi.run pins s σ H _ I h) fun _ _ h1 => thn h1 fun _ s2 h2 => ?_)
  obtain ⟨it, fp, tn, J, H2, rfl, I2, T, st2, f2, q⟩ := h2
  refine wpAny_newObj_type (newEnv_comp ?_) (Nat.zero_le _)
  obtain ⟨W, ⟨m0, w0⟩, turn⟩ := q s2.heap.objs.size (I2.hok.fresh (Nat.le_refl _))
  have I3 : Inv X pins σ (upd H2 s2.heap.objs.size (.lst [])) { s2 with heap := s2.heap.push ({ cls := .type "list", data := .seq ([] : List Value).toArray } : Obj) } :=
    I2.laid (t' := s2.toks) (fun _ _ e => Heap.get?_push_of_some _ e) (Nat.le_refl _) ⟨Nat.zero_le _, [], 0, .nil, Heap.get?_push_size _ rfl⟩
  have f3 : ∀ b ∈ fp, FpOk X pins (upd H2 s2.heap.objs.size (.lst [])) b ∧ b < (s2.heap.push ({ cls := .type "list", data := .seq ([] : List Value).toArray } : Obj)).objs.size := fun b hb => by
    obtain ⟨o, e, _⟩ := T.obj _ _ st2 b hb
    have lt := Heap.lt_size e
    obtain ⟨k0, k⟩ := f2 b hb
    exact ⟨⟨by rw [upd_ne (Nat.ne_of_lt lt)]; exact k0, k⟩, by rw [Heap.size_push]; exact Nat.lt_succ_of_lt lt⟩
  have st3 : tn 0 (s2.heap.push ({ cls := .type "list", data := .seq ([] : List Value).toArray } : Obj)) := T.keep _ _ _ st2 fun _ _ _ e => Heap.get?_push_of_some _ e
  generalize hD : s2.heap.objs.size = D at turn w0 I3 f3 ⊢
  generalize hH3 : upd H2 D (.lst []) = H3 at w0 I3 f3
  generalize hs3 : ({ s2 with heap := s2.heap.push ({ cls := .type "list", data := .seq ([] : List Value).toArray } : Obj) } : Shared) = s3 at I3 ⊢
  have h3 : s2.heap.push ({ cls := .type "list", data := .seq ([] : List Value).toArray } : Obj) = s3.heap := congrArg Shared.heap hs3
  rw [h3] at f3 st3
  have I4 := block_start I3 ok hN f3
  have cL : (compEnvC scope (cellsFrom (s3.heap.objs.size + 1) scope.names (cloFrom X.env.cells scope.names [])) s3.heap.objs.size X.env).locals = s3.heap.objs.size := rfl
  have cF : (compEnvC scope (cellsFrom (s3.heap.objs.size + 1) scope.names (cloFrom X.env.cells scope.names [])) s3.heap.objs.size X.env).frame = X.env.frame := rfl
  have pe := hE s3 H3 s3.heap.objs.size (cellsFrom (s3.heap.objs.size + 1) scope.names (cloFrom X.env.cells scope.names [])) fp _ (pass_blk I3 hs hf cL cF (fun b hb => (f3 b hb).1) tk)
  have pg := hG s3 H3 s3.heap.objs.size (cellsFrom (s3.heap.objs.size + 1) scope.names (cloFrom X.env.cells scope.names [])) fp
  have pt := hT s3 H3 s3.heap.objs.size (cellsFrom (s3.heap.objs.size + 1) scope.names (cloFrom X.env.cells scope.names [])) fp
  refine (?_ : codeAny (model X.prog X.w) X.A (.compStart (.ListComp elt [⟨tg, iter, ifs, 0⟩] scope pos) 0 (.ref it) (.ref D) (compEnvC scope (cellsFrom (s3.heap.objs.size + 1) scope.names (cloFrom X.env.cells scope.names [])) s3.heap.objs.size X.env))
    (compEnds (model X.prog X.w) X.A X.xe use Qf (.ref D) (compEnvC scope (cellsFrom (s3.heap.objs.size + 1) scope.names (cloFrom X.env.cells scope.names [])) s3.heap.objs.size X.env)) { s3 with heap := pushCells (s3.heap.push { cls := .type "dict", data := .dict #[] }) scope.names })
  generalize compEnvC scope (cellsFrom (s3.heap.objs.size + 1) scope.names (cloFrom X.env.cells scope.names [])) s3.heap.objs.size X.env = ce at I4 pe pg pt cL cF ⊢
  generalize hs4 : ({ s3 with heap := pushCells (s3.heap.push { cls := .type "dict", data := .dict #[] }) scope.names } : Shared) = s4 at I4 ⊢
  have st4 : tn 0 s4.heap := by
    rw [← hs4]
    exact T.keep _ _ _ st3 fun _ _ _ e => pushCells_keeps _ _ _ _ (Heap.get?_push_of_some _ e)
  have stat : ∀ {σ1 : L2.St} {H1 : Hp} {s1 : Shared}, Inv (X.blk s3 H3 scope ce fp) [] σ1 H1 s1 → (∀ b ∈ fp, H1 b = none) → ∀ b ∈ fp, FpOk (X.blk s3 H3 scope ce fp) [] H1 b := fun J z b hb =>
    ⟨z b hb, (J.ok.exf b hb).1, J.ok.exfs b hb, .inl hb, (J.ok.exf b hb).2, fun p hp => nomatch (show p ∈ ([] : List (Addr × Obj)) ++ [] from hp)⟩
  have loop : codeAny (model X.prog X.w) X.A (.compLoop (.ListComp elt [⟨tg, iter, ifs, 0⟩] scope pos) 0 (.ref it) (.ref D) ce) (compEnds (model X.prog X.w) X.A X.xe use Qf (.ref D) ce) s4 := by
    refine compLoop_any (fun n t => ∃ i G, Inv (X.blk s3 H3 scope ce fp) [] (wipe σ (own.map (·.2))) G t ∧ tn i t.heap ∧ (∀ b ∈ fp, G b = none) ∧ W i n G) ?_ m0 ⟨0, H3, I4, st4, fun b hb => (f3 b hb).1.1, w0⟩
    rintro n s5 ⟨i, G5, J5, t5, n5, w5⟩
    rcases turn i n G5 w5 with ⟨stop, qq⟩ | ⟨go, Nx, hNx, step⟩
    · refine anyE (T.done (X.blk s3 H3 scope ce fp) rfl rfl rfl hc i [] s5 _ G5 _ J5 (stat J5 n5) t5 stop) ?_
      rintro _ s6 ⟨rfl, J6⟩
      have K6 : Inv X pins σ G5 s6 := I3.call' (ch := fp) J6.os J6.base J6.hok J6.bare fun b hb => by
        obtain ⟨_, z1, _, z3, z4, z5⟩ := (f3 b hb).1
        exact ⟨z3, z1, z4, z5⟩
      obtain ⟨m, hn, _⟩ := id J6.loc
      exact fin D ce s6 m G5 K6 qq hn (I3.fpOk (b := ce.locals) (Nat.le_of_eq cL.symm) J6.free)
    · refine anyE (T.item (X.blk s3 H3 scope ce fp) rfl rfl rfl hc i [] s5 _ G5 _ J5 (stat J5 n5) t5 go) ?_
      rintro _ s6 ⟨u, rfl, h6⟩
      refine anyE h6 fun _ s7 ⟨x, G7, J7, r7, y7, t7, n7⟩ => ?_
      refine anyE (pg.run _ s7 _ G7 x u _ (J7.pinned (stat J7 n7) (T.obj _ _ t7)) r7 (step x G7 y7)) fun _ s8 ⟨σ8, G8, J8, hw8, q8⟩ => ?_
      refine anyE (pt.run _ s8 σ8 G8 _ J8 q8) fun b s9 ⟨G9, J9, q9⟩ => ?_
      have fin2 : ∀ {t : Shared} {G : Hp}, Inv (X.blk s3 H3 scope ce fp) ([] ++ pinsAt fp s7.heap) σ8 G t → Nx G → ∃ m, m < n ∧ ∃ i G, Inv (X.blk s3 H3 scope ce fp) [] (wipe σ (own.map (·.2))) G t ∧ tn i t.heap ∧ (∀ b ∈ fp, G b = none) ∧ W i m G := fun {t G} J nx => by
        obtain ⟨m1, lt1, w1⟩ := hNx G nx
        have pin : ∀ b ∈ fp, ∀ o, s7.heap.get? b = some o → t.heap.get? b = some o ∧ G b = none := fun b hb o e => by
          obtain ⟨p1, p2, _⟩ := J.pin (b, o) (List.mem_append_right _ (List.mem_append_right _ (mem_pinsAt hb e)))
          exact ⟨p1, p2⟩
        refine ⟨m1, lt1, i + 1, G, (J.unpinned (pins := [])).weak (by rw [← hw8, wipe_length]) (fun j v e => ?_), T.keep _ _ _ t7 fun b hb o e => (pin b hb o e).1, fun b hb => ?_, w1⟩
        · rw [← hw8] at e
          exact (wipe_some e).1
        · obtain ⟨o, e, _⟩ := T.obj _ _ t7 b hb
          exact (pin b hb o e).2
      cases b with
      | false =>
        rw [if_neg Bool.false_ne_true] at q9
        exact fin2 J9 q9
      | true =>
        rw [if_pos rfl] at q9
        refine wpAny_mono (pe.run _ s9 σ8 G9 _ (J9.wish _) q9) (fun z s10 ⟨v, G10, J10, r10, acc, hD10, hz10, nx⟩ => ?_) fun _ _ z => z
        exact app_ok (X := X.blk s3 H3 scope ce fp) J10.unwish hD10 hz10 r10 fun _ J11 => fin2 J11 nx
  exact codeAny_compStart_list loop (T.self X.A 0 _ _ _ st4 loop)
/-- as a value -/
theorem pe_lcX (hc : X.calm = true) (hN : X.N.Nodup) (hs : X.stack = X.env :: X.outer) (hf : X.env.frame = some X.env.locals) (tk : Takes X (fun c d _ H => E c d H)) (hi : PI X tg iter wi) (ok : BlkOk X.N X.env.scope scope own)
    (hG : ∀ (t : Shared) (G : Hp) (C : Addr) (cl : List (Str × Addr)) (fp : List Addr), PG (X.blk t G scope (compEnvC scope cl C X.env) fp) tg g)
    (hT : ∀ (t : Shared) (G : Hp) (C : Addr) (cl : List (Str × Addr)) (fp : List Addr), PTs (X.blk t G scope (compEnvC scope cl C X.env) fp) ifs tt)
    (hE : ∀ (t : Shared) (G : Hp) (C : Addr) (cl : List (Str × Addr)) (fp : List Addr) (F : Value → Shared → Prop), Passes (L2.CX X.prog X.w) ((X.blk t G scope (compEnvC scope cl C X.env) fp).wish F) E → PE ((X.blk t G scope (compEnvC scope cl C X.env) fp).wish F) elt te)
    (hset : ∀ x, foldedSetIterable iter X.env x = pure x := by intro _; rfl) : PE X (.ListComp elt [⟨tg, iter, ifs, 0⟩] scope pos) (tLc wi g tt te (own.map (·.2))) := by
  refine ⟨fun pins s σ H Q I h => ?_⟩
  rw [eval_ListComp]
  refine lcX_core (use := none) I hc hN hs hf tk hi ok hG hT hE hset h fun D ce t m G J q hn z => ⟨m, hn, fun _ sb => ?_⟩
  obtain ⟨z0, z1, _, z3, z4, z5⟩ := z
  exact ⟨.ref D, G, J.turned (t' := t.toks) (fun b o n e => (sb.2 b n).trans e) z0 z1 z3 z4 z5, rfl, q⟩
/-- y = [..] on one line -/
theorem ps_setLcX {i : Nat} {y : Str} {py spos : Pos} (hc : X.calm = true) (hN : X.N.Nodup) (hs : X.stack = X.env :: X.outer) (hf : X.env.frame = some X.env.locals) (tk : Takes X (fun c d _ H => E c d H)) (hy : X.N[i]? = some y) (hyl : X.env.scope.names.lookup y = some .local)
    (hsw : swapsWith (.ListComp elt [⟨tg, iter, ifs, 0⟩] scope pos) (some (.Name y py)) spos.line X.env = pure true) (hi : PI X tg iter wi)
    (ok : BlkOk X.N X.env.scope scope own)
    (hG : ∀ (t : Shared) (G : Hp) (C : Addr) (cl : List (Str × Addr)) (fp : List Addr), PG (X.blk t G scope (compEnvC scope cl C X.env) fp) tg g)
    (hT : ∀ (t : Shared) (G : Hp) (C : Addr) (cl : List (Str × Addr)) (fp : List Addr), PTs (X.blk t G scope (compEnvC scope cl C X.env) fp) ifs tt)
    (hE : ∀ (t : Shared) (G : Hp) (C : Addr) (cl : List (Str × Addr)) (fp : List Addr) (F : Value → Shared → Prop), Passes (L2.CX X.prog X.w) ((X.blk t G scope (compEnvC scope cl C X.env) fp).wish F) E → PE ((X.blk t G scope (compEnvC scope cl C X.env) fp).wish F) elt te)
    (hset : ∀ x, foldedSetIterable iter X.env x = pure x := by intro _; rfl) : PS X (.Assign [.Name y py] (.ListComp elt [⟨tg, iter, ifs, 0⟩] scope pos) spos) (tAsg (tLc wi g tt te (own.map (·.2))) (gName i)) := by
  refine ⟨fun pins s σ H D I h => ?_⟩
  rw [exec_Assign_Name_used _ _ _ _ hsw]
  refine wpAny_bind (wpAny_standAt (wpAny_bind ?_))
  refine (?_ : wpAny _ X.A (comprehension (.ListComp elt [⟨tg, iter, ifs, 0⟩] scope pos) scope X.env (firstIterPos [⟨tg, iter, ifs, 0⟩] pos) (newList []) false (eval iter X.env) (some (assign (.Name y py) X.env)) >>= fun _ => pure ()) _ _ s)
  refine wpAny_bind (thn (lcX_core (Q := fun x H1 => gName i x σ H1 D.nx) (use := some (assign (.Name y py) X.env)) (Qf := fun _ t => SP X pins D .next t) I hc hN hs hf tk hi ok hG hT hE hset h fun L ce t m G J q hn z => ?_) fun _ _ z => wpAny_pure (wpAny_pure z))
  refine (?_ : wpAny _ _ (assign (.Name y py) X.env (.ref L)) _ _ _)
  refine wpAny_assign_Name (store_ok2 (v := V.ref L) J hN hy (.inl hyl) rfl (fun t2 J2 ⟨a, sb, ha⟩ => ?_) (.inr hyl))
  obtain ⟨z0, z1, _, z3, z4, z5⟩ := z
  have nC : ce.locals ≠ a := by
    rcases ha with e | e
    · rw [e]
      exact z1
    · exact fun e2 => z4 y a e e2.symm
  exact ⟨m, hn.sameBut sb nC, fun _ sb3 => ⟨_, G, J2.turned (t' := t2.toks) (fun b o n e => (sb3.2 b n).trans e) z0 z1 z3 z4 z5, q⟩⟩
end
end Ex

set_option Elab.async false
set_option linter.all false
set_option maxRecDepth 100000
set_option maxHeartbeats 4000000
/-! Own layer: set comprehensions of ints. -/
namespace Ex
open PySem PySem.Spec PySem.Calls PyProof.Rows L2 Gu
/-- {elt for target in iter if ..}, elt an int: D the new set -/
def tScI (w : World) (wi : TI) (g : TG) (tt : TT) (te : TE) (vs : List Nat) : TE := fun σ H Q => wi σ H fun J G => ∀ D, G D = none → ∃ W : Nat → Nat → Hp → Prop, (∃ m, W 0 m (upd G D (SetO w D (fun _ => false) 0))) ∧ ∀ i m G, W i m G →
  (J.stop i G ∧ Q (.ref D) G) ∨ (J.go i G ∧ ∃ Nx : Hp → Prop, (∀ G', Nx G' → ∃ m', m' < m ∧ W (i + 1) m' G') ∧ ∀ x G', J.yld i G x G' → g x (wipe σ vs) G' fun σ2 G2 => wipe σ2 vs = wipe σ vs ∧ tt σ2 G2 fun b G3 =>
    if b = true then te σ2 G3 fun y G4 => ∃ (k : Int) (S : Int → Bool) (n : Nat), y = .int k ∧ G4 D = some (SetO w D S n) ∧ n + 1 < scanBound ∧ Nx (upd G4 D (SetO w D (fun j => S j || decide (j = k)) (if S k = true then n else n + 1))) else Nx G3)
section
variable {X : Cx} {elt tg iter : Expr} {ifs : List Expr} {scope : Scope} {own : List (Str × Nat)} {pos : Pos} {wi : TI} {g : TG} {tt : TT} {te : TE}
theorem scI_core {pins : List (Addr × Obj)} {s : Shared} {σ : L2.St} {H : Hp} {Q : VK} {pos2 : Pos} {use : Option (Value → Sem Unit)} {Qf : Value → Shared → Prop} (I : Inv X pins σ H s)
    (hc : X.calm = true) (hN : X.N.Nodup) (hi : PI X tg iter wi) (ok : BlkOk X.N X.env.scope scope own)
    (hG : ∀ (t : Shared) (G : Hp) (C : Addr) (cl : List (Str × Addr)) (fp : List Addr), PG (X.blk t G scope (compEnvC scope cl C X.env) fp) tg g)
    (hT : ∀ (t : Shared) (G : Hp) (C : Addr) (cl : List (Str × Addr)) (fp : List Addr), PTs (X.blk t G scope (compEnvC scope cl C X.env) fp) ifs tt)
    (hE : ∀ (t : Shared) (G : Hp) (C : Addr) (cl : List (Str × Addr)) (fp : List Addr), PE (X.blk t G scope (compEnvC scope cl C X.env) fp) elt te)
    (hset : ∀ x, foldedSetIterable iter X.env x = pure x) (h : tScI X.w wi g tt te (own.map (·.2)) σ H Q)
    (fin : ∀ D ce t m G, Inv X pins σ G t → Q (.ref D) G → t.heap.Ns ce.locals m → FpOk X pins G ce.locals → compEnds (model X.prog X.w) X.A X.xe use Qf (.ref D) ce (.ok .next) t) :
    wpAny (model X.prog X.w) X.A (comprehension (.SetComp elt [⟨tg, iter, ifs, 0⟩] scope pos) scope X.env pos2 (newSet (.type "set")) false (eval iter X.env) use) Qf X.xe s := by
  have hfree : ∀ z ∈ scope.names, z.2 = .free → ∃ c, X.env.cells.lookup z.1 = some c := fun z hz e => I.ok.has _ (ok.free z hz e)
  refine comprehension_at (use := use) rfl hset (closure_ok hfree) ok.kind (fun z hz e => (ok.uniq z hz).trans (congrArg some e)) (thn (hi.run pins s σ H _ I h) fun _ _ h1 => thn h1 fun _ s2 h2 => ?_)
  obtain ⟨it, fp, tn, J, H2, rfl, I2, T, st2, f2, q⟩ := h2
  refine PpSet.newSet_ok (newEnv_comp ?_)
  obtain ⟨W, ⟨m0, w0⟩, turn⟩ := q s2.heap.objs.size (I2.hok.fresh (Nat.le_refl _))
  have I3 : Inv X pins σ (upd H2 s2.heap.objs.size (SetO X.w s2.heap.objs.size (fun _ => false) 0)) { s2 with heap := s2.heap.push { cls := .type "set", dict := none, data := .set #[] 0 (.fresh 0 0 (!X.w.params.followText "set-order")) } } :=
    I2.laid (t' := s2.toks) (fun _ _ e => Heap.get?_push_of_some _ e) (Nat.le_refl _) (setO_new (setR_fresh X.w))
  have f3 : ∀ b ∈ fp, FpOk X pins (upd H2 s2.heap.objs.size (SetO X.w s2.heap.objs.size (fun _ => false) 0)) b ∧ b < (s2.heap.push { cls := .type "set", dict := none, data := .set #[] 0 (.fresh 0 0 (!X.w.params.followText "set-order")) }).objs.size := fun b hb => by
    obtain ⟨o, e, _⟩ := T.obj _ _ st2 b hb
    have lt := Heap.lt_size e
    obtain ⟨k0, k⟩ := f2 b hb
    exact ⟨⟨by rw [upd_ne (Nat.ne_of_lt lt)]; exact k0, k⟩, by rw [Heap.size_push]; exact Nat.lt_succ_of_lt lt⟩
  have st3 : tn 0 (s2.heap.push { cls := .type "set", dict := none, data := .set #[] 0 (.fresh 0 0 (!X.w.params.followText "set-order")) }) := T.keep _ _ _ st2 fun _ _ _ e => Heap.get?_push_of_some _ e
  generalize hD : s2.heap.objs.size = D at turn w0 I3 f3 ⊢
  generalize hH3 : upd H2 D (SetO X.w D (fun _ => false) 0) = H3 at w0 I3 f3
  generalize hs3 : ({ s2 with heap := s2.heap.push { cls := .type "set", dict := none, data := .set #[] 0 (.fresh 0 0 (!X.w.params.followText "set-order")) } } : Shared) = s3 at I3 ⊢
  have h3 : s2.heap.push { cls := .type "set", dict := none, data := .set #[] 0 (.fresh 0 0 (!X.w.params.followText "set-order")) } = s3.heap := congrArg Shared.heap hs3
  rw [h3] at f3 st3
  have I4 := block_start I3 ok hN f3
  have cL : (compEnvC scope (cellsFrom (s3.heap.objs.size + 1) scope.names (cloFrom X.env.cells scope.names [])) s3.heap.objs.size X.env).locals = s3.heap.objs.size := rfl
  have pe := hE s3 H3 s3.heap.objs.size (cellsFrom (s3.heap.objs.size + 1) scope.names (cloFrom X.env.cells scope.names [])) fp
  have pg := hG s3 H3 s3.heap.objs.size (cellsFrom (s3.heap.objs.size + 1) scope.names (cloFrom X.env.cells scope.names [])) fp
  have pt := hT s3 H3 s3.heap.objs.size (cellsFrom (s3.heap.objs.size + 1) scope.names (cloFrom X.env.cells scope.names [])) fp
  refine (?_ : codeAny (model X.prog X.w) X.A (.compStart (.SetComp elt [⟨tg, iter, ifs, 0⟩] scope pos) 0 (.ref it) (.ref D) (compEnvC scope (cellsFrom (s3.heap.objs.size + 1) scope.names (cloFrom X.env.cells scope.names [])) s3.heap.objs.size X.env))
    (compEnds (model X.prog X.w) X.A X.xe use Qf (.ref D) (compEnvC scope (cellsFrom (s3.heap.objs.size + 1) scope.names (cloFrom X.env.cells scope.names [])) s3.heap.objs.size X.env)) { s3 with heap := pushCells (s3.heap.push { cls := .type "dict", data := .dict #[] }) scope.names })
  generalize compEnvC scope (cellsFrom (s3.heap.objs.size + 1) scope.names (cloFrom X.env.cells scope.names [])) s3.heap.objs.size X.env = ce at I4 pe pg pt cL ⊢
  generalize hs4 : ({ s3 with heap := pushCells (s3.heap.push { cls := .type "dict", data := .dict #[] }) scope.names } : Shared) = s4 at I4 ⊢
  have st4 : tn 0 s4.heap := by
    rw [← hs4]
    exact T.keep _ _ _ st3 fun _ _ _ e => pushCells_keeps _ _ _ _ (Heap.get?_push_of_some _ e)
  have stat : ∀ {σ1 : L2.St} {H1 : Hp} {s1 : Shared}, Inv (X.blk s3 H3 scope ce fp) [] σ1 H1 s1 → (∀ b ∈ fp, H1 b = none) → ∀ b ∈ fp, FpOk (X.blk s3 H3 scope ce fp) [] H1 b := fun J z b hb =>
    ⟨z b hb, (J.ok.exf b hb).1, J.ok.exfs b hb, .inl hb, (J.ok.exf b hb).2, fun p hp => nomatch (show p ∈ ([] : List (Addr × Obj)) ++ [] from hp)⟩
  have loop : codeAny (model X.prog X.w) X.A (.compLoop (.SetComp elt [⟨tg, iter, ifs, 0⟩] scope pos) 0 (.ref it) (.ref D) ce) (compEnds (model X.prog X.w) X.A X.xe use Qf (.ref D) ce) s4 := by
    refine PpSet.compLoopS_any (fun n t => ∃ i G, Inv (X.blk s3 H3 scope ce fp) [] (wipe σ (own.map (·.2))) G t ∧ tn i t.heap ∧ (∀ b ∈ fp, G b = none) ∧ W i n G) ?_ m0 ⟨0, H3, I4, st4, fun b hb => (f3 b hb).1.1, w0⟩
    rintro n s5 ⟨i, G5, J5, t5, n5, w5⟩
    rcases turn i n G5 w5 with ⟨stop, qq⟩ | ⟨go, Nx, hNx, step⟩
    · refine anyE (T.done (X.blk s3 H3 scope ce fp) rfl rfl rfl hc i [] s5 _ G5 _ J5 (stat J5 n5) t5 stop) ?_
      rintro _ s6 ⟨rfl, J6⟩
      have K6 : Inv X pins σ G5 s6 := I3.call' (ch := fp) J6.os J6.base J6.hok J6.bare fun b hb => by
        obtain ⟨_, z1, _, z3, z4, z5⟩ := (f3 b hb).1
        exact ⟨z3, z1, z4, z5⟩
      obtain ⟨m, hn, _⟩ := id J6.loc
      exact fin D ce s6 m G5 K6 qq hn (I3.fpOk (b := ce.locals) (Nat.le_of_eq cL.symm) J6.free)
    · refine anyE (T.item (X.blk s3 H3 scope ce fp) rfl rfl rfl hc i [] s5 _ G5 _ J5 (stat J5 n5) t5 go) ?_
      rintro _ s6 ⟨u, rfl, h6⟩
      refine anyE h6 fun _ s7 ⟨x, G7, J7, r7, y7, t7, n7⟩ => ?_
      refine anyE (pg.run _ s7 _ G7 x u _ (J7.pinned (stat J7 n7) (T.obj _ _ t7)) r7 (step x G7 y7)) fun _ s8 ⟨σ8, G8, J8, hw8, q8⟩ => ?_
      refine anyE (pt.run _ s8 σ8 G8 _ J8 q8) fun b s9 ⟨G9, J9, q9⟩ => ?_
      have fin2 : ∀ {t : Shared} {G : Hp}, Inv (X.blk s3 H3 scope ce fp) ([] ++ pinsAt fp s7.heap) σ8 G t → Nx G → ∃ m, m < n ∧ ∃ i G, Inv (X.blk s3 H3 scope ce fp) [] (wipe σ (own.map (·.2))) G t ∧ tn i t.heap ∧ (∀ b ∈ fp, G b = none) ∧ W i m G := fun {t G} J nx => by
        obtain ⟨m1, lt1, w1⟩ := hNx G nx
        have pin : ∀ b ∈ fp, ∀ o, s7.heap.get? b = some o → t.heap.get? b = some o ∧ G b = none := fun b hb o e => by
          obtain ⟨p1, p2, _⟩ := J.pin (b, o) (List.mem_append_right _ (List.mem_append_right _ (mem_pinsAt hb e)))
          exact ⟨p1, p2⟩
        refine ⟨m1, lt1, i + 1, G, (J.unpinned (pins := [])).weak (by rw [← hw8, wipe_length]) (fun j v e => ?_), T.keep _ _ _ t7 fun b hb o e => (pin b hb o e).1, fun b hb => ?_, w1⟩
        · rw [← hw8] at e
          exact (wipe_some e).1
        · obtain ⟨o, e, _⟩ := T.obj _ _ t7 b hb
          exact (pin b hb o e).2
      cases b with
      | false =>
        rw [if_neg Bool.false_ne_true] at q9
        exact fin2 J9 q9
      | true =>
        rw [if_pos rfl] at q9
        refine anyE (pe.run _ s9 σ8 G9 _ J9 q9) fun z s10 ⟨v, G10, J10, r10, k, S, n0, ev, hD10, room, nx⟩ => ?_
        subst ev
        refine anyE (mt_sadd (X := X.blk s3 H3 scope ce fp) _ s10 σ8 G10 (.ref D) [.int k] (.ref D) [z] (fun _ G => Nx G) J10 rfl (.cons r10 .nil) ⟨D, k, S, n0, rfl, rfl, hD10, room, nx⟩) fun _ s11 ⟨_, G11, J11, _, nx11⟩ => fin2 J11 nx11
  exact PpSet.codeAny_compStart_set loop (T.self X.A 0 _ _ _ st4 loop)
/-- as a value -/
theorem pe_scI (hc : X.calm = true) (hN : X.N.Nodup) (hi : PI X tg iter wi) (ok : BlkOk X.N X.env.scope scope own)
    (hG : ∀ (t : Shared) (G : Hp) (C : Addr) (cl : List (Str × Addr)) (fp : List Addr), PG (X.blk t G scope (compEnvC scope cl C X.env) fp) tg g)
    (hT : ∀ (t : Shared) (G : Hp) (C : Addr) (cl : List (Str × Addr)) (fp : List Addr), PTs (X.blk t G scope (compEnvC scope cl C X.env) fp) ifs tt)
    (hE : ∀ (t : Shared) (G : Hp) (C : Addr) (cl : List (Str × Addr)) (fp : List Addr), PE (X.blk t G scope (compEnvC scope cl C X.env) fp) elt te)
    (hset : ∀ x, foldedSetIterable iter X.env x = pure x := by intro _; rfl) : PE X (.SetComp elt [⟨tg, iter, ifs, 0⟩] scope pos) (tScI X.w wi g tt te (own.map (·.2))) := by
  refine ⟨fun pins s σ H Q I h => ?_⟩
  rw [PpSet.eval_SetComp]
  refine scI_core (use := none) I hc hN hi ok hG hT hE hset h fun D ce t m G J q hn z => ⟨m, hn, fun _ sb => ?_⟩
  obtain ⟨z0, z1, _, z3, z4, z5⟩ := z
  exact ⟨.ref D, G, J.turned (t' := t.toks) (fun b o n e => (sb.2 b n).trans e) z0 z1 z3 z4 z5, rfl, q⟩
theorem sw_trueS {gs : List Comprehension} {py : Pos} {y : Str} {l : Nat} {env : Env} (hk : env.scope.kind = .function) (hy : env.scope.names.lookup y = some .local) (hl : (py.line == pos.line) = true)
    (ha : (scope.names.any fun (n, k) => n == y && (k == .local || k == .cell)) = false) : swapsWith (.SetComp elt gs scope pos) (some (.Name y py)) l env = pure true := by
  have kb : env.blockKind = .function := by
    unfold Env.blockKind
    rw [hk]
    rfl
  have kv : env.kindOf y = some .local := hy
  unfold swapsWith
  simp only [kb, kv, ha, Expr.pos, hl]
  rfl
/-- y = {..} on one line -/
theorem ps_setScI {i : Nat} {y : Str} {py spos : Pos} (hc : X.calm = true) (hN : X.N.Nodup) (hy : X.N[i]? = some y) (hyl : X.env.scope.names.lookup y = some .local)
    (hsw : swapsWith (.SetComp elt [⟨tg, iter, ifs, 0⟩] scope pos) (some (.Name y py)) spos.line X.env = pure true) (hi : PI X tg iter wi)
    (ok : BlkOk X.N X.env.scope scope own)
    (hG : ∀ (t : Shared) (G : Hp) (C : Addr) (cl : List (Str × Addr)) (fp : List Addr), PG (X.blk t G scope (compEnvC scope cl C X.env) fp) tg g)
    (hT : ∀ (t : Shared) (G : Hp) (C : Addr) (cl : List (Str × Addr)) (fp : List Addr), PTs (X.blk t G scope (compEnvC scope cl C X.env) fp) ifs tt)
    (hE : ∀ (t : Shared) (G : Hp) (C : Addr) (cl : List (Str × Addr)) (fp : List Addr), PE (X.blk t G scope (compEnvC scope cl C X.env) fp) elt te)
    (hset : ∀ x, foldedSetIterable iter X.env x = pure x := by intro _; rfl) : PS X (.Assign [.Name y py] (.SetComp elt [⟨tg, iter, ifs, 0⟩] scope pos) spos) (tAsg (tScI X.w wi g tt te (own.map (·.2))) (gName i)) := by
  refine ⟨fun pins s σ H D I h => ?_⟩
  rw [exec_Assign_Name_used _ _ _ _ hsw]
  refine wpAny_bind (wpAny_standAt (wpAny_bind ?_))
  refine (?_ : wpAny _ X.A (comprehension (.SetComp elt [⟨tg, iter, ifs, 0⟩] scope pos) scope X.env (firstIterPos [⟨tg, iter, ifs, 0⟩] pos) (newSet (.type "set")) false (eval iter X.env) (some (assign (.Name y py) X.env)) >>= fun _ => pure ()) _ _ s)
  refine wpAny_bind (thn (scI_core (Q := fun x H1 => gName i x σ H1 D.nx) (use := some (assign (.Name y py) X.env)) (Qf := fun _ t => SP X pins D .next t) I hc hN hi ok hG hT hE hset h fun L ce t m G J q hn z => ?_) fun _ _ z => wpAny_pure (wpAny_pure z))
  refine (?_ : wpAny _ _ (assign (.Name y py) X.env (.ref L)) _ _ _)
  refine wpAny_assign_Name (store_ok2 (v := V.ref L) J hN hy (.inl hyl) rfl (fun t2 J2 ⟨a, sb, ha⟩ => ?_) (.inr hyl))
  obtain ⟨z0, z1, _, z3, z4, z5⟩ := z
  have nC : ce.locals ≠ a := by
    rcases ha with e | e
    · rw [e]
      exact z1
    · exact fun e2 => z4 y a e e2.symm
  exact ⟨m, hn.sameBut sb nC, fun _ sb3 => ⟨_, G, J2.turned (t' := t2.toks) (fun b o n e => (sb3.2 b n).trans e) z0 z1 z3 z4 z5, q⟩⟩
end
/-- over a list that the block leaves as it is -/
theorem scI_list {w : World} {K : PySem.W.Frag} {a : Addr} {xs : List V} {g : TG} {tt : TT} {te : TE} {vs : List Nat} {σ : L2.St} {H1 : Hp} {D : Addr} {Qd : Hp → Prop} (Pv : Nat → Hp → Prop) (h0 : Pv 0 (upd H1 D (SetO w D (fun _ => false) 0))) (hl : ∀ i H, i ≤ xs.length → Pv i H → SqL K H a xs)
    (turn : ∀ i x H, xs[i]? = some x → Pv i H → g x (wipe σ vs) H fun σ2 H2 => wipe σ2 vs = wipe σ vs ∧ tt σ2 H2 fun b H3 =>
      if b = true then te σ2 H3 fun y H4 => ∃ (k : Int) (S : Int → Bool) (n : Nat), y = .int k ∧ H4 D = some (SetO w D S n) ∧ n + 1 < scanBound ∧ Pv (i + 1) (upd H4 D (SetO w D (fun j => S j || decide (j = k)) (if S k = true then n else n + 1))) else Pv (i + 1) H3) (hd : ∀ H, Pv xs.length H → Qd H) :
    ∃ W : Nat → Nat → Hp → Prop, (∃ m, W 0 m (upd H1 D (SetO w D (fun _ => false) 0))) ∧ ∀ i m H, W i m H →
      ((Itl K a).stop i H ∧ Qd H) ∨ ((Itl K a).go i H ∧ ∃ Nx : Hp → Prop, (∀ H', Nx H' → ∃ m', m' < m ∧ W (i + 1) m' H') ∧ ∀ x H', (Itl K a).yld i H x H' → g x (wipe σ vs) H' fun σ2 H2 => wipe σ2 vs = wipe σ vs ∧ tt σ2 H2 fun b H3 =>
        if b = true then te σ2 H3 fun y H4 => ∃ (k : Int) (S : Int → Bool) (n : Nat), y = .int k ∧ H4 D = some (SetO w D S n) ∧ n + 1 < scanBound ∧ Nx (upd H4 D (SetO w D (fun j => S j || decide (j = k)) (if S k = true then n else n + 1))) else Nx H3) := by
  refine ⟨fun i m H => m = xs.length - i ∧ i ≤ xs.length ∧ Pv i H, ⟨_, rfl, Nat.zero_le _, h0⟩, fun i m H ⟨em, hi, p⟩ => ?_⟩
  have q := hl i H hi p
  rcases Nat.lt_or_ge i xs.length with lt | ge
  · refine .inr ⟨⟨xs, xs[i], q, List.getElem?_eq_getElem lt⟩, Pv (i + 1), fun H' p' => ⟨xs.length - (i + 1), by omega, rfl, lt, p'⟩, fun x H' y => ?_⟩
    obtain ⟨rfl, y⟩ := y
    exact turn i x _ (y xs q) p
  · obtain rfl : i = xs.length := by omega
    exact .inl ⟨⟨xs, q, Nat.le_refl _⟩, hd H p⟩
end Ex

set_option Elab.async false
set_option linter.all false
set_option maxRecDepth 100000
set_option maxHeartbeats 4000000
set_option pp.maxSteps 900
/-! min of a list of pairs of ints -/
namespace K35
open PySem PySem.Spec PyProof.Rows L2 Gu Ex
def pD (m : Int × Int) : PyData := .tuple [.int m.1, .int m.2]
/-- in the sequence of pairs -/
def leP (a b : Int × Int) : Prop := a.1 < b.1 ∨ (a.1 = b.1 ∧ a.2 ≤ b.2)
theorem leP_refl (a : Int × Int) : leP a a := .inr ⟨rfl, Int.le_refl _⟩
theorem leP_trans {a b c : Int × Int} (h : leP a b) (k : leP b c) : leP a c := by
  unfold leP at *
  omega
theorem leP_antisymm {a b : Int × Int} (h : leP a b) (k : leP b a) : a = b := by
  unfold leP at *
  exact Prod.ext (by omega) (by omega)
theorem min_pr : ∀ (ms : List (Int × Int)) (b : Int × Int), ∃ m, PySem.W.minD (pD b) (ms.map pD) = pD m ∧ m ∈ b :: ms ∧ leP m b ∧ ∀ c ∈ ms, leP m c
  | [], b => ⟨b, rfl, List.mem_cons_self, leP_refl b, fun _ h => nomatch h⟩
  | c :: ms, b => by
    obtain ⟨d, ed, hd, h1, h2⟩ : ∃ d : Int × Int, (if PySem.W.dataLt (pD c) (pD b) = true then pD c else pD b) = pD d ∧ (d = c ∨ d = b) ∧ leP d b ∧ leP d c := by
      have e : PySem.W.dataLt (pD c) (pD b) = decide (c.1 < b.1 ∨ (c.1 = b.1 ∧ c.2 < b.2)) := PySem.W.dataLt_ii _ _ _ _
      rw [e]
      by_cases l : c.1 < b.1 ∨ (c.1 = b.1 ∧ c.2 < b.2)
      · exact ⟨c, if_pos (decide_eq_true l), .inl rfl, by unfold leP; omega, leP_refl c⟩
      · exact ⟨b, if_neg (fun z => l (of_decide_eq_true z)), .inr rfl, leP_refl b, by unfold leP; omega⟩
    obtain ⟨m, em, mm, k1, k2⟩ := min_pr ms d
    refine ⟨m, ?_, ?_, leP_trans k1 h1, fun x hx => ?_⟩
    · show PySem.W.minD (if PySem.W.dataLt (pD c) (pD b) = true then pD c else pD b) (ms.map pD) = _
      rw [ed]
      exact em
    · rcases List.mem_cons.mp mm with rfl | z
      · rcases hd with rfl | rfl
        · exact List.mem_cons_of_mem _ List.mem_cons_self
        · exact List.mem_cons_self
      · exact List.mem_cons_of_mem _ (List.mem_cons_of_mem _ z)
    · rcases List.mem_cons.mp hx with rfl | hx
      · exact leP_trans k1 h2
      · exact k2 x hx
theorem alike_pr (ms : List (Int × Int)) : PySem.W.AlikeAll (ms.map pD) := by
  refine ⟨fun x hx y hy => ?_, fun x hx => ?_⟩
  · obtain ⟨b, _, rfl⟩ := List.mem_map.mp hx
    obtain ⟨c, _, rfl⟩ := List.mem_map.mp hy
    rfl
  · obtain ⟨b, _, rfl⟩ := List.mem_map.mp hx
    intro z
    cases z
theorem dep_pr : ∀ ms : List (Int × Int), PyData.depthAll (ms.map pD) ≤ 1
  | [] => Nat.zero_le _
  | b :: r => by
    have e : (pD b).depth = 1 := rfl
    simp only [List.map_cons, PyData.depthAll, e]
    have := dep_pr r
    omega
theorem dp_pr {K : PySem.W.Frag} {H : Hp} {qs : List Addr} {ms : List (Int × Int)} (h : Refs prV H qs ms) : DpAll K H (qs.map V.ref) (ms.map pD) := by
  induction h with
  | nil => exact .nil
  | cons e _ ih => exact .cons (.tup (SqT.of e) (.cons (.int _) (.cons (.int _) .nil))) ih
theorem reads_int {h : Heap} {x : Int} {t : Tok} {d : PyData} {as : List Addr} (r : Reads h (.int x t) d as) : d = .int x := by
  cases r
  rfl
/-- min(xs) of a list of pairs that is not empty -/
def rMinP (K : PySem.W.Frag) : List V → Hp → VK → Prop := fun vs H Q => ∃ (a : Addr) (qs : List Addr) (ms : List (Int × Int)), vs = [V.ref a] ∧ SqL K H a (qs.map V.ref) ∧ Refs prV H qs ms ∧ ms ≠ [] ∧ ∀ q m, m ∈ ms → H q = some (.tup (prV m)) → (∀ c ∈ ms, leP m c) → Q (.ref q) H
theorem cr_minP {X : Cx} (hc : X.calm = true) (hu : X.A.units + 64 < cLine) : CallR X (.builtin "min") (rMinP X.K) := by
  intro pins s σ H vs us Q I r h
  obtain ⟨a, qs, ms, rfl, hs, rf, hne, q⟩ := h
  obtain ⟨its, rv, hl, _⟩ := I.list hs
  rw [Vals.ref1 r]
  match ms, rf, hne, q with
  | b0 :: ms, rf, _, q =>
    obtain ⟨as, rd⟩ := Dp.readsAll I _ _ _ (dp_pr rf) rv
    refine PySem.W.min_list_data (x := pD b0) (xs := ms.map pD) (I.ok.hd hc) hl.isList (by simpa using rd) (alike_pr (b0 :: ms)) ?_ fun i v h' tk bs' hv rd' kp => ?_
    · have := dep_pr (b0 :: ms)
      show X.A.units + 1 + PyData.depthAll ((b0 :: ms).map pD) < cLine
      omega
    · obtain ⟨m, em, mm, k1, k2⟩ := min_pr ms b0
      rw [em] at rd'
      have hv2 : its[i]? = some v := by simpa using hv
      have il : i < (b0 :: ms).length := by
        have h1 := rv.length
        rw [List.length_map, rf.len] at h1
        rw [h1]
        exact (List.getElem?_eq_some_iff.mp hv2).1
      obtain ⟨b, hb⟩ : ∃ b, (b0 :: ms)[i]? = some b := ⟨_, List.getElem?_eq_getElem il⟩
      obtain ⟨p, hp, hT⟩ := rf.at_ hb
      obtain ⟨u, hu2, ru⟩ := Vals.get rv (show (qs.map V.ref)[i]? = some (V.ref p) by rw [List.getElem?_map, hp]; rfl)
      rw [hv2] at hu2
      cases hu2
      obtain rfl : v = Value.ref p := ru
      have hT' : H p = some (.tup [.int b.1, .int b.2]) := hT
      obtain ⟨_, its2, r2, o, ho, hcl, n, hd⟩ := I.hok _ _ hT'
      have ebm : b = m := by
        cases r2 with
        | @cons _ u1 _ _ ri r3 =>
          cases r3 with
          | @cons _ u2 _ _ rj r4 =>
            cases r4
            obtain ⟨t1, rfl⟩ := ri
            obtain ⟨t2, rfl⟩ := rj
            cases rd' with
            | tuple e1 e2 e3 e4 =>
              have e5 := kp _ _ ho
              rw [e1] at e5
              cases e5
              rw [hd] at e3
              cases e3
              cases e4 with
              | cons e6 e7 =>
                cases e7 with
                | cons e8 _ => exact Prod.ext (PyData.int.inj (reads_int e6)).symm (PyData.int.inj (reads_int e8)).symm
      subst ebm
      exact ⟨.ref p, H, I.kept kp, rfl, q p b (List.mem_of_getElem? hb) hT fun c hc2 => by
        rcases List.mem_cons.mp hc2 with rfl | hc2
        · exact k1
        · exact k2 c hc2⟩
end K35

set_option Elab.async false
set_option linter.all false
set_option maxRecDepth 100000
set_option maxHeartbeats 1600000
set_option pp.maxSteps 900
namespace K35
open PySem PySem.Spec PyProof.Rows L2 Gu Ex
/-- the fields of a plan -/
def planF (zp : Addr) (n : Int) (cl st lo go : Addr) : List (Str × V) := [("size_table", .ref zp), ("cell_count", .int n), ("closed", .ref cl), ("staying", .ref st), ("lost", .ref lo), ("goals", .ref go)]
section
variable {zp cl st lo go : Addr} {n : Int}
theorem pl_zp : (planF zp n cl st lo go).lookup ("size_table" : Str) = some (.ref zp) := by kernel_rfl
theorem pl_cc : (planF zp n cl st lo go).lookup ("cell_count" : Str) = some (.int n) := by kernel_rfl
theorem pl_cl : (planF zp n cl st lo go).lookup ("closed" : Str) = some (.ref cl) := by kernel_rfl
theorem pl_st : (planF zp n cl st lo go).lookup ("staying" : Str) = some (.ref st) := by kernel_rfl
theorem pl_lo : (planF zp n cl st lo go).lookup ("lost" : Str) = some (.ref lo) := by kernel_rfl
theorem pl_go : (planF zp n cl st lo go).lookup ("goals" : Str) = some (.ref go) := by kernel_rfl
theorem pl_no {m : Str} (h : (m == ("size_table" : Str) || (m == ("cell_count" : Str) || (m == ("closed" : Str) || (m == ("staying" : Str) || (m == ("lost" : Str) || m == ("goals" : Str)))))) = false) : (planF zp n cl st lo go).lookup m = none := by
  rw [Bool.or_eq_false_iff, Bool.or_eq_false_iff, Bool.or_eq_false_iff, Bool.or_eq_false_iff, Bool.or_eq_false_iff] at h
  obtain ⟨h1, h2, h3, h4, h5, h6⟩ := h
  simp only [planF, List.lookup, h1, h2, h3, h4, h5, h6]
end
/-- a plan: what is closed (rc), what stays (cs) -/
structure Pn (K : PySem.W.Frag) (H : Hp) (p dx zp cl st lo go : Addr) (ns : List Int) (n : Int) (qs : List Addr) (rc : List (Int × Int)) (cs : List Blk) : Prop where
  at_ : H p = some (.ins (He.ga K "Plan") dx (planF zp n cl st lo go))
  szs : SzAt (He.ga K "Sizes") H zp ns
  clo : H cl = some (.lst (qs.map V.ref))
  rf : Refs prV H qs rc
  sta : H st = some (.dK (lvK cs))
  rok : ∀ r ∈ rc, 0 ≤ r.1 ∧ 0 ≤ r.2
  cok : ∀ b ∈ cs, b.2.1 < ns.length ∧ 0 ≤ b.1
  gd : Good ns
  n1 : 1 ≤ n
  n2 : n ≤ 1000000000000
  len : rc.length + cs.length ≤ 900
theorem SzAt.same' {C : Addr} {H H' : Hp} {p : Addr} {ns : List Int} (h : SzAt C H p ns) (s : Same H H') : SzAt C H' p ns := by
  obtain ⟨dx, l, h1, h2⟩ := h
  exact ⟨dx, l, s _ _ h1, s _ _ h2⟩
section
variable {K : PySem.W.Frag} {H H' : Hp} {p dx zp cl st lo go : Addr} {ns : List Int} {n : Int} {qs : List Addr} {rc : List (Int × Int)} {cs : List Blk}
theorem Pn.same (h : Pn K H p dx zp cl st lo go ns n qs rc cs) (s : Same H H') : Pn K H' p dx zp cl st lo go ns n qs rc cs :=
  ⟨s _ _ h.at_, h.szs.same' s, s _ _ h.clo, h.rf.same s, s _ _ h.sta, h.rok, h.cok, h.gd, h.n1, h.n2, h.len⟩
end
theorem filter_parts {α : Type} (c : α → Bool) : ∀ l : List α, (l.filter c).length + (l.filter fun x => !c x).length = l.length
  | [] => rfl
  | x :: l => by
    have ih := filter_parts c l
    cases h : c x
    · rw [List.filter_cons_of_neg (by rw [h]; exact Bool.false_ne_true), List.filter_cons_of_pos (by rw [h]; rfl), List.length_cons, List.length_cons]
      omega
    · rw [List.filter_cons_of_pos h, List.filter_cons_of_neg (by rw [h]; exact Bool.false_ne_true), List.length_cons, List.length_cons]
      omega
/-- only the object at p has changed since -/
structure Ow (C : Addr) (H G : Hp) (p dx : Addr) (fs : List (Str × V)) : Prop where
  keep : ∀ c o, c ≠ p → H c = some o → G c = some o
  at_ : G p = some (.ins C dx fs)
  fr : ∀ c, G c = none → H c = none
theorem Ow.put {C : Addr} {H G : Hp} {p dx : Addr} {fs fs' : List (Str × V)} (h : Ow C H G p dx fs) : Ow C H (upd G p (.ins C dx fs')) p dx fs' := ⟨fun c o n e => by rw [upd_ne n]; exact h.keep c o n e, upd_same, fun c e => by
  by_cases z : c = p
  · rw [z, upd_same] at e
    cases e
  · rw [upd_ne z] at e
    exact h.fr c e⟩
theorem Ow.same {C : Addr} {H G G' : Hp} {p dx : Addr} {fs : List (Str × V)} (h : Ow C H G p dx fs) (s : Same G G') : Ow C H G' p dx fs := ⟨fun c o n e => s _ _ (h.keep c o n e), s _ _ h.at_, fun c e => h.fr c (s.free e)⟩
section
variable {P : Program} {w : World} {K : PySem.W.Frag} {mg : Str → Option Value} {base : Heap} {f : Addr} {fd : FuncData}
def spAll (K : PySem.W.Frag) : Sp := fun vs H Q _ => ∃ (p : Addr) (ns : List Int), vs = [.ref p] ∧ SzAt (He.ga K "Sizes") H p ns ∧ ∀ l, H l = none → Q (.ref l) (upd H l (.lst (ns.map V.int)))
theorem sc_all_sizes : FnScope ["self"] ["self"] (defScope (inClass (top 19) 11)) := ⟨rfl, rfl, rfl, by decide +kernel, rfl, by decide +kernel, by decide +kernel⟩
theorem ok_all (T : Tx K mg) (F : FnP K "all_sizes" "Sizes.all_sizes" (inClass (top 19) 11) f fd) : FnOk P w K mg base CX0 1 f fd ["self"] (spAll K) := by
  refine F.ok sc_all_sizes (fun vs H Q E h => ?_) (fun cdv A outer s H vs Q E hr h => ⟨_, PSs.nox (pss_one (ps_ret (pe_callTy call_list_of (by rfl) T.n_list (by decide +kernel) (pa_cons (pe_fld (pv 0) rfl) pa_nil)))), ?_⟩)
  · obtain ⟨p, ns, rfl, _⟩ := h
    rfl
  · obtain ⟨p, ns, rfl, ⟨dx, l, h1, h2⟩, q⟩ := h
    exact ⟨_, rfl, p, _, dx, _, _, rfl, h1, T.cl, T.nSL, szF_get l, l, _, rfl, .inl (SqL.of h2), q⟩
def spPlan (K : PySem.W.Frag) : Sp := fun vs H Q _ => ∃ (p dx y zp bl dy : Addr) (ps : List Addr) (ns : List Int) (n : Int) (bs : List Blk), vs = [.ref p, .ref y] ∧ H p = some (.ins (He.ga K "Plan") dx []) ∧ Ly K H y zp bl dy ps ns n bs ∧ bs.length ≤ 900 ∧
  ∀ cl st lo go qs H', H cl = none → H st = none → H lo = none → H go = none → (∀ c o, c ≠ p → H c = some o → H' c = some o) → Pn K H' p dx zp cl st lo go ns n qs (pinR ns bs) (unpB bs) → Q .non H'
theorem sc_Plan_init : FnScope ["self", "layout", "size"] ["self", "layout"] (defScope (inClass (top 30) 0)) := ⟨rfl, rfl, rfl, by decide +kernel, rfl, by decide +kernel, by decide +kernel⟩
theorem ok_plan (T : Tx K mg) (P_sizes : Pf P w K mg base 1 "Layout" "sizes" (spSzs K)) (P_length : Pf P w K mg base 1 "Layout" "length" (spLen2 K)) (M_pinned_ranges : Mf P w K mg base 7 "Layout" "pinned_ranges" ["self"] (spPinned K)) (M_unpinned_levels : Mf P w K mg base 1 "Layout" "unpinned_levels" ["self"] (spLevels K)) (M_all_sizes : Mf P w K mg base 1 "Sizes" "all_sizes" ["self"] (spAll K))
    (F : FnP K "__init__" "Plan.__init__" (inClass (top 30) 0) f fd) : FnOk P w K mg base CX0 8 f fd ["self", "layout"] (spPlan K) := by
  refine F.ok sc_Plan_init (fun vs H Q E h => ?_) (fun cdv A outer s H vs Q E hr h => ⟨_, PSs.nox (pss_cons (ps_fld (pv 0) (pprop P_sizes hr (pv 1)) rfl) (pss_cons (ps_fld (pv 0) (pprop P_length hr (pv 1)) rfl) (pss_cons (ps_fld (pv 0) (pmeth0 M_pinned_ranges hr (pv 1)) rfl) (pss_cons (ps_fld (pv 0) (pmeth0 M_unpinned_levels hr (pv 1)) rfl) (pss_cons (ps_fld (pv 0) (pe_lc (own := [("size", 2)]) (g := gName 2) rfl sc_Plan_init.nd (pi_list (pmeth0 M_all_sizes hr (pe_fld (pv 0) rfl))) (blkOk_by (own := [("size", 2)]) (N := ["self", "layout", "size"]) (sc := defScope (inClass (top 30) 0)) (by decide +kernel)) (fun _ _ _ _ _ => pg_name (i := 2) sc_Plan_init.nd rfl (Or.inl rfl)) (fun _ _ _ _ _ => pts_nil) (fun _ _ _ _ _ => (pe_lst pa_nil))) rfl) (pss_one (ps_fld (pv 0) pe_dnewK rfl))))))), ?_⟩)
  · obtain ⟨p, dx, y, zp, bl, dy, ps, ns, n, bs, rfl, _⟩ := h
    rfl
  · obtain ⟨p, dx, y, zp, bl, dy, ps, ns, n, bs, rfl, hp, L, b900, q⟩ := h
    have pl := L.rf.len
    have gl := L.gd.len
    have far : ∀ {G : Hp} {fs : List (Str × V)}, (∀ c o, c ≠ p → H c = some o → G c = some o) → Ly K G y zp bl dy ps ns n bs := fun {G fs} k => by
      obtain ⟨dz, l, z1, z2, z3⟩ := L.ap
      have ne : ∀ {c : Addr} {o : HO}, H c = some o → (∀ C d, o ≠ .ins C d []) → c ≠ p := fun {c o} e n z => by
        rw [z, hp] at e
        exact n _ _ (Option.some.inj e).symm
      have k1 := k _ _ (ne z1 fun C d z => by cases z) z1
      have k2 := k _ _ (ne z2 fun C d z => by cases z) z2
      exact ⟨k _ _ (ne L.at_ fun C d z => by cases z) L.at_, ⟨dz, l, k1, k2⟩, k _ _ (ne L.lst fun C d z => by cases z) L.lst, L.rf.mono fun p xs e => k _ _ (ne e fun C d z => by cases z) e, L.wf, L.gd, L.n1, L.n2, L.ln, ⟨dz, l, k1, k2, z3⟩⟩
    refine ⟨_, rfl, y, dy, _, rfl, L.at_, y, zp, bl, dy, ps, ns, n, bs, rfl, L, ?_⟩
    refine ⟨_, rfl, p, _, dx, _, rfl, hp, T.pl, T.pST, (by show 0 < 1000; decide), ?_⟩
    have O1 : Ow (He.ga K "Plan") H (upd H p (.ins (He.ga K "Plan") dx (putF "size_table" (.ref zp) []))) p dx (putF "size_table" (.ref zp) []) := Ow.put (fs := []) ⟨fun _ _ _ e => e, hp, fun _ e => e⟩
    generalize upd H p (.ins (He.ga K "Plan") dx (putF "size_table" (.ref zp) [])) = G1 at O1
    have L1 := far (fs := []) O1.keep
    refine ⟨_, rfl, y, dy, _, rfl, L1.at_, y, zp, bl, dy, ps, ns, n, bs, rfl, L1, ?_⟩
    refine ⟨_, rfl, p, _, dx, _, rfl, O1.at_, T.pl, T.pCC, (by show 1 < 1000; decide), ?_⟩
    have O2 := O1.put (fs' := putF "cell_count" (.int n) (putF "size_table" (.ref zp) []))
    generalize upd G1 p (.ins (He.ga K "Plan") dx (putF "cell_count" (.int n) (putF "size_table" (.ref zp) []))) = G2 at O2
    have L2 := far (fs := []) O2.keep
    refine ⟨_, rfl, y, dy, _, rfl, L2.at_, lay_nm (by decide +kernel), y, zp, bl, dy, ps, ns, n, bs, rfl, L2, fun cl qs G3 hcl s3 kcl rcl => ?_⟩
    have O3 := O2.same s3
    refine ⟨_, rfl, p, _, dx, _, rfl, O3.at_, T.pl, T.pCl, (by show 2 < 1000; decide), ?_⟩
    have ncp : cl ≠ p := (ne_of_none O2.at_ hcl).symm
    have O4 := O3.put (fs' := putF "closed" (.ref cl) (putF "cell_count" (.int n) (putF "size_table" (.ref zp) [])))
    have kcl4 : (upd G3 p (.ins (He.ga K "Plan") dx (putF "closed" (.ref cl) (putF "cell_count" (.int n) (putF "size_table" (.ref zp) []))))) cl = some (.lst (qs.map V.ref)) := by rw [upd_ne ncp]; exact kcl
    have rcl4 : Refs prV (upd G3 p (.ins (He.ga K "Plan") dx (putF "closed" (.ref cl) (putF "cell_count" (.int n) (putF "size_table" (.ref zp) []))))) qs (pinR ns bs) := rcl.mono fun c xs e => by
      rw [upd_ne (fun z => by rw [z, O3.at_] at e; cases e)]
      exact e
    generalize upd G3 p (.ins (He.ga K "Plan") dx (putF "closed" (.ref cl) (putF "cell_count" (.int n) (putF "size_table" (.ref zp) [])))) = G4 at O4 kcl4 rcl4
    have L4 := far (fs := []) O4.keep
    refine ⟨_, rfl, y, dy, _, rfl, L4.at_, lay_nm (by decide +kernel), y, zp, bl, dy, ps, ns, n, bs, rfl, L4, fun st G5 hst s5 kst => ?_⟩
    have O5 := O4.same s5
    refine ⟨_, rfl, p, _, dx, _, rfl, O5.at_, T.pl, T.pSt, (by show 3 < 1000; decide), ?_⟩
    have nsp : st ≠ p := (ne_of_none O4.at_ hst).symm
    have O6 := O5.put (fs' := putF "staying" (.ref st) (putF "closed" (.ref cl) (putF "cell_count" (.int n) (putF "size_table" (.ref zp) []))))
    have kcl6 : (upd G5 p (.ins (He.ga K "Plan") dx (putF "staying" (.ref st) (putF "closed" (.ref cl) (putF "cell_count" (.int n) (putF "size_table" (.ref zp) [])))))) cl = some (.lst (qs.map V.ref)) := by rw [upd_ne ncp]; exact s5 _ _ kcl4
    have kst6 : (upd G5 p (.ins (He.ga K "Plan") dx (putF "staying" (.ref st) (putF "closed" (.ref cl) (putF "cell_count" (.int n) (putF "size_table" (.ref zp) [])))))) st = some (.dK (lvK (unpB bs))) := by rw [upd_ne nsp]; exact kst
    have rcl6 : Refs prV (upd G5 p (.ins (He.ga K "Plan") dx (putF "staying" (.ref st) (putF "closed" (.ref cl) (putF "cell_count" (.int n) (putF "size_table" (.ref zp) [])))))) qs (pinR ns bs) := (rcl4.same s5).mono fun c xs e => by
      rw [upd_ne (fun z => by rw [z, O5.at_] at e; cases e)]
      exact e
    generalize upd G5 p (.ins (He.ga K "Plan") dx (putF "staying" (.ref st) (putF "closed" (.ref cl) (putF "cell_count" (.int n) (putF "size_table" (.ref zp) []))))) = G6 at O6 kcl6 kst6 rcl6
    have L6 := far (fs := []) O6.keep
    obtain ⟨dz, l, z1, z2⟩ := id L6.szs
    refine ⟨_, rfl, p, _, dx, _, _, rfl, O6.at_, T.pl, T.pST, (by kernel_rfl), zp, dz, _, rfl, z1, szF_no l (by decide +kernel), zp, ns, rfl, L6.szs, fun al hal => ?_⟩
    have O7 := O6.same (same_upd (o := .lst (ns.map V.int)) hal)
    have s7 := same_upd (o := .lst (ns.map V.int)) hal
    have kal : (upd G6 al (.lst (ns.map V.int))) al = some (.lst (ns.map V.int)) := upd_same
    have sl : sizeLine = 16777216 := sizeLine_eq
    generalize upd G6 al (.lst (ns.map V.int)) = G7 at O7 s7 kal
    refine ⟨al, rfl, ⟨_, SqL.of kal⟩, fun lo hlo => ?_⟩
    refine lc_list (K := K) (a := al) (xs := ns.map V.int) (fun i G => ∃ xs, G lo = some (.lst xs) ∧ xs.length ≤ i ∧ Same G7 G) ⟨[], upd_same, Nat.le_refl _, same_upd hlo⟩ (fun i G _ ⟨_, _, _, sm⟩ => SqL.of (sm _ _ kal)) ?_ ?_
    · rintro i x G hx ⟨xs, hG, xl, sm⟩
      have il := (List.getElem?_eq_some_iff.mp hx).1
      rw [List.length_map] at il
      refine ⟨rfl, (by show 0 ≤ sizeLine; decide), fun e he => ?_⟩
      have se := same_upd (o := .lst []) he
      refine ⟨_, se _ _ hG, by omega, xs ++ [.ref e], upd_same, by rw [List.length_append]; exact Nat.add_le_add xl (Nat.le_refl 1), fun c o ec => ?_⟩
      rw [upd_ne (ne_of_none ec hlo)]
      exact se _ _ (sm c o ec)
    rintro G8 ⟨xs, hG8, _, s8⟩
    have O8 := O7.same s8
    have s78 := s7.trans s8
    refine ⟨_, rfl, p, _, dx, _, rfl, O8.at_, T.pl, T.pLo, (by show 4 < 1000; decide), ?_⟩
    have O9 := O8.put (fs' := putF "lost" (.ref lo) (putF "staying" (.ref st) (putF "closed" (.ref cl) (putF "cell_count" (.int n) (putF "size_table" (.ref zp) [])))))
    have tupK : ∀ {c : Addr} {o : HO}, (∀ C d fs, o ≠ .ins C d fs) → G8 c = some o → (upd G8 p (.ins (He.ga K "Plan") dx (putF "lost" (.ref lo) (putF "staying" (.ref st) (putF "closed" (.ref cl) (putF "cell_count" (.int n) (putF "size_table" (.ref zp) []))))))) c = some o := fun {c o} no e => by
      rw [upd_ne (fun z => by rw [z, O8.at_] at e; exact no _ _ _ (Option.some.inj e).symm)]
      exact e
    have kcl9 := tupK (fun _ _ _ z => by cases z) (s78 _ _ kcl6)
    have kst9 := tupK (fun _ _ _ z => by cases z) (s78 _ _ kst6)
    have rcl9 := (rcl6.same s78).mono fun c xs e => tupK (fun _ _ _ z => by cases z) e
    generalize upd G8 p (.ins (He.ga K "Plan") dx (putF "lost" (.ref lo) (putF "staying" (.ref st) (putF "closed" (.ref cl) (putF "cell_count" (.int n) (putF "size_table" (.ref zp) [])))))) = G9 at O9 kcl9 kst9 rcl9
    refine fun go hgo => ?_
    have sG := same_upd (o := .dK []) hgo
    have OA := O9.same sG
    refine ⟨_, rfl, p, _, dx, _, rfl, OA.at_, T.pl, T.pGo, (by show 5 < 1000; decide), ?_⟩
    have OB := OA.put (fs' := putF "goals" (.ref go) (putF "lost" (.ref lo) (putF "staying" (.ref st) (putF "closed" (.ref cl) (putF "cell_count" (.int n) (putF "size_table" (.ref zp) []))))))
    have tupB : ∀ {c : Addr} {o : HO}, (∀ C d fs, o ≠ .ins C d fs) → G9 c = some o → (upd (upd G9 go (.dK [])) p (.ins (He.ga K "Plan") dx (putF "goals" (.ref go) (putF "lost" (.ref lo) (putF "staying" (.ref st) (putF "closed" (.ref cl) (putF "cell_count" (.int n) (putF "size_table" (.ref zp) [])))))))) c = some o := fun {c o} no e => by
      rw [upd_ne (fun z => by rw [z, O9.at_] at e; exact no _ _ _ (Option.some.inj e).symm)]
      exact sG _ _ e
    have LB := far (fs := []) OB.keep
    have wf := L.wf
    have kAt := OB.at_
    rw [show putF "goals" (.ref go) (putF "lost" (.ref lo) (putF "staying" (.ref st) (putF "closed" (.ref cl) (putF "cell_count" (.int n) (putF "size_table" (.ref zp) []))))) = planF zp n cl st lo go by kernel_rfl] at kAt
    refine q cl st lo go qs _ (O2.fr cl hcl) (O4.fr st hst) (O7.fr lo hlo) (O9.fr go hgo) OB.keep ⟨kAt, LB.szs, tupB (fun _ _ _ z => by cases z) kcl9, rcl9.mono fun c xs e => tupB (fun _ _ _ z => by cases z) e, tupB (fun _ _ _ z => by cases z) kst9, fun r hr => ?_, fun b hb => ?_, L.gd, L.n1, L.n2, ?_⟩
    · obtain ⟨b, hb, rfl⟩ := List.mem_map.mp hr
      have hb := (List.mem_filter.mp hb).1
      have ok := wf.ok b hb
      have := wf.pos L.gd hb
      show 0 ≤ b.1 ∧ 0 ≤ bEnd ns b
      unfold bEnd
      exact ⟨ok.2.1, by omega⟩
    · have hb := (List.mem_filter.mp hb).1
      exact ⟨(wf.ok b hb).1, (wf.ok b hb).2.1⟩
    · have h1 : ((bs.filter fun b => b.2.2).length + (bs.filter fun b => !b.2.2).length) = bs.length := filter_parts (fun b : Blk => b.2.2) bs
      unfold pinR unpB
      rw [List.length_map]
      omega
end
end K35

set_option Elab.async false
set_option linter.all false
set_option maxRecDepth 100000
set_option maxHeartbeats 1600000
set_option pp.maxSteps 900
namespace K35
open PySem PySem.Spec PyProof.Rows L2 Gu Ex
/-- the longest ranges without a block that stays and without a closed address -/
def pgI (ns : List Int) (n : Int) (rc : List (Int × Int)) (cs : List Blk) : List (Int × Int) := gapsI n 0 (srtP (rc ++ cs.map (rngB ns)))
theorem pg_ok {ns : List Int} {n : Int} {rc : List (Int × Int)} {cs : List Blk} (g : Good ns) (r : ∀ r ∈ rc, 0 ≤ r.1 ∧ 0 ≤ r.2) (c : ∀ b ∈ cs, b.2.1 < ns.length ∧ 0 ≤ b.1) : ∀ x ∈ pgI ns n rc cs, 0 ≤ x.1 ∧ x.1 ≤ x.2 := by
  refine gaps_ok (Int.le_refl 0) fun x hx => ?_
  rcases List.mem_append.mp ((srtP_perm _).mem_iff.mp hx) with z | z
  · exact (r x z).2
  · obtain ⟨b, hb, rfl⟩ := List.mem_map.mp z
    obtain ⟨h1, h2⟩ := c b hb
    have := (chain g).pos _ h1
    show 0 ≤ b.1 + sz ns b.2.1
    omega
theorem pg_len {ns : List Int} {n : Int} {rc : List (Int × Int)} {cs : List Blk} : (pgI ns n rc cs).length ≤ rc.length + cs.length + 1 := by
  have := gaps_len (n := n) (srtP (rc ++ cs.map (rngB ns))) 0
  rw [(srtP_perm _).length_eq, List.length_append, List.length_map] at this
  exact this
theorem at_st {u : TS} {D : Ends} {σ σ' : List (Option V)} {H : Hp} (e : σ = σ') (h : u D σ' H) : u D σ H := e ▸ h
theorem nx_of {E0 : Ends} {F : List (Option V) → Hp → Prop} {rt : VK} {σ σ' : List (Option V)} {H : Hp} (e : σ = σ') (h : F σ' H) : ({ E0 with nx := F, rt := rt } : Ends).nx σ H := e ▸ h
theorem go_nm {i : Nat} {x : V} {σ : List (Option V)} {H : Hp} {Q : List (Option V) → Hp → Prop} (h : Q (σ.set i (some x)) H) : gName i x σ H Q := h
section
variable {P : Program} {w : World} {K : PySem.W.Frag} {mg : Str → Option Value} {base : Heap} {f : Addr} {fd : FuncData}
def spPG (K : PySem.W.Frag) : Sp := fun vs H Q _ => ∃ (p dx zp cl st lo go : Addr) (ns : List Int) (n : Int) (qs : List Addr) (rc : List (Int × Int)) (cs : List Blk), vs = [.ref p] ∧ Pn K H p dx zp cl st lo go ns n qs rc cs ∧
  ∀ M ms H', H M = none → Same H H' → H' M = some (.lst (ms.map V.ref)) → Refs prV H' ms (pgI ns n rc cs) → Q (.ref M) H'
theorem sc_free_gaps : FnScope ["self", "staying", "address", "level"] ["self"] (defScope (inClass (top 30) 2)) := ⟨rfl, rfl, rfl, by decide +kernel, rfl, by decide +kernel, by decide +kernel⟩
theorem ok_pg (T : Tx K mg) (M_size : Mf P w K mg base 5 "Sizes" "size" ["self", "level"] (spSize K)) (D_gaps_between : Df P w K mg base 1 "gaps_between" ["ranges", "length"] spGaps)
    (F : FnP K "free_gaps" "Plan.free_gaps" (inClass (top 30) 2) f fd) : FnOk P w K mg base CX0 6 f fd ["self"] (spPG K) := by
  refine F.ok sc_free_gaps (fun vs H Q E h => ?_) (fun cdv A outer s H vs Q E hr h => ⟨_, PSs.nox (pss_cons (ps_lock (ps_setLc (i := 1) (own := [("address", 2), ("level", 3)]) (g := gTup K 2 (gCons (gName 2) (gCons (gName 3) gNil))) rfl sc_free_gaps.nd rfl rfl (sw_true rfl rfl rfl (by decide +kernel)) (pi_items (pe_fld (pv 0) rfl)) (blkOk_by (own := [("address", 2), ("level", 3)]) (N := ["self", "staying", "address", "level"]) (sc := defScope (inClass (top 30) 2)) (by decide +kernel)) (fun _ _ _ _ _ => pg_tup rfl (pgs_cons (pg_name (i := 2) sc_free_gaps.nd rfl (Or.inl rfl)) (pgs_cons (pg_name (i := 3) sc_free_gaps.nd rfl (Or.inl rfl)) pgs_nil))) (fun _ _ _ _ _ => pts_nil) (fun _ _ _ _ _ => (pe_tup (pa_cons (pv 2) (pa_cons (pe_op op_add (pv 2) (pmethB K M_size hr (pfldB K (pv 0)) (pa_cons (pv 3) pa_nil))) pa_nil)))))) (pss_one (ps_ret (pcall D_gaps_between hr (pa_cons (pe_callB cr_sortedPO (by rfl) T.n_sorted (by decide +kernel) (pa_cons (pe_op op_cat (pe_fld (pv 0) rfl) (pv 1)) pa_nil)) (pa_cons (pe_fld (pv 0) rfl) pa_nil)))))), ?_⟩)
  · obtain ⟨p, dx, zp, cl, st, lo, go, ns, n, qs, rc, cs, rfl, _⟩ := h
    rfl
  · obtain ⟨p, dx, zp, cl, st, lo, go, ns, n, qs, rc, cs, rfl, Pp, q⟩ := h
    have sl : sizeLine = 16777216 := sizeLine_eq
    have len := Pp.len
    have ql := Pp.rf.len
    refine ⟨st, _, Pp.sta, trivial, fun od => ?_⟩
    have kL : ∀ {c : Addr} {o : HO}, (∀ kvs, o ≠ .dK kvs) → H c = some o → (upd H st (.frz od (.dK (lvK cs)))) c = some o := fun {c o} no e => by
      rw [upd_ne (fun z => by rw [z, Pp.sta] at e; exact no _ (Option.some.inj e).symm)]
      exact e
    have at1 := kL (fun _ z => by cases z) Pp.at_
    have szs1 : SzAt (He.ga K "Sizes") (upd H st (.frz od (.dK (lvK cs)))) zp ns := by
      obtain ⟨dz, l, h1, h2⟩ := Pp.szs
      exact ⟨dz, l, kL (fun _ z => by cases z) h1, kL (fun _ z => by cases z) h2⟩
    have fz : (upd H st (.frz od (.dK (lvK cs)))) st = some (.frz od (.dK (lvK cs))) := upd_same
    have N1 : ∀ c, (upd H st (.frz od (.dK (lvK cs)))) c = none → H c = none := fun c e => by
      by_cases z : c = st
      · rw [z, upd_same] at e
        cases e
      · rw [upd_ne z] at e
        exact e
    have kB : ∀ {G : Hp}, Same (upd H st (.frz od (.dK (lvK cs)))) G → Same H (upd G st (.dK (lvK cs))) := fun {G} s c o e => by
      by_cases z : c = st
      · rw [z, upd_same]
        rw [z, Pp.sta] at e
        exact e
      · rw [upd_ne z]
        refine s _ _ ?_
        rw [upd_ne z]
        exact e
    generalize upd H st (.frz od (.dK (lvK cs))) = H1 at at1 szs1 fz N1 kB kL
    refine ⟨_, rfl, p, _, dx, _, _, rfl, at1, T.pl, T.pSt, pl_st, st, od, _, rfl, fz, fun D hD => ?_⟩
    refine lc_it (walk_items (kvs := lvK cs)) (fun i G => ∃ rs : List Addr, G D = some (.lst (rs.map V.ref)) ∧ Refs prV G rs ((cs.take i).map (rngB ns)) ∧ Same H1 G) ⟨[], upd_same, .nil, same_upd hD⟩ (fun i G _ ⟨_, _, _, sm⟩ => sm _ _ fz) ?_ ?_
    · rintro i x GA GB hi ⟨rs, hG, rr, sm⟩ ⟨T', y1, y2, rfl, hT, rfl, e1, e2⟩
      have hi2 : i < cs.length := by
        have : (lvK cs).length = cs.length := List.length_map _
        omega
      obtain ⟨b, hb⟩ : ∃ b, cs[i]? = some b := ⟨_, List.getElem?_eq_getElem hi2⟩
      have ek : (lvK cs)[i]? = some (Sum.inl b.1, V.int (b.2.1 : Nat)) := by
        unfold lvK
        rw [List.getElem?_map, hb]
        rfl
      have e1' : (lvK cs)[i]?.map (fun kv => kV kv.1) = some y1 := e1
      have e2' : (lvK cs)[i]?.map Prod.snd = some y2 := e2
      rw [ek] at e1' e2'
      cases e1'
      cases e2'
      have bk := (Pp.cok b (List.mem_of_getElem? hb)).1
      have sT := same_upd (o := .tup [.int b.1, .int (b.2.1 : Nat)]) hT
      have hT1 : (upd GA T' (.tup [.int b.1, .int (b.2.1 : Nat)])) T' = some (.tup [.int b.1, .int (b.2.1 : Nat)]) := upd_same
      show gTup K 2 (gCons (gName 2) (gCons (gName 3) gNil)) (V.ref T') _ (upd GA T' (.tup [.int b.1, .int (b.2.1 : Nat)])) _
      have hG2 := sT _ _ hG
      have rr2 := rr.same sT
      have sm2 := sm.trans sT
      generalize upd GA T' (.tup [.int b.1, .int (b.2.1 : Nat)]) = GB at sT hT1 hG2 rr2 sm2
      have szB := szs1.same' sm2
      obtain ⟨dz, l, z1, z2⟩ := id szB
      have rl := rr2.len
      rw [List.length_map, List.length_take] at rl
      refine ⟨T', _, rfl, .inl (.inl hT1), rfl, _, _, rfl, _, _, rfl, rfl, rfl, ?_⟩
      refine ⟨_, rfl, _, rfl, _, rfl, p, _, dx, _, _, rfl, sm2 _ _ at1, T.pl, T.pST, pl_zp, zp, dz, _, rfl, z1, szF_no l (by decide +kernel), _, rfl, zp, ns, b.2.1, _, rfl, szB, sz_at bk, _, _, rfl, rfl, (by show 2 ≤ sizeLine; decide), fun u hu => ?_⟩
      have nD : D ≠ u := ne_of_none hG2 hu
      refine ⟨_, (by rw [upd_ne nD]; exact hG2), (by rw [List.length_map]; omega), rs ++ [u], ?_, ?_, fun c o e => ?_⟩
      · rw [upd_same, List.map_append]
        rfl
      · rw [take_at hb, List.map_append]
        exact Refs.more (u := rngB ns b) rr2 hG2 hu
      · rw [upd_ne (ne_of_none e hD), upd_ne (ne_of_none (sm2 c o e) hu)]
        exact sm2 c o e
    rintro G ⟨rs, hG, rr, sm⟩
    have el : (lvK cs).length = cs.length := List.length_map _
    rw [el, List.take_length] at rr
    have nDs : D ≠ st := (ne_of_none fz hD).symm
    have sB := kB sm
    have hGB : (upd G st (.dK (lvK cs))) D = some (.lst (rs.map V.ref)) := by rw [upd_ne nDs]; exact hG
    have rrB : Refs prV (upd G st (.dK (lvK cs))) rs (cs.map (rngB ns)) := rr.mono fun c xs e => by
      rw [upd_ne (fun z => by rw [z, sm _ _ fz] at e; cases e)]
      exact e
    refine ⟨sm _ _ fz, ?_⟩
    refine at_st (σ' := [some (.ref p), some (.ref D), none, none]) rfl ?_
    generalize upd G st (.dK (lvK cs)) = G2 at sB hGB rrB
    have P2 := Pp.same sB
    have rl := rrB.len
    rw [List.length_map] at rl
    refine ⟨_, rfl, p, _, dx, _, _, rfl, P2.at_, T.pl, T.pCl, pl_cl, _, rfl, cl, D, _, _, rfl, rfl, P2.clo, hGB, (by rw [List.length_map, List.length_map]; omega), fun J hJ => ?_⟩
    have sJ := same_upd (o := .lst (qs.map V.ref ++ rs.map V.ref)) hJ
    have kJ : (upd G2 J (.lst (qs.map V.ref ++ rs.map V.ref))) J = some (.lst ((qs ++ rs).map V.ref)) := by rw [upd_same, List.map_append]
    have rJ : Refs prV (upd G2 J (.lst (qs.map V.ref ++ rs.map V.ref))) (qs ++ rs) (rc ++ cs.map (rngB ns)) := (P2.rf.same sJ).app (rrB.same sJ)
    generalize upd G2 J (.lst (qs.map V.ref ++ rs.map V.ref)) = G3 at sJ kJ rJ
    refine ⟨J, _, prA G3, rfl, SqL.of kJ, (pr_refs rJ).2, fun zs L9 so9 sb9 hL9 => ?_⟩
    obtain ⟨qk, rfl, rfq⟩ := pairs_sorted rJ so9 sb9
    have sL := same_upd (o := .lst (qk.map V.ref)) hL9
    have kL9 : (upd G3 L9 (.lst (qk.map V.ref))) L9 = some (.lst (qk.map V.ref)) := upd_same
    have rL9 := rfq.same sL
    generalize upd G3 L9 (.lst (qk.map V.ref)) = G4 at sL kL9 rL9
    have sall := (sB.trans sJ).trans sL
    have P4 := Pp.same sall
    refine ⟨_, rfl, p, _, dx, _, _, rfl, P4.at_, T.pl, T.pCC, pl_cc, L9, n, qk, _, rfl, kL9, rL9, ?_, fun M ms H' hM s' hM' rM => ?_⟩
    · rw [(srtP_perm _).length_eq, List.length_append, List.length_map]
      omega
    · exact q M ms H' (sall.free hM) (sall.trans s') hM' rM
end
end K35

set_option Elab.async false
set_option linter.all false
set_option maxRecDepth 100000
set_option maxHeartbeats 1600000
set_option pp.maxSteps 900
namespace K35
open PySem PySem.Spec PyProof.Rows L2 Gu Ex
def optV : Option Int → V
  | none => .non
  | some a => .int a
/-- the first region of the level in these ranges -/
def lowF (ns : List Int) (k : Nat) : List (Int × Int) → Option Int
  | [] => none
  | g :: gs => if 0 < cntI (sz ns k) g.1 g.2 then some (nextI (sz ns k) g.1) else lowF ns k gs
section
variable {P : Program} {w : World} {K : PySem.W.Frag} {mg : Str → Option Value} {base : Heap} {f : Addr} {fd : FuncData}
def spLow (K : PySem.W.Frag) : Sp := fun vs H Q _ => ∃ (p dx zp cl st lo go : Addr) (ns : List Int) (n : Int) (qs : List Addr) (rc : List (Int × Int)) (cs : List Blk) (k : Nat), vs = [.ref p, .int k] ∧ Pn K H p dx zp cl st lo go ns n qs rc cs ∧ k < ns.length ∧
  ∀ H', Same H H' → Q (optV (lowF ns k (pgI ns n rc cs))) H'
theorem sc_lowest_free : FnScope ["self", "level", "low", "high"] ["self", "level"] (defScope (inClass (top 30) 3)) := ⟨rfl, rfl, rfl, by decide +kernel, rfl, by decide +kernel, by decide +kernel⟩
theorem ok_low (T : Tx K mg) (M_free_gaps : Mf P w K mg base 6 "Plan" "free_gaps" ["self"] (spPG K)) (D_count_regions : Df P w K mg base 7 "count_regions" ["sizes", "level", "low", "high"] (spCount K)) (M_size : Mf P w K mg base 5 "Sizes" "size" ["self", "level"] (spSize K)) (D_next_start : Df P w K mg base 1 "next_start" ["size", "address"] spNext)
    (F : FnP K "lowest_free" "Plan.lowest_free" (inClass (top 30) 3) f fd) : FnOk P w K mg base CX0 8 f fd ["self", "level"] (spLow K) := by
  refine F.ok sc_lowest_free (fun vs H Q E h => ?_) (fun cdv A outer s H vs Q E hr h => ⟨_, PSs.nox (pss_cons (ps_for PassesOwn.never rfl (pi_list (pmeth0 M_free_gaps hr (pv 0))) (pg_tup (by rfl) (pgs_cons (pg_name (i := 2) sc_lowest_free.nd rfl (by first | exact Or.inl rfl | exact Or.inr rfl)) (pgs_cons (pg_name (i := 3) sc_lowest_free.nd rfl (by first | exact Or.inl rfl | exact Or.inr rfl)) pgs_nil))) (pss_one (ps_if (pt_cmpR op_gt (pcall D_count_regions hr (pa_cons (pe_fld (pv 0) rfl) (pa_cons (pv 1) (pa_cons (pv 2) (pa_cons (pv 3) pa_nil))))) pe_int (nomark _)) (pss_one (ps_ret (pcall D_next_start hr (pa_cons (pmeth M_size hr (pe_fld (pv 0) rfl) (pa_cons (pv 1) pa_nil)) (pa_cons (pv 2) pa_nil))))) pss_nil))) (pss_one (ps_ret pe_non))), ?_⟩)
  · obtain ⟨p, dx, zp, cl, st, lo, go, ns, n, qs, rc, cs, k, rfl, _⟩ := h
    rfl
  · obtain ⟨p, dx, zp, cl, st, lo, go, ns, n, qs, rc, cs, k, rfl, Pp, hk, q⟩ := h
    have s1 := (chain Pp.gd).pos _ hk
    have s2 := sz_le Pp.gd hk
    have gok := pg_ok (n := n) Pp.gd Pp.rok Pp.cok
    refine ⟨_, rfl, p, dx, _, rfl, Pp.at_, pl_no (by decide +kernel), p, dx, zp, cl, st, lo, go, ns, n, qs, rc, cs, rfl, Pp, fun M ms H1 hM0 sm1 hM rM => ?_⟩
    have ml := rM.len
    refine ⟨M, rfl, ⟨_, SqL.of hM⟩, ?_⟩
    refine for_list (K := K) (a := M) (xs := ms.map V.ref) (fun i σ G => (∃ x2 x3, σ = [some (.ref p), some (.int k), x2, x3]) ∧ G = H1 ∧ lowF ns k (pgI ns n rc cs) = lowF ns k ((pgI ns n rc cs).drop i))
      ⟨⟨none, none, rfl⟩, rfl, rfl⟩ (fun i σ G _ h => by rw [h.2.1]; exact SqL.of hM) ?_ ?_
    · rintro i v σ G hv ⟨⟨x2, x3, rfl⟩, rfl, eq⟩
      obtain ⟨u, hu, rfl⟩ := ref_of hv
      obtain ⟨g, hg, hT⟩ := rM.get hu
      have hT' : G u = some (.tup [.int g.1, .int g.2]) := hT
      obtain ⟨g0, g1⟩ := gok g (List.mem_of_getElem? hg)
      have P1 := Pp.same sm1
      obtain ⟨dz, l, z1, z2⟩ := id P1.szs
      rw [drop_at hg] at eq
      refine ⟨u, _, rfl, .inl (.inl hT'), rfl, _, _, rfl, _, _, rfl, rfl, ?_⟩
      refine ⟨_, rfl, p, _, dx, _, _, rfl, P1.at_, T.pl, T.pST, pl_zp, _, rfl, _, rfl, _, rfl, zp, ns, k, _, g.1, g.2, rfl, P1.szs, sz_at hk, s1, s2, g0, g1, _, _, rfl, rfl, _, rfl, ?_⟩
      by_cases hc : 0 < cntI (sz ns k) g.1 g.2
      · have eq2 : lowF ns k (pgI ns n rc cs) = some (nextI (sz ns k) g.1) := by
          rw [eq]
          show (if 0 < cntI (sz ns k) g.1 g.2 then some (nextI (sz ns k) g.1) else _) = _
          rw [if_pos hc]
        refine ifT (decide_eq_true hc) ?_
        refine ⟨_, rfl, p, _, dx, _, _, rfl, P1.at_, T.pl, T.pST, pl_zp, zp, dz, _, rfl, z1, szF_no l (by decide +kernel), _, rfl, zp, ns, k, _, rfl, P1.szs, sz_at hk, _, rfl, _, _, rfl, s1, s2, ?_⟩
        have := q G sm1
        rw [eq2] at this
        exact this
      · have eq2 : lowF ns k (pgI ns n rc cs) = lowF ns k ((pgI ns n rc cs).drop (i + 1)) := by
          rw [eq]
          show (if 0 < cntI (sz ns k) g.1 g.2 then some (nextI (sz ns k) g.1) else _) = _
          rw [if_neg hc]
        exact ifF (decide_eq_false hc) ⟨⟨_, _, rfl⟩, rfl, eq2⟩
    · rintro σ G ⟨⟨x2, x3, rfl⟩, rfl, eq⟩
      rw [List.length_map, ml, List.drop_length] at eq
      have := q G sm1
      rw [eq] at this
      exact this
end
end K35

set_option Elab.async false
set_option linter.all false
set_option maxRecDepth 100000
set_option maxHeartbeats 3200000
set_option pp.maxSteps 900
namespace K35
open PySem PySem.Spec PyProof.Rows L2 Gu Ex
/-- where the region of this size that contains a starts -/
def stI (x a : Int) : Int := a - a % x
/-- only lower blocks keep its region, and it ends within the memory -/
def okB (ns : List Int) (n : Int) (rc : List (Int × Int)) (k : Nat) (b : Blk) : Bool := decide (b.2.1 < k) && ((rc.all fun r => !decide (stI (sz ns k) r.1 = stI (sz ns k) b.1)) && decide (stI (sz ns k) b.1 + sz ns k ≤ n))
def inB (ns : List Int) (n : Int) (rc : List (Int × Int)) (k : Nat) (s : Int) (b : Blk) : Bool := okB ns n rc k b && decide (stI (sz ns k) b.1 = s)
def sumS (ns : List Int) (n : Int) (rc : List (Int × Int)) (k : Nat) (cs : List Blk) (s : Int) : Int := ((cs.filter (inB ns n rc k s)).map fun b => sz ns b.2.1).sum
/-- the dict of the filled regions -/
structure FillOk (ns : List Int) (n : Int) (rc : List (Int × Int)) (k : Nat) (cs : List Blk) (kvs : List (Key × V)) : Prop where
  int : ∀ q ∈ kvs, ∃ s x : Int, q = (Sum.inl s, .int x)
  val : ∀ s, valV kvs (Sum.inl s) = if cs.any (inB ns n rc k s) = true then some (.int (sumS ns n rc k cs s)) else none
  len : kvs.length ≤ cs.length
section
variable {ns : List Int} {n : Int} {rc : List (Int × Int)} {k : Nat} {cs : List Blk} {kvs : List (Key × V)} {b : Blk}
theorem fill_nil : FillOk ns n rc k [] [] := ⟨(fun _ h => nomatch h), (fun _ => rfl), Nat.le_refl _⟩
theorem fill_no (F : FillOk ns n rc k cs kvs) (h : okB ns n rc k b = false) : FillOk ns n rc k (cs ++ [b]) kvs := by
  have e : ∀ s, inB ns n rc k s b = false := fun s => by unfold inB; rw [h]; rfl
  refine ⟨F.int, fun s => ?_, by rw [List.length_append]; exact Nat.le_trans F.len (Nat.le_add_right _ _)⟩
  rw [F.val s, List.any_append]
  unfold sumS
  rw [List.filter_append, List.filter_cons_of_neg (by rw [e s]; exact Bool.false_ne_true), List.filter_nil, List.append_nil]
  simp only [List.any_cons, e s, List.any_nil, Bool.or_false]
theorem putK_mem {kvs : List (Key × V)} {a : Key} {v : V} {q : Key × V} (h : q ∈ putK kvs a v) : q ∈ kvs ∨ q = (a, v) := by
  unfold putK at h
  split at h
  · obtain ⟨r, hr, e⟩ := List.mem_map.mp h
    split at e
    · rename_i e2
      rw [e2] at e
      exact .inr e.symm
    · exact .inl (e ▸ hr)
  · rcases List.mem_append.mp h with z | z
    · exact .inl z
    · exact .inr (List.mem_singleton.mp z)
theorem putK_le {kvs : List (Key × V)} {a : Key} {v : V} : (putK kvs a v).length ≤ kvs.length + 1 := by
  unfold putK
  split
  · rw [List.length_map]
    omega
  · rw [List.length_append]
    exact Nat.le_refl _
theorem fill_yes (F : FillOk ns n rc k cs kvs) (h : okB ns n rc k b = true) : ∃ x : Int, (valV kvs (Sum.inl (stI (sz ns k) b.1))).getD (.int 0) = .int x ∧ FillOk ns n rc k (cs ++ [b]) (putK kvs (Sum.inl (stI (sz ns k) b.1)) (.int (x + sz ns b.2.1))) := by
  have e : ∀ s, inB ns n rc k s b = decide (stI (sz ns k) b.1 = s) := fun s => by unfold inB; rw [h]; rfl
  have ex : (valV kvs (Sum.inl (stI (sz ns k) b.1))).getD (.int 0) = .int (sumS ns n rc k cs (stI (sz ns k) b.1)) := by
    rw [F.val]
    by_cases c : cs.any (inB ns n rc k (stI (sz ns k) b.1)) = true
    · rw [if_pos c]
      rfl
    · rw [if_neg c]
      have z : cs.filter (inB ns n rc k (stI (sz ns k) b.1)) = [] := List.filter_eq_nil_iff.mpr fun y hy hz => c (List.any_eq_true.mpr ⟨y, hy, hz⟩)
      unfold sumS
      rw [z]
      rfl
  refine ⟨_, ex, fun q hq => ?_, fun s => ?_, ?_⟩
  · rcases putK_mem hq with z | z
    · exact F.int q z
    · exact ⟨_, _, z⟩
  · rw [valV_put, List.any_append]
    by_cases c : s = stI (sz ns k) b.1
    · subst c
      have ea : (List.any [b] (inB ns n rc k (stI (sz ns k) b.1))) = true := by simp [e]
      rw [if_pos rfl, ea, Bool.or_true, if_pos rfl]
      unfold sumS
      rw [List.filter_append, List.filter_cons_of_pos (by rw [e]; exact decide_eq_true rfl), List.filter_nil, List.map_append, List.sum_append]
      simp
    · have c' : ¬ stI (sz ns k) b.1 = s := fun z => c z.symm
      have ea : (List.any [b] (inB ns n rc k s)) = false := by simp [e, c']
      rw [if_neg (fun z => c (Sum.inl.inj z)), ea, Bool.or_false, F.val s]
      unfold sumS
      rw [List.filter_append, List.filter_cons_of_neg (by rw [e, decide_eq_false c']; exact Bool.false_ne_true), List.filter_nil, List.append_nil]
  · rw [List.length_append]
    exact Nat.le_trans putK_le (Nat.add_le_add F.len (Nat.le_refl 1))
end
theorem iteT' {b : Bool} {p q : Prop} (e : b = true) (h : p) : if b = true then p else q := by
  rw [if_pos e]
  exact h
theorem iteF' {b : Bool} {p q : Prop} (e : b = false) (h : q) : if b = true then p else q := by
  rw [if_neg (by rw [e]; exact Bool.false_ne_true)]
  exact h
section
variable {P : Program} {w : World} {K : PySem.W.Frag} {mg : Str → Option Value} {base : Heap} {f : Addr} {fd : FuncData}
def spFill (K : PySem.W.Frag) : Sp := fun vs H Q _ => ∃ (p dx zp cl st lo go : Addr) (ns : List Int) (n : Int) (qs : List Addr) (rc : List (Int × Int)) (cs : List Blk) (k : Nat), vs = [.ref p, .int k] ∧ Pn K H p dx zp cl st lo go ns n qs rc cs ∧ k < ns.length ∧
  ∀ D kvs H', H D = none → Same H H' → H' D = some (.dK kvs) → FillOk ns n rc k cs kvs → Q (.ref D) H'
theorem sc_filled_regions : FnScope ["self", "level", "size", "spoiled", "filled", "address", "block_level", "start", "low", "high"] ["self", "level"] (defScope (inClass (top 30) 4)) := ⟨rfl, rfl, rfl, by decide +kernel, rfl, by decide +kernel, by decide +kernel⟩
theorem ok_fill (T : Tx K mg) (M_size : Mf P w K mg base 5 "Sizes" "size" ["self", "level"] (spSize K)) (D_region_start : Df P w K mg base 6 "region_start" ["sizes", "level", "address"] (spStart K))
    (F : FnP K "filled_regions" "Plan.filled_regions" (inClass (top 30) 4) f fd) : FnOk P w K mg base CX0 7 f fd ["self", "level"] (spFill K) := by
  refine F.ok sc_filled_regions (fun vs H Q E h => ?_) (fun cdv A outer s H vs Q E hr h => ⟨_, PSs.nox (pss_cons (ps_set (i := 2) sc_filled_regions.nd rfl (by first | exact Or.inl rfl | exact Or.inr rfl) (pmeth M_size hr (pe_fld (pv 0) rfl) (pa_cons (pv 1) pa_nil))) (pss_cons (ps_setScI (i := 3) (own := [("low", 8), ("high", 9)]) (g := gTup K 2 (gCons (gName 8) (gCons (gName 9) gNil))) rfl sc_filled_regions.nd rfl rfl (sw_trueS rfl rfl rfl (by decide +kernel)) (pi_list (pe_fld (pv 0) rfl)) (blkOk_by (own := [("low", 8), ("high", 9)]) (N := ["self", "level", "size", "spoiled", "filled", "address", "block_level", "start", "low", "high"]) (sc := defScope (inClass (top 30) 4)) (by decide +kernel)) (fun _ _ _ _ _ => pg_tup rfl (pgs_cons (pg_name (i := 8) sc_filled_regions.nd rfl (Or.inl rfl)) (pgs_cons (pg_name (i := 9) sc_filled_regions.nd rfl (Or.inl rfl)) pgs_nil))) (fun _ _ _ _ _ => pts_nil) (fun _ _ _ _ _ => (pcall D_region_start hr (pa_cons (pfldB K (pv 0)) (pa_cons (pv 1) (pa_cons (pv 8) pa_nil)))))) (pss_cons (ps_set (i := 4) sc_filled_regions.nd rfl (by first | exact Or.inl rfl | exact Or.inr rfl) pe_dnewK) (pss_cons (ps_lock (ps_for PassesOwn.never rfl (pi_items (pe_fld (pv 0) rfl)) (pg_tup (by rfl) (pgs_cons (pg_name (i := 5) sc_filled_regions.nd rfl (by first | exact Or.inl rfl | exact Or.inr rfl)) (pgs_cons (pg_name (i := 6) sc_filled_regions.nd rfl (by first | exact Or.inl rfl | exact Or.inr rfl)) pgs_nil))) (pss_cons (ps_set (i := 7) sc_filled_regions.nd rfl (by first | exact Or.inl rfl | exact Or.inr rfl) (pcall D_region_start hr (pa_cons (pe_fld (pv 0) rfl) (pa_cons (pv 1) (pa_cons (pv 5) pa_nil))))) (pss_one (ps_if (PW.pt (pw_and (pt_cmpR op_lt (pv 6) (pv 1) (nomark _)) (pw_and (pt_cmpR or_snotin (pv 7) (pv 3) rfl) (pw_and1 (pt_cmpR op_le (pe_op op_add (pv 7) (pv 2)) (pe_fld (pv 0) rfl) (nomark _)))))) (pss_one (ps_dput (u1 hr) (pv 4) (pv 7) (pe_op op_add (pe_dget2 (u1 hr) (pv 4) (pv 7) pe_int ⟨rfl, rfl, rfl, rfl⟩) (pmeth M_size hr (pe_fld (pv 0) rfl) (pa_cons (pv 6) pa_nil))) rfl)) pss_nil))))) (pss_one (ps_ret (pv 4))))))), ?_⟩)
  · obtain ⟨p, dx, zp, cl, st, lo, go, ns, n, qs, rc, cs, k, rfl, _⟩ := h
    rfl
  · obtain ⟨p, dx, zp, cl, st, lo, go, ns, n, qs, rc, cs, k, rfl, Pp, hk, q⟩ := h
    have sl : sizeLine = 16777216 := sizeLine_eq
    have s1 := (chain Pp.gd).pos _ hk
    have s2 := sz_le Pp.gd hk
    have len := Pp.len
    have ql := Pp.rf.len
    obtain ⟨dz, l, z1, z2⟩ := id Pp.szs
    refine ⟨_, rfl, p, _, dx, _, _, rfl, Pp.at_, T.pl, T.pST, pl_zp, zp, dz, _, rfl, z1, szF_no l (by decide +kernel), _, rfl, zp, ns, k, _, rfl, Pp.szs, sz_at hk, ?_⟩
    refine go_nm (nx_of (σ' := [some (.ref p), some (.int k), some (.int (sz ns k)), none, none, none, none, none, none, none]) rfl ?_)
    refine ⟨_, rfl, p, _, dx, _, _, rfl, Pp.at_, T.pl, T.pCl, pl_cl, cl, rfl, ⟨_, SqL.of Pp.clo⟩, fun D hD => ?_⟩
    refine scI_list (K := K) (a := cl) (xs := qs.map V.ref) (fun i G => ∃ (S : Int → Bool) (m : Nat), G D = some (SetO w D S m) ∧ m ≤ i ∧ (∀ j, S j = true ↔ ∃ r ∈ rc.take i, stI (sz ns k) r.1 = j) ∧ Same H G) ⟨_, 0, upd_same, Nat.le_refl _, fun j => by simp, same_upd hD⟩ (fun i G _ ⟨_, _, _, _, _, sm⟩ => SqL.of (sm _ _ Pp.clo)) ?_ ?_
    · rintro i x G hx ⟨S, m, hS, hm, hj, sm⟩
      obtain ⟨u, hu, rfl⟩ := ref_of hx
      obtain ⟨r, hr, hT⟩ := (Pp.rf.same sm).get hu
      have hT' : G u = some (.tup [.int r.1, .int r.2]) := hT
      have PG := Pp.same sm
      have il := (List.getElem?_eq_some_iff.mp hr).1
      refine ⟨u, _, rfl, .inl (.inl hT'), rfl, _, _, rfl, _, _, rfl, rfl, rfl, ?_⟩
      refine ⟨_, rfl, p, _, dx, _, _, rfl, PG.at_, T.pl, T.pST, pl_zp, _, rfl, _, rfl, zp, ns, k, _, r.1, rfl, PG.szs, sz_at hk, s1, (Pp.rok r (List.mem_of_getElem? hr)).1, ?_⟩
      refine ⟨_, S, m, rfl, hS, ?_, ?_⟩
      · have sb : scanBound = 4096 := rfl
        omega
      · refine ⟨_, _, upd_same, ?_, fun j => ?_, fun c o e => ?_⟩
        · split <;> omega
        · rw [take_at hr, Bool.or_eq_true, decide_eq_true_eq, hj j]
          constructor
          · rintro (⟨r', hr', e⟩ | e)
            · exact ⟨r', List.mem_append_left _ hr', e⟩
            · exact ⟨r, List.mem_append_right _ (List.mem_singleton.mpr rfl), e.symm⟩
          · rintro ⟨r', hr', e⟩
            rcases List.mem_append.mp hr' with z | z
            · exact .inl ⟨r', z, e⟩
            · rw [List.mem_singleton.mp z] at e
              exact .inr e.symm
        · rw [upd_ne (ne_of_none e hD)]
          exact sm c o e
    rintro G1 ⟨S, m, hS, _, hj, sm1⟩
    rw [List.length_map, ql, List.take_length] at hj
    refine go_nm (nx_of (σ' := [some (.ref p), some (.int k), some (.int (sz ns k)), some (.ref D), none, none, none, none, none, none]) rfl ?_)
    refine fun D2 hD2 => ?_
    have sD2 := same_upd (o := .dK []) hD2
    have kD2 : (upd G1 D2 (.dK [])) D2 = some (.dK []) := upd_same
    have nD2 : D2 ≠ st := (ne_of_none (sm1 _ _ Pp.sta) hD2).symm
    have fD2 := sm1.free hD2
    have P2 := (Pp.same sm1).same sD2
    have hS2 := sD2 _ _ hS
    have nDD : D ≠ D2 := ne_of_none hS hD2
    have sm2 := sm1.trans sD2
    generalize upd G1 D2 (.dK []) = G2 at kD2 P2 hS2 sm2
    refine go_nm (nx_of (σ' := [some (.ref p), some (.int k), some (.int (sz ns k)), some (.ref D), some (.ref D2), none, none, none, none, none]) rfl ?_)
    refine ⟨st, _, P2.sta, trivial, fun od => ?_⟩
    -- under the lock
    have kL : ∀ {c : Addr} {o : HO}, (∀ kvs, o ≠ .dK kvs) → G2 c = some o → (upd G2 st (.frz od (.dK (lvK cs)))) c = some o := fun {c o} no e => by
      rw [upd_ne (fun z => by rw [z, P2.sta] at e; exact no _ (Option.some.inj e).symm)]
      exact e
    have at1 := kL (fun _ z => by cases z) P2.at_
    have szs1 : SzAt (He.ga K "Sizes") (upd G2 st (.frz od (.dK (lvK cs)))) zp ns := by
      obtain ⟨dz, l, h1, h2⟩ := P2.szs
      exact ⟨dz, l, kL (fun _ z => by cases z) h1, kL (fun _ z => by cases z) h2⟩
    have hS3 : (upd G2 st (.frz od (.dK (lvK cs)))) D = some (SetO w D S m) := kL (fun _ z => by unfold SetO at z; cases z) hS2
    have kD3 : (upd G2 st (.frz od (.dK (lvK cs)))) D2 = some (.dK []) := by rw [upd_ne nD2]; exact kD2
    have fz : (upd G2 st (.frz od (.dK (lvK cs)))) st = some (.frz od (.dK (lvK cs))) := upd_same
    have kB : ∀ {G : Hp}, (∀ c o, c ≠ D2 → (upd G2 st (.frz od (.dK (lvK cs)))) c = some o → G c = some o) → Same H (upd G st (.dK (lvK cs))) := fun {G} s c o e => by
      by_cases z : c = st
      · rw [z, upd_same]
        rw [z, Pp.sta] at e
        exact e
      · rw [upd_ne z]
        refine s _ _ (ne_of_none e fD2) ?_
        rw [upd_ne z]
        exact sm2 _ _ e
    generalize upd G2 st (.frz od (.dK (lvK cs))) = H1 at at1 szs1 hS3 kD3 fz kB
    refine ⟨_, rfl, p, _, dx, _, _, rfl, at1, T.pl, T.pSt, pl_st, st, od, _, rfl, fz, ?_⟩
    have npD : p ≠ D2 := fun z => by
      rw [z, kD3] at at1
      cases at1
    have cl' : (lvK cs).length = cs.length := List.length_map _
    refine for_it (walk_items (kvs := lvK cs)) (fun i σ G => (∃ x5 x6 x7, σ = [some (.ref p), some (.int k), some (.int (sz ns k)), some (.ref D), some (.ref D2), x5, x6, x7, none, none]) ∧ (∀ c o, c ≠ D2 → H1 c = some o → G c = some o) ∧ ∃ kvs, G D2 = some (.dK kvs) ∧ FillOk ns n rc k (cs.take i) kvs)
      ⟨⟨none, none, none, rfl⟩, fun _ _ _ e => e, [], kD3, fill_nil⟩ (fun i σ G _ h => h.2.1 _ _ nD2.symm fz) ?_ ?_
    · rintro i x σ GA GB hi ⟨⟨x5, x6, x7, rfl⟩, kA, kvs, hK, Fk⟩ ⟨T', y1, y2, rfl, hT, rfl, e1, e2⟩
      have hi2 : i < cs.length := by omega
      obtain ⟨b, hb⟩ : ∃ b, cs[i]? = some b := ⟨_, List.getElem?_eq_getElem hi2⟩
      have ek : (lvK cs)[i]? = some (Sum.inl b.1, V.int (b.2.1 : Nat)) := by
        unfold lvK
        rw [List.getElem?_map, hb]
        rfl
      have e1' : (lvK cs)[i]?.map (fun kv => kV kv.1) = some y1 := e1
      have e2' : (lvK cs)[i]?.map Prod.snd = some y2 := e2
      rw [ek] at e1' e2'
      cases e1'
      cases e2'
      obtain ⟨bk, b0⟩ := Pp.cok b (List.mem_of_getElem? hb)
      refine ⟨T', _, rfl, .inl (.inl upd_same), rfl, _, _, rfl, _, _, rfl, rfl, ?_⟩
      have sT := same_upd (o := .tup [.int b.1, .int (b.2.1 : Nat)]) hT
      have hK2 : (upd GA T' (.tup [.int b.1, .int (b.2.1 : Nat)])) D2 = some (.dK kvs) := sT _ _ hK
      have kA2 : ∀ c o, c ≠ D2 → H1 c = some o → (upd GA T' (.tup [.int b.1, .int (b.2.1 : Nat)])) c = some o := fun c o nc e => sT _ _ (kA c o nc e)
      show tSeq _ _ _ _ (upd GA T' (.tup [.int b.1, .int (b.2.1 : Nat)]))
      refine at_st (σ' := [some (.ref p), some (.int k), some (.int (sz ns k)), some (.ref D), some (.ref D2), some (.int b.1), some (.int (b.2.1 : Nat)), x7, none, none]) rfl ?_
      generalize upd GA T' (.tup [.int b.1, .int (b.2.1 : Nat)]) = G at *
      have atG := kA2 _ _ npD at1
      have szG : SzAt (He.ga K "Sizes") G zp ns := by
        obtain ⟨dz, l, h1, h2⟩ := szs1
        exact ⟨dz, l, kA2 _ _ (fun z => by rw [z, kD3] at h1; cases h1) h1, kA2 _ _ (fun z => by rw [z, kD3] at h2; cases h2) h2⟩
      obtain ⟨dz', l', z1', z2'⟩ := id szG
      refine ⟨_, rfl, p, _, dx, _, _, rfl, atG, T.pl, T.pST, pl_zp, _, rfl, _, rfl, zp, ns, k, _, b.1, rfl, szG, sz_at hk, s1, b0, ?_⟩
      refine go_nm (nx_of (σ' := [some (.ref p), some (.int k), some (.int (sz ns k)), some (.ref D), some (.ref D2), some (.int b.1), some (.int (b.2.1 : Nat)), some (.int (stI (sz ns k) b.1)), none, none]) rfl ?_)
      have no : okB ns n rc k b = false → (fun (i : Nat) (σ : L2.St) (G : Hp) => (∃ x5 x6 x7, σ = [some (.ref p), some (.int k), some (.int (sz ns k)), some (.ref D), some (.ref D2), x5, x6, x7, none, none]) ∧ (∀ c o, c ≠ D2 → H1 c = some o → G c = some o) ∧ ∃ kvs, G D2 = some (.dK kvs) ∧ FillOk ns n rc k (cs.take i) kvs) (i + 1) [some (.ref p), some (.int k), some (.int (sz ns k)), some (.ref D), some (.ref D2), some (.int b.1), some (.int (b.2.1 : Nat)), some (.int (stI (sz ns k) b.1)), none, none] G := fun e =>
        ⟨⟨_, _, _, rfl⟩, kA2, kvs, hK2, by rw [take_at hb]; exact fill_no Fk e⟩
      refine ⟨_, rfl, _, rfl, _, _, rfl, rfl, _, rfl, ?_⟩
      by_cases c1 : b.2.1 < k
      case neg => exact iteF' (decide_eq_false (by omega)) (no (by unfold okB; rw [decide_eq_false c1]; rfl))
      refine iteT' (decide_eq_true (by omega)) ?_
      refine ⟨_, rfl, _, rfl, _, D, S, m, rfl, rfl, kA2 _ _ nDD hS3, _, rfl, ?_⟩
      by_cases c2 : S (stI (sz ns k) b.1) = true
      · refine iteF' (by rw [c2]; rfl) (no ?_)
        obtain ⟨r, hr, er⟩ := (hj _).mp c2
        have : (rc.all fun r => !decide (stI (sz ns k) r.1 = stI (sz ns k) b.1)) = false := by
          refine Bool.eq_false_iff.mpr fun z => ?_
          have := List.all_eq_true.mp z r hr
          rw [decide_eq_true er] at this
          cases this
        unfold okB
        rw [this]
        simp
      · have c2' : S (stI (sz ns k) b.1) = false := by simpa using c2
        refine iteT' (by rw [c2']; rfl) ?_
        refine ⟨_, rfl, _, rfl, _, _, rfl, rfl, _, rfl, p, _, dx, _, _, rfl, atG, T.pl, T.pCC, pl_cc, _, _, rfl, rfl, _, rfl, ?_⟩
        by_cases c3 : stI (sz ns k) b.1 + sz ns k ≤ n
        case neg => exact iteF' (decide_eq_false c3) (no (by unfold okB; rw [decide_eq_false c3, Bool.and_false, Bool.and_false]))
        have yes : okB ns n rc k b = true := by
          have : (rc.all fun r => !decide (stI (sz ns k) r.1 = stI (sz ns k) b.1)) = true := by
            refine List.all_eq_true.mpr fun r hr => ?_
            rw [decide_eq_false (fun z => c2 ((hj _).mpr ⟨r, hr, z⟩))]
            rfl
          unfold okB
          rw [this, decide_eq_true c1, decide_eq_true c3]
          rfl
        refine iteT' (decide_eq_true c3) ?_
        obtain ⟨x0, ex0, F2⟩ := fill_yes Fk yes
        refine ⟨_, rfl, D2, rfl, .inl ⟨_, .inl hK2⟩, _, rfl, _, DGet.k (k := Sum.inl (stI (sz ns k) b.1)) hK2, ?_⟩
        rw [ex0]
        refine ⟨_, rfl, p, _, dx, _, _, rfl, atG, T.pl, T.pST, pl_zp, zp, dz', _, rfl, z1', szF_no l' (by decide +kernel), _, rfl, zp, ns, b.2.1, _, rfl, szG, sz_at bk, _, _, rfl, rfl, ?_⟩
        refine ⟨_, rfl, _, rfl, D2, _, rfl, DPut.k (k := Sum.inl (stI (sz ns k) b.1)) hK2 ?_, ?_⟩
        · have := Fk.len
          rw [List.length_take] at this
          omega
        · refine ⟨⟨_, _, _, rfl⟩, fun c o nc e => ?_, _, upd_same, by rw [take_at hb]; exact F2⟩
          rw [upd_ne nc]
          exact kA2 c o nc e
    · rintro σ G ⟨⟨x5, x6, x7, rfl⟩, kA, kvs, hK, Fk⟩
      rw [cl', List.take_length] at Fk
      refine ⟨kA _ _ nD2.symm fz, ?_⟩
      refine ⟨_, rfl, q D2 kvs _ fD2 (kB kA) (by rw [upd_ne nD2]; exact hK) Fk⟩
end
end K35

set_option Elab.async false
set_option linter.all false
set_option maxRecDepth 100000
set_option maxHeartbeats 3200000
set_option pp.maxSteps 900
namespace K35
open PySem PySem.Spec PyProof.Rows L2 Gu Ex
theorem u64 {k : Nat} {A : Around} (h : Room k A) : A.units + 64 < cLine := by
  have := u65 h
  omega
/-- the cheapest region and its cells in blocks, as the plan finds it -/
def ChP (ns : List Int) (n : Int) (rc : List (Int × Int)) (cs : List Blk) (k : Nat) (o : Option (Int × Int)) : Prop :=
  (∃ a, lowF ns k (pgI ns n rc cs) = some a ∧ o = some (a, 0)) ∨
  (lowF ns k (pgI ns n rc cs) = none ∧ ((o = none ∧ ∀ b ∈ cs, okB ns n rc k b = false) ∨
    ∃ b ∈ cs, okB ns n rc k b = true ∧ o = some (stI (sz ns k) b.1, sumS ns n rc k cs (stI (sz ns k) b.1)) ∧ ∀ c ∈ cs, okB ns n rc k c = true → leP (sumS ns n rc k cs (stI (sz ns k) b.1), stI (sz ns k) b.1) (sumS ns n rc k cs (stI (sz ns k) c.1), stI (sz ns k) c.1)))
def ChV (H : Hp) (v : V) : Option (Int × Int) → Prop
  | none => v = .non
  | some m => ∃ t, v = .ref t ∧ H t = some (.tup [.int m.1, .int m.2])
theorem ChV.same {H H' : Hp} {v : V} {o : Option (Int × Int)} (h : ChV H v o) (s : Same H H') : ChV H' v o := by
  cases o with
  | none => exact h
  | some m =>
    obtain ⟨t, e, ht⟩ := h
    exact ⟨t, e, s _ _ ht⟩
theorem fill_key {ns : List Int} {n : Int} {rc : List (Int × Int)} {k : Nat} {cs : List Blk} {kvs : List (Key × V)} (F : FillOk ns n rc k cs kvs) {q : Key × V} (h : q ∈ kvs) : ∃ b ∈ cs, okB ns n rc k b = true ∧ q.1 = Sum.inl (stI (sz ns k) b.1) ∧ valV kvs q.1 = some (.int (sumS ns n rc k cs (stI (sz ns k) b.1))) := by
  obtain ⟨s, x, rfl⟩ := F.int q h
  have v := F.val s
  by_cases c : cs.any (inB ns n rc k s) = true
  · rw [if_pos c] at v
    obtain ⟨b, hb, e⟩ := List.any_eq_true.mp c
    unfold inB at e
    rw [Bool.and_eq_true, decide_eq_true_eq] at e
    refine ⟨b, hb, e.1, by rw [e.2], ?_⟩
    rw [e.2]
    exact v
  · rw [if_neg c] at v
    exact absurd (List.mem_map.mpr ⟨_, h, rfl⟩) (valV_not v)
theorem fill_has {ns : List Int} {n : Int} {rc : List (Int × Int)} {k : Nat} {cs : List Blk} {kvs : List (Key × V)} (F : FillOk ns n rc k cs kvs) {b : Blk} (h : b ∈ cs) (o : okB ns n rc k b = true) : ∃ q ∈ kvs, q.1 = Sum.inl (stI (sz ns k) b.1) := by
  have v := F.val (stI (sz ns k) b.1)
  have c : cs.any (inB ns n rc k (stI (sz ns k) b.1)) = true := List.any_eq_true.mpr ⟨b, h, by unfold inB; rw [o]; simp⟩
  rw [if_pos c] at v
  obtain ⟨q, hq, e⟩ := List.mem_map.mp (valV_in v)
  exact ⟨q, hq, e⟩
section
variable {P : Program} {w : World} {K : PySem.W.Frag} {mg : Str → Option Value} {base : Heap} {f : Addr} {fd : FuncData}
def spCheap (K : PySem.W.Frag) : Sp := fun vs H Q _ => ∃ (p dx zp cl st lo go : Addr) (ns : List Int) (n : Int) (qs : List Addr) (rc : List (Int × Int)) (cs : List Blk) (k : Nat), vs = [.ref p, .int k] ∧ Pn K H p dx zp cl st lo go ns n qs rc cs ∧ k < ns.length ∧
  ∀ o v H', ChP ns n rc cs k o → ChV H' v o → Same H H' → Q v H'
theorem sc_cheapest : FnScope ["self", "level", "address", "filled", "cells", "start"] ["self", "level"] (defScope (inClass (top 30) 5)) := ⟨rfl, rfl, rfl, by decide +kernel, rfl, by decide +kernel, by decide +kernel⟩
theorem ok_cheap (T : Tx K mg) (M_lowest_free : Mf P w K mg base 8 "Plan" "lowest_free" ["self", "level"] (spLow K)) (M_filled_regions : Mf P w K mg base 7 "Plan" "filled_regions" ["self", "level"] (spFill K))
    (F : FnP K "cheapest" "Plan.cheapest" (inClass (top 30) 5) f fd) : FnOk P w K mg base CX0 9 f fd ["self", "level"] (spCheap K) := by
  refine F.ok sc_cheapest (fun vs H Q E h => ?_) (fun cdv A outer s H vs Q E hr h => ⟨_, PSs.nox (pss_cons (ps_set (i := 2) sc_cheapest.nd rfl (by first | exact Or.inl rfl | exact Or.inr rfl) (pmeth M_lowest_free hr (pv 0) (pa_cons (pv 1) pa_nil))) (pss_cons (ps_if (pt_cmpR op_notN (pv 2) pe_non (nomark _)) (pss_one (ps_ret (pe_tup (pa_cons (pv 2) (pa_cons pe_int pa_nil))))) pss_nil) (pss_cons (ps_set (i := 3) sc_cheapest.nd rfl (by first | exact Or.inl rfl | exact Or.inr rfl) (pmeth M_filled_regions hr (pv 0) (pa_cons (pv 1) pa_nil))) (pss_cons (ps_if (pt_not (pt_truth (pv 3) (fun _ => rfl))) (pss_one (ps_ret pe_non)) pss_nil) (pss_cons (ps_asg (pe_callB (cr_minP rfl (u64 hr)) (by rfl) T.n_min (by decide +kernel) (pa_cons (pe_lock (pe_lc (own := [("start", 5)]) (g := gName 5) rfl sc_cheapest.nd (pi_keys (pv 3)) (blkOk_by (own := [("start", 5)]) (N := ["self", "level", "address", "filled", "cells", "start"]) (sc := defScope (inClass (top 30) 5)) (by decide +kernel)) (fun _ _ _ _ _ => pg_name (i := 5) sc_cheapest.nd rfl (Or.inl rfl)) (fun _ _ _ _ _ => pts_nil) (fun _ _ _ _ _ => (pe_tup (pa_cons (pe_dget (u1 hr) (pv 3) (pv 5) (fun _ _ => rfl)) (pa_cons (pv 5) pa_nil)))))) pa_nil)) (pg_tup (by rfl) (pgs_cons (pg_name (i := 4) sc_cheapest.nd rfl (by first | exact Or.inl rfl | exact Or.inr rfl)) (pgs_cons (pg_name (i := 2) sc_cheapest.nd rfl (by first | exact Or.inl rfl | exact Or.inr rfl)) pgs_nil)))) (pss_one (ps_ret (pe_tup (pa_cons (pv 2) (pa_cons (pv 4) pa_nil)))))))))), ?_⟩)
  · obtain ⟨p, dx, zp, cl, st, lo, go, ns, n, qs, rc, cs, k, rfl, _⟩ := h
    rfl
  · obtain ⟨p, dx, zp, cl, st, lo, go, ns, n, qs, rc, cs, k, rfl, Pp, hk, q⟩ := h
    have sl : sizeLine = 16777216 := sizeLine_eq
    have two : 2 ≤ sizeLine := by decide
    have len := Pp.len
    refine ⟨_, rfl, p, dx, _, rfl, Pp.at_, pl_no (by decide +kernel), _, rfl, p, dx, zp, cl, st, lo, go, ns, n, qs, rc, cs, k, rfl, Pp, hk, fun H1 s1 => ?_⟩
    refine go_nm (nx_of (σ' := [some (.ref p), some (.int k), some (optV (lowF ns k (pgI ns n rc cs))), none, none, none]) rfl ?_)
    cases el : lowF ns k (pgI ns n rc cs) with
    | some a =>
      refine ⟨_, rfl, rfl, _, rfl, iteT' rfl ?_⟩
      exact ⟨_, rfl, two, fun t ht => q (some (a, 0)) _ _ (.inl ⟨a, el, rfl⟩) ⟨t, rfl, upd_same⟩ (s1.trans (same_upd ht))⟩
    | none =>
      refine ⟨_, rfl, rfl, _, rfl, iteF' rfl ?_⟩
      have P1 := Pp.same s1
      refine ⟨_, rfl, p, dx, _, rfl, P1.at_, pl_no (by decide +kernel), _, rfl, p, dx, zp, cl, st, lo, go, ns, n, qs, rc, cs, k, rfl, P1, hk, fun D kvs H2 hD0 s2 hD F => ?_⟩
      refine go_nm (nx_of (σ' := [some (.ref p), some (.int k), some .non, some (.ref D), none, none]) rfl ?_)
      refine ⟨_, rfl, _, .inr (.inr ⟨kvs, hD, rfl⟩), ?_⟩
      have s12 := s1.trans s2
      cases hz : kvs.isEmpty with
      | true =>
        refine iteT' rfl (q none _ _ (.inr ⟨el, .inl ⟨rfl, fun b hb => ?_⟩⟩) rfl s12)
        cases e : okB ns n rc k b with
        | false => rfl
        | true =>
          obtain ⟨y, hy, _⟩ := fill_has F hb e
          rw [List.isEmpty_iff.mp hz] at hy
          cases hy
      | false =>
        refine iteF' rfl ?_
        show tSeq _ _ _ _ _
        have ne : kvs ≠ [] := fun z => by
          rw [z] at hz
          cases hz
        refine ⟨D, _, hD, trivial, fun od => ?_⟩
        have fz : (upd H2 D (.frz od (.dK kvs))) D = some (.frz od (.dK kvs)) := upd_same
        have kB : ∀ {G : Hp}, Same (upd H2 D (.frz od (.dK kvs))) G → Same H2 (upd G D (.dK kvs)) := fun {G} s c o e => by
          by_cases z : c = D
          · rw [z, upd_same]
            rw [z, hD] at e
            exact e
          · rw [upd_ne z]
            refine s _ _ ?_
            rw [upd_ne z]
            exact e
        generalize upd H2 D (.frz od (.dK kvs)) = H3 at fz kB
        refine ⟨_, rfl, D, od, rfl, .inl ⟨kvs, fz, fun J hJ => ?_⟩⟩
        let rw' : Key × V → Int × Int := fun y => match y.1 with
          | .inl s => (sumS ns n rc k cs s, s)
          | .inr _ => (0, 0)
        refine lc_it (walk_keys (kvs := kvs)) (fun i G => ∃ us : List Addr, G J = some (.lst (us.map V.ref)) ∧ Refs prV G us ((kvs.take i).map rw') ∧ Same H3 G) ⟨[], upd_same, .nil, same_upd hJ⟩ (fun i G _ ⟨_, _, _, sm⟩ => sm _ _ fz) ?_ ?_
        · rintro i x GA GB hi ⟨us, hG, rr, sm⟩ ⟨rfl, kk, vv, hkv, rfl⟩
          obtain ⟨b, hb, hok, hkey, hval⟩ := fill_key F (List.mem_of_getElem? hkv)
          have hkey' : kk = Sum.inl (stI (sz ns k) b.1) := hkey
          subst hkey'
          have hval' : valV kvs (Sum.inl (stI (sz ns k) b.1)) = some (.int (sumS ns n rc k cs (stI (sz ns k) b.1))) := hval
          have rl := rr.len
          rw [List.length_map, List.length_take] at rl
          have fl := F.len
          refine ⟨rfl, _, rfl, _, rfl, D, _, rfl, (by rw [← hval']; exact .inl ⟨kvs, Sum.inl (stI (sz ns k) b.1), .inr ⟨od, sm _ _ fz⟩, rfl, rfl⟩), _, rfl, two, fun u hu => ?_⟩
          have nJ : J ≠ u := ne_of_none hG hu
          refine ⟨_, (by rw [upd_ne nJ]; exact hG), (by rw [List.length_map]; omega), us ++ [u], ?_, ?_, fun c o e => ?_⟩
          · rw [upd_same, List.map_append]
            rfl
          · rw [take_at hkv, List.map_append]
            exact Refs.more (u := (sumS ns n rc k cs (stI (sz ns k) b.1), stI (sz ns k) b.1)) rr hG hu
          · rw [upd_ne (ne_of_none e hJ), upd_ne (ne_of_none (sm c o e) hu)]
            exact sm c o e
        rintro G ⟨us, hG, rr, sm⟩
        rw [List.take_length] at rr
        refine ⟨sm _ _ fz, ?_⟩
        have nJD : J ≠ D := (ne_of_none fz hJ).symm
        have sB := kB sm
        have hGB : (upd G D (.dK kvs)) J = some (.lst (us.map V.ref)) := by rw [upd_ne nJD]; exact hG
        have rrB : Refs prV (upd G D (.dK kvs)) us (kvs.map rw') := rr.mono fun c xs e => by
          rw [upd_ne (fun z => by rw [z, sm _ _ fz] at e; cases e)]
          exact e
        generalize upd G D (.dK kvs) = G2 at sB hGB rrB
        refine ⟨J, us, _, rfl, SqL.of hGB, rrB, fun z => ne (List.map_eq_nil_iff.mp z), fun t m hm ht hle => ?_⟩
        refine ⟨t, _, rfl, .inl (.inl ht), rfl, _, _, rfl, _, _, rfl, rfl, ?_⟩
        refine ⟨_, rfl, _, rfl, two, fun v hv => ?_⟩
        obtain ⟨y, hy, ey⟩ := List.mem_map.mp hm
        obtain ⟨b, hb, hok, hkey, hval⟩ := fill_key F hy
        have em : m = (sumS ns n rc k cs (stI (sz ns k) b.1), stI (sz ns k) b.1) := by
          rw [← ey]
          show (match y.1 with
            | .inl s => (sumS ns n rc k cs s, s)
            | .inr _ => (0, 0)) = _
          rw [hkey]
        refine q (some (m.2, m.1)) _ _ (.inr ⟨el, .inr ⟨b, hb, hok, by rw [em], fun c hc oc => ?_⟩⟩) ⟨v, rfl, upd_same⟩ ((s12.trans sB).trans (same_upd hv))
        rw [← em]
        obtain ⟨y2, hy2, ek2⟩ := fill_has F hc oc
        have := hle _ (List.mem_map.mpr ⟨y2, hy2, rfl⟩)
        have e3 : rw' y2 = (sumS ns n rc k cs (stI (sz ns k) c.1), stI (sz ns k) c.1) := by
          show (match y2.1 with
            | .inl s => (sumS ns n rc k cs s, s)
            | .inr _ => (0, 0)) = _
          rw [ek2]
        rw [e3] at this
        exact this
def spCR (K : PySem.W.Frag) : Sp := fun vs H Q _ => ∃ (y zp bl dx : Addr) (ps : List Addr) (ns : List Int) (n : Int) (bs : List Blk) (k : Nat), vs = [.ref y, .int k] ∧ Ly K H y zp bl dx ps ns n bs ∧ bs.length ≤ 900 ∧ k < ns.length ∧
  ∀ o v H', ChP ns n (pinR ns bs) (unpB bs) k o → ChV H' v o → Same H H' → Q v H'
theorem sc_cheapest_region : FnScope ["layout", "level"] ["layout", "level"] (defScope (top 39)) := ⟨rfl, rfl, rfl, by decide +kernel, rfl, by decide +kernel, by decide +kernel⟩
theorem ok_cr (T : Tx K mg) (D_Plan : Kf P w K mg base 8 "Plan" ["self", "layout"] (spPlan K)) (M_cheapest : Mf P w K mg base 9 "Plan" "cheapest" ["self", "level"] (spCheap K))
    (F : FnP K "cheapest_region" "cheapest_region" (top 39) f fd) : FnOk P w K mg base CX0 10 f fd ["layout", "level"] (spCR K) := by
  refine F.ok sc_cheapest_region (fun vs H Q E h => ?_) (fun cdv A outer s H vs Q E hr h => ⟨_, PSs.nox (pss_one (ps_ret (pmeth M_cheapest hr (pmake D_Plan hr (pa_cons (pv 0) pa_nil)) (pa_cons (pv 1) pa_nil)))), ?_⟩)
  · obtain ⟨y, zp, bl, dx, ps, ns, n, bs, k, rfl, _⟩ := h
    rfl
  · obtain ⟨y, zp, bl, dx, ps, ns, n, bs, k, rfl, L, b9, hk, q⟩ := h
    refine ⟨_, rfl, fun x dp hx hdp ndx => ?_⟩
    have sm : Same H (upd (upd H dp (.own x)) x (.ins (He.ga K "Plan") dp [])) := fun c o e => by
      rw [upd_ne (ne_of_none e hx), upd_ne (ne_of_none e hdp)]
      exact e
    have L2 := L.same sm
    refine ⟨x, dp, y, zp, bl, dx, ps, ns, n, bs, rfl, upd_same, L2, b9, fun cl st lo go qs H' h1 h2 h3 h4 keep Pp => ⟨rfl, x, dp, _, rfl, Pp.at_, pl_no (by decide +kernel), _, rfl, x, dp, zp, cl, st, lo, go, ns, n, qs, _, _, k, rfl, Pp, hk, fun o v H2 hc hv s2 => q o v H2 hc hv fun c o e => ?_⟩⟩
    exact s2 _ _ (keep c o (ne_of_none e hx) (sm c o e))
end
end K35

set_option Elab.async false
set_option linter.all false
set_option maxRecDepth 100000
set_option maxHeartbeats 1600000
/-! Mathematics: the cheapest region among all regions. -/
namespace K35
open PySem PySem.Spec PyProof.Rows L2 Gu Ex
/-- the block meets the range -/
def ovR (ns : List Int) (s e : Int) (b : Blk) : Bool := decide (b.1 < e) && decide (s < b.1 + sz ns b.2.1)
def metR (ns : List Int) (bs : List Blk) (k : Nat) (s : Int) : List Blk := bs.filter (ovR ns s (s + sz ns k))
/-- the cells of blocks in a region, if only lower unpinned blocks meet it -/
def cellsI (ns : List Int) (bs : List Blk) (k : Nat) (s : Int) : Option Int :=
  if (metR ns bs k s).any (fun b => b.2.2 || decide (k ≤ b.2.1)) = true then none else some ((metR ns bs k s).map fun b => sz ns b.2.1).sum
/-- a region of the level -/
def VR (ns : List Int) (n : Int) (k : Nat) (s : Int) : Prop := sz ns k ∣ s ∧ 0 ≤ s ∧ s + sz ns k ≤ n
/-- the lowest of the regions with the fewest cells in blocks -/
def DueP (ns : List Int) (n : Int) (bs : List Blk) (k : Nat) (o : Option (Int × Int)) : Prop :=
  (o = none ∧ ∀ s, VR ns n k s → cellsI ns bs k s = none) ∨ ∃ s x, o = some (s, x) ∧ VR ns n k s ∧ cellsI ns bs k s = some x ∧ ∀ s' x', VR ns n k s' → cellsI ns bs k s' = some x' → leP (x, s) (x', s')
theorem DueP.uniq {ns : List Int} {n : Int} {bs : List Blk} {k : Nat} {o o' : Option (Int × Int)} (h : DueP ns n bs k o) (h' : DueP ns n bs k o') : o = o' := by
  rcases h with ⟨rfl, h⟩ | ⟨s, x, rfl, v, c, m⟩
  · rcases h' with ⟨rfl, _⟩ | ⟨s', x', rfl, v', c', _⟩
    · rfl
    · rw [h s' v'] at c'
      cases c'
  · rcases h' with ⟨rfl, h'⟩ | ⟨s', x', rfl, v', c', m'⟩
    · rw [h' s v] at c
      cases c
    · have e := leP_antisymm (m s' x' v' c') (m' s x v c)
      cases e
      rfl
section
variable {ns : List Int} {n : Int} {bs : List Blk} {k : Nat}
/-! ### gaps -/
theorem gaps_free : ∀ {bs : List Blk} {low : Int}, bs.Pairwise (fun b c => bEnd ns b ≤ c.1) → (∀ b ∈ bs, low ≤ b.1 ∧ b.1 < bEnd ns b ∧ bEnd ns b ≤ n) → ∀ g ∈ gapsI n low (bs.map (rngB ns)), low ≤ g.1 ∧ g.1 < g.2 ∧ g.2 ≤ n ∧ ∀ b ∈ bs, bEnd ns b ≤ g.1 ∨ g.2 ≤ b.1
  | [], low, _, _, g, hg => by
    have hg2 : g ∈ (if low < n then [(low, n)] else []) := hg
    split at hg2
    · rw [List.mem_singleton.mp hg2]
      exact ⟨Int.le_refl _, by assumption, Int.le_refl _, fun _ h => nomatch h⟩
    · cases hg2
  | b :: bs, low, so, ok, g, hg => by
    have ob := ok b List.mem_cons_self
    have pc := List.pairwise_cons.mp so
    rcases List.mem_append.mp (show g ∈ (if low < b.1 then [(low, b.1)] else []) ++ gapsI n (bEnd ns b) (bs.map (rngB ns)) from hg) with z | z
    · split at z
      · rw [List.mem_singleton.mp z]
        refine ⟨Int.le_refl _, by assumption, by show b.1 ≤ n; omega, fun c hc => ?_⟩
        rcases List.mem_cons.mp hc with rfl | hc
        · exact .inr (Int.le_refl _)
        · have := pc.1 c hc
          exact .inr (by show b.1 ≤ c.1; omega)
      · cases z
    · obtain ⟨h1, h2, h3, h4⟩ := gaps_free pc.2 (fun c hc => ⟨pc.1 c hc, (ok c (List.mem_cons_of_mem _ hc)).2⟩) g z
      refine ⟨by omega, h2, h3, fun c hc => ?_⟩
      rcases List.mem_cons.mp hc with rfl | hc
      · exact .inl h1
      · exact h4 c hc
theorem gaps_asc : ∀ {bs : List Blk} {low : Int}, bs.Pairwise (fun b c => bEnd ns b ≤ c.1) → (∀ b ∈ bs, low ≤ b.1 ∧ b.1 < bEnd ns b ∧ bEnd ns b ≤ n) → (gapsI n low (bs.map (rngB ns))).Pairwise fun g h => g.2 ≤ h.1
  | [], low, _, _ => by
    show (if low < n then [(low, n)] else []).Pairwise _
    split
    · exact List.pairwise_singleton _ _
    · exact .nil
  | b :: bs, low, so, ok => by
    have ob := ok b List.mem_cons_self
    have pc := List.pairwise_cons.mp so
    have ok2 : ∀ c ∈ bs, bEnd ns b ≤ c.1 ∧ c.1 < bEnd ns c ∧ bEnd ns c ≤ n := fun c hc => ⟨pc.1 c hc, (ok c (List.mem_cons_of_mem _ hc)).2⟩
    have ih := gaps_asc pc.2 ok2
    show ((if low < b.1 then [(low, b.1)] else []) ++ gapsI n (bEnd ns b) (bs.map (rngB ns))).Pairwise _
    refine List.pairwise_append.mpr ⟨?_, ih, fun g hg h hh => ?_⟩
    · split
      · exact List.pairwise_singleton _ _
      · exact .nil
    · split at hg
      · rw [List.mem_singleton.mp hg]
        have := (gaps_free pc.2 ok2 h hh).1
        show b.1 ≤ h.1
        omega
      · cases hg
theorem gaps_cover : ∀ {bs : List Blk} {low s z : Int}, bs.Pairwise (fun b c => bEnd ns b ≤ c.1) → (∀ b ∈ bs, low ≤ b.1 ∧ b.1 < bEnd ns b ∧ bEnd ns b ≤ n) → low ≤ s → 0 < z → s + z ≤ n → (∀ b ∈ bs, bEnd ns b ≤ s ∨ s + z ≤ b.1) → ∃ g ∈ gapsI n low (bs.map (rngB ns)), g.1 ≤ s ∧ s + z ≤ g.2
  | [], low, s, z, _, _, ls, z0, le, _ => by
    refine ⟨(low, n), ?_, ls, le⟩
    show (low, n) ∈ (if low < n then [(low, n)] else [])
    rw [if_pos (by omega)]
    exact List.mem_singleton.mpr rfl
  | b :: bs, low, s, z, so, ok, ls, z0, le, fr => by
    have ob := ok b List.mem_cons_self
    have pc := List.pairwise_cons.mp so
    rcases fr b List.mem_cons_self with h | h
    · obtain ⟨g, hg, h1, h2⟩ := gaps_cover pc.2 (fun c hc => ⟨pc.1 c hc, (ok c (List.mem_cons_of_mem _ hc)).2⟩) h z0 le fun c hc => fr c (List.mem_cons_of_mem _ hc)
      exact ⟨g, List.mem_append_right _ hg, h1, h2⟩
    · refine ⟨(low, b.1), List.mem_append_left _ ?_, ls, h⟩
      rw [if_pos (show low < b.1 by omega)]
      exact List.mem_singleton.mpr rfl
theorem cnt_iff {z a b : Int} (hz : 1 ≤ z) : 0 < cntI z a b ↔ M16.nx z a + z ≤ b := by
  rw [← M16.cnt_pos hz]
  unfold cntI
  show 0 < (if ((b - b % z) - M16.nx z a) / z > 0 then ((b - b % z) - M16.nx z a) / z else 0) ↔ _
  split <;> omega
theorem low_some : ∀ {gs : List (Int × Int)} {a : Int}, 1 ≤ sz ns k → gs.Pairwise (fun g h => g.2 ≤ h.1) → lowF ns k gs = some a → ∃ g ∈ gs, a = M16.nx (sz ns k) g.1 ∧ a + sz ns k ≤ g.2 ∧ ∀ h ∈ gs, M16.nx (sz ns k) h.1 + sz ns k ≤ h.2 → a ≤ M16.nx (sz ns k) h.1
  | [], a, _, _, h => nomatch h
  | g :: gs, a, z1, so, h => by
    have pc := List.pairwise_cons.mp so
    have h' : (if 0 < cntI (sz ns k) g.1 g.2 then some (nextI (sz ns k) g.1) else lowF ns k gs) = some a := h
    by_cases c : 0 < cntI (sz ns k) g.1 g.2
    · rw [if_pos c] at h'
      have e : M16.nx (sz ns k) g.1 = a := Option.some.inj h'
      have c2 := (cnt_iff z1).mp c
      refine ⟨g, List.mem_cons_self, e.symm, by omega, fun x hx _ => ?_⟩
      rcases List.mem_cons.mp hx with rfl | hx
      · omega
      · have := pc.1 x hx
        have := M16.nx_ge x.1 z1
        omega
    · rw [if_neg c] at h'
      obtain ⟨y, hy, e1, e2, e3⟩ := low_some z1 pc.2 h'
      refine ⟨y, List.mem_cons_of_mem _ hy, e1, e2, fun x hx cx => ?_⟩
      rcases List.mem_cons.mp hx with rfl | hx
      · exact absurd ((cnt_iff z1).mpr cx) c
      · exact e3 x hx cx
theorem low_none : ∀ {gs : List (Int × Int)}, 1 ≤ sz ns k → lowF ns k gs = none → ∀ h ∈ gs, ¬ M16.nx (sz ns k) h.1 + sz ns k ≤ h.2
  | g :: gs, z1, h, x, hx => by
    have h' : (if 0 < cntI (sz ns k) g.1 g.2 then some (nextI (sz ns k) g.1) else lowF ns k gs) = none := h
    by_cases c : 0 < cntI (sz ns k) g.1 g.2
    · rw [if_pos c] at h'
      cases h'
    · rw [if_neg c] at h'
      rcases List.mem_cons.mp hx with rfl | hx
      · exact fun z => c ((cnt_iff z1).mpr z)
      · exact low_none z1 h' x hx
/-- the plan of a layout: its gaps are the layout's -/
theorem pg_is (w : Wf ns n bs) (g : Good ns) : pgI ns n (pinR ns bs) (unpB bs) = gapsI n 0 (bs.map (rngB ns)) := by
  unfold pgI
  congr 1
  refine (srt_eq ?_ ?_).symm
  · refine List.pairwise_map.mpr (List.Pairwise.imp_of_mem ?_ w.so)
    intro b c hb hc h
    have := w.pos g hb
    unfold bEnd at h
    exact .inl (show b.1 < c.1 by omega)
  · unfold pinR unpB
    rw [← List.map_append]
    refine List.Perm.map _ ?_
    exact (List.filter_append_perm (fun b : Blk => b.2.2) bs).symm
end
end K35

set_option Elab.async false
set_option linter.all false
set_option maxRecDepth 100000
set_option maxHeartbeats 1600000
/-! Mathematics: what the plan finds is the cheapest region. -/
namespace K35
open PySem PySem.Spec PyProof.Rows L2 Gu Ex
section
variable {ns : List Int} {n : Int} {bs : List Blk} {k : Nat}
theorem ovR_iff {s e : Int} {b : Blk} : ovR ns s e b = true ↔ b.1 < e ∧ s < bEnd ns b := by
  unfold ovR bEnd
  rw [Bool.and_eq_true, decide_eq_true_eq, decide_eq_true_eq]
/-- a lower block lies within its region -/
theorem inside (w : Wf ns n bs) (g : Good ns) {b : Blk} (hb : b ∈ bs) (hk : k < ns.length) (lv : b.2.1 ≤ k) : sz ns k ∣ stI (sz ns k) b.1 ∧ 0 ≤ stI (sz ns k) b.1 ∧ stI (sz ns k) b.1 ≤ b.1 ∧ bEnd ns b ≤ stI (sz ns k) b.1 + sz ns k := by
  obtain ⟨h1, h2, h3, h4⟩ := w.ok b hb
  have z1 := (chain g).pos _ hk
  have dv := (chain g).dvd lv hk
  have d1 := M16.fl_dvd (sz ns k) b.1
  have l1 := M16.fl_le b.1 z1
  have l2 := M16.fl_lt b.1 z1
  refine ⟨d1, ?_, l1, ?_⟩
  · exact M16.fl_ge z1 (Int.dvd_zero _) h2
  · have e := M16.gap h3 (Int.dvd_add (Int.dvd_trans dv d1) dv) (show b.1 < (b.1 - b.1 % sz ns k) + sz ns k from l2)
    exact e
/-- a block that meets a region: a higher one contains it, a lower one lies in it -/
theorem meets (w : Wf ns n bs) (g : Good ns) {b : Blk} (hb : b ∈ bs) (hk : k < ns.length) {s : Int} (ds : sz ns k ∣ s) (o : b.1 < s + sz ns k) (o2 : s < bEnd ns b) : (k ≤ b.2.1 ∧ b.1 ≤ s ∧ s + sz ns k ≤ bEnd ns b) ∨ (b.2.1 < k ∧ stI (sz ns k) b.1 = s) := by
  obtain ⟨h1, h2, h3, h4⟩ := w.ok b hb
  have z1 := (chain g).pos _ hk
  rcases Nat.lt_or_ge b.2.1 k with lv | lv
  · refine .inr ⟨lv, ?_⟩
    obtain ⟨i1, i2, i3, i4⟩ := inside w g hb hk (Nat.le_of_lt lv)
    have p := w.pos g hb
    rcases Int.lt_trichotomy (stI (sz ns k) b.1) s with e | e | e
    · have := M16.gap i1 ds e
      omega
    · exact e
    · have := M16.gap ds i1 e
      omega
  · refine .inl ⟨lv, ?_, ?_⟩
    · have dv := (chain g).dvd lv h1
      have d1 := Int.dvd_trans dv h3
      refine Int.not_lt.mp fun e => ?_
      have := M16.gap ds d1 e
      omega
    · have dv := (chain g).dvd lv h1
      have d1 : sz ns k ∣ bEnd ns b := Int.dvd_add (Int.dvd_trans dv h3) dv
      exact M16.gap ds d1 o2
theorem no_both (w : Wf ns n bs) (g : Good ns) {b c : Blk} (hb : b ∈ bs) (hc : c ∈ bs) (ne : b ≠ c) : bEnd ns b ≤ c.1 ∨ bEnd ns c ≤ b.1 := by
  obtain ⟨i, hi⟩ := List.mem_iff_getElem?.mp hb
  obtain ⟨j, hj⟩ := List.mem_iff_getElem?.mp hc
  rcases Nat.lt_trichotomy i j with h | h | h
  · exact .inl (w.lt g hi hj h).1
  · subst h
    rw [hi] at hj
    exact absurd (Option.some.inj hj) ne
  · exact .inr (w.lt g hj hi h).1
theorem okB_iff {rc : List (Int × Int)} {b : Blk} : okB ns n rc k b = true ↔ b.2.1 < k ∧ (∀ r ∈ rc, stI (sz ns k) r.1 ≠ stI (sz ns k) b.1) ∧ stI (sz ns k) b.1 + sz ns k ≤ n := by
  unfold okB
  rw [Bool.and_eq_true, Bool.and_eq_true, decide_eq_true_eq, decide_eq_true_eq, List.all_eq_true]
  constructor
  · rintro ⟨h1, h2, h3⟩
    exact ⟨h1, (fun r hr e => by have := h2 r hr; rw [decide_eq_true e] at this; cases this), h3⟩
  · rintro ⟨h1, h2, h3⟩
    exact ⟨h1, fun r hr => by rw [decide_eq_false (h2 r hr)]; rfl, h3⟩
theorem pin_mem {r : Int × Int} : r ∈ pinR ns bs ↔ ∃ b ∈ bs, b.2.2 = true ∧ r = rngB ns b := by
  unfold pinR
  rw [List.mem_map]
  constructor
  · rintro ⟨b, hb, rfl⟩
    obtain ⟨h1, h2⟩ := List.mem_filter.mp hb
    exact ⟨b, h1, h2, rfl⟩
  · rintro ⟨b, h1, h2, rfl⟩
    exact ⟨b, List.mem_filter.mpr ⟨h1, h2⟩, rfl⟩
theorem unp_mem {b : Blk} : b ∈ unpB bs ↔ b ∈ bs ∧ b.2.2 = false := by
  unfold unpB
  rw [List.mem_filter]
  simp
/-- the region of a block that only lower unpinned ones keep -/
theorem ok_cells (w : Wf ns n bs) (g : Good ns) (hk : k < ns.length) {b : Blk} (hb : b ∈ unpB bs) (o : okB ns n (pinR ns bs) k b = true) :
    VR ns n k (stI (sz ns k) b.1) ∧ cellsI ns bs k (stI (sz ns k) b.1) = some (sumS ns n (pinR ns bs) k (unpB bs) (stI (sz ns k) b.1)) := by
  obtain ⟨lv, no, en⟩ := okB_iff.mp o
  obtain ⟨hm, hp⟩ := unp_mem.mp hb
  obtain ⟨i1, i2, i3, i4⟩ := inside w g hm hk (Nat.le_of_lt lv)
  have pb := w.pos g hm
  have key : ∀ c ∈ bs, ovR ns (stI (sz ns k) b.1) (stI (sz ns k) b.1 + sz ns k) c = true → c.2.2 = false ∧ c.2.1 < k ∧ stI (sz ns k) c.1 = stI (sz ns k) b.1 := fun c hc oc => by
    obtain ⟨o1, o2⟩ := ovR_iff.mp oc
    rcases meets w g hc hk i1 o1 o2 with ⟨h1, h2, h3⟩ | ⟨h1, h2⟩
    · have ne : b ≠ c := fun z => by
        rw [z] at lv
        omega
      have be : bEnd ns b = b.1 + sz ns b.2.1 := rfl
      rcases no_both w g hm hc ne with z | z <;> omega
    · refine ⟨?_, h1, h2⟩
      cases q : c.2.2 with
      | false => rfl
      | true => exact absurd h2 (no _ (pin_mem.mpr ⟨c, hc, q, rfl⟩))
  refine ⟨⟨i1, i2, en⟩, ?_⟩
  unfold cellsI
  have an : (metR ns bs k (stI (sz ns k) b.1)).any (fun b => b.2.2 || decide (k ≤ b.2.1)) = false := by
    refine Bool.eq_false_iff.mpr fun z => ?_
    obtain ⟨c, hc, e⟩ := List.any_eq_true.mp z
    obtain ⟨h1, h2⟩ := List.mem_filter.mp hc
    obtain ⟨q1, q2, _⟩ := key c h1 h2
    rw [q1, decide_eq_false (by omega)] at e
    cases e
  rw [an, if_neg Bool.false_ne_true]
  congr 1
  unfold sumS metR unpB
  rw [List.filter_filter]
  congr 2
  refine List.filter_congr fun c hc => ?_
  cases q : ovR ns (stI (sz ns k) b.1) (stI (sz ns k) b.1 + sz ns k) c with
  | true =>
    obtain ⟨q1, q2, q3⟩ := key c hc q
    symm
    rw [Bool.and_eq_true]
    refine ⟨?_, by rw [q1]; rfl⟩
    unfold inB
    rw [Bool.and_eq_true, decide_eq_true_eq]
    refine ⟨okB_iff.mpr ⟨q2, fun r hr => by rw [q3]; exact no r hr, by rw [q3]; exact en⟩, q3⟩
  | false =>
    symm
    refine Bool.eq_false_iff.mpr fun z => ?_
    rw [Bool.and_eq_true] at z
    have z1 := z.1
    unfold inB at z1
    rw [Bool.and_eq_true, decide_eq_true_eq] at z1
    obtain ⟨l2, _, _⟩ := okB_iff.mp z1.1
    obtain ⟨j1, j2, j3, j4⟩ := inside w g hc hk (Nat.le_of_lt l2)
    have pc := w.pos g hc
    have ce : bEnd ns c = c.1 + sz ns c.2.1 := rfl
    rw [z1.2] at j3 j4
    have : ovR ns (stI (sz ns k) b.1) (stI (sz ns k) b.1 + sz ns k) c = true := ovR_iff.mpr ⟨by omega, by omega⟩
    rw [this] at q
    cases q
/-- a region with blocks in it is that of such a block -/
theorem cells_ok (w : Wf ns n bs) (g : Good ns) (hk : k < ns.length) {s x : Int} (v : VR ns n k s) (c : cellsI ns bs k s = some x) (ne : metR ns bs k s ≠ []) : ∃ b ∈ unpB bs, okB ns n (pinR ns bs) k b = true ∧ stI (sz ns k) b.1 = s := by
  obtain ⟨ds, s0, en⟩ := v
  unfold cellsI at c
  by_cases an : (metR ns bs k s).any (fun b => b.2.2 || decide (k ≤ b.2.1)) = true
  · rw [if_pos an] at c
    cases c
  · have all : ∀ b ∈ bs, ovR ns s (s + sz ns k) b = true → b.2.2 = false ∧ b.2.1 < k := fun b hb o => by
      have q : ¬ (b.2.2 || decide (k ≤ b.2.1)) = true := fun z => an (List.any_eq_true.mpr ⟨b, List.mem_filter.mpr ⟨hb, o⟩, z⟩)
      rw [Bool.or_eq_true, decide_eq_true_eq] at q
      refine ⟨?_, by omega⟩
      cases e : b.2.2 with
      | false => rfl
      | true => exact absurd (.inl e) q
    cases em : metR ns bs k s with
    | nil => exact absurd em ne
    | cons b r =>
      have hb : b ∈ metR ns bs k s := by rw [em]; exact List.mem_cons_self
      obtain ⟨h1, h2⟩ := List.mem_filter.mp hb
      obtain ⟨q1, q2⟩ := all b h1 h2
      obtain ⟨o1, o2⟩ := ovR_iff.mp h2
      have es : stI (sz ns k) b.1 = s := by
        rcases meets w g h1 hk ds o1 o2 with ⟨z, _⟩ | ⟨_, z⟩
        · omega
        · exact z
      refine ⟨b, unp_mem.mpr ⟨h1, q1⟩, okB_iff.mpr ⟨q2, fun r' hr => ?_, by rw [es]; exact en⟩, es⟩
      obtain ⟨c', hc, hp, rfl⟩ := pin_mem.mp hr
      rw [es]
      intro e
      have e' : stI (sz ns k) c'.1 = s := e
      have pc := w.pos g hc
      have z1 := (chain g).pos _ hk
      have ce : bEnd ns c' = c'.1 + sz ns c'.2.1 := rfl
      have ov : ovR ns s (s + sz ns k) c' = true := by
        have l1 := M16.fl_le c'.1 z1
        have l2 := M16.fl_lt c'.1 z1
        have e2 : c'.1 - c'.1 % sz ns k = s := e'
        exact ovR_iff.mpr ⟨by omega, by omega⟩
      have := (all c' hc ov).1
      rw [hp] at this
      cases this
theorem met_nil {s : Int} : metR ns bs k s = [] ↔ ∀ b ∈ bs, bEnd ns b ≤ s ∨ s + sz ns k ≤ b.1 := by
  unfold metR
  rw [List.filter_eq_nil_iff]
  constructor
  · intro h b hb
    have := h b hb
    rw [ovR_iff] at this
    omega
  · intro h b hb z
    have := ovR_iff.mp z
    rcases h b hb with q | q <;> omega
theorem cells_nil {s : Int} (h : metR ns bs k s = []) : cellsI ns bs k s = some 0 := by
  unfold cellsI
  rw [h]
  rfl
theorem cells_pos (w : Wf ns n bs) (g : Good ns) {s x : Int} (c : cellsI ns bs k s = some x) : 0 ≤ x ∧ (metR ns bs k s ≠ [] → 1 ≤ x) := by
  unfold cellsI at c
  split at c
  · cases c
  · have e := Option.some.inj c
    have sub : ∀ b ∈ metR ns bs k s, 1 ≤ sz ns b.2.1 := fun b hb => w.pos g (List.mem_filter.mp hb).1
    have nn : ∀ l : List Blk, (∀ b ∈ l, 1 ≤ sz ns b.2.1) → 0 ≤ (l.map fun b => sz ns b.2.1).sum := fun l => by
      induction l with
      | nil => intro _; exact Int.le_refl 0
      | cons b l ih =>
        intro h
        have := ih fun c hc => h c (List.mem_cons_of_mem _ hc)
        have := h b List.mem_cons_self
        rw [List.map_cons, List.sum_cons]
        omega
    rw [← e]
    refine ⟨nn _ sub, fun ne => ?_⟩
    cases em : metR ns bs k s with
    | nil => exact absurd em ne
    | cons b l =>
      rw [em] at sub
      have := nn l fun c hc => sub c (List.mem_cons_of_mem _ hc)
      have := sub b List.mem_cons_self
      rw [List.map_cons, List.sum_cons]
      omega
theorem ch_due (w : Wf ns n bs) (g : Good ns) (hk : k < ns.length) {o : Option (Int × Int)} (h : ChP ns n (pinR ns bs) (unpB bs) k o) : DueP ns n bs k o := by
  have z1 := (chain g).pos _ hk
  have gok : ∀ b ∈ bs, (0 : Int) ≤ b.1 ∧ b.1 < bEnd ns b ∧ bEnd ns b ≤ n := fun b hb => by
    have o := w.ok b hb
    have p := w.pos g hb
    have e : bEnd ns b = b.1 + sz ns b.2.1 := rfl
    exact ⟨o.2.1, by omega, o.2.2.2⟩
  have cov : ∀ s, VR ns n k s → metR ns bs k s = [] → ∃ y ∈ gapsI n 0 (bs.map (rngB ns)), M16.nx (sz ns k) y.1 ≤ s ∧ M16.nx (sz ns k) y.1 + sz ns k ≤ y.2 := fun s v e => by
    obtain ⟨ds, s0, en⟩ := v
    obtain ⟨y, hy, h1, h2⟩ := gaps_cover w.so gok s0 (by omega) en (met_nil.mp e)
    have := M16.nx_least z1 ds h1
    exact ⟨y, hy, this, by omega⟩
  have pg := pg_is w g
  rcases h with ⟨a, el, rfl⟩ | ⟨el, h⟩
  · rw [pg] at el
    obtain ⟨y, hy, e1, e2, e3⟩ := low_some z1 (gaps_asc w.so gok) el
    obtain ⟨f1, f2, f3, f4⟩ := gaps_free w.so gok y hy
    have ge := M16.nx_ge y.1 z1
    have mn : metR ns bs k a = [] := met_nil.mpr fun b hb => by
      rcases f4 b hb with z | z <;> omega
    refine .inr ⟨a, 0, rfl, ⟨by rw [e1]; exact M16.nx_dvd _ _, by omega, by omega⟩, cells_nil mn, fun s' x' v' c' => ?_⟩
    have cp := cells_pos w g c'
    by_cases ne : metR ns bs k s' = []
    · obtain ⟨y2, hy2, q1, q2⟩ := cov s' v' ne
      have := e3 y2 hy2 q2
      rw [cells_nil ne] at c'
      have e0 := Option.some.inj c'
      unfold leP
      dsimp only
      omega
    · have := cp.2 ne
      unfold leP
      dsimp only
      omega
  · rw [pg] at el
    have nof : ∀ s, VR ns n k s → metR ns bs k s ≠ [] := fun s v e => by
      obtain ⟨y, hy, _, q⟩ := cov s v e
      exact low_none z1 el y hy q
    rcases h with ⟨rfl, h⟩ | ⟨b, hb, ob, rfl, h⟩
    · refine .inl ⟨rfl, fun s v => ?_⟩
      cases c : cellsI ns bs k s with
      | none => rfl
      | some x =>
        obtain ⟨b, hb, ob, _⟩ := cells_ok w g hk v c (nof s v)
        rw [h b hb] at ob
        cases ob
    · obtain ⟨v, c⟩ := ok_cells w g hk hb ob
      refine .inr ⟨_, _, rfl, v, c, fun s' x' v' c' => ?_⟩
      obtain ⟨b', hb', ob', e⟩ := cells_ok w g hk v' c' (nof s' v')
      obtain ⟨_, c2⟩ := ok_cells w g hk hb' ob'
      rw [e, c'] at c2
      have := h b' hb' ob'
      rw [e, ← Option.some.inj c2] at this
      exact this
end
end K35

set_option Elab.async false
set_option linter.all false
set_option maxRecDepth 100000
set_option maxHeartbeats 4000000
set_option pp.maxSteps 900
namespace K35
open PySem PySem.Spec PyProof.Rows L2 Gu Ex
section
variable {P : Program} {w : World} {K : PySem.W.Frag} {mg : Str → Option Value} {base : Heap} {f : Addr} {fd : FuncData}
def badB (k : Nat) (b : Blk) : Bool := b.2.2 || decide (k ≤ b.2.1)
def spCIn : Sp := fun vs H Q _ => ∃ (s a : Addr) (ns : List Int) (ps : List Addr) (bs : List Blk) (k : Nat) (st : Int), vs = [.ref s, .ref a, .int k, .int st] ∧ H s = some (.lst (ns.map V.int)) ∧ Bl ns H a ps bs ∧ k < ns.length ∧ ∀ H', Same H H' → Q (optV (cellsI ns bs k st)) H'
theorem sc__law_cells_in : FnScope ["_law_sizes_here", "_law_blocks_here", "_law_level", "_law_start", "_law_end", "_law_met", "_law_one"] ["_law_sizes_here", "_law_blocks_here", "_law_level", "_law_start"] (defScope (top 57)) := ⟨rfl, rfl, rfl, by decide +kernel, rfl, by decide +kernel, by decide +kernel⟩
theorem ok_cellsin (T : Tx K mg) (F : FnP K "_law_cells_in" "_law_cells_in" (top 57) f fd) : FnOk P w K mg base CX0 1 f fd ["_law_sizes_here", "_law_blocks_here", "_law_level", "_law_start"] spCIn := by
  refine F.ok sc__law_cells_in (fun vs H Q E h => ?_) (fun cdv A outer s H vs Q E hr h => ⟨_, PSs.nox (pss_cons (ps_set (i := 4) sc__law_cells_in.nd rfl (by first | exact Or.inl rfl | exact Or.inr rfl) (pe_op op_add (pv 3) (pe_ix ix_list (pv 0) (pv 2) (fun _ _ => rfl)))) (pss_cons (ps_setLc (i := 5) (own := [("_law_one", 6)]) (g := gName 6) rfl sc__law_cells_in.nd rfl rfl (sw_true rfl rfl rfl (by decide +kernel)) (pi_list (pv 1)) (blkOk_by (own := [("_law_one", 6)]) (N := ["_law_sizes_here", "_law_blocks_here", "_law_level", "_law_start", "_law_end", "_law_met", "_law_one"]) (sc := defScope (top 57)) (by decide +kernel)) (fun _ _ _ _ _ => pg_name (i := 6) sc__law_cells_in.nd rfl (Or.inl rfl)) (fun _ _ _ _ _ => (pts_one (PW.pt (pw_and (pt_cmpR op_lt (pe_ix (r := rIxT K) ix_tup (pv 6) pe_int (fun _ _ => rfl)) (pv 4) (nomark _)) (pw_and1 (pt_cmpR op_lt (pv 3) (pe_op op_add (pe_ix (r := rIxT K) ix_tup (pv 6) pe_int (fun _ _ => rfl)) (pe_ix (r := rIxL K) ix_list (pv 0) (pe_ix (r := rIxT K) ix_tup (pv 6) pe_int (fun _ _ => rfl)) (fun _ _ => rfl))) (nomark _))))))) (fun _ _ _ _ _ => (pv 6))) (pss_cons (ps_if (pt_val (pe_callB (cr_any rfl) (by rfl) T.n_any (by decide +kernel) (pa_cons (pe_lc (own := [("_law_one", 6)]) (g := gName 6) rfl sc__law_cells_in.nd (pi_list (pv 5)) (blkOk_by (own := [("_law_one", 6)]) (N := ["_law_sizes_here", "_law_blocks_here", "_law_level", "_law_start", "_law_end", "_law_met", "_law_one"]) (sc := defScope (top 57)) (by decide +kernel)) (fun _ _ _ _ _ => pg_name (i := 6) sc__law_cells_in.nd rfl (Or.inl rfl)) (fun _ _ _ _ _ => pts_nil) (fun _ _ _ _ _ => (pe_or (pe_ix (r := rIxT K) ix_tup (pv 6) pe_int (fun _ _ => rfl)) (pe_one (pe_cmpR op_ge (pe_ix (r := rIxT K) ix_tup (pv 6) pe_int (fun _ _ => rfl)) (pv 2) (nomark _)))))) pa_nil))) (pss_one (ps_ret pe_non)) pss_nil) (pss_one (ps_ret (pe_callB (cr_sum rfl) (by rfl) T.n_sum (by decide +kernel) (pa_cons (pe_lc (own := [("_law_one", 6)]) (g := gName 6) rfl sc__law_cells_in.nd (pi_list (pv 5)) (blkOk_by (own := [("_law_one", 6)]) (N := ["_law_sizes_here", "_law_blocks_here", "_law_level", "_law_start", "_law_end", "_law_met", "_law_one"]) (sc := defScope (top 57)) (by decide +kernel)) (fun _ _ _ _ _ => pg_name (i := 6) sc__law_cells_in.nd rfl (Or.inl rfl)) (fun _ _ _ _ _ => pts_nil) (fun _ _ _ _ _ => (pe_ix (r := rIxL K) ix_list (pv 0) (pe_ix (r := rIxT K) ix_tup (pv 6) pe_int (fun _ _ => rfl)) (fun _ _ => rfl)))) pa_nil))))))), ?_⟩)
  · obtain ⟨s, a, ns, ps, bs, k, st, rfl, _⟩ := h
    rfl
  · obtain ⟨s, a, ns, ps, bs, k, st, rfl, hs, B, hk, q⟩ := h
    have pl := B.rf.len
    have bn := B.ln
    have sl : sizeLine = 16777216 := sizeLine_eq
    refine ⟨_, rfl, _, rfl, _, rfl, s, _, _, _, rfl, rfl, SqL.of hs, at_sz hk, _, _, rfl, rfl, ?_⟩
    refine ⟨_, rfl, a, rfl, ⟨_, SqL.of B.at_⟩, fun D hD => ?_⟩
    refine lc_list (K := K) (a := a) (xs := ps.map V.ref) (fun i G => ∃ rs : List Addr, G D = some (.lst (rs.map V.ref)) ∧ Refs blkV G rs ((bs.take i).filter (ovR ns st (st + sz ns k))) ∧ Same H G) ⟨[], upd_same, .nil, same_upd hD⟩ (fun i G _ ⟨_, _, _, sm⟩ => SqL.of (sm _ _ B.at_)) ?_ ?_
    · rintro i x G hx ⟨rs, hG, rfr, sm⟩
      obtain ⟨p, hp, rfl⟩ := ref_of hx
      obtain ⟨b, hb, hT⟩ := (B.rf.same sm).get hp
      have hT' : G p = some (.tup [.int b.1, .int (b.2.1 : Nat), .bl b.2.2]) := hT
      have bk := B.lv b (List.mem_of_getElem? hb)
      have il : i < bs.length := (List.getElem?_eq_some_iff.mp hb).1
      have rl := rfr.len
      have fl := List.length_filter_le (ovR ns st (st + sz ns k)) (bs.take i)
      rw [List.length_take] at fl
      have no : ovR ns st (st + sz ns k) b = false → ∃ rs : List Addr, G D = some (.lst (rs.map V.ref)) ∧ Refs blkV G rs ((bs.take (i + 1)).filter (ovR ns st (st + sz ns k))) ∧ Same H G := fun e => by
        rw [filter_atG _ hb, e]
        exact ⟨rs, hG, by simpa using rfr, sm⟩
      refine ⟨rfl, _, rfl, p, _, _, _, rfl, rfl, .inl (.inl hT'), rfl, _, rfl, _, _, rfl, rfl, _, rfl, ?_⟩
      by_cases h1 : b.1 < st + sz ns k
      · refine ifT (decide_eq_true h1) ?_
        refine ⟨_, rfl, _, rfl, p, _, _, _, rfl, rfl, .inl (.inl hT'), rfl, _, rfl, _, rfl, p, _, _, _, rfl, rfl, .inl (.inl hT'), rfl, s, _, _, _, rfl, rfl, SqL.of (sm _ _ hs), at_sz bk, _, _, rfl, rfl, _, _, rfl, rfl, _, rfl, ?_⟩
        by_cases h2 : st < b.1 + sz ns b.2.1
        · refine ifT (decide_eq_true h2) ?_
          have e : ovR ns st (st + sz ns k) b = true := by unfold ovR; rw [decide_eq_true h1, decide_eq_true h2]; rfl
          refine ⟨_, rfl, _, hG, (by rw [List.length_map]; omega), rs ++ [p], by rw [upd_same, List.map_append]; rfl, ?_, fun c o e => ?_⟩
          · rw [filter_atG _ hb, if_pos e]
            refine (rfr.app (Refs.one hT')).mono fun c zs ec => ?_
            rw [upd_ne (fun z => by rw [z, hG] at ec; cases ec)]
            exact ec
          · rw [upd_ne (ne_of_none e hD)]
            exact sm c o e
        · refine ifF (decide_eq_false h2) (no (by unfold ovR; rw [decide_eq_false h2, Bool.and_false]))
      · refine ifF (decide_eq_false h1) (iteF (no (by unfold ovR; rw [decide_eq_false h1]; rfl)))
    rintro G ⟨rs, hG, rfr, sm⟩
    rw [List.length_map, pl, List.take_length] at rfr
    have ml : (metR ns bs k st).length ≤ bs.length := List.length_filter_le _ _
    have rfm : Refs blkV G rs (metR ns bs k st) := rfr
    have rl := rfm.len
    have bm : ∀ b ∈ metR ns bs k st, b.2.1 < ns.length := fun b hb => B.lv b (List.mem_filter.mp hb).1
    have qc : ∀ H', Same H H' → Q (optV (if (metR ns bs k st).any (badB k) = true then none else some ((metR ns bs k st).map fun b => sz ns b.2.1).sum)) H' := q
    generalize metR ns bs k st = ms at rfm ml rl bm qc
    refine ⟨_, rfl, D, rfl, ⟨_, SqL.of hG⟩, fun D2 hD2 => ?_⟩
    refine lc_list (K := K) (a := D) (xs := rs.map V.ref) (fun i G2 => G2 D2 = some (.lst (((ms.take i).map (badB k)).map V.bl)) ∧ Same G G2) ⟨upd_same, same_upd hD2⟩ (fun i G2 _ ⟨_, s2⟩ => SqL.of (s2 _ _ hG)) ?_ ?_
    · rintro i x G2 hx ⟨hG2, s2⟩
      obtain ⟨p, hp, rfl⟩ := ref_of hx
      obtain ⟨b, hb, hT⟩ := (rfm.same s2).get hp
      have hT' : G2 p = some (.tup [.int b.1, .int (b.2.1 : Nat), .bl b.2.2]) := hT
      have il : i < ms.length := (List.getElem?_eq_some_iff.mp hb).1
      have fin : ∀ v : Bool, v = badB k b → ∃ xs, G2 D2 = some (.lst xs) ∧ xs.length < sizeLine ∧ (upd G2 D2 (.lst (xs ++ [.bl v]))) D2 = some (.lst (((ms.take (i + 1)).map (badB k)).map V.bl)) ∧ Same G (upd G2 D2 (.lst (xs ++ [.bl v]))) := by
        rintro v rfl
        refine ⟨_, hG2, (by rw [List.length_map, List.length_map, List.length_take]; omega), ?_, fun c o e => ?_⟩
        · rw [upd_same, take_at hb, List.map_append, List.map_append]
          rfl
        · rw [upd_ne (ne_of_none e hD2)]
          exact s2 c o e
      refine ⟨rfl, _, rfl, p, _, _, _, rfl, rfl, .inl (.inl hT'), rfl, _, rfl, ?_⟩
      cases e2 : b.2.2 with
      | true => exact ifT rfl (fin true (by unfold badB; rw [e2]; rfl))
      | false =>
        refine ifF rfl ?_
        refine ⟨_, rfl, p, _, _, _, rfl, rfl, .inl (.inl hT'), rfl, _, rfl, _, _, rfl, rfl, ?_⟩
        exact fin _ (by unfold badB; rw [e2]; simp)
    rintro G2 ⟨hG2, s2⟩
    rw [List.length_map, rl, List.take_length] at hG2
    refine ⟨D2, _, rfl, SqL.of hG2, ?_⟩
    have e3 : ((ms.map (badB k)).any id) = ms.any (badB k) := by rw [List.any_map]; rfl
    rw [e3]
    cases ea : ms.any (badB k) with
    | true =>
      refine ⟨_, rfl, iteT' rfl ?_⟩
      have q2 := qc _ (sm.trans s2)
      rw [if_pos ea] at q2
      exact q2
    | false =>
      refine ⟨_, rfl, iteF' rfl ?_⟩
      rw [if_neg (by rw [ea]; simp)] at qc
      have rf2 := rfm.same s2
      have hGG := s2 _ _ hG
      refine ⟨_, rfl, D, rfl, ⟨_, SqL.of hGG⟩, fun D3 hD3 => ?_⟩
      refine lc_list (K := K) (a := D) (xs := rs.map V.ref) (fun i G3 => G3 D3 = some (.lst (((ms.take i).map fun b => sz ns b.2.1).map V.int)) ∧ Same G2 G3) ⟨upd_same, same_upd hD3⟩ (fun i G2 _ ⟨_, s2⟩ => SqL.of (s2 _ _ hGG)) ?_ ?_
      · rintro i x G3 hx ⟨hG3, s3⟩
        obtain ⟨p, hp, rfl⟩ := ref_of hx
        obtain ⟨b, hb, hT⟩ := (rf2.same s3).get hp
        have hT' : G3 p = some (.tup [.int b.1, .int (b.2.1 : Nat), .bl b.2.2]) := hT
        have il : i < ms.length := (List.getElem?_eq_some_iff.mp hb).1
        have bk := bm b (List.mem_of_getElem? hb)
        refine ⟨rfl, _, rfl, _, rfl, p, _, _, _, rfl, rfl, .inl (.inl hT'), rfl, s, _, _, _, rfl, rfl, SqL.of (s3 _ _ (s2 _ _ (sm _ _ hs))), at_sz bk, ?_⟩
        refine ⟨_, hG3, (by rw [List.length_map, List.length_map, List.length_take]; omega), ?_, fun c o e => ?_⟩
        · rw [upd_same, take_at hb, List.map_append, List.map_append]
          rfl
        · rw [upd_ne (ne_of_none e hD3)]
          exact s3 c o e
      · rintro G3 ⟨hG3, s3⟩
        rw [List.length_map, rl, List.take_length] at hG3
        refine ⟨D3, _, rfl, SqL.of hG3, ?_⟩
        exact qc _ ((sm.trans s2).trans s3)
end
end K35

set_option Elab.async false
set_option linter.all false
set_option maxRecDepth 100000
set_option maxHeartbeats 1600000
/-! Mathematics: the starts that the law looks at. -/
namespace K35
open PySem PySem.Spec PyProof.Rows L2 Gu Ex
/-- among these starts is the cheapest region -/
def Cov (ns : List Int) (n : Int) (bs : List Blk) (k : Nat) (ss : List Int) : Prop :=
  (∀ s ∈ ss, sz ns k ∣ s ∧ 0 ≤ s) ∧ ∀ s x, VR ns n k s → cellsI ns bs k s = some x → ∃ s' ∈ ss, s' + sz ns k ≤ n ∧ ∃ x', cellsI ns bs k s' = some x' ∧ leP (x', s') (x, s)
def rowsI (ns : List Int) (bs : List Blk) (k : Nat) (ss : List Int) : List (Int × Int) := ss.filterMap fun s => (cellsI ns bs k s).map fun x => (x, s)
section
variable {ns : List Int} {n : Int} {bs : List Blk} {k : Nat}
theorem rows_mem {ss : List Int} {m : Int × Int} : m ∈ rowsI ns bs k ss ↔ m.2 ∈ ss ∧ cellsI ns bs k m.2 = some m.1 := by
  unfold rowsI
  rw [List.mem_filterMap]
  constructor
  · rintro ⟨s, hs, e⟩
    cases c : cellsI ns bs k s with
    | none =>
      rw [c] at e
      cases e
    | some x =>
      rw [c] at e
      cases e
      exact ⟨hs, c⟩
  · rintro ⟨h, c⟩
    exact ⟨m.2, h, by rw [c]; rfl⟩
theorem cov_small (g : Good ns) (hk : k < ns.length) : Cov ns n bs k ((List.range (n / sz ns k).toNat).map fun j : Nat => (j : Int) * sz ns k) := by
  have z1 := (chain g).pos k hk
  refine ⟨fun s hs => ?_, fun s x v c => ?_⟩
  · obtain ⟨j, _, rfl⟩ := List.mem_map.mp hs
    exact ⟨Int.dvd_mul_left _ _, Int.mul_nonneg (by omega) (by omega)⟩
  · obtain ⟨d, s0, en⟩ := v
    refine ⟨s, ?_, en, x, c, leP_refl _⟩
    have e := Int.ediv_mul_cancel d
    refine List.mem_map.mpr ⟨(s / sz ns k).toNat, List.mem_range.mpr ?_, ?_⟩
    · have h1 : s / sz ns k + 1 ≤ n / sz ns k := by
        refine (Int.le_ediv_iff_mul_le (by omega)).mpr ?_
        rw [Int.add_mul, Int.one_mul, e]
        exact en
      have h0 : 0 ≤ s / sz ns k := Int.ediv_nonneg s0 (by omega)
      omega
    · have h0 : 0 ≤ s / sz ns k := Int.ediv_nonneg s0 (by omega)
      show ((s / sz ns k).toNat : Int) * sz ns k = s
      rw [Int.toNat_of_nonneg h0]
      exact e
theorem cov_large (w : Wf ns n bs) (g : Good ns) (hk : k < ns.length) {rs : List M16.Run} (F : FrOk ns n bs rs) :
    Cov ns n bs k ((bs.map fun b => b.1 / sz ns k * sz ns k) ++ ((rs.filter fun r => decide (k ≤ r.1)).map fun r => r.2.1).take 1) := by
  have c := chain g
  have z1 := c.pos k hk
  have se : ∀ a : Int, a / sz ns k * sz ns k = stI (sz ns k) a := fun a => by
    unfold stI
    have := Int.mul_ediv_add_emod a (sz ns k)
    rw [Int.mul_comm] at this
    omega
  have run_ok : ∀ r ∈ rs, k ≤ r.1 → sz ns k ∣ r.2.1 ∧ 0 ≤ r.2.1 ∧ r.2.1 + sz ns k ≤ n ∧ metR ns bs k r.2.1 = [] := fun r hr lv => by
    obtain ⟨h1, h2, h3, h4, h5, h6⟩ := F.snd r hr
    have dv : sz ns k ∣ sz ns r.1 := c.dvd lv h1
    have zr := c.pos _ h1
    have le : sz ns k ≤ sz ns r.1 := Int.le_of_dvd (by omega) dv
    have le2 : sz ns r.1 ≤ r.2.2 * sz ns r.1 := by
      have := Int.mul_le_mul_of_nonneg_right h4 (show 0 ≤ sz ns r.1 by omega)
      omega
    refine ⟨Int.dvd_trans dv h2, h3, by omega, met_nil.mpr fun b hb => ?_⟩
    rcases h6 b hb with z | z
    · exact .inl z
    · exact .inr (by omega)
  refine ⟨fun s hs => ?_, fun s x v cs => ?_⟩
  · rcases List.mem_append.mp hs with h | h
    · obtain ⟨b, hb, rfl⟩ := List.mem_map.mp h
      refine ⟨Int.dvd_mul_left _ _, Int.mul_nonneg (Int.ediv_nonneg (w.ok b hb).2.1 (by omega)) (by omega)⟩
    · obtain ⟨r, hr, rfl⟩ := List.mem_map.mp (List.mem_of_mem_take h)
      obtain ⟨r1, r2⟩ := List.mem_filter.mp hr
      obtain ⟨a1, a2, _⟩ := run_ok r r1 (of_decide_eq_true r2)
      exact ⟨a1, a2⟩
  · by_cases ne : metR ns bs k s = []
    · have e0 := cells_nil ne
      rw [cs] at e0
      cases e0
      obtain ⟨d, s0, en⟩ := v
      obtain ⟨r, hr, lv, le⟩ := F.cmp k s hk d s0 en (met_nil.mp ne)
      have hf : r ∈ rs.filter fun r => decide (k ≤ r.1) := List.mem_filter.mpr ⟨hr, decide_eq_true lv⟩
      have as := F.asc.filter fun r => decide (k ≤ r.1)
      have all : ∀ q ∈ rs.filter fun r => decide (k ≤ r.1), sz ns k ∣ q.2.1 ∧ 0 ≤ q.2.1 ∧ q.2.1 + sz ns k ≤ n ∧ metR ns bs k q.2.1 = [] := fun q hq => run_ok q (List.mem_filter.mp hq).1 (of_decide_eq_true (List.mem_filter.mp hq).2)
      generalize (rs.filter fun r => decide (k ≤ r.1)) = fs at hf as all
      cases fs with
      | nil => cases hf
      | cons q t =>
        obtain ⟨a1, a2, a3, a4⟩ := all q List.mem_cons_self
        refine ⟨q.2.1, List.mem_append_right _ (by show _ ∈ [q.2.1]; exact List.mem_cons_self), a3, 0, cells_nil a4, ?_⟩
        have : q.2.1 ≤ r.2.1 := by
          rcases List.mem_cons.mp hf with e | e
          · rw [e]
            exact Int.le_refl _
          · exact (List.pairwise_cons.mp as).1 r e
        exact .inr ⟨rfl, Int.le_trans this le⟩
    · obtain ⟨b, hb, _, e⟩ := cells_ok w g hk v cs ne
      exact ⟨s, List.mem_append_left _ (List.mem_map.mpr ⟨b, (unp_mem.mp hb).1, by rw [se]; exact e⟩), v.2.2, x, cs, leP_refl _⟩
theorem due_none {ss : List Int} (C : Cov ns n bs k ss) (e : rowsI ns bs k (ss.filter fun s => decide (s + sz ns k ≤ n)) = []) : DueP ns n bs k none := by
  refine .inl ⟨rfl, fun s v => ?_⟩
  cases c : cellsI ns bs k s with
  | none => rfl
  | some x =>
    obtain ⟨s', h', en, x', c', _⟩ := C.2 s x v c
    have : (x', s') ∈ rowsI ns bs k (ss.filter fun s => decide (s + sz ns k ≤ n)) := rows_mem.mpr ⟨List.mem_filter.mpr ⟨h', decide_eq_true en⟩, c'⟩
    rw [e] at this
    cases this
theorem due_some {ss : List Int} (C : Cov ns n bs k ss) {m : Int × Int} (hm : m ∈ rowsI ns bs k (ss.filter fun s => decide (s + sz ns k ≤ n))) (le : ∀ c ∈ rowsI ns bs k (ss.filter fun s => decide (s + sz ns k ≤ n)), leP m c) : DueP ns n bs k (some (m.2, m.1)) := by
  obtain ⟨h1, h2⟩ := rows_mem.mp hm
  obtain ⟨h3, h4⟩ := List.mem_filter.mp h1
  obtain ⟨d, s0⟩ := C.1 _ h3
  refine .inr ⟨m.2, m.1, rfl, ⟨d, s0, of_decide_eq_true h4⟩, h2, fun s x v c => ?_⟩
  obtain ⟨s', h', en, x', c', l'⟩ := C.2 s x v c
  exact leP_trans (le (x', s') (rows_mem.mpr ⟨List.mem_filter.mpr ⟨h', decide_eq_true en⟩, c'⟩)) l'
end
end K35

set_option Elab.async false
set_option linter.all false
set_option maxRecDepth 100000
set_option maxHeartbeats 4000000
/-! xs != [] -/
namespace L2
open PySem PySem.Spec PyProof.Rows
section
variable {X : Cx}
def rNeNil (K : PySem.W.Frag) : R2 := fun x y H Q => ∃ a b xs, x = .ref a ∧ y = .ref b ∧ SqL K H a xs ∧ SqL K H b [] ∧ Q (.bl (!decide (xs.length = 0))) H
theorem op_neNil (hu : X.A.units + 64 < cLine) : OpR X (compareOp .NotEq) (rNeNil X.K) := by
  intro pins s σ H x y v u Q I rx ry h
  obtain ⟨a, b, xs, rfl, rfl, ha, hb, q⟩ := h
  cases rx
  cases ry
  obtain ⟨us, r1, p1, _⟩ := I.list ha
  obtain ⟨ws, r2, p2, _⟩ := I.list hb
  cases r2
  have hl := r1.length
  by_cases hz : xs.length = 0
  · rw [decide_eq_true hz] at q
    have hs : us.toArray.size = (#[] : Array Value).size := by rw [List.size_toArray, ← hl, hz]; rfl
    refine SeqAt.RcNeAt.lists (e := fun _ => true) p1.isList p2.isList hs (by omega) (fun j h1 h2 => absurd h2 (Nat.not_lt_zero j)) X.prog X.w _ _ ?_
    rw [show ((List.range us.toArray.size).all fun _ => true) = true from List.all_eq_true.mpr fun _ _ => rfl]
    exact ⟨.bl false, H, I, rfl, q⟩
  · rw [decide_eq_false hz] at q
    refine SeqAt.RcNeAt.lists_lengths p1.isList p2.isList ?_ (by omega) X.prog X.w _ _ ⟨.bl true, H, I, rfl, q⟩
    have : us.toArray.size ≠ 0 := by rw [List.size_toArray, ← hl]; exact hz
    simpa using this
end
end L2

set_option Elab.async false
set_option linter.all false
set_option maxRecDepth 100000
set_option maxHeartbeats 4000000
set_option pp.maxSteps 900
namespace K35
open PySem PySem.Spec PyProof.Rows L2 Gu Ex
section
variable {P : Program} {w : World} {K : PySem.W.Frag} {mg : Str → Option Value} {base : Heap} {f : Addr} {fd : FuncData}
def rowV (ns : List Int) (bs : List Blk) (k : Nat) (s : Int) : List V := [optV (cellsI ns bs k s), .int s]
def isC (ns : List Int) (bs : List Blk) (k : Nat) (s : Int) : Bool := (cellsI ns bs k s).isSome
theorem rows_snoc {ns : List Int} {bs : List Blk} {k : Nat} (ss : List Int) (s : Int) : rowsI ns bs k (ss ++ [s]) = rowsI ns bs k ss ++ (match cellsI ns bs k s with | some x => [(x, s)] | none => []) := by
  unfold rowsI
  rw [List.filterMap_append]
  cases c : cellsI ns bs k s with
  | none => simp [c]
  | some x => simp [c]
theorem rows_len {ns : List Int} {bs : List Blk} {k : Nat} (ss : List Int) : (rowsI ns bs k ss).length ≤ ss.length := List.length_filterMap_le _ _
theorem int_of {xs : List Int} {i : Nat} {v : V} (h : (xs.map V.int)[i]? = some v) : ∃ y, xs[i]? = some y ∧ v = .int y := by
  rw [List.getElem?_map] at h
  cases e : xs[i]? with
  | none => rw [e] at h; cases h
  | some y => rw [e] at h; cases h; exact ⟨y, rfl, rfl⟩
def spDue : Sp := fun vs H Q _ => ∃ (s a : Addr) (ns : List Int) (n : Int) (qs : List Addr) (bs : List Blk) (k : Nat), vs = [.ref s, .int n, .ref a, .int k] ∧ H s = some (.lst (ns.map V.int)) ∧ Good ns ∧ H a = some (.lst (qs.map V.ref)) ∧ Refs blkV H qs bs ∧ Wf ns n bs ∧ 0 ≤ n ∧ n ≤ 1000000000000 ∧ bs.length ≤ 100 ∧ k < ns.length ∧
  ∀ o v H', DueP ns n bs k o → ChV H' v o → Same H H' → Q v H'
theorem sc__law_due : FnScope ["_law_sizes_here", "_law_length", "_law_blocks_here", "_law_level", "_law_size", "_law_starts", "_law_rows", "_law_runs_here", "_law_start", "_law_row", "_law_k", "_law_one", "_law_run"] ["_law_sizes_here", "_law_length", "_law_blocks_here", "_law_level"] (defScope (top 58)) := ⟨rfl, rfl, rfl, by decide +kernel, rfl, by decide +kernel, by decide +kernel⟩
theorem ok_due (T : Tx K mg) (D__law_free_runs : Df P w K mg base 2 "_law_free_runs" ["_law_sizes_here", "_law_length", "_law_blocks_here"] spFrL) (D__law_cells_in : Df P w K mg base 1 "_law_cells_in" ["_law_sizes_here", "_law_blocks_here", "_law_level", "_law_start"] spCIn)
    (F : FnP K "_law_due" "_law_due" (top 58) f fd) : FnOk P w K mg base CX0 3 f fd ["_law_sizes_here", "_law_length", "_law_blocks_here", "_law_level"] spDue := by
  refine F.ok sc__law_due (fun vs H Q E h => ?_) (fun cdv A outer s H vs Q E hr h => ⟨_, PSs.nox (pss_cons (ps_set (i := 4) sc__law_due.nd rfl (by first | exact Or.inl rfl | exact Or.inr rfl) (pe_ix ix_list (pv 0) (pv 3) (fun _ _ => rfl))) (pss_cons (ps_if (pt_cmpR op_le (pe_op op_fdivW (pv 1) (pv 4)) pe_int (nomark _)) (pss_one (ps_setLc (i := 5) (own := [("_law_k", 10)]) (g := gName 10) rfl sc__law_due.nd rfl rfl (sw_true rfl rfl rfl (by decide +kernel)) (pi_range1 rfl T.n_range (pa_cons (pe_op op_fdivW (pv 1) (pv 4)) pa_nil)) (blkOk_by (own := [("_law_k", 10)]) (N := ["_law_sizes_here", "_law_length", "_law_blocks_here", "_law_level", "_law_size", "_law_starts", "_law_rows", "_law_runs_here", "_law_start", "_law_row", "_law_k", "_law_one", "_law_run"]) (sc := defScope (top 58)) (by decide +kernel)) (fun _ _ _ _ _ => pg_name (i := 10) sc__law_due.nd rfl (Or.inl rfl)) (fun _ _ _ _ _ => pts_nil) (fun _ _ _ _ _ => (pe_op op_mul (pv 10) (pv 4))))) (pss_cons (ps_set (i := 7) sc__law_due.nd rfl (by first | exact Or.inl rfl | exact Or.inr rfl) (pcall D__law_free_runs hr (pa_cons (pv 0) (pa_cons (pv 1) (pa_cons (pv 2) pa_nil))))) (pss_one (ps_set (i := 5) sc__law_due.nd rfl (by first | exact Or.inl rfl | exact Or.inr rfl) (pe_op op_cat (pe_lc (own := [("_law_one", 11)]) (g := gName 11) rfl sc__law_due.nd (pi_list (pv 2)) (blkOk_by (own := [("_law_one", 11)]) (N := ["_law_sizes_here", "_law_length", "_law_blocks_here", "_law_level", "_law_size", "_law_starts", "_law_rows", "_law_runs_here", "_law_start", "_law_row", "_law_k", "_law_one", "_law_run"]) (sc := defScope (top 58)) (by decide +kernel)) (fun _ _ _ _ _ => pg_name (i := 11) sc__law_due.nd rfl (Or.inl rfl)) (fun _ _ _ _ _ => pts_nil) (fun _ _ _ _ _ => (pe_op op_mul (pe_op op_fdivW (pe_ix (r := rIxT K) ix_tup (pv 11) pe_int (fun _ _ => rfl)) (pv 4)) (pv 4)))) (pe_slice sl_list (pe_lc (own := [("_law_run", 12)]) (g := gName 12) rfl sc__law_due.nd (pi_list (pv 7)) (blkOk_by (own := [("_law_run", 12)]) (N := ["_law_sizes_here", "_law_length", "_law_blocks_here", "_law_level", "_law_size", "_law_starts", "_law_rows", "_law_runs_here", "_law_start", "_law_row", "_law_k", "_law_one", "_law_run"]) (sc := defScope (top 58)) (by decide +kernel)) (fun _ _ _ _ _ => pg_name (i := 12) sc__law_due.nd rfl (Or.inl rfl)) (fun _ _ _ _ _ => (pts_one (pt_cmpR op_ge (pe_ix (r := rIxT K) ix_tup (pv 12) pe_int (fun _ _ => rfl)) (pv 3) (nomark _)))) (fun _ _ _ _ _ => (pe_ix (r := rIxT K) ix_tup (pv 12) pe_int (fun _ _ => rfl)))) po_none (po_some pe_int))))))) (pss_cons (ps_setLc (i := 5) (own := [("_law_start", 8)]) (g := gName 8) rfl sc__law_due.nd rfl rfl (sw_true rfl rfl rfl (by decide +kernel)) (pi_list (pv 5)) (blkOk_by (own := [("_law_start", 8)]) (N := ["_law_sizes_here", "_law_length", "_law_blocks_here", "_law_level", "_law_size", "_law_starts", "_law_rows", "_law_runs_here", "_law_start", "_law_row", "_law_k", "_law_one", "_law_run"]) (sc := defScope (top 58)) (by decide +kernel)) (fun _ _ _ _ _ => pg_name (i := 8) sc__law_due.nd rfl (Or.inl rfl)) (fun _ _ _ _ _ => (pts_one (pt_cmpR op_le (pe_op op_add (pv 8) (pv 4)) (pv 1) (nomark _)))) (fun _ _ _ _ _ => (pv 8))) (pss_cons (ps_setLc (i := 6) (own := [("_law_start", 8)]) (g := gName 8) rfl sc__law_due.nd rfl rfl (sw_true rfl rfl rfl (by decide +kernel)) (pi_list (pv 5)) (blkOk_by (own := [("_law_start", 8)]) (N := ["_law_sizes_here", "_law_length", "_law_blocks_here", "_law_level", "_law_size", "_law_starts", "_law_rows", "_law_runs_here", "_law_start", "_law_row", "_law_k", "_law_one", "_law_run"]) (sc := defScope (top 58)) (by decide +kernel)) (fun _ _ _ _ _ => pg_name (i := 8) sc__law_due.nd rfl (Or.inl rfl)) (fun _ _ _ _ _ => pts_nil) (fun _ _ _ _ _ => (pe_tup (pa_cons (pcall D__law_cells_in hr (pa_cons (pv 0) (pa_cons (pv 2) (pa_cons (pv 3) (pa_cons (pv 8) pa_nil))))) (pa_cons (pv 8) pa_nil))))) (pss_cons (ps_setLc (i := 6) (own := [("_law_row", 9)]) (g := gName 9) rfl sc__law_due.nd rfl rfl (sw_true rfl rfl rfl (by decide +kernel)) (pi_list (pv 6)) (blkOk_by (own := [("_law_row", 9)]) (N := ["_law_sizes_here", "_law_length", "_law_blocks_here", "_law_level", "_law_size", "_law_starts", "_law_rows", "_law_runs_here", "_law_start", "_law_row", "_law_k", "_law_one", "_law_run"]) (sc := defScope (top 58)) (by decide +kernel)) (fun _ _ _ _ _ => pg_name (i := 9) sc__law_due.nd rfl (Or.inl rfl)) (fun _ _ _ _ _ => (pts_one (pt_cmpR op_notN (pe_ix (r := rIxT K) ix_tup (pv 9) pe_int (fun _ _ => rfl)) pe_non (nomark _)))) (fun _ _ _ _ _ => (pv 9))) (pss_one (ps_ret (pe_ifExp (pt_cmpR (op_neNil hr.units) (pv 6) (pe_lst pa_nil) (nomark _)) (pe_tup (pa_cons (pe_ix (r := rIxT K) ix_tup (pe_callB (cr_minP rfl (u64 hr)) (by rfl) T.n_min (by decide +kernel) (pa_cons (pv 6) pa_nil)) pe_int (fun _ _ => rfl)) (pa_cons (pe_ix (r := rIxT K) ix_tup (pe_callB (cr_minP rfl (u64 hr)) (by rfl) T.n_min (by decide +kernel) (pa_cons (pv 6) pa_nil)) pe_int (fun _ _ => rfl)) pa_nil))) pe_non)))))))), ?_⟩)
  · obtain ⟨s, a, ns, n, qs, bs, k, rfl, _⟩ := h
    rfl
  · obtain ⟨s, a, ns, n, qs, bs, k, rfl, hs, g, ha, rf, wf, n0, n9, b100, hk, q⟩ := h
    have sl : sizeLine = 16777216 := sizeLine_eq
    have two : 2 ≤ sizeLine := by decide
    have z1 := (chain g).pos k hk
    have z9 := sz_le g hk
    have B : Bl ns H a qs bs := ⟨ha, rf, fun b hb => (wf.ok b hb).1, by omega⟩
    refine ⟨_, rfl, _, rfl, s, _, _, _, rfl, rfl, SqL.of hs, at_sz hk, ?_⟩
    refine ⟨_, rfl, _, rfl, _, _, rfl, rfl, div_ok z1 z9, _, _, rfl, rfl, _, rfl, ?_⟩
    by_cases hc : n / sz ns k ≤ 320
    case' pos =>
      refine iteT' (decide_eq_true hc) ?_
      have nz0 : 0 ≤ n / sz ns k := Int.ediv_nonneg n0 (by omega)
      refine ⟨_, rfl, _, rfl, _, _, rfl, rfl, div_ok z1 z9, _, rfl, (by omega), (by omega), fun L hL => ?_⟩
      refine lc_range (fun i G => G L = some (.lst (((List.range i).map fun j : Nat => (j : Int) * sz ns k).map V.int)) ∧ Same H G) ⟨upd_same, same_upd hL⟩ ?_ ?_
      · rintro i G hi ⟨hG, sm⟩
        refine ⟨rfl, _, rfl, _, rfl, _, _, rfl, rfl, .inr ⟨by omega, by omega⟩, _, hG, (by rw [List.length_map, List.length_map, List.length_range]; omega), ?_, fun c o e => ?_⟩
        · rw [upd_same, List.range_succ, List.map_append, List.map_append, Int.zero_add]
          rfl
        · rw [upd_ne (ne_of_none e hL)]
          exact sm c o e
      rintro H1 ⟨hL1, s1⟩
      have C : Cov ns n bs k ((List.range (n / sz ns k).toNat).map fun j : Nat => (j : Int) * sz ns k) := cov_small g hk
      have l20 : ((List.range (n / sz ns k).toNat).map fun j : Nat => (j : Int) * sz ns k).length ≤ 400 := by rw [List.length_map, List.length_range]; omega
      generalize ((List.range (n / sz ns k).toNat).map fun j : Nat => (j : Int) * sz ns k) = ss at hL1 C l20
    case' neg =>
      refine iteF' (decide_eq_false hc) ?_
      refine ⟨_, rfl, _, rfl, _, rfl, s, a, ns, n, qs, bs, rfl, hs, g, ha, rf, wf.un, n0, n9, b100, fun R ps rs H0 hR s0 hR0 rfr FO => ?_⟩
      refine ⟨_, rfl, a, rfl, ⟨_, SqL.of (s0 _ _ ha)⟩, fun D hD => ?_⟩
      refine lc_list (K := K) (a := a) (xs := qs.map V.ref) (fun i G => G D = some (.lst (((bs.take i).map fun b => b.1 / sz ns k * sz ns k).map V.int)) ∧ Same H0 G) ⟨upd_same, same_upd hD⟩ (fun i G _ ⟨_, sm⟩ => SqL.of (sm _ _ (s0 _ _ ha))) ?_ ?_
      · rintro i x G hx ⟨hG, sm⟩
        obtain ⟨p, hp, rfl⟩ := ref_of hx
        obtain ⟨b, hb, hT⟩ := (rf.same (s0.trans sm)).get hp
        have hT' : G p = some (.tup [.int b.1, .int (b.2.1 : Nat), .bl b.2.2]) := hT
        have o := wf.ok b (List.mem_of_getElem? hb)
        have b9 : b.1 + sz ns b.2.1 ≤ n := o.2.2.2
        have zb := (chain g).pos _ o.1
        have d0 : 0 ≤ b.1 / sz ns k := Int.ediv_nonneg o.2.1 (by omega)
        have d1 : b.1 / sz ns k ≤ b.1 := Int.ediv_le_self _ o.2.1
        have il := (List.getElem?_eq_some_iff.mp hb).1
        refine ⟨rfl, _, rfl, p, _, _, _, rfl, rfl, .inl (.inl hT'), rfl, _, rfl, _, _, rfl, rfl, div_ok z1 z9, _, rfl, _, _, rfl, rfl, .inr ⟨by omega, by omega⟩, _, hG, (by rw [List.length_map, List.length_map, List.length_take]; omega), ?_, fun c o e => ?_⟩
        · rw [upd_same, take_at hb, List.map_append, List.map_append]
          rfl
        · rw [upd_ne (ne_of_none e hD)]
          exact sm c o e
      rintro G0 ⟨hD0, sD⟩
      have ql := rf.len
      rw [List.length_map, ql, List.take_length] at hD0
      refine ⟨_, rfl, R, rfl, ⟨_, SqL.of (sD _ _ hR0)⟩, fun D2 hD2 => ?_⟩
      have rl := rfr.len
      have rl2 := FO.len
      refine lc_list (K := K) (a := R) (xs := ps.map V.ref) (fun i G => G D2 = some (.lst ((((rs.take i).filter fun r => decide (k ≤ r.1)).map fun r => r.2.1).map V.int)) ∧ Same G0 G) ⟨upd_same, same_upd hD2⟩ (fun i G _ ⟨_, sm⟩ => SqL.of (sm _ _ (sD _ _ hR0))) ?_ ?_
      · rintro i x G hx ⟨hG, sm⟩
        obtain ⟨p, hp, rfl⟩ := ref_of hx
        obtain ⟨r, hrr, hT⟩ := (rfr.same (sD.trans sm)).get hp
        have hT' : G p = some (.tup [.int (r.1 : Nat), .int r.2.1, .int r.2.2]) := hT
        have il := (List.getElem?_eq_some_iff.mp hrr).1
        have fl := List.length_filter_le (fun r : M16.Run => decide (k ≤ r.1)) (rs.take i)
        rw [List.length_take] at fl
        refine ⟨rfl, _, rfl, p, _, _, _, rfl, rfl, .inl (.inl hT'), rfl, _, rfl, _, _, rfl, rfl, _, rfl, ?_⟩
        by_cases hk2 : (k : Int) ≤ (r.1 : Nat)
        · refine ifT (decide_eq_true hk2) ⟨_, rfl, p, _, _, _, rfl, rfl, .inl (.inl hT'), rfl, _, hG, (by rw [List.length_map, List.length_map]; omega), ?_, fun c o e => ?_⟩
          · rw [upd_same, filter_atG _ hrr, if_pos (decide_eq_true (by omega)), List.map_append, List.map_append]
            rfl
          · rw [upd_ne (ne_of_none e hD2)]
            exact sm c o e
        · refine ifF (decide_eq_false hk2) ⟨?_, sm⟩
          rw [filter_atG _ hrr, if_neg (by rw [decide_eq_true_eq]; omega), List.append_nil]
          exact hG
      rintro G1 ⟨hD21, sD2⟩
      rw [List.length_map, rl, List.take_length] at hD21
      refine ⟨_, rfl, D2, _, rfl, SqL.of hD21, fun D3 hD3 => ?_⟩
      have e1 : cutV (((rs.filter fun r => decide (k ≤ r.1)).map fun r => r.2.1).map V.int) none (some 1) = (((rs.filter fun r => decide (k ≤ r.1)).map fun r => r.2.1).take 1).map V.int := by
        rw [show (1 : Int) = ((1 : Nat) : Int) from rfl, cut_to, List.map_take]
      rw [e1]
      have C : Cov ns n bs k ((bs.map fun b => b.1 / sz ns k * sz ns k) ++ ((rs.filter fun r => decide (k ≤ r.1)).map fun r => r.2.1).take 1) := cov_large wf g hk FO
      have l1 : (((rs.filter fun r => decide (k ≤ r.1)).map fun r => r.2.1).take 1).length ≤ 1 := by rw [List.length_take]; omega
      generalize ((rs.filter fun r => decide (k ≤ r.1)).map fun r => r.2.1).take 1 = tl at C l1
      have s3 := (sD.trans sD2).trans (same_upd (o := .lst (tl.map V.int)) hD3)
      refine ⟨D, D3, _, _, rfl, rfl, (sD2.trans (same_upd (o := .lst (tl.map V.int)) hD3)) _ _ hD0, upd_same, (by rw [List.length_map, List.length_map, List.length_map]; omega), fun L hL => ?_⟩
      have hL1 : (upd (upd G1 D3 (.lst (tl.map V.int))) L (.lst ((bs.map fun b => b.1 / sz ns k * sz ns k).map V.int ++ tl.map V.int))) L = some (.lst (((bs.map fun b => b.1 / sz ns k * sz ns k) ++ tl).map V.int)) := by rw [upd_same, List.map_append]
      have s1 := s0.trans (s3.trans (same_upd (o := .lst ((bs.map fun b => b.1 / sz ns k * sz ns k).map V.int ++ tl.map V.int)) hL))
      have l20 : ((bs.map fun b => b.1 / sz ns k * sz ns k) ++ tl).length ≤ 400 := by rw [List.length_append, List.length_map]; omega
      generalize upd (upd G1 D3 (.lst (tl.map V.int))) L (.lst ((bs.map fun b => b.1 / sz ns k * sz ns k).map V.int ++ tl.map V.int)) = H1 at hL1 s1
      generalize ((bs.map fun b => b.1 / sz ns k * sz ns k) ++ tl) = ss at hL1 C l20
    all_goals
      refine ⟨_, rfl, L, rfl, ⟨_, SqL.of hL1⟩, fun D4 hD4 => ?_⟩
      refine lc_list (K := K) (a := L) (xs := ss.map V.int) (fun i G => G D4 = some (.lst (((ss.take i).filter fun s => decide (s + sz ns k ≤ n)).map V.int)) ∧ Same H1 G) ⟨upd_same, same_upd hD4⟩ (fun i G _ ⟨_, sm⟩ => SqL.of (sm _ _ hL1)) ?_ ?_
      · rintro i x G hx ⟨hG, sm⟩
        obtain ⟨s', hs', rfl⟩ := int_of hx
        have il := (List.getElem?_eq_some_iff.mp hs').1
        have fl := List.length_filter_le (fun s => decide (s + sz ns k ≤ n)) (ss.take i)
        rw [List.length_take] at fl
        refine ⟨rfl, _, rfl, _, rfl, _, _, rfl, rfl, _, rfl, _, _, rfl, rfl, _, rfl, ?_⟩
        by_cases hn : s' + sz ns k ≤ n
        · refine ifT (decide_eq_true hn) ⟨_, rfl, _, hG, (by rw [List.length_map]; omega), ?_, fun c o e => ?_⟩
          · rw [upd_same, filter_atG _ hs', if_pos (decide_eq_true hn), List.map_append]
            rfl
          · rw [upd_ne (ne_of_none e hD4)]
            exact sm c o e
        · refine ifF (decide_eq_false hn) ⟨?_, sm⟩
          rw [filter_atG _ hs', if_neg (by rw [decide_eq_true_eq]; exact hn), List.append_nil]
          exact hG
      rintro H2 ⟨hD4', s2⟩
      rw [List.length_map, List.take_length] at hD4'
      have dn : rowsI ns bs k (ss.filter fun s => decide (s + sz ns k ≤ n)) = [] → DueP ns n bs k none := due_none C
      have ds : ∀ m ∈ rowsI ns bs k (ss.filter fun s => decide (s + sz ns k ≤ n)), (∀ c ∈ rowsI ns bs k (ss.filter fun s => decide (s + sz ns k ≤ n)), leP m c) → DueP ns n bs k (some (m.2, m.1)) := fun m hm le => due_some C hm le
      have fl := List.length_filter_le (fun s => decide (s + sz ns k ≤ n)) ss
      generalize (ss.filter fun s => decide (s + sz ns k ≤ n)) = ts at hD4' dn ds fl
      have s12 := s1.trans s2
      refine ⟨_, rfl, D4, rfl, ⟨_, SqL.of hD4'⟩, fun D5 hD5 => ?_⟩
      refine lc_list (K := K) (a := D4) (xs := ts.map V.int) (fun i G => ∃ us : List Addr, G D5 = some (.lst (us.map V.ref)) ∧ Refs (rowV ns bs k) G us (ts.take i) ∧ Same H2 G) ⟨[], upd_same, .nil, same_upd hD5⟩ (fun i G _ ⟨_, _, _, sm⟩ => SqL.of (sm _ _ hD4')) ?_ ?_
      · rintro i x G hx ⟨us, hG, rr, sm⟩
        obtain ⟨s', hs', rfl⟩ := int_of hx
        have il := (List.getElem?_eq_some_iff.mp hs').1
        have ul := rr.len
        rw [List.length_take] at ul
        have s1G := s12.trans sm
        refine ⟨rfl, _, rfl, _, rfl, _, rfl, _, rfl, s, a, ns, qs, bs, k, s', rfl, s1G _ _ hs, B.same s1G, hk, fun G2 s3 => ⟨_, rfl, two, fun u hu => ?_⟩⟩
        have hG2 := s3 _ _ hG
        have nD : D5 ≠ u := ne_of_none hG2 hu
        refine ⟨_, (by rw [upd_ne nD]; exact hG2), (by rw [List.length_map]; omega), us ++ [u], ?_, ?_, fun c o e => ?_⟩
        · rw [upd_same, List.map_append]
          rfl
        · rw [take_snoc hs']
          exact Refs.more (u := s') (rr.same s3) hG2 hu
        · rw [upd_ne (ne_of_none e hD5), upd_ne (ne_of_none (s3 _ _ (sm c o e)) hu)]
          exact s3 _ _ (sm c o e)
      rintro H3 ⟨us, hD5', rr, s3⟩
      rw [List.length_map, List.take_length] at rr
      have ul := rr.len
      refine ⟨_, rfl, D5, rfl, ⟨_, SqL.of hD5'⟩, fun D6 hD6 => ?_⟩
      refine lc_list (K := K) (a := D5) (xs := us.map V.ref) (fun i G => ∃ ws : List Addr, G D6 = some (.lst (ws.map V.ref)) ∧ Refs prV G ws (rowsI ns bs k (ts.take i)) ∧ Same H3 G) ⟨[], upd_same, .nil, same_upd hD6⟩ (fun i G _ ⟨_, _, _, sm⟩ => SqL.of (sm _ _ hD5')) ?_ ?_
      · rintro i x G hx ⟨ws, hG, rw', sm⟩
        obtain ⟨p, hp, rfl⟩ := ref_of hx
        obtain ⟨s', hs', hT⟩ := (rr.same sm).get hp
        have hT' : G p = some (.tup [optV (cellsI ns bs k s'), .int s']) := hT
        have il := (List.getElem?_eq_some_iff.mp hs').1
        have wl := rw'.len
        have fl2 := rows_len (ns := ns) (bs := bs) (k := k) (ts.take i)
        rw [List.length_take] at fl2
        cases ec : cellsI ns bs k s' with
        | none =>
          have hT2 : G p = some (.tup [.non, .int s']) := by rw [hT', ec]; rfl
          refine ⟨rfl, _, rfl, p, _, _, _, rfl, rfl, .inl (.inl hT2), rfl, rfl, _, rfl, iteF' rfl ⟨ws, hG, ?_, sm⟩⟩
          rw [take_snoc hs', rows_snoc, ec, List.append_nil]
          exact rw'
        | some x =>
          have hT2 : G p = some (.tup [.int x, .int s']) := by rw [hT', ec]; rfl
          refine ⟨rfl, _, rfl, p, _, _, _, rfl, rfl, .inl (.inl hT2), rfl, rfl, _, rfl, iteT' rfl ⟨_, rfl, _, hG, (by rw [List.length_map]; omega), ws ++ [p], ?_, ?_, fun c o e => ?_⟩⟩
          · rw [upd_same, List.map_append]
            rfl
          · rw [take_snoc hs', rows_snoc, ec]
            refine (rw'.app (Refs.one (t := (x, s')) hT2)).mono fun c zs ec => ?_
            rw [upd_ne (fun z => by rw [z, hG] at ec; cases ec)]
            exact ec
          · rw [upd_ne (ne_of_none e hD6)]
            exact sm c o e
      rintro H4 ⟨ws, hD6', rw', s4⟩
      rw [List.length_map, ul, List.take_length] at rw'
      have s124 := (s12.trans s3).trans s4
      have wl := rw'.len
      have fl2 := rows_len (ns := ns) (bs := bs) (k := k) ts
      generalize rowsI ns bs k ts = ms at rw' dn ds wl fl2
      refine ⟨_, rfl, (by show 0 ≤ sizeLine; decide), fun Z hZ => ?_⟩
      have hZ' : (upd H4 Z (.lst [])) Z = some (.lst []) := upd_same
      have s5 := same_upd (o := .lst []) hZ
      have hD6z := s5 _ _ hD6'
      have rwz := rw'.same s5
      have s15 := s124.trans s5
      generalize upd H4 Z (.lst []) = H5 at hZ' hD6z rwz s15
      refine ⟨D6, Z, _, rfl, rfl, SqL.of hD6z, SqL.of hZ', _, rfl, ?_⟩
      cases ms with
      | nil =>
        cases rwz
        refine iteF' rfl ?_
        exact q none _ _ (dn rfl) rfl s15
      | cons m0 mt =>
        have wne : ws.length ≠ 0 := by rw [wl]; simp
        refine iteT' (by rw [List.length_map, decide_eq_false wne]; rfl) ?_
        refine ⟨_, rfl, D6, ws, _, rfl, SqL.of hD6z, rwz, (fun z => nomatch z), fun t1 m1 hm1 ht1 le1 => ?_⟩
        refine ⟨t1, _, _, _, rfl, rfl, .inl (.inl ht1), rfl, ?_⟩
        refine ⟨_, rfl, D6, ws, _, rfl, SqL.of hD6z, rwz, (fun z => nomatch z), fun t2 m2 hm2 ht2 le2 => ?_⟩
        refine ⟨t2, _, _, _, rfl, rfl, .inl (.inl ht2), rfl, two, fun u hu => ?_⟩
        have em : m1 = m2 := leP_antisymm (le1 _ hm2) (le2 _ hm1)
        subst em
        exact q (some (m1.2, m1.1)) _ _ (ds _ hm1 le1) ⟨u, rfl, upd_same⟩ (s15.trans (same_upd hu))
end
end K35

set_option Elab.async false
set_option linter.all false
set_option maxRecDepth 100000
set_option maxHeartbeats 800000
set_option pp.maxSteps 900
namespace K35
open PySem PySem.Spec PyProof.Rows L2 Gu Ex
def Raised (K : PySem.W.Frag) (c n : Str) (v : V) (H : Hp) (E : XK) : Prop := ∀ d H', H d = none → Same H H' → H' d = some (.xd [(n, v)]) → E (.ref (He.ga K c)) (some d) H'
theorem Raised.same {K : PySem.W.Frag} {c n : Str} {v : V} {H H1 : Hp} {E : XK} (h : Raised K c n v H E) (s : Same H H1) : Raised K c n v H1 E := fun d H' e s2 x => h d H' (s.free e) (s.trans s2) x
/-- is it a level? -/
def lvB (ns : List Int) : V → Bool
  | .int i => decide (0 ≤ i ∧ i < ns.length)
  | _ => false
section
variable {P : Program} {w : World} {K : PySem.W.Frag} {mg : Str → Option Value} {base : Heap} {f : Addr} {fd : FuncData}
theorem sc_InvalidLevel_init : FnScope ["self", "value"] ["self", "value"] (defScope (inClass (top 4) 0)) := ⟨rfl, rfl, rfl, by decide +kernel, rfl, by decide +kernel, by decide +kernel⟩
theorem ok_errL (T : Tx K mg) (F : FnP K "__init__" "InvalidLevel.__init__" (inClass (top 4) 0) f fd) : FnOk P w K mg base CX0 1 f fd ["self", "value"] (Ex.spErr (cL K) "value") := by
  refine F.ok sc_InvalidLevel_init (fun vs H Q E h => ?_) (fun cdv A outer s H vs Q E hr h => ⟨_, PSs.nox (pss_one (ps_fst (B := "ValueError") (tl := tailE "ValueError") (pv 0) (pv 1))), ?_⟩)
  · obtain ⟨a, v, rfl, _⟩ := h
    rfl
  · obtain ⟨a, v, rfl, ha, q⟩ := h
    exact ⟨_, rfl, _, rfl, a, cL K, rfl, T.eL.ox, T.eL.no, ha, q⟩
def spHasA (K : PySem.W.Frag) : Sp := fun vs H Q _ => ∃ (p : Addr) (ns : List Int) (v : V), vs = [.ref p, v] ∧ SzAt (He.ga K "Sizes") H p ns ∧ Any H v ∧ lvB ns v = false ∧ Q (.bl false) H
theorem ok_hasA (T : Tx K mg) (D_is_integer : Df P w K mg base 1 "is_integer" ["value"] spIntA) (P_top : Pf P w K mg base 1 "Sizes" "top" (spTop K)) (F : FnP K "has_level" "Sizes.has_level" (inClass (top 19) 12) f fd) :
    FnOk P w K mg base CX0 3 f fd ["self", "level"] (spHasA K) := by
  refine F.ok sc_has_level (fun vs H Q E h => ?_) (fun cdv A outer s H vs Q E hr h => ⟨_, PSs.nox (pss_one (ps_ret (pe_and (pcall D_is_integer hr (pa_cons (pv 1) pa_nil)) (pe_one (pe_chain op_le op_le pe_int (pv 1) (pprop P_top hr (pv 0))))))), ?_⟩)
  · obtain ⟨p, ns, v, rfl, _⟩ := h
    rfl
  · obtain ⟨p, ns, v, rfl, hz, hv, no, q⟩ := h
    obtain ⟨dx, l, h1, h2⟩ := id hz
    refine ⟨_, rfl, v, rfl, hv, _, rfl, ?_⟩
    cases v with
    | int i =>
      refine iteT ?_
      by_cases i0 : 0 ≤ i
      · refine ⟨_, rfl, _, _, rfl, rfl, true, bT i0, iteT ?_⟩
        refine ⟨_, rfl, p, dx, _, rfl, h1, p, ns, rfl, hz, _, _, rfl, rfl, ?_⟩
        have e : decide (i ≤ (ns.length : Int) - 1) = false := decide_eq_false fun z => by
          have := of_decide_eq_false no
          omega
        show Q (.bl (decide (i ≤ (ns.length : Int) - 1))) H
        rw [e]
        exact q
      · exact ⟨_, rfl, _, _, rfl, rfl, false, bF i0, iteF q⟩
    | _ => exact iteF q
def spChkR (K : PySem.W.Frag) : Sp := fun vs H Q E => ∃ (p : Addr) (ns : List Int) (v : V), vs = [.ref p, v] ∧ SzAt (He.ga K "Sizes") H p ns ∧ Any H v ∧ lvB ns v = false ∧ Raised K "InvalidLevel" "value" v H E
theorem ok_chkR (T : Tx K mg) (M_has_level : Mf P w K mg base 3 "Sizes" "has_level" ["self", "level"] (spHasA K)) (M : Ex.Ei P w K mg base "InvalidLevel" "value") (F : FnP K "check_level" "Sizes.check_level" (inClass (top 19) 13) f fd) :
    FnOk P w K mg base (L2.CX P w) 4 f fd ["self", "level"] (spChkR K) := by
  obtain ⟨fdI, FI, bI⟩ := M.ex
  refine F.ok sc_check_level (fun vs H Q E h => ?_) (fun cdv A outer s H vs Q E hr h => ⟨_, (pss_one (ps_if (pt_not (pt_val (pmeth M_has_level hr (pv 0) (pa_cons (pv 1) pa_nil)))) (pss_one (ps_raise rfl (takes_of (E := E) rfl rfl rfl rfl) (pmk_oexG T.eL.ox T.eL.ii T.eL.ti FI (hr.mono (by decide)) bI .nil pass0 rfl T.g_InvalidLevel (pa_cons (pv 1) pa_nil)))) pss_nil)), ?_⟩)
  · obtain ⟨p, ns, v, rfl, _⟩ := h
    rfl
  · obtain ⟨p, ns, v, rfl, hz, hv, no, q⟩ := h
    obtain ⟨dx, l, h1, h2⟩ := id hz
    exact ⟨_, rfl, p, dx, _, rfl, h1, szF_no l (by decide +kernel), _, rfl, p, ns, v, rfl, hz, hv, no, _, rfl, iteT ⟨_, rfl, (by show 1 ≤ 1000; decide), raise_ok q⟩⟩
theorem ok_sizeR (T : Tx K mg) (M_check_level : MfX P w K mg base 4 "Sizes" "check_level" ["self", "level"] (spChkR K)) (F : FnP K "size" "Sizes.size" (inClass (top 19) 14) f fd) :
    FnOk P w K mg base (L2.CX P w) 5 f fd ["self", "level"] (spChkR K) := by
  refine F.ok sc_size (fun vs H Q E h => ?_) (fun cdv A outer s H vs Q E hr h => ⟨_, (pss_cons (ps_expr (pmethX M_check_level hr (passX (takes_of (E := E) rfl rfl rfl rfl)) (pv 0) (pa_cons (pv 1) pa_nil))) (pss_one (ps_ret (pe_ix ix_list (pe_fld (pv 0) rfl) (pv 1) (fun _ _ => rfl))))), ?_⟩)
  · obtain ⟨p, ns, v, rfl, _⟩ := h
    rfl
  · obtain ⟨p, ns, v, rfl, hz, hv, no, q⟩ := h
    obtain ⟨dx, l, h1, h2⟩ := id hz
    exact ⟨_, rfl, p, dx, _, rfl, h1, szF_no l (by decide +kernel), _, rfl, p, ns, v, rfl, hz, hv, no, q⟩
def spCountR (K : PySem.W.Frag) : Sp := fun vs H Q E => ∃ (p : Addr) (ns : List Int) (v x y : V), vs = [.ref p, v, x, y] ∧ SzAt (He.ga K "Sizes") H p ns ∧ Any H v ∧ lvB ns v = false ∧ Raised K "InvalidLevel" "value" v H E
theorem ok_countR (T : Tx K mg) (X_size : MfX P w K mg base 5 "Sizes" "size" ["self", "level"] (spChkR K)) (D_check_range : Df P w K mg base 3 "check_range" ["low", "high"] spRange) (D_region_start : Df P w K mg base 6 "region_start" ["sizes", "level", "address"] (spStart K)) (D_next_start : Df P w K mg base 1 "next_start" ["size", "address"] spNext)
    (F : FnP K "count_regions" "count_regions" (top 28) f fd) : FnOk P w K mg base (L2.CX P w) 7 f fd ["sizes", "level", "low", "high"] (spCountR K) := by
  refine F.ok sc_count_regions (fun vs H Q E h => ?_) (fun cdv A outer s H vs Q E hr h => ⟨_, (pss_cons (ps_set (i := 4) sc_count_regions.nd rfl (by first | exact Or.inl rfl | exact Or.inr rfl) (pmethX X_size hr (passX (takes_of (E := E) rfl rfl rfl rfl)) (pv 0) (pa_cons (pv 1) pa_nil))) (pss_cons (ps_expr (pcall D_check_range hr (pa_cons (pv 2) (pa_cons (pv 3) pa_nil)))) (pss_one (ps_ret (pe_callB (call_max2 rfl) (by rfl) T.n_max (by decide +kernel) (pa_cons pe_int (pa_cons (pe_op op_fdivW (pe_op op_sub (pcall D_region_start hr (pa_cons (pv 0) (pa_cons (pv 1) (pa_cons (pv 3) pa_nil)))) (pcall D_next_start hr (pa_cons (pv 4) (pa_cons (pv 2) pa_nil)))) (pv 4)) pa_nil))))))), ?_⟩)
  · obtain ⟨p, ns, v, x, y, rfl, _⟩ := h
    rfl
  · obtain ⟨p, ns, v, x, y, rfl, hz, hv, no, q⟩ := h
    obtain ⟨dx, l, h1, h2⟩ := id hz
    exact ⟨_, rfl, p, dx, _, rfl, h1, szF_no l (by decide +kernel), _, rfl, p, ns, v, rfl, hz, hv, no, q⟩
def spLowR (K : PySem.W.Frag) : Sp := fun vs H Q E => ∃ (p dx zp cl st lo go : Addr) (ns : List Int) (n : Int) (qs : List Addr) (rc : List (Int × Int)) (cs : List Blk) (v : V), vs = [.ref p, v] ∧ Pn K H p dx zp cl st lo go ns n qs rc cs ∧ Any H v ∧ lvB ns v = false ∧ (∀ H', Same H H' → Q .non H') ∧ Raised K "InvalidLevel" "value" v H E
theorem ok_lowR (T : Tx K mg) (M_free_gaps : Mf P w K mg base 6 "Plan" "free_gaps" ["self"] (spPG K)) (X_count_regions : DfX P w K mg base 7 "count_regions" ["sizes", "level", "low", "high"] (spCountR K)) (M_size : Mf P w K mg base 5 "Sizes" "size" ["self", "level"] (spSize K)) (D_next_start : Df P w K mg base 1 "next_start" ["size", "address"] spNext)
    (F : FnP K "lowest_free" "Plan.lowest_free" (inClass (top 30) 3) f fd) : FnOk P w K mg base (L2.CX P w) 8 f fd ["self", "level"] (spLowR K) := by
  refine F.ok sc_lowest_free (fun vs H Q E h => ?_) (fun cdv A outer s H vs Q E hr h => ⟨_, (pss_cons (ps_for (passes_of rfl) rfl (pi_list (pmeth0 M_free_gaps hr (pv 0))) (pg_tup (by rfl) (pgs_cons (pg_name (i := 2) sc_lowest_free.nd rfl (by first | exact Or.inl rfl | exact Or.inr rfl)) (pgs_cons (pg_name (i := 3) sc_lowest_free.nd rfl (by first | exact Or.inl rfl | exact Or.inr rfl)) pgs_nil))) (pss_one (ps_if (pt_cmpR op_gt (pcallX X_count_regions hr (passX (takes_of (E := E) rfl rfl rfl rfl)) (pa_cons (pe_fld (pv 0) rfl) (pa_cons (pv 1) (pa_cons (pv 2) (pa_cons (pv 3) pa_nil))))) pe_int (nomark _)) (pss_one (ps_ret (pcall D_next_start hr (pa_cons (pmeth M_size hr (pe_fld (pv 0) rfl) (pa_cons (pv 1) pa_nil)) (pa_cons (pv 2) pa_nil))))) pss_nil))) (pss_one (ps_ret pe_non))), ?_⟩)
  · obtain ⟨p, dx, zp, cl, st, lo, go, ns, n, qs, rc, cs, v, rfl, _⟩ := h
    rfl
  · obtain ⟨p, dx, zp, cl, st, lo, go, ns, n, qs, rc, cs, v, rfl, Pp, hv, no, q1, q2⟩ := h
    refine ⟨_, rfl, p, dx, _, rfl, Pp.at_, pl_no (by decide +kernel), p, dx, zp, cl, st, lo, go, ns, n, qs, rc, cs, rfl, Pp, fun M ms H1 hM0 sm1 hM rM => ?_⟩
    refine ⟨M, rfl, ⟨_, SqL.of hM⟩, ?_⟩
    refine for_list (K := K) (a := M) (xs := ms.map V.ref) (fun i σ G => (∃ x2 x3, σ = [some (.ref p), some v, x2, x3]) ∧ G = H1)
      ⟨⟨none, none, rfl⟩, rfl⟩ (fun i σ G _ h => by rw [h.2]; exact SqL.of hM) ?_ ?_
    · rintro i x σ G hx ⟨⟨x2, x3, rfl⟩, rfl⟩
      obtain ⟨u, hu, rfl⟩ := ref_of hx
      obtain ⟨g, hg, hT⟩ := rM.get hu
      have hT' : G u = some (.tup [.int g.1, .int g.2]) := hT
      have P1 := Pp.same sm1
      refine ⟨u, _, rfl, .inl (.inl hT'), rfl, _, _, rfl, _, _, rfl, rfl, ?_⟩
      exact ⟨_, rfl, p, _, dx, _, _, rfl, P1.at_, T.pl, T.pST, pl_zp, _, rfl, _, rfl, _, rfl, zp, ns, v, _, _, rfl, P1.szs, hv.same sm1, no, q2.same sm1⟩
    · rintro σ G ⟨⟨x2, x3, rfl⟩, rfl⟩
      exact q1 G sm1
def spFillR (K : PySem.W.Frag) : Sp := fun vs H Q E => ∃ (p dx zp cl st lo go : Addr) (ns : List Int) (n : Int) (qs : List Addr) (rc : List (Int × Int)) (cs : List Blk) (v : V), vs = [.ref p, v] ∧ Pn K H p dx zp cl st lo go ns n qs rc cs ∧ Any H v ∧ lvB ns v = false ∧ Raised K "InvalidLevel" "value" v H E
theorem ok_fillR (T : Tx K mg) (X_size : MfX P w K mg base 5 "Sizes" "size" ["self", "level"] (spChkR K)) (M_size : Mf P w K mg base 5 "Sizes" "size" ["self", "level"] (spSize K)) (D_region_start : Df P w K mg base 6 "region_start" ["sizes", "level", "address"] (spStart K))
    (F : FnP K "filled_regions" "Plan.filled_regions" (inClass (top 30) 4) f fd) : FnOk P w K mg base (L2.CX P w) 7 f fd ["self", "level"] (spFillR K) := by
  refine F.ok sc_filled_regions (fun vs H Q E h => ?_) (fun cdv A outer s H vs Q E hr h => ⟨_, (pss_cons (ps_set (i := 2) sc_filled_regions.nd rfl (by first | exact Or.inl rfl | exact Or.inr rfl) (pmethX X_size hr (passX (takes_of (E := E) rfl rfl rfl rfl)) (pe_fld (pv 0) rfl) (pa_cons (pv 1) pa_nil))) (pss_cons (ps_setScI (i := 3) (own := [("low", 8), ("high", 9)]) (g := gTup K 2 (gCons (gName 8) (gCons (gName 9) gNil))) rfl sc_filled_regions.nd rfl rfl (sw_trueS rfl rfl rfl (by decide +kernel)) (pi_list (pe_fld (pv 0) rfl)) (blkOk_by (own := [("low", 8), ("high", 9)]) (N := ["self", "level", "size", "spoiled", "filled", "address", "block_level", "start", "low", "high"]) (sc := defScope (inClass (top 30) 4)) (by decide +kernel)) (fun _ _ _ _ _ => pg_tup rfl (pgs_cons (pg_name (i := 8) sc_filled_regions.nd rfl (Or.inl rfl)) (pgs_cons (pg_name (i := 9) sc_filled_regions.nd rfl (Or.inl rfl)) pgs_nil))) (fun _ _ _ _ _ => pts_nil) (fun _ _ _ _ _ => (pcall D_region_start hr (pa_cons (pfldB K (pv 0)) (pa_cons (pv 1) (pa_cons (pv 8) pa_nil)))))) (pss_cons (ps_set (i := 4) sc_filled_regions.nd rfl (by first | exact Or.inl rfl | exact Or.inr rfl) pe_dnewK) (pss_cons (ps_lock (ps_for (passes_of rfl) rfl (pi_items (pe_fld (pv 0) rfl)) (pg_tup (by rfl) (pgs_cons (pg_name (i := 5) sc_filled_regions.nd rfl (by first | exact Or.inl rfl | exact Or.inr rfl)) (pgs_cons (pg_name (i := 6) sc_filled_regions.nd rfl (by first | exact Or.inl rfl | exact Or.inr rfl)) pgs_nil))) (pss_cons (ps_set (i := 7) sc_filled_regions.nd rfl (by first | exact Or.inl rfl | exact Or.inr rfl) (pcall D_region_start hr (pa_cons (pe_fld (pv 0) rfl) (pa_cons (pv 1) (pa_cons (pv 5) pa_nil))))) (pss_one (ps_if (PW.pt (pw_and (pt_cmpR op_lt (pv 6) (pv 1) (nomark _)) (pw_and (pt_cmpR or_snotin (pv 7) (pv 3) rfl) (pw_and1 (pt_cmpR op_le (pe_op op_add (pv 7) (pv 2)) (pe_fld (pv 0) rfl) (nomark _)))))) (pss_one (ps_dput (u1 hr) (pv 4) (pv 7) (pe_op op_add (pe_dget2 (u1 hr) (pv 4) (pv 7) pe_int ⟨rfl, rfl, rfl, rfl⟩) (pmeth M_size hr (pe_fld (pv 0) rfl) (pa_cons (pv 6) pa_nil))) rfl)) pss_nil))))) (pss_one (ps_ret (pv 4))))))), ?_⟩)
  · obtain ⟨p, dx, zp, cl, st, lo, go, ns, n, qs, rc, cs, v, rfl, _⟩ := h
    rfl
  · obtain ⟨p, dx, zp, cl, st, lo, go, ns, n, qs, rc, cs, v, rfl, Pp, hv, no, q2⟩ := h
    obtain ⟨dz, l, z1, z2⟩ := id Pp.szs
    exact ⟨_, rfl, p, _, dx, _, _, rfl, Pp.at_, T.pl, T.pST, pl_zp, zp, dz, _, rfl, z1, szF_no l (by decide +kernel), _, rfl, zp, ns, v, rfl, Pp.szs, hv, no, q2⟩
theorem ok_cheapR (T : Tx K mg) (X_lowest_free : MfX P w K mg base 8 "Plan" "lowest_free" ["self", "level"] (spLowR K)) (X_filled_regions : MfX P w K mg base 7 "Plan" "filled_regions" ["self", "level"] (spFillR K))
    (F : FnP K "cheapest" "Plan.cheapest" (inClass (top 30) 5) f fd) : FnOk P w K mg base (L2.CX P w) 9 f fd ["self", "level"] (spFillR K) := by
  refine F.ok sc_cheapest (fun vs H Q E h => ?_) (fun cdv A outer s H vs Q E hr h => ⟨_, (pss_cons (ps_set (i := 2) sc_cheapest.nd rfl (by first | exact Or.inl rfl | exact Or.inr rfl) (pmethX X_lowest_free hr (passX (takes_of (E := E) rfl rfl rfl rfl)) (pv 0) (pa_cons (pv 1) pa_nil))) (pss_cons (ps_if (pt_cmpR op_notN (pv 2) pe_non (nomark _)) (pss_one (ps_ret (pe_tup (pa_cons (pv 2) (pa_cons pe_int pa_nil))))) pss_nil) (pss_cons (ps_set (i := 3) sc_cheapest.nd rfl (by first | exact Or.inl rfl | exact Or.inr rfl) (pmethX X_filled_regions hr (passX (takes_of (E := E) rfl rfl rfl rfl)) (pv 0) (pa_cons (pv 1) pa_nil))) (pss_cons (ps_if (pt_not (pt_truth (pv 3) (fun _ => rfl))) (pss_one (ps_ret pe_non)) pss_nil) (pss_cons (ps_asg (pe_callB (cr_minP rfl (u64 hr)) (by rfl) T.n_min (by decide +kernel) (pa_cons (pe_lock (pe_lc (own := [("start", 5)]) (g := gName 5) rfl sc_cheapest.nd (pi_keys (pv 3)) (blkOk_by (own := [("start", 5)]) (N := ["self", "level", "address", "filled", "cells", "start"]) (sc := defScope (inClass (top 30) 5)) (by decide +kernel)) (fun _ _ _ _ _ => pg_name (i := 5) sc_cheapest.nd rfl (Or.inl rfl)) (fun _ _ _ _ _ => pts_nil) (fun _ _ _ _ _ => (pe_tup (pa_cons (pe_dget (u1 hr) (pv 3) (pv 5) (fun _ _ => rfl)) (pa_cons (pv 5) pa_nil)))))) pa_nil)) (pg_tup (by rfl) (pgs_cons (pg_name (i := 4) sc_cheapest.nd rfl (by first | exact Or.inl rfl | exact Or.inr rfl)) (pgs_cons (pg_name (i := 2) sc_cheapest.nd rfl (by first | exact Or.inl rfl | exact Or.inr rfl)) pgs_nil)))) (pss_one (ps_ret (pe_tup (pa_cons (pv 2) (pa_cons (pv 4) pa_nil)))))))))), ?_⟩)
  · obtain ⟨p, dx, zp, cl, st, lo, go, ns, n, qs, rc, cs, v, rfl, _⟩ := h
    rfl
  · obtain ⟨p, dx, zp, cl, st, lo, go, ns, n, qs, rc, cs, v, rfl, Pp, hv, no, q2⟩ := h
    refine ⟨_, rfl, p, dx, _, rfl, Pp.at_, pl_no (by decide +kernel), _, rfl, p, dx, zp, cl, st, lo, go, ns, n, qs, rc, cs, v, rfl, Pp, hv, no, fun H1 s1 => ?_, q2⟩
    refine go_nm (nx_of (σ' := [some (.ref p), some v, some .non, none, none, none]) rfl ?_)
    refine ⟨_, rfl, rfl, _, rfl, iteF' rfl ?_⟩
    have P1 := Pp.same s1
    exact ⟨_, rfl, p, dx, _, rfl, P1.at_, pl_no (by decide +kernel), _, rfl, p, dx, zp, cl, st, lo, go, ns, n, qs, rc, cs, v, rfl, P1, hv.same s1, no, q2.same s1⟩
def spCRR (K : PySem.W.Frag) : Sp := fun vs H Q E => ∃ (y zp bl dx : Addr) (ps : List Addr) (ns : List Int) (n : Int) (bs : List Blk) (v : V), vs = [.ref y, v] ∧ Ly K H y zp bl dx ps ns n bs ∧ bs.length ≤ 900 ∧ Any H v ∧ lvB ns v = false ∧ Raised K "InvalidLevel" "value" v H E
theorem ok_crR (T : Tx K mg) (D_Plan : Kf P w K mg base 8 "Plan" ["self", "layout"] (spPlan K)) (X_cheapest : MfX P w K mg base 9 "Plan" "cheapest" ["self", "level"] (spFillR K))
    (F : FnP K "cheapest_region" "cheapest_region" (top 39) f fd) : FnOk P w K mg base (L2.CX P w) 10 f fd ["layout", "level"] (spCRR K) := by
  refine F.ok sc_cheapest_region (fun vs H Q E h => ?_) (fun cdv A outer s H vs Q E hr h => ⟨_, (pss_one (ps_ret (pmethX X_cheapest hr (passX (takes_of (E := E) rfl rfl rfl rfl)) (pmake D_Plan hr (pa_cons (pv 0) pa_nil)) (pa_cons (pv 1) pa_nil)))), ?_⟩)
  · obtain ⟨y, zp, bl, dx, ps, ns, n, bs, v, rfl, _⟩ := h
    rfl
  · obtain ⟨y, zp, bl, dx, ps, ns, n, bs, v, rfl, L, b9, hv, no, q⟩ := h
    refine ⟨_, rfl, fun x dp hx hdp ndx => ?_⟩
    have sm : Same H (upd (upd H dp (.own x)) x (.ins (He.ga K "Plan") dp [])) := fun c o e => by
      rw [upd_ne (ne_of_none e hx), upd_ne (ne_of_none e hdp)]
      exact e
    have L2 := L.same sm
    refine ⟨x, dp, y, zp, bl, dx, ps, ns, n, bs, rfl, upd_same, L2, b9, fun cl st lo go qs H' h1 h2 h3 h4 keep Pp => ?_⟩
    have s2 : Same H H' := fun c o e => keep c o (ne_of_none e hx) (sm c o e)
    exact ⟨rfl, x, dp, _, rfl, Pp.at_, pl_no (by decide +kernel), _, rfl, x, dp, zp, cl, st, lo, go, ns, n, qs, _, _, v, rfl, Pp, hv.same s2, no, q.same s2⟩
end
end K35

set_option Elab.async false
set_option linter.all false
set_option maxRecDepth 100000
set_option maxHeartbeats 4000000
set_option pp.maxSteps 900
namespace K35
open PySem PySem.Spec PyProof.Rows L2 Gu Ex
section
variable {X : Cx} {k j : Nat} {x : Str} {ps : List Str} {sp : Sp} {p pos : Pos} {e : Expr} {es : List Expr} {t : TA} {E : XK} {W : WX}
/-- f(e, ..) in a try's body -/
theorem pcallT (D : DfX X.prog X.w X.K X.mg X.base k x ps sp) (hr : Room j X.A) (tk : Takes X W) (ha : PA X (e :: es) t) (hj : k ≤ j := by decide) (hg : Gl X x := by rfl) (hdb : (x == ("__debug__" : Str)) = false := by decide)
    (he : starEach (e :: es) X.env = (false, eval e X.env) :: starEach es X.env := by rfl) (hpl : (backTo pos (starEach es X.env)).any (·.1) = false := by rfl) :
    PE X (.Call (.Name x p) (e :: es) [] pos) (tCallS sp (WE W) t) := by
  obtain ⟨fd, F, b⟩ := D.ex
  exact pe_callS F (hr.mono hj) hg D.gl D.kp b (fun σ => passAt tk σ) ha hdb he hpl
end
/-- what the class is to the others -/
structure KitL (K : PySem.W.Frag) : Prop where
  ec : ExcC K (cL K)
  xf : XfC K (cL K)
  no : PySem.W.findIn K (.ref (cL K)) "value" = some none
  u : PySem.W.kitAny K (.ref (cL K)) [.ref (He.ga K "InvalidAddress"), .ref (He.ga K "InvalidNumber"), .type "LookupError"] = some false
  r : PySem.W.kitOne K (.ref (cL K)) (.ref (He.ga K "RoomError")) = some true
  m : PySem.W.exmOne K (.ref (cL K)) (.ref (cL K)) = some true
abbrev rAddS : R2 := fun x y H Q => ∃ i j, x = .str i ∧ y = .str j ∧ i.length + j.length ≤ sizeLine ∧ Q (.str (i ++ j)) H
def t_lv (K : PySem.W.Frag) (a : Addr) (cls : Value) (d : Option Addr) : TS :=
  tIfS (tAnd (tB (tCB (rIsX K (cL K) a cls d) (tCons (tVar 3) (tCons (tC (.ref (He.ga K "RoomError"))) tNil))))
      (tNot (tB (tCB (rIsXT K (cL K) a cls d) (tCons (tVar 3) (tCons (tTup (tCons (tC (.ref (He.ga K "InvalidAddress"))) (tCons (tC (.ref (He.ga K "InvalidNumber"))) (tCons (tC (.ty "LookupError")) tNil)))) tNil))))))
    (tAsg (tOp rAddS (tC (.str "level ")) (tCB (rReprQ K) (tCons (tXf a cls d (cL K) "value" (tVar 3)) tNil))) (gName 2)) tNext
section
variable {P : Program} {w : World} {K : PySem.W.Frag} {mg : Str → Option Value} {base : Heap} {f : Addr} {fd : FuncData}
def spOut (K : PySem.W.Frag) : Sp := fun vs H Q _ => ∃ (y zp bl dx : Addr) (ps : List Addr) (ns : List Int) (n : Int) (bs : List Blk) (v : V) (d : PyData), vs = [.ref y, v] ∧ Ly K H y zp bl dx ps ns n bs ∧ bs.length ≤ 900 ∧ Any H v ∧ lvB ns v = false ∧ Dq K H v d ∧ d.showable = true ∧ d.depth ≤ 60 ∧ d.shown.length ≤ 500 ∧ ∀ H', Same H H' → Q (.str ("level " ++ d.shown)) H'
theorem sc__law_outcome : FnScope ["_law_store", "_law_value", "_law_told", "e"] ["_law_store", "_law_value"] (defScope (top 59)) := ⟨rfl, rfl, rfl, by decide +kernel, rfl, by decide +kernel, by decide +kernel⟩
theorem ok_outcome (T : Tx K mg) (KL : KitL K) (X_cheapest_region : DfX P w K mg base 10 "cheapest_region" ["layout", "level"] (spCRR K)) (F : FnP K "_law_outcome" "_law_outcome" (top 59) f fd) :
    FnG P w K mg base CX0 11 f fd ["_law_store", "_law_value"] (spOut K) := by
  refine okG F sc__law_outcome (fun vs H Q E h => ?_) (fun cdv A outer s H vs Q E hr h => ⟨_, PSs.nox (pss_cons (ps_set (i := 2) sc__law_outcome.nd rfl (Or.inl rfl) pe_str)
    (pss_cons (ps_try_as (i := 3) (tb := fun W => tAsg (tCB (rReprQ K) (tCons (tCallS (spCRR K) (WE W) (tCons (tVar 0) (tCons (tVar 1) tNil))) tNil)) (gName 2)) (ts := t_lv K) (Wout := fun _ _ _ _ => False)
        rfl rfl sc__law_outcome.nd rfl rfl ⟨rfl, by decide, Or.inl T.g_InvalidLevel⟩ takes0
      (fun W pn xe tk _ => pss_one (ps_set (i := 2) sc__law_outcome.nd rfl (Or.inl rfl) (by exact (pe_callB (r := rReprQ K) (id := "repr") (call_reprH hr.g hr.r.units T.sys) (by rfl) T.n_repr (by decide +kernel)
        (by exact (pa_cons (by exact (pcallT X_cheapest_region hr.r tk (by exact (pa_cons (pv 0) (pa_cons (pv 1) pa_nil))))) pa_nil))))))
      (fun a oe cls d pn hz hf => pss_one (ps_if (PW.pt (pw_and (pt_val (by exact (pe_callB (r := rIsX K (cL K) a cls d) (id := "isinstance") (call_isX KL.ec hz hf) (by rfl) T.n_isinstance (by decide +kernel) (by exact (pa_cons (pv 3) (pa_cons (pe_glob (v := .ref _) rfl T.g_RoomError rfl) pa_nil))))))
          (pw_and1 (pt_not (pt_val (by exact (pe_callB (r := rIsXT K (cL K) a cls d) (id := "isinstance") (call_isXT KL.ec hz hf) (by rfl) T.n_isinstance (by decide +kernel) (by exact (pa_cons (pv 3) (pa_cons (pe_tup (pa_cons (pe_glob (v := .ref _) rfl T.g_InvalidAddress rfl) (pa_cons (pe_glob (v := .ref _) rfl T.g_InvalidNumber rfl) (pa_cons (pe_bltn (v := .ty "LookupError") (by rfl) T.n_LookupError (by decide +kernel) rfl) pa_nil)))) pa_nil))))))))))
        (pss_one (ps_set (i := 2) sc__law_outcome.nd rfl (Or.inl rfl) (by exact (pe_op op_add_str pe_str (pe_callB (r := rReprQ K) (id := "repr") (call_reprH hr.g hr.r.units T.sys) (by rfl) T.n_repr (by decide +kernel) (pa_cons (pe_xf KL.xf KL.no hz hf (pv 3)) pa_nil))))))
        pss_nil)))
    (pss_one (ps_ret (pv 2))))), ?_⟩)
  · obtain ⟨y, zp, bl, dx, ps, ns, n, bs, v, d, rfl, _⟩ := h
    rfl
  · obtain ⟨y, zp, bl, dx, ps, ns, n, bs, v, d, rfl, L, b9, hv, no, dq, sh, dp, ln, q⟩ := h
    have n7 : ("level " : Str).length + d.shown.length ≤ sizeLine := Nat.le_trans (Nat.add_le_add_left ln _) (by decide)
    have lz : d.shown.length ≤ sizeLine := Nat.le_trans ln (by decide)
    refine ⟨_, rfl, _, rfl, y, zp, bl, dx, ps, ns, n, bs, v, rfl, L, b9, hv, no, fun dd H1 hdd sm hx => ?_⟩
    refine ⟨true, KL.m, fun _ a0 ha0 => ?_, fun zz => Bool.noConfusion zz⟩
    refine ⟨_, rfl, _, _, _, dd, _, rfl, rfl, rfl, .own _, hx, KL.r, _, rfl, iteT' rfl ?_⟩
    refine ⟨_, rfl, (by show 3 ≤ sizeLine; decide), fun tp htp => ?_⟩
    have sm2 := same_upd (o := .tup [.ref (He.ga K "InvalidAddress"), .ref (He.ga K "InvalidNumber"), .ty "LookupError"]) htp
    refine ⟨tp, _, _, _, dd, _, rfl, rfl, rfl, upd_same, .cons (.own _) (.cons (.own _) (.cons (.ty _) .nil)), sm2 _ _ hx, KL.u, _, rfl, iteT' rfl ?_⟩
    refine ⟨_, rfl, rfl, rfl, dd, _, v, rfl, sm2 _ _ hx, (by simp [List.lookup]), v, d, rfl, dq_same (sm.trans sm2) dq, sh, dp, lz, _, _, rfl, rfl, n7, ?_⟩
    exact ⟨_, rfl, q _ (sm.trans sm2)⟩
end
end K35

set_option Elab.async false
set_option linter.all false
set_option maxRecDepth 100000
set_option maxHeartbeats 4000000
set_option pp.maxSteps 900
namespace K35
open PySem PySem.Spec PyProof.Rows L2 Gu Ex
theorem good124 : Good [1, 2, 4] := by
  refine ⟨by decide, rfl, fun i x h => ?_, fun i x y h1 h2 => ?_⟩
  · match i, h with
    | 0, h => cases h; decide
    | 1, h => cases h; decide
    | 2, h => cases h; decide
  · match i, h1, h2 with
    | 0, h1, h2 => cases h1; cases h2; decide
    | 1, h1, h2 => cases h1; cases h2; decide
theorem wf0 : Wf [1, 2, 4] 6 [(0, 2, false), (4, 0, false)] := ⟨by decide +kernel, by decide +kernel⟩
theorem due0 : DueP [1, 2, 4] 6 [(0, 2, false), (4, 0, false)] 2 none := due_none (ss := ((List.range (6 / sz [1, 2, 4] 2).toNat).map fun j : Nat => (j : Int) * sz [1, 2, 4] 2)) (cov_small good124 (by decide)) (by decide +kernel)
theorem wf1 : Wf [1, 2, 4] 7 [(1, 0, false), (4, 1, false)] := ⟨by decide +kernel, by decide +kernel⟩
theorem due1 : DueP [1, 2, 4] 7 [(1, 0, false), (4, 1, false)] 2 (some (0, 1)) := due_some (ss := ((List.range (7 / sz [1, 2, 4] 2).toNat).map fun j : Nat => (j : Int) * sz [1, 2, 4] 2)) (cov_small good124 (by decide)) (m := (1, 0)) (by decide +kernel) (by simp only [leP]; decide +kernel)
theorem wf2 : Wf [1, 2, 4] 8 [(0, 2, false), (4, 0, false)] := ⟨by decide +kernel, by decide +kernel⟩
theorem due2 : DueP [1, 2, 4] 8 [(0, 2, false), (4, 0, false)] 2 (some (4, 1)) := due_some (ss := ((List.range (8 / sz [1, 2, 4] 2).toNat).map fun j : Nat => (j : Int) * sz [1, 2, 4] 2)) (cov_small good124 (by decide)) (m := (1, 4)) (by decide +kernel) (by simp only [leP]; decide +kernel)
theorem wf3 : Wf [1, 2, 4] 3 [(0, 0, false)] := ⟨by decide +kernel, by decide +kernel⟩
theorem due3 : DueP [1, 2, 4] 3 [(0, 0, false)] 2 none := due_none (ss := ((List.range (3 / sz [1, 2, 4] 2).toNat).map fun j : Nat => (j : Int) * sz [1, 2, 4] 2)) (cov_small good124 (by decide)) (by decide +kernel)
/-- a row of the law's list -/
def Rw (H : Hp) (T : Addr) (o : Option (Int × Int)) : Prop := ∃ (n : Int) (L : Addr) (dv : V) (qs : List Addr) (bs : List Blk), H T = some (.tup [.int n, .ref L, dv]) ∧ H L = some (.lst (qs.map V.ref)) ∧ Refs blkV H qs bs ∧ (bs.length ≤ 100 ∧ 1 ≤ n ∧ n ≤ 1000000000000) ∧ Wf [1, 2, 4] n bs ∧ DueP [1, 2, 4] n bs 2 o ∧ ChV H dv o
theorem Rw.same {H H' : Hp} {T : Addr} {o : Option (Int × Int)} (h : Rw H T o) (s : Same H H') : Rw H' T o := by
  obtain ⟨n, L, dv, qs, bs, h1, h2, h3, h4, h5, h6, h7⟩ := h
  exact ⟨n, L, dv, qs, bs, s _ _ h1, s _ _ h2, h3.same s, h4, h5, h6, h7.same s⟩
/-- data of a cheapest region -/
def chD : Option (Int × Int) → PyData
  | none => .none
  | some m => pD m
theorem dp_ch {K : PySem.W.Frag} {H : Hp} {v : V} {o : Option (Int × Int)} (h : ChV H v o) : Dp K H v (chD o) := by
  cases o with
  | none => cases h; exact .non
  | some m =>
    obtain ⟨t, rfl, ht⟩ := h
    exact .tup (SqT.of ht) (.cons (.int _) (.cons (.int _) .nil))
/-- values and what they are, in step -/
def ChVs (H : Hp) : List V → List (Option (Int × Int)) → Prop
  | [], [] => True
  | v :: vs, o :: os => ChV H v o ∧ ChVs H vs os
  | _, _ => False
theorem ChVs.mono {H H' : Hp} (k : ∀ t xs, H t = some (.tup xs) → H' t = some (.tup xs)) : ∀ {vs : List V} {os : List (Option (Int × Int))}, ChVs H vs os → ChVs H' vs os
  | [], [], _ => trivial
  | v :: vs, o :: os, h => ⟨by
      cases o with
      | none => exact h.1
      | some m =>
        obtain ⟨t, e, ht⟩ := h.1
        exact ⟨t, e, k _ _ ht⟩, ChVs.mono k h.2⟩
theorem ChVs.snoc {H : Hp} {v : V} {o : Option (Int × Int)} (c : ChV H v o) : ∀ {vs : List V} {os : List (Option (Int × Int))}, ChVs H vs os → ChVs H (vs ++ [v]) (os ++ [o])
  | [], [], _ => ⟨c, trivial⟩
  | _ :: _, _ :: _, h => ⟨h.1, ChVs.snoc c h.2⟩
theorem ChVs.len {H : Hp} : ∀ {vs : List V} {os : List (Option (Int × Int))}, ChVs H vs os → vs.length = os.length
  | [], [], _ => rfl
  | _ :: _, _ :: _, h => congrArg (· + 1) (ChVs.len h.2)
theorem ChVs.dp {K : PySem.W.Frag} {H : Hp} : ∀ {vs : List V} {os : List (Option (Int × Int))}, ChVs H vs os → DpAll K H vs (os.map chD)
  | [], [], _ => .nil
  | _ :: _, _ :: _, h => .cons (dp_ch h.1) (ChVs.dp h.2)
theorem ChVs.get {H : Hp} : ∀ {vs : List V} {os : List (Option (Int × Int))} {i : Nat} {v : V}, ChVs H vs os → vs[i]? = some v → ∃ o, os[i]? = some o ∧ ChV H v o
  | _ :: _, _ :: _, 0, _, h, e => by cases e; exact ⟨_, rfl, h.1⟩
  | _ :: vs, _ :: os, i + 1, v, h, e => ChVs.get (vs := vs) (os := os) (i := i) (v := v) h.2 e
theorem Ly.keep {K : PySem.W.Frag} {H H' : Hp} {y zp bl dx dz l D : Addr} {ps : List Addr} {ns : List Int} {n : Int} {bs : List Blk} {xs : List V} (L : Ly K H y zp bl dx ps ns n bs) (hD : H D = some (.lst xs)) (nb : bl ≠ D) (nl : l ≠ D)
    (hz : H zp = some (.ins (He.ga K "Sizes") dz (szF l))) (hl : H l = some (.lst (ns.map V.int))) (k : ∀ a o, a ≠ D → H a = some o → H' a = some o) : Ly K H' y zp bl dx ps ns n bs := by
  have ny : y ≠ D := fun z => by
    have e := L.at_
    rw [z, hD] at e
    cases e
  have nz : zp ≠ D := fun z => by
    rw [z, hD] at hz
    cases hz
  have z' := k _ _ nz hz
  have l' := k _ _ nl hl
  obtain ⟨dz2, l2, e1, e2, e3⟩ := L.ap
  rw [hz] at e1
  have el : l = l2 := by
    injection e1 with e1
    injection e1 with _ _ e1
    injection e1 with e1
    injection e1 with _ e1
    injection e1
  exact ⟨k _ _ ny L.at_, ⟨dz, l, z', l'⟩, k _ _ nb L.lst, L.rf.mono fun c zs e => k _ _ (fun z => by rw [z, hD] at e; cases e) e, L.wf, L.gd, L.n1, L.n2, L.ln, ⟨dz, l, z', l', by rw [el]; exact e3⟩⟩
/-- a store of the law's list -/
def St (K : PySem.W.Frag) (H : Hp) (u : Addr) (o : Option (Int × Int)) : Prop := ∃ (y zp bl dx : Addr) (ps : List Addr) (n : Int) (bs : List Blk) (dv : V), H u = some (.tup [.ref y, dv]) ∧ Ly K H y zp bl dx ps [1, 2, 4] n bs ∧ bs.length ≤ 900 ∧ DueP [1, 2, 4] n bs 2 o ∧ ChV H dv o
/-- it stays one while only D changes -/
def StK (K : PySem.W.Frag) (D : Addr) (G : Hp) (u : Addr) (o : Option (Int × Int)) : Prop := ∀ G' : Hp, (∀ a x, a ≠ D → G a = some x → G' a = some x) → St K G' u o
def StKs (K : PySem.W.Frag) (D : Addr) (G : Hp) : List Addr → List (Option (Int × Int)) → Prop
  | [], [] => True
  | v :: vs, o :: os => StK K D G v o ∧ StKs K D G vs os
  | _, _ => False
theorem StKs.mono {K : PySem.W.Frag} {D : Addr} {H H' : Hp} (k : ∀ a x, a ≠ D → H a = some x → H' a = some x) : ∀ {vs : List Addr} {os : List (Option (Int × Int))}, StKs K D H vs os → StKs K D H' vs os
  | [], [], _ => trivial
  | v :: vs, o :: os, h => ⟨fun G' k' => h.1 G' fun a x ne e => k' a x ne (k a x ne e), StKs.mono k h.2⟩
theorem StKs.snoc {K : PySem.W.Frag} {D : Addr} {H : Hp} {v : Addr} {o : Option (Int × Int)} (c : StK K D H v o) : ∀ {vs : List Addr} {os : List (Option (Int × Int))}, StKs K D H vs os → StKs K D H (vs ++ [v]) (os ++ [o])
  | [], [], _ => ⟨c, trivial⟩
  | _ :: _, _ :: _, h => ⟨h.1, StKs.snoc c h.2⟩
theorem StKs.get {K : PySem.W.Frag} {D : Addr} {H : Hp} : ∀ {vs : List Addr} {os : List (Option (Int × Int))} {i : Nat} {v : Addr}, StKs K D H vs os → vs[i]? = some v → ∃ o, os[i]? = some o ∧ StK K D H v o
  | _ :: _, _ :: _, 0, _, h, e => by cases e; exact ⟨_, rfl, h.1⟩
  | _ :: vs, _ :: os, i + 1, v, h, e => StKs.get (vs := vs) (os := os) (i := i) (v := v) h.2 e
theorem StKs.len {K : PySem.W.Frag} {D : Addr} {H : Hp} : ∀ {vs : List Addr} {os : List (Option (Int × Int))}, StKs K D H vs os → vs.length = os.length
  | [], [], _ => rfl
  | _ :: _, _ :: _, h => congrArg (· + 1) (StKs.len h.2)
section
variable {P : Program} {w : World} {K : PySem.W.Frag} {mg : Str → Option Value} {base : Heap} {f : Addr} {fd : FuncData}
def spEnd : Sp := fun vs H Q _ => vs = [] ∧ ∀ H', Same H H' → Q (.bl true) H'
theorem sc__law_end_right : FnScope ["_law_some", "_law_stores", "_law_length", "_law_blocks_here", "_law_due_here", "_law_store"] [] (defScope (top 60)) := ⟨rfl, rfl, rfl, by decide +kernel, rfl, by decide +kernel, by decide +kernel⟩
theorem ok_endr (T : Tx K mg) (D__law_made : Df P w K mg base 9 "_law_made" ["_law_sizes_here", "_law_length", "_law_blocks_here"] (spMadeL K)) (D_cheapest_region : Df P w K mg base 10 "cheapest_region" ["layout", "level"] (spCR K))
    (F : FnP K "_law_end_right" "_law_end_right" (top 60) f fd) : FnOk P w K mg base CX0 11 f fd [] spEnd := by
  refine F.ok sc__law_end_right (fun vs H Q E h => ?_) (fun cdv A outer s H vs Q E hr h => ⟨_, PSs.nox (pss_cons (ps_set (i := 0) sc__law_end_right.nd rfl (by first | exact Or.inl rfl | exact Or.inr rfl) (pe_lst (pa_cons (pe_tup (pa_cons pe_int (pa_cons (pe_lst (pa_cons (pe_tup (pa_cons pe_int (pa_cons pe_int (pa_cons pe_bl pa_nil)))) (pa_cons (pe_tup (pa_cons pe_int (pa_cons pe_int (pa_cons pe_bl pa_nil)))) pa_nil))) (pa_cons pe_non pa_nil)))) (pa_cons (pe_tup (pa_cons pe_int (pa_cons (pe_lst (pa_cons (pe_tup (pa_cons pe_int (pa_cons pe_int (pa_cons pe_bl pa_nil)))) (pa_cons (pe_tup (pa_cons pe_int (pa_cons pe_int (pa_cons pe_bl pa_nil)))) pa_nil))) (pa_cons (pe_tup (pa_cons pe_int (pa_cons pe_int pa_nil))) pa_nil)))) pa_nil)))) (pss_cons (ps_set (i := 0) sc__law_end_right.nd rfl (by first | exact Or.inl rfl | exact Or.inr rfl) (pe_op op_cat (pv 0) (pe_lst (pa_cons (pe_tup (pa_cons pe_int (pa_cons (pe_lst (pa_cons (pe_tup (pa_cons pe_int (pa_cons pe_int (pa_cons pe_bl pa_nil)))) (pa_cons (pe_tup (pa_cons pe_int (pa_cons pe_int (pa_cons pe_bl pa_nil)))) pa_nil))) (pa_cons (pe_tup (pa_cons pe_int (pa_cons pe_int pa_nil))) pa_nil)))) (pa_cons (pe_tup (pa_cons pe_int (pa_cons (pe_lst (pa_cons (pe_tup (pa_cons pe_int (pa_cons pe_int (pa_cons pe_bl pa_nil)))) pa_nil)) (pa_cons pe_non pa_nil)))) pa_nil))))) (pss_cons (ps_setLc (i := 1) (own := [("_law_length", 2), ("_law_blocks_here", 3), ("_law_due_here", 4)]) (g := gTup K 3 (gCons (gName 2) (gCons (gName 3) (gCons (gName 4) gNil)))) rfl sc__law_end_right.nd rfl rfl (sw_true rfl rfl rfl (by decide +kernel)) (pi_list (pv 0)) (blkOk_by (own := [("_law_length", 2), ("_law_blocks_here", 3), ("_law_due_here", 4)]) (N := ["_law_some", "_law_stores", "_law_length", "_law_blocks_here", "_law_due_here", "_law_store"]) (sc := defScope (top 60)) (by decide +kernel)) (fun _ _ _ _ _ => pg_tup rfl (pgs_cons (pg_name (i := 2) sc__law_end_right.nd rfl (Or.inl rfl)) (pgs_cons (pg_name (i := 3) sc__law_end_right.nd rfl (Or.inl rfl)) (pgs_cons (pg_name (i := 4) sc__law_end_right.nd rfl (Or.inl rfl)) pgs_nil)))) (fun _ _ _ _ _ => pts_nil) (fun _ _ _ _ _ => (pe_tup (pa_cons (pcall D__law_made hr (pa_cons (pe_lst (pa_cons pe_int (pa_cons pe_int (pa_cons pe_int pa_nil)))) (pa_cons (pv 2) (pa_cons (pv 3) pa_nil)))) (pa_cons (pv 4) pa_nil))))) (pss_one (ps_ret (pe_cmpR (op_eqD hr.units) (pe_lc (own := [("_law_store", 5), ("_law_due_here", 4)]) (g := gTup K 2 (gCons (gName 5) (gCons (gName 4) gNil))) rfl sc__law_end_right.nd (pi_list (pv 1)) (blkOk_by (own := [("_law_store", 5), ("_law_due_here", 4)]) (N := ["_law_some", "_law_stores", "_law_length", "_law_blocks_here", "_law_due_here", "_law_store"]) (sc := defScope (top 60)) (by decide +kernel)) (fun _ _ _ _ _ => pg_tup rfl (pgs_cons (pg_name (i := 5) sc__law_end_right.nd rfl (Or.inl rfl)) (pgs_cons (pg_name (i := 4) sc__law_end_right.nd rfl (Or.inl rfl)) pgs_nil))) (fun _ _ _ _ _ => pts_nil) (fun _ _ _ _ _ => (pcall D_cheapest_region hr (pa_cons (pv 5) (pa_cons pe_int pa_nil))))) (pe_lc (own := [("_law_store", 5), ("_law_due_here", 4)]) (g := gTup K 2 (gCons (gName 5) (gCons (gName 4) gNil))) rfl sc__law_end_right.nd (pi_list (pv 1)) (blkOk_by (own := [("_law_store", 5), ("_law_due_here", 4)]) (N := ["_law_some", "_law_stores", "_law_length", "_law_blocks_here", "_law_due_here", "_law_store"]) (sc := defScope (top 60)) (by decide +kernel)) (fun _ _ _ _ _ => pg_tup rfl (pgs_cons (pg_name (i := 5) sc__law_end_right.nd rfl (Or.inl rfl)) (pgs_cons (pg_name (i := 4) sc__law_end_right.nd rfl (Or.inl rfl)) pgs_nil))) (fun _ _ _ _ _ => pts_nil) (fun _ _ _ _ _ => (pv 4))) (nomark _))))))), ?_⟩)
  · obtain ⟨rfl, _⟩ := h
    rfl
  · obtain ⟨rfl, q⟩ := h
    have sl : sizeLine = 16777216 := sizeLine_eq
    have two : 2 ≤ sizeLine := by decide
    refine ⟨(by show 3 ≤ sizeLine; decide), fun t1 h1 => ?_⟩
    have a1 := same_upd (o := .tup [.int 0, .int 2, .bl false]) h1
    have c1 : (upd H t1 (.tup [.int 0, .int 2, .bl false])) t1 = some (.tup [.int 0, .int 2, .bl false]) := upd_same
    generalize upd H t1 (.tup [.int 0, .int 2, .bl false]) = U1 at a1 c1
    refine ⟨(by show 3 ≤ sizeLine; decide), fun t2 h2 => ?_⟩
    have a2 := same_upd (o := .tup [.int 4, .int 0, .bl false]) h2
    have c2 : (upd U1 t2 (.tup [.int 4, .int 0, .bl false])) t2 = some (.tup [.int 4, .int 0, .bl false]) := upd_same
    generalize upd U1 t2 (.tup [.int 4, .int 0, .bl false]) = U2 at a2 c2
    refine ⟨(by show 2 ≤ sizeLine; decide), fun t3 h3 => ?_⟩
    have a3 := same_upd (o := .lst [.ref t1, .ref t2]) h3
    have c3 : (upd U2 t3 (.lst [.ref t1, .ref t2])) t3 = some (.lst [.ref t1, .ref t2]) := upd_same
    generalize upd U2 t3 (.lst [.ref t1, .ref t2]) = U3 at a3 c3
    refine ⟨(by show 3 ≤ sizeLine; decide), fun t4 h4 => ?_⟩
    have a4 := same_upd (o := .tup [.int 6, .ref t3, .non]) h4
    have c4 : (upd U3 t4 (.tup [.int 6, .ref t3, .non])) t4 = some (.tup [.int 6, .ref t3, .non]) := upd_same
    generalize upd U3 t4 (.tup [.int 6, .ref t3, .non]) = U4 at a4 c4
    refine ⟨(by show 3 ≤ sizeLine; decide), fun t5 h5 => ?_⟩
    have a5 := same_upd (o := .tup [.int 1, .int 0, .bl false]) h5
    have c5 : (upd U4 t5 (.tup [.int 1, .int 0, .bl false])) t5 = some (.tup [.int 1, .int 0, .bl false]) := upd_same
    generalize upd U4 t5 (.tup [.int 1, .int 0, .bl false]) = U5 at a5 c5
    refine ⟨(by show 3 ≤ sizeLine; decide), fun t6 h6 => ?_⟩
    have a6 := same_upd (o := .tup [.int 4, .int 1, .bl false]) h6
    have c6 : (upd U5 t6 (.tup [.int 4, .int 1, .bl false])) t6 = some (.tup [.int 4, .int 1, .bl false]) := upd_same
    generalize upd U5 t6 (.tup [.int 4, .int 1, .bl false]) = U6 at a6 c6
    refine ⟨(by show 2 ≤ sizeLine; decide), fun t7 h7 => ?_⟩
    have a7 := same_upd (o := .lst [.ref t5, .ref t6]) h7
    have c7 : (upd U6 t7 (.lst [.ref t5, .ref t6])) t7 = some (.lst [.ref t5, .ref t6]) := upd_same
    generalize upd U6 t7 (.lst [.ref t5, .ref t6]) = U7 at a7 c7
    refine ⟨(by show 2 ≤ sizeLine; decide), fun t8 h8 => ?_⟩
    have a8 := same_upd (o := .tup [.int 0, .int 1]) h8
    have c8 : (upd U7 t8 (.tup [.int 0, .int 1])) t8 = some (.tup [.int 0, .int 1]) := upd_same
    generalize upd U7 t8 (.tup [.int 0, .int 1]) = U8 at a8 c8
    refine ⟨(by show 3 ≤ sizeLine; decide), fun t9 h9 => ?_⟩
    have a9 := same_upd (o := .tup [.int 7, .ref t7, .ref t8]) h9
    have c9 : (upd U8 t9 (.tup [.int 7, .ref t7, .ref t8])) t9 = some (.tup [.int 7, .ref t7, .ref t8]) := upd_same
    generalize upd U8 t9 (.tup [.int 7, .ref t7, .ref t8]) = U9 at a9 c9
    refine ⟨(by show 2 ≤ sizeLine; decide), fun t10 h10 => ?_⟩
    have a10 := same_upd (o := .lst [.ref t4, .ref t9]) h10
    have c10 : (upd U9 t10 (.lst [.ref t4, .ref t9])) t10 = some (.lst [.ref t4, .ref t9]) := upd_same
    generalize upd U9 t10 (.lst [.ref t4, .ref t9]) = U10 at a10 c10
    refine ⟨_, rfl, ?_⟩
    refine ⟨(by show 3 ≤ sizeLine; decide), fun t11 h11 => ?_⟩
    have a11 := same_upd (o := .tup [.int 0, .int 2, .bl false]) h11
    have c11 : (upd U10 t11 (.tup [.int 0, .int 2, .bl false])) t11 = some (.tup [.int 0, .int 2, .bl false]) := upd_same
    generalize upd U10 t11 (.tup [.int 0, .int 2, .bl false]) = U11 at a11 c11
    refine ⟨(by show 3 ≤ sizeLine; decide), fun t12 h12 => ?_⟩
    have a12 := same_upd (o := .tup [.int 4, .int 0, .bl false]) h12
    have c12 : (upd U11 t12 (.tup [.int 4, .int 0, .bl false])) t12 = some (.tup [.int 4, .int 0, .bl false]) := upd_same
    generalize upd U11 t12 (.tup [.int 4, .int 0, .bl false]) = U12 at a12 c12
    refine ⟨(by show 2 ≤ sizeLine; decide), fun t13 h13 => ?_⟩
    have a13 := same_upd (o := .lst [.ref t11, .ref t12]) h13
    have c13 : (upd U12 t13 (.lst [.ref t11, .ref t12])) t13 = some (.lst [.ref t11, .ref t12]) := upd_same
    generalize upd U12 t13 (.lst [.ref t11, .ref t12]) = U13 at a13 c13
    refine ⟨(by show 2 ≤ sizeLine; decide), fun t14 h14 => ?_⟩
    have a14 := same_upd (o := .tup [.int 4, .int 1]) h14
    have c14 : (upd U13 t14 (.tup [.int 4, .int 1])) t14 = some (.tup [.int 4, .int 1]) := upd_same
    generalize upd U13 t14 (.tup [.int 4, .int 1]) = U14 at a14 c14
    refine ⟨(by show 3 ≤ sizeLine; decide), fun t15 h15 => ?_⟩
    have a15 := same_upd (o := .tup [.int 8, .ref t13, .ref t14]) h15
    have c15 : (upd U14 t15 (.tup [.int 8, .ref t13, .ref t14])) t15 = some (.tup [.int 8, .ref t13, .ref t14]) := upd_same
    generalize upd U14 t15 (.tup [.int 8, .ref t13, .ref t14]) = U15 at a15 c15
    refine ⟨(by show 3 ≤ sizeLine; decide), fun t16 h16 => ?_⟩
    have a16 := same_upd (o := .tup [.int 0, .int 0, .bl false]) h16
    have c16 : (upd U15 t16 (.tup [.int 0, .int 0, .bl false])) t16 = some (.tup [.int 0, .int 0, .bl false]) := upd_same
    generalize upd U15 t16 (.tup [.int 0, .int 0, .bl false]) = U16 at a16 c16
    refine ⟨(by show 1 ≤ sizeLine; decide), fun t17 h17 => ?_⟩
    have a17 := same_upd (o := .lst [.ref t16]) h17
    have c17 : (upd U16 t17 (.lst [.ref t16])) t17 = some (.lst [.ref t16]) := upd_same
    generalize upd U16 t17 (.lst [.ref t16]) = U17 at a17 c17
    refine ⟨(by show 3 ≤ sizeLine; decide), fun t18 h18 => ?_⟩
    have a18 := same_upd (o := .tup [.int 3, .ref t17, .non]) h18
    have c18 : (upd U17 t18 (.tup [.int 3, .ref t17, .non])) t18 = some (.tup [.int 3, .ref t17, .non]) := upd_same
    generalize upd U17 t18 (.tup [.int 3, .ref t17, .non]) = U18 at a18 c18
    refine ⟨(by show 2 ≤ sizeLine; decide), fun t19 h19 => ?_⟩
    have a19 := same_upd (o := .lst [.ref t15, .ref t18]) h19
    have c19 : (upd U18 t19 (.lst [.ref t15, .ref t18])) t19 = some (.lst [.ref t15, .ref t18]) := upd_same
    generalize upd U18 t19 (.lst [.ref t15, .ref t18]) = U19 at a19 c19
    have s19 : Same U19 U19 := Same.refl _
    have s18 : Same U18 U19 := a19.trans s19
    have s17 : Same U17 U19 := a18.trans s18
    have s16 : Same U16 U19 := a17.trans s17
    have s15 : Same U15 U19 := a16.trans s16
    have s14 : Same U14 U19 := a15.trans s15
    have s13 : Same U13 U19 := a14.trans s14
    have s12 : Same U12 U19 := a13.trans s13
    have s11 : Same U11 U19 := a12.trans s12
    have s10 : Same U10 U19 := a11.trans s11
    have s9 : Same U9 U19 := a10.trans s10
    have s8 : Same U8 U19 := a9.trans s9
    have s7 : Same U7 U19 := a8.trans s8
    have s6 : Same U6 U19 := a7.trans s7
    have s5 : Same U5 U19 := a6.trans s6
    have s4 : Same U4 U19 := a5.trans s5
    have s3 : Same U3 U19 := a4.trans s4
    have s2 : Same U2 U19 := a3.trans s3
    have s1 : Same U1 U19 := a2.trans s2
    have s0 : Same H U19 := a1.trans s1
    have f1 := s1 _ _ c1
    have f2 := s2 _ _ c2
    have f3 := s3 _ _ c3
    have f4 := s4 _ _ c4
    have f5 := s5 _ _ c5
    have f6 := s6 _ _ c6
    have f7 := s7 _ _ c7
    have f8 := s8 _ _ c8
    have f9 := s9 _ _ c9
    have f10 := s10 _ _ c10
    have f11 := s11 _ _ c11
    have f12 := s12 _ _ c12
    have f13 := s13 _ _ c13
    have f14 := s14 _ _ c14
    have f15 := s15 _ _ c15
    have f16 := s16 _ _ c16
    have f17 := s17 _ _ c17
    have f18 := s18 _ _ c18
    have f19 := s19 _ _ c19
    have r0 : Rw U19 t4 none := ⟨6, t3, .non, [t1, t2], [(0, 2, false), (4, 0, false)], f4, f3, .cons f1 (.cons f2 .nil), by decide +kernel, wf0, due0, rfl⟩
    have r1 : Rw U19 t9 (some (0, 1)) := ⟨7, t7, .ref t8, [t5, t6], [(1, 0, false), (4, 1, false)], f9, f7, .cons f5 (.cons f6 .nil), by decide +kernel, wf1, due1, ⟨t8, rfl, f8⟩⟩
    have r2 : Rw U19 t15 (some (4, 1)) := ⟨8, t13, .ref t14, [t11, t12], [(0, 2, false), (4, 0, false)], f15, f13, .cons f11 (.cons f12 .nil), by decide +kernel, wf2, due2, ⟨t14, rfl, f14⟩⟩
    have r3 : Rw U19 t18 none := ⟨3, t17, .non, [t16], [(0, 0, false)], f18, f17, .cons f16 .nil, by decide +kernel, wf3, due3, rfl⟩
    refine ⟨t10, t19, _, _, rfl, rfl, f10, f19, (by show 4 ≤ sizeLine; decide), fun C hC => ?_⟩
    have sC := same_upd (o := .lst ([V.ref t4, V.ref t9] ++ [V.ref t15, V.ref t18])) hC
    have kC : (upd U19 C (.lst ([V.ref t4, V.ref t9] ++ [V.ref t15, V.ref t18]))) C = some (.lst ([t4, t9, t15, t18].map V.ref)) := upd_same
    have w0 := r0.same sC
    have w1 := r1.same sC
    have w2 := r2.same sC
    have w3 := r3.same sC
    have sH := s0.trans sC
    generalize upd U19 C (.lst ([V.ref t4, V.ref t9] ++ [V.ref t15, V.ref t18])) = H1 at sC kC w0 w1 w2 w3 sH
    clear r0 r1 r2 r3 f1 f2 f3 f4 f5 f6 f7 f8 f9 f10 f11 f12 f13 f14 f15 f16 f17 f18 f19 s0 s1 s2 s3 s4 s5 s6 s7 s8 s9 s10 s11 s12 s13 s14 s15 s16 s17 s18 s19 c1 c2 c3 c4 c5 c6 c7 c8 c9 c10 c11 c12 c13 c14 c15 c16 c17 c18 c19 a1 a2 a3 a4 a5 a6 a7 a8 a9 a10 a11 a12 a13 a14 a15 a16 a17 a18 a19 h1 h2 h3 h4 h5 h6 h7 h8 h9 h10 h11 h12 h13 h14 h15 h16 h17 h18 h19
    have rows : ∀ (i : Nat) (t : Addr), [t4, t9, t15, t18][i]? = some t → ∃ o, ([none, some (0, 1), some (4, 1), none] : List (Option (Int × Int)))[i]? = some o ∧ Rw H1 t o := fun i t h => by
      match i, h with
      | 0, h => cases h; exact ⟨_, rfl, w0⟩
      | 1, h => cases h; exact ⟨_, rfl, w1⟩
      | 2, h => cases h; exact ⟨_, rfl, w2⟩
      | 3, h => cases h; exact ⟨_, rfl, w3⟩
    refine ⟨_, rfl, C, rfl, ⟨_, SqL.of kC⟩, fun D hD => ?_⟩
    refine lc_list (K := K) (a := C) (xs := [t4, t9, t15, t18].map V.ref) (fun i G => ∃ us : List Addr, G D = some (.lst (us.map V.ref)) ∧ StKs K D G us (([none, some (0, 1), some (4, 1), none] : List (Option (Int × Int))).take i) ∧ us.length = i ∧ Same H1 G) ⟨[], upd_same, trivial, rfl, same_upd hD⟩ (fun i G _ ⟨_, _, _, _, sm⟩ => SqL.of (sm _ _ kC)) ?_ ?_
    · rintro i x G hx ⟨us, hG, st, ul, sm⟩
      obtain ⟨t, ht, rfl⟩ := ref_of hx
      have il : i < 4 := (List.getElem?_eq_some_iff.mp ht).1
      obtain ⟨o, ho, R⟩ := rows i t ht
      obtain ⟨n, L, dv, qs, bs, h1, h2, h3, ⟨b100, n1, n9⟩, wf, dp, cv⟩ := R.same sm
      refine ⟨t, _, rfl, .inl (.inl h1), rfl, _, _, rfl, _, _, rfl, _, _, rfl, rfl, rfl, (by show 3 ≤ sizeLine; decide), fun A1 hA1 => ?_⟩
      have sA := same_upd (o := .lst [.int 1, .int 2, .int 4]) hA1
      have kA : (upd G A1 (.lst [.int 1, .int 2, .int 4])) A1 = some (.lst (([1, 2, 4] : List Int).map V.int)) := upd_same
      have gL := sA _ _ h2
      have gR := h3.same sA
      have gD := sA _ _ hG
      have gV := cv.same sA
      generalize upd G A1 (.lst [.int 1, .int 2, .int 4]) = G1 at sA kA gL gR gD gV
      refine ⟨_, rfl, _, rfl, A1, L, [1, 2, 4], n, qs, bs, rfl, kA, good124, gL, gR, wf, b100, n1, n9, fun y zp bl dx dz l ps G2 s2 Ly2 y0 bl0 hz l0 hl => ?_⟩
      refine ⟨_, rfl, two, fun u hu => ?_⟩
      have gD2 := s2 _ _ gD
      have nD : D ≠ u := ne_of_none gD2 hu
      have e1 : (upd G2 u (.tup [.ref y, dv])) D = some (.lst (us.map V.ref)) := by rw [upd_ne nD]; exact gD2
      have e2 : (upd G2 u (.tup [.ref y, dv])) u = some (.tup [.ref y, dv]) := upd_same
      have s3 := same_upd (o := .tup [.ref y, dv]) hu
      have Ly3 := Ly2.same s3
      have hz3 := s3 _ _ hz
      have hl3 := s3 _ _ hl
      have cv3 := (gV.same s2).same s3
      have s13 := (sA.trans s2).trans s3
      generalize upd G2 u (.tup [.ref y, dv]) = G3 at e1 e2 s3 Ly3 hz3 hl3 cv3 s13
      have nb : bl ≠ D := fun z => by rw [z, gD] at bl0; cases bl0
      have nl : l ≠ D := fun z => by rw [z, gD] at l0; cases l0
      have kp : ∀ (xs : List V) (a : Addr) (x : HO), a ≠ D → G3 a = some x → (upd G3 D (.lst xs)) a = some x := fun xs a x ne e => by rw [upd_ne ne]; exact e
      have new : StK K D G3 u o := fun G' k => by
        refine ⟨y, zp, bl, dx, ps, n, bs, dv, k _ _ (fun z => nD z.symm) e2, Ly3.keep e1 nb nl hz3 hl3 k, by omega, dp, ?_⟩
        cases o with
        | none => exact cv3
        | some m =>
          obtain ⟨tt, ett, htt⟩ := cv3
          exact ⟨tt, ett, k _ _ (fun z => by rw [z, e1] at htt; cases htt) htt⟩
      refine ⟨_, e1, (by rw [List.length_map]; omega), us ++ [u], by rw [upd_same, List.map_append]; rfl, ?_, by rw [List.length_append, ul]; rfl, fun c x e => ?_⟩
      · rw [take_snoc ho]
        exact StKs.mono (kp _) (StKs.snoc new (StKs.mono (fun a x _ e => s13 _ _ e) st))
      · rw [upd_ne (ne_of_none e hD)]
        exact s13 _ _ (sm c x e)
    rintro H2 ⟨us, hD2, st, ul, s2⟩
    rw [List.length_map] at st ul
    have st2 : ∀ (i : Nat) (u : Addr), us[i]? = some u → ∃ o, ([none, some (0, 1), some (4, 1), none] : List (Option (Int × Int)))[i]? = some o ∧ St K H2 u o := fun i u h => by
      obtain ⟨o, ho, k⟩ := StKs.get st h
      exact ⟨o, ho, k _ fun _ _ _ e => e⟩
    have sH2 := sH.trans s2
    clear st
    refine ⟨_, rfl, D, rfl, ⟨_, SqL.of hD2⟩, fun R hR => ?_⟩
    refine lc_list (K := K) (a := D) (xs := us.map V.ref) (fun i G => ∃ vs : List V, G R = some (.lst vs) ∧ ChVs G vs (([none, some (0, 1), some (4, 1), none] : List (Option (Int × Int))).take i) ∧ Same H2 G) ⟨[], upd_same, trivial, same_upd hR⟩ (fun i G _ ⟨_, _, _, sm⟩ => SqL.of (sm _ _ hD2)) ?_ ?_
    · rintro i x G hx ⟨vs, hG, cs, sm⟩
      obtain ⟨u, hu, rfl⟩ := ref_of hx
      have il : i < us.length := (List.getElem?_eq_some_iff.mp hu).1
      obtain ⟨o, ho, y, zp, bl, dx, ps, n, bs, dv, hT, Ly1, b9, dp, cv⟩ := st2 i u hu
      have hT' := sm _ _ hT
      have vl := cs.len
      rw [List.length_take, show ([none, some (0, 1), some (4, 1), none] : List (Option (Int × Int))).length = 4 from rfl] at vl
      refine ⟨u, _, rfl, .inl (.inl hT'), rfl, _, _, rfl, _, _, rfl, rfl, rfl, _, rfl, y, zp, bl, dx, ps, [1, 2, 4], n, bs, 2, rfl, Ly1.same sm, b9, by decide, fun o' v G2 ch cv2 s3 => ?_⟩
      have eo : o' = o := (ch_due Ly1.wf good124 (by decide) ch).uniq dp
      subst eo
      have hG2 := s3 _ _ hG
      refine ⟨_, hG2, by omega, vs ++ [v], upd_same, ?_, fun c x e => ?_⟩
      · rw [take_snoc ho]
        refine ChVs.mono (fun t xs e => ?_) (ChVs.snoc cv2 (ChVs.mono (fun t xs e => s3 _ _ e) cs))
        rw [upd_ne (fun z => by rw [z, hG2] at e; cases e)]
        exact e
      · rw [upd_ne (ne_of_none e hR)]
        exact s3 _ _ (sm c x e)
    rintro H3 ⟨vs, hR3, cs, s3⟩
    rw [List.length_map, ul] at cs
    have hD3 := s3 _ _ hD2
    refine ⟨_, rfl, D, rfl, ⟨_, SqL.of hD3⟩, fun R2 hR2 => ?_⟩
    refine lc_list (K := K) (a := D) (xs := us.map V.ref) (fun i G => ∃ vs : List V, G R2 = some (.lst vs) ∧ ChVs G vs (([none, some (0, 1), some (4, 1), none] : List (Option (Int × Int))).take i) ∧ Same H3 G) ⟨[], upd_same, trivial, same_upd hR2⟩ (fun i G _ ⟨_, _, _, sm⟩ => SqL.of (sm _ _ hD3)) ?_ ?_
    · rintro i x G hx ⟨vs, hG, cs, sm⟩
      obtain ⟨u, hu, rfl⟩ := ref_of hx
      have il : i < us.length := (List.getElem?_eq_some_iff.mp hu).1
      obtain ⟨o, ho, y, zp, bl, dx, ps, n, bs, dv, hT, Ly1, b9, dp, cv⟩ := st2 i u hu
      have hT' := sm _ _ (s3 _ _ hT)
      have vl := cs.len
      rw [List.length_take, show ([none, some (0, 1), some (4, 1), none] : List (Option (Int × Int))).length = 4 from rfl] at vl
      refine ⟨u, _, rfl, .inl (.inl hT'), rfl, _, _, rfl, _, _, rfl, rfl, rfl, _, rfl, _, hG, by omega, vs ++ [dv], upd_same, ?_, fun c x e => ?_⟩
      · rw [take_snoc ho]
        refine ChVs.mono (fun t xs e => ?_) (ChVs.snoc ((cv.same s3).same sm) cs)
        rw [upd_ne (fun z => by rw [z, hG] at e; cases e)]
        exact e
      · rw [upd_ne (ne_of_none e hR2)]
        exact sm c x e
    rintro H4 ⟨ws, hR4, cw, s4⟩
    rw [List.length_map, ul] at cw
    refine ⟨_, _, .lst (SqL.of (s4 _ _ hR3)) (ChVs.dp (ChVs.mono (fun t xs e => s4 _ _ e) cs)), .lst (SqL.of hR4) (ChVs.dp cw), rfl, rfl, ?_⟩
    exact q _ ((sH2.trans s3).trans s4)
end
end K35

set_option Elab.async false
set_option linter.all false
set_option maxRecDepth 100000
set_option maxHeartbeats 1600000
/-! Mathematics: a rearrangement that frees a region costs at least the cheapest one. -/
namespace K35
open PySem PySem.Spec PyProof.Rows L2 Gu Ex
theorem sum_sub (f : Int → Int) (f0 : ∀ a, 0 ≤ f a) : ∀ {A B : List Int}, A.Nodup → (∀ a ∈ A, a ∈ B) → (A.map f).sum ≤ (B.map f).sum
  | [], B, _, _ => by
    induction B with
    | nil => exact Int.le_refl _
    | cons b r ih =>
      have := f0 b
      have := ih (fun a h => nomatch h)
      simp only [List.map_nil, List.sum_nil, List.map_cons, List.sum_cons] at *
      omega
  | a :: A, B, nd, h => by
    obtain ⟨B1, B2, rfl⟩ := List.append_of_mem (h a List.mem_cons_self)
    have h2 := List.nodup_cons.mp nd
    have := sum_sub f f0 (A := A) (B := B1 ++ B2) h2.2 fun c hc => by
      have := h c (List.mem_cons_of_mem _ hc)
      rcases List.mem_append.mp this with z | z
      · exact List.mem_append_left _ z
      · rcases List.mem_cons.mp z with z | z
        · rw [z] at hc
          exact absurd hc h2.1
        · exact List.mem_append_right _ z
    simp only [List.map_append, List.sum_append, List.map_cons, List.sum_cons] at *
    omega
section
variable {ns : List Int} {n : Int} {bs : List Blk} {k : Nat} {mm : List (Int × Int)}
theorem sum_in : ∀ {cs : List Blk} {lo hi : Int}, cs.Pairwise (fun b c => bEnd ns b ≤ c.1) → (∀ b ∈ cs, lo ≤ b.1 ∧ bEnd ns b ≤ hi) → lo ≤ hi → (cs.map fun b => sz ns b.2.1).sum ≤ hi - lo
  | [], lo, hi, _, _, h => by
    show (0 : Int) ≤ hi - lo
    omega
  | b :: r, lo, hi, p, h, l => by
    have p2 := List.pairwise_cons.mp p
    obtain ⟨h1, h2⟩ := h b List.mem_cons_self
    have := sum_in (cs := r) (lo := bEnd ns b) (hi := hi) p2.2 (fun c hc => ⟨p2.1 c hc, (h c (List.mem_cons_of_mem _ hc)).2⟩) h2
    rw [List.map_cons, List.sum_cons]
    unfold bEnd at *
    omega
theorem cells_le (w : Wf ns n bs) (g : Good ns) (hk : k < ns.length) {s x : Int} (ds : sz ns k ∣ s) (c : cellsI ns bs k s = some x) : x ≤ sz ns k := by
  have z1 := (chain g).pos k hk
  unfold cellsI at c
  by_cases a : (metR ns bs k s).any (fun b => b.2.2 || decide (k ≤ b.2.1)) = true
  · rw [if_pos a] at c
    cases c
  · rw [if_neg a] at c
    have lv : ∀ b ∈ metR ns bs k s, b.2.1 < k := fun b hb => by
      rcases Nat.lt_or_ge b.2.1 k with z | z
      · exact z
      · exact absurd (List.any_eq_true.mpr ⟨b, hb, by rw [decide_eq_true z, Bool.or_true]⟩) a
    have e := sum_in (ns := ns) (cs := metR ns bs k s) (lo := s) (hi := s + sz ns k) (w.so.filter _) (fun b hb => by
      obtain ⟨h1, h2⟩ := List.mem_filter.mp hb
      obtain ⟨o1, o2⟩ := ovR_iff.mp h2
      rcases meets w g h1 hk ds o1 o2 with ⟨z, _⟩ | ⟨z, y⟩
      · have := lv b hb
        omega
      · obtain ⟨_, _, i1, i2⟩ := inside w g h1 hk (Nat.le_of_lt z)
        rw [y] at i1 i2
        exact ⟨i1, i2⟩) (by omega)
    cases c
    omega
theorem run_free (g : Good ns) {rs : List M16.Run} (F : FrOk ns n bs rs) {r : M16.Run} (hr : r ∈ rs) (lv : k ≤ r.1) : VR ns n k r.2.1 ∧ ∀ b ∈ bs, bEnd ns b ≤ r.2.1 ∨ r.2.1 + sz ns k ≤ b.1 := by
  have c := chain g
  obtain ⟨h1, h2, h3, h4, h5, h6⟩ := F.snd r hr
  have dv : sz ns k ∣ sz ns r.1 := c.dvd lv h1
  have zr := c.pos _ h1
  have le : sz ns k ≤ sz ns r.1 := Int.le_of_dvd (by omega) dv
  have le2 : sz ns r.1 ≤ r.2.2 * sz ns r.1 := by
    have := Int.mul_le_mul_of_nonneg_right h4 (show 0 ≤ sz ns r.1 by omega)
    omega
  refine ⟨⟨Int.dvd_trans dv h2, h3, by omega⟩, fun b hb => ?_⟩
  rcases h6 b hb with z | z
  · exact .inl z
  · exact .inr (by omega)
/-- the levels of the moved blocks -/
theorem cost_is : costI ns bs mm = ((mm.map Prod.fst).map fun a => sz ns (lev bs a)).sum := by
  unfold costI
  rw [List.map_map]
  rfl
theorem lev_lt (w : Wf ns n bs) (g : Good ns) {b : Blk} (h : b ∈ bs) : lev bs b.1 = b.2.1 := lev_is w g (p := b.2.2) h
theorem sz_nonneg (g : Good ns) (j : Nat) : 0 ≤ sz ns j := by
  rcases Nat.lt_or_ge j ns.length with z | z
  · have := (chain g).pos j z
    omega
  · unfold sz
    simp [List.getElem?_eq_none z]
theorem due_le (w : Wf ns n bs) (g : Good ns) (F : Fit ns n bs mm) {bs' : List Blk} (pm : bs'.Perm (bs.map (mvd mm))) {rs : List M16.Run} (FO : FrOk ns n bs' rs) {r : M16.Run} (hr : r ∈ rs) (lv : k ≤ r.1) {s x : Int} (d : DueP ns n bs k (some (s, x))) : x ≤ costI ns bs mm := by
  have rl := (FO.snd r hr).1
  have hk : k < ns.length := by omega
  have z1 := (chain g).pos k hk
  obtain ⟨v, fr⟩ := run_free (k := k) g FO hr lv
  have moved : ∀ b ∈ metR ns bs k r.2.1, b ∈ bs ∧ b.1 ∈ mm.map Prod.fst := fun b hb => by
    obtain ⟨h1, h2⟩ := List.mem_filter.mp hb
    refine ⟨h1, Classical.byContradiction fun no => ?_⟩
    have em : mvd mm b = b := by
      unfold mvd
      rw [tgt_none no]
    have hb' : b ∈ bs' := pm.mem_iff.mpr (List.mem_map.mpr ⟨b, h1, em⟩)
    obtain ⟨o1, o2⟩ := ovR_iff.mp h2
    rcases fr b hb' with z | z <;> omega
  have f0 : ∀ a, 0 ≤ sz ns (lev bs a) := fun a => sz_nonneg g _
  rcases d with ⟨e, _⟩ | ⟨s2, x2, e, v2, c2, m2⟩
  · cases e
  cases e
  rw [cost_is]
  cases c : cellsI ns bs k r.2.1 with
  | some x' =>
    have le := m2 _ _ v c
    have xx : x ≤ x' := by
      unfold leP at le
      omega
    have nd : ((metR ns bs k r.2.1).map fun b => b.1).Nodup := (w.nd g).sublist (List.Sublist.map _ List.filter_sublist)
    have := sum_sub (fun a => sz ns (lev bs a)) f0 nd fun a ha => by
      obtain ⟨b, hb, rfl⟩ := List.mem_map.mp ha
      exact (moved b hb).2
    have e2 : (((metR ns bs k r.2.1).map fun b => b.1).map fun a => sz ns (lev bs a)) = (metR ns bs k r.2.1).map fun b => sz ns b.2.1 := by
      rw [List.map_map]
      exact List.map_congr_left fun b hb => by
        show sz ns (lev bs b.1) = _
        rw [lev_lt w g (moved b hb).1]
    rw [e2] at this
    unfold cellsI at c
    split at c
    · cases c
    · cases c
      omega
  | none =>
    have xz := cells_le w g hk v2.1 c2
    unfold cellsI at c
    split at c
    case isFalse => cases c
    case isTrue a =>
      obtain ⟨b, hb, eb⟩ := List.any_eq_true.mp a
      obtain ⟨h1, h2⟩ := moved b hb
      obtain ⟨i, b', hi⟩ := olds_mem h2
      obtain ⟨k', hk', _⟩ := F.at_ i _ _ hi
      have same : b = (b.1, k', false) := by
        obtain ⟨i1, e1⟩ := List.mem_iff_getElem?.mp h1
        obtain ⟨i2, e2⟩ := List.mem_iff_getElem?.mp hk'
        have := blk_uniq w g e1 e2 rfl
        subst this
        rw [e1] at e2
        exact Option.some.inj e2
      have p0 : b.2.2 = false := by rw [same]
      rw [p0, Bool.false_or, decide_eq_true_eq] at eb
      have zz : sz ns k ≤ sz ns b.2.1 := by
        have lt := (w.ok b h1).1
        exact Int.le_of_dvd (by have := (chain g).pos _ lt; omega) ((chain g).dvd eb lt)
      have := sum_sub (fun a => sz ns (lev bs a)) f0 (A := [b.1]) (B := mm.map Prod.fst) (by simp) fun a ha => by
        rw [List.mem_singleton.mp ha]
        exact h2
      simp only [List.map_cons, List.map_nil, List.sum_cons, List.sum_nil] at this
      rw [lev_lt w g h1] at this
      omega
theorem cost_nn (g : Good ns) : 0 ≤ costI ns bs mm := by
  rw [cost_is]
  have := sum_sub (fun a => sz ns (lev bs a)) (fun a => sz_nonneg g _) (A := []) (B := mm.map Prod.fst) List.nodup_nil fun a h => nomatch h
  exact this
end
end K35

set_option Elab.async false
set_option linter.all false
set_option maxRecDepth 100000
set_option maxHeartbeats 4000000
set_option pp.maxSteps 900
namespace K35
open PySem PySem.Spec PyProof.Rows L2 Gu Ex
section
variable {K : PySem.W.Frag} {r a b : Addr} {H H1 : Hp}
theorem Rng.ins {p C dx : Addr} {fs : List (Str × V)} (h : Rng H r) (e : H p = some (.ins C dx fs)) : p ≠ r := fun z => by
  obtain ⟨x, y, e2, _⟩ := h
  rw [z, e2] at e
  cases e
theorem Ly.step {H' : Hp} {y zp bl dx dz l : Addr} {ps : List Addr} {ns : List Int} {n : Int} {bs : List Blk} (L : Ly K H y zp bl dx ps ns n bs) (hR : Rng H r) (hz : H zp = some (.ins (He.ga K "Sizes") dz (szF l))) (lr : l ≠ r) (t : Stp r H H') : Ly K H' y zp bl dx ps ns n bs ∧ H' zp = some (.ins (He.ga K "Sizes") dz (szF l)) := by
  obtain ⟨dz', l', e1, e2, e3⟩ := L.ap
  have e4 : l' = l := by
    have z := e1
    rw [hz] at z
    have := (HO.ins.inj (Option.some.inj z)).2.2
    unfold szF at this
    have := (Prod.mk.inj (List.cons.inj this).1).2
    exact (V.ref.inj this).symm
  rw [e4] at e1 e2 e3
  have k1 := t.2 _ _ (hR.ins e1) e1
  have k2 := t.2 _ _ lr e2
  have mv : ∀ {ps : List Addr} {bs : List Blk}, Refs blkV H ps bs → Refs blkV H' ps bs := fun rf => rf.mono fun p xs e => t.2 p _ (hR.tup e) e
  exact ⟨⟨t.2 _ _ (hR.ins L.at_) L.at_, ⟨dz', l, k1, k2⟩, t.2 _ _ (hR.lst L.lst) L.lst, mv L.rf, L.wf, L.gd, L.n1, L.n2, L.ln, ⟨dz', l, k1, k2, e3⟩⟩, t.2 _ _ (hR.ins hz) hz⟩
end
theorem mvs_of {H : Hp} {ps : List Addr} {mm : List (Int × Int)} (h : Refs prV H ps mm) : Mvs H (ps.map V.ref) (mm.map some) := by
  induction h with
  | nil => exact .nil
  | cons e _ ih => exact .cons (.mv e) ih
section
variable {X : Cx} {k j : Nat} {x : Str} {ps : List Str} {sp : Sp} {p pos : Pos}
theorem pcallG0 (D : DfG X.prog X.w X.K X.mg X.base k x ps sp) (hr : RoomG j X.A) (hj : k ≤ j := by decide) (hg : Gl X x := by rfl) (hdb : (x == ("__debug__" : Str)) = false := by decide) : PE X (.Call (.Name x p) [] [] pos) (tCall sp [] E0 tNil) := by
  obtain ⟨fd, F, b⟩ := D.ex
  exact ⟨fun pins s σ H Q I h => wpAny_Call_Name_kw (ld_glob I hg D.gl (PySem.W.callWith_K0 I.kIn D.kp (runG (us := []) F (hr.mono hj) b .nil pass0 I .nil h)) hdb)⟩
end
section
variable {K : PySem.W.Frag} {H : Hp} {n m : Nat}
theorem tqa_nil : TqAll K H [] [] n m := ⟨.nil, rfl, Nat.zero_le _, Nat.zero_le _⟩
theorem tqa_cons {v : V} {vs : List V} {d : PyData} {ds : List PyData} (t : Tq K H v d n m) (h : TqAll K H vs ds n m) : TqAll K H (v :: vs) (d :: ds) n m := by
  obtain ⟨a, b, c, e⟩ := h
  refine ⟨.cons t.dq a, ?_, ?_, ?_⟩
  · show (d.showable && PyData.showableAll ds) = true
    rw [t.sh, b]
    rfl
  · show max d.depth (PyData.depthAll ds) ≤ n
    have := t.dp
    omega
  · show (d.shown.length + ((PyData.shownAll ds).map (·.length)).sum) + 2 * ((PyData.shownAll ds).length + 1) ≤ (vs.length + 1) * (m + 2)
    have := t.ln
    rw [Nat.add_mul, Nat.one_mul]
    omega
end
theorem due_b {ns : List Int} {n : Int} {bs : List Blk} {k : Nat} (w : Wf ns n bs) (g : Good ns) (hk : k < ns.length) (n2 : n ≤ 1000000000000) {s x : Int} (d : DueP ns n bs k (some (s, x))) : 0 ≤ s ∧ s ≤ 1000000000000 ∧ 0 ≤ x ∧ x ≤ 1000000000 := by
  rcases d with ⟨e, _⟩ | ⟨s2, x2, e, v, c, _⟩
  · cases e
  cases e
  have z1 := (chain g).pos k hk
  have z9 := sz_le g hk
  have le := cells_le w g hk v.1 c
  have p := (cells_pos w g c).1
  obtain ⟨_, v0, v1⟩ := v
  omega
theorem tq_ch {K : PySem.W.Frag} {H : Hp} {ns : List Int} {n : Int} {bs : List Blk} {k : Nat} (w : Wf ns n bs) (g : Good ns) (hk : k < ns.length) (n2 : n ≤ 1000000000000) {o : Option (Int × Int)} {v : V} (d : DueP ns n bs k o) (c : ChV H v o) : Tq K H v (chD o) 1 100 := by
  have b39 : (10 : Int) ^ 39 = 1000000000000000000000000000000000000000 := by decide
  cases o with
  | none => cases c; exact tq_non.mono (by decide) (by decide)
  | some m =>
    obtain ⟨t, rfl, ht⟩ := c
    obtain ⟨h1, h2, h3, h4⟩ := due_b w g hk n2 (s := m.1) (x := m.2) d
    exact (((tqa_cons (m := 41) (n := 0) (tq_int (i := m.1) (by omega) (by omega)) (tqa_cons (tq_int (i := m.2) (by omega) (by omega)) tqa_nil)).tup ht).mono (by decide) (by show 2 * (41 + 2) + 3 ≤ 100; decide))
theorem dp_strs {K : PySem.W.Frag} {H : Hp} : ∀ zs : List Str, DpAll K H (zs.map V.str) (zs.map PyData.str)
  | [] => .nil
  | z :: zs => .cons (.str z) (dp_strs zs)
theorem eqv_strs : ∀ zs : List Str, PyData.eqvAll (zs.map PyData.str) (zs.map PyData.str) = true
  | [] => rfl
  | z :: zs => by
    show (PyData.eqv (.str z) (.str z) && PyData.eqvAll (zs.map PyData.str) (zs.map PyData.str)) = true
    rw [eqv_strs zs]
    show (decide (z = z) && true) = true
    rw [decide_eq_true rfl]
    rfl
theorem ok_of {x : Str} (h : ∀ c ∈ x.cps.toList, c < 1114112) : PyData.strOk x = true := by
  show x.cps.all (fun c => decide (c < 1114112)) = true
  rw [Array.all_eq_true']
  intro c hc
  exact decide_eq_true (h c (by simpa using hc))
theorem of_ok {x : Str} (h : PyData.strOk x = true) : ∀ c ∈ x.cps.toList, c < 1114112 := fun c hc => by
  have z : x.cps.all (fun c => decide (c < 1114112)) = true := h
  rw [Array.all_eq_true'] at z
  exact of_decide_eq_true (z c (by simpa using hc))
theorem ok_app {x y : Str} (h : PyData.strOk x = true) (k : PyData.strOk y = true) : PyData.strOk (x ++ y) = true := ok_of fun c hc => by
  have e : (x ++ y).cps = x.cps ++ y.cps := rfl
  rw [e, Array.toList_append] at hc
  rcases List.mem_append.mp hc with z | z
  · exact of_ok h c z
  · exact of_ok k c z
theorem str_okS (s : String) : PyData.strOk (Str.ofString s) = true := by
  rw [Str.ofString_eq_toList]
  unfold PyData.strOk
  simp only [List.all_toArray, List.all_map, List.all_eq_true, Function.comp_apply, decide_eq_true_eq]
  intro a _
  have h : a.toNat < 55296 ∨ (57343 < a.toNat ∧ a.toNat < 1114112) := a.valid
  omega
theorem ch_ok (o : Option (Int × Int)) : PyData.strOk (chD o).shown = true := by
  cases o with
  | none => decide +kernel
  | some m =>
    have e : (chD (some m)).shown = ("(" : Str) ++ ((PyData.int m.1).shown ++ ", " ++ (PyData.int m.2).shown) ++ ")" := rfl
    rw [e]
    exact ok_app (ok_app (by decide +kernel) (ok_app (ok_app (str_okS _) (by decide +kernel)) (str_okS _))) (by decide +kernel)
theorem lay_strs : ∀ zs : List Str, (∀ z ∈ zs, PyData.strOk z = true) → PyData.canLayAll0 (zs.map PyData.str) = true
  | [], _ => rfl
  | z :: zs, h => by
    have e : (PyData.str z).canLay0 = true := h z List.mem_cons_self
    simp only [List.map_cons, PyData.canLayAll0, e, lay_strs zs fun y hy => h y (List.mem_cons_of_mem _ hy), Bool.and_self]
theorem dep_strs : ∀ zs : List Str, PyData.depthAll (zs.map PyData.str) = 0
  | [] => rfl
  | z :: zs => by
    have e : (PyData.str z).depth = 0 := rfl
    simp only [List.map_cons, PyData.depthAll, e, dep_strs zs]
    rfl
theorem shaped_strs (zs : List Str) (h : ∀ z ∈ zs, PyData.strOk z = true) : SeqAt.shaped (.list (zs.map PyData.str)) = true := by
  have c : (PyData.list (zs.map PyData.str)).canLay0 = true := lay_strs zs h
  have e : (PyData.list (zs.map PyData.str)).depth ≤ 2 := by
    show PyData.depthAll (zs.map PyData.str) + 1 ≤ 2
    rw [dep_strs zs]
    decide
  unfold SeqAt.shaped
  rw [c]
  simp
  omega
/-- values of any kind that are no levels, and what repr shows of them -/
def Odd (K : PySem.W.Frag) (H : Hp) (ns : List Int) (v : V) (d : PyData) : Prop := Any H v ∧ lvB ns v = false ∧ Tq K H v d 10 200
end K35

set_option Elab.async false
set_option linter.all false
set_option maxRecDepth 100000
set_option maxHeartbeats 4000000
set_option pp.maxSteps 900
namespace K35
open PySem PySem.Spec PyProof.Rows L2 Gu Ex
section
variable {P : Program} {w : World} {K : PySem.W.Frag} {mg : Str → Option Value} {base : Heap} {f : Addr} {fd : FuncData}
/-- the dues of the levels -/
def Dues (ns : List Int) (n : Int) (bs : List Blk) (os : List (Option (Int × Int))) : Prop := ∀ (k : Nat) o, os[k]? = some o → DueP ns n bs k o
theorem Dues.snoc {ns : List Int} {n : Int} {bs : List Blk} {os : List (Option (Int × Int))} {o : Option (Int × Int)} (h : Dues ns n bs os) (d : DueP ns n bs os.length o) : Dues ns n bs (os ++ [o]) := fun k o' e => by
  rcases Nat.lt_trichotomy k os.length with z | z | z
  · rw [List.getElem?_append_left z] at e
    exact h k o' e
  · subst z
    rw [List.getElem?_append_right (Nat.le_refl _), Nat.sub_self] at e
    cases e
    exact d
  · rw [List.getElem?_append_right (by omega)] at e
    have : ([o] : List (Option (Int × Int)))[k - os.length]? = none := List.getElem?_eq_none (by simp; omega)
    rw [this] at e
    cases e
def spRight (K : PySem.W.Frag) : Sp := fun vs H Q _ => ∃ r : Addr, vs = [.ref r] ∧ Rng H r ∧ ∀ H', Stp r H H' → Q (.bl true) H'
theorem sc__law_right : FnScope ["_law_rng_here", "_law_store", "_law_dues", "_law_turn", "_law_odd", "_law_sizes_here", "_law_length", "_law_blocks_here", "_law_moves_here", "_law_level", "_law_runs_here", "_law_top", "_law_rows", "_law_due_here", "_law_run"] ["_law_rng_here"] (defScope (top 61)) := ⟨rfl, rfl, rfl, by decide +kernel, rfl, by decide +kernel, by decide +kernel⟩
theorem ok_right (T : Tx K mg) (D__law_memory : Df P w K mg base 3 "_law_memory" ["_law_rng_here"] spMem) (D__law_made : Df P w K mg base 9 "_law_made" ["_law_sizes_here", "_law_length", "_law_blocks_here"] (spMadeL K)) (D__law_moves : Df P w K mg base 3 "_law_moves" ["_law_rng_here", "_law_sizes_here", "_law_length", "_law_blocks_here"] spMoves)
    (D__law_problem : Df P w K mg base 1 "_law_problem" ["_law_sizes_here", "_law_length", "_law_blocks_here", "_law_some"] (spProb K)) (D__law_after : Df P w K mg base 1 "_law_after" ["_law_blocks_here", "_law_moves_here"] spAfter) (D__law_due : Df P w K mg base 3 "_law_due" ["_law_sizes_here", "_law_length", "_law_blocks_here", "_law_level"] spDue)
    (D__law_free_runs : Df P w K mg base 2 "_law_free_runs" ["_law_sizes_here", "_law_length", "_law_blocks_here"] spFrL) (D_cheapest_region : Df P w K mg base 10 "cheapest_region" ["layout", "level"] (spCR K)) (D__law_choice : Df P w K mg base 2 "_law_choice" ["_law_rng_here", "_law_options"] spChoice)
    (D_cost : Df P w K mg base 11 "cost" ["layout", "moves"] (spCost K)) (D__law_outcome : DfG P w K mg base 11 "_law_outcome" ["_law_store", "_law_value"] (spOut K)) (D__law_end_right : DfG P w K mg base 11 "_law_end_right" [] spEnd) (M_blocks : Mf P w K mg base 1 "Layout" "blocks" ["self"] (spBlk K)) (F : FnP K "_law_right" "_law_right" (top 61) f fd) : FnG P w K mg base CX0 12 f fd ["_law_rng_here"] (spRight K) := by
  refine okG F sc__law_right (fun vs H Q E h => ?_) (fun cdv A outer s H vs Q E hr h => ⟨_, PSs.nox (pss_cons (ps_asg (pcall D__law_memory hr.r (pa_cons (pv 0) pa_nil)) (pg_tup (by rfl) (pgs_cons (pg_name (i := 5) sc__law_right.nd rfl (by first | exact Or.inl rfl | exact Or.inr rfl)) (pgs_cons (pg_name (i := 6) sc__law_right.nd rfl (by first | exact Or.inl rfl | exact Or.inr rfl)) (pgs_cons (pg_name (i := 7) sc__law_right.nd rfl (by first | exact Or.inl rfl | exact Or.inr rfl)) pgs_nil))))) (pss_cons (ps_set (i := 1) sc__law_right.nd rfl (by first | exact Or.inl rfl | exact Or.inr rfl) (pcall D__law_made hr.r (pa_cons (pv 5) (pa_cons (pv 6) (pa_cons (pv 7) pa_nil))))) (pss_cons (ps_setLc (i := 2) (own := [("_law_level", 9)]) (g := gName 9) rfl sc__law_right.nd rfl rfl (sw_true rfl rfl rfl (by decide +kernel)) (pi_range1 rfl T.n_range (pa_cons (pe_callB call_len_seq (by rfl) T.n_len (by decide +kernel) (pa_cons (pv 5) pa_nil)) pa_nil)) (blkOk_by (own := [("_law_level", 9)]) (N := ["_law_rng_here", "_law_store", "_law_dues", "_law_turn", "_law_odd", "_law_sizes_here", "_law_length", "_law_blocks_here", "_law_moves_here", "_law_level", "_law_runs_here", "_law_top", "_law_rows", "_law_due_here", "_law_run"]) (sc := defScope (top 61)) (by decide +kernel)) (fun _ _ _ _ _ => pg_name (i := 9) sc__law_right.nd rfl (Or.inl rfl)) (fun _ _ _ _ _ => pts_nil) (fun _ _ _ _ _ => (pcall D__law_due hr.r (pa_cons (pv 5) (pa_cons (pv 6) (pa_cons (pv 7) (pa_cons (pv 9) pa_nil))))))) (pss_cons (ps_if (pt_cmpR (op_neD hr.r.units) (pe_lc (own := [("_law_level", 9)]) (g := gName 9) rfl sc__law_right.nd (pi_range1 rfl T.n_range (pa_cons (pe_callB call_len_seq (by rfl) T.n_len (by decide +kernel) (pa_cons (pv 5) pa_nil)) pa_nil)) (blkOk_by (own := [("_law_level", 9)]) (N := ["_law_rng_here", "_law_store", "_law_dues", "_law_turn", "_law_odd", "_law_sizes_here", "_law_length", "_law_blocks_here", "_law_moves_here", "_law_level", "_law_runs_here", "_law_top", "_law_rows", "_law_due_here", "_law_run"]) (sc := defScope (top 61)) (by decide +kernel)) (fun _ _ _ _ _ => pg_name (i := 9) sc__law_right.nd rfl (Or.inl rfl)) (fun _ _ _ _ _ => pts_nil) (fun _ _ _ _ _ => (by exact (pe_callB (r := rReprQ K) (id := "repr") (call_reprQ hr T.sys) (by rfl) T.n_repr (by decide +kernel) (pa_cons (pcall D_cheapest_region hr.r (pa_cons (pv 1) (pa_cons (pv 9) pa_nil))) pa_nil))))) (pe_lc (own := [("_law_due_here", 13)]) (g := gName 13) rfl sc__law_right.nd (pi_list (pv 2)) (blkOk_by (own := [("_law_due_here", 13)]) (N := ["_law_rng_here", "_law_store", "_law_dues", "_law_turn", "_law_odd", "_law_sizes_here", "_law_length", "_law_blocks_here", "_law_moves_here", "_law_level", "_law_runs_here", "_law_top", "_law_rows", "_law_due_here", "_law_run"]) (sc := defScope (top 61)) (by decide +kernel)) (fun _ _ _ _ _ => pg_name (i := 13) sc__law_right.nd rfl (Or.inl rfl)) (fun _ _ _ _ _ => pts_nil) (fun _ _ _ _ _ => (by exact (pe_callB (r := rReprQ K) (id := "repr") (call_reprQ hr T.sys) (by rfl) T.n_repr (by decide +kernel) (pa_cons (pv 13) pa_nil))))) (nomark _)) (pss_one (ps_ret pe_bl)) pss_nil) (pss_cons (ps_for PassesOwn.never rfl (pi_range1 rfl T.n_range (pa_cons pe_int pa_nil)) (pg_name (i := 3) sc__law_right.nd rfl (by first | exact Or.inl rfl | exact Or.inr rfl)) (pss_cons (ps_set (i := 8) sc__law_right.nd rfl (by first | exact Or.inl rfl | exact Or.inr rfl) (pcall D__law_moves hr.r (pa_cons (pv 0) (pa_cons (pv 5) (pa_cons (pv 6) (pa_cons (pv 7) pa_nil)))))) (pss_one (ps_if (pt_cmpR op_isN (pcall D__law_problem hr.r (pa_cons (pv 5) (pa_cons (pv 6) (pa_cons (pv 7) (pa_cons (pv 8) pa_nil))))) pe_non (nomark _)) (pss_cons (ps_set (i := 10) sc__law_right.nd rfl (by first | exact Or.inl rfl | exact Or.inr rfl) (pcall D__law_free_runs hr.r (pa_cons (pv 5) (pa_cons (pv 6) (pa_cons (pcall D__law_after hr.r (pa_cons (pv 7) (pa_cons (pv 8) pa_nil))) pa_nil))))) (pss_cons (ps_set (i := 11) sc__law_right.nd rfl (by first | exact Or.inl rfl | exact Or.inr rfl) (pe_callB (cr_max rfl) (by rfl) T.n_max (by decide +kernel) (pa_cons (pe_op op_cat (pe_lst (pa_cons (pe_un un_neg pe_int) pa_nil)) (pe_lc (own := [("_law_run", 14)]) (g := gName 14) rfl sc__law_right.nd (pi_list (pv 10)) (blkOk_by (own := [("_law_run", 14)]) (N := ["_law_rng_here", "_law_store", "_law_dues", "_law_turn", "_law_odd", "_law_sizes_here", "_law_length", "_law_blocks_here", "_law_moves_here", "_law_level", "_law_runs_here", "_law_top", "_law_rows", "_law_due_here", "_law_run"]) (sc := defScope (top 61)) (by decide +kernel)) (fun _ _ _ _ _ => pg_name (i := 14) sc__law_right.nd rfl (Or.inl rfl)) (fun _ _ _ _ _ => pts_nil) (fun _ _ _ _ _ => (pe_ix (r := rIxT K) ix_tup (pv 14) pe_int (fun _ _ => rfl))))) pa_nil))) (pss_cons (ps_setLc (i := 12) (own := [("_law_due_here", 13)]) (g := gName 13) rfl sc__law_right.nd rfl rfl (sw_true rfl rfl rfl (by decide +kernel)) (pi_list (pe_slice sl_list (pv 2) po_none (po_some (pe_op op_add (pv 11) pe_int)))) (blkOk_by (own := [("_law_due_here", 13)]) (N := ["_law_rng_here", "_law_store", "_law_dues", "_law_turn", "_law_odd", "_law_sizes_here", "_law_length", "_law_blocks_here", "_law_moves_here", "_law_level", "_law_runs_here", "_law_top", "_law_rows", "_law_due_here", "_law_run"]) (sc := defScope (top 61)) (by decide +kernel)) (fun _ _ _ _ _ => pg_name (i := 13) sc__law_right.nd rfl (Or.inl rfl)) (fun _ _ _ _ _ => (pts_one (pt_cmpR op_notN (pv 13) pe_non (nomark _)))) (fun _ _ _ _ _ => (pe_ix (r := rIxT K) ix_tup (pv 13) pe_int (fun _ _ => rfl)))) (pss_one (ps_if (pt_cmpR op_lt (pcall D_cost hr.r (pa_cons (pv 1) (pa_cons (pv 8) pa_nil))) (pe_callB (cr_max rfl) (by rfl) T.n_max (by decide +kernel) (pa_cons (pe_op op_cat (pe_lst (pa_cons pe_int pa_nil)) (pv 12)) pa_nil)) (nomark _)) (pss_one (ps_ret pe_bl)) pss_nil))))) pss_nil)))) (pss_cons (ps_set (i := 4) sc__law_right.nd rfl (by first | exact Or.inl rfl | exact Or.inr rfl) (pcall D__law_choice hr.r (pa_cons (pv 0) (pa_cons (pe_lst (pa_cons pe_non (pa_cons pe_bl (pa_cons pe_bl (pa_cons (pe_un un_neg pe_int) (pa_cons (pe_callB call_len_seq (by rfl) T.n_len (by decide +kernel) (pa_cons (pv 5) pa_nil)) (pa_cons (pe_op op_pow pe_int pe_int) (pa_cons pe_str (pa_cons pe_str (pa_cons (pe_tup (pa_cons pe_int pa_nil)) (pa_cons (pe_lst (pa_cons pe_int pa_nil)) (pa_cons (pe_lst pa_nil) (pa_cons pe_dnewK pa_nil))))))))))))) pa_nil)))) (pss_cons (ps_if (PW.pt (pw_or (pt_cmpR op_ne (pcallG D__law_outcome hr (pa_cons (pv 1) (pa_cons (pv 4) pa_nil))) (pe_op op_add_str pe_str (by exact (pe_callB (r := rReprQ K) (id := "repr") (call_reprQ hr T.sys) (by rfl) T.n_repr (by decide +kernel) (pa_cons (pv 4) pa_nil)))) (nomark _)) (pw_or1 (pt_cmpR (op_neD hr.r.units) (pmeth0 M_blocks hr.r (pv 1)) (pv 7) (nomark _))))) (pss_one (ps_ret pe_bl)) pss_nil) (pss_one (ps_ret (pcallG0 D__law_end_right hr)))))))))), ?_⟩)
  · obtain ⟨r, rfl, _⟩ := h
    rfl
  · obtain ⟨r, rfl, hR, q⟩ := h
    have sl : sizeLine = 16777216 := sizeLine_eq
    refine ⟨_, rfl, r, rfl, hR, fun t s a ns n qs bs H1 t1 ht B sr s0 a0 => ⟨t, _, rfl, .inl (.inl ht), rfl, _, _, rfl, _, _, rfl, _, _, rfl, rfl, ?_⟩⟩
    have bl16 := B.ln
    have gd := B.gd
    have wf := B.wf
    have n1 := B.n1
    have n2 := B.n2
    have g8 := gd.len
    refine ⟨_, rfl, _, rfl, _, rfl, s, a, ns, n, qs, bs, rfl, B.hs, B.gd, B.ha, B.rf, B.wf, by omega, B.n1, B.n2, fun y zp bl dx dz l ps H2 sm L y0 bl0 hz l0 hl => ?_⟩
    have t2 := t1.trans (Stp.same t1.1 sm)
    have lr : l ≠ r := (t1.1.ne l0).symm
    have B2 := B.same sm
    refine ⟨_, rfl, s, _, rfl, .inl (SqL.of B2.hs), _, rfl, (by omega), (by rw [List.length_map]; omega), fun D hD => ?_⟩
    refine lc_range (fun i G => ∃ (vs : List V) (os : List (Option (Int × Int))), G D = some (.lst vs) ∧ ChVs G vs os ∧ os.length = i ∧ Dues ns n bs os ∧ Same H2 G) ⟨[], [], upd_same, trivial, rfl, (fun k o e => nomatch e), same_upd hD⟩ ?_ ?_
    · rintro i G hi ⟨vs, os, hG, cs, ol, du, s2⟩
      rw [List.length_map] at hi
      have ik : i < ns.length := by omega
      have vl := cs.len
      have BG := B2.same s2
      refine ⟨rfl, _, rfl, _, rfl, _, rfl, _, rfl, s, a, ns, n, qs, bs, i, (by rw [Int.zero_add]; rfl), BG.hs, gd, BG.ha, BG.rf, wf, by omega, n2, by omega, ik, fun o v G2 dp cv s3 => ?_⟩
      have hG2 := s3 _ _ hG
      refine ⟨_, hG2, by omega, vs ++ [v], os ++ [o], upd_same, ?_, by rw [List.length_append, ol]; rfl, du.snoc (by rw [ol]; exact dp), fun c x e => ?_⟩
      · refine ChVs.mono (fun t xs e => ?_) (ChVs.snoc cv (ChVs.mono (fun t xs e => s3 _ _ e) cs))
        rw [upd_ne (fun z => by rw [z, hG2] at e; cases e)]
        exact e
      · rw [upd_ne (ne_of_none e hD)]
        exact s3 _ _ (s2 c x e)
    rintro H3 ⟨vs, os, hD3, cs, ol, du, s3⟩
    rw [List.length_map] at ol
    have ol' : os.length = ns.length := by omega
    have vl := cs.len
    have B3 := B2.same s3
    have L3 := L.same s3
    have hz3 := s3 _ _ hz
    have t3 := t2.trans (Stp.same t2.1 s3)
    have Dr : D ≠ r := (t2.1.ne hD).symm
    clear ol
    refine ⟨_, rfl, s, _, rfl, .inl (SqL.of B3.hs), _, rfl, (by omega), (by rw [List.length_map]; omega), fun R hR1 => ?_⟩
    refine lc_range (fun i G => G R = some (.lst (((os.take i).map fun o => (chD o).shown).map V.str)) ∧ Same H3 G) ⟨upd_same, same_upd hR1⟩ ?_ ?_
    · rintro i G hi ⟨hG, s4⟩
      rw [List.length_map] at hi
      have ik : i < ns.length := by omega
      refine ⟨rfl, _, rfl, _, rfl, y, zp, bl, dx, ps, ns, n, bs, i, (by rw [Int.zero_add]; rfl), L3.same s4, by omega, ik, fun o v G2 ch cv s5 => ?_⟩
      have eo := List.getElem?_eq_getElem (l := os) (i := i) (by omega)
      have dp := ch_due wf gd ik ch
      have eo2 : os[i]? = some o := by rw [eo, (du i _ eo).uniq dp]
      have tq := tq_ch (K := K) wf gd ik n2 dp cv
      have hG2 := s5 _ _ hG
      refine ⟨_, _, rfl, tq.dq, tq.sh, Nat.le_trans tq.dp (by decide), Nat.le_trans tq.ln (by decide), _, hG2, (by rw [List.length_map, List.length_map, List.length_take]; omega), ?_, fun c x e => ?_⟩
      · rw [upd_same, take_snoc eo2, List.map_append, List.map_append]
        rfl
      · rw [upd_ne (ne_of_none e hR1)]
        exact s5 _ _ (s4 c x e)
    rintro H4 ⟨hR4, s4⟩
    rw [List.length_map, Int.toNat_natCast, ← ol', List.take_length] at hR4
    have cs4 : ChVs H4 vs os := ChVs.mono (fun t xs e => s4 _ _ e) cs
    have hD4 := s4 _ _ hD3
    refine ⟨_, rfl, D, rfl, ⟨_, SqL.of hD4⟩, fun R2 hR2 => ?_⟩
    refine lc_list (K := K) (a := D) (xs := vs) (fun i G => G R2 = some (.lst (((os.take i).map fun o => (chD o).shown).map V.str)) ∧ Same H4 G) ⟨upd_same, same_upd hR2⟩ (fun i G _ ⟨_, sm⟩ => SqL.of (sm _ _ hD4)) ?_ ?_
    · rintro i x G hx ⟨hG, s5⟩
      obtain ⟨o, ho, cv⟩ := cs4.get hx
      have ik : i < ns.length := by
        have := (List.getElem?_eq_some_iff.mp ho).1
        omega
      have tq := tq_ch (K := K) wf gd ik n2 (du i o ho) (cv.same s5)
      refine ⟨rfl, _, rfl, _, _, rfl, tq.dq, tq.sh, Nat.le_trans tq.dp (by decide), Nat.le_trans tq.ln (by decide), _, hG, (by rw [List.length_map, List.length_map, List.length_take]; omega), ?_, fun c x e => ?_⟩
      · rw [upd_same, take_snoc ho, List.map_append, List.map_append]
        rfl
      · rw [upd_ne (ne_of_none e hR2)]
        exact s5 c x e
    rintro H5 ⟨hR5, s5⟩
    rw [vl, List.take_length] at hR5
    have okS : ∀ z ∈ os.map fun o => (chD o).shown, PyData.strOk z = true := fun z hz => by
      obtain ⟨o, _, rfl⟩ := List.mem_map.mp hz
      exact ch_ok o
    refine ⟨_, _, .lst (SqL.of (s5 _ _ hR4)) (dp_strs _), .lst (SqL.of hR5) (dp_strs _), shaped_strs _ okS, shaped_strs _ okS, _, rfl, iteF' (by show (!PyData.eqvAll _ _) = false; rw [eqv_strs]; rfl) ?_⟩
    clear okS
    have s35 := s4.trans s5
    have hD5 := s35 _ _ hD3
    have cs5 : ChVs H5 vs os := ChVs.mono (fun t xs e => s35 _ _ e) cs
    have B5 := B3.same s35
    have L5 := L3.same s35
    have hz5 := s35 _ _ hz3
    have t5 := t3.trans (Stp.same t3.1 s35)
    clear cs cs4 hD3 hD4 hR4 hR5
    refine ⟨6, rfl, by decide, by decide, ?_⟩
    refine for_range (fun i σ G => ∃ (x3 x8 x10 x11 x12 : Option V), σ = [some (.ref r), some (.ref y), some (.ref D), x3, none, some (.ref s), some (.int n), some (.ref a), x8, none, x10, x11, x12, none, none] ∧ Stp r H5 G) ⟨none, none, none, none, none, rfl, Stp.refl t5.1⟩ ?_ ?_
    · rintro i σ G hi ⟨x3, x8, x10, x11, x12, rfl, tG⟩
      have BG := B5.step t5.1 sr tG
      obtain ⟨LG, hzG⟩ := L5.step t5.1 hz5 lr tG
      have DG := tG.2 _ _ Dr hD5
      have csG : ChVs G vs os := ChVs.mono (fun t xs e => tG.2 _ _ (t5.1.tup e) e) cs5
      refine ⟨_, rfl, _, rfl, _, rfl, _, rfl, r, s, a, ns, n, qs, bs, rfl, tG.1, BG, sr, fun m mp mm G1 m0 tm hm rfm bm lm => ?_⟩
      have B1 := BG.step tG.1 sr tm
      obtain ⟨L1, hz1⟩ := LG.step tG.1 hzG lr tm
      have D1 := tm.2 _ _ Dr DG
      have cs1 : ChVs G1 vs os := ChVs.mono (fun t xs e => tm.2 _ _ (tG.1.tup e) e) csG
      have tG1 := tG.trans tm
      have mlen := rfm.len
      refine ⟨_, rfl, _, rfl, _, rfl, _, rfl, s, a, ns, n, qs, bs, _, _, rfl, B1, .list hm (mvs_of rfm) (by rw [List.length_map]; omega), fun ok G2 s2 => ?_, fun nok pp G2 s2 => ?_⟩
      case refine_2 =>
        refine ⟨rfl, _, rfl, ifF (decide_eq_false (fun z => nomatch z)) ?_⟩
        exact ⟨_, _, _, _, _, rfl, tG1.trans (Stp.same tG1.1 s2)⟩
      refine ⟨rfl, _, rfl, ifT (decide_eq_true rfl) ?_⟩
      obtain ⟨Ft, lo⟩ := okR_of ok
      have B2' := B1.same s2
      refine ⟨_, rfl, _, rfl, _, rfl, _, rfl, a, m, qs, mp, ns, n, bs, mm, rfl, B2'.ha, B2'.rf, wf, gd, by omega, s2 _ _ hm, rfm.same s2, Ft, lo, fun a2 qs2 bs3 G3 a20 s3' ha2 rf2 wf2 pm => ?_⟩
      have s13 := s2.trans s3'
      have blen : bs3.length = bs.length := by rw [pm.length_eq, List.length_map]
      refine ⟨s, a2, ns, n, qs2, bs3, rfl, s13 _ _ B1.hs, gd, ha2, rf2, wf2.un, by omega, n2, by omega, fun RR rp rs G4 hRR s4' hR4 rfr FO => ?_⟩
      have s14 := s13.trans s4'
      have rl := rfr.len
      have rl2 := FO.len
      refine ⟨_, rfl, (by show 1 ≤ sizeLine; decide), fun A1 hA1 => ?_⟩
      have sA := same_upd (o := .lst [.int (-1)]) hA1
      have kA : (upd G4 A1 (.lst [.int (-1)])) A1 = some (.lst [.int (-1)]) := upd_same
      have hRA := sA _ _ hR4
      have rfA := rfr.same sA
      have s1A := s14.trans sA
      generalize upd G4 A1 (.lst [.int (-1)]) = G5 at sA kA hRA rfA s1A
      refine ⟨_, rfl, RR, rfl, ⟨_, SqL.of hRA⟩, fun A2 hA2 => ?_⟩
      refine lc_list (K := K) (a := RR) (xs := rp.map V.ref) (fun i G => G A2 = some (.lst (((rs.take i).map fun r => ((r.1 : Nat) : Int)).map V.int)) ∧ Same G5 G) ⟨upd_same, same_upd hA2⟩ (fun i G _ ⟨_, sm⟩ => SqL.of (sm _ _ hRA)) ?_ ?_
      · rintro i x G6 hx ⟨hG6, s6⟩
        obtain ⟨p, hp, rfl⟩ := ref_of hx
        obtain ⟨rr, hrr, hT⟩ := (rfA.same s6).get hp
        have hT' : G6 p = some (.tup [.int (rr.1 : Nat), .int rr.2.1, .int rr.2.2]) := hT
        have il := (List.getElem?_eq_some_iff.mp hrr).1
        refine ⟨rfl, _, rfl, p, _, _, _, rfl, rfl, .inl (.inl hT'), rfl, _, hG6, (by rw [List.length_map, List.length_map, List.length_take]; omega), ?_, fun c x e => ?_⟩
        · rw [upd_same, take_snoc hrr, List.map_append, List.map_append]
          rfl
        · rw [upd_ne (ne_of_none e hA2)]
          exact s6 c x e
      rintro G6 ⟨hG6, s6⟩
      rw [List.length_map, rl, List.take_length] at hG6
      refine ⟨A1, A2, _, _, rfl, rfl, s6 _ _ kA, hG6, (by rw [List.length_map, List.length_map]; show 1 + rs.length ≤ sizeLine; omega), fun A3 hA3 => ?_⟩
      have s16 := s1A.trans (s6.trans (same_upd (o := .lst ([V.int (-1)] ++ (rs.map fun r => ((r.1 : Nat) : Int)).map V.int)) hA3))
      have kA3 : (upd G6 A3 (.lst ([V.int (-1)] ++ (rs.map fun r => ((r.1 : Nat) : Int)).map V.int))) A3 = some (.lst (((-1) :: rs.map fun r => ((r.1 : Nat) : Int)).map V.int)) := upd_same
      generalize upd G6 A3 (.lst ([V.int (-1)] ++ (rs.map fun r => ((r.1 : Nat) : Int)).map V.int)) = G7 at s16 kA3
      refine ⟨A3, _, rfl, SqL.of kA3, Nat.zero_lt_succ _, fun top tp1 tp2 => ?_⟩
      have tpn : -1 ≤ top := tp2 (-1) List.mem_cons_self
      have tpr : ∀ k : Nat, (k : Int) ≤ top → ∃ rr ∈ rs, k ≤ rr.1 := fun k hk => by
        rcases List.mem_cons.mp tp1 with z | z
        · omega
        · obtain ⟨rr, hrr, e⟩ := List.mem_map.mp z
          exact ⟨rr, hrr, by omega⟩
      have D7 := s16 _ _ D1
      have cs7 : ChVs G7 vs os := ChVs.mono (fun t xs e => s16 _ _ e) cs1
      refine ⟨_, rfl, _, rfl, _, _, rfl, rfl, _, rfl, D, _, rfl, SqL.of D7, fun S hS => ?_⟩
      obtain ⟨j, hj⟩ : ∃ j : Nat, top + 1 = (j : Int) := ⟨(top + 1).toNat, by omega⟩
      have ec : cutV vs none (some (top + 1)) = vs.take j := by rw [hj, cut_to]
      have sS := same_upd (o := .lst (cutV vs none (some (top + 1)))) hS
      have kS : (upd G7 S (.lst (cutV vs none (some (top + 1))))) S = some (.lst (vs.take j)) := by rw [ec]; exact upd_same
      have cs8 : ChVs (upd G7 S (.lst (cutV vs none (some (top + 1))))) vs os := ChVs.mono (fun t xs e => sS _ _ e) cs7
      have s18 := s16.trans sS
      generalize upd G7 S (.lst (cutV vs none (some (top + 1)))) = G8 at sS kS cs8 s18
      refine ⟨S, rfl, ⟨_, SqL.of kS⟩, fun A4 hA4 => ?_⟩
      refine lc_list (K := K) (a := S) (xs := vs.take j) (fun i G => ∃ xs : List Int, G A4 = some (.lst (xs.map V.int)) ∧ xs.length ≤ i ∧ (∀ x ∈ xs, ∃ (k : Nat) (st : Int), k < j ∧ os[k]? = some (some (st, x))) ∧ Same G8 G) ⟨[], upd_same, Nat.zero_le _, (fun x h => nomatch h), same_upd hA4⟩ (fun i G _ ⟨_, _, _, _, sm⟩ => SqL.of (sm _ _ kS)) ?_ ?_
      · rintro i x G9 hx ⟨xs, hG9, xl, xm, s9⟩
        have ij : i < j := by
          have := (List.getElem?_eq_some_iff.mp hx).1
          rw [List.length_take] at this
          omega
        have hx' : vs[i]? = some x := by rw [List.getElem?_take, if_pos ij] at hx; exact hx
        obtain ⟨o, ho, cv⟩ := cs8.get hx'
        have il : i < os.length := (List.getElem?_eq_some_iff.mp ho).1
        have cv9 := cv.same s9
        cases o with
        | none =>
          obtain rfl : x = .non := cv9
          exact ⟨rfl, _, rfl, rfl, _, rfl, iteF' rfl ⟨xs, hG9, by omega, xm, s9⟩⟩
        | some mm2 =>
          obtain ⟨tt, rfl, htt⟩ := cv9
          refine ⟨rfl, _, rfl, rfl, _, rfl, iteT' rfl ⟨_, rfl, tt, _, _, _, rfl, rfl, .inl (.inl htt), rfl, _, hG9, (by rw [List.length_map]; omega), xs ++ [mm2.2], by rw [upd_same, List.map_append]; rfl, by rw [List.length_append]; show xs.length + 1 ≤ i + 1; omega, fun x hx => ?_, fun c x e => ?_⟩⟩
          · rcases List.mem_append.mp hx with z | z
            · exact xm x z
            · rw [List.mem_singleton.mp z]
              exact ⟨i, mm2.1, ij, ho⟩
          · rw [upd_ne (ne_of_none e hA4)]
            exact s9 c x e
      rintro G9 ⟨xs, hG9, xl, xm, s9⟩
      rw [List.length_take] at xl
      have s19 := s18.trans s9
      have L9 := L1.same s19
      refine ⟨_, rfl, _, rfl, y, zp, bl, dx, m, ps, ns, n, bs, mp.map V.ref, mm, rfl, L9, s19 _ _ hm, (mvs_of rfm).same s19, (by rw [List.length_map]; omega), ok, fun Ga sa => ?_⟩
      refine ⟨(by show 1 ≤ sizeLine; decide), fun A5 hA5 => ?_⟩
      have sB := same_upd (o := .lst [.int 0]) hA5
      have kB : (upd Ga A5 (.lst [.int 0])) A5 = some (.lst [.int 0]) := upd_same
      have hGb := sB _ _ (sa _ _ hG9)
      have s1b := (s19.trans sa).trans sB
      generalize upd Ga A5 (.lst [.int 0]) = Gb at sB kB hGb s1b
      refine ⟨_, rfl, A5, A4, _, _, rfl, rfl, kB, hGb, (by rw [List.length_map]; show 1 + xs.length ≤ sizeLine; omega), fun A6 hA6 => ?_⟩
      have s1c := s1b.trans (same_upd (o := .lst ([V.int 0] ++ xs.map V.int)) hA6)
      have kC : (upd Gb A6 (.lst ([V.int 0] ++ xs.map V.int))) A6 = some (.lst ((0 :: xs).map V.int)) := upd_same
      generalize upd Gb A6 (.lst ([V.int 0] ++ xs.map V.int)) = Gc at s1c kC
      refine ⟨A6, _, rfl, SqL.of kC, Nat.zero_lt_succ _, fun mx mx1 mx2 => ?_⟩
      have le : mx ≤ costI ns bs mm := by
        rcases List.mem_cons.mp mx1 with z | z
        · rw [z]
          exact cost_nn gd
        · obtain ⟨k, st, kj, e⟩ := xm mx z
          obtain ⟨rr, hrr, kr⟩ := tpr k (by omega)
          exact due_le wf gd Ft pm FO hrr kr (du k _ e)
      refine ⟨_, _, rfl, rfl, _, rfl, iteF' (decide_eq_false (by omega)) ?_⟩
      exact ⟨_, _, _, _, _, rfl, tG1.trans (Stp.same tG1.1 s1c)⟩
    rintro σ G ⟨x3, x8, x10, x11, x12, rfl, tG⟩
    have BG := B5.step t5.1 sr tG
    obtain ⟨LG, hzG⟩ := L5.step t5.1 hz5 lr tG
    refine ⟨_, rfl, _, rfl, _, rfl, s, _, rfl, .inl (SqL.of BG.hs), ?_⟩
    refine ⟨_, _, rfl, rfl, ⟨by decide, by decide, by decide⟩, ?_⟩
    refine ⟨(by show 1 ≤ sizeLine; decide), fun T1 hT1 => ?_⟩
    have a1 := same_upd (o := .tup [.int 0]) hT1
    have c1 : (upd G T1 (.tup [.int 0])) T1 = some (.tup [.int 0]) := upd_same
    generalize upd G T1 (.tup [.int 0]) = U1 at a1 c1
    have tU1 := Stp.same tG.1 a1
    refine ⟨(by show 1 ≤ sizeLine; decide), fun T2 hT2 => ?_⟩
    have a2 := same_upd (o := .lst [.int 0]) hT2
    have c2 : (upd U1 T2 (.lst [.int 0])) T2 = some (.lst [.int 0]) := upd_same
    generalize upd U1 T2 (.lst [.int 0]) = U2 at a2 c2
    have n2r : T2 ≠ r := (tU1.1.ne hT2).symm
    have tU2 := Stp.same tU1.1 a2
    refine ⟨(by show 0 ≤ sizeLine; decide), fun T3 hT3 => ?_⟩
    have a3 := same_upd (o := .lst []) hT3
    have c3 : (upd U2 T3 (.lst [])) T3 = some (.lst []) := upd_same
    generalize upd U2 T3 (.lst []) = U3 at a3 c3
    have n3r : T3 ≠ r := (tU2.1.ne hT3).symm
    have tU3 := Stp.same tU2.1 a3
    refine fun T4 hT4 => ?_
    have a4 := same_upd (o := .dK []) hT4
    have c4 : (upd U3 T4 (.dK [])) T4 = some (.dK []) := upd_same
    generalize upd U3 T4 (.dK []) = U4 at a4 c4
    have n4r : T4 ≠ r := (tU3.1.ne hT4).symm
    have tU4 := Stp.same tU3.1 a4
    refine ⟨(by show 12 ≤ sizeLine; decide), fun O hO => ?_⟩
    have s5' := same_upd (o := .lst [V.non, V.bl true, V.bl false, V.int (-1), V.int ((ns.map V.int).length : Nat), V.int (10 ^ (30 : Int).toNat), V.str (Str.ofString "0"), V.str (Str.ofString ""), V.ref T1, V.ref T2, V.ref T3, V.ref T4]) hO
    have tU5 := Stp.same tU4.1 s5'
    have nO : O ≠ r := (tU4.1.ne hO).symm
    refine ⟨r, O, [V.non, V.bl true, V.bl false, V.int (-1), V.int ((ns.map V.int).length : Nat), V.int (10 ^ (30 : Int).toNat), V.str (Str.ofString "0"), V.str (Str.ofString ""), V.ref T1, V.ref T2, V.ref T3, V.ref T4], rfl, tU5.1, upd_same, nO, (by show 1 ≤ 12; decide), (by show 12 ≤ 1000; decide), fun v H6 hv t6 => ?_⟩
    have e1 := t6.2 _ _ (tU5.1.tup (s5' _ _ (a4 _ _ (a3 _ _ (a2 _ _ c1))))) (s5' _ _ (a4 _ _ (a3 _ _ (a2 _ _ c1))))
    have e2 := t6.2 _ _ n2r (s5' _ _ (a4 _ _ (a3 _ _ c2)))
    have e3 := t6.2 _ _ n3r (s5' _ _ (a4 _ _ c3))
    have e4 := t6.2 _ _ n4r (s5' _ _ c4)
    have tGU := tU1.trans (tU2.trans (tU3.trans (tU4.trans (tU5.trans t6))))
    clear hT1 hT2 hT3 hT4 hO a1 a2 a3 a4 s5' c1 c2 c3 c4 tU1 tU2 tU3 tU4 tU5 t6
    have b39 : (10 : Int) ^ 39 = 1000000000000000000000000000000000000000 := by decide
    have b30 : (10 : Int) ^ (30 : Int).toNat = 1000000000000000000000000000000 := by decide
    have odd : ∃ d, Any H6 v ∧ lvB ns v = false ∧ Tq K H6 v d 10 200 := by
      simp only [List.mem_cons, List.not_mem_nil, or_false] at hv
      rcases hv with rfl | rfl | rfl | rfl | rfl | rfl | rfl | rfl | rfl | rfl | rfl | rfl
      · exact ⟨_, .non, rfl, tq_non.mono (by decide) (by decide)⟩
      · exact ⟨_, .bl _, rfl, (tq_bl true).mono (by decide) (by decide)⟩
      · exact ⟨_, .bl _, rfl, (tq_bl false).mono (by decide) (by decide)⟩
      · exact ⟨_, .int _, rfl, (tq_int (by decide) (by decide)).mono (by decide) (by decide)⟩
      · refine ⟨_, .int _, ?_, (tq_int (by omega) (by rw [List.length_map]; omega)).mono (by decide) (by decide)⟩
        show decide _ = false
        rw [List.length_map]
        exact decide_eq_false (by omega)
      · refine ⟨_, .int _, ?_, (tq_int (by rw [b30]; omega) (by rw [b30]; omega)).mono (by decide) (by decide)⟩
        show decide _ = false
        rw [b30]
        exact decide_eq_false (by omega)
      · exact ⟨_, .str _, rfl, (tq_text "0" (by decide +kernel)).mono (by decide) (by decide)⟩
      · exact ⟨_, .str _, rfl, (tq_text "" (by decide +kernel)).mono (by decide) (by decide)⟩
      · exact ⟨_, .tup e1, rfl, ((tqa_cons (m := 41) (n := 0) (tq_int (i := 0) (by decide) (by decide)) tqa_nil).tup e1).mono (by decide) (by show 1 * (41 + 2) + 3 ≤ 200; decide)⟩
      · exact ⟨_, .lst e2, rfl, ((tqa_cons (m := 41) (n := 0) (tq_int (i := 0) (by decide) (by decide)) tqa_nil).lst e2).mono (by decide) (by show 1 * (41 + 2) + 3 ≤ 200; decide)⟩
      · exact ⟨_, .lst e3, rfl, ((tqa_nil (m := 41) (n := 0)).lst e3).mono (by decide) (by show 0 * (41 + 2) + 3 ≤ 200; decide)⟩
      · exact ⟨_, .dct e4, rfl, (tq_dct e4).mono (by decide) (by decide)⟩
    obtain ⟨dv, av, lvf, tq⟩ := odd
    have tG6 := tG.trans tGU
    have B6 := BG.step tG.1 sr tGU
    obtain ⟨L6, hz6⟩ := LG.step tG.1 hzG lr tGU
    have n7 : ("level " : Str).length + dv.shown.length ≤ sizeLine := Nat.le_trans (Nat.add_le_add_left tq.ln _) (by decide)
    refine ⟨_, rfl, _, rfl, y, zp, bl, dx, ps, ns, n, bs, v, dv, rfl, L6, by omega, av, lvf, tq.dq, tq.sh, Nat.le_trans tq.dp (by decide), Nat.le_trans tq.ln (by decide), fun H7 s7 => ?_⟩
    have tq7 := tq.same s7
    refine ⟨_, rfl, _, _, rfl, tq7.dq, tq7.sh, Nat.le_trans tq7.dp (by decide), Nat.le_trans tq7.ln (by decide), _, _, rfl, rfl, n7, ?_⟩
    have L7 := L6.same s7
    refine ⟨rfl, _, rfl, ifF (by rw [decide_eq_true rfl]; rfl) ?_⟩
    refine ⟨_, rfl, y, dx, _, rfl, L7.at_, lay_nm (by decide +kernel), y, zp, bl, dx, ps, ns, n, bs, rfl, L7, fun b hb => ?_⟩
    have xb := same_upd (o := .lst (ps.map V.ref)) hb
    have hb2 : (upd H7 b (.lst (ps.map V.ref))) b = some (.lst (ps.map V.ref)) := upd_same
    generalize upd H7 b (.lst (ps.map V.ref)) = H8 at hb2 xb
    have s68 := s7.trans xb
    have B8 := B6.same s68
    have evb : PyData.eqv (.list (bs.map blkD)) (.list (bs.map blkD)) = true := by
      show PyData.eqvAll (bs.map blkD) (bs.map blkD) = true
      rw [eqv_blks]
      exact decide_eq_true rfl
    refine ⟨_, rfl, .list (bs.map blkD), .list (bs.map blkD), .lst (SqL.of hb2) (L7.same xb).rf.dp, .lst (SqL.of B8.ha) B8.rf.dp, shaped_blk _, shaped_blk _, _, rfl, ifF (by rw [evb]; rfl) ?_⟩
    have t8 := tG6.trans (Stp.same tG6.1 s68)
    exact ⟨rfl, fun H9 s9 => q H9 (t5.trans (t8.trans (Stp.same t8.1 s9)))⟩
def spLaw (K : PySem.W.Frag) : Sp := fun vs H Q _ => ∃ (a : Addr) (ns : List Int), vs = [.ref a] ∧ SqL K H a (ns.map V.int) ∧ ns.length ≤ 63 ∧ ∀ H', Q (.bl true) H'
theorem sc_law : FnScope ["_law_script", "_law_k"] ["_law_script"] (defScope (top 62)) := ⟨rfl, rfl, rfl, by decide +kernel, rfl, by decide +kernel, by decide +kernel⟩
theorem ok_law (T : Tx K mg) (D__law_rng : Df P w K mg base 1 "_law_rng" ["_law_script", "_law_k"] (spRng K)) (D__law_right : DfG P w K mg base 12 "_law_right" ["_law_rng_here"] (spRight K))
    (F : FnP K "law" "law" (top 62) f fd) : FnG P w K mg base CX0 13 f fd ["_law_script"] (spLaw K) := by
  refine okG F sc_law (fun vs H Q E h => ?_) (fun cdv A outer s H vs Q E hr h => ⟨_, PSs.nox (pss_one (ps_ret (pe_callB (cr_all rfl) (by rfl) T.n_all (by decide +kernel) (pa_cons (pe_lc (own := [("_law_k", 1)]) (g := gName 1) rfl sc_law.nd (pi_range1 rfl T.n_range (pa_cons (pe_callB (call_max2 rfl) (by rfl) T.n_max (by decide +kernel) (pa_cons pe_int (pa_cons (pe_callB (call_min2 rfl) (by rfl) T.n_min (by decide +kernel) (pa_cons (pe_callB call_len_seq (by rfl) T.n_len (by decide +kernel) (pa_cons (pv 0) pa_nil)) (pa_cons pe_int pa_nil))) pa_nil))) pa_nil)) (blkOk_by (own := [("_law_k", 1)]) (N := ["_law_script", "_law_k"]) (sc := defScope (top 62)) (by decide +kernel)) (fun _ _ _ _ _ => pg_name (i := 1) sc_law.nd rfl (Or.inl rfl)) (fun _ _ _ _ _ => pts_nil) (fun _ _ _ _ _ => (pcallG D__law_right hr (pa_cons (pcall D__law_rng hr.r (pa_cons (pv 0) (pa_cons (pv 1) pa_nil))) pa_nil)))) pa_nil)))), ?_⟩)
  · obtain ⟨a, ns, rfl, _⟩ := h
    rfl
  · obtain ⟨a, ns, rfl, hS, hlen, q⟩ := h
    refine ⟨_, rfl, a, _, rfl, .inl hS, _, _, rfl, _, _, rfl, ?_⟩
    obtain ⟨j, ej, j1, j2⟩ : ∃ j : Int, (if (if (4 : Int) < ((ns.map V.int).length : Int) then 4 else ((ns.map V.int).length : Int)) > 1 then (if (4 : Int) < ((ns.map V.int).length : Int) then 4 else ((ns.map V.int).length : Int)) else 1) = j ∧ 1 ≤ j ∧ j ≤ 4 := by
      refine ⟨_, rfl, ?_, ?_⟩
      · split <;> omega
      · split <;> split <;> omega
    refine ⟨j, (by rw [ej]), by omega, by omega, fun D hD => ?_⟩
    refine lc_range (fun i H' => H' D = some (.lst ((List.replicate i true).map V.bl)) ∧ Same H H') ⟨upd_same, same_upd hD⟩ ?_ ?_
    · rintro i H' hi ⟨hD', sm⟩
      have hi2 : i < 4 := by omega
      refine ⟨rfl, _, rfl, _, rfl, a, ns, i, (by rw [Int.zero_add]; rfl), sm.seq hS, by omega, fun p H1 hp sm1 rg => ?_⟩
      refine ⟨p, rfl, rg, fun H2 st => ?_⟩
      have hD1 : H1 D = some (.lst ((List.replicate i true).map V.bl)) := sm1 _ _ hD'
      have nDp : D ≠ p := ne_of_none hD' hp
      refine ⟨_, st.2 D _ nDp hD1, small1000 (by rw [trues_len]; omega), by rw [upd_same, trues_more], fun b o e => ?_⟩
      have e' := sm b o e
      rw [upd_ne (ne_of_none e hD)]
      exact st.2 b o (ne_of_none e' hp) (sm1 b o e')
    · rintro H' ⟨hD', sm⟩
      refine ⟨D, List.replicate j.toNat true, rfl, SqL.of hD', ?_⟩
      rw [all_trues]
      exact q _
end
end K35

set_option Elab.async false
set_option linter.all false
set_option maxRecDepth 100000
set_option maxHeartbeats 0
namespace K35
open PySem PySem.Spec PyProof.Rows L2 Gu Ex
theorem klB_ok {K : PySem.W.Frag} (h : klB K = true) : KitL K := by
  obtain ⟨a1, h⟩ := He.ba h
  obtain ⟨a2, h⟩ := He.ba h
  obtain ⟨a3, h⟩ := He.ba h
  obtain ⟨a4, a5⟩ := He.ba h
  exact ⟨(ecB_ok a1).1, (ecB_ok a1).2, He.eqO_ok a2, bOf_ok a3, bOf_ok a4, bOf_ok a5⟩
end K35

set_option Elab.async false
set_option linter.all false
set_option maxRecDepth 100000
set_option maxHeartbeats 0
namespace K35
open PySem PySem.Spec PyProof.Rows L2 Gu Ex
theorem run (w : World) : HandSHeadRun.RunEq R (PySem.W.view R.prog [62]) hk ob 16000 loose w :=
  fun os => in_parts (r_looks w os) (r_seen w os) (r_fa w os) (r_fn w os) (r_fw w os) (r_ex w os) (r_pr w os)
section
variable {P : Program} {w : World} {K : PySem.W.Frag} {h : Heap} {mg : Str → Option Value} {base : Heap}
theorem tx (X : K.In h) (G : h.Ns mainGlobals mg) (c : He.SaysD fa fn K) (x : exB K = true) : Tx K mg := by
  obtain ⟨x1, x⟩ := He.ba x
  obtain ⟨x2, x⟩ := He.ba x
  obtain ⟨x3, x⟩ := He.ba x
  obtain ⟨x4, x⟩ := He.ba x
  obtain ⟨x5, x⟩ := He.ba x
  obtain ⟨xn_S, x⟩ := He.ba x
  obtain ⟨xi_S, x⟩ := He.ba x
  obtain ⟨xi_L, x⟩ := He.ba x
  obtain ⟨xL, x⟩ := He.ba x
  obtain ⟨xkL, x⟩ := He.ba x
  obtain ⟨xp_top, x⟩ := He.ba x
  obtain ⟨xo_top, x⟩ := He.ba x
  obtain ⟨xp_sizes, x⟩ := He.ba x
  obtain ⟨xo_sizes, x⟩ := He.ba x
  obtain ⟨xp_length, x⟩ := He.ba x
  obtain ⟨xo_length, x⟩ := He.ba x
  have hsys : SysOk K := by
    unfold sysB at x4
    split at x4
    · rename_i o e
      exact ⟨o, e, of_decide_eq_true x4⟩
    · cases x4
  exact ⟨He.free_ok X G (c.fact 48 (f := .free "len") rfl),
    He.free_ok X G (c.fact 49 (f := .free "isinstance") rfl),
    He.free_ok X G (c.fact 50 (f := .free "int") rfl),
    He.free_ok X G (c.fact 51 (f := .free "bool") rfl),
    He.free_ok X G (c.fact 52 (f := .free "list") rfl),
    He.free_ok X G (c.fact 53 (f := .free "range") rfl),
    He.free_ok X G (c.fact 54 (f := .free "divmod") rfl),
    He.free_ok X G (c.fact 55 (f := .free "abs") rfl),
    He.free_ok X G (c.fact 56 (f := .free "max") rfl),
    He.free_ok X G (c.fact 57 (f := .free "min") rfl),
    He.free_ok X G (c.fact 58 (f := .free "enumerate") rfl),
    He.free_ok X G (c.fact 59 (f := .free "all") rfl),
    He.free_ok X G (c.fact 60 (f := .free "sum") rfl),
    He.free_ok X G (c.fact 61 (f := .free "tuple") rfl),
    He.free_ok X G (c.fact 62 (f := .free "sorted") rfl),
    He.free_ok X G (c.fact 63 (f := .free "repr") rfl),
    He.free_ok X G (c.fact 64 (f := .free "set") rfl),
    He.free_ok X G (c.fact 65 (f := .free "dict") rfl),
    He.free_ok X G (c.fact 66 (f := .free "any") rfl),
    He.glo_ok X G (c.fact 41 (f := .glo "Sizes") rfl),
    He.cls_ok (c.fact 69 (f := .cls "Sizes") rfl),
    He.noat_ok (c.fact 70 (f := .noat "Sizes" "size_list") rfl),
    rdB_ok x1,
    cvB_ok x2,
    cvB_ok x3,
    hsys,
    cvB_ok x5,
    He.glo_ok X G (c.fact 42 (f := .glo "Layout") rfl),
    He.cls_ok (c.fact 76 (f := .cls "Layout") rfl),
    He.noat_ok (c.fact 78 (f := .noat "Layout" "size_table") rfl),
    He.noat_ok (c.fact 79 (f := .noat "Layout" "cell_count") rfl),
    He.noat_ok (c.fact 80 (f := .noat "Layout" "free_count") rfl),
    He.noat_ok (c.fact 81 (f := .noat "Layout" "block_list") rfl),
    insB_ok (He.cls_ok (c.fact 69 (f := .cls "Sizes") rfl)) xi_S,
    insB_ok (He.cls_ok (c.fact 76 (f := .cls "Layout") rfl)) xi_L,
    He.glo_ok X G (c.fact 44 (f := .glo "InvalidAddress") rfl),
    He.glo_ok X G (c.fact 45 (f := .glo "InvalidLevel") rfl),
    He.glo_ok X G (c.fact 46 (f := .glo "InvalidNumber") rfl),
    He.glo_ok X G (c.fact 47 (f := .glo "RoomError") rfl),
    He.free_ok X G (c.fact 67 (f := .free "LookupError") rfl),
    He.glo_ok X G (c.fact 43 (f := .glo "Plan") rfl),
    He.cls_ok (c.fact 92 (f := .cls "Plan") rfl),
    He.noat_ok (c.fact 94 (f := .noat "Plan" "size_table") rfl),
    He.noat_ok (c.fact 95 (f := .noat "Plan" "cell_count") rfl),
    He.noat_ok (c.fact 96 (f := .noat "Plan" "closed") rfl),
    He.noat_ok (c.fact 97 (f := .noat "Plan" "staying") rfl),
    He.noat_ok (c.fact 98 (f := .noat "Plan" "lost") rfl),
    He.noat_ok (c.fact 99 (f := .noat "Plan" "goals") rfl),
    errG_ok base_VE xL,
    neB_ok xn_S⟩
theorem df {x : Str} {ps : List Str} {sp : Sp} {k : Nat} {st : Stmt} {fd : FuncData} (X : K.In h) (G : h.Ns mainGlobals mg) (g : (He.Fa.glo x).ok K = true) (F : FnP K x x st (He.ga K x) fd)
    (hb : ∀ (kV doc pm : Value) (an : Option Addr) (cdv ct : Value) (us : List Value), us.length = ps.length → bindArgs (PySem.W.fnOf x x (defArgs st) (defBody st) (defScope st) .none kV doc pm an cdv ct) ⟨us, []⟩ = pure (ps.zip us))
    (ok : FnOk P w K mg base CX0 k (He.ga K x) fd ps sp) : Df P w K mg base k x ps sp := ⟨⟨fd, ok, F.bindsN hb⟩, He.glo_ok X G g, F.kp⟩
theorem dfG {x : Str} {ps : List Str} {sp : Sp} {k : Nat} {st : Stmt} {fd : FuncData} (X : K.In h) (G : h.Ns mainGlobals mg) (g : (He.Fa.glo x).ok K = true) (F : FnP K x x st (He.ga K x) fd)
    (hb : ∀ (kV doc pm : Value) (an : Option Addr) (cdv ct : Value) (us : List Value), us.length = ps.length → bindArgs (PySem.W.fnOf x x (defArgs st) (defBody st) (defScope st) .none kV doc pm an cdv ct) ⟨us, []⟩ = pure (ps.zip us))
    (ok : FnG P w K mg base CX0 k (He.ga K x) fd ps sp) : DfG P w K mg base k x ps sp := ⟨⟨fd, ok, F.bindsN hb⟩, He.glo_ok X G g, F.kp⟩
theorem dfX {x : Str} {ps : List Str} {sp : Sp} {k : Nat} {st : Stmt} {fd : FuncData} (X : K.In h) (G : h.Ns mainGlobals mg) (g : (He.Fa.glo x).ok K = true) (F : FnP K x x st (He.ga K x) fd)
    (hb : ∀ (kV doc pm : Value) (an : Option Addr) (cdv ct : Value) (us : List Value), us.length = ps.length → bindArgs (PySem.W.fnOf x x (defArgs st) (defBody st) (defScope st) .none kV doc pm an cdv ct) ⟨us, []⟩ = pure (ps.zip us))
    (ok : FnOk P w K mg base (L2.CX P w) k (He.ga K x) fd ps sp) : DfX P w K mg base k x ps sp := ⟨⟨fd, ok, F.bindsN hb⟩, He.glo_ok X G g, F.kp⟩
theorem dfK {x : Str} {ps ks : List Str} {j : List Nat} {sp : Sp} {k : Nat} {st : Stmt} {fd : FuncData} (X : K.In h) (G : h.Ns mainGlobals mg) (g : (He.Fa.glo x).ok K = true) (F : FnP K x x st (He.ga K x) fd)
    (hb : ∀ (kV doc pm : Value) (an : Option Addr) (cdv ct : Value) (ws : List Value), ws.length = ks.length → bindArgs (PySem.W.fnOf x x (defArgs st) (defBody st) (defScope st) .none kV doc pm an cdv ct) ⟨[], ks.zip ws⟩ = pure (ps.zip (j.filterMap fun i => ws[i]?)))
    (ok : FnOk P w K mg base CX0 k (He.ga K x) fd ps sp) : DfK P w K mg base k x ps ks j sp := by
  refine ⟨⟨fd, ok, fun s ws hl => ?_⟩, He.glo_ok X G g, F.kp⟩
  obtain ⟨oc, od, dV, kV, doc, pm, an, cdv, ct, osl, rfl, lk, hcd, hD, hK⟩ := F.ex
  rcases hD with ⟨_, rfl⟩ | ⟨e, _⟩
  · exact .of_eq (hb kV doc pm an cdv ct ws hl)
  · exact absurd rfl e
theorem facts {f : Addr} (X : K.In h) (G : h.Ns mainGlobals mg) (hfa : mg ("law" : Str) = some (.ref f)) (c0 : ob0 K = vl0) :
    ∃ fd : FuncData, (∀ (s : Shared) (v : Value), BindsTo s fd ⟨[v], []⟩ [("_law_script", v)]) ∧ ∀ base : Heap, K.In base → base.Ns mainGlobals mg → FnG P w K mg base CX0 13 f fd ["_law_script"] (spLaw K) := by
  have c : He.SaysD fa fn K := congrArg (fun z : AlE => z.1) c0
  have x : exB K = true := congrArg (fun z : AlE => z.2.1) c0
  have vt_top : fnAt K (pgA K (He.ga K "Sizes") "top") = v_top := congrArg (fun z : AlE => z.2.2.1) c0
  have vt_sizes : fnAt K (pgA K (He.ga K "Layout") "sizes") = v_sizes := congrArg (fun z : AlE => z.2.2.2.1) c0
  have vt_length : fnAt K (pgA K (He.ga K "Layout") "length") = v_length := congrArg (fun z : AlE => z.2.2.2.2) c0
  have T := tx X G c x
  obtain ⟨x1, x⟩ := He.ba x
  obtain ⟨x2, x⟩ := He.ba x
  obtain ⟨x3, x⟩ := He.ba x
  obtain ⟨x4, x⟩ := He.ba x
  obtain ⟨x5, x⟩ := He.ba x
  obtain ⟨xn_S, x⟩ := He.ba x
  obtain ⟨xi_S, x⟩ := He.ba x
  obtain ⟨xi_L, x⟩ := He.ba x
  obtain ⟨xL, x⟩ := He.ba x
  obtain ⟨xkL, x⟩ := He.ba x
  obtain ⟨xp_top, x⟩ := He.ba x
  obtain ⟨xo_top, x⟩ := He.ba x
  obtain ⟨xp_sizes, x⟩ := He.ba x
  obtain ⟨xo_sizes, x⟩ := He.ba x
  obtain ⟨xp_length, x⟩ := He.ba x
  obtain ⟨xo_length, x⟩ := He.ba x
  obtain ⟨fdP_top, FP_top⟩ := fun_at vt_top xo_top
  obtain ⟨fdP_sizes, FP_sizes⟩ := fun_at vt_sizes xo_sizes
  obtain ⟨fdP_length, FP_length⟩ := fun_at vt_length xo_length
  obtain ⟨fd0, F0⟩ : ∃ fd, FnP K "is_integer" "is_integer" (top 13) (He.ga K "is_integer") fd := c.def_ 0 (d := dOf ("is_integer", none) "is_integer" "is_integer" (top 13)) rfl
  obtain ⟨fd1, F1⟩ : ∃ fd, FnP K "size_problem" "size_problem" (top 17) (He.ga K "size_problem") fd := c.def_ 1 (d := dOf ("size_problem", none) "size_problem" "size_problem" (top 17)) rfl
  obtain ⟨fd2, F2⟩ : ∃ fd, FnP K "check_sizes" "check_sizes" (top 18) (He.ga K "check_sizes") fd := c.def_ 2 (d := dOf ("check_sizes", none) "check_sizes" "check_sizes" (top 18)) rfl
  obtain ⟨fd3, F3⟩ : ∃ fd, FnP K "is_cells" "is_cells" (top 14) (He.ga K "is_cells") fd := c.def_ 3 (d := dOf ("is_cells", none) "is_cells" "is_cells" (top 14)) rfl
  obtain ⟨fd4, F4⟩ : ∃ fd, FnP K "check_cells" "check_cells" (top 15) (He.ga K "check_cells") fd := c.def_ 4 (d := dOf ("check_cells", none) "check_cells" "check_cells" (top 15)) rfl
  obtain ⟨fd5, F5⟩ : ∃ fd, FnP K "__init__" "Sizes.__init__" (inClass (top 19) 4) (He.ma K (He.ga K "Sizes") "__init__") fd := c.def_ 5 (d := dOf ("Sizes", some "__init__") "__init__" "Sizes.__init__" (inClass (top 19) 4)) rfl
  obtain ⟨fd6, F6⟩ : ∃ fd, FnP K "has_level" "Sizes.has_level" (inClass (top 19) 12) (He.ma K (He.ga K "Sizes") "has_level") fd := c.def_ 6 (d := dOf ("Sizes", some "has_level") "has_level" "Sizes.has_level" (inClass (top 19) 12)) rfl
  obtain ⟨fd7, F7⟩ : ∃ fd, FnP K "check_level" "Sizes.check_level" (inClass (top 19) 13) (He.ma K (He.ga K "Sizes") "check_level") fd := c.def_ 7 (d := dOf ("Sizes", some "check_level") "check_level" "Sizes.check_level" (inClass (top 19) 13)) rfl
  obtain ⟨fd8, F8⟩ : ∃ fd, FnP K "size" "Sizes.size" (inClass (top 19) 14) (He.ma K (He.ga K "Sizes") "size") fd := c.def_ 8 (d := dOf ("Sizes", some "size") "size" "Sizes.size" (inClass (top 19) 14)) rfl
  obtain ⟨fd9, F9⟩ : ∃ fd, FnP K "all_sizes" "Sizes.all_sizes" (inClass (top 19) 11) (He.ma K (He.ga K "Sizes") "all_sizes") fd := c.def_ 9 (d := dOf ("Sizes", some "all_sizes") "all_sizes" "Sizes.all_sizes" (inClass (top 19) 11)) rfl
  obtain ⟨fd10, F10⟩ : ∃ fd, FnP K "__init__" "Layout.__init__" (inClass (top 41) 0) (He.ma K (He.ga K "Layout") "__init__") fd := c.def_ 10 (d := dOf ("Layout", some "__init__") "__init__" "Layout.__init__" (inClass (top 41) 0)) rfl
  obtain ⟨fd11, F11⟩ : ∃ fd, FnP K "count_below" "Layout.count_below" (inClass (top 41) 9) (He.ma K (He.ga K "Layout") "count_below") fd := c.def_ 11 (d := dOf ("Layout", some "count_below") "count_below" "Layout.count_below" (inClass (top 41) 9)) rfl
  obtain ⟨fd12, F12⟩ : ∃ fd, FnP K "index_of" "Layout.index_of" (inClass (top 41) 10) (He.ma K (He.ga K "Layout") "index_of") fd := c.def_ 12 (d := dOf ("Layout", some "index_of") "index_of" "Layout.index_of" (inClass (top 41) 10)) rfl
  obtain ⟨fd13, F13⟩ : ∃ fd, FnP K "block_at" "Layout.block_at" (inClass (top 41) 11) (He.ma K (He.ga K "Layout") "block_at") fd := c.def_ 13 (d := dOf ("Layout", some "block_at") "block_at" "Layout.block_at" (inClass (top 41) 11)) rfl
  obtain ⟨fd14, F14⟩ : ∃ fd, FnP K "first_taken" "Layout.first_taken" (inClass (top 41) 12) (He.ma K (He.ga K "Layout") "first_taken") fd := c.def_ 14 (d := dOf ("Layout", some "first_taken") "first_taken" "Layout.first_taken" (inClass (top 41) 12)) rfl
  obtain ⟨fd15, F15⟩ : ∃ fd, FnK K "put" "Layout.put" (inClass (top 41) 13) [("pinned", .bl false)] (He.ma K (He.ga K "Layout") "put") fd := c.def_ 15 (d := dOfK ("Layout", some "put") "put" "Layout.put" (inClass (top 41) 13) [("pinned", .bl false)]) rfl
  obtain ⟨fd16, F16⟩ : ∃ fd, FnP K "set_pinned" "Layout.set_pinned" (inClass (top 41) 15) (He.ma K (He.ga K "Layout") "set_pinned") fd := c.def_ 16 (d := dOf ("Layout", some "set_pinned") "set_pinned" "Layout.set_pinned" (inClass (top 41) 15)) rfl
  obtain ⟨fd17, F17⟩ : ∃ fd, FnP K "ranges_of" "Layout.ranges_of" (inClass (top 41) 16) (He.ma K (He.ga K "Layout") "ranges_of") fd := c.def_ 17 (d := dOf ("Layout", some "ranges_of") "ranges_of" "Layout.ranges_of" (inClass (top 41) 16)) rfl
  obtain ⟨fd18, F18⟩ : ∃ fd, FnP K "pinned_ranges" "Layout.pinned_ranges" (inClass (top 41) 18) (He.ma K (He.ga K "Layout") "pinned_ranges") fd := c.def_ 18 (d := dOf ("Layout", some "pinned_ranges") "pinned_ranges" "Layout.pinned_ranges" (inClass (top 41) 18)) rfl
  obtain ⟨fd19, F19⟩ : ∃ fd, FnP K "unpinned_levels" "Layout.unpinned_levels" (inClass (top 41) 19) (He.ma K (He.ga K "Layout") "unpinned_levels") fd := c.def_ 19 (d := dOf ("Layout", some "unpinned_levels") "unpinned_levels" "Layout.unpinned_levels" (inClass (top 41) 19)) rfl
  obtain ⟨fd20, F20⟩ : ∃ fd, FnP K "blocks" "Layout.blocks" (inClass (top 41) 7) (He.ma K (He.ga K "Layout") "blocks") fd := c.def_ 20 (d := dOf ("Layout", some "blocks") "blocks" "Layout.blocks" (inClass (top 41) 7)) rfl
  obtain ⟨fd21, F21⟩ : ∃ fd, FnP K "__init__" "Plan.__init__" (inClass (top 30) 0) (He.ma K (He.ga K "Plan") "__init__") fd := c.def_ 21 (d := dOf ("Plan", some "__init__") "__init__" "Plan.__init__" (inClass (top 30) 0)) rfl
  obtain ⟨fd22, F22⟩ : ∃ fd, FnP K "free_gaps" "Plan.free_gaps" (inClass (top 30) 2) (He.ma K (He.ga K "Plan") "free_gaps") fd := c.def_ 22 (d := dOf ("Plan", some "free_gaps") "free_gaps" "Plan.free_gaps" (inClass (top 30) 2)) rfl
  obtain ⟨fd23, F23⟩ : ∃ fd, FnP K "lowest_free" "Plan.lowest_free" (inClass (top 30) 3) (He.ma K (He.ga K "Plan") "lowest_free") fd := c.def_ 23 (d := dOf ("Plan", some "lowest_free") "lowest_free" "Plan.lowest_free" (inClass (top 30) 3)) rfl
  obtain ⟨fd24, F24⟩ : ∃ fd, FnP K "filled_regions" "Plan.filled_regions" (inClass (top 30) 4) (He.ma K (He.ga K "Plan") "filled_regions") fd := c.def_ 24 (d := dOf ("Plan", some "filled_regions") "filled_regions" "Plan.filled_regions" (inClass (top 30) 4)) rfl
  obtain ⟨fd25, F25⟩ : ∃ fd, FnP K "cheapest" "Plan.cheapest" (inClass (top 30) 5) (He.ma K (He.ga K "Plan") "cheapest") fd := c.def_ 25 (d := dOf ("Plan", some "cheapest") "cheapest" "Plan.cheapest" (inClass (top 30) 5)) rfl
  obtain ⟨fd26, F26⟩ : ∃ fd, FnP K "__init__" "InvalidLevel.__init__" (inClass (top 4) 0) (He.ma K (He.ga K "InvalidLevel") "__init__") fd := c.def_ 26 (d := dOf ("InvalidLevel", some "__init__") "__init__" "InvalidLevel.__init__" (inClass (top 4) 0)) rfl
  obtain ⟨fd27, F27⟩ : ∃ fd, FnP K "is_address" "is_address" (top 21) (He.ga K "is_address") fd := c.def_ 27 (d := dOf ("is_address", none) "is_address" "is_address" (top 21)) rfl
  obtain ⟨fd28, F28⟩ : ∃ fd, FnP K "check_range" "check_range" (top 22) (He.ga K "check_range") fd := c.def_ 28 (d := dOf ("check_range", none) "check_range" "check_range" (top 22)) rfl
  obtain ⟨fd29, F29⟩ : ∃ fd, FnP K "next_start" "next_start" (top 23) (He.ga K "next_start") fd := c.def_ 29 (d := dOf ("next_start", none) "next_start" "next_start" (top 23)) rfl
  obtain ⟨fd30, F30⟩ : ∃ fd, FnP K "region_start" "region_start" (top 27) (He.ga K "region_start") fd := c.def_ 30 (d := dOf ("region_start", none) "region_start" "region_start" (top 27)) rfl
  obtain ⟨fd31, F31⟩ : ∃ fd, FnP K "count_regions" "count_regions" (top 28) (He.ga K "count_regions") fd := c.def_ 31 (d := dOf ("count_regions", none) "count_regions" "count_regions" (top 28)) rfl
  obtain ⟨fd32, F32⟩ : ∃ fd, FnP K "gaps_between" "gaps_between" (top 24) (He.ga K "gaps_between") fd := c.def_ 32 (d := dOf ("gaps_between", none) "gaps_between" "gaps_between" (top 24)) rfl
  obtain ⟨fd33, F33⟩ : ∃ fd, FnP K "lies_below" "lies_below" (top 25) (He.ga K "lies_below") fd := c.def_ 33 (d := dOf ("lies_below", none) "lies_below" "lies_below" (top 25)) rfl
  obtain ⟨fd34, F34⟩ : ∃ fd, FnP K "is_region" "is_region" (top 26) (He.ga K "is_region") fd := c.def_ 34 (d := dOf ("is_region", none) "is_region" "is_region" (top 26)) rfl
  obtain ⟨fd35, F35⟩ : ∃ fd, FnP K "is_move" "is_move" (top 32) (He.ga K "is_move") fd := c.def_ 35 (d := dOf ("is_move", none) "is_move" "is_move" (top 32)) rfl
  obtain ⟨fd36, F36⟩ : ∃ fd, FnP K "first_misfit" "first_misfit" (top 33) (He.ga K "first_misfit") fd := c.def_ 36 (d := dOf ("first_misfit", none) "first_misfit" "first_misfit" (top 33)) rfl
  obtain ⟨fd37, F37⟩ : ∃ fd, FnP K "places_after" "places_after" (top 34) (He.ga K "places_after") fd := c.def_ 37 (d := dOf ("places_after", none) "places_after" "places_after" (top 34)) rfl
  obtain ⟨fd38, F38⟩ : ∃ fd, FnP K "first_clash" "first_clash" (top 35) (He.ga K "first_clash") fd := c.def_ 38 (d := dOf ("first_clash", none) "first_clash" "first_clash" (top 35)) rfl
  obtain ⟨fd39, F39⟩ : ∃ fd, FnP K "first_wrong_move" "first_wrong_move" (top 36) (He.ga K "first_wrong_move") fd := c.def_ 39 (d := dOf ("first_wrong_move", none) "first_wrong_move" "first_wrong_move" (top 36)) rfl
  obtain ⟨fd40, F40⟩ : ∃ fd, FnP K "check_rearrangement" "check_rearrangement" (top 37) (He.ga K "check_rearrangement") fd := c.def_ 40 (d := dOf ("check_rearrangement", none) "check_rearrangement" "check_rearrangement" (top 37)) rfl
  obtain ⟨fd41, F41⟩ : ∃ fd, FnP K "cost" "cost" (top 38) (He.ga K "cost") fd := c.def_ 41 (d := dOf ("cost", none) "cost" "cost" (top 38)) rfl
  obtain ⟨fd42, F42⟩ : ∃ fd, FnP K "cheapest_region" "cheapest_region" (top 39) (He.ga K "cheapest_region") fd := c.def_ 42 (d := dOf ("cheapest_region", none) "cheapest_region" "cheapest_region" (top 39)) rfl
  obtain ⟨fd43, F43⟩ : ∃ fd, FnP K "_law_rng" "_law_rng" (top 43) (He.ga K "_law_rng") fd := c.def_ 43 (d := dOf ("_law_rng", none) "_law_rng" "_law_rng" (top 43)) rfl
  obtain ⟨fd44, F44⟩ : ∃ fd, FnP K "_law_draw" "_law_draw" (top 44) (He.ga K "_law_draw") fd := c.def_ 44 (d := dOf ("_law_draw", none) "_law_draw" "_law_draw" (top 44)) rfl
  obtain ⟨fd45, F45⟩ : ∃ fd, FnP K "_law_choice" "_law_choice" (top 45) (He.ga K "_law_choice") fd := c.def_ 45 (d := dOf ("_law_choice", none) "_law_choice" "_law_choice" (top 45)) rfl
  obtain ⟨fd46, F46⟩ : ∃ fd, FnP K "_law_shuffled" "_law_shuffled" (top 46) (He.ga K "_law_shuffled") fd := c.def_ 46 (d := dOf ("_law_shuffled", none) "_law_shuffled" "_law_shuffled" (top 46)) rfl
  obtain ⟨fd47, F47⟩ : ∃ fd, FnP K "_law_sizes" "_law_sizes" (top 47) (He.ga K "_law_sizes") fd := c.def_ 47 (d := dOf ("_law_sizes", none) "_law_sizes" "_law_sizes" (top 47)) rfl
  obtain ⟨fd48, F48⟩ : ∃ fd, FnP K "_law_has_space" "_law_has_space" (top 48) (He.ga K "_law_has_space") fd := c.def_ 48 (d := dOf ("_law_has_space", none) "_law_has_space" "_law_has_space" (top 48)) rfl
  obtain ⟨fd49, F49⟩ : ∃ fd, FnP K "_law_blocks" "_law_blocks" (top 49) (He.ga K "_law_blocks") fd := c.def_ 49 (d := dOf ("_law_blocks", none) "_law_blocks" "_law_blocks" (top 49)) rfl
  obtain ⟨fd50, F50⟩ : ∃ fd, FnP K "_law_runs" "_law_runs" (top 50) (He.ga K "_law_runs") fd := c.def_ 50 (d := dOf ("_law_runs", none) "_law_runs" "_law_runs" (top 50)) rfl
  obtain ⟨fd51, F51⟩ : ∃ fd, FnP K "_law_free_runs" "_law_free_runs" (top 51) (He.ga K "_law_free_runs") fd := c.def_ 51 (d := dOf ("_law_free_runs", none) "_law_free_runs" "_law_free_runs" (top 51)) rfl
  obtain ⟨fd52, F52⟩ : ∃ fd, FnP K "_law_made" "_law_made" (top 52) (He.ga K "_law_made") fd := c.def_ 52 (d := dOf ("_law_made", none) "_law_made" "_law_made" (top 52)) rfl
  obtain ⟨fd53, F53⟩ : ∃ fd, FnP K "_law_memory" "_law_memory" (top 53) (He.ga K "_law_memory") fd := c.def_ 53 (d := dOf ("_law_memory", none) "_law_memory" "_law_memory" (top 53)) rfl
  obtain ⟨fd54, F54⟩ : ∃ fd, FnP K "_law_moves" "_law_moves" (top 54) (He.ga K "_law_moves") fd := c.def_ 54 (d := dOf ("_law_moves", none) "_law_moves" "_law_moves" (top 54)) rfl
  obtain ⟨fd55, F55⟩ : ∃ fd, FnP K "_law_problem" "_law_problem" (top 55) (He.ga K "_law_problem") fd := c.def_ 55 (d := dOf ("_law_problem", none) "_law_problem" "_law_problem" (top 55)) rfl
  obtain ⟨fd56, F56⟩ : ∃ fd, FnP K "_law_after" "_law_after" (top 56) (He.ga K "_law_after") fd := c.def_ 56 (d := dOf ("_law_after", none) "_law_after" "_law_after" (top 56)) rfl
  obtain ⟨fd57, F57⟩ : ∃ fd, FnP K "_law_cells_in" "_law_cells_in" (top 57) (He.ga K "_law_cells_in") fd := c.def_ 57 (d := dOf ("_law_cells_in", none) "_law_cells_in" "_law_cells_in" (top 57)) rfl
  obtain ⟨fd58, F58⟩ : ∃ fd, FnP K "_law_due" "_law_due" (top 58) (He.ga K "_law_due") fd := c.def_ 58 (d := dOf ("_law_due", none) "_law_due" "_law_due" (top 58)) rfl
  obtain ⟨fd59, F59⟩ : ∃ fd, FnP K "_law_outcome" "_law_outcome" (top 59) (He.ga K "_law_outcome") fd := c.def_ 59 (d := dOf ("_law_outcome", none) "_law_outcome" "_law_outcome" (top 59)) rfl
  obtain ⟨fd60, F60⟩ : ∃ fd, FnP K "_law_end_right" "_law_end_right" (top 60) (He.ga K "_law_end_right") fd := c.def_ 60 (d := dOf ("_law_end_right", none) "_law_end_right" "_law_end_right" (top 60)) rfl
  obtain ⟨fd61, F61⟩ : ∃ fd, FnP K "_law_right" "_law_right" (top 61) (He.ga K "_law_right") fd := c.def_ 61 (d := dOf ("_law_right", none) "_law_right" "_law_right" (top 61)) rfl
  obtain ⟨fd62, F62⟩ : ∃ fd, FnP K "law" "law" (top 62) (He.ga K "law") fd := c.def_ 62 (d := dOf ("law", none) "law" "law" (top 62)) rfl
  have e := hfa.symm.trans (He.glo_ok X G (c.fact 40 (f := .glo "law") rfl))
  cases e
  have b := FunD.bindsA (ps := ["_law_script"]) F62 (fun _ _ _ _ _ _ us hl => match us, hl with | [_], _ => rfl)
  refine ⟨_, fun s v => b s [v] rfl, fun base _ _ => ?_⟩
  have D_is_integer := df (P := P) (w := w) (base := base) X G (c.fact 0 (f := .glo "is_integer") rfl) F0 (ps := ["value"]) (fun _ _ _ _ _ _ us hl => match us, hl with | [_], _ => rfl) (ok_is_integer T F0)
  have D_is_integerA := df (P := P) (w := w) (base := base) X G (c.fact 0 (f := .glo "is_integer") rfl) F0 (ps := ["value"]) (fun _ _ _ _ _ _ us hl => match us, hl with | [_], _ => rfl) (ok_is_integerA T F0)
  have D_size_problem := df (P := P) (w := w) (base := base) X G (c.fact 1 (f := .glo "size_problem") rfl) F1 (ps := ["values", "position"]) (fun _ _ _ _ _ _ us hl => match us, hl with | [_, _], _ => rfl) (ok_size_problem T D_is_integer F1)
  have D_check_sizes := df (P := P) (w := w) (base := base) X G (c.fact 2 (f := .glo "check_sizes") rfl) F2 (ps := ["values"]) (fun _ _ _ _ _ _ us hl => match us, hl with | [_], _ => rfl) (ok_check_sizes T D_size_problem F2)
  have D_Sizes : Kf P w K mg base _ "Sizes" ["self", "values"] _ := ⟨⟨fd5, ok_init T D_check_sizes F5, F5.bindsN (fun _ _ _ _ _ _ us hl => match us, hl with | [_, _], _ => rfl)⟩, He.glo_ok X G (c.fact 41 (f := .glo "Sizes") rfl), He.mkr_ok (c.fact 71 (f := .mkr "Sizes") rfl)⟩
  have P_top : Pf P w K mg base 1 "Sizes" "top" (spTop K) := ⟨He.cls_ok (c.fact 69 (f := .cls "Sizes") rfl), _, _, fdP_top, prB_ok xp_top, ok_top T FP_top, FunD.bindsN FP_top (fun _ _ _ _ _ _ us hl => match us, hl with | [_], _ => rfl)⟩
  have ML : Ex.Ei P w K mg base "InvalidLevel" "value" := ⟨⟨fd26, ok_errL T F26, F26.bindsN (fun _ _ _ _ _ _ us hl => match us, hl with | [_, _], _ => rfl)⟩⟩
  have M_has_level : Mf P w K mg base _ "Sizes" "has_level" ["self", "level"] _ := ⟨⟨fd6, ok_has T D_is_integer P_top F6, F6.bindsN (fun _ _ _ _ _ _ us hl => match us, hl with | [_, _], _ => rfl)⟩, He.cls_ok (c.fact 69 (f := .cls "Sizes") rfl), He.meth_ok (c.fact 72 (f := .meth "Sizes" "has_level") rfl)⟩
  have M_check_level : Mf P w K mg base _ "Sizes" "check_level" ["self", "level"] _ := ⟨⟨fd7, ok_check_level T M_has_level F7, F7.bindsN (fun _ _ _ _ _ _ us hl => match us, hl with | [_, _], _ => rfl)⟩, He.cls_ok (c.fact 69 (f := .cls "Sizes") rfl), He.meth_ok (c.fact 73 (f := .meth "Sizes" "check_level") rfl)⟩
  have M_size : Mf P w K mg base _ "Sizes" "size" ["self", "level"] _ := ⟨⟨fd8, ok_size T M_check_level F8, F8.bindsN (fun _ _ _ _ _ _ us hl => match us, hl with | [_, _], _ => rfl)⟩, He.cls_ok (c.fact 69 (f := .cls "Sizes") rfl), He.meth_ok (c.fact 74 (f := .meth "Sizes" "size") rfl)⟩
  have M_has_levelA : Mf P w K mg base _ "Sizes" "has_level" ["self", "level"] _ := ⟨⟨fd6, ok_hasA T D_is_integerA P_top F6, F6.bindsN (fun _ _ _ _ _ _ us hl => match us, hl with | [_, _], _ => rfl)⟩, He.cls_ok (c.fact 69 (f := .cls "Sizes") rfl), He.meth_ok (c.fact 72 (f := .meth "Sizes" "has_level") rfl)⟩
  have X_check_level : MfX P w K mg base _ "Sizes" "check_level" ["self", "level"] _ := ⟨⟨fd7, ok_chkR T M_has_levelA ML F7, F7.bindsN (fun _ _ _ _ _ _ us hl => match us, hl with | [_, _], _ => rfl)⟩, He.cls_ok (c.fact 69 (f := .cls "Sizes") rfl), He.meth_ok (c.fact 73 (f := .meth "Sizes" "check_level") rfl)⟩
  have X_size : MfX P w K mg base _ "Sizes" "size" ["self", "level"] _ := ⟨⟨fd8, ok_sizeR T X_check_level F8, F8.bindsN (fun _ _ _ _ _ _ us hl => match us, hl with | [_, _], _ => rfl)⟩, He.cls_ok (c.fact 69 (f := .cls "Sizes") rfl), He.meth_ok (c.fact 74 (f := .meth "Sizes" "size") rfl)⟩
  have M_all_sizes : Mf P w K mg base _ "Sizes" "all_sizes" ["self"] _ := ⟨⟨fd9, ok_all T F9, F9.bindsN (fun _ _ _ _ _ _ us hl => match us, hl with | [_], _ => rfl)⟩, He.cls_ok (c.fact 69 (f := .cls "Sizes") rfl), He.meth_ok (c.fact 75 (f := .meth "Sizes" "all_sizes") rfl)⟩
  have D_is_cells := df (P := P) (w := w) (base := base) X G (c.fact 3 (f := .glo "is_cells") rfl) F3 (ps := ["value"]) (fun _ _ _ _ _ _ us hl => match us, hl with | [_], _ => rfl) (ok_is_cells T D_is_integer F3)
  have D_check_cells := df (P := P) (w := w) (base := base) X G (c.fact 4 (f := .glo "check_cells") rfl) F4 (ps := ["value"]) (fun _ _ _ _ _ _ us hl => match us, hl with | [_], _ => rfl) (ok_check_cells T D_is_cells F4)
  have D_is_address := df (P := P) (w := w) (base := base) X G (c.fact 5 (f := .glo "is_address") rfl) F27 (ps := ["value"]) (fun _ _ _ _ _ _ us hl => match us, hl with | [_], _ => rfl) (ok_is_address T D_is_integer F27)
  have D_is_addressA := df (P := P) (w := w) (base := base) X G (c.fact 5 (f := .glo "is_address") rfl) F27 (ps := ["value"]) (fun _ _ _ _ _ _ us hl => match us, hl with | [_], _ => rfl) (ok_is_addressA T D_is_integerA F27)
  have D_check_range := df (P := P) (w := w) (base := base) X G (c.fact 6 (f := .glo "check_range") rfl) F28 (ps := ["low", "high"]) (fun _ _ _ _ _ _ us hl => match us, hl with | [_, _], _ => rfl) (ok_check_range T D_is_integer D_is_address F28)
  have D_next_start := df (P := P) (w := w) (base := base) X G (c.fact 7 (f := .glo "next_start") rfl) F29 (ps := ["size", "address"]) (fun _ _ _ _ _ _ us hl => match us, hl with | [_, _], _ => rfl) (ok_next_start T F29)
  have D_region_start := df (P := P) (w := w) (base := base) X G (c.fact 8 (f := .glo "region_start") rfl) F30 (ps := ["sizes", "level", "address"]) (fun _ _ _ _ _ _ us hl => match us, hl with | [_, _, _], _ => rfl) (ok_region_start T D_is_address M_size F30)
  have D_count_regions := df (P := P) (w := w) (base := base) X G (c.fact 9 (f := .glo "count_regions") rfl) F31 (ps := ["sizes", "level", "low", "high"]) (fun _ _ _ _ _ _ us hl => match us, hl with | [_, _, _, _], _ => rfl) (ok_count_regions T D_check_range D_region_start D_next_start M_size F31)
  have X_count_regions := dfX (P := P) (w := w) (base := base) X G (c.fact 9 (f := .glo "count_regions") rfl) F31 (ps := ["sizes", "level", "low", "high"]) (fun _ _ _ _ _ _ us hl => match us, hl with | [_, _, _, _], _ => rfl) (ok_countR T X_size D_check_range D_region_start D_next_start F31)
  have D_lies_below := df (P := P) (w := w) (base := base) X G (c.fact 11 (f := .glo "lies_below") rfl) F33 (ps := ["sizes", "level", "address", "end"]) (fun _ _ _ _ _ _ us hl => match us, hl with | [_, _, _, _], _ => rfl) (ok_below T M_size F33)
  have D_is_region := df (P := P) (w := w) (base := base) X G (c.fact 12 (f := .glo "is_region") rfl) F34 (ps := ["sizes", "length", "level", "address"]) (fun _ _ _ _ _ _ us hl => match us, hl with | [_, _, _, _], _ => rfl) (ok_is_region T D_check_cells M_has_level D_is_address D_lies_below F34)
  have D_is_regionB := df (P := P) (w := w) (base := base) X G (c.fact 12 (f := .glo "is_region") rfl) F34 (ps := ["sizes", "length", "level", "address"]) (fun _ _ _ _ _ _ us hl => match us, hl with | [_, _, _, _], _ => rfl) (ok_is_regionB T D_check_cells M_has_level D_is_address D_lies_below F34)
  have D_is_move := df (P := P) (w := w) (base := base) X G (c.fact 13 (f := .glo "is_move") rfl) F35 (ps := ["value"]) (fun _ _ _ _ _ _ us hl => match us, hl with | [_], _ => rfl) (ok_is_move T D_is_addressA F35)
  have D_Layout : Kf P w K mg base _ "Layout" ["self", "sizes", "length"] _ := ⟨⟨fd10, ok_new T D_check_cells F10, F10.bindsN (fun _ _ _ _ _ _ us hl => match us, hl with | [_, _, _], _ => rfl)⟩, He.glo_ok X G (c.fact 42 (f := .glo "Layout") rfl), He.mkr_ok (c.fact 77 (f := .mkr "Layout") rfl)⟩
  have P_sizes : Pf P w K mg base 1 "Layout" "sizes" (spSzs K) := ⟨He.cls_ok (c.fact 76 (f := .cls "Layout") rfl), _, _, fdP_sizes, prB_ok xp_sizes, ok_psizes T FP_sizes, FunD.bindsN FP_sizes (fun _ _ _ _ _ _ us hl => match us, hl with | [_], _ => rfl)⟩
  have P_length : Pf P w K mg base 1 "Layout" "length" (spLen2 K) := ⟨He.cls_ok (c.fact 76 (f := .cls "Layout") rfl), _, _, fdP_length, prB_ok xp_length, ok_plength T FP_length, FunD.bindsN FP_length (fun _ _ _ _ _ _ us hl => match us, hl with | [_], _ => rfl)⟩
  have M_count_below : Mf P w K mg base _ "Layout" "count_below" ["self", "address"] _ := ⟨⟨fd11, ok_cb T F11, F11.bindsN (fun _ _ _ _ _ _ us hl => match us, hl with | [_, _], _ => rfl)⟩, He.cls_ok (c.fact 76 (f := .cls "Layout") rfl), He.meth_ok (c.fact 82 (f := .meth "Layout" "count_below") rfl)⟩
  have M_index_of : Mf P w K mg base _ "Layout" "index_of" ["self", "address"] _ := ⟨⟨fd12, ok_ix T D_is_integer M_count_below F12, F12.bindsN (fun _ _ _ _ _ _ us hl => match us, hl with | [_, _], _ => rfl)⟩, He.cls_ok (c.fact 76 (f := .cls "Layout") rfl), He.meth_ok (c.fact 83 (f := .meth "Layout" "index_of") rfl)⟩
  have M_block_at : Mf P w K mg base _ "Layout" "block_at" ["self", "address"] _ := ⟨⟨fd13, ok_at T D_is_address M_count_below M_size F13, F13.bindsN (fun _ _ _ _ _ _ us hl => match us, hl with | [_, _], _ => rfl)⟩, He.cls_ok (c.fact 76 (f := .cls "Layout") rfl), He.meth_ok (c.fact 84 (f := .meth "Layout" "block_at") rfl)⟩
  have M_first_taken : Mf P w K mg base _ "Layout" "first_taken" ["self", "low", "high"] _ := ⟨⟨fd14, ok_first T M_block_at M_count_below F14, F14.bindsN (fun _ _ _ _ _ _ us hl => match us, hl with | [_, _, _], _ => rfl)⟩, He.cls_ok (c.fact 76 (f := .cls "Layout") rfl), He.meth_ok (c.fact 85 (f := .meth "Layout" "first_taken") rfl)⟩
  have M_put_d : MfD P w K mg base 8 "Layout" "put" ["self", "level", "address", "pinned"] [.bl false] (spPut K) := by
    obtain ⟨ds, vd, bd⟩ := FunD.binds0 F15 (ps := ["self", "level", "address", "pinned"]) 3 (List.cons_ne_nil _ _) rfl (fun D doc pm an cdv ct us ks h1 h2 => match us, ks, h1, h2 with | [_, _, _], [_], _, _ => ⟨_, _, _, _, _, _, rfl, rfl, rfl⟩)
    exact ⟨⟨fd15, ds, ok_put T M_size D_is_region M_first_taken M_count_below F15, vd, bd⟩, He.cls_ok (c.fact 76 (f := .cls "Layout") rfl), He.meth_ok (c.fact 86 (f := .meth "Layout" "put") rfl)⟩
  have M_set_pinned : Mf P w K mg base _ "Layout" "set_pinned" ["self", "address", "pinned"] _ := ⟨⟨fd16, ok_pin T M_index_of F16, F16.bindsN (fun _ _ _ _ _ _ us hl => match us, hl with | [_, _, _], _ => rfl)⟩, He.cls_ok (c.fact 76 (f := .cls "Layout") rfl), He.meth_ok (c.fact 87 (f := .meth "Layout" "set_pinned") rfl)⟩
  have D_gaps_between := df (P := P) (w := w) (base := base) X G (c.fact 10 (f := .glo "gaps_between") rfl) F32 (ps := ["ranges", "length"]) (fun _ _ _ _ _ _ us hl => match us, hl with | [_, _], _ => rfl) (ok_gaps T F32)
  have M_ranges_of : Mf P w K mg base _ "Layout" "ranges_of" ["self", "blocks"] _ := ⟨⟨fd17, ok_ranges T M_size F17, F17.bindsN (fun _ _ _ _ _ _ us hl => match us, hl with | [_, _], _ => rfl)⟩, He.cls_ok (c.fact 76 (f := .cls "Layout") rfl), He.meth_ok (c.fact 88 (f := .meth "Layout" "ranges_of") rfl)⟩
  have M_pinned_ranges : Mf P w K mg base _ "Layout" "pinned_ranges" ["self"] _ := ⟨⟨fd18, ok_pinned T M_ranges_of F18, F18.bindsN (fun _ _ _ _ _ _ us hl => match us, hl with | [_], _ => rfl)⟩, He.cls_ok (c.fact 76 (f := .cls "Layout") rfl), He.meth_ok (c.fact 89 (f := .meth "Layout" "pinned_ranges") rfl)⟩
  have M_unpinned_levels : Mf P w K mg base _ "Layout" "unpinned_levels" ["self"] _ := ⟨⟨fd19, ok_levels T F19, F19.bindsN (fun _ _ _ _ _ _ us hl => match us, hl with | [_], _ => rfl)⟩, He.cls_ok (c.fact 76 (f := .cls "Layout") rfl), He.meth_ok (c.fact 90 (f := .meth "Layout" "unpinned_levels") rfl)⟩
  have M_blocks : Mf P w K mg base _ "Layout" "blocks" ["self"] _ := ⟨⟨fd20, ok_blk T F20, F20.bindsN (fun _ _ _ _ _ _ us hl => match us, hl with | [_], _ => rfl)⟩, He.cls_ok (c.fact 76 (f := .cls "Layout") rfl), He.meth_ok (c.fact 91 (f := .meth "Layout" "blocks") rfl)⟩
  have D_first_misfit := df (P := P) (w := w) (base := base) X G (c.fact 14 (f := .glo "first_misfit") rfl) F36 (ps := ["layout", "moves"]) (fun _ _ _ _ _ _ us hl => match us, hl with | [_, _], _ => rfl) (ok_misfit T M_unpinned_levels D_is_move D_is_regionB P_sizes P_length F36)
  have D_places_after := df (P := P) (w := w) (base := base) X G (c.fact 15 (f := .glo "places_after") rfl) F37 (ps := ["layout", "moves"]) (fun _ _ _ _ _ _ us hl => match us, hl with | [_, _], _ => rfl) (ok_places T M_blocks P_sizes M_size F37)
  have D_first_clash := df (P := P) (w := w) (base := base) X G (c.fact 16 (f := .glo "first_clash") rfl) F38 (ps := ["layout", "moves"]) (fun _ _ _ _ _ _ us hl => match us, hl with | [_, _], _ => rfl) (ok_clash T D_places_after F38)
  have D_first_wrong_move := df (P := P) (w := w) (base := base) X G (c.fact 17 (f := .glo "first_wrong_move") rfl) F39 (ps := ["layout", "value"]) (fun _ _ _ _ _ _ us hl => match us, hl with | [_, _], _ => rfl) (ok_wrong T D_first_misfit D_first_clash F39)
  have D_check_rearrangement := df (P := P) (w := w) (base := base) X G (c.fact 18 (f := .glo "check_rearrangement") rfl) F40 (ps := ["layout", "value"]) (fun _ _ _ _ _ _ us hl => match us, hl with | [_, _], _ => rfl) (ok_chk T D_first_wrong_move F40)
  have D_cost := df (P := P) (w := w) (base := base) X G (c.fact 19 (f := .glo "cost") rfl) F41 (ps := ["layout", "moves"]) (fun _ _ _ _ _ _ us hl => match us, hl with | [_, _], _ => rfl) (ok_cost T D_check_rearrangement M_unpinned_levels P_sizes M_size F41)
  have D_Plan : Kf P w K mg base _ "Plan" ["self", "layout"] _ := ⟨⟨fd21, ok_plan T P_sizes P_length M_pinned_ranges M_unpinned_levels M_all_sizes F21, F21.bindsN (fun _ _ _ _ _ _ us hl => match us, hl with | [_, _], _ => rfl)⟩, He.glo_ok X G (c.fact 43 (f := .glo "Plan") rfl), He.mkr_ok (c.fact 93 (f := .mkr "Plan") rfl)⟩
  have M_free_gaps : Mf P w K mg base _ "Plan" "free_gaps" ["self"] _ := ⟨⟨fd22, ok_pg T M_size D_gaps_between F22, F22.bindsN (fun _ _ _ _ _ _ us hl => match us, hl with | [_], _ => rfl)⟩, He.cls_ok (c.fact 92 (f := .cls "Plan") rfl), He.meth_ok (c.fact 100 (f := .meth "Plan" "free_gaps") rfl)⟩
  have M_lowest_free : Mf P w K mg base _ "Plan" "lowest_free" ["self", "level"] _ := ⟨⟨fd23, ok_low T M_free_gaps D_count_regions M_size D_next_start F23, F23.bindsN (fun _ _ _ _ _ _ us hl => match us, hl with | [_, _], _ => rfl)⟩, He.cls_ok (c.fact 92 (f := .cls "Plan") rfl), He.meth_ok (c.fact 101 (f := .meth "Plan" "lowest_free") rfl)⟩
  have M_filled_regions : Mf P w K mg base _ "Plan" "filled_regions" ["self", "level"] _ := ⟨⟨fd24, ok_fill T M_size D_region_start F24, F24.bindsN (fun _ _ _ _ _ _ us hl => match us, hl with | [_, _], _ => rfl)⟩, He.cls_ok (c.fact 92 (f := .cls "Plan") rfl), He.meth_ok (c.fact 102 (f := .meth "Plan" "filled_regions") rfl)⟩
  have M_cheapest : Mf P w K mg base _ "Plan" "cheapest" ["self", "level"] _ := ⟨⟨fd25, ok_cheap T M_lowest_free M_filled_regions F25, F25.bindsN (fun _ _ _ _ _ _ us hl => match us, hl with | [_, _], _ => rfl)⟩, He.cls_ok (c.fact 92 (f := .cls "Plan") rfl), He.meth_ok (c.fact 103 (f := .meth "Plan" "cheapest") rfl)⟩
  have D_cheapest_region := df (P := P) (w := w) (base := base) X G (c.fact 20 (f := .glo "cheapest_region") rfl) F42 (ps := ["layout", "level"]) (fun _ _ _ _ _ _ us hl => match us, hl with | [_, _], _ => rfl) (ok_cr T D_Plan M_cheapest F42)
  have X_lowest_free : MfX P w K mg base _ "Plan" "lowest_free" ["self", "level"] _ := ⟨⟨fd23, ok_lowR T M_free_gaps X_count_regions M_size D_next_start F23, F23.bindsN (fun _ _ _ _ _ _ us hl => match us, hl with | [_, _], _ => rfl)⟩, He.cls_ok (c.fact 92 (f := .cls "Plan") rfl), He.meth_ok (c.fact 101 (f := .meth "Plan" "lowest_free") rfl)⟩
  have X_filled_regions : MfX P w K mg base _ "Plan" "filled_regions" ["self", "level"] _ := ⟨⟨fd24, ok_fillR T X_size M_size D_region_start F24, F24.bindsN (fun _ _ _ _ _ _ us hl => match us, hl with | [_, _], _ => rfl)⟩, He.cls_ok (c.fact 92 (f := .cls "Plan") rfl), He.meth_ok (c.fact 102 (f := .meth "Plan" "filled_regions") rfl)⟩
  have X_cheapest : MfX P w K mg base _ "Plan" "cheapest" ["self", "level"] _ := ⟨⟨fd25, ok_cheapR T X_lowest_free X_filled_regions F25, F25.bindsN (fun _ _ _ _ _ _ us hl => match us, hl with | [_, _], _ => rfl)⟩, He.cls_ok (c.fact 92 (f := .cls "Plan") rfl), He.meth_ok (c.fact 103 (f := .meth "Plan" "cheapest") rfl)⟩
  have X_cheapest_region := dfX (P := P) (w := w) (base := base) X G (c.fact 20 (f := .glo "cheapest_region") rfl) F42 (ps := ["layout", "level"]) (fun _ _ _ _ _ _ us hl => match us, hl with | [_, _], _ => rfl) (ok_crR T D_Plan X_cheapest F42)
  have D__law_rng := df (P := P) (w := w) (base := base) X G (c.fact 21 (f := .glo "_law_rng") rfl) F43 (ps := ["_law_script", "_law_k"]) (fun _ _ _ _ _ _ us hl => match us, hl with | [_, _], _ => rfl) (ok_rng T F43)
  have D__law_draw := df (P := P) (w := w) (base := base) X G (c.fact 22 (f := .glo "_law_draw") rfl) F44 (ps := ["_law_rng_here", "_law_many"]) (fun _ _ _ _ _ _ us hl => match us, hl with | [_, _], _ => rfl) (ok_draw T F44)
  have D__law_choice := df (P := P) (w := w) (base := base) X G (c.fact 23 (f := .glo "_law_choice") rfl) F45 (ps := ["_law_rng_here", "_law_options"]) (fun _ _ _ _ _ _ us hl => match us, hl with | [_, _], _ => rfl) (ok_choice T D__law_draw F45)
  have D__law_shuffled := df (P := P) (w := w) (base := base) X G (c.fact 24 (f := .glo "_law_shuffled") rfl) F46 (ps := ["_law_rng_here", "_law_values"]) (fun _ _ _ _ _ _ us hl => match us, hl with | [_, _], _ => rfl) (ok_shuf T D__law_draw F46)
  have D__law_sizes := df (P := P) (w := w) (base := base) X G (c.fact 25 (f := .glo "_law_sizes") rfl) F47 (ps := ["_law_rng_here", "_law_levels", "_law_greatest"]) (fun _ _ _ _ _ _ us hl => match us, hl with | [_, _, _], _ => rfl) (ok_sizes T D__law_draw F47)
  have D__law_has_space := df (P := P) (w := w) (base := base) X G (c.fact 26 (f := .glo "_law_has_space") rfl) F48 (ps := ["_law_sizes_here", "_law_length", "_law_blocks_here", "_law_level", "_law_address"]) (fun _ _ _ _ _ _ us hl => match us, hl with | [_, _, _, _, _], _ => rfl) (ok_space T F48)
  have D__law_blocks := df (P := P) (w := w) (base := base) X G (c.fact 27 (f := .glo "_law_blocks") rfl) F49 (ps := ["_law_rng_here", "_law_sizes_here", "_law_length", "_law_many", "_law_pinned"]) (fun _ _ _ _ _ _ us hl => match us, hl with | [_, _, _, _, _], _ => rfl) (ok_blocks T D__law_draw D__law_has_space F49)
  have D__law_runs := df (P := P) (w := w) (base := base) X G (c.fact 28 (f := .glo "_law_runs") rfl) F50 (ps := ["_law_sizes_here", "_law_low", "_law_high"]) (fun _ _ _ _ _ _ us hl => match us, hl with | [_, _, _], _ => rfl) (ok_runs T F50)
  have D__law_free_runs := df (P := P) (w := w) (base := base) X G (c.fact 29 (f := .glo "_law_free_runs") rfl) F51 (ps := ["_law_sizes_here", "_law_length", "_law_blocks_here"]) (fun _ _ _ _ _ _ us hl => match us, hl with | [_, _, _], _ => rfl) (ok_frl T D__law_runs F51)
  have D__law_made := df (P := P) (w := w) (base := base) X G (c.fact 30 (f := .glo "_law_made") rfl) F52 (ps := ["_law_sizes_here", "_law_length", "_law_blocks_here"]) (fun _ _ _ _ _ _ us hl => match us, hl with | [_, _, _], _ => rfl) (ok_made T D_Sizes D_Layout M_put_d M_set_pinned F52)
  have D__law_memory := df (P := P) (w := w) (base := base) X G (c.fact 31 (f := .glo "_law_memory") rfl) F53 (ps := ["_law_rng_here"]) (fun _ _ _ _ _ _ us hl => match us, hl with | [_], _ => rfl) (ok_mem T D__law_draw D__law_sizes D__law_blocks F53)
  have D__law_moves := df (P := P) (w := w) (base := base) X G (c.fact 32 (f := .glo "_law_moves") rfl) F54 (ps := ["_law_rng_here", "_law_sizes_here", "_law_length", "_law_blocks_here"]) (fun _ _ _ _ _ _ us hl => match us, hl with | [_, _, _, _], _ => rfl) (ok_moves T D__law_draw D__law_shuffled D__law_has_space F54)
  have D__law_problem := df (P := P) (w := w) (base := base) X G (c.fact 33 (f := .glo "_law_problem") rfl) F55 (ps := ["_law_sizes_here", "_law_length", "_law_blocks_here", "_law_some"]) (fun _ _ _ _ _ _ us hl => match us, hl with | [_, _, _, _], _ => rfl) (ok_prob T F55)
  have D__law_after := df (P := P) (w := w) (base := base) X G (c.fact 34 (f := .glo "_law_after") rfl) F56 (ps := ["_law_blocks_here", "_law_moves_here"]) (fun _ _ _ _ _ _ us hl => match us, hl with | [_, _], _ => rfl) (ok_after T F56)
  have D__law_cells_in := df (P := P) (w := w) (base := base) X G (c.fact 35 (f := .glo "_law_cells_in") rfl) F57 (ps := ["_law_sizes_here", "_law_blocks_here", "_law_level", "_law_start"]) (fun _ _ _ _ _ _ us hl => match us, hl with | [_, _, _, _], _ => rfl) (ok_cellsin T F57)
  have D__law_due := df (P := P) (w := w) (base := base) X G (c.fact 36 (f := .glo "_law_due") rfl) F58 (ps := ["_law_sizes_here", "_law_length", "_law_blocks_here", "_law_level"]) (fun _ _ _ _ _ _ us hl => match us, hl with | [_, _, _, _], _ => rfl) (ok_due T D__law_free_runs D__law_cells_in F58)
  have KL := klB_ok xkL
  have D__law_outcome := dfG (P := P) (w := w) (base := base) X G (c.fact 37 (f := .glo "_law_outcome") rfl) F59 (ps := ["_law_store", "_law_value"]) (fun _ _ _ _ _ _ us hl => match us, hl with | [_, _], _ => rfl) (ok_outcome T KL X_cheapest_region F59)
  have D__law_end_right := dfG (P := P) (w := w) (base := base) X G (c.fact 38 (f := .glo "_law_end_right") rfl) F60 (ps := []) (fun _ _ _ _ _ _ us hl => match us, hl with | [], _ => rfl) ((fun F => FnG.of (ok_endr T D__law_made D_cheapest_region F)) F60)
  have D__law_right := dfG (P := P) (w := w) (base := base) X G (c.fact 39 (f := .glo "_law_right") rfl) F61 (ps := ["_law_rng_here"]) (fun _ _ _ _ _ _ us hl => match us, hl with | [_], _ => rfl) (ok_right T D__law_memory D__law_made D__law_moves D__law_problem D__law_after D__law_due D__law_free_runs D_cheapest_region D__law_choice D_cost D__law_outcome D__law_end_right M_blocks F61)
  exact ok_law T D__law_rng D__law_right F62
end
end K35
open PySem PySem.W PySem.Calls PyProof.Rows
theorem PySem.Challenge.cw_exactroom_k35_cheapest_regions_holds : PySem.Challenge.rw_exactroom_k35_cheapest_regions.Holds := by
  w_on; o_law
  refine HandSHeadRun.head_any (r := OpenLaw.row PySem.Challenge.rw_exactroom_k35_cheapest_regions) (q := view (OpenLaw.row PySem.Challenge.rw_exactroom_k35_cheapest_regions).prog [62]) (H := K35.hk) (ob := K35.ob) (M := 16000)
    (loose := K35.loose) (d := HandSHeadRun.topDef (OpenLaw.row PySem.Challenge.rw_exactroom_k35_cheapest_regions).prog 62) (kwd := []) K35.ob_eq
    (by kernel_rfl) (fun s => by kernel_rfl) K35.run (by kernel_rfl) (by kernel_rfl) (by kernel_rfl) (by rfl) (by first | assumption | decide +kernel) (by decide +kernel) ⟨rfl, rfl, rfl, rfl, rfl, by decide +kernel⟩ ?hw ?hc
  case hw => w_witness2
  case hc =>
    refine Gu.walkG (l := PySem.Challenge.rw_exactroom_k35_cheapest_regions) (n := 63) (k := 13) (x := "_law_script") (CX := L2.CX0) rfl (by decide) (by kernel_rfl) ⟨⟨rfl, by decide, by decide⟩, rfl⟩ ?F (fun _ _ _ _ z => z)
    intro w mg fa h Y G hmg0
    obtain ⟨K, KX, c⟩ := Y
    have hmg : mg ("law" : PySem.Str) = some (.ref fa) := by
      have e : (HandSHeadRun.topDef (OpenLaw.row PySem.Challenge.rw_exactroom_k35_cheapest_regions).prog 62).name = ("law" : PySem.Str) := by kernel_rfl
      rw [← e]
      exact hmg0
    obtain ⟨fd, hb, hF⟩ := K35.facts (P := (PySem.Challenge.rw_exactroom_k35_cheapest_regions).prog) (w := w) KX G hmg c
    exact ⟨K, fd, K35.spLaw K, KX, hb, fun H a ns hl _ hS => ⟨a, ns, rfl, hS, hl, fun _ => rfl⟩, hF⟩

