import PyProof.Rows.All
import Wide.All
import OpenK.AllK
import Wide.FinOn
import PyProof.ReprRoads
import HandS.ForMost
import HandS.ForExc
import HandS.Property
import HandS.ClsMeth
import HandS.Defaults
import HandS.IsInst
import HandS.Wide
import HandS.WideBits
import HandS.Ends
import HandS.HeadEnd
import HandS.Head0
import HandS.Head1
import HandS.Head2
import HandS.HeadHook1
import HandS.HeadHook2
import HandS.Flow
import HandS.Style
import PyProof.LongRange
import HandS.ExcInit
import HandS.ExcField
import HandS.ExcIs
import HandS.TryOnly
import HandS.OwnEq
import PyProof.Rows.SetFrom
import HandS.TupSets
import HandS.Walk
import HandS.Comp
import KE.KStateDown
import Lean
import KE.KExcInit
import PyProof.ExcBaseAll.ArithmeticError
import PyProof.ExcBaseAll.LookupError
import PyProof.ExcBaseAll.RuntimeError
import HandS.TryMany
import HandS.EndTab
import HandS.DictComp
import HandS.Iter
import KE.KNestM
import PyProof.InstNe
import HandS.More
import PyProof.EqKinds
import HandS.GenYield
import HandS.SortRule
import HandS.Rev
import HandS.FStr
import HandS.Conv
import HandS.Deep
import KE.DataMinMax
import KE.SortData
import HandS.List
import PyProof.EqAt
import PyProof.NeKinds
import PySem.Challenge.RW_exactroom_k44_chosen_addresses
set_option Elab.async false
set_option linter.all false
set_option maxRecDepth 100000
set_option maxHeartbeats 4000000
/-! Own layer: defs that are called where no repr is under way (the guards are known to be none), so that repr of data can be walked. -/
namespace Gu
open PySem PySem.Spec PyProof.Rows L2
structure RoomG (k : Nat) (A : Around) : Prop where
  r : Room k A
  g : A.guards = some []
theorem RoomG.mono {j k : Nat} {A : Around} (x : RoomG k A) (h : j ≤ k) : RoomG j A := ⟨x.r.mono h, x.g⟩
theorem RoomG.down {k : Nat} {A : Around} (x : RoomG (k + 1) A) (env : Env) : RoomG k (A.deeper env) := ⟨x.r.deeper env, x.g⟩
structure FnG (P : Program) (w : World) (K : PySem.W.Frag) (mg : Str → Option Value) (base : Heap) (CX : CXT) (k : Nat) (f : Addr) (fd : FuncData) (ps : List Str) (sp : Sp) : Prop where
  len : ∀ vs H Q E, sp vs H Q E → vs.length = ps.length
  run : ∀ (A : Around) (outer : List Env) (s : Shared) (H : Hp) (args : Args) (us : List Value) (vs : List V) (Q : VK) (E : XK),
    RoomG k A → Env0 P w K mg base A outer s H → BindsTo s fd args (ps.zip us) → Vals vs us → sp vs H Q E →
    codeAny (model P w) A (.call (.ref f) args) (CR CX outer P w H s Q E) s
section
variable {P : Program} {w : World} {K : PySem.W.Frag} {mg : Str → Option Value} {base : Heap} {CX : CXT} {k : Nat} {f : Addr} {fd : FuncData} {ps : List Str} {sp : Sp}
theorem FnG.of (F : FnOk P w K mg base CX k f fd ps sp) : FnG P w K mg base CX k f fd ps sp :=
  ⟨F.len, fun A outer s H args us vs Q E hr => F.run A outer s H args us vs Q E hr.r⟩
/-- a def by its body -/
theorem okG {x qual : Str} {params : Arguments} {body : List Stmt} {scope : Scope} {dvs : List V} {kws : List (Str × V)} {N : List Str}
    (F : FunD K x qual params body scope dvs kws f fd) (S : FnScope N ps scope) (len : ∀ vs H Q E, sp vs H Q E → vs.length = ps.length)
    (hbody : ∀ (cdv : Value) (A : Around) (outer : List Env) (s : Shared) (H : Hp) (vs : List V) (Q : VK) (E : XK),
      RoomG k (A.deeper (envOfC qual scope s.heap.objs.size f cdv)) → sp vs H Q E →
      ∃ t, PSs (cxOf CX P w K mg base N qual scope f cdv A outer s H E) body t ∧ t { nx := fun _ H' => Q .non H', rt := Q } (start N vs) H) :
    FnG P w K mg base CX (k + 1) f fd ps sp := by
  obtain ⟨oc, od, dV, kV, doc, pm, an, cdv, ct, osl, rfl, lk, hcd, _, _⟩ := F.ex
  refine ⟨len, fun A outer s H args us vs Q E hr e0 hb rv hsp => ?_⟩
  have KX : K.In s.heap := e0.mod.kin.keeps fun b o e => (e0.bs b o e).1
  have hkinds : ∀ y ∈ ps.zip us, scope.names.lookup y.1 = some .local ∨
      (scope.names.lookup y.1 = some .cell ∧ ((cellsFrom (s.heap.objs.size + 1) scope.names []).lookup y.1).isSome = true) := by
    rintro ⟨n, v⟩ hy
    rcases S.par n (List.of_mem_zip hy).1 with q | q
    · exact .inl q
    · exact .inr ⟨q, PySem.W.cellsFrom_some _ _ _ (.inl q)⟩
  refine codeAny_call_function hr.r.depth (KX _ _ lk) rfl S.co S.gen rfl (PySem.W.codeRec_of KX hcd) (hb _ _ _ _ ?_)
  refine wpAny_newFunctionEnv_cells S.kind hkinds fun env he s1 x => ?_
  subst he
  refine ⟨(e0.mod.nolimit.keeps fun b o e => (e0.bs b o e).1).keeps x.toInCall.keep, codeAny_func ?_⟩
  obtain ⟨t, ht, hq⟩ := hbody cdv A outer s H vs Q E (hr.down _) hsp
  have I := inv_start (CX := CX) (E := E) (N := N) (qual := qual) (f := f) (cd := cdv) S hr.r.hd e0 (len _ _ _ _ hsp) rv x
  refine wpAny_mono (ht.run [] s1 (start N vs) H _ I hq) (fun fl s' hs => ?_) fun e s' hs => hs
  cases fl with
  | ret u =>
    obtain ⟨v, σ', H', J, rv', q⟩ := hs
    exact ⟨v, H', J.os, J.bare, J.base, J.hok, rv', q⟩
  | next =>
    obtain ⟨σ', H', J, q⟩ := hs
    exact ⟨V.non, H', J.os, J.bare, J.base, J.hok, rfl, q⟩
  | brk => exact hs.elim fun _ z => z.elim fun _ z => z.2.elim
  | cont => exact hs.elim fun _ z => z.elim fun _ z => z.2.elim
end
section
variable {X : Cx} {CX : CXT} {k : Nat} {f : Addr} {fd : FuncData} {ps : List Str} {sp : Sp} {dvs : List V} {ds : List Value} {E : XK} {x : Str} {p pos : Pos} {e : Expr} {es : List Expr} {t : TA}
theorem runG {pins : List (Addr × Obj)} {σ : L2.St} {H : Hp} {s : Shared} {Q : VK} {us : List Value} {vs : List V} (F : FnG X.prog X.w X.K X.mg X.base CX k f fd ps sp)
    (hr : RoomG k X.A) (hb : Binds X.K fd ps ds) (hd : Vals dvs ds) (hx : Passes CX X E) (I : Inv X pins σ H s) (r : Vals vs us) (h : sp (vs ++ dvs) H Q E) :
    wpAny (model X.prog X.w) X.A (call (.ref f) us) (EP X pins σ Q) X.xe s := by
  have r2 := r.append hd
  have hl : (us ++ ds).length = ps.length := r2.length.symm.trans (F.len _ _ _ _ h)
  refine wpAny_call (codeAny_mono (F.run X.A X.stack s H ⟨us, []⟩ _ _ Q E hr I.env0 (hb s us I.kIn hl) r2 h) fun r s' hq => ?_)
  match r, hq with
  | .error e, hq => exact hx pins σ H s e s' I hq
  | .ok (.ret u), hq => exact I.after hq
/-- f(e, ..) -/
theorem pe_callG (F : FnG X.prog X.w X.K X.mg X.base CX k f fd ps sp) (hr : RoomG k X.A) (hg : Gl X x) (hm : X.mg x = some (.ref f)) (hk : PySem.W.keepIn X.K (.ref f) = true)
    (hb : Binds X.K fd ps ds) (hd : Vals dvs ds) (hx : Passes CX X E) (ha : PA X (e :: es) t) (hdb : (x == ("__debug__" : Str)) = false := by decide)
    (he : starEach (e :: es) X.env = (false, eval e X.env) :: starEach es X.env := by rfl) (hpl : (backTo pos (starEach es X.env)).any (·.1) = false := by rfl) :
    PE X (.Call (.Name x p) (e :: es) [] pos) (tCall sp dvs E t) :=
  ⟨fun pins s σ H Q I h => wpAny_Call_Name_kw (ld_glob I hg hm (PySem.W.callWith_K (h₀ := X.base) I.ok.mod.kin hk
    (thn (ha.run pos pins s σ H _ I h) fun us s1 ⟨vs, H1, I1, r, q⟩ => ⟨I1.kIn, runG F hr hb hd hx I1 r q⟩) he hpl) hdb)⟩
/-- repr of a list or a tuple of data -/
def rReprD (K : PySem.W.Frag) : List V → Hp → VK → Prop := fun xs H Q => ∃ (a : Addr) (d : PyData), xs = [.ref a] ∧ Dp K H (.ref a) d ∧ d.showable = true ∧ d.hasDict = false ∧ d.depth ≤ 60 ∧ d.shown.length ≤ sizeLine ∧ Q (.str d.shown) H
theorem call_reprD (hr : RoomG k X.A) : CallR X (.builtin "repr") (rReprD X.K) := by
  intro pins s σ H xs us Q I r h
  obtain ⟨a, d, rfl, hd, hs, hn, hdep, hz, q⟩ := h
  obtain ⟨u, rfl, ru⟩ := vals1 r
  obtain rfl : u = Value.ref a := ru
  obtain ⟨as, rd⟩ := Dp.reads I d (.ref a) (.ref a) hd rfl
  have hu := hr.r.units
  exact repr_of_reads' rd hs (PyData.noDict_hsm hn) hr.g (by omega) (fun _ _ e => e) (fun h' u tk hk => ⟨.str d.shown, H, I.kept hk, ⟨u, rfl⟩, q⟩) hz
end
/-- the law's call, from its promise where no repr is under way -/
theorem law_go {P : Program} {w : World} {K : PySem.W.Frag} {mg mb : Str → Option Value} {CX : CXT} {k : Nat} {fa a : Addr} {fd : FuncData} {x : Str} {sp : Sp} {s₁ : Shared} {vs : List Value} {H : Hp}
    (KX : K.In s₁.heap) (hns : s₁.heap.Ns mainGlobals mg) (hb : s₁.heap.Ns builtinsNs mb) (hbb : ∀ x : Str, x ≠ "__name__" → mb x = bootBuiltins x) (hlim : s₁.heap.NoLimit) (hg : s₁.gens = #[])
    (ha : s₁.heap.get? a = some { cls := .type "list", data := .seq vs.toArray }) (hr : RoomG k callerA)
    (F : ∀ base : Heap, K.In base → base.Ns mainGlobals mg → FnG P w K mg base CX k fa fd [x] sp) (hbind : ∀ (s : Shared) (u : Value), BindsTo s fd ⟨[u], []⟩ [(x, u)])
    (hsp : sp [.ref a] H (fun v _ => v = .bl true) fun _ _ _ => False) (hCX : ∀ e s', CX [] H s₁ (fun _ _ _ => False) e s' → False)
    (hO : Only H) (hok : HOk P w H s₁.heap) (hA : ∀ b, H b ≠ none → b = a) (hK : H a ≠ none → K.lookup a = none) :
    codeAny (model P w) callerA (.call (.ref fa) ⟨[.ref a], []⟩) (fun r s' => r = .ok (.ret (.bool true)) ∧ OldK s₁.heap s'.heap ∧ s'.os = s₁.os ∧ AllBare s'.gens) s₁ := by
  have free : ∀ {b : Addr} {o : Obj}, s₁.heap.get? b = some o → (b = a → False) → (hidT s₁.heap H).get? b = some o := fun {b o} e n => hidT_get e (by
    cases q : H b with
    | none => rfl
    | some u => exact (n (hA b (by rw [q]; exact fun z => nomatch z))).elim)
  have nsK : ∀ {b : Addr} {m : Str → Option Value}, s₁.heap.Ns b m → (hidT s₁.heap H).Ns b m := fun {b m} ⟨o, es, ep, e, d, r⟩ => ⟨o, es, ep, free e (fun z => by
    rw [z, ha] at e
    have e' := Option.some.inj e
    rw [← e'] at d
    exact nomatch d), d, r⟩
  have hKb : K.In (hidT s₁.heap H) := fun b o e => hidT_get (KX b o e) (by
    cases q : H b with
    | none => rfl
    | some u =>
      have z : b = a := hA b (by rw [q]; exact fun z => nomatch z)
      rw [z] at e q
      rw [hK (by rw [q]; exact fun z => nomatch z)] at e
      exact nomatch e)
  obtain ⟨mc, l1, l2⟩ := hlim
  have e0 : Env0 P w K mg (hidT s₁.heap H) callerA [] s₁ H :=
    ⟨rfl, ⟨hKb, nsK hns, ⟨mb, nsK hb, hbb⟩, ⟨mc, nsK l1, l2⟩⟩, fun b o e => of_hidT e, Nat.le_of_eq (hidT_size _ _), trivial, fun b hb => absurd (show b ∈ ([] : List Addr) from hb) List.not_mem_nil, hok, .of_eq hg⟩
  refine codeAny_mono ((F _ hKb (nsK hns)).run callerA [] s₁ H ⟨[.ref a], []⟩ [.ref a] [.ref a] _ _ hr e0 (hbind s₁ (.ref a)) (.cons rfl .nil) hsp) fun r s' h => ?_
  match r, h with
  | .error e, h => exact (hCX e s' h).elim
  | .ok (.ret u), h =>
    obtain ⟨v, H', os, bare, un, hok', r', q⟩ := h
    obtain rfl : v = .bl true := q
    obtain rfl : u = Value.bool true := r'
    refine ⟨rfl, OldK.of_keep fun b o e => ?_, os, bare⟩
    cases q : H b with
    | none => exact un.keep b o e q (fun z => absurd (show b ∈ ([] : List Addr) from z) List.not_mem_nil) (fun z => absurd (show b ∈ ([] : List Addr) from z) List.not_mem_nil)
    | some u =>
      rcases hO b with z | ⟨ob, xs, z⟩
      · rw [q] at z
        exact nomatch z
      · obtain ⟨e1, _⟩ := hok b _ z
        obtain ⟨e2, _⟩ := hok' b _ (un.frzs b ob _ z)
        rw [e] at e1
        rw [Option.some.inj e1]
        exact e2
theorem law_callG {P : Program} {w : World} {K : PySem.W.Frag} {mg mb : Str → Option Value} {CX : CXT} {k : Nat} {fa a : Addr} {fd : FuncData} {x : Str} {sp : Sp} {s₁ : Shared} {vs : List Value} {ns : List Int}
    (KX : K.In s₁.heap) (hns : s₁.heap.Ns mainGlobals mg) (hb : s₁.heap.Ns builtinsNs mb) (hbb : ∀ x : Str, x ≠ "__name__" → mb x = bootBuiltins x) (hlim : s₁.heap.NoLimit) (hg : s₁.gens = #[])
    (ha : s₁.heap.get? a = some { cls := .type "list", data := .seq vs.toArray }) (hi : IntsAre vs ns) (hl : ns.length ≤ sizeLine) (hr : RoomG k callerA)
    (F : ∀ base : Heap, K.In base → base.Ns mainGlobals mg → FnG P w K mg base CX k fa fd [x] sp) (hbind : ∀ (s : Shared) (u : Value), BindsTo s fd ⟨[u], []⟩ [(x, u)])
    (hsp : ∀ H : Hp, Only H → SqL K H a (ns.map V.int) → sp [.ref a] H (fun v _ => v = .bl true) fun _ _ _ => False) (hCX : ∀ H e s', CX [] H s₁ (fun _ _ _ => False) e s' → False) :
    codeAny (model P w) callerA (.call (.ref fa) ⟨[.ref a], []⟩) (fun r s' => r = .ok (.ret (.bool true)) ∧ OldK s₁.heap s'.heap ∧ s'.os = s₁.os ∧ AllBare s'.gens) s₁ := by
  have rv := vals_ints hi
  have lenV := hi.length
  cases hk : K.lookup a with
  | some o =>
    have e := (KX a o hk).symm.trans ha
    obtain rfl := Option.some.inj e
    have hO : Only (fun _ => none) := fun _ => .inl rfl
    exact law_go (H := fun _ => none) KX hns hb hbb hlim hg ha hr F hbind
      (hsp _ hO (.inr ⟨_, vs.toArray, _, hk, rfl, rfl, rfl, by rw [List.size_toArray, lenV]; exact hl, by simpa using rv⟩)) (hCX _) hO
      (fun b u z => nomatch (show (none : Option HO) = some u from z)) (fun b z => (z rfl).elim) (fun z => (z rfl).elim)
  | none =>
    let H0 : Hp := fun b => if b = a then some (.frz { cls := .type "list", data := .seq vs.toArray } (.lst (ns.map V.int))) else none
    have at_ : H0 a = some (.frz { cls := .type "list", data := .seq vs.toArray } (.lst (ns.map V.int))) := if_pos rfl
    have off : ∀ b, b ≠ a → H0 b = none := fun b h => if_neg h
    have hO : Only H0 := fun b => by
      by_cases h : b = a
      · rw [h]
        exact .inr ⟨_, _, at_⟩
      · exact .inl (off b h)
    refine law_go (H := H0) KX hns hb hbb hlim hg ha hr F hbind (hsp _ hO (.inl (.inr ⟨_, at_⟩))) (hCX _) hO (fun b u z => ?_) (fun b z => ?_) (fun _ => hk)
    · by_cases h : b = a
      · rw [h, at_] at z
        obtain rfl := Option.some.inj z
        rw [h]
        exact ⟨ha, by rw [List.length_map]; exact hl, vs, _, rv, ha⟩
      · rw [off b h] at z
        exact nomatch z
    · by_cases h : b = a
      · exact h
      · exact (z (off b h)).elim
/-- the end of a law, over a head by facts -/
theorem walkG {l : PySem.W.OpenLaw} {n k : Nat} {q : Program} {loose : List Str} {XP : (Str → Option Value) → Heap → Prop} {YP : World → Heap → Prop} {d : DefRec} {CX : CXT} {x : Str}
    (hn : l.most = some n) (hn2 : n ≤ sizeLine) (hdf : d.params.defaults = []) (hr : RoomG k callerA)
    (F : ∀ (w : World) (mg : Str → Option Value) (fa : Addr) (h : Heap), YP w h → h.Ns mainGlobals mg → mg d.name = some (.ref fa) →
      ∃ (K : PySem.W.Frag) (fd : FuncData) (sp : Sp), K.In h ∧ (∀ (s : Shared) (u : Value), BindsTo s fd ⟨[u], []⟩ [(x, u)]) ∧
        (∀ (H : Hp) (a : Addr) (ns : List Int), ns.length ≤ n → Only H → SqL K H a (ns.map V.int) → sp [.ref a] H (fun v _ => v = .bl true) fun _ _ _ => False) ∧
        ∀ base : Heap, K.In base → base.Ns mainGlobals mg → FnG l.prog w K mg base CX k fa fd [x] sp)
    (hCX : ∀ (H : Hp) (s : Shared) (e : Value) (s' : Shared), CX [] H s (fun _ _ _ => False) e s' → False) :
    PySem.W.WalkO q loose XP YP l.row.toRowW d [] (fun f vs => PySem.call f vs) := by
  refine Att.attach_call hn hdf fun w s₀ s₁ mg mb fa o pm cd doc a vs ns G Y ho hd hcd hmg hobj hints hlen hg => ?_
  obtain ⟨K, fd, sp, KX, hb, hsp, hF⟩ := F w mg fa _ Y G.T.g hmg
  exact law_callG KX G.T.g G.T.b G.T.builtins G.T.nolimit hg hobj hints (Nat.le_trans hlen hn2) hr hF hb (fun H hO hS => hsp H a ns hlen hO hS) fun H e s' => hCX H s₁ e s'
end Gu

set_option Elab.async false
set_option linter.all false
set_option maxRecDepth 100000
set_option maxHeartbeats 4000000
/-! Own layer: defs, methods, makers and properties by their names. -/
namespace Ex
open PySem PySem.Spec PyProof.Rows L2 Gu
section
variable (P : Program) (w : World) (K : PySem.W.Frag) (mg : Str → Option Value) (base : Heap)
/-- the module's def x keeps sp -/
structure Df (k : Nat) (x : Str) (ps : List Str) (sp : Sp) : Prop where
  ex : ∃ fd, FnOk P w K mg base CX0 k (He.ga K x) fd ps sp ∧ Binds K fd ps []
  gl : mg x = some (.ref (He.ga K x))
  kp : PySem.W.keepIn K (.ref (He.ga K x)) = true
structure DfG (k : Nat) (x : Str) (ps : List Str) (sp : Sp) : Prop where
  ex : ∃ fd, FnG P w K mg base CX0 k (He.ga K x) fd ps sp ∧ Binds K fd ps []
  gl : mg x = some (.ref (He.ga K x))
  kp : PySem.W.keepIn K (.ref (He.ga K x)) = true
/-- .. called by keywords ks alone; j: the places of the parameters among the keywords -/
structure DfK (k : Nat) (x : Str) (ps ks : List Str) (j : List Nat) (sp : Sp) : Prop where
  ex : ∃ fd, FnOk P w K mg base CX0 k (He.ga K x) fd ps sp ∧ ∀ (s : Shared) (ws : List Value), ws.length = ks.length → BindsTo s fd ⟨[], ks.zip ws⟩ (ps.zip (j.filterMap fun i => ws[i]?))
  gl : mg x = some (.ref (He.ga K x))
  kp : PySem.W.keepIn K (.ref (He.ga K x)) = true
structure Mf (k : Nat) (c m : Str) (ps : List Str) (sp : Sp) : Prop where
  ex : ∃ fd, FnOk P w K mg base CX0 k (He.ma K (He.ga K c) m) fd ps sp ∧ Binds K fd ps []
  cl : Cls K (He.ga K c)
  me : Meth K (He.ga K c) m (He.ma K (He.ga K c) m)
structure Pf (k : Nat) (c m : Str) (sp : Sp) : Prop where
  cl : Cls K (He.ga K c)
  ex : ∃ (p g : Addr) (fd : FuncData), PropOf K (He.ga K c) m p g ∧ FnOk P w K mg base CX0 k g fd ["self"] sp ∧ Binds K fd ["self"] []
structure Kf (k : Nat) (c : Str) (ps : List Str) (sp : Sp) : Prop where
  ex : ∃ fd, FnOk P w K mg base CX0 k (He.ma K (He.ga K c) "__init__") fd ps sp ∧ Binds K fd ps []
  gl : mg c = some (.ref (He.ga K c))
  mkr : Mk K (He.ga K c) (He.ma K (He.ga K c) "__init__")
end
section
variable {X : Cx} {k j : Nat} {x c m : Str} {ps ks : List Str} {ji : List Nat} {sp : Sp} {p pos apos : Pos} {e o : Expr} {es : List Expr} {kws : List Keyword} {t tk : TA} {ta : TE}
theorem pcall (D : Df X.prog X.w X.K X.mg X.base k x ps sp) (hr : Room j X.A) (ha : PA X (e :: es) t) (hj : k ≤ j := by decide) (hg : Gl X x := by rfl) (hdb : (x == ("__debug__" : Str)) = false := by decide)
    (he : starEach (e :: es) X.env = (false, eval e X.env) :: starEach es X.env := by rfl) (hpl : (backTo pos (starEach es X.env)).any (·.1) = false := by rfl) :
    PE X (.Call (.Name x p) (e :: es) [] pos) (tCall sp [] E0 t) := by
  obtain ⟨fd, F, b⟩ := D.ex
  exact pe_call F (hr.mono hj) hg D.gl D.kp b .nil pass0 ha hdb he hpl
theorem pcallG (D : DfG X.prog X.w X.K X.mg X.base k x ps sp) (hr : RoomG j X.A) (ha : PA X (e :: es) t) (hj : k ≤ j := by decide) (hg : Gl X x := by rfl) (hdb : (x == ("__debug__" : Str)) = false := by decide)
    (he : starEach (e :: es) X.env = (false, eval e X.env) :: starEach es X.env := by rfl) (hpl : (backTo pos (starEach es X.env)).any (·.1) = false := by rfl) :
    PE X (.Call (.Name x p) (e :: es) [] pos) (tCall sp [] E0 t) := by
  obtain ⟨fd, F, b⟩ := D.ex
  exact pe_callG F (hr.mono hj) hg D.gl D.kp b .nil pass0 ha hdb he hpl
def tKw (sp : Sp) (n : Nat) (j : List Nat) (tk : TA) : TE := fun σ H Q => tk σ H fun zs H2 => zs.length = n ∧ sp (j.filterMap fun i => zs[i]?) H2 Q E0
theorem vals_pick {zs : List V} {ws : List Value} (r : Vals zs ws) : ∀ j : List Nat, Vals (j.filterMap fun i => zs[i]?) (j.filterMap fun i => ws[i]?)
  | [] => .nil
  | i :: j => by
    rw [List.filterMap_cons, List.filterMap_cons]
    cases e : zs[i]? with
    | none =>
      rw [r.none_of e]
      exact vals_pick r j
    | some z =>
      obtain ⟨u, hu, ru⟩ := r.get e
      rw [hu]
      exact .cons ru (vals_pick r j)
theorem pcallK (D : DfK X.prog X.w X.K X.mg X.base k x ps ks ji sp) (hr : Room j X.A) (hkw : PK X kws tk) (hj : k ≤ j := by decide) (hg : Gl X x := by rfl)
    (hall : (backToKw pos (keywordEach kws X.env)).all (·.1.isSome) = true := by rfl) (hks : (backToKw pos (keywordEach kws X.env)).filterMap (·.1) = ks := by rfl)
    (hdb : (x == ("__debug__" : Str)) = false := by decide)
    (hpl : ((backTo pos (starEach [] X.env)).any (·.1) || (backToKw pos (keywordEach kws X.env)).any (·.1.isNone)) = false := by rfl) :
    PE X (.Call (.Name x p) [] kws pos) (tKw sp ks.length ji tk) := by
  obtain ⟨fd, F, b⟩ := D.ex
  refine ⟨fun pins s σ H Q I h => wpAny_Call_Name_kw (ld_glob I hg D.gl ?_ hdb)⟩
  refine PySem.W.callWith_KW0 (h₀ := X.base) I.ok.mod.kin D.kp hall (thn (hkw.run pos pins s σ H _ I h) fun ws s2 ⟨zs, H2, I2, rz, l2, q2⟩ => ⟨I2.kIn, ?_⟩) hpl
  rw [hks]
  refine wpAny_call (codeAny_mono (F.run X.A X.stack s2 H2 ⟨[], ks.zip ws⟩ _ _ Q E0 (hr.mono hj) I2.env0 (b s2 ws (rz.length.symm.trans l2)) (vals_pick rz ji) q2) fun r s' hq => ?_)
  match r, hq with
  | .ok (.ret u), hq => exact I2.after hq
theorem pmeth {pl : Sem Bool} (D : Mf X.prog X.w X.K X.mg X.base k c m ps sp) (hr : Room j X.A) (he : PE X o ta) (ha : PA X (e :: es) t) (hj : k ≤ j := by decide)
    (hst : starEach (e :: es) X.env = (false, eval e X.env) :: starEach es X.env := by rfl) (hpl : (backTo pos (starEach es X.env)).any (·.1) = false := by rfl)
    (ht : eval (.Call (.Attribute o m apos) (e :: es) [] pos) X.env = (do
      let ov ← eval o X.env
      standAt apos.atName
      let (f, first) ← holding [ov] (getMethod ov m pl)
      callWith pos f first (backTo pos (starEach (e :: es) X.env)) (backToKw pos (keywordEach [] X.env))) := by rfl) :
    PE X (.Call (.Attribute o m apos) (e :: es) [] pos) (tMeth (He.ga X.K c) m sp [] E0 ta t) := by
  obtain ⟨fd, F, b⟩ := D.ex
  exact pe_meth he D.cl D.me F (hr.mono hj) b .nil pass0 ha hst hpl ht
theorem pmeth0 {pl : Sem Bool} (D : Mf X.prog X.w X.K X.mg X.base k c m ps sp) (hr : Room j X.A) (he : PE X o ta) (hj : k ≤ j := by decide)
    (ht : eval (.Call (.Attribute o m apos) [] [] pos) X.env = (do
      let ov ← eval o X.env
      standAt apos.atName
      let (f, first) ← holding [ov] (getMethod ov m pl)
      callWith pos f first (backTo pos (starEach [] X.env)) (backToKw pos (keywordEach [] X.env))) := by rfl) :
    PE X (.Call (.Attribute o m apos) [] [] pos) (tMeth (He.ga X.K c) m sp [] E0 ta tNil) := by
  obtain ⟨fd, F, b⟩ := D.ex
  exact pe_meth0 he D.cl D.me F (hr.mono hj) b .nil pass0 ht
theorem pprop (D : Pf X.prog X.w X.K X.mg X.base k c m sp) (hr : Room j X.A) (he : PE X o ta) (hj : k + 1 ≤ j := by decide) (hab : attributeBase o m X.env (eval o X.env) = eval o X.env := by rfl) :
    PE X (.Attribute o m pos) (tProp (He.ga X.K c) sp [] E0 ta) := by
  obtain ⟨p, g, fd, hp, F, b⟩ := D.ex
  exact pe_prop he D.cl hp F (hr.mono hj) b .nil pass0 hab
theorem pmake (D : Kf X.prog X.w X.K X.mg X.base k c ps sp) (hr : Room j X.A) (ha : PA X (e :: es) t) (hj : k + 1 ≤ j := by decide) (hg : Gl X c := by rfl) (hdb : (c == ("__debug__" : Str)) = false := by decide)
    (he : starEach (e :: es) X.env = (false, eval e X.env) :: starEach es X.env := by rfl) (hpl : (backTo pos (starEach es X.env)).any (·.1) = false := by rfl) :
    PE X (.Call (.Name c p) (e :: es) [] pos) (tMake (He.ga X.K c) sp [] E0 t) := by
  obtain ⟨fd, F, b⟩ := D.ex
  exact pe_make D.mkr F (hr.mono hj) hg D.gl b .nil pass0 ha hdb he hpl
end
end Ex

set_option Elab.async false
set_option linter.all false
set_option maxRecDepth 100000
set_option maxHeartbeats 4000000
/-! Own layer: range(a, b) of any whole numbers (walked by one or the other iterator of the machine). -/
namespace Ex
open PySem PySem.Spec PyProof.Rows L2 Gu
theorem turn_long {P : Program} {w : World} {K : PySem.W.Frag} {tg : Expr} (it : Addr) (lo : Int) (n : Nat) :
    Turn P w K tg (Itr lo n) [it] it (fun i h => IsLongIter h it (lo + (i : Nat) * 1) ((n : Int) - (i : Nat)) 1) where
  mem := List.mem_singleton.mpr rfl
  obj := fun i h st b hb => by
    obtain rfl := List.mem_singleton.mp hb
    exact ⟨_, st, fun v z => nomatch (show Data.fields _ = Data.cell v from z)⟩
  keep := fun i h h' st k => k it (List.mem_singleton.mpr rfl) _ st
  item := by
    rintro X rfl rfl rfl hc i pins s σ H E I hf st hg
    obtain ⟨f0, f1, f2, f3, f4, f5⟩ := hf it (List.mem_singleton.mpr rfl)
    refine (Walks.longrange (prog := X.prog) (w := X.w) (I.ok.hd hc) it lo 1 n).item i s _ _ hg st fun v h' tk hv st' kk => ?_
    obtain ⟨t, rfl⟩ := hv
    have J : Inv X pins σ H { s with heap := h', toks := tk } := I.turned (fun b o hb e => kk b o (fun z => hb (List.mem_singleton.mp z)) e) f0 f1 f3 f4 f5
    refine ⟨_, rfl, go_of (s := { s with heap := h', toks := tk }) (n := "longrange_iterator") st' rfl rfl (by decide) ⟨.int (lo + i), H, J, ⟨t, ?_⟩, ⟨rfl, rfl⟩, st', fun b hb => (hf b hb).1⟩⟩
    rw [Int.mul_one]
  done := by
    rintro X rfl rfl rfl hc i pins s σ H E I hf st hg
    obtain ⟨f0, f1, f2, f3, f4, f5⟩ := hf it (List.mem_singleton.mpr rfl)
    have hn : n ≤ i := hg
    exact wpAny_pyNext_long_end (I.ok.hd hc) st (by omega) fun h' eb => ⟨rfl, I.turned (t' := s.toks) (fun b o hb e => eb b o hb e) f0 f1 f3 f4 f5⟩
  self := fun _ _ _ _ _ st h => wpAny_pyIter_longiter st h
section
variable {X : Cx} {tg : Expr}
theorem range_any {pins : List (Addr × Obj)} {σ : L2.St} {H : Hp} {s : Shared} {R : It → Hp → Prop} {E : Value → Shared → Prop} {lo hi : Int} {t u v : Tok} {tk : Nat} (I : Inv X pins σ H s) (q : R (Itr lo (hi - lo).toNat) H) :
    wpAny (model X.prog X.w) X.A (pyIter (.ref s.heap.objs.size)) (PIE X pins σ tg R) E { s with heap := s.heap.push { cls := .type "range", data := .fields #[.int lo t, .int hi u, .int 1 v] }, toks := tk } := by
  have J : Inv X pins σ H { s with heap := s.heap.push { cls := .type "range", data := .fields #[.int lo t, .int hi u, .int 1 v] }, toks := tk } := I.kept fun b o e => Heap.get?_push_of_some _ e
  have e1 : lo + ((0 : Nat) : Int) * 1 = lo := by simp
  have e2 : (((hi - lo).toNat : Nat) : Int) - ((0 : Nat) : Int) = Builtin.Range.rangeSize lo hi 1 := by rw [rangeSize_one]; split <;> omega
  have fr : ∀ b ∈ [(s.heap.push { cls := .type "range", data := .fields #[.int lo t, .int hi u, .int 1 v] }).objs.size], _ := fun b hb => by
    obtain rfl := List.mem_singleton.mp hb
    exact J.fpOk (Nat.le_refl _) (J.hok.fresh (Nat.le_refl _))
  cases hs : Builtin.Range.small lo hi 1 with
  | true =>
    refine wpAny_pyIter_range (IsRange.new ..) hs ⟨_, [_], _, _, H, rfl, J.kept (t' := tk) fun b o e => Heap.get?_push_of_some _ e, turn_range _ lo (hi - lo).toNat, ?_, fr, q⟩
    show IsRangeIter _ _ (lo + ((0 : Nat) : Int) * 1) ((((hi - lo).toNat : Nat) : Int) - ((0 : Nat) : Int)) 1
    rw [e1, e2]
    exact Heap.get?_push_size _ rfl
  | false =>
    refine wpAny_pyIter_longrange (IsRange.new ..) hs ⟨_, [_], _, _, H, rfl, J.kept (t' := tk) fun b o e => Heap.get?_push_of_some _ e, turn_long _ lo (hi - lo).toNat, ?_, fr, q⟩
    show IsLongIter _ _ (lo + ((0 : Nat) : Int) * 1) ((((hi - lo).toNat : Nat) : Int) - ((0 : Nat) : Int)) 1
    rw [e1, e2]
    exact Heap.get?_push_size _ rfl
def iRngA (ta : TA) : TI := fun σ H R => ta σ H fun vs H1 => ∃ i j : Int, vs = [.int i, .int j] ∧ R (Itr i (j - i).toNat) H1
theorem pi_rangeA {a b : Expr} {ta : TA} {p pos : Pos} (hg : Gl X "range") (hm : X.mg "range" = none) (ha : PA X [a, b] ta) (hs : starEach [a, b] X.env = [(false, eval a X.env), (false, eval b X.env)] := by rfl)
    (hs2 : starEach [b] X.env = [(false, eval b X.env)] := by rfl) : PI X tg (.Call (.Name "range" p) [a, b] [] pos) (iRngA ta) := by
  refine ⟨fun pins s σ H R I h => Call_ (ld_blt I hg hm boot_range (PyProof.Rows.callWith_type1 (thn (ha.run pos pins s σ H _ I h) fun us s1 ⟨vs, H1, I1, r1, q1⟩ => ?_) (by rw [hs, hs2]) (by rw [hs2]; rfl)))⟩
  obtain ⟨i, j, rfl, q⟩ := q1
  obtain ⟨u, z, rfl, ⟨t, rfl⟩, ⟨t', rfl⟩⟩ := vals2 r1
  exact call_range_2 (range_any I1 q)
end
end Ex

set_option Elab.async false
set_option linter.all false
set_option maxRecDepth 100000
set_option maxHeartbeats 4000000
/-! Own layer: data of any depth, dicts among it, as repr shows it. -/
namespace Ex
open PySem PySem.Spec PyProof.Rows L2 Gu
mutual
inductive Dq (K : PySem.W.Frag) (H : Hp) : V → PyData → Prop
  | non : Dq K H .non .none
  | bl (b : Bool) : Dq K H (.bl b) (.bool b)
  | int (i : Int) : Dq K H (.int i) (.int i)
  | str (x : Str) : Dq K H (.str x) (.str x)
  | lst {a : Addr} {xs : List V} {ds : List PyData} : SqL K H a xs → DqAll K H xs ds → Dq K H (.ref a) (.list ds)
  | tup {a : Addr} {xs : List V} {ds : List PyData} : SqT K H a xs → DqAll K H xs ds → Dq K H (.ref a) (.tuple ds)
  | dct {a : Addr} {kvs : List (Key × V)} {ds : List (PyData × PyData)} : H a = some (.dK kvs) → DqAll K H (kvs.map fun p => kV p.1) (ds.map (·.1)) → DqAll K H (kvs.map (·.2)) (ds.map (·.2)) → Dq K H (.ref a) (.dict ds)
inductive DqAll (K : PySem.W.Frag) (H : Hp) : List V → List PyData → Prop
  | nil : DqAll K H [] []
  | cons {v : V} {vs : List V} {d : PyData} {ds : List PyData} : Dq K H v d → DqAll K H vs ds → DqAll K H (v :: vs) (d :: ds)
end
/-- the table of modules stands in the written part: no list lies there -/
def SysOk (K : PySem.W.Frag) : Prop := ∃ o, K.lookup sysModules = some o ∧ o.cls ≠ .type "list"
section
variable {X : Cx} {pins : List (Addr × Obj)} {σ : L2.St} {H : Hp} {s : Shared}
theorem key_rel {k : Key} {v : Value} (h : keyIs k v = true) : RelV (kV k) v := by
  rcases keyIs_shape h with ⟨i, t, rfl, rfl⟩ | ⟨x, t, rfl, rfl⟩
  · exact ⟨t, rfl⟩
  · exact ⟨t, rfl⟩
theorem not_sys {a : Addr} {o : Obj} (hs : SysOk X.K) (I : Inv X pins σ H s) (ho : s.heap.get? a = some o) (hc : o.cls = .type "list") : a ≠ sysModules := fun z => by
  obtain ⟨u, e, n⟩ := hs
  have h2 := I.kIn _ _ e
  rw [z, h2] at ho
  rw [Option.some.inj ho] at n
  exact n hc
theorem pairs_rel {es : List DictEntry} {vs : List (Key × Value)} (h : Pairs (mixKind X.prog X.w) es vs) : ∀ {kvs : List (Key × V)}, KV kvs vs → Vals (kvs.map fun p => kV p.1) (es.map (·.key)) ∧ Vals (kvs.map (·.2)) (es.map (·.val)) := by
  induction h with
  | nil =>
    intro kvs r
    cases r
    exact ⟨.nil, .nil⟩
  | @cons e kv es vs h1 h2 h3 ih =>
    intro kvs r
    cases r with
    | @cons p _ l _ r1 r2 =>
      obtain ⟨i1, i2⟩ := ih r2
      have k1 : RelV (kV p.1) e.key := by
        rw [r1.1]
        exact key_rel h1
      have k2 : RelV p.2 e.val := by
        rw [h2]
        exact r1.2
      exact ⟨.cons k1 i1, .cons k2 i2⟩
mutual
theorem Dq.reads (hs : SysOk X.K) (I : Inv X pins σ H s) : ∀ {v : V} {d : PyData}, Dq X.K H v d → ∀ u, RelV v u → ∃ as, Reads s.heap u d as ∧ sysModules ∉ as
  | _, _, .non, u, r => by
    cases r
    exact ⟨_, Reads.none, List.not_mem_nil⟩
  | _, _, .bl b, u, r => by
    cases r
    exact ⟨_, Reads.bool b, List.not_mem_nil⟩
  | _, _, .int i, u, r => by
    obtain ⟨t, rfl⟩ := r
    exact ⟨_, Reads.int i t, List.not_mem_nil⟩
  | _, _, .str x, u, r => by
    obtain ⟨t, rfl⟩ := r
    exact ⟨_, Reads.str x t, List.not_mem_nil⟩
  | _, _, .lst (a := a) hq ha, u, r => by
    cases r
    obtain ⟨its, rv, ⟨o, n, ho, hc, _, hd⟩, _⟩ := I.list hq
    obtain ⟨as, hr, na⟩ := Dq.readsAll hs I ha its rv
    refine ⟨_, Reads.list ho hc hd hr, fun hm => ?_⟩
    rcases List.mem_cons.mp hm with z | z
    · exact not_sys hs I ho hc z.symm
    · exact na z
  | _, _, .tup (a := a) hq ha, u, r => by
    cases r
    obtain ⟨its, rv, ⟨o, ho, hc, n, hd⟩, _⟩ := I.tuple hq
    obtain ⟨as, hr, na⟩ := Dq.readsAll hs I ha its rv
    exact ⟨_, Reads.tuple ho hc hd hr, na⟩
  | _, _, .dct (a := a) (kvs := kvs) hq h1 h2, u, r => by
    cases r
    obtain ⟨_, ns, vs, rk, o, es, ep, ho, hx, hd, _, hp, _⟩ := (show ObjOk X.prog X.w H s.heap a (.dK kvs) from I.hok a _ hq)
    obtain ⟨r1, r2⟩ := pairs_rel hp rk
    obtain ⟨as, q1, n1⟩ := Dq.readsAll hs I h1 _ r1
    obtain ⟨bs, q2, n2⟩ := Dq.readsAll hs I h2 _ r2
    refine ⟨_, Reads.dict ho hx.1 hd q1 q2, fun hm => ?_⟩
    rcases List.mem_append.mp hm with z | z
    · rcases List.mem_cons.mp z with z | z
      · rw [← z, beq_self_eq_true] at ns
        cases ns
      · exact n1 z
    · exact n2 z
theorem Dq.readsAll (hs : SysOk X.K) (I : Inv X pins σ H s) : ∀ {vs : List V} {ds : List PyData}, DqAll X.K H vs ds → ∀ us : List Value, Vals vs us → ∃ as, ReadsAll s.heap us ds as ∧ sysModules ∉ as
  | _, _, .nil, us, r => by
    cases r
    exact ⟨_, ReadsAll.nil, List.not_mem_nil⟩
  | _, _, .cons h1 h2, us, r => by
    cases r with
    | cons r1 r2 =>
      obtain ⟨as, q1, n1⟩ := Dq.reads hs I h1 _ r1
      obtain ⟨bs, q2, n2⟩ := Dq.readsAll hs I h2 _ r2
      refine ⟨_, ReadsAll.cons q1 q2, fun hm => ?_⟩
      rcases List.mem_append.mp hm with z | z
      · exact n1 z
      · exact n2 z
end
end
section
variable {X : Cx} {k : Nat}
/-- repr of any data -/
def rReprQ (K : PySem.W.Frag) : List V → Hp → VK → Prop := fun xs H Q => ∃ (v : V) (d : PyData), xs = [v] ∧ Dq K H v d ∧ d.showable = true ∧ d.depth ≤ 60 ∧ d.shown.length ≤ sizeLine ∧ Q (.str d.shown) H
theorem call_reprQ (hr : RoomG k X.A) (hs : SysOk X.K) : CallR X (.builtin "repr") (rReprQ X.K) := by
  intro pins s σ H xs us Q I r h
  obtain ⟨v, d, rfl, hd, hsh, hdep, hz, q⟩ := h
  obtain ⟨u, rfl, ru⟩ := vals1 r
  obtain ⟨as, rd, na⟩ := Dq.reads hs I hd u ru
  have hu := hr.r.units
  cases hd with
  | non =>
    cases ru
    exact PySem.P.repr_of_none ⟨.str _, H, I.tok _, ⟨_, rfl⟩, by simpa only [PyData.shown] using q⟩
  | bl b =>
    cases ru
    exact PySem.P.repr_of_bool ⟨.str _, H, I.tok _, ⟨_, rfl⟩, by simpa only [PyData.shown] using q⟩
  | int i =>
    obtain ⟨t, rfl⟩ := ru
    exact PySem.P.repr_of_int (by simpa [PyData.showable] using hsh) ⟨.str _, H, I.tok _, ⟨_, rfl⟩, by simpa only [PyData.shown] using q⟩
  | str x =>
    obtain ⟨t, rfl⟩ := ru
    exact PySem.P.repr_of_str ⟨.str _, H, I.tok _, ⟨_, rfl⟩, by simpa only [PyData.shown] using q⟩ (by simpa only [PyData.shown] using hz)
  | @lst a xs ds hq ha =>
    obtain rfl : u = Value.ref a := ru
    exact repr_of_reads' rd hsh (fun _ => na) hr.g (by omega) (fun _ _ e => e) (fun h' u tk hk => ⟨.str _, H, I.kept hk, ⟨u, rfl⟩, q⟩) hz
  | @tup a xs ds hq ha =>
    obtain rfl : u = Value.ref a := ru
    exact repr_of_reads' rd hsh (fun _ => na) hr.g (by omega) (fun _ _ e => e) (fun h' u tk hk => ⟨.str _, H, I.kept hk, ⟨u, rfl⟩, q⟩) hz
  | @dct a kvs ds hq h1 h2 =>
    obtain rfl : u = Value.ref a := ru
    exact repr_of_reads' rd hsh (fun _ => na) hr.g (by omega) (fun _ _ e => e) (fun h' u tk hk => ⟨.str _, H, I.kept hk, ⟨u, rfl⟩, q⟩) hz
/-- x is not True, x is not False, of any scalar -/
def rNotBA : R2 := fun x y H Q => ∃ b : Bool, y = .bl b ∧ ((∃ a : Bool, x = .bl a ∧ Q (.bl (!decide (a = b))) H) ∨ (∃ i : Int, x = .int i ∧ Q (.bl true) H))
theorem op_notBA : OpR X (compareOp .IsNot) rNotBA := by
  intro pins s σ H x y v u Q I rx ry h
  obtain ⟨b, rfl, h⟩ := h
  rcases h with ⟨a, rfl, q⟩ | ⟨i, rfl, q⟩
  · exact op_notBl pins s σ H _ _ v u Q I rx ry ⟨a, b, rfl, rfl, q⟩
  · cases (show u = Value.bool b from ry)
    obtain ⟨t, rfl⟩ := (show ∃ t, v = Value.int i t from rx)
    exact wpAny_isNot_other rfl (fun z => nomatch z) ⟨.bl true, H, I, rfl, q⟩
end
end Ex

set_option Elab.async false
set_option linter.all false
set_option maxRecDepth 100000
set_option maxHeartbeats 4000000
/-! Own layer: isinstance of a caught error that has a dict of its own; errors with fields, raised. -/
namespace Ex
open PySem PySem.Spec PySem.Calls PyProof.Rows L2 Gu
section
variable {prog : Program} {w : World} {A : Around} {E : Value → Shared → Prop} {s : Shared} {K : PySem.W.Frag} {x D : Addr} {ox od : Obj}
theorem class_of_exc {Q : Option Value → Shared → Prop} (c : ExcC K D) (X : K.In s.heap) (I : PySem.W.InstAt s.heap x ox D (some od)) (h : Q (some (.ref D)) { s with toks := s.toks + 1 }) :
    wpAny (model prog w) A (getAttr? (.ref x) "__class__") Q E s := by
  have found : PySem.W.findObj K D (some od) "__class__" = some (.bind (.builtin "getset_descriptor.__get__") (.builtin "object.__class__")) :=
    PySem.W.findObj_data (by obtain ⟨cd, e, _⟩ := PySem.W.any_some c.hd; rw [e]; rfl) c.ha c.hn c.ht
  obtain ⟨hp, g, d, t, os⟩ := s
  have lt := I.type (M := model prog w)
  have lg := PySem.W.looks_findIn (M := model prog w) X c.hg
  have lk := PySem.W.looks_findIn (M := model prog w) X c.hk
  have lf := PySem.W.looks_find (M := model prog w) X I found
  have other : (onTheHeap (Value.ref D) && Value.builtin "BaseException.__getattribute__" == Value.builtin "object.__getattribute__") = false := by
    rw [show (Value.builtin "BaseException.__getattribute__" == Value.builtin "object.__getattribute__") = false by decide +kernel]
    rfl
  unfold getAttr? getAttrBy? getAttrBy
  refine wpAny_bind (wpAny_mkText (wpAny_bind (wpAny_attempt (wpAny_holding (wpAny_bind (lt.at (wpAny_bind (lg.at ?own))))))))
  case own =>
    show wpAny _ _ (if (onTheHeap (Value.ref D) && Value.builtin "BaseException.__getattribute__" == Value.builtin "object.__getattribute__") = true then _ else _) _ _ _
    rw [other, if_neg Bool.false_ne_true]
    unfold getAttrByItsOwn hookBefore
    refine wpAny_bind ?_
    rw [if_pos (show onTheHeap (Value.ref D) = true from rfl)]
    refine lk.at (wpAny_bind (wpAny_attempt (wpAny_holding ?_)))
    unfold callGetattribute
    rw [show (false && onTheHeap (Value.builtin "BaseException.__getattribute__")) = false from rfl, if_neg Bool.false_ne_true]
    unfold boundAndCalled
    rw [PySem.F.excAttr_ValueError.ga.bind (.ref x)]
    refine wpAny_bind (wpAny_pure ?_)
    show wpAny _ _ (call (.builtin "BaseException.__getattribute__") [.ref x, .str "__class__" t]) _ _ _
    refine wpAny_call (codeAny_call_builtin PySem.F.excAttr_ValueError.ga.plain PySem.F.entry_bexc_ga
      (@PySem.W.check_slot (model prog w) _ _ ⟨hp, g, d, t + 1, os⟩ "BaseException.__getattribute__" "BaseException" "__getattribute__" (.ref x) [.str "__class__" t] [] _
        (by decide +kernel) (by decide +kernel) (lt.andThen (PySem.W.looks_subIn X c.hs)) (PySem.F.args_bexc_ga (.ref x) (.str "__class__" t)) ?_))
    unfold Builtin.«object.__getattribute__»
    refine wpAny_bind (wpAny_of_eq (a := ((Value.ref x : Value), [Value.str "__class__" t])) (by first | rfl | (simp only [slotArgs]; rfl)) (wpAny_bind (wpAny_pure (wpAny_bind (lt.at (wpAny_bind (lf.at ?_)))))))
    show wpAny _ _ (holding [Value.builtin "object.__class__"] (call (.builtin "getset_descriptor.__get__") [.builtin "object.__class__", .ref x, .ref D]) >>= ret) _ _ _
    refine wpAny_bind (wpAny_holding (wpAny_call (PySem.W.class_get (s := ⟨hp, g, d, t + 1, os⟩) (ox := ox) (od := some od) X I c.hm (wpAny_pure ?_))))
    show wpAny _ _ (handedOut (.ref D)) _ _ _
    rw [PySem.W.handedOut_of (v := .ref D) rfl]
    first
      | exact wpAny_pure (wpAny_pure h)
      | exact wpAny_pure h
      | exact wpAny_pure (wpAny_bind (wpAny_pure (wpAny_pure h)))
theorem kitx_exc (c : ExcC K D) : PySem.W.KitX K (.ref x) (.ref D) (fun h => PySem.W.InstAt h x ox D (some od)) where
  ty := fun _ _ _ I => I.type
  it := fun _ _ X _ => by
    obtain ⟨cd, e, _⟩ := PySem.W.any_some c.hd
    unfold PySem.W.clsIn at e
    split at e
    · rename_i ho
      exact fun A' Q' E' s' k q => by
        unfold isType loadHead
        exact wpAny_bind (wpAny_loadPart (k _ _ (X _ _ ho)) (wpAny_pure q))
    · cases e
  ne := fun h tp dd its n sl X htp => by
    obtain ⟨cd, e, _⟩ := PySem.W.any_some c.hd
    cases q : (Value.ref D == Value.ref tp) with
    | false => rfl
    | true =>
      have z : D = tp := Value.ref.inj (beq_iff_eq.mp q)
      rw [← z] at htp
      unfold PySem.W.clsIn at e
      split at e
      · rename_i ho
        have y := (X _ _ ho).symm.trans htp
        cases y
      · cases e
  ca := fun X I k => class_of_exc c X I k
end
section
variable {X : Cx} {a D : Addr} {oe : Obj} {d : Addr} {pn : List (Addr × Obj)}
/-- the caught error as the machine sees it -/
theorem inst_exc {pins : List (Addr × Obj)} {σ : L2.St} {H : Hp} {s : Shared} {fs : List (Str × V)} (I : Inv (X.suite a ((a, oe) :: pn)) pins σ H s) (hz : Zc (.ref D) (some d) oe) (hf : ∃ vs, oe.data = .fields vs) (hd : H d = some (.xd fs)) :
    ∃ od, PySem.W.InstAt s.heap a oe D (some od) := by
  obtain ⟨hget, _⟩ := I.pin (a, oe) (List.mem_append_left _ List.mem_cons_self)
  obtain ⟨vs, hv⟩ := hf
  obtain ⟨mA, hns, _⟩ := (show ObjOk X.prog X.w H s.heap d (.xd fs) from I.hok d _ hd)
  obtain ⟨od, ho, _⟩ := lookIn_ns hns
  exact ⟨od, hget, hz.1, by unfold PySem.W.notCls; rw [hv] <;> rfl, by rw [hz.2]; exact ho⟩
/-- isinstance(e, c) -/
def rIsX (K : PySem.W.Frag) (D a : Addr) (cls : Value) (d : Option Addr) : List V → Hp → VK → Prop := fun xs H Q => ∃ (c : V) (u : Value) (b : Bool) (dd : Addr) (fs : List (Str × V)), xs = [.ref a, c] ∧ cls = .ref D ∧ d = some dd ∧ ClsV c u ∧ H dd = some (.xd fs) ∧ PySem.W.kitOne K (.ref D) u = some b ∧ Q (.bl b) H
theorem call_isX {cls : Value} {d : Option Addr} (c : ExcC X.K D) (hz : Zc cls d oe) (hf : ∃ vs, oe.data = .fields vs) : CallR (X.suite a ((a, oe) :: pn)) (.builtin "isinstance") (rIsX X.K D a cls d) := by
  intro pins s σ H xs us Q I r h
  obtain ⟨cv, u, b, dd, fs, rfl, rfl, rfl, k, hd, e, q⟩ := h
  obtain ⟨u1, u2, rfl, r1, r2⟩ := vals2 r
  obtain rfl : u1 = Value.ref a := r1
  have e2 := k.eq r2
  subst e2
  obtain ⟨od, J⟩ := inst_exc I hz hf hd
  exact PySem.W.kia_one (kitx_exc c) I.kIn J e (fun z => nomatch z) fun tk => ⟨.bl b, H, I.tok tk, rfl, q⟩
/-- isinstance(e, (c1, c2, ..)) -/
def rIsXT (K : PySem.W.Frag) (D a : Addr) (cls : Value) (d : Option Addr) : List V → Hp → VK → Prop := fun xs H Q => ∃ (tp : Addr) (cs : List V) (us : List Value) (b : Bool) (dd : Addr) (fs : List (Str × V)), xs = [.ref a, .ref tp] ∧ cls = .ref D ∧ d = some dd ∧
  H tp = some (.tup cs) ∧ Paired ClsV cs us ∧ H dd = some (.xd fs) ∧ PySem.W.kitAny K (.ref D) us = some b ∧ Q (.bl b) H
theorem call_isXT {cls : Value} {d : Option Addr} (c : ExcC X.K D) (hz : Zc cls d oe) (hf : ∃ vs, oe.data = .fields vs) : CallR (X.suite a ((a, oe) :: pn)) (.builtin "isinstance") (rIsXT X.K D a cls d) := by
  intro pins s σ H xs us Q I r h
  obtain ⟨tp, cs, ws, b, dd, fs, rfl, rfl, rfl, hT, k, hd, e, q⟩ := h
  obtain ⟨u1, u2, rfl, r1, r2⟩ := vals2 r
  obtain rfl : u1 = Value.ref a := r1
  obtain rfl : u2 = Value.ref tp := r2
  obtain ⟨od, J⟩ := inst_exc I hz hf hd
  obtain ⟨_, its, rv, o, h1, h2, n, h3⟩ := (show ObjOk X.prog X.w H s.heap tp (.tup cs) from I.hok tp _ hT)
  have e3 := ClsV.all k rv
  subst e3
  obtain ⟨oc, odd, dt, sl⟩ := o
  simp only at h2 h3
  subst h2 h3
  exact PySem.W.kia_tup (kitx_exc c) I.kIn J h1 e (fun z => nomatch z) fun tk => ⟨.bl b, H, I.tok tk, rfl, q⟩
end
section
variable {X : Cx}
/-- repr of any data, also while an error is handled -/
theorem call_reprH (hg : X.A.guards = some []) (hu : X.A.units + 64 < cLine) (hs : SysOk X.K) : CallR X (.builtin "repr") (rReprQ X.K) := by
  intro pins s σ H xs us Q I r h
  obtain ⟨v, d, rfl, hd, hsh, hdep, hz, q⟩ := h
  obtain ⟨u, rfl, ru⟩ := vals1 r
  obtain ⟨as, rd, na⟩ := Dq.reads hs I hd u ru
  have viaRef : ∀ {a : Addr}, u = Value.ref a → wpAny (model X.prog X.w) X.A (call (.builtin "repr") [u]) (EP X pins σ Q) X.xe s := fun {a} e => by
    subst e
    exact repr_of_reads' rd hsh (fun _ => na) hg (by omega) (fun _ _ e => e) (fun h' u tk hk => ⟨.str _, H, I.kept hk, ⟨u, rfl⟩, q⟩) hz
  cases hd with
  | non =>
    cases ru
    exact PySem.P.repr_of_none ⟨.str _, H, I.tok _, ⟨_, rfl⟩, by simpa only [PyData.shown] using q⟩
  | bl b =>
    cases ru
    exact PySem.P.repr_of_bool ⟨.str _, H, I.tok _, ⟨_, rfl⟩, by simpa only [PyData.shown] using q⟩
  | int i =>
    obtain ⟨t, rfl⟩ := ru
    exact PySem.P.repr_of_int (by simpa [PyData.showable] using hsh) ⟨.str _, H, I.tok _, ⟨_, rfl⟩, by simpa only [PyData.shown] using q⟩
  | str x =>
    obtain ⟨t, rfl⟩ := ru
    exact PySem.P.repr_of_str ⟨.str _, H, I.tok _, ⟨_, rfl⟩, by simpa only [PyData.shown] using q⟩ (by simpa only [PyData.shown] using hz)
  | lst hq ha => exact viaRef ru
  | tup hq ha => exact viaRef ru
  | dct hq h1 h2 => exact viaRef ru
end
end Ex

set_option Elab.async false
set_option linter.all false
set_option maxRecDepth 100000
set_option maxHeartbeats 4000000
/-! Own layer: len(o) by an own __len__; what repr shows, within bounds; both law-free. -/
namespace Ex
open PySem PySem.Spec PySem.Calls PyProof.Rows L2 Gu
section
variable {X : Cx} {k j : Nat} {c : Str} {ps : List Str} {sp : Sp}
/-- len(o) by the class's own __len__ -/
def rLenO (C : Addr) (sp : Sp) : List V → Hp → VK → Prop := fun xs H Q => ∃ (a dx : Addr) (fs : List (Str × V)), xs = [.ref a] ∧ H a = some (.ins C dx fs) ∧ sp [.ref a] H (fun v H' => ∃ n : Nat, v = .int n ∧ n ≤ sizeLine ∧ Q (.int n) H') E0
theorem call_lenO (D : Mf X.prog X.w X.K X.mg X.base k c "__len__" ps sp) (hr : Room j X.A) (hj : k + 1 ≤ j := by decide) : CallR X (.builtin "len") (rLenO (He.ga X.K c) sp) := by
  intro pins s σ H xs us Q I r h
  obtain ⟨a, dx, fs, rfl, ha, hq⟩ := h
  obtain ⟨u, rfl, ru⟩ := vals1 r
  obtain rfl : u = Value.ref a := ru
  obtain ⟨fd, F, b⟩ := D.ex
  obtain ⟨mA, J, _⟩ := ins_get I.hok ha
  obtain ⟨od, J, _⟩ := J.look
  have rm : Room k X.A.in1 := (hr.mono hj).in1
  refine Calls.call_function_entry kind_len plain_len entry_len (args_len1 _) ?_
  unfold Builtin.«len»
  refine wpAny_bind (m := oneArg "len" _) (wpAny_pure ?_)
  refine wpAny_bind (m := callSpecial? (.ref a) (Str.ofString "__len__")) (PySem.W.special_fn (name := Str.ofString "__len__") (args := []) I.kIn J D.me.at_ (beq_iff_eq.mp D.me.fn) ?_)
  have e0 : Env0 X.prog X.w X.K X.mg X.base X.A.in1 X.stack s H := by
    have e := I.env0
    exact ⟨e.frames, e.mod, e.bs, e.bsz, e.funs, e.frf, e.hok, e.bare⟩
  have hl := F.len _ _ _ _ hq
  refine wpAny_call (codeAny_mono (F.run X.A.in1 X.stack s H ⟨[.ref a], []⟩ [.ref a] [.ref a] _ E0 rm e0 (by
    have := b s [.ref a] I.kIn (by simpa using hl)
    simpa using this) (.cons rfl .nil) hq) fun r s' hq' => ?_)
  match r, hq' with
  | .ok (.ret u), hq' =>
    obtain ⟨v, H', I', rv, n, rfl, hn, q⟩ := I.after hq'
    obtain ⟨t, rfl⟩ := rv
    have hs : sizeLine = 16777216 := sizeLine_eq
    refine wpAny_bind (wpAny_holding (wpAny_pure ?_))
    refine wpAny_bind (wpAny_letGo ?_)
    show wpAny _ _ (if ((n : Nat) : Int) < 0 then _ else _) _ _ _
    rw [if_neg (by omega)]
    show wpAny _ _ (if ((n : Nat) : Int) ≥ 2 ^ 63 then _ else _) _ _ _
    rw [if_neg (by omega)]
    exact wpAny_bind (wpAny_mkInt (wpAny_pure ⟨_, rfl, ⟨.int n, H', I'.tok _, ⟨_, rfl⟩, q⟩⟩))
end
theorem seqT {K : PySem.W.Frag} {H H' : Hp} {a : Addr} {xs : List V} (e : Same H H') (h : SqT K H a xs) : SqT K H' a xs := by
  rcases h with (h | ⟨o, h⟩) | h
  · exact .inl (.inl (e _ _ h))
  · exact .inl (.inr ⟨o, e _ _ h⟩)
  · exact .inr h
mutual
theorem dq_same {K : PySem.W.Frag} {H H' : Hp} (e : Same H H') : ∀ {v : V} {d : PyData}, Dq K H v d → Dq K H' v d
  | _, _, .non => .non
  | _, _, .bl b => .bl b
  | _, _, .int i => .int i
  | _, _, .str x => .str x
  | _, _, .lst hq ha => .lst (e.seq hq) (dqAll_same e ha)
  | _, _, .tup hq ha => .tup (seqT e hq) (dqAll_same e ha)
  | _, _, .dct hq h1 h2 => .dct (e _ _ hq) (dqAll_same e h1) (dqAll_same e h2)
theorem dqAll_same {K : PySem.W.Frag} {H H' : Hp} (e : Same H H') : ∀ {vs : List V} {ds : List PyData}, DqAll K H vs ds → DqAll K H' vs ds
  | _, _, .nil => .nil
  | _, _, .cons h1 h2 => .cons (dq_same e h1) (dqAll_same e h2)
end
/-- a value as repr shows it: nested at most n deep, at most m signs -/
structure Tq (K : PySem.W.Frag) (H : Hp) (v : V) (d : PyData) (n m : Nat) : Prop where
  dq : Dq K H v d
  sh : d.showable = true
  dp : d.depth ≤ n
  ln : d.shown.length ≤ m
structure TqAll (K : PySem.W.Frag) (H : Hp) (xs : List V) (ds : List PyData) (n m : Nat) : Prop where
  dq : DqAll K H xs ds
  sh : PyData.showableAll ds = true
  dp : PyData.depthAll ds ≤ n
  ln : ((PyData.shownAll ds).map (·.length)).sum + 2 * (PyData.shownAll ds).length ≤ xs.length * (m + 2)
section
variable {K : PySem.W.Frag} {H H' : Hp} {n m : Nat}
theorem Tq.same {v : V} {d : PyData} (t : Tq K H v d n m) (e : Same H H') : Tq K H' v d n m := ⟨dq_same e t.dq, t.sh, t.dp, t.ln⟩
theorem Tq.mono {v : V} {d : PyData} {n' m' : Nat} (t : Tq K H v d n m) (h1 : n ≤ n') (h2 : m ≤ m') : Tq K H v d n' m' := ⟨t.dq, t.sh, Nat.le_trans t.dp h1, Nat.le_trans t.ln h2⟩
theorem TqAll.same {xs : List V} {ds : List PyData} (t : TqAll K H xs ds n m) (e : Same H H') : TqAll K H' xs ds n m := ⟨dqAll_same e t.dq, t.sh, t.dp, t.ln⟩
theorem tq_all : ∀ {xs : List V}, (∀ v ∈ xs, ∃ d, Tq K H v d n m) → ∃ ds, TqAll K H xs ds n m
  | [], _ => ⟨[], .nil, rfl, Nat.zero_le _, Nat.zero_le _⟩
  | v :: xs, h => by
    obtain ⟨d, t⟩ := h v List.mem_cons_self
    obtain ⟨ds, a, b, c, e⟩ := tq_all (xs := xs) fun u hu => h u (List.mem_cons_of_mem _ hu)
    refine ⟨d :: ds, .cons t.dq a, ?_, ?_, ?_⟩
    · show (d.showable && PyData.showableAll ds) = true
      rw [t.sh, b]
      rfl
    · show max d.depth (PyData.depthAll ds) ≤ n
      have := t.dp
      omega
    · show (d.shown.length + ((PyData.shownAll ds).map (·.length)).sum) + 2 * ((PyData.shownAll ds).length + 1) ≤ (xs.length + 1) * (m + 2)
      have := t.ln
      rw [Nat.add_mul, Nat.one_mul]
      omega
theorem TqAll.lst {a : Addr} {xs : List V} {ds : List PyData} (t : TqAll K H xs ds n m) (h : H a = some (.lst xs)) : Tq K H (.ref a) (.list ds) (n + 1) (xs.length * (m + 2) + 3) := by
  refine ⟨.lst (SqL.of h) t.dq, t.sh, ?_, ?_⟩
  · show PyData.depthAll ds + 1 ≤ n + 1
    have := t.dp
    omega
  · have e := listText_len_le (PyData.shownAll ds)
    show (listText (PyData.shownAll ds)).length ≤ _
    have := t.ln
    omega
theorem TqAll.tup {a : Addr} {xs : List V} {ds : List PyData} (t : TqAll K H xs ds n m) (h : H a = some (.tup xs)) : Tq K H (.ref a) (.tuple ds) (n + 1) (xs.length * (m + 2) + 3) := by
  refine ⟨.tup (SqT.of h) t.dq, t.sh, ?_, ?_⟩
  · show PyData.depthAll ds + 1 ≤ n + 1
    have := t.dp
    omega
  · have e := tupleText_len_le (PyData.shownAll ds)
    show (tupleText (PyData.shownAll ds)).length ≤ _
    have := t.ln
    omega
theorem tq_non : Tq K H .non .none 0 41 := ⟨.non, rfl, Nat.le_refl _, by decide +kernel⟩
theorem tq_bl (b : Bool) : Tq K H (.bl b) (.bool b) 0 41 := ⟨.bl b, rfl, Nat.le_refl _, by cases b <;> decide +kernel⟩
theorem tq_int {i : Int} (h1 : -(10 ^ 39) ≤ i) (h2 : i ≤ 10 ^ 39) : Tq K H (.int i) (.int i) 0 41 := by
  have b39 : (10 : Int) ^ 39 = 1000000000000000000000000000000000000000 := by decide
  have e : i.natAbs < 10 ^ 40 := by
    have z : (10 : Nat) ^ 40 = 10000000000000000000000000000000000000000 := by decide
    omega
  have a : i.natAbs.log2 < 1920 := Nat.lt_of_lt_of_le (PySem.Flt.log2_lt_of (k := 200) (by decide) (Nat.lt_trans e (by decide))) (by decide)
  refine ⟨.int i, decide_eq_true a, Nat.le_refl _, ?_⟩
  have z := int_text_length_le10 (k := 40) (by decide) e
  show (Str.ofString (toString i)).length ≤ 41
  rw [PySem.ofString_length]
  exact z
theorem tq_text (z : String) (h : (reprText (Str.ofString z)).length ≤ 41) : Tq K H (.str (Str.ofString z)) (.str (Str.ofString z)) 0 41 := ⟨.str _, rfl, Nat.le_refl _, h⟩
theorem tq_dct {a : Addr} (h : H a = some (.dK [])) : Tq K H (.ref a) (.dict []) 1 41 := ⟨.dct h .nil .nil, rfl, by decide, by decide +kernel⟩
end
theorem code_lt {z : String} {c : Nat} (hc : c ∈ (Str.ofString z).cps.toList) : c < 1114112 := by
  have hc2 : c ∈ z.toList.map Char.toNat := by
    rw [← cpsOfBytes_string]
    simpa [Str.ofString] using hc
  obtain ⟨ch, _, rfl⟩ := List.mem_map.mp hc2
  have v : ch.val.toNat < 55296 ∨ (57343 < ch.val.toNat ∧ ch.val.toNat < 1114112) := ch.valid
  show ch.val.toNat < 1114112
  omega
/-- repr of such a value -/
theorem repr_tq {K : PySem.W.Frag} {H : Hp} {v : V} {d : PyData} {n m : Nat} {Q : VK} (t : Tq K H v d n m) (q : Q (.str d.shown) H) (hn : n ≤ 60 := by decide) (hm : m ≤ sizeLine := by decide) : rReprQ K [v] H Q :=
  ⟨v, d, rfl, t.dq, t.sh, Nat.le_trans t.dp hn, Nat.le_trans t.ln hm, q⟩
end Ex

set_option Elab.async false
set_option linter.all false
set_option maxRecDepth 100000
set_option maxHeartbeats 4000000
/-! Own layer: a == b by an own __eq__ that answers True or False; len(set(xs)) of ints that may be equal. -/
namespace Ex
open PySem PySem.Spec PySem.Calls PyProof.Rows L2 Gu
/-- a class's own == -/
structure EqOf (P : Program) (w : World) (K : PySem.W.Frag) (mg : Str → Option Value) (base : Heap) (k : Nat) (c : Str) (sp : Sp) : Prop where
  ex : ∃ fd, FnOk P w K mg base CX0 k (He.ma K (He.ga K c) "__eq__") fd ["self", "other"] sp ∧ Binds K fd ["self", "other"] []
  at_ : PySem.W.findIn K (.ref (He.ga K c)) "__eq__" = some (some (.ref (He.ma K (He.ga K c) "__eq__")))
  fn : PySem.W.isFn K (.ref (He.ma K (He.ga K c) "__eq__")) = true
/-- what isinstance asks of an own class, and that it knows itself -/
structure InsOk (K : PySem.W.Frag) (C : Addr) : Prop where
  cl : Cls K C
  ha : PySem.W.findIn K (.ref C) "__class__" = some (some (.builtin "object.__class__"))
  hn : PySem.W.specialIn K (.builtin "object.__class__") "__get__" = some (some (.builtin "getset_descriptor.__get__"))
  ht : PySem.W.takesIn K (.builtin "object.__class__") = some true
  hm : PySem.W.mroIn K C (.type "object") = some true
  ki : PySem.W.kitOne K (.ref C) (.ref C) = some true
def insB (K : PySem.W.Frag) (C : Addr) : Bool := He.eqO (PySem.W.findIn K (.ref C) "__class__") (some (some (.builtin "object.__class__"))) && (He.eqO (PySem.W.specialIn K (.builtin "object.__class__") "__get__") (some (some (.builtin "getset_descriptor.__get__"))) &&
  (decide (PySem.W.takesIn K (.builtin "object.__class__") = some true) && (decide (PySem.W.mroIn K C (.type "object") = some true) && decide (PySem.W.kitOne K (.ref C) (.ref C) = some true))))
theorem insB_ok {K : PySem.W.Frag} {C : Addr} (cl : Cls K C) (h : insB K C = true) : InsOk K C := by
  obtain ⟨h1, h⟩ := He.ba h
  obtain ⟨h2, h⟩ := He.ba h
  obtain ⟨h3, h⟩ := He.ba h
  obtain ⟨h4, h5⟩ := He.ba h
  exact ⟨cl, He.eqO_ok h1, He.eqO_ok h2, of_decide_eq_true h3, of_decide_eq_true h4, of_decide_eq_true h5⟩
theorem InsOk.ty {K : PySem.W.Frag} {C a dx : Addr} {fs : List (Str × V)} {H : Hp} (i : InsOk K C) (e : H a = some (.ins C dx fs)) : TyX K H (.ref a) (.ref C) := .base (.ins e i.cl i.ha i.hn i.ht i.hm)
/-- the facts of an own == by one Bool -/
def eqB (K : PySem.W.Frag) (C : Addr) : Bool := He.eqO (PySem.W.findIn K (.ref C) "__eq__") (some (some (.ref (He.ma K C "__eq__")))) && PySem.W.isFn K (.ref (He.ma K C "__eq__"))
theorem eqB_ok {K : PySem.W.Frag} {C : Addr} (h : eqB K C = true) : PySem.W.findIn K (.ref C) "__eq__" = some (some (.ref (He.ma K C "__eq__"))) ∧ PySem.W.isFn K (.ref (He.ma K C "__eq__")) = true := by
  obtain ⟨h1, h2⟩ := He.ba h
  exact ⟨He.eqO_ok h1, h2⟩
def rOwnEq (C : Addr) (sp : Sp) : R2 := fun x y H Q => ∃ a b dx dy fs gs, x = .ref a ∧ y = .ref b ∧ H a = some (.ins C dx fs) ∧ H b = some (.ins C dy gs) ∧ sp [.ref a, .ref b] H (fun v H' => (∃ t, v = .bl t) ∧ Q v H') E0
section
variable {X : Cx} {k j : Nat} {c : Str} {sp : Sp}
theorem op_own (D : EqOf X.prog X.w X.K X.mg X.base k c sp) (hr : Room j X.A) (hj : k ≤ j := by decide) : OpR X (compareOp .Eq) (rOwnEq (He.ga X.K c) sp) := by
  intro pins s σ H x y u v Q I rx ry ⟨a, b, dx, dy, fs, gs, ex, ey, ha, hb, hsp⟩
  subst ex ey
  obtain rfl : u = Value.ref a := rx
  obtain rfl : v = Value.ref b := ry
  obtain ⟨fd, F, bi⟩ := D.ex
  have hr' := hr.mono hj
  obtain ⟨mA, J, _⟩ := ins_get I.hok ha
  obtain ⟨mB, J', _⟩ := ins_get I.hok hb
  obtain ⟨od, J, _⟩ := J.look
  obtain ⟨od', J', _⟩ := J'.look
  obtain ⟨m, hF⟩ := I.fr
  show wpAny (model X.prog X.w) X.A (richCompare .Eq (.ref a) (.ref b)) (EP X pins σ Q) X.xe s
  refine PySem.W.cmp_K (op := .Eq) (tb := .ref (He.ga X.K c)) hr'.units0 hF I.ok.mod.kin J J'.type (by simp [PySem.W.notFirst]) D.at_ D.fn ?_
  have r2 : Vals [V.ref a, V.ref b] [Value.ref a, Value.ref b] := .cons rfl (.cons rfl .nil)
  have bb := bi s [.ref a, .ref b] I.kIn rfl
  refine wpAny_call (codeAny_mono (F.run X.A X.stack s H ⟨[.ref a, .ref b], []⟩ [.ref a, .ref b] [.ref a, .ref b] _ E0 hr' I.env0 (by simpa using bb) r2 hsp) fun r s' hq => ?_)
  match r, hq with
  | .ok (.ret w), hq =>
    obtain ⟨z, H', I', rz, ⟨t, ez⟩, q⟩ := I.after hq
    subst ez
    cases rz
    exact ⟨.bl t, H', I', rfl, q⟩
/-- how many different ones -/
def diff (ns : List Int) : Nat := (ns.foldl step_dedup []).length
theorem range_get (ns : List Int) : (List.range ns.length).map (fun i => ns.getD i 0) = ns := by
  apply List.ext_getElem?
  intro i
  by_cases h : i < ns.length
  · rw [List.getElem?_map, List.getElem?_range h, List.getElem?_eq_getElem h]
    simp [h]
  · rw [List.getElem?_eq_none (by rw [List.length_map, List.length_range]; omega), List.getElem?_eq_none (by omega)]
def tLenSetD (K : PySem.W.Frag) (ta : TE) : TE := fun σ H Q => ta σ H fun x H1 => ∃ (l : Addr) (ns : List Int), x = V.ref l ∧ SqL K H1 l (ns.map V.int) ∧ ns.length < 4000 ∧ Q (.int (diff ns : Nat)) H1
theorem pe_lenSetD {a : Expr} {ta : TE} {p p2 q pos : Pos} (hc : X.calm = true) (hg : Gl X "len") (hm : X.mg "len" = none) (hg2 : Gl X "set") (hm2 : X.mg "set" = none) (ha : PE X a ta)
    (na : starEach [a] X.env = (false, eval a X.env) :: starEach [] X.env := by rfl) : PE X (.Call (.Name "len" p) [.Call (.Name "set" p2) [a] [] q] [] pos) (tLenSetD X.K ta) := by
  refine ⟨fun pins s σ H Q I h => Call_ (ld_blt I hg hm PySem.boot_len (PyProof.Rows.callWith_builtin1 (PyProof.Rows.args_cons (Call_ (ld_blt I hg2 hm2 PyProof.Rows.boot_set ?_)) rfl) rfl rfl))⟩
  refine PyProof.Rows.callWith_type1 (PyProof.Rows.args_cons (thn (ha.run pins s σ H _ I h) fun v s1 ⟨x, H1, I1, r1, l, ns, ex, hq, h1, q1⟩ => PyProof.Rows.args_nil ?_) na) na rfl
  subst ex
  obtain rfl : v = Value.ref l := r1
  obtain ⟨its, r, pl, hz⟩ := I1.list hq
  have hl : its.toArray.size = ns.length := by rw [List.size_toArray, ← r.length, List.length_map]
  refine call_set_list (I1.ok.hd hc) pl.isList (ns := ns) (by simpa using r.ints) (by unfold scanBound; omega) fun h' tk hS hk => PyProof.Rows.args_nil ?_
  have ed : (PyProof.Rows.firstMet (fun i => ns.getD i 0) its.toArray.size).length = diff ns := by
    unfold PyProof.Rows.firstMet diff
    rw [hl, range_get]
  have le : diff ns ≤ ns.length := by
    rw [← ed, ← hl]
    exact PyProof.Rows.firstMet_length_le _ _
  obtain ⟨o, es, ep, t, ho, hex, hd, _, _, _, hf, hn⟩ := hS
  rw [ed] at hn
  exact call_len_set ho hex hd hf (by rw [hn] <;> omega) ⟨.int (diff ns : Nat), H1, (I1.kept fun b o e => hk b o (Heap.lt_size e) e).tok _, ⟨_, by rw [hn]⟩, q1⟩
end
end Ex

set_option Elab.async false
set_option linter.all false
set_option maxRecDepth 100000
set_option maxHeartbeats 4000000
namespace K44
open PySem PySem.Spec PyProof.Rows L2 Gu Ex
def top (i : Nat) : Stmt := PySem.Challenge.pw_exactroom_k44_chosen_addresses.main.body.getD i (.Pass ⟨0, 0, 0, 0⟩)
abbrev FnP (K : PySem.W.Frag) (x qual : Str) (st : Stmt) (f : Addr) (fd : FuncData) : Prop := FunD K x qual (defArgs st) (defBody st) (defScope st) [] [] f fd
/-- what the top has left -/
structure Tx (K : PySem.W.Frag) (mg : Str → Option Value) : Prop where
  n_len : mg "len" = none
  n_isinstance : mg "isinstance" = none
  n_int : mg "int" = none
  n_bool : mg "bool" = none
  n_list : mg "list" = none
  n_range : mg "range" = none
  n_divmod : mg "divmod" = none
  n_abs : mg "abs" = none
  n_max : mg "max" = none
  n_min : mg "min" = none
  n_enumerate : mg "enumerate" = none
  n_all : mg "all" = none
  n_sum : mg "sum" = none
  n_tuple : mg "tuple" = none
  n_sorted : mg "sorted" = none
  n_repr : mg "repr" = none
  n_set : mg "set" = none
  n_reversed : mg "reversed" = none
  n_zip : mg "zip" = none
  g_Sizes : mg "Sizes" = some (.ref (He.ga K "Sizes"))
  cl : Cls K (He.ga K "Sizes")
  nSL : NoAttr K (He.ga K "Sizes") "size_list"
  rd : ClX.CRead K (He.ga K "Sizes") (.type "type")
  cS : ∃ u, ClX.CVal K (He.ga K "Sizes") (.type "type") "MAX_SIZE" (.int 1000000000) u
  cN : ∃ u, ClX.CVal K (He.ga K "Sizes") (.type "type") "MAX_SIZES" (.int 8) u
  sys : SysOk K
  cC : ∃ u, ClX.CVal K (He.ga K "Sizes") (.type "type") "MAX_CELLS" (.int 1000000000000) u
  g_Layout : mg "Layout" = some (.ref (He.ga K "Layout"))
  ly : Cls K (He.ga K "Layout")
  nST : NoAttr K (He.ga K "Layout") "size_table"
  nCC : NoAttr K (He.ga K "Layout") "cell_count"
  nFC : NoAttr K (He.ga K "Layout") "free_count"
  nBL : NoAttr K (He.ga K "Layout") "block_list"
  iS : InsOk K (He.ga K "Sizes")
  iL : InsOk K (He.ga K "Layout")
  kP : ∃ u, Con K (He.ga K "Sizes") "MAX_PIECES" (.int 64) u
/-- a list of sizes -/
structure Good (ns : List Int) : Prop where
  len : 1 ≤ ns.length ∧ ns.length ≤ 8
  one : ns[0]? = some 1
  rng : ∀ (i : Nat) x, ns[i]? = some x → 1 ≤ x ∧ x ≤ 1000000000
  up : ∀ (i : Nat) x y, ns[i]? = some x → ns[i + 1]? = some y → x < y ∧ y % x = 0
section
variable {P : Program} {w : World} {K : PySem.W.Frag} {mg : Str → Option Value} {base : Heap} {f : Addr} {fd : FuncData}
theorem bT {c : Prop} [Decidable c] (h : c) : V.bl (decide c) = V.bl true := congrArg V.bl (decide_eq_true h)
theorem bF {c : Prop} [Decidable c] (h : ¬ c) : V.bl (decide c) = V.bl false := congrArg V.bl (decide_eq_false h)
theorem ifT {c : Bool} {A B : Prop} (h : c = true) (x : A) : if c = true then A else B := by rw [h]; exact iteT x
theorem ifF {c : Bool} {A B : Prop} (h : c = false) (x : B) : if c = true then A else B := by rw [h]; exact iteF x
theorem vT {a b : Int} (h : a = b) : decide (V.int a = V.int b) = true := decide_eq_true (by rw [h])
theorem vF {a b : Int} (h : a ≠ b) : decide (V.int a = V.int b) = false := decide_eq_false fun z => h (V.int.inj z)
def spInt : Sp := fun vs H Q _ => ∃ i : Int, vs = [.int i] ∧ Q (.bl true) H
theorem sc_is_integer : FnScope ["value"] ["value"] (defScope (top 13)) := ⟨rfl, rfl, rfl, by decide +kernel, rfl, by decide +kernel, by decide +kernel⟩
theorem ok_is_integer (T : Tx K mg) (F : FnP K "is_integer" "is_integer" (top 13) f fd) : FnOk P w K mg base CX0 1 f fd ["value"] spInt := by
  refine F.ok sc_is_integer (fun vs H Q E h => ?_) (fun cdv A outer s H vs Q E hr h => ⟨_, PSs.nox (pss_one (ps_ret (pe_and (pe_callB call_isi (by rfl) T.n_isinstance (by decide +kernel) (pa_cons (pv 0) (pa_cons (pe_bltn (v := .ty "int") (by rfl) T.n_int (by decide +kernel) rfl) pa_nil))) (pe_one (pe_not (pe_callB call_isi (by rfl) T.n_isinstance (by decide +kernel) (pa_cons (pv 0) (pa_cons (pe_bltn (v := .ty "bool") (by rfl) T.n_bool (by decide +kernel) rfl) pa_nil)))))))), ?_⟩)
  · obtain ⟨i, rfl, _⟩ := h
    rfl
  · obtain ⟨i, rfl, q⟩ := h
    refine ⟨_, rfl, _, _, _, _, true, rfl, .ty "int", .base (.int i), kit_ty (by decide +kernel), _, rfl, iteT ?_⟩
    exact ⟨_, rfl, _, _, _, _, false, rfl, .ty "bool", .base (.int i), kit_ty (by decide +kernel), _, rfl, q⟩
/-- a good list at a, a place in it -/
def spProblem (K : PySem.W.Frag) : Sp := fun vs H Q _ => ∃ (a : Addr) (ns : List Int) (p : Nat), vs = [.ref a, .int p] ∧ SqL K H a (ns.map V.int) ∧ Good ns ∧ p < ns.length ∧ Q .non H
theorem at_map {ns : List Int} {p : Nat} {x : Int} (h : ns[p]? = some x) : atI (ns.map V.int) (p : Int) = some (.int x) := atI_nat (by rw [List.getElem?_map, h]; rfl)
theorem sc_size_problem : FnScope ["values", "position", "size", "before"] ["values", "position"] (defScope (top 17)) := ⟨rfl, rfl, rfl, by decide +kernel, rfl, by decide +kernel, by decide +kernel⟩
theorem ok_size_problem (T : Tx K mg) (D_is_integer : Df P w K mg base 1 "is_integer" ["value"] spInt) (F : FnP K "size_problem" "size_problem" (top 17) f fd) :
    FnOk P w K mg base CX0 2 f fd ["values", "position"] (spProblem K) := by
  refine F.ok sc_size_problem (fun vs H Q E h => ?_) (fun cdv A outer s H vs Q E hr h => ⟨_, PSs.nox (pss_cons (ps_set (i := 2) sc_size_problem.nd rfl (by first | exact Or.inl rfl | exact Or.inr rfl) (pe_ix ix_list (pv 0) (pv 1) (fun _ _ => rfl))) (pss_cons (ps_if (PW.pt (pw_or (pt_not (pt_val (pcall D_is_integer hr (pa_cons (pv 2) pa_nil)))) (pw_or1 (pt_not (pt_chain op_le op_le pe_int (pv 2) (ClX.pe_cval (pe_glob (v := .ref _) rfl T.g_Sizes rfl))))))) (pss_one (ps_ret pe_str)) pss_nil) (pss_cons (ps_if (pt_cmpR op_eq (pv 1) pe_int (nomark _)) (pss_one (ps_ret (pe_ifExp (pt_cmpR op_eq (pv 2) pe_int (nomark _)) pe_non pe_str))) pss_nil) (pss_cons (ps_set (i := 3) sc_size_problem.nd rfl (by first | exact Or.inl rfl | exact Or.inr rfl) (pe_ix ix_list (pv 0) (pe_op op_sub (pv 1) pe_int) (fun _ _ => rfl))) (pss_cons (ps_if (PW.pt (pw_or (pt_cmpR op_le (pv 2) (pv 3) (nomark _)) (pw_or1 (pt_cmpR op_ne (pe_op op_mod (pv 2) (pv 3)) pe_int (nomark _))))) (pss_one (ps_ret pe_str)) pss_nil) (pss_one (ps_ret pe_non))))))), ?_⟩)
  · obtain ⟨a, ns, p, rfl, _⟩ := h
    rfl
  · obtain ⟨a, ns, p, rfl, hS, g, hp, q⟩ := h
    have hx : ns[p]? = some ns[p] := List.getElem?_eq_getElem hp
    obtain ⟨b1, b2⟩ := g.rng p _ hx
    obtain ⟨u, cS⟩ := T.cS
    refine ⟨_, rfl, _, rfl, a, _, _, _, rfl, rfl, hS, at_map hx, ?_⟩
    refine ⟨_, rfl, _, rfl, true, rfl, iteF ?_⟩
    refine ⟨_, rfl, _, _, rfl, rfl, true, bT b1, iteT ?_⟩
    refine ⟨_, _, _, _, rfl, T.rd, cS, _, _, rfl, rfl, true, bT b2, iteF ?_⟩
    by_cases h0 : p = 0
    · subst h0
      have e1 : ns[0] = 1 := Option.some.inj (hx.symm.trans g.one)
      exact ⟨_, rfl, rfl, _, rfl, ifT (vT rfl) ⟨_, rfl, rfl, _, rfl, ifT (vT e1) q⟩⟩
    · refine ⟨_, rfl, rfl, _, rfl, ifF (vF (by omega)) ?_⟩
      have hp1 : p - 1 < ns.length := by omega
      have hy : ns[p - 1]? = some ns[p - 1] := List.getElem?_eq_getElem hp1
      have hx2 : ns[p - 1 + 1]? = some ns[p] := by rw [show p - 1 + 1 = p by omega]; exact hx
      obtain ⟨u1, u2⟩ := g.up (p - 1) _ _ hy hx2
      have u3 := (g.rng _ _ hy).1
      refine ⟨_, rfl, _, rfl, _, _, rfl, rfl, a, _, _, _, rfl, rfl, hS, (by rw [show ((p : Int) - 1) = ((p - 1 : Nat) : Int) by omega]; exact at_map hy), ?_⟩
      refine ⟨_, rfl, _, rfl, _, _, rfl, rfl, false, bF (by omega), iteF ?_⟩
      refine ⟨_, rfl, _, rfl, _, _, rfl, rfl, (by show (0 : Int) < _; omega), rfl, false, ?_, iteF q⟩
      exact congrArg V.bl (by rw [vT u2]; rfl)
/-- a good list -/
def spCheck (K : PySem.W.Frag) : Sp := fun vs H Q _ => ∃ (a : Addr) (ns : List Int), vs = [.ref a] ∧ SqL K H a (ns.map V.int) ∧ TyX K H (.ref a) (.type "list") ∧ Good ns ∧ Q .non H
theorem sc_check_sizes : FnScope ["values", "position", "problem"] ["values"] (defScope (top 18)) := ⟨rfl, rfl, rfl, by decide +kernel, rfl, by decide +kernel, by decide +kernel⟩
theorem ok_check_sizes (T : Tx K mg) (D_size_problem : Df P w K mg base 2 "size_problem" ["values", "position"] (spProblem K)) (F : FnP K "check_sizes" "check_sizes" (top 18) f fd) :
    FnOk P w K mg base CX0 3 f fd ["values"] (spCheck K) := by
  refine F.ok sc_check_sizes (fun vs H Q E h => ?_) (fun cdv A outer s H vs Q E hr h => ⟨_, PSs.nox (pss_cons (ps_if (pt_not (pt_val (pe_callB call_isi (by rfl) T.n_isinstance (by decide +kernel) (pa_cons (pv 0) (pa_cons (pe_bltn (v := .ty "list") (by rfl) T.n_list (by decide +kernel) rfl) pa_nil))))) (pss_one ps_never) pss_nil) (pss_cons (ps_for PassesOwn.never rfl (pi_range1 rfl T.n_range (pa_cons (pe_callB call_len_seq (by rfl) T.n_len (by decide +kernel) (pa_cons (pv 0) pa_nil)) pa_nil)) (pg_name (i := 1) sc_check_sizes.nd rfl (by first | exact Or.inl rfl | exact Or.inr rfl)) (pss_cons (ps_set (i := 2) sc_check_sizes.nd rfl (by first | exact Or.inl rfl | exact Or.inr rfl) (pcall D_size_problem hr (pa_cons (pv 0) (pa_cons (pv 1) pa_nil)))) (pss_one (ps_if (pt_cmpR op_notN (pv 2) pe_non (nomark _)) (pss_one ps_never) pss_nil)))) (pss_one (ps_if (pt_not (pt_chain op_le op_le pe_int (pe_callB call_len_seq (by rfl) T.n_len (by decide +kernel) (pa_cons (pv 0) pa_nil)) (ClX.pe_cval (pe_glob (v := .ref _) rfl T.g_Sizes rfl)))) (pss_one ps_never) pss_nil)))), ?_⟩)
  · obtain ⟨a, ns, rfl, _⟩ := h
    rfl
  · obtain ⟨a, ns, rfl, hS, ty, g, q⟩ := h
    obtain ⟨u, cN⟩ := T.cN
    obtain ⟨l1, l2⟩ := g.len
    refine ⟨_, rfl, _, _, _, _, true, rfl, .ty "list", ty, kit_ty (by decide +kernel), true, rfl, iteF ?_⟩
    refine ⟨_, rfl, a, _, rfl, .inl hS, _, rfl, (by simp only [List.length_map]; omega), (by simp only [List.length_map]; omega), ?_⟩
    refine for_range (fun i σ H' => H' = H ∧ ∃ x y, σ = [some (.ref a), x, y]) ⟨rfl, none, none, rfl⟩ ?_ ?_
    · rintro i σ H' hi ⟨rfl, x, y, rfl⟩
      have hi2 : i < ns.length := by simpa using hi
      refine ⟨_, rfl, _, rfl, a, ns, i, (by rw [Int.zero_add]; rfl), hS, g, hi2, ?_⟩
      exact ⟨_, rfl, rfl, false, rfl, iteF ⟨rfl, _, _, rfl⟩⟩
    · rintro σ H' ⟨rfl, x, y, rfl⟩
      refine ⟨_, rfl, a, _, rfl, .inl hS, _, _, rfl, rfl, true, bT (by simp only [List.length_map]; omega), iteT ?_⟩
      exact ⟨_, _, _, _, rfl, T.rd, cN, _, _, rfl, rfl, true, bT (by simp only [List.length_map]; omega), iteF q⟩
end
end K44

set_option Elab.async false
set_option linter.all false
set_option maxRecDepth 100000
set_option maxHeartbeats 0
namespace Ex
open PySem PySem.Spec PyProof.Rows L2 Gu
/-! ### facts of a class beyond those by names: constants, a property -/
def cvB (K : PySem.W.Frag) (C : Addr) (f : Str) (i : Int) : Bool := match PySem.W.findCls K (.ref C) (.type "type") f with
  | some (.val (.int j _)) => decide (j = i)
  | _ => false
theorem cvB_ok {K : PySem.W.Frag} {C : Addr} {f : Str} {i : Int} (h : cvB K C f i = true) : ∃ u, ClX.CVal K C (.type "type") f (.int i) u := by
  unfold cvB at h
  split at h
  · rename_i j t e
    have ej : j = i := of_decide_eq_true h
    exact ⟨_, e, t, by rw [ej]⟩
  · cases h
def rdB (K : PySem.W.Frag) (C : Addr) : Bool := PySem.W.readsIn K C (.type "type") && He.eqO (PySem.W.specialIn K (.ref C) "__getattribute__") (some (some (.builtin "type.__getattribute__")))
theorem rdB_ok {K : PySem.W.Frag} {C : Addr} (h : rdB K C = true) : ClX.CRead K C (.type "type") := by
  obtain ⟨h1, h2⟩ := He.ba h
  exact ⟨h1, He.eqO_ok h2⟩
def prA (K : PySem.W.Frag) (C : Addr) (f : Str) : Addr := match PySem.W.findIn K (.ref C) f with
  | some (some (.ref p)) => p
  | _ => 0
def pgA (K : PySem.W.Frag) (C : Addr) (f : Str) : Addr := match PySem.W.recIn K (prA K C f) "property" with
  | some (.ref g :: _) => g
  | _ => 0
def prB (K : PySem.W.Frag) (C : Addr) (f : Str) : Bool := He.eqO (PySem.W.findIn K (.ref C) f) (some (some (.ref (prA K C f)))) &&
  (He.eqO (PySem.W.specialIn K (.ref (prA K C f)) "__get__") (some (some (.builtin "property.__get__"))) && (decide (PySem.W.takesIn K (.ref (prA K C f)) = some true) &&
    (match PySem.W.recIn K (prA K C f) "property" with
    | some (.ref _ :: _) => true
    | _ => false)))
theorem prB_ok {K : PySem.W.Frag} {C : Addr} {f : Str} (h : prB K C f = true) : PropOf K C f (prA K C f) (pgA K C f) := by
  obtain ⟨h1, h⟩ := He.ba h
  obtain ⟨h2, h⟩ := He.ba h
  obtain ⟨h3, h4⟩ := He.ba h
  refine ⟨He.eqO_ok h1, He.eqO_ok h2, of_decide_eq_true h3, ?_⟩
  unfold pgA
  split at h4
  · rename_i g r e
    rw [e]
    exact ⟨r, rfl⟩
  · cases h4
/-- the def at an address -/
def fnAt (K : PySem.W.Frag) (a : Addr) : He.FnW := match K.lookup a with
  | some ⟨_, _, .func fd, _⟩ => some (fd.name, fd.qualname, fd.params, fd.body, fd.scope, fd.globals, fd.closure, fd.builtins)
  | _ => none
def okAt (K : PySem.W.Frag) (a : Addr) (qual : Str) : Bool := PySem.W.keepIn K (.ref a) && (match K.lookup a with
  | some ⟨_, _, .func fd, _⟩ => PySem.W.codeIn K fd.code qual && (He.dflB K fd.defaults [] && He.kwdB K fd.kwdefaults [])
  | _ => false)
theorem fun_at {K : PySem.W.Frag} {a : Addr} {name qual : Str} {params : Arguments} {body : List Stmt} {scope : Scope} (e : fnAt K a = some (name, qual, params, .stmts body, scope, mainGlobals, [], builtinsNs)) (c : okAt K a qual = true) :
    ∃ fd, FunD K name qual params body scope [] [] a fd := by
  obtain ⟨kp, c2⟩ := He.ba c
  unfold fnAt at e
  split at e
  · rename_i oc od fd sl q
    rw [q] at c2
    obtain ⟨k1, k2⟩ := He.ba c2
    obtain ⟨k3, k4⟩ := He.ba k2
    obtain ⟨n1, n2, n3, n4, n5, n6, n7, n8, n9, n10, n11, n12, n13, n14, n15⟩ := fd
    simp only [Option.some.injEq, Prod.mk.injEq] at e
    obtain ⟨rfl, rfl, rfl, rfl, rfl, rfl, rfl, rfl⟩ := e
    exact ⟨_, ⟨oc, od, n8, n9, n10, n11, n12, n13, n14, sl, rfl, q, k1, He.dflB_ok k3, He.kwdB_ok k4⟩, kp⟩
  · cases e
def sysB (K : PySem.W.Frag) : Bool := match K.lookup sysModules with
  | some o => decide (o.cls ≠ .type "list")
  | none => false
end Ex

set_option Elab.async false
set_option linter.all false
set_option maxRecDepth 100000
set_option maxHeartbeats 4000000
/-! Own layer: errors with a field over any built-in base (ArithmeticError, LookupError, RuntimeError, ValueError), made and raised. -/
namespace Ex
open PySem PySem.Spec PySem.Calls PyProof.Rows L2 Gu
/-- own classes, then the mro of a built-in base -/
def refsB (tl : List Value) : List Value → Bool
  | .ref _ :: r => refsB tl r
  | l => l == tl
theorem refsB_two (tl : List Value) (l : List Value) (e : refsB tl l = true) : (∃ c r, l = .ref c :: r ∧ refsB tl r = true) ∨ l = tl := by
  cases l with
  | nil => exact .inr (beq_iff_eq.mp e)
  | cons v r => cases v with
    | ref c => exact .inl ⟨c, r, rfl, e⟩
    | _ => exact .inr (beq_iff_eq.mp e)
/-- a built-in base of errors -/
structure BaseE (B : String) (tl : List Value) : Prop where
  ex : ExcBaseFacts B (B ++ ".__new__") (B ++ ".__init__") tl
  pa : ∀ self : Value, refuseLoop self "__setattr__" tl = pure ()
  ob : tl.contains (.type "object") = true
  ne : tl.isEmpty = false
abbrev tailE (B : String) : List Value := [.type B, .type "Exception", .type "BaseException", .type "object"]
theorem base_AE : BaseE "ArithmeticError" (tailE "ArithmeticError") := ⟨F.excBase_ArithmeticError, F.store_ArithmeticError.passes, by decide +kernel, rfl⟩
theorem base_LE : BaseE "LookupError" (tailE "LookupError") := ⟨F.excBase_LookupError, F.store_LookupError.passes, by decide +kernel, rfl⟩
theorem base_RE : BaseE "RuntimeError" (tailE "RuntimeError") := ⟨F.excBase_RuntimeError, F.store_RuntimeError.passes, by decide +kernel, rfl⟩
theorem base_VE : BaseE "ValueError" (tailE "ValueError") := ⟨F.excBase_ValueError, F.store_ValueError.passes, by decide +kernel, rfl⟩
section
variable {B : String} {tl : List Value}
theorem BaseE.pass (b : BaseE B tl) (self : Value) : ∀ l, refsB tl l = true → refuseLoop self "__setattr__" l = pure ()
  | [], e => by
    have z : ([] : List Value) = tl := beq_iff_eq.mp e
    have n := b.ne
    rw [← z] at n
    cases n
  | v :: r, e => by
    rcases refsB_two tl _ e with ⟨c, r', q, h⟩ | q
    · cases q
      rw [refuseLoop_ref]
      exact b.pass self r h
    · rw [q]
      exact b.pa self
theorem BaseE.has (b : BaseE B tl) (Y : String) : ∀ l, refsB tl l = true → l.contains (.type Y) = tl.contains (.type Y)
  | [], e => by
    have z : ([] : List Value) = tl := beq_iff_eq.mp e
    rw [z]
  | v :: r, e => by
    rcases refsB_two tl _ e with ⟨c, r', q, h⟩ | q
    · cases q
      rw [List.contains_cons, b.has Y r h]
      rfl
    · rw [q]
theorem BaseE.some (b : BaseE B tl) {l : List Value} (e : refsB tl l = true) : l.isEmpty = false := by
  cases l with
  | cons _ _ => rfl
  | nil =>
    have z : ([] : List Value) = tl := beq_iff_eq.mp e
    have n := b.ne
    rw [← z] at n
    exact n
end
section
open Builtin Builtin.ObjectAttr
variable {prog : Program} {w : World} {A : Around} {R : Result → Shared → Prop} {hp : Heap} {g : Array GenState} {d : Drawn} {t : Nat} {os : OsState}
/-- the first field of an error is stored by object.__setattr__ -/
theorem first_field {B : String} {tl : List Value} (b : BaseE B tl) {K : W.Frag} {nm : Str} {tk : Tok} {v : Value} {x C : Addr} {fv : Array Value} {cd : ClassData}
    (KX : K.In hp) (hx : hp.get? x = some { cls := .ref C, data := .fields fv }) (hcd : W.clsIn K C = some cd) (mr : refsB tl cd.mro = true) (hdt : cd.hasDict = true) (no : W.findIn K (.ref C) nm = some none)
    (go : ∀ h' tk' dx, (∀ b o, b ≠ x → hp.get? b = some o → h'.get? b = some o) → hp.objs.size ≤ dx → dx ≠ x → h'.get? x = some { cls := .ref C, dict := some dx, data := .fields fv } →
      h'.Ns1 dx (fun y => if y = nm then some v else none) → R (.ok (.ret .none)) ⟨h', g, d, tk', os⟩) :
    codeAny (model prog w) A (.call (.builtin "object.__setattr__") ⟨[.ref x, .str nm tk, v], []⟩) R ⟨hp, g, d, t, os⟩ := by
  have IA : W.InstAt hp x { cls := .ref C, data := .fields fv } C none := ⟨hx, rfl, rfl, trivial⟩
  have so := F.store_object
  have nE := b.some mr
  have isO : cd.mro.contains (.type "object") = true := (b.has "object" _ mr).trans b.ob
  have far : x ≠ hp.objs.size := Nat.ne_of_lt (Heap.lt_size hx)
  have isI : W.Looks (model prog w) hp (isInstance (.ref x) (.type "object")) true := IA.type.andThen (W.looks_mroIn KX (by unfold W.mroIn; rw [hcd, Option.bind_some, if_neg (by rw [nE]; decide), isO]))
  refine codeAny_call_builtin so.slot.plain so.entry (@W.check_slot (model prog w) _ _ ⟨hp, g, d, t, os⟩ "object.__setattr__" "object" "__setattr__" (.ref x) [.str nm tk, v] [] _ so.kind so.split isI (so.args (.ref x) (.str nm tk) v) ?_)
  have lm : W.Looks (model prog w) hp (mroOf (.ref C)) cd.mro := (W.looks_clsIn KX hcd).andThen .now
  have ln : W.Looks (model prog w) hp (storeTaker? none) none := .now
  have lc : W.Looks (model prog w) hp (classData C) cd := W.looks_clsIn KX hcd
  rw [W.osa_eq, refuse_eq]
  refine wpAny_bind (wpAny_bind (IA.type.at (wpAny_bind (lm.at ?_))))
  rw [b.pass _ _ mr]
  refine wpAny_pure (wpAny_bind (IA.type.at (wpAny_bind ((W.looks_findIn KX no).at (wpAny_bind (ln.at ?_))))))
  show wpAny _ _ (storeInOwnDict (.ref x) (.ref C) (.str nm tk) nm v false) _ _ _
  obtain ⟨n1, n2, n3, n4, n5, hd, n7, n8, n9, n10, n11⟩ := cd
  dsimp only at hdt
  subst hdt
  unfold storeInOwnDict ownDictForStores
  repeat (first | with_reducible refine HandSPX.store_in_new ?_ ?_ | with_reducible refine wpAny_loadPart_at hx ?_ | with_reducible refine lc.at ?_ | wp_step)
  · exact ⟨_, #[], _, (Heap.get?_update_ne _ _ _ _ far.symm).trans (Heap.get?_push_at rfl rfl), rfl, fun e he => absurd he (by simp), fun _ => rfl⟩
  · intro h' tk' nn' sb
    have hx1 : (hp.push { cls := .type "dict", data := .dict #[] }).get? x = some { cls := .ref C, data := .fields fv } := Heap.get?_push_of_some _ hx
    exact go h' tk' hp.objs.size (fun c o hc ho => (sb.2 c (Nat.ne_of_lt (Heap.lt_size ho))).trans ((Heap.get?_update_ne _ _ _ _ hc).trans (Heap.get?_push_of_some _ ho))) (Nat.le_refl _) far.symm
      ((sb.2 x far).trans (Heap.get?_update_self _ hx1 rfl)) nn'
end
/-- what the written part says of an error's class over the base B -/
structure OexG (B : String) (tl : List Value) (K : PySem.W.Frag) (C : Addr) : Prop where
  base : BaseE B tl
  cls : ∃ nm q N bs bm sn sub ab col dd k0 k1 k2 k3 k5, K.lookup C = some (excClassObj nm q C N bs bm true sn sub ab col dd k0 k1 k2 k3 k5 (B ++ ".__new__")) ∧ refsB tl bm = true
  sa : PySem.W.findIn K (.ref C) "__setattr__" = some (some (.builtin "object.__setattr__"))
  exC : PySem.W.subIn K (.ref C) (.type "BaseException") = some true
  tyC : PySem.W.typeIn K (.ref C) = some (.type "type")
  kC : PySem.W.keepIn K (.ref C) = true
section
variable {X : Cx} {pins : List (Addr × Obj)} {σ : L2.St} {H : Hp} {s : Shared} {a C dx : Addr} {f : Str} {y : V} {u : Value} {Q : Unit → Shared → Prop} {E : Value → Shared → Prop} {A : Around} {B : String} {tl : List Value}
/-- self.f = y, the first one -/
theorem field_new (T : OexG B tl X.K C) (I : Inv X pins σ H s) (e : H a = some (exo a C none)) (no : PySem.W.findIn X.K (.ref C) f = some none) (ry : RelV y u)
    (go : ∀ dx s', H dx = none → dx ≠ a → Inv X pins σ (upd (upd H dx (exd dx [(f, y)])) a (exo a C (some dx))) s' → Q () s') : wpAny (model X.prog X.w) A (setAttr (.ref a) f u) Q E s := by
  obtain ⟨nm, q, N, bs, bm, sn, sub, ab, col, dd, k0, k1, k2, k3, k5, hC, mr⟩ := T.cls
  have hcl : PySem.W.clsIn X.K C = some { name := nm, bases := bs, mro := .ref C :: bm, ns := N, qualname := q, hasDict := true, slotNames := sn, subclasses := sub, abstract := ab, collection := col, hasDel := false } := by
    unfold PySem.W.clsIn
    rw [hC] <;> rfl
  obtain ⟨t1, at1⟩ := exo_at I.hok e
  obtain ⟨hp, g, dr, tk, os⟩ := s
  refine PySem.W.set_plain I.kIn (ox := { cls := .ref C, dict := none, data := .fields #[.ref t1, .none, .none, .none, .bool false, .none] }) (od := none) ⟨at1, rfl, rfl, trivial⟩ T.sa ?_
  refine first_field T.base I.kIn at1 hcl (show refsB tl (.ref C :: bm) = true from mr) rfl no (fun h' tk' dx k dn dne hx hn => ?_)
  have free : H dx = none := I.hok.fresh dn
  have far : ∀ {b : Addr} {o : Obj}, hp.get? b = some o → b ≠ dx := fun {b o} q => Nat.ne_of_lt (Nat.lt_of_lt_of_le (Heap.lt_size q) dn)
  have na : ∀ {b : Addr}, H b = none → b ≠ a := fun {b} n z => by
    rw [z, e] at n
    cases n
  have at2 : ∀ {b : Addr} {o : HO}, H b = some o → b ≠ a → upd (upd H dx (exd dx [(f, y)])) a (exo a C (some dx)) b = some o := fun {b o} q n => by
    rw [upd_ne n, upd_ne (ne_of_none q free)]
    exact q
  have U : Un X.fs [] H (upd (upd H dx (exd dx [(f, y)])) a (exo a C (some dx))) hp h' := {
    keep := fun b o q n _ _ => k b o (na n) q
    slot := fun b o q n _ _ => ⟨o.slots, k b o (na n) q⟩
    free := fun b o q n _ => (upd_ne (na n)).trans ((upd_ne (far q)).trans n)
    there := fun b o q _ => by
      by_cases hb : b = a
      · rw [hb]
        exact ⟨_, hx⟩
      · exact ⟨o, k b o hb q⟩
    tups := fun b xs q => at2 q (at_ne e q exo_tup)
    frzs := fun b o v q => at2 q (at_ne e q exo_frz)
    tbls := fun b ps q => ⟨#[], by rw [at2 q (at_ne e q exo_tbl)]; simp⟩ }
  refine go dx _ free dne (I.un (t' := tk') U fun b o q => ?_)
  by_cases hb : b = a
  · subst hb
    rw [upd_same] at q
    cases q
    exact exo_ok hx
  · rw [upd_ne hb] at q
    by_cases hd : b = dx
    · subst hd
      rw [upd_same] at q
      cases q
      exact exd_ok hn (relO_put (fs := []) ry fun g => True.intro)
    · rw [upd_ne hd] at q
      refine (I.hok b o q).stay (fun c v hc z => k c v ?_ z) (fun c hc => at2 hc (at_ne e hc exo_own)) (fun c xs hc => at2 hc (at_ne e hc exo_tup))
      rcases hc with hc | hc
      · rw [hc]
        exact hb
      · exact at_ne e hc exo_own
end
/-- self.f = e, the first field of an error -/
def tFst (B : String) (tl : List Value) (K : PySem.W.Frag) (f : Str) (to te : TE) : TS := fun D σ H => te σ H fun y H1 => to σ H1 fun x H2 => ∃ a C : Addr, x = .ref a ∧ OexG B tl K C ∧ PySem.W.findIn K (.ref C) f = some none ∧
  H2 a = some (exo a C none) ∧ ∀ dx, H2 dx = none → dx ≠ a → D.nx σ (upd (upd H2 dx (exd dx [(f, y)])) a (exo a C (some dx)))
section
variable {X : Cx} {o e : Expr} {es : List Expr} {to te : TE} {ta : TA} {f : Str} {p p' pos : Pos} {B : String} {tl : List Value}
theorem ps_fst (ho : PE X o to) (he : PE X e te) (hs : swapsWith e (some (.Attribute o f p')) pos.line X.env = pure false := by rfl) : PS X (.Assign [.Attribute o f p'] e pos) (tFst B tl X.K f to te) := by
  refine ⟨fun pins s σ H D I h => plainObj_wpAny_Assign_Attribute (thn (he.run pins s σ H _ I h) fun v s1 ⟨y, H1, I1, r1, q1⟩ => thn (ho.run pins s1 σ H1 _ I1 q1) fun u s2 ⟨x, H2, I2, r2, a, C, ex, T, no, ea, q⟩ => ?_) hs⟩
  subst ex
  obtain rfl : u = Value.ref a := r2
  exact field_new T I2 ea no r1 fun dx s' n ne J => ⟨σ, _, J, q dx n ne⟩
/-- C(e, ..) for a raise, C's own __init__ keeping sp -/
theorem pmk_oexG {CX : CXT} {x : Str} {C fI : Addr} {k : Nat} {fd : FuncData} {ps : List Str} {sp : Sp} {ds : List Value} {dvs : List V} (T : OexG B tl X.K C) (iC : PySem.W.findIn X.K (.ref C) "__init__" = some (some (.ref fI))) (tI : PySem.W.typeIn X.K (.ref fI) = some (.type "function"))
    (F1 : FnOk X.prog X.w X.K X.mg X.base CX k fI fd ps sp) (hr : Room (k + 1) X.A) (hb : Binds X.K fd ps ds) (hd : Vals dvs ds) (hx : Passes CX X (fun _ _ _ => False)) (hg : Gl X x) (hm : X.mg x = some (.ref C)) (ha : PA X (e :: es) ta)
    (hdb : (x == ("__debug__" : Str)) = false := by decide) (he : starEach (e :: es) X.env = (false, eval e X.env) :: starEach es X.env := by rfl) (hpl : (backTo pos (starEach es X.env)).any (·.1) = false := by rfl) :
    PMk X (.Call (.Name x p) (e :: es) [] pos) (tMkO C sp dvs ta) := by
  intro pins s σ H Q I h
  obtain ⟨nm, q, N, bs, bm, sn, sub, ab, col, dd, k0, k1, k2, k3, k5, hC, mr⟩ := T.cls
  refine wpAny_Call_Name_kw (ld_glob I hg hm (PySem.W.callWith_K (h₀ := X.base) I.ok.mod.kin T.kC (thn (ha.run pos pins s σ H _ I h) fun us s1 ⟨vs, H1, I1, r1, hz, q1⟩ => ⟨I1.kIn, ?_⟩) he hpl) hdb)
  show wpAny _ _ (call (.ref C) us) _ _ _
  obtain ⟨hp, g, dr, tk, os⟩ := s1
  generalize en : hp.objs.size + 1 = n
  have sz : hp.objs.size ≤ n := by omega
  have hq := q1 n (I1.hok.fresh sz)
  generalize ehp : (hp.push (PySem.W.kdv_tup us)).push (PySem.HandSPX.excO C hp.objs.size) = hp2
  have kk : ∀ b o, hp.get? b = some o → hp2.get? b = some o := fun b o e => by
    rw [← ehp]
    exact Heap.get?_push_of_some _ (Heap.get?_push_of_some _ e)
  have hget : hp2.get? n = some (PySem.HandSPX.excO C hp.objs.size) := by
    rw [← ehp, ← en]
    heap_get
  have I2 : Inv X pins σ (upd H1 n (exo n C none)) ⟨hp2, g, dr, tk, os⟩ := I1.laid (t' := tk) kk sz (exo_ok hget)
  have r2 : Vals (V.ref n :: (vs ++ dvs)) (Value.ref n :: (us ++ ds)) := .cons rfl (r1.append hd)
  have hl : (Value.ref n :: us ++ ds).length = ps.length := r2.length.symm.trans (F1.len _ _ _ _ hq)
  have few : us.length ≤ sizeLine := by
    rw [← Paired.length r1, sizeLine_eq]
    omega
  refine wpAny_call (PySem.HandSPX.call_own T.base.ex (fun Y => T.base.has Y bm mr) (I1.kIn _ _ hC) (PySem.W.looks_findIn I1.kIn iC) (fun self => PySem.W.bind_fn I1.kIn self tI) few ?_)
  rw [en, ehp]
  refine codeAny_mono (F1.run _ X.stack _ _ ⟨Value.ref n :: us, []⟩ (Value.ref n :: (us ++ ds)) _ _ (fun _ _ _ => False) (hr.make C us []) (I2.env0.make C us []) (hb _ (Value.ref n :: us) I2.kIn hl) r2 hq) fun r s' hq' => ?_
  match r, hq' with
  | .error er, hq' => exact hx pins σ _ _ er s' I2 hq'
  | .ok (.ret u), hq' =>
    obtain ⟨v, H2, os2, bare2, un2, hok2, rv, ev, d, fs, ea, ed, hd1, q2⟩ := hq'
    subst ev
    obtain ⟨h2, g2, d2, t2, os'⟩ := s'
    exact ⟨rv, mk_end (raises_own T.exC T.tyC) I1 sz kk un2 hok2 os2 bare2 ea ed hd1 q2⟩
end
end Ex

set_option Elab.async false
set_option linter.all false
set_option maxRecDepth 100000
set_option maxHeartbeats 4000000
/-! Own layer: several clauses 'except x as n' of one try, all with the same name n. -/
namespace Ex
open PySem PySem.Spec PySem.Calls PyProof.Rows L2 Gu
abbrev Suites : Type := List (Value × (Addr → Value → Option Addr → TS))
/-- what the clauses wish of an error of the body, one after the other: slot i is n's -/
def wAsAll (K : PySem.W.Frag) (i : Nat) (Wout : WX) (D : Ends) : Suites → WX
  | [] => Wout
  | (c, ts) :: r => wAs K c i ts (wAsAll K i Wout D r) D
inductive HdAs (X : Cx) (n : Str) : List ExceptHandler → Suites → Prop
  | nil : HdAs X n [] []
  | cons {x : Str} {c : Value} {ts : Addr → Value → Option Addr → TS} {b0 : Stmt} {su : List Stmt} {np p2 : Pos} {hs : List ExceptHandler} {l : Suites} (hc : Names X x c)
      (hsu : ∀ (a : Addr) (oe : Obj) (cls : Value) (d : Option Addr) (pn : List (Addr × Obj)), Zc cls d oe → (∃ vs, oe.data = .fields vs) → PSs (X.suite a ((a, oe) :: pn)) (b0 :: su) (ts a cls d)) (r : HdAs X n hs l) :
      HdAs X n (.ExceptHandler (some (.Name x np)) (some n) (b0 :: su) p2 :: hs) ((c, ts) :: l)
section
variable {X : Cx} {n : Str} {i : Nat} {body : List Stmt} {h0 : ExceptHandler} {hds : List ExceptHandler} {l : Suites} {pos : Pos} {tb : WX → TS} {Wout : WX}
theorem ps_try_asAll (hs : X.stack = X.env :: X.outer) (hf : X.env.frame = some X.env.locals) (hN : X.N.Nodup) (hi : X.N[i]? = some n) (hln : X.env.kindOf n = some .local) (tk : Takes X Wout)
    (hb : ∀ (W : WX) (pn : List (Addr × Obj)) (xe : Value → Shared → Prop), Takes (X.tr pn xe) W → PassesOwn (model X.prog X.w) X.A X.env xe → PSs (X.tr pn xe) body (tb W))
    (hh : HdAs X n (h0 :: hds) l) : PS X (.Try body (h0 :: hds) [] [] pos) (fun D σ H => tb (wAsAll X.K i Wout D l) D σ H) := by
  refine ⟨fun pins s σ H D I h => ?_⟩
  have ok := I.ok
  have fr : X.A.frames = some (X.env :: X.outer) := by
    rw [ok.frames, hs]
  refine wpAny_Try_except (wpAny_mono ((hb (wAsAll X.K i Wout D l) (X.pn ++ pins) (fun e s1 => wpAny (model X.prog X.w) X.A (noteFrame e X.env) (fun _ s2 => wpAny (model X.prog X.w) X.A (setFlight e none) (fun _ s3 =>
    wpAny (model X.prog X.w) X.A (handleBy e X.env (h0 :: hds)) (SP X pins D) X.xe s3) X.xe s2) X.xe s1) (fun u s' xx => ?_) PassesOwn.looking).run [] s σ H D (I.toTry _) h) (fun f s1 hsp => ?_) (fun e s1 he => he))
  · obtain ⟨a, B, sI, pins', σ1, H1, cls, d, rfl, J0, nb, up, sky, na, os, ag, w⟩ := xx
    have J : Inv X pins σ1 H1 sI := J0.ofTry ok
    rw [hs] at sky
    show wpAny (model X.prog X.w) X.A (noteFrame (.ref a) X.env) _ _ _
    refine Sky.land Zc.steady fr hf sky fun h3 fl up3 => ?_
    have J3 : Inv X pins σ1 H1 { s' with heap := h3 } := J.landed nb fl.1 (up.trans up3) os ag
    obtain ⟨o3, v3, he3, hz3, hd3⟩ := fl.there
    have nfr : a ∉ frs (X.env :: X.outer) := fun hm => by
      obtain ⟨_, o', e', hnf⟩ := fl.2.2.1.mem hm
      rw [he3] at e'
      cases e'
      exact hnf _ hd3
    have nL : a ≠ X.env.locals := fun z => nfr (List.mem_filterMap.mpr ⟨X.env, List.mem_cons_self, by rw [hf, z]⟩)
    have nF : a ∉ X.fs := fun hm => by
      obtain ⟨e, he, q⟩ := List.mem_filterMap.mp hm
      exact nfr (List.mem_filterMap.mpr ⟨e, List.mem_cons_of_mem _ he, q⟩)
    have S3 := J3.suite he3 hd3 na nL nF
    have go : ∀ {hs2 : List ExceptHandler} {l2 : Suites}, HdAs X n hs2 l2 → wAsAll X.K i Wout D l2 cls d σ1 H1 → wpAny (model X.prog X.w) X.A (handleBy (.ref a) X.env hs2) (SP X pins D) X.xe { s' with heap := h3 } := by
      intro hs2 l2 hk
      induction hk with
      | nil =>
        intro w
        refine wpAny_handleBy_nil ?_
        obtain ⟨_, _, _, oe, vs, Tb, oT, tsT, he, hz, hd, h1, hr⟩ := id fl
        unfold PySem.passOn
        refine wpAny_bind (wpAny_field he hd h1 ?_)
        rw [if_neg (show ¬ ((Value.ref Tb == Value.none) = true) from by simp)]
        have fin : wpAny (model X.prog X.w) X.A (setFlight (.ref a) X.env.frame) (fun _ s4 => wpAny (model X.prog X.w) X.A (throw (.ref a) : Sem Flow) (SP X pins D) X.xe s4) X.xe { s' with heap := h3 } := by
          rw [hf]
          exact HandSPX.setFlight_upZ fl fun h4 hh4 up4 => wpAny_throw (tk _ _ ⟨a, B, sI, pins, σ1, H1, cls, d, rfl, J, nb, (up.trans up3).trans up4, .inr (.inr (by rw [hs]; exact hh4)), na, os, ag, w⟩)
        first
          | exact wpAny_bind (wpAny_pure (wpAny_bind fin))
          | exact wpAny_bind fin
      | @cons x c ts b0 su np p2 hs3 l3 hc hsu r ih =>
        intro w
        obtain ⟨b, hb1, yes, no⟩ := w
        refine wpAny_handleBy_cons (codeAny_handlers_test ?_) (by intro q; cases q)
        have lt : PySem.W.Looks (model X.prog X.w) h3 (typeOf (.ref a)) cls := fun A Q E s k q => wpAny_typeOf_ref (k _ _ he3) (by rw [hz3.1]; exact q)
        have lm := PySem.W.exm_one (M := model X.prog X.w) J3.kIn lt hb1
        have name : ∀ {Q : Value → Shared → Prop} {E : Value → Shared → Prop}, Q c { s' with heap := h3 } → wpAny (model X.prog X.w) (X.A.mark (some (.ref a))) (eval (.Name x np) X.env) Q E { s' with heap := h3 } := fun {Q E} q => by
          obtain ⟨hg, hdbg, hm | ⟨hm, hv, hnn⟩⟩ := hc
          · exact ld_glob (X := X.suite a ((a, o3) :: (X.pn ++ pins))) S3 hg hm q hdbg
          · exact ld_blt (X := X.suite a ((a, o3) :: (X.pn ++ pins))) S3 hg hm hv q hnn hdbg
        refine name (lm.here ?_)
        cases b with
        | false =>
          show wpAny _ X.A (handleBy (.ref a) X.env hs3) _ _ _
          exact ih (no rfl)
        | true =>
          refine codeAny_handlers_suite_as (HandSPX.lands_againZ fl fun h4 fl4 up4 => ?_)
          have J4 : Inv X pins σ1 H1 { s' with heap := h4 } := J.landed nb fl4.1 ((up.trans up3).trans up4) os ag
          obtain ⟨o4, v4, he4, hz4, hd4⟩ := fl4.there
          have S4 := J4.suite he4 hd4 na nL nF
          refine store_ok (X := X.suite a ((a, o4) :: (X.pn ++ pins))) (v := .ref a) S4 hN hi (.inl hln) rfl (fun s5 S5 => ?_) (.inr hln)
          refine wpAny_mono ((hsu a o4 cls d (X.pn ++ pins) hz4 ⟨_, hd4⟩).run [] s5 _ H1 _ S5 (yes rfl a na)) (fun f s6 hsp => ?_) (fun _ _ z => False.elim z)
          have out : ∀ {σ6 : L2.St} {H6 : Hp} {Q : Shared → Prop}, Inv (X.suite a ((a, o4) :: (X.pn ++ pins))) [] σ6 H6 s6 → (∀ s7, Inv X pins (σ6.set i none) H6 s7 → Q s7) →
              wpAny (model X.prog X.w) X.A (do bindName X.env n .none; unbindBehindTheSuite X.env n p2) (fun _ s7 => Q s7) X.xe s6 := fun {σ6 H6 Q} S6 hq => gone_ok (S6.unsuite ok) hN hi hln hq
          match f, hsp with
          | .next, ⟨σ6, H6, S6, q6⟩ => exact out S6 fun s7 J7 => ⟨_, _, J7, q6⟩
          | .brk, ⟨σ6, H6, S6, q6⟩ => exact out S6 fun s7 J7 => ⟨_, _, J7, q6⟩
          | .cont, ⟨σ6, H6, S6, q6⟩ => exact out S6 fun s7 J7 => ⟨_, _, J7, q6⟩
          | .ret u, ⟨v6, σ6, H6, S6, r6, q6⟩ => exact out S6 fun s7 J7 => ⟨_, _, _, J7, r6, q6⟩
    exact go hh w
  · match f, hsp with
    | .next, ⟨σ1, H1, J1, q⟩ => exact wpAny_execs_nil ⟨σ1, H1, J1.ofTry ok, q⟩
    | .brk, ⟨σ1, H1, J1, q⟩ => exact ⟨σ1, H1, J1.ofTry ok, q⟩
    | .cont, ⟨σ1, H1, J1, q⟩ => exact ⟨σ1, H1, J1.ofTry ok, q⟩
    | .ret u, ⟨v, σ1, H1, J1, r, q⟩ => exact ⟨v, σ1, H1, J1.ofTry ok, r, q⟩
end
end Ex

set_option Elab.async false
set_option linter.all false
set_option maxRecDepth 100000
set_option maxHeartbeats 4000000
/-! Own layer: defs that make lambdas; the end of a law whose defs write the tables of their code objects, where no repr is under way. -/
namespace Gu
open PySem PySem.Spec PyProof.Rows L2
section
variable {P : Program} {w : World} {K : PySem.W.Frag} {mg : Str → Option Value} {base : Heap} {CX : CXT} {k : Nat} {f : Addr} {fd : FuncData} {ps : List Str} {sp : Sp}
/-- a def by its body, its code object known -/
theorem okGc {x qual : Str} {params : Arguments} {body : List Stmt} {scope : Scope} {dvs : List V} {kws : List (Str × V)} {N : List Str}
    (F : FunD K x qual params body scope dvs kws f fd) (S : FnScope N ps scope) (len : ∀ vs H Q E, sp vs H Q E → vs.length = ps.length)
    (hbody : ∀ (A : Around) (outer : List Env) (s : Shared) (H : Hp) (vs : List V) (Q : VK) (E : XK),
      RoomG k (A.deeper (envOfC qual scope s.heap.objs.size f fd.code)) → sp vs H Q E →
      ∃ t, PSs (cxOf CX P w K mg base N qual scope f fd.code A outer s H E) body t ∧ t { nx := fun _ H' => Q .non H', rt := Q } (start N vs) H) :
    FnG P w K mg base CX (k + 1) f fd ps sp := by
  obtain ⟨oc, od, dV, kV, doc, pm, an, cdv, ct, osl, rfl, lk, hcd, _, _⟩ := F.ex
  refine ⟨len, fun A outer s H args us vs Q E hr e0 hb rv hsp => ?_⟩
  have KX : K.In s.heap := e0.mod.kin.keeps fun b o e => (e0.bs b o e).1
  have kinds : ∀ y ∈ ps.zip us, scope.names.lookup y.1 = some .local ∨
      (scope.names.lookup y.1 = some .cell ∧ ((cellsFrom (s.heap.objs.size + 1) scope.names []).lookup y.1).isSome = true) := fun ⟨n, v⟩ hy => by
    rcases S.par n (List.of_mem_zip hy).1 with q | q
    · exact .inl q
    · exact .inr ⟨q, PySem.W.cellsFrom_some _ _ _ (.inl q)⟩
  refine codeAny_call_function hr.r.depth (KX _ _ lk) rfl S.co S.gen rfl (PySem.W.codeRec_of KX hcd) (hb _ _ _ _ ?_)
  refine wpAny_newFunctionEnv_cells S.kind kinds fun env he s1 x => ?_
  subst he
  refine ⟨(e0.mod.nolimit.keeps fun b o e => (e0.bs b o e).1).keeps x.toInCall.keep, codeAny_func ?_⟩
  obtain ⟨t, ht, hq⟩ := hbody A outer s H vs Q E (hr.down _) hsp
  have I := inv_start (CX := CX) (E := E) (N := N) (qual := qual) (f := f) (cd := cdv) S hr.r.hd e0 (len _ _ _ _ hsp) rv x
  refine wpAny_mono (ht.run [] s1 (start N vs) H _ I hq) (fun fl s' hs => ?_) fun e s' hs => hs
  match fl, hs with
  | .ret u, ⟨v, σ', H', J, rv', q⟩ => exact ⟨v, H', J.os, J.bare, J.base, J.hok, rv', q⟩
  | .next, ⟨σ', H', J, q⟩ => exact ⟨V.non, H', J.os, J.bare, J.base, J.hok, rfl, q⟩
  | .brk, ⟨_, _, z⟩ => exact z.2.elim
  | .cont, ⟨_, _, z⟩ => exact z.2.elim
end
/-- what stands in the heap before the law's call: the script, and the tables of the code objects cs -/
structure Tab0 (cs : List (Addr × Addr)) (H : Hp) : Prop where
  at_ : ∀ p ∈ cs, H p.2 = some (.tbl #[])
theorem law_goT {P : Program} {w : World} {K : PySem.W.Frag} {mg mb : Str → Option Value} {CX : CXT} {k : Nat} {fa a : Addr} {cs : List (Addr × Addr)} {fd : FuncData} {x : Str} {sp : Sp} {s₁ : Shared} {vs : List Value} {H : Hp}
    (KX : K.In s₁.heap) (hns : s₁.heap.Ns mainGlobals mg) (hb : s₁.heap.Ns builtinsNs mb) (hbb : ∀ x : Str, x ≠ "__name__" → mb x = bootBuiltins x) (hlim : s₁.heap.NoLimit) (hg : s₁.gens = #[])
    (tab : ∀ p ∈ cs, s₁.heap.get? p.2 = some { cls := .none, data := .fields #[] }) (cod : ∀ p ∈ cs, PySem.W.CodeHd s₁.heap p.1 p.2)
    (hbm : ∃ (bm : Addr) (ob : Obj), mg "__builtins__" = some (.ref bm) ∧ bm ≠ builtinsNs ∧ s₁.heap.get? bm = some ob ∧ ob.cls = .type "module" ∧ ob.dict = some builtinsNs ∧ ob.data = .plain)
    (ha : s₁.heap.get? a = some { cls := .type "list", data := .seq vs.toArray }) (hr : RoomG k callerA)
    (F : ∀ base : Heap, K.In base → base.Ns mainGlobals mg → (∀ p ∈ cs, LamX.TabB base mg p.1 p.2) → FnG P w K mg base CX k fa fd [x] sp) (hbind : ∀ (s : Shared) (u : Value), BindsTo s fd ⟨[u], []⟩ [(x, u)])
    (hsp : sp [.ref a] H (fun v _ => v = .bl true) fun _ _ _ => False) (hCX : ∀ e s', CX [] H s₁ (fun _ _ _ => False) e s' → False)
    (hT : Tab0 cs H) (hO : ∀ b, H b = none ∨ b ∈ cs.map (·.2) ∨ ∃ o xs, H b = some (.frz o (.lst xs))) (hok : HOk P w H s₁.heap) (hA : ∀ b, H b ≠ none → b = a ∨ b ∈ cs.map (·.2)) (hK : ∀ b, H b ≠ none → K.lookup b = none) :
    codeAny (model P w) callerA (.call (.ref fa) ⟨[.ref a], []⟩) (fun r s' => r = .ok (.ret (.bool true)) ∧ OldK s₁.heap s'.heap ∧ s'.os = s₁.os ∧ AllBare s'.gens) s₁ := by
  have isT : ∀ b : Addr, b ∈ cs.map (·.2) → s₁.heap.get? b = some { cls := .none, data := .fields #[] } := fun b hb => by
    obtain ⟨p, hp, e⟩ := List.mem_map.mp hb
    rw [← e]
    exact tab p hp
  have un : ∀ {b : Addr} {o : Obj}, s₁.heap.get? b = some o → (∀ zs n, o.data ≠ .seq zs n) → o.data ≠ .fields #[] → H b = none := fun {b o} e h1 h2 => by
    cases q : H b with
    | none => rfl
    | some u =>
      rcases hA b (by rw [q]; exact fun z => nomatch z) with z | z
      · rw [z, ha] at e
        exact (h1 _ _ (congrArg Obj.data (Option.some.inj e)).symm).elim
      · rw [isT b z] at e
        exact (h2 (congrArg Obj.data (Option.some.inj e)).symm).elim
  have nsK : ∀ {b : Addr} {m : Str → Option Value}, s₁.heap.Ns b m → (hidT s₁.heap H).Ns b m := fun {b m} ⟨o, es, ep, e, d, r⟩ =>
    ⟨o, es, ep, hidT_get e (un e (fun zs n z => by rw [d] at z; cases z) (fun z => by rw [d] at z; cases z)), d, r⟩
  have kb : K.In (hidT s₁.heap H) := fun b o e => hidT_get (KX b o e) (by
    cases q : H b with
    | none => rfl
    | some u =>
      rw [hK b (by rw [q]; exact fun z => nomatch z)] at e
      cases e)
  obtain ⟨mc, l1, l2⟩ := hlim
  have tb : ∀ p ∈ cs, LamX.TabB (hidT s₁.heap H) mg p.1 p.2 := fun p hp => by
    refine ⟨?_, ?_, fun z => ?_⟩
    · obtain ⟨o, us, file, tf, flags, tg, inF, text, tt, e1, r1, r2, r3, r4⟩ := cod p hp
      refine ⟨o, us, file, tf, flags, tg, inF, text, tt, hidT_get e1 (un e1 (fun zs n z => by rw [r2] at z; cases z) fun z => ?_), r1, r2, r3, r4⟩
      rw [r2] at z
      cases z
      simp at r3
    · obtain ⟨bm, ob, b1, b2, b3, b4, b5, b6⟩ := hbm
      refine ⟨bm, ob, b1, b2, fun q => ?_, fun q => ?_, hidT_get b3 (un b3 (fun zs n z => by rw [b6] at z; cases z) fun z => by rw [b6] at z; cases z), b4, b5, b6⟩
      · obtain ⟨o, es, ep, e, hd, _⟩ := hns
        rw [q, e] at b3
        cases b3
        rw [hd] at b6
        cases b6
      · rw [q, tab p hp] at b3
        cases b3
        cases b6
    · obtain ⟨o, es, ep, e, hd, _⟩ := hns
      rw [z, tab p hp] at e
      cases e
      cases hd
  have e0 : Env0 P w K mg (hidT s₁.heap H) callerA [] s₁ H :=
    ⟨rfl, ⟨kb, nsK hns, ⟨mb, nsK hb, hbb⟩, ⟨mc, nsK l1, l2⟩⟩, fun b o e => of_hidT e, Nat.le_of_eq (hidT_size _ _), trivial, fun b hb => absurd (show b ∈ ([] : List Addr) from hb) List.not_mem_nil, hok, .of_eq hg⟩
  refine codeAny_mono ((F _ kb (nsK hns) tb).run callerA [] s₁ H ⟨[.ref a], []⟩ [.ref a] [.ref a] _ _ hr e0 (hbind s₁ (.ref a)) (.cons rfl .nil) hsp) fun r s' h => ?_
  match r, h with
  | .error e, h => exact (hCX e s' h).elim
  | .ok (.ret u), h =>
    obtain ⟨v, H', os, bare, un', hok', r', q⟩ := h
    obtain rfl : v = .bl true := q
    obtain rfl : u = Value.bool true := r'
    have key : ∀ b o, b ∉ cs.map (·.2) → s₁.heap.get? b = some o → s'.heap.get? b = some o := fun b o nb e => by
      rcases hO b with z | z | ⟨ob, xs, z⟩
      · exact un'.keep b o e z (fun z => absurd (show b ∈ ([] : List Addr) from z) List.not_mem_nil) (fun z => absurd (show b ∈ ([] : List Addr) from z) List.not_mem_nil)
      · exact absurd z nb
      · obtain ⟨e1, _⟩ := hok b _ z
        obtain ⟨e2, _⟩ := hok' b _ (un'.frzs b ob _ z)
        rw [e] at e1
        rw [Option.some.inj e1]
        exact e2
    have more : ∀ p ∈ cs, ∃ m : Array Value, s'.heap.get? p.2 = some { cls := .none, data := .fields m } := fun p hp => by
      obtain ⟨m, z⟩ := un'.tbls p.2 #[] (hT.at_ p hp)
      exact ⟨_, hok' p.2 _ z⟩
    refine ⟨rfl, ⟨fun b o e => ?_, fun b o e => ?_⟩, os, bare⟩
    · by_cases hb : b ∈ cs.map (·.2)
      · obtain ⟨p, hp, ep⟩ := List.mem_map.mp hb
        obtain ⟨m, hm⟩ := more p hp
        rw [← ep] at e ⊢
        rw [tab p hp] at e
        cases e
        exact .inr (.inl ⟨((cod p hp).tab (tab p hp)).isCodeTable, rfl, #[], m, rfl, by rw [Array.empty_append]; exact hm⟩)
      · exact .inl (key b o hb e)
    · by_cases hb : b ∈ cs.map (·.2)
      · obtain ⟨p, hp, ep⟩ := List.mem_map.mp hb
        obtain ⟨m, hm⟩ := more p hp
        rw [← ep]
        exact ⟨_, hm⟩
      · exact ⟨o, key b o hb e⟩
theorem law_callTG {P : Program} {w : World} {K : PySem.W.Frag} {mg mb : Str → Option Value} {CX : CXT} {k : Nat} {fa a : Addr} {cs : List (Addr × Addr)} {fd : FuncData} {x : Str} {sp : Sp} {s₁ : Shared} {vs : List Value} {ns : List Int}
    (KX : K.In s₁.heap) (hns : s₁.heap.Ns mainGlobals mg) (hb : s₁.heap.Ns builtinsNs mb) (hbb : ∀ x : Str, x ≠ "__name__" → mb x = bootBuiltins x) (hlim : s₁.heap.NoLimit) (hg : s₁.gens = #[])
    (tab : ∀ p ∈ cs, s₁.heap.get? p.2 = some { cls := .none, data := .fields #[] }) (nT : ∀ p ∈ cs, K.lookup p.2 = none) (cod : ∀ p ∈ cs, PySem.W.CodeHd s₁.heap p.1 p.2)
    (hbm : ∃ (bm : Addr) (ob : Obj), mg "__builtins__" = some (.ref bm) ∧ bm ≠ builtinsNs ∧ s₁.heap.get? bm = some ob ∧ ob.cls = .type "module" ∧ ob.dict = some builtinsNs ∧ ob.data = .plain)
    (ha : s₁.heap.get? a = some { cls := .type "list", data := .seq vs.toArray }) (hi : IntsAre vs ns) (hl : ns.length ≤ sizeLine) (hr : RoomG k callerA)
    (F : ∀ base : Heap, K.In base → base.Ns mainGlobals mg → (∀ p ∈ cs, LamX.TabB base mg p.1 p.2) → FnG P w K mg base CX k fa fd [x] sp) (hbind : ∀ (s : Shared) (u : Value), BindsTo s fd ⟨[u], []⟩ [(x, u)])
    (hsp : ∀ H : Hp, Tab0 cs H → SqL K H a (ns.map V.int) → sp [.ref a] H (fun v _ => v = .bl true) fun _ _ _ => False) (hCX : ∀ H e s', CX [] H s₁ (fun _ _ _ => False) e s' → False) :
    codeAny (model P w) callerA (.call (.ref fa) ⟨[.ref a], []⟩) (fun r s' => r = .ok (.ret (.bool true)) ∧ OldK s₁.heap s'.heap ∧ s'.os = s₁.os ∧ AllBare s'.gens) s₁ := by
  have rv := vals_ints hi
  have lenV := hi.length
  have isT : ∀ b : Addr, b ∈ cs.map (·.2) → s₁.heap.get? b = some { cls := .none, data := .fields #[] } ∧ K.lookup b = none := fun b hb => by
    obtain ⟨p, hp, e⟩ := List.mem_map.mp hb
    rw [← e]
    exact ⟨tab p hp, nT p hp⟩
  have aT : a ∉ cs.map (·.2) := fun z => by
    have q := (isT a z).1
    rw [ha] at q
    cases congrArg Obj.data (Option.some.inj q)
  have memT : ∀ p ∈ cs, p.2 ∈ cs.map (·.2) := fun p hp => List.mem_map.mpr ⟨p, hp, rfl⟩
  let H0 : Option HO → Hp := fun z b => if b = a then z else if b ∈ cs.map (·.2) then some (.tbl #[]) else none
  have h_a : ∀ z, H0 z a = z := fun z => if_pos rfl
  have h_t : ∀ z b, b ∈ cs.map (·.2) → H0 z b = some (.tbl #[]) := fun z b hb => (if_neg fun e => aT (by rw [← e]; exact hb)).trans (if_pos hb)
  have h_n : ∀ z b, b ≠ a → b ∉ cs.map (·.2) → H0 z b = none := fun z b n hb => (if_neg n).trans (if_neg hb)
  have t0 : ∀ z, Tab0 cs (H0 z) := fun z => ⟨fun p hp => h_t z _ (memT p hp)⟩
  have two : ∀ z b, H0 z b ≠ none → b = a ∨ b ∈ cs.map (·.2) := fun z b h => by
    by_cases h1 : b = a
    · exact .inl h1
    · by_cases h2 : b ∈ cs.map (·.2)
      · exact .inr h2
      · exact (h (h_n z b h1 h2)).elim
  have tok : ∀ z b u, b ∈ cs.map (·.2) → H0 z b = some u → ObjOk P w (H0 z) s₁.heap b u := fun z b u hb e => by
    rw [h_t z b hb] at e
    cases e
    exact (isT b hb).1
  cases hk : K.lookup a with
  | some o =>
    have e := (KX a o hk).symm.trans ha
    obtain rfl := Option.some.inj e
    refine law_goT (H := H0 none) KX hns hb hbb hlim hg tab cod hbm ha hr F hbind (hsp _ (t0 _) (.inr ⟨_, vs.toArray, _, hk, rfl, rfl, rfl, by rw [List.size_toArray, lenV]; exact hl, by simpa using rv⟩)) (hCX _) (t0 _) (fun b => ?_) (fun b u z => ?_) (two _) (fun b z => ?_)
    · by_cases h2 : b ∈ cs.map (·.2)
      · exact .inr (.inl h2)
      · by_cases h1 : b = a
        · exact .inl (by rw [h1]; exact h_a none)
        · exact .inl (h_n _ b h1 h2)
    · rcases two _ b (by rw [z]; exact fun y => nomatch y) with h1 | h2
      · rw [h1, h_a] at z
        cases z
      · exact tok _ b u h2 z
    · rcases two _ b z with h1 | h2
      · rw [h1, h_a] at z
        exact (z rfl).elim
      · exact (isT b h2).2
  | none =>
    refine law_goT (H := H0 (some (.frz { cls := .type "list", data := .seq vs.toArray } (.lst (ns.map V.int))))) KX hns hb hbb hlim hg tab cod hbm ha hr F hbind (hsp _ (t0 _) (.inl (.inr ⟨_, h_a _⟩))) (hCX _) (t0 _) (fun b => ?_) (fun b u z => ?_) (two _) (fun b z => ?_)
    · by_cases h2 : b ∈ cs.map (·.2)
      · exact .inr (.inl h2)
      · by_cases h1 : b = a
        · exact .inr (.inr ⟨_, _, by rw [h1]; exact h_a _⟩)
        · exact .inl (h_n _ b h1 h2)
    · rcases two _ b (by rw [z]; exact fun y => nomatch y) with h1 | h2
      · rw [h1, h_a] at z
        obtain rfl := Option.some.inj z
        rw [h1]
        exact ⟨ha, by rw [List.length_map]; exact hl, vs, _, rv, ha⟩
      · exact tok _ b u h2 z
    · rcases two _ b z with h1 | h2
      · rw [h1]
        exact hk
      · exact (isT b h2).2
/-- the end of a law with tables, over a head by facts -/
theorem walkGT {l : PySem.W.OpenLaw} {n k : Nat} {q : Program} {loose : List Str} {XP : (Str → Option Value) → Heap → Prop} {YP : World → Heap → Prop} {d : DefRec} {CX : CXT} {x : Str}
    (hn : l.most = some n) (hn2 : n ≤ sizeLine) (hdf : d.params.defaults = []) (hr : RoomG k callerA)
    (F : ∀ (w : World) (mg : Str → Option Value) (fa : Addr) (h : Heap), YP w h → h.Ns mainGlobals mg → mg d.name = some (.ref fa) →
      ∃ (K : PySem.W.Frag) (fd : FuncData) (sp : Sp) (cs : List (Addr × Addr)), K.In h ∧ (∀ p ∈ cs, h.get? p.2 = some { cls := .none, data := .fields #[] }) ∧ (∀ p ∈ cs, K.lookup p.2 = none) ∧ (∀ p ∈ cs, PySem.W.CodeHd h p.1 p.2) ∧ (∀ (s : Shared) (u : Value), BindsTo s fd ⟨[u], []⟩ [(x, u)]) ∧
        (∀ (H : Hp) (a : Addr) (ns : List Int), ns.length ≤ n → Tab0 cs H → SqL K H a (ns.map V.int) → sp [.ref a] H (fun v _ => v = .bl true) fun _ _ _ => False) ∧
        ∀ base : Heap, K.In base → base.Ns mainGlobals mg → (∀ p ∈ cs, LamX.TabB base mg p.1 p.2) → FnG l.prog w K mg base CX k fa fd [x] sp)
    (hCX : ∀ (H : Hp) (s : Shared) (e : Value) (s' : Shared), CX [] H s (fun _ _ _ => False) e s' → False) :
    PySem.W.WalkO q loose XP YP l.row.toRowW d [] (fun f vs => PySem.call f vs) := by
  refine Att.attach_call hn hdf fun w s₀ s₁ mg mb fa o pm cd doc a vs ns G Y ho hd hcd hmg hobj hints hlen hg => ?_
  obtain ⟨K, fd, sp, cs, KX, h1, h2, h3, hb, hsp, hF⟩ := F w mg fa _ Y G.T.g hmg
  exact law_callTG KX G.T.g G.T.b G.T.builtins G.T.nolimit hg h1 h2 h3 G.T.bmain hobj hints (Nat.le_trans hlen hn2) hr hF hb (fun H hT hS => hsp H a ns hlen hT hS) fun H e s' => hCX H s₁ e s'
end Gu

set_option Elab.async false
set_option linter.all false
set_option maxRecDepth 100000
set_option maxHeartbeats 4000000
/-! Own layer: defs and methods that may raise, by their names: called where nothing is let out, in a def that lets errors out, in a try's body; by position and by keywords. -/
namespace Ex
open PySem PySem.Spec PySem.Calls PyProof.Rows L2 Gu
theorem passN {X : Cx} : Passes (L2.CX X.prog X.w) X E0 := fun _ _ _ _ _ _ _ ⟨_, _, _, _, _, _, _, _, _, _, _, _, z⟩ => z.elim
theorem passX {X : Cx} {E : XK} (tk : Takes X (fun cls d _ H => E cls d H)) : Passes (L2.CX X.prog X.w) X E := passes_call tk fun _ _ _ _ h => h
structure DfX (P : Program) (w : World) (K : PySem.W.Frag) (mg : Str → Option Value) (base : Heap) (k : Nat) (x : Str) (ps : List Str) (sp : Sp) : Prop where
  ex : ∃ fd, FnOk P w K mg base (L2.CX P w) k (He.ga K x) fd ps sp ∧ Binds K fd ps []
  gl : mg x = some (.ref (He.ga K x))
  kp : PySem.W.keepIn K (.ref (He.ga K x)) = true
structure MfX (P : Program) (w : World) (K : PySem.W.Frag) (mg : Str → Option Value) (base : Heap) (k : Nat) (c m : Str) (ps : List Str) (sp : Sp) : Prop where
  ex : ∃ fd, FnOk P w K mg base (L2.CX P w) k (He.ma K (He.ga K c) m) fd ps sp ∧ Binds K fd ps []
  cl : Cls K (He.ga K c)
  me : Meth K (He.ga K c) m (He.ma K (He.ga K c) m)
/-- .. called by the keywords ks alone behind self; j: the places of the other parameters among the keywords -/
structure MfXK (P : Program) (w : World) (K : PySem.W.Frag) (mg : Str → Option Value) (base : Heap) (k : Nat) (c m : Str) (ps ks : List Str) (j : List Nat) (sp : Sp) : Prop where
  ex : ∃ fd, FnOk P w K mg base (L2.CX P w) k (He.ma K (He.ga K c) m) fd ps sp ∧ ∀ (s : Shared) (u : Value) (ws : List Value), ws.length = ks.length → BindsTo s fd ⟨[u], ks.zip ws⟩ (ps.zip (u :: j.filterMap fun i => ws[i]?))
  cl : Cls K (He.ga K c)
  me : Meth K (He.ga K c) m (He.ma K (He.ga K c) m)
section
variable {X : Cx} {k j : Nat} {x c m : Str} {ps ks : List Str} {ji : List Nat} {sp : Sp} {p pos apos : Pos} {e o : Expr} {es : List Expr} {kws : List Keyword} {t tk : TA} {ta : TE} {E : XK} {W : WX}
theorem pcallX (D : DfX X.prog X.w X.K X.mg X.base k x ps sp) (hr : Room j X.A) (px : Passes (L2.CX X.prog X.w) X E) (ha : PA X (e :: es) t) (hj : k ≤ j := by decide) (hg : Gl X x := by rfl) (hdb : (x == ("__debug__" : Str)) = false := by decide)
    (he : starEach (e :: es) X.env = (false, eval e X.env) :: starEach es X.env := by rfl) (hpl : (backTo pos (starEach es X.env)).any (·.1) = false := by rfl) :
    PE X (.Call (.Name x p) (e :: es) [] pos) (tCall sp [] E t) := by
  obtain ⟨fd, F, b⟩ := D.ex
  exact pe_call F (hr.mono hj) hg D.gl D.kp b .nil px ha hdb he hpl
theorem pmethX {pl : Sem Bool} (D : MfX X.prog X.w X.K X.mg X.base k c m ps sp) (hr : Room j X.A) (px : Passes (L2.CX X.prog X.w) X E) (he : PE X o ta) (ha : PA X (e :: es) t) (hj : k ≤ j := by decide)
    (hst : starEach (e :: es) X.env = (false, eval e X.env) :: starEach es X.env := by rfl) (hpl : (backTo pos (starEach es X.env)).any (·.1) = false := by rfl)
    (ht : eval (.Call (.Attribute o m apos) (e :: es) [] pos) X.env = (do
      let ov ← eval o X.env
      standAt apos.atName
      let (f, first) ← holding [ov] (getMethod ov m pl)
      callWith pos f first (backTo pos (starEach (e :: es) X.env)) (backToKw pos (keywordEach [] X.env))) := by rfl) :
    PE X (.Call (.Attribute o m apos) (e :: es) [] pos) (tMeth (He.ga X.K c) m sp [] E ta t) := by
  obtain ⟨fd, F, b⟩ := D.ex
  exact pe_meth he D.cl D.me F (hr.mono hj) b .nil px ha hst hpl ht
/-- within a comprehension's block the reading names K by hand -/
theorem pmethXB {pl : Sem Bool} (K : PySem.W.Frag) (D : MfX X.prog X.w X.K X.mg X.base k c m ps sp) (hr : Room j X.A) (px : Passes (L2.CX X.prog X.w) X E) (he : PE X o ta) (ha : PA X (e :: es) t) (hj : k ≤ j := by decide) (hK : X.K = K := by rfl)
    (hst : starEach (e :: es) X.env = (false, eval e X.env) :: starEach es X.env := by rfl) (hpl : (backTo pos (starEach es X.env)).any (·.1) = false := by rfl)
    (ht : eval (.Call (.Attribute o m apos) (e :: es) [] pos) X.env = (do
      let ov ← eval o X.env
      standAt apos.atName
      let (f, first) ← holding [ov] (getMethod ov m pl)
      callWith pos f first (backTo pos (starEach (e :: es) X.env)) (backToKw pos (keywordEach [] X.env))) := by rfl) :
    PE X (.Call (.Attribute o m apos) (e :: es) [] pos) (tMeth (He.ga K c) m sp [] E ta t) := by
  subst hK
  exact pmethX D hr px he ha hj hst hpl ht
def tMethKw (C : Addr) (m : Str) (sp : Sp) (n : Nat) (j : List Nat) (E : XK) (ta : TE) (tk : TA) : TE := fun σ H Q => ta σ H fun x H1 => ∃ a dx fs, x = .ref a ∧ H1 a = some (.ins C dx fs) ∧ fs.lookup m = none ∧
  tk σ H1 fun zs H2 => zs.length = n ∧ sp (x :: j.filterMap fun i => zs[i]?) H2 Q E
theorem pmethXK {pl : Sem Bool} (D : MfXK X.prog X.w X.K X.mg X.base k c m ps ks ji sp) (hr : Room j X.A) (px : Passes (L2.CX X.prog X.w) X E) (he : PE X o ta) (hkw : PK X kws tk) (hj : k ≤ j := by decide)
    (hall : (backToKw pos (keywordEach kws X.env)).all (·.1.isSome) = true := by rfl) (hks : (backToKw pos (keywordEach kws X.env)).filterMap (·.1) = ks := by rfl)
    (hpl : ((backTo pos (starEach [] X.env)).any (·.1) || (backToKw pos (keywordEach kws X.env)).any (·.1.isNone)) = false := by rfl)
    (ht : eval (.Call (.Attribute o m apos) [] kws pos) X.env = (do
      let ov ← eval o X.env
      standAt apos.atName
      let (f, first) ← holding [ov] (getMethod ov m pl)
      callWith pos f first (backTo pos (starEach [] X.env)) (backToKw pos (keywordEach kws X.env))) := by rfl) :
    PE X (.Call (.Attribute o m apos) [] kws pos) (tMethKw (He.ga X.K c) m sp ks.length ji E ta tk) := by
  obtain ⟨fd, F, b⟩ := D.ex
  refine ⟨fun pins s σ H Q I h => PySem.W.methodCall_KW (pl := pl) (thn (he.run pins s σ H _ I h) fun u s1 ⟨x, H1, I1, rx, a, dx, fs, ex, ea, l, q⟩ => ?_) ht⟩
  subst ex
  obtain rfl : u = Value.ref a := rx
  refine getmeth_ok I1 ea D.cl D.me l (PySem.W.callWith_KW0 (first := [.ref a]) (h₀ := X.base) I.ok.mod.kin D.me.kp hall (thn (hkw.run pos pins s1 σ H1 _ I1 q) fun ws s2 ⟨zs, H2, I2, rz, hz, q2⟩ => ⟨I2.kIn, ?_⟩) hpl)
  rw [hks]
  have rv : Vals (V.ref a :: ji.filterMap fun i => zs[i]?) (Value.ref a :: ji.filterMap fun i => ws[i]?) := .cons rfl (vals_pick rz ji)
  refine wpAny_call (codeAny_mono (F.run X.A X.stack s2 H2 ⟨[Value.ref a] ++ [], ks.zip ws⟩ _ _ Q E (hr.mono hj) I2.env0 (b s2 (.ref a) ws (rz.length.symm.trans hz)) rv q2) fun r s' hq => ?_)
  match r, hq with
  | .error e, hq => exact px pins σ H2 s2 e s' I2 hq
  | .ok (.ret u), hq => exact I2.after hq
end
section
variable {X : Cx} {k j : Nat} {c m : Str} {ps : List Str} {sp : Sp} {pos apos : Pos} {e o : Expr} {es : List Expr} {t : TA} {ta : TE} {W : WX}
/-- o.m(e, ..) in a try's body -/
def tMethT (C : Addr) (m : Str) (sp : Sp) (E : L2.St → XK) (ta : TE) (t : TA) : TE := fun σ H Q => ta σ H fun x H1 => ∃ a dx fs, x = .ref a ∧ H1 a = some (.ins C dx fs) ∧ fs.lookup m = none ∧ t σ H1 fun vs H2 => sp (x :: vs) H2 Q (E σ)
theorem pmethT {pl : Sem Bool} (D : MfX X.prog X.w X.K X.mg X.base k c m ps sp) (hr : Room j X.A) (tk : Takes X W) (he : PE X o ta) (ha : PA X (e :: es) t) (hj : k ≤ j := by decide)
    (hst : starEach (e :: es) X.env = (false, eval e X.env) :: starEach es X.env := by rfl) (hpl : (backTo pos (starEach es X.env)).any (·.1) = false := by rfl)
    (ht : eval (.Call (.Attribute o m apos) (e :: es) [] pos) X.env = (do
      let ov ← eval o X.env
      standAt apos.atName
      let (f, first) ← holding [ov] (getMethod ov m pl)
      callWith pos f first (backTo pos (starEach (e :: es) X.env)) (backToKw pos (keywordEach [] X.env))) := by rfl) :
    PE X (.Call (.Attribute o m apos) (e :: es) [] pos) (tMethT (He.ga X.K c) m sp (WE W) ta t) := by
  obtain ⟨fd, F, b⟩ := D.ex
  refine ⟨fun pins s σ H Q I h => PySem.W.methodCall_KW (pl := pl) (thn (he.run pins s σ H _ I h) fun u s1 ⟨x, H1, I1, rx, a, dx, fs, ex, ea, l, q⟩ => ?_) ht⟩
  subst ex
  obtain rfl : u = Value.ref a := rx
  refine getmeth_ok I1 ea D.cl D.me l (PySem.W.callWith_K (first := [.ref a]) (h₀ := X.base) I.ok.mod.kin D.me.kp (thn (ha.run pos pins s1 σ H1 _ I1 q) fun us s2 ⟨vs, H2, I2, r, q2⟩ => ⟨I2.kIn, ?_⟩) hst hpl)
  exact run_fnS (E := WE W) (us := .ref a :: us) (vs := .ref a :: vs) F (hr.mono hj) b (passAt tk σ) I2 (.cons rfl r) q2
end
/-! ### facts of an error's class over any base -/
def oexGB (B : String) (K : PySem.W.Frag) (C : Addr) : Bool := match K.lookup C with
  | some ⟨.type "type", _, .cls cd, sl⟩ => (match cd.mro, sl.toList with
    | .ref c :: bm, [_, _, _, _, some (.builtin n), _] => (c == C && n == B ++ ".__new__") && ((!cd.hasDel && cd.hasDict) && refsB (tailE B) bm)
    | _, _ => false)
  | _ => false
theorem oexGB_ok {B : String} {K : PySem.W.Frag} {C : Addr} (h : oexGB B K C = true) :
    ∃ nm q N bs bm sn sub ab col dd k0 k1 k2 k3 k5, K.lookup C = some (excClassObj nm q C N bs bm true sn sub ab col dd k0 k1 k2 k3 k5 (B ++ ".__new__")) ∧ refsB (tailE B) bm = true := by
  unfold oexGB at h
  split at h
  · rename_i dd cd sl ho
    split at h
    · rename_i c bm k0 k1 k2 k3 n k5 hm hs
      obtain ⟨⟨h1, h2⟩, h3⟩ := (He.ba h).imp_left He.ba
      obtain ⟨h4, h5⟩ := He.ba h3
      obtain ⟨h6, h7⟩ := He.ba h4
      have e1 : c = C := beq_iff_eq.mp h1
      have e2 : n = B ++ ".__new__" := beq_iff_eq.mp h2
      have e3 : cd.hasDel = false := by simpa using h6
      subst e1 e2
      obtain ⟨nm, bs, mro, ns, qn, hd, sn, sub, ab, col, del⟩ := cd
      dsimp only at hm e3 h7
      subst hm e3 h7
      have e4 : sl = #[k0, k1, k2, k3, some (.builtin (B ++ ".__new__")), k5] := by
        obtain ⟨l⟩ := sl
        simp only at hs
        rw [hs]
      subst e4
      exact ⟨nm, qn, ns, bs, bm, sn, sub, ab, col, dd, k0, k1, k2, k3, k5, ho, h5⟩
    · cases h
  · cases h
def bOf (a : Option Bool) (b : Bool) : Bool := decide (a = some b)
theorem bOf_ok {a : Option Bool} {b : Bool} (h : bOf a b = true) : a = some b := of_decide_eq_true h
/-- what the rules ask of an error's class at C, over B, with the field n -/
def errG (B : String) (K : PySem.W.Frag) (C : Addr) (n : Str) : Bool := oexGB B K C && (He.eqO (PySem.W.findIn K (.ref C) "__setattr__") (some (some (.builtin "object.__setattr__"))) && (bOf (PySem.W.subIn K (.ref C) (.type "BaseException")) true &&
  (decide (PySem.W.typeIn K (.ref C) = some (.type "type")) && (PySem.W.keepIn K (.ref C) && (xfB K C && (He.eqO (PySem.W.findIn K (.ref C) "__class__") (some (some (.builtin "object.__class__"))) &&
  (He.eqO (PySem.W.specialIn K (.builtin "object.__class__") "__get__") (some (some (.builtin "getset_descriptor.__get__"))) && (bOf (PySem.W.takesIn K (.builtin "object.__class__")) true && (bOf (PySem.W.mroIn K C (.type "object")) true &&
  (He.eqO (PySem.W.findIn K (.ref C) n) (some none) && (He.eqO (PySem.W.findIn K (.ref C) "__init__") (some (some (.ref (He.ma K C "__init__")))) && (decide (PySem.W.typeIn K (.ref (He.ma K C "__init__")) = some (.type "function")) && bOf (PySem.W.exmOne K (.ref C) (.ref C)) true))))))))))))
structure ErrG (B : String) (K : PySem.W.Frag) (C : Addr) (n : Str) : Prop where
  ox : OexG B (tailE B) K C
  xf : XfC K C
  ec : ExcC K C
  no : PySem.W.findIn K (.ref C) n = some none
  ii : PySem.W.findIn K (.ref C) "__init__" = some (some (.ref (He.ma K C "__init__")))
  ti : PySem.W.typeIn K (.ref (He.ma K C "__init__")) = some (.type "function")
  em : PySem.W.exmOne K (.ref C) (.ref C) = some true
theorem errG_ok {B : String} {K : PySem.W.Frag} {C : Addr} {n : Str} (b : BaseE B (tailE B)) (h : errG B K C n = true) : ErrG B K C n := by
  obtain ⟨a1, h⟩ := He.ba h
  obtain ⟨a2, h⟩ := He.ba h
  obtain ⟨a3, h⟩ := He.ba h
  obtain ⟨a4, h⟩ := He.ba h
  obtain ⟨a5, h⟩ := He.ba h
  obtain ⟨a6, h⟩ := He.ba h
  obtain ⟨a7, h⟩ := He.ba h
  obtain ⟨a8, h⟩ := He.ba h
  obtain ⟨a9, h⟩ := He.ba h
  obtain ⟨a10, h⟩ := He.ba h
  obtain ⟨a11, h⟩ := He.ba h
  obtain ⟨a12, h⟩ := He.ba h
  obtain ⟨a13, a14⟩ := He.ba h
  have x := xfB_ok a6
  exact ⟨⟨b, oexGB_ok a1, He.eqO_ok a2, bOf_ok a3, of_decide_eq_true a4, a5⟩, x, ⟨x.ga, x.gg, x.exC, x.hdC, He.eqO_ok a7, He.eqO_ok a8, bOf_ok a9, bOf_ok a10⟩, He.eqO_ok a11, He.eqO_ok a12, of_decide_eq_true a13, bOf_ok a14⟩
/-- an error's __init__ with one field -/
def spErr (C : Addr) (n : Str) : Sp := fun vs H Q _ => ∃ (a : Addr) (v : V), vs = [.ref a, v] ∧ H a = some (exo a C none) ∧ ∀ dx, H dx = none → dx ≠ a → Q .non (upd (upd H dx (exd dx [(n, v)])) a (exo a C (some dx)))
/-- the error's maker, for a raise -/
structure Ei (P : Program) (w : World) (K : PySem.W.Frag) (mg : Str → Option Value) (base : Heap) (c n : Str) : Prop where
  ex : ∃ fd, FnOk P w K mg base CX0 1 (He.ma K (He.ga K c) "__init__") fd ["self", n] (spErr (He.ga K c) n) ∧ Binds K fd ["self", n] []
theorem heap_err {H : Hp} {a dx : Addr} {fs : List (Str × V)} {o1 o2 o3 : HO} (ha : H a = none) (hd : H dx = none) : Same H (upd (del (upd (upd (upd H a o1) dx o2) a o3) a) dx (.xd fs)) := fun b o e => by
  have nb : b ≠ a := ne_of_none e ha
  have nd : b ≠ dx := ne_of_none e hd
  rw [upd_ne nd, del_ne nb, upd_ne nb, upd_ne nd, upd_ne nb]
  exact e
/-- what is asked at a raise of C(v): that the def's own wish of errors holds of it -/
theorem raise_ok {K : PySem.W.Frag} {c n : Str} {v : V} {H : Hp} {E : XK} (q : ∀ d H', H d = none → Same H H' → H' d = some (.xd [(n, v)]) → E (.ref (He.ga K c)) (some d) H') :
    ∀ a, H a = none → spErr (He.ga K c) n (.ref a :: ([v] ++ [])) (upd H a (exo a (He.ga K c) none))
      (fun u H2 => u = .non ∧ ∃ (d : Addr) (fs : List (Str × V)), H2 a = some (exo a (He.ga K c) (some d)) ∧ H2 d = some (exd d fs) ∧ H d = none ∧ E (.ref (He.ga K c)) (some d) (upd (del H2 a) d (.xd fs))) (fun _ _ _ => False) := fun a ha => by
  refine ⟨a, v, rfl, upd_same, fun dx hdx ne => ⟨rfl, dx, [(n, v)], upd_same, ?_, ?_, ?_⟩⟩
  · rw [upd_ne ne, upd_same]
  · rw [upd_ne ne] at hdx
    exact hdx
  · rw [upd_ne ne] at hdx
    exact q dx _ hdx (heap_err ha hdx) upd_same
end Ex

set_option Elab.async false
set_option linter.all false
set_option maxRecDepth 100000
set_option maxHeartbeats 4000000
/-! Own layer: fields and methods within a comprehension's block; methods called with keywords; a dict's comprehension over a list. -/
namespace Ex
open PySem PySem.Spec PySem.Calls PyProof.Rows L2 Gu
section
variable {X : Cx} {k j : Nat} {c m : Str} {ps ks : List Str} {sp : Sp} {p pos apos : Pos} {e o : Expr} {es : List Expr} {kws : List Keyword} {t tk : TA} {ta : TE} {f : Str}
theorem pfldB (K : PySem.W.Frag) (he : PE X o ta) (hK : X.K = K := by rfl) (hb : attributeBase o f X.env (eval o X.env) = eval o X.env := by rfl) : PE X (.Attribute o f pos) (tFld K ta f) := by
  subst hK
  exact pe_fld he hb
theorem pmethB {pl : Sem Bool} (K : PySem.W.Frag) (D : Mf X.prog X.w X.K X.mg X.base k c m ps sp) (hr : Room j X.A) (he : PE X o ta) (ha : PA X (e :: es) t) (hj : k ≤ j := by decide) (hK : X.K = K := by rfl)
    (hst : starEach (e :: es) X.env = (false, eval e X.env) :: starEach es X.env := by rfl) (hpl : (backTo pos (starEach es X.env)).any (·.1) = false := by rfl)
    (ht : eval (.Call (.Attribute o m apos) (e :: es) [] pos) X.env = (do
      let ov ← eval o X.env
      standAt apos.atName
      let (f, first) ← holding [ov] (getMethod ov m pl)
      callWith pos f first (backTo pos (starEach (e :: es) X.env)) (backToKw pos (keywordEach [] X.env))) := by rfl) :
    PE X (.Call (.Attribute o m apos) (e :: es) [] pos) (tMeth (He.ga K c) m sp [] E0 ta t) := by
  subst hK
  exact pmeth D hr he ha hj hst hpl ht
/-- a method that is called with n values by position (self among them) and the keywords ks behind them -/
structure MfK (P : Program) (w : World) (K : PySem.W.Frag) (mg : Str → Option Value) (base : Heap) (k : Nat) (c m : Str) (ps : List Str) (n : Nat) (ks : List Str) (sp : Sp) : Prop where
  ex : ∃ fd, FnOk P w K mg base CX0 k (He.ma K (He.ga K c) m) fd ps sp ∧ ∀ (s : Shared) (us ws : List Value), us.length = n → ws.length = ks.length → K.In s.heap → BindsTo s fd ⟨us, ks.zip ws⟩ (ps.zip (us ++ ws))
  cl : Cls K (He.ga K c)
  me : Meth K (He.ga K c) m (He.ma K (He.ga K c) m)
def tMethK (C : Addr) (m : Str) (sp : Sp) (n q : Nat) (ta : TE) (t tk : TA) : TE := fun σ H Q => ta σ H fun x H1 => ∃ a dx fs, x = .ref a ∧ H1 a = some (.ins C dx fs) ∧ fs.lookup m = none ∧
  t σ H1 fun vs H2 => tk σ H2 fun zs H3 => vs.length + 1 = n ∧ zs.length = q ∧ sp (x :: vs ++ zs) H3 Q E0
theorem pmethK {pl : Sem Bool} {n : Nat} (D : MfK X.prog X.w X.K X.mg X.base k c m ps n ks sp) (hr : Room j X.A) (he : PE X o ta) (ha : PA X (e :: es) t) (hkw : PK X kws tk) (hj : k ≤ j := by decide)
    (hst : starEach (e :: es) X.env = (false, eval e X.env) :: starEach es X.env := by rfl)
    (hall : (backToKw pos (keywordEach kws X.env)).all (·.1.isSome) = true := by rfl) (hks : (backToKw pos (keywordEach kws X.env)).filterMap (·.1) = ks := by rfl)
    (hpl : ((backTo pos (starEach (e :: es) X.env)).any (·.1) || (backToKw pos (keywordEach kws X.env)).any (·.1.isNone)) = false := by rfl)
    (ht : eval (.Call (.Attribute o m apos) (e :: es) kws pos) X.env = (do
      let ov ← eval o X.env
      standAt apos.atName
      let (f, first) ← holding [ov] (getMethod ov m pl)
      callWith pos f first (backTo pos (starEach (e :: es) X.env)) (backToKw pos (keywordEach kws X.env))) := by rfl) :
    PE X (.Call (.Attribute o m apos) (e :: es) kws pos) (tMethK (He.ga X.K c) m sp n ks.length ta t tk) := by
  obtain ⟨fd, F, b⟩ := D.ex
  refine ⟨fun pins s σ H Q I h => ?_⟩
  refine PySem.W.methodCall_KW (pl := pl) (thn (he.run pins s σ H _ I h) fun u s1 ⟨x, H1, I1, rx, a, dx, fs, ex, ea, l, q⟩ => ?_) ht
  subst ex
  obtain rfl : u = Value.ref a := rx
  refine getmeth_ok I1 ea D.cl D.me l ?_
  refine PySem.W.callWith_KW (first := [.ref a]) (h₀ := X.base) I.ok.mod.kin D.me.kp hall (thn (ha.run pos pins s1 σ H1 _ I1 q) fun us s2 ⟨vs, H2, I2, r, q2⟩ => thn (hkw.run pos pins s2 σ H2 _ I2 q2) fun ws s3 ⟨zs, H3, I3, rz, hn, hz, q3⟩ => ⟨I3.kIn, ?_⟩) hpl hst
  rw [hks]
  have r2 : Vals (V.ref a :: vs) (Value.ref a :: us) := .cons rfl r
  have r3 : Vals (V.ref a :: vs ++ zs) (Value.ref a :: us ++ ws) := r2.append rz
  have l1 : (Value.ref a :: us).length = n := by
    rw [← r2.length]
    exact hn
  have l2 : ws.length = ks.length := by
    rw [← rz.length]
    exact hz
  refine wpAny_call (codeAny_mono (F.run X.A X.stack s3 H3 ⟨Value.ref a :: us, ks.zip ws⟩ _ _ Q E0 (hr.mono hj) I3.env0 (b s3 (Value.ref a :: us) ws l1 l2 I3.kIn) r3 q3) fun r s' hq => ?_)
  match r, hq with
  | .ok (.ret u), hq => exact I3.after hq
end
/-- a dict's comprehension over a list that stays -/
theorem dc_list {K : PySem.W.Frag} {a : Addr} {xs : List V} {g : TG} {tt : TT} {tk tv : TE} {vs : List Nat} {σ : L2.St} {H1 : Hp} {D : Addr} {Qd : Hp → Prop} (Pv : Nat → Hp → Prop) (h0 : Pv 0 (upd H1 D (.dK []))) (hl : ∀ i H, i ≤ xs.length → Pv i H → SqL K H a xs)
    (hs : ∀ i x H, xs[i]? = some x → Pv i H → g x (wipe σ vs) H fun σ2 H2 => wipe σ2 vs = wipe σ vs ∧ tt σ2 H2 fun b H3 =>
      if b = true then tk σ2 H3 fun y H4 => tv σ2 H4 fun z H5 => ∃ kvs k, y = kV k ∧ H5 D = some (.dK kvs) ∧ kvs.length < sizeLine ∧ Pv (i + 1) (upd H5 D (.dK (putK kvs k z))) else Pv (i + 1) H3) (hd : ∀ H, Pv xs.length H → Qd H) :
    ∃ W : Nat → Nat → Hp → Prop, (∃ m, W 0 m (upd H1 D (.dK []))) ∧ ∀ i m H, W i m H →
      ((Itl K a).stop i H ∧ Qd H) ∨ ((Itl K a).go i H ∧ ∃ Nx : Hp → Prop, (∀ H', Nx H' → ∃ m', m' < m ∧ W (i + 1) m' H') ∧ ∀ x H', (Itl K a).yld i H x H' → g x (wipe σ vs) H' fun σ2 H2 => wipe σ2 vs = wipe σ vs ∧ tt σ2 H2 fun b H3 =>
        if b = true then tk σ2 H3 fun y H4 => tv σ2 H4 fun z H5 => ∃ kvs k, y = kV k ∧ H5 D = some (.dK kvs) ∧ kvs.length < sizeLine ∧ Nx (upd H5 D (.dK (putK kvs k z))) else Nx H3) := by
  refine ⟨fun i m H => m = xs.length - i ∧ i ≤ xs.length ∧ Pv i H, ⟨xs.length, by simp, Nat.zero_le _, h0⟩, ?_⟩
  rintro i m H ⟨rfl, hi, p⟩
  have q := hl i H hi p
  by_cases hlt : i < xs.length
  · refine .inr ⟨⟨xs, xs[i], q, by simp [hlt]⟩, Pv (i + 1), fun H' p' => ⟨xs.length - (i + 1), by omega, rfl, hlt, p'⟩, fun x H' y => ?_⟩
    obtain ⟨e, y⟩ := y
    subst e
    exact hs i x _ (y xs q) p
  · have e : i = xs.length := by omega
    subst e
    exact .inl ⟨⟨xs, q, Nat.le_refl _⟩, hd H p⟩
end Ex

set_option Elab.async false
set_option linter.all false
set_option maxRecDepth 100000
set_option maxHeartbeats 4000000
/-! Own layer: a keyword-only default that is the empty tuple; a call with the keyword given. -/
namespace Ex
open PySem PySem.Spec PyProof.Rows L2 Gu
def tup0 (K : PySem.W.Frag) (z : Addr) : Bool := match K.lookup z with
  | some ⟨.type c, _, .seq its _, _⟩ => decide (c = "tuple") && decide (its.size = 0)
  | _ => false
theorem tup0_ok {K : PySem.W.Frag} {z : Addr} (h : tup0 K z = true) : ∃ (o : Obj) (n : Nat), K.lookup z = some o ∧ o.cls = .type "tuple" ∧ o.data = .seq #[] n := by
  unfold tup0 at h
  split at h
  · rename_i c d its n sl e
    obtain ⟨h1, h2⟩ := He.ba h
    have e1 := of_decide_eq_true h1
    have e2 := of_decide_eq_true h2
    have e3 : its = #[] := Array.eq_empty_of_size_eq_zero e2
    subst e1
    subst e3
    exact ⟨_, n, e, rfl, rfl⟩
  · cases h
def kwV (K : PySem.W.Frag) (k : Str) : Value → Bool
  | .ref D => (match PySem.W.nsIn K D k with
    | some (some (.ref z)) => tup0 K z
    | _ => false)
  | _ => false
def kwB (K : PySem.W.Frag) (f : Addr) (k : Str) : Bool := match K.lookup f with
  | some ⟨_, _, .func fd, _⟩ => kwV K k fd.kwdefaults
  | _ => false
section
variable {K : PySem.W.Frag} {x qual : Str} {params : Arguments} {body : List Stmt} {scope : Scope} {kws : List (Str × V)} {f : Addr} {fd : FuncData} {ps ks : List Str} {k : Str}
theorem kwB_ok (F : FunD K x qual params body scope [] [] f fd) (h : kwB K f k = true) : ∃ (z : Addr) (o : Obj) (n : Nat), FunD K x qual params body scope [] [(k, .ref z)] f fd ∧ K.lookup z = some o ∧ o.cls = .type "tuple" ∧ o.data = .seq #[] n := by
  obtain ⟨⟨oc, od, dV, kV, doc, pm, an, cdv, ct, osl, rfl, lk, hcd, hD, hK⟩, kp⟩ := F
  unfold kwB at h
  rw [lk] at h
  have h1 : kwV K k kV = true := h
  cases kV with
  | ref D =>
    have h2 : (match PySem.W.nsIn K D k with
      | some (some (.ref z)) => tup0 K z
      | _ => false) = true := h1
    split at h2
    · rename_i z e
      obtain ⟨o, n, a, b, c⟩ := tup0_ok h2
      refine ⟨z, o, n, ⟨⟨oc, od, dV, _, doc, pm, an, cdv, ct, osl, rfl, lk, hcd, hD, .inr ⟨D, rfl, fun q hq => ?_⟩⟩, kp⟩, a, b, c⟩
      cases List.mem_singleton.mp hq
      exact ⟨_, e, rfl⟩
    · cases h2
  | _ => cases h1
theorem bindsK {n : Nat} (F : FunD K x qual params body scope [] kws f fd)
    (h : ∀ (kV doc pm : Value) (an : Option Addr) (cdv ct : Value) (us ws : List Value), us.length = n → ws.length = ks.length → bindArgs (PySem.W.fnOf x qual params body scope .none kV doc pm an cdv ct) ⟨us, ks.zip ws⟩ = pure (ps.zip (us ++ ws)))
    (s : Shared) (us ws : List Value) (hu : us.length = n) (hw : ws.length = ks.length) (_ : K.In s.heap) : BindsTo s fd ⟨us, ks.zip ws⟩ (ps.zip (us ++ ws)) := by
  obtain ⟨oc, od, dV, kV, doc, pm, an, cdv, ct, osl, rfl, lk, hcd, hD, hK⟩ := F.ex
  rcases hD with ⟨_, rfl⟩ | ⟨e, _⟩
  · exact .of_eq (h kV doc pm an cdv ct us ws hu hw)
  · exact absurd rfl e
end
end Ex

set_option Elab.async false
set_option linter.all false
set_option maxRecDepth 100000
set_option maxHeartbeats 0
/-! Own layer: the tables of defs that hold lambdas, for an end. -/
namespace Ex
open PySem PySem.Spec PyProof.Rows L2 Gu
/-- keywords alone, behind self; keyword-only defaults may stand -/
theorem bindsKwD {K : PySem.W.Frag} {name qual : Str} {params : Arguments} {body : List Stmt} {scope : Scope} {kws : List (Str × V)} {f : Addr} {ps ks : List Str} {j : List Nat} {fd : FuncData} (F : FunD K name qual params body scope [] kws f fd)
    (hb : ∀ (kV doc pm : Value) (an : Option Addr) (cdv ct u : Value) (ws : List Value), ws.length = ks.length → bindArgs (PySem.W.fnOf name qual params body scope .none kV doc pm an cdv ct) ⟨[u], ks.zip ws⟩ = pure (ps.zip (u :: j.filterMap fun i => ws[i]?))) :
    ∀ (s : Shared) (u : Value) (ws : List Value), ws.length = ks.length → BindsTo s fd ⟨[u], ks.zip ws⟩ (ps.zip (u :: j.filterMap fun i => ws[i]?)) := by
  intro s u ws hl
  obtain ⟨oc, od, dV, kV, doc, pm, an, cdv, ct, osl, rfl, lk, hcd, hD, hK⟩ := F.ex
  rcases hD with ⟨_, rfl⟩ | ⟨e, _⟩
  · exact .of_eq (hb kV doc pm an cdv ct u ws hl)
  · exact absurd rfl e
/-! ### the tables of the defs' code objects -/
def cdA (K : PySem.W.Frag) (x : Str) : Addr := match PySem.W.tabIn K x with
  | some (c, _) => c
  | none => 0
def ptA (K : PySem.W.Frag) (x : Str) : Addr := match PySem.W.tabIn K x with
  | some (_, P) => P
  | none => 0
def tabB (K : PySem.W.Frag) (x : Str) : Bool := match PySem.W.tabIn K x with
  | some (c, P) => PySem.W.codeHdIn K c P && (K.lookup P).isNone
  | none => false
theorem tabB_ok {K : PySem.W.Frag} {x : Str} (h : tabB K x = true) : PySem.W.tabIn K x = some (cdA K x, ptA K x) ∧ PySem.W.codeHdIn K (cdA K x) (ptA K x) = true ∧ K.lookup (ptA K x) = none := by
  unfold tabB at h
  unfold cdA ptA
  split at h
  · rename_i c P e
    obtain ⟨h1, h2⟩ := He.ba h
    rw [e]
    exact ⟨rfl, h1, by simpa using h2⟩
  · cases h
theorem tab_code {K : PySem.W.Frag} {x name qual : Str} {c P : Addr} {params : Arguments} {body : List Stmt} {scope : Scope} {dvs : List V} {kws : List (Str × V)} {fd : FuncData} (h : PySem.W.tabIn K x = some (c, P)) (F : FunD K name qual params body scope dvs kws (He.ga K x) fd) : fd.code = .ref c := by
  obtain ⟨oc, od, dV, kV, doc, pm, an, cdv, ct, osl, rfl, lk, _⟩ := F.ex
  unfold PySem.W.tabIn at h
  split at h
  · rename_i f hf
    have e : He.ga K x = f := by
      unfold He.ga
      rw [hf]
    rw [← e, lk] at h
    dsimp only at h
    split at h
    · rename_i c2 hc
      split at h
      · split at h
        · cases h
          rfl
        · cases h
      · cases h
    · cases h
  · cases h
/-- the addresses of the written part, without the tables of xs -/
def pt0s (g : Addr → Option Obj) (n : Nat) (xs : List Str) : List Addr := xs.map fun x => ptA (He.frG g (cStatics :: sysModules :: He.asD g n)) x
def kkGs (g : Addr → Option Obj) (n : Nat) (xs : List Str) : PySem.W.Frag := He.frG g ((cStatics :: sysModules :: He.asD g n).filter fun a => !(pt0s g n xs).contains a)
/-- the code object of the def at a -/
def gcode (g : Addr → Option Obj) (a : Addr) : Addr := match g a with
  | some ⟨_, _, .func fd, _⟩ => (match fd.code with
    | .ref c => c
    | _ => 0)
  | _ => 0
/-- the code objects of the properties' getters: one step of K less is enough with them -/
def prCs (g : Addr → Option Obj) (n : Nat) (ps : List (Str × Str)) : List Addr := ps.map fun p => gcode g (pgA (He.frG g (cStatics :: sysModules :: He.asD g n)) (He.ga (He.frG g (cStatics :: sysModules :: He.asD g n)) p.1) p.2)
def kkP (g : Addr → Option Obj) (n : Nat) (ps : List (Str × Str)) : PySem.W.Frag := He.frG g ((cStatics :: sysModules :: He.asD g n) ++ prCs g n ps)
def kkPs (g : Addr → Option Obj) (n : Nat) (xs : List Str) (ps : List (Str × Str)) : PySem.W.Frag := He.frG g (((cStatics :: sysModules :: He.asD g n).filter fun a => !(pt0s g n xs).contains a) ++ prCs g n ps)
end Ex

set_option Elab.async false
set_option linter.all false
set_option maxRecDepth 100000
set_option maxHeartbeats 4000000
/-! Own layer: a != b by an own __eq__ and object's __ne__. -/
namespace HN
open PySem PySem.Spec PyProof.Rows PySem.SeqAt
section
variable {prog : Program} {w : World} {A : Around} {E : Value → Shared → Prop} {s : Shared} {K : PySem.W.Frag} {x C f : Addr} {b tb : Value} {ox : Obj} {od : Option Obj}
theorem objNe_entry {Q : Fin → Shared → Prop} (X : K.In s.heap) (I : PySem.W.InstAt s.heap x ox C od) (hs : PySem.W.findIn K (.ref C) "__eq__" = some (some (.ref f))) (hf : PySem.W.isFn K (.ref f) = true) (hu : A.units < cLine)
    (hcall : wpAny (model prog w) A (call (.ref f) [.ref x, b]) (fun v s' => ∃ t, v = .bool t ∧ Q (.done (.ret (.bool (!t)))) s') E s) :
    wpAny (model prog w) A (Builtin.«object.__ne__» ⟨[.ref x, b], []⟩) Q E s := by
  unfold Builtin.«object.__ne__»
  repeat (first
    | with_reducible refine wpAny_cRoomFor hu ?_
    | (refine wpAny_bind (m := callSpecialIfBound? (.ref x) (Str.ofString "__eq__") [b])
        (PySem.W.ifBound_K X I hs hf (wpAny_mono hcall (fun r s' hr => by
          obtain ⟨t, rfl, hq⟩ := hr
          repeat (first | exact hq | exact wpAny_pure hq | exact wpAny_truthy_bool hq | (refine wpAny_bind (m := truthy (.bool _)) (wpAny_truthy_bool ?_)) | wp_step)) fun _ _ e => e)))
    | wp_step)
theorem call_objNe {Q : Value → Shared → Prop} (X : K.In s.heap) (I : PySem.W.InstAt s.heap x ox C od) (hm : PySem.W.mroIn K C (.type "object") = some true) (hs : PySem.W.findIn K (.ref C) "__eq__" = some (some (.ref f))) (hf : PySem.W.isFn K (.ref f) = true) (hu : A.in1.units < cLine)
    (hcall : wpAny (model prog w) A.in1 (call (.ref f) [.ref x, b]) (fun v s' => ∃ t, v = .bool t ∧ Q (.bool (!t)) s') E s) :
    wpAny (model prog w) A (call (.builtin "object.__ne__") [.ref x, b]) Q E s :=
  wpAny_call (codeAny_call_builtin F.cmp_object.ne.plain F.cmpEntry_ne (PySem.W.check_slot F.cmpKind_ne F.cmpSplit_ne (I.type.andThen (PySem.W.looks_mroIn X hm)) (F.cmpArgs_ne _ _) (objNe_entry X I hs hf hu hcall)))
theorem ifBound_objNe {args : List Value} {Q : Option Value → Shared → Prop} {M : Model} (X : K.In s.heap) (I : PySem.W.InstAt s.heap x ox C od) (hs : PySem.W.findIn K (.ref C) "__ne__" = some (some (.builtin "object.__ne__")))
    (h : wpAny M A (call (.builtin "object.__ne__") (.ref x :: args)) (fun v => Q (some v)) E s) : wpAny M A (callSpecialIfBound? (.ref x) "__ne__" args) Q E s := by
  simp only [callSpecialIfBound?, bindSpecialIfBound?]
  refine wpAny_holding (wpAny_bind (wpAny_bind (wpAny_bind (I.type.here ((PySem.W.looks_findIn X hs).here ?_)))))
  refine wpAny_bind (wpAny_askSetting (wpAny_ite ?_))
  have fin : wpAny M A (call (.builtin "object.__ne__") ([.ref x] ++ args) >>= fun v => pure (some v)) Q E s := wpAny_bind (wpAny_mono h (fun v s' h' => wpAny_pure h') fun _ _ h' => h')
  split
  · exact wpAny_bind (wpAny_of_eq (F.cmp_object.ne.bind _) (wpAny_pure (by exact fin)))
  · exact wpAny_tryCatch (wpAny_bind (wpAny_of_eq (F.cmp_object.ne.bind _) (wpAny_pure (by exact fin))))
theorem ne_K {Q : Value → Shared → Prop} (hu : A.units < cLine) (hu1 : A.in1.units < cLine) (X : K.In s.heap) (I : PySem.W.InstAt s.heap x ox C od) (hb : PySem.W.Looks (model prog w) s.heap (typeOf b) (.ref C)) (hm : PySem.W.mroIn K C (.type "object") = some true)
    (hn : PySem.W.findIn K (.ref C) "__ne__" = some (some (.builtin "object.__ne__"))) (hs : PySem.W.findIn K (.ref C) "__eq__" = some (some (.ref f))) (hf : PySem.W.isFn K (.ref f) = true)
    (hcall : wpAny (model prog w) A.in1 (call (.ref f) [.ref x, b]) (fun v s' => ∃ t, v = .bool t ∧ Q (.bool (!t)) s') E s) : wpAny (model prog w) A (richCompare .NotEq (.ref x) b) Q E s := by
  have one : wpAny (model prog w) A (tryCompare (.ref x) "__ne__" b) (fun r s' => ∃ v, r = some v ∧ Q v s') E s := by
    unfold tryCompare
    refine wpAny_bind (ifBound_objNe X I hn (call_objNe X I hm hs hf hu1 (wpAny_mono hcall (fun v s' hv => ?_) fun _ _ e => e)))
    obtain ⟨t, rfl, q⟩ := hv
    exact ⟨t, rfl, wpAny_pure ⟨_, rfl, q⟩⟩
  simp only [richCompare, cmpInfo_NotEq, oneThing_ref]
  refine wpAny_holding (wpAny_bind (wpAny_cRoomFor hu ?_))
  refine wpAny_bind (I.type.here (wpAny_bind (hb.here ?_)))
  rw [show (Value.ref C != Value.ref C) = false from by simp]
  simp only [Bool.false_eq_true, if_false]
  refine wpAny_bind (wpAny_pure ?_)
  simp only [Bool.false_eq_true, if_false]
  refine wpAny_bind (wpAny_mono one (fun r s' z => ?_) fun _ _ e => e)
  obtain ⟨v, rfl, hq⟩ := z
  exact wpAny_pure hq
end
end HN
namespace Ex
open PySem PySem.Spec PySem.Calls PyProof.Rows L2 Gu
structure NeOk (K : PySem.W.Frag) (C : Addr) : Prop where
  ne : PySem.W.findIn K (.ref C) "__ne__" = some (some (.builtin "object.__ne__"))
  hm : PySem.W.mroIn K C (.type "object") = some true
def neB (K : PySem.W.Frag) (C : Addr) : Bool := He.eqO (PySem.W.findIn K (.ref C) "__ne__") (some (some (.builtin "object.__ne__"))) && decide (PySem.W.mroIn K C (.type "object") = some true)
theorem neB_ok {K : PySem.W.Frag} {C : Addr} (h : neB K C = true) : NeOk K C := by
  obtain ⟨h1, h2⟩ := He.ba h
  exact ⟨He.eqO_ok h1, of_decide_eq_true h2⟩
def rOwnNe (C : Addr) (sp : Sp) : R2 := fun x y H Q => ∃ a b dx dy fs gs, x = .ref a ∧ y = .ref b ∧ H a = some (.ins C dx fs) ∧ H b = some (.ins C dy gs) ∧ sp [.ref a, .ref b] H (fun v H' => ∃ t, v = .bl t ∧ Q (.bl (!t)) H') E0
section
variable {X : Cx} {k j : Nat} {c : Str} {sp : Sp}
theorem op_ownN (D : EqOf X.prog X.w X.K X.mg X.base k c sp) (N : NeOk X.K (He.ga X.K c)) (hr : Room j X.A) (hj : k + 1 ≤ j := by decide) : OpR X (compareOp .NotEq) (rOwnNe (He.ga X.K c) sp) := by
  intro pins s σ H x y u v Q I rx ry ⟨a, b, dx, dy, fs, gs, ex, ey, ha, hb, hsp⟩
  subst ex ey
  obtain rfl : u = Value.ref a := rx
  obtain rfl : v = Value.ref b := ry
  obtain ⟨fd, F, bi⟩ := D.ex
  have hr' := hr.mono hj
  obtain ⟨mA, J, _⟩ := ins_get I.hok ha
  obtain ⟨mB, J', _⟩ := ins_get I.hok hb
  obtain ⟨od, J, _⟩ := J.look
  obtain ⟨od', J', _⟩ := J'.look
  show wpAny (model X.prog X.w) X.A (richCompare .NotEq (.ref a) (.ref b)) (EP X pins σ Q) X.xe s
  refine HN.ne_K hr'.units0 hr'.in1.units0 I.kIn J J'.type N.hm N.ne D.at_ D.fn ?_
  have r2 : Vals [V.ref a, V.ref b] [Value.ref a, Value.ref b] := .cons rfl (.cons rfl .nil)
  have bb := bi s [.ref a, .ref b] I.kIn rfl
  refine wpAny_call (codeAny_mono (F.run X.A.in1 X.stack s H ⟨[.ref a, .ref b], []⟩ [.ref a, .ref b] [.ref a, .ref b] _ E0 hr'.in1 I.env0.in1 (by simpa using bb) r2 hsp) fun r s' hq => ?_)
  match r, hq with
  | .ok (.ret w), hq =>
    obtain ⟨z, H', I', rz, ⟨t, ez, q⟩⟩ := I.after hq
    subst ez
    cases rz
    exact ⟨t, rfl, .bl (!t), H', I', rfl, q⟩
end
end Ex

set_option Elab.async false
set_option linter.all false
set_option maxRecDepth 100000
set_option maxHeartbeats 4000000
/-! Own layer: a built-in value == an instance with its own __eq__ (the built-in declines, then the own one is asked); instance == any value; instance != any value. -/
namespace HQ
open PySem PySem.Spec PyProof.Rows PySem.SeqAt PySem.W
section
variable {prog : Program} {w : World} {A : Around} {E : Value → Shared → Prop} {s : Shared} {K : PySem.W.Frag} {x C f : Addr} {a tb : Value} {ox : Obj} {od : Option Obj} {T id : String}
theorem try_own {nm : Str} {Q : Value → Shared → Prop} (X : K.In s.heap) (I : InstAt s.heap x ox C od) (hs : findIn K (.ref C) nm = some (some (.ref f))) (hf : isFn K (.ref f) = true)
    (h : wpAny (model prog w) A (call (.ref f) [.ref x, a]) (PySem.W.CmpBack Q) E s) : wpAny (model prog w) A (tryCompare (.ref x) nm a) (fun r s' => ∃ v, r = some v ∧ Q v s') E s := by
  unfold tryCompare
  refine wpAny_bind (ifBound_K X I hs hf (wpAny_mono h (fun v s' hv => ?_) fun _ _ e => e))
  cases v <;> first | exact hv.elim | exact wpAny_pure ⟨_, rfl, hv⟩
theorem refl_K {Q : Value → Shared → Prop} (hu : A.units < cLine) (X : K.In s.heap) (I : InstAt s.heap x ox C od) (hs : findIn K (.ref C) "__eq__" = some (some (.ref f))) (hf : isFn K (.ref f) = true)
    (ha : s.TypeIs a T) (slot : Slot T "__eq__" id) (hsub : subIn K (.ref C) (.type T) = some false)
    (hd : ∀ Q' : Value → Shared → Prop, Q' .notImplemented s → wpAny (model prog w) A (call (.builtin id) [a, .ref x]) Q' E s)
    (h : wpAny (model prog w) A (call (.ref f) [.ref x, a]) (PySem.W.CmpBack Q) E s) : wpAny (model prog w) A (richCompare .Eq a (.ref x)) Q E s := by
  have one := try_own X I hs hf h
  simp only [richCompare, cmpInfo_Eq, ha.oneThing_none]
  try with_reducible refine wpAny_holding ?_
  refine wpAny_bind (wpAny_cRoomFor hu ?_)
  refine wpAny_bind (wpAny_typeOf ha (wpAny_bind (I.type.here ?_)))
  rw [show (Value.type T != Value.ref C) = true from by simp, if_pos rfl]
  refine wpAny_bind ((looks_subIn X hsub).here ?_)
  simp only [Bool.false_eq_true, if_false, Bool.not_false, if_true]
  refine wpAny_bind (m := tryCompare a _ (.ref x)) (wpAny_tryCompare_declines ha slot (hd _ ⟨rfl, ?_⟩))
  refine wpAny_bind (m := tryCompare (.ref x) _ a) (wpAny_mono one (fun r s' z => ?_) fun _ _ e => e)
  obtain ⟨v, rfl, hq⟩ := z
  exact wpAny_pure hq
/-! the built-ins decline -/
theorem dec_none (l : Addr) : Gives (Builtin.«NoneType.__eq__» ⟨[.none, .ref l], []⟩) (.val (Value.notImplemented)) :=
  .of_wp fun M A E s Q h => by obtain ⟨hp, g, d, tk, os⟩ := s; wp_walk; exact ⟨_, rfl, h⟩
theorem dec_bool {dx : Addr} {Q : Fin → Shared → Prop}  (X : K.In s.heap) (I : InstAt s.heap x (instObj C dx) C od) (b : Bool) (hsub : subIn K (.ref C) (.type "int") = some false) (h : Q (.done (.ret .notImplemented)) s) :
    wpAny (model prog w) A (Builtin.«int.__eq__» ⟨[.bool b, .ref x], []⟩) Q E s := by
  unfold Builtin.«int.__eq__»
  repeat (first
    | exact h
    | (refine I.type.here ?_)
    | (refine (looks_subIn X hsub).here ?_)
    | (with_reducible refine wpAny_load I.at_ ?_)
    | wp_step)
theorem dec_int {dx : Addr} {Q : Fin → Shared → Prop}  (X : K.In s.heap) (I : InstAt s.heap x (instObj C dx) C od) (i : Int) (t : Tok) (hsub : subIn K (.ref C) (.type "int") = some false) (h : Q (.done (.ret .notImplemented)) s) :
    wpAny (model prog w) A (Builtin.«int.__eq__» ⟨[.int i t, .ref x], []⟩) Q E s := by
  unfold Builtin.«int.__eq__»
  repeat (first
    | exact h
    | (refine I.type.here ?_)
    | (refine (looks_subIn X hsub).here ?_)
    | (with_reducible refine wpAny_load I.at_ ?_)
    | wp_step)
theorem dec_str {dx : Addr} {Q : Fin → Shared → Prop}  (X : K.In s.heap) (I : InstAt s.heap x (instObj C dx) C od) (z : Str) (t : Tok) (hsub : subIn K (.ref C) (.type "str") = some false) (h : Q (.done (.ret .notImplemented)) s) :
    wpAny (model prog w) A (Builtin.«str.__eq__» ⟨[.str z t, .ref x], []⟩) Q E s := by
  unfold Builtin.«str.__eq__»
  repeat (first
    | exact h
    | (refine I.type.here ?_)
    | (refine (looks_subIn X hsub).here ?_)
    | (with_reducible refine wpAny_load I.at_ ?_)
    | wp_step)
theorem dec_list {dx : Addr} {Q : Fin → Shared → Prop} {l : Addr} {items : Array Value} {n : Nat} {dd : Option Addr} {sl : Array (Option Value)} (X : K.In s.heap) (I : InstAt s.heap x (instObj C dx) C od) (hl : s.heap.get? l = some { cls := .type "list", dict := dd, data := .seq items n, slots := sl }) (hsub : subIn K (.ref C) (.type "list") = some false) (h : Q (.done (.ret .notImplemented)) s) :
    wpAny (model prog w) A (Builtin.«list.__eq__» ⟨[.ref l, .ref x], []⟩) Q E s := by
  unfold Builtin.«list.__eq__»
  repeat (first
    | exact h
    | (refine I.type.here ?_)
    | (refine (looks_subIn X hsub).here ?_)
    | (with_reducible refine wpAny_load I.at_ ?_)
    | wp_step)
theorem dec_tuple {dx : Addr} {Q : Fin → Shared → Prop} {l : Addr} {items : Array Value} {n : Nat} {dd : Option Addr} {sl : Array (Option Value)} (X : K.In s.heap) (I : InstAt s.heap x (instObj C dx) C od) (hl : s.heap.get? l = some { cls := .type "tuple", dict := dd, data := .seq items n, slots := sl }) (hsub : subIn K (.ref C) (.type "tuple") = some false) (h : Q (.done (.ret .notImplemented)) s) :
    wpAny (model prog w) A (Builtin.«tuple.__eq__» ⟨[.ref l, .ref x], []⟩) Q E s := by
  unfold Builtin.«tuple.__eq__»
  repeat (first
    | exact h
    | (refine I.type.here ?_)
    | (refine (looks_subIn X hsub).here ?_)
    | (with_reducible refine wpAny_load I.at_ ?_)
    | wp_step)
theorem dec_dict {dx : Addr} {Q : Fin → Shared → Prop} {l : Addr} {es : Array DictEntry} {n : Nat} {dd : Option Addr} {sl : Array (Option Value)} (X : K.In s.heap) (I : InstAt s.heap x (instObj C dx) C od) (hl : s.heap.get? l = some { cls := .type "dict", dict := dd, data := .dict es n, slots := sl }) (hsub : subIn K (.ref C) (.type "dict") = some false) (h : Q (.done (.ret .notImplemented)) s) :
    wpAny (model prog w) A (Builtin.«dict.__eq__» ⟨[.ref l, .ref x], []⟩) Q E s := by
  unfold Builtin.«dict.__eq__»
  repeat (first
    | exact h
    | (refine I.type.here ?_)
    | (refine (looks_subIn X hsub).here ?_)
    | (with_reducible refine wpAny_load I.at_ ?_)
    | wp_step)
end
end HQ

set_option Elab.async false
set_option linter.all false
set_option maxRecDepth 100000
set_option maxHeartbeats 4000000
/-! Own layer: == and != between an instance with its own __eq__ and any built-in value, in both sequences. -/
namespace HQ
open PySem PySem.Spec PyProof.Rows PySem.SeqAt PySem.W
section
variable {prog : Program} {w : World} {A : Around} {E : Value → Shared → Prop} {s : Shared} {K : PySem.W.Frag} {x C f dx l : Addr} {a b tb : Value} {od : Option Obj} {T id : String}
variable {items : Array Value} {n : Nat} {dd : Option Addr} {sl : Array (Option Value)}
/-- an instance of C at x, C's relations in K -/
def At (K : PySem.W.Frag) (x C dx : Addr) (od : Option Obj) (s : Shared) : Prop := K.In s.heap ∧ InstAt s.heap x (instObj C dx) C od
theorem m_none : Meets (Builtin.«NoneType.__eq__» ⟨[.none, .ref x], []⟩) (fun _ R s => R (.ok (.ret .notImplemented)) s) :=
  .of_wp fun prog w A R s h => by obtain ⟨hp, g, d, tk, os⟩ := s; wp_walk; exact ⟨_, rfl, h⟩
theorem m_bool (p : Bool) (hsub : subIn K (.ref C) (.type "int") = some false) : Meets (Builtin.«int.__eq__» ⟨[.bool p, .ref x], []⟩) (fun _ R s => At K x C dx od s ∧ R (.ok (.ret .notImplemented)) s) :=
  .of_wp fun prog w A R s h => dec_bool h.1.1 h.1.2 p hsub ⟨_, rfl, h.2⟩
theorem m_int (i : Int) (t : Tok) (hsub : subIn K (.ref C) (.type "int") = some false) : Meets (Builtin.«int.__eq__» ⟨[.int i t, .ref x], []⟩) (fun _ R s => At K x C dx od s ∧ R (.ok (.ret .notImplemented)) s) :=
  .of_wp fun prog w A R s h => dec_int h.1.1 h.1.2 i t hsub ⟨_, rfl, h.2⟩
theorem m_str (z : Str) (t : Tok) (hsub : subIn K (.ref C) (.type "str") = some false) : Meets (Builtin.«str.__eq__» ⟨[.str z t, .ref x], []⟩) (fun _ R s => At K x C dx od s ∧ R (.ok (.ret .notImplemented)) s) :=
  .of_wp fun prog w A R s h => dec_str h.1.1 h.1.2 z t hsub ⟨_, rfl, h.2⟩
theorem m_list (hsub : subIn K (.ref C) (.type "list") = some false) : Meets (Builtin.«list.__eq__» ⟨[.ref l, .ref x], []⟩) (fun _ R s => At K x C dx od s ∧ s.heap.get? l = some { cls := .type "list", dict := dd, data := .seq items n, slots := sl } ∧ R (.ok (.ret .notImplemented)) s) :=
  .of_wp fun prog w A R s h => dec_list h.1.1 h.1.2 h.2.1 hsub ⟨_, rfl, h.2.2⟩
theorem m_tuple (hsub : subIn K (.ref C) (.type "tuple") = some false) : Meets (Builtin.«tuple.__eq__» ⟨[.ref l, .ref x], []⟩) (fun _ R s => At K x C dx od s ∧ s.heap.get? l = some { cls := .type "tuple", dict := dd, data := .seq items n, slots := sl } ∧ R (.ok (.ret .notImplemented)) s) :=
  .of_wp fun prog w A R s h => dec_tuple h.1.1 h.1.2 h.2.1 hsub ⟨_, rfl, h.2.2⟩
theorem m_dict {es : Array DictEntry} (hsub : subIn K (.ref C) (.type "dict") = some false) : Meets (Builtin.«dict.__eq__» ⟨[.ref l, .ref x], []⟩) (fun _ R s => At K x C dx od s ∧ s.heap.get? l = some { cls := .type "dict", dict := dd, data := .dict es n, slots := sl } ∧ R (.ok (.ret .notImplemented)) s) :=
  .of_wp fun prog w A R s h => dec_dict h.1.1 h.1.2 h.2.1 hsub ⟨_, rfl, h.2.2⟩
theorem ne_KB {Q : Value → Shared → Prop} (hu : A.units < cLine) (hu1 : A.in1.units < cLine) (X : K.In s.heap) (I : InstAt s.heap x (instObj C dx) C od) (hb : Looks (model prog w) s.heap (typeOf b) tb) (hn0 : notFirst K C tb = true) (hm : mroIn K C (.type "object") = some true)
    (hn : findIn K (.ref C) "__ne__" = some (some (.builtin "object.__ne__"))) (hs : findIn K (.ref C) "__eq__" = some (some (.ref f))) (hf : isFn K (.ref f) = true)
    (hcall : wpAny (model prog w) A.in1 (call (.ref f) [.ref x, b]) (fun v s' => ∃ t, v = .bool t ∧ Q (.bool (!t)) s') E s) : wpAny (model prog w) A (richCompare .NotEq (.ref x) b) Q E s := by
  have one : wpAny (model prog w) A (tryCompare (.ref x) "__ne__" b) (fun r s' => ∃ v, r = some v ∧ Q v s') E s := by
    unfold tryCompare
    refine wpAny_bind (HN.ifBound_objNe X I hn (HN.call_objNe X I hm hs hf hu1 (wpAny_mono hcall (fun v s' hv => ?_) fun _ _ e => e)))
    obtain ⟨t, rfl, q⟩ := hv
    exact ⟨t, rfl, wpAny_pure ⟨_, rfl, q⟩⟩
  simp only [richCompare, cmpInfo_NotEq, oneThing_ref]
  refine wpAny_holding (wpAny_bind (wpAny_cRoomFor hu ?_))
  refine wpAny_bind (I.type.here (wpAny_bind (hb.here ?_)))
  split
  · rename_i q
    have e : subIn K tb (.ref C) = some false := by
      rcases Bool.or_eq_true_iff.mp hn0 with e | e
      · rw [beq_iff_eq.mp e] at q; simp at q
      · exact beq_iff_eq.mp e
    refine wpAny_bind ((looks_subIn X e).here ?_)
    simp only [Bool.false_eq_true, if_false]
    refine wpAny_bind (wpAny_mono one (fun r s' z => ?_) fun _ _ e => e)
    obtain ⟨v, rfl, hq⟩ := z
    exact wpAny_pure hq
  · refine wpAny_bind (wpAny_pure ?_)
    simp only [Bool.false_eq_true, if_false]
    refine wpAny_bind (wpAny_mono one (fun r s' z => ?_) fun _ _ e => e)
    obtain ⟨v, rfl, hq⟩ := z
    exact wpAny_pure hq
end
end HQ
namespace Ex
open PySem PySem.Spec PySem.Calls PyProof.Rows L2 Gu
/-- built-in values and their types -/
inductive Bv (H : Hp) : V → String → Prop
  | non : Bv H .non "NoneType"
  | bl (b : Bool) : Bv H (.bl b) "bool"
  | int (i : Int) : Bv H (.int i) "int"
  | str (x : Str) : Bv H (.str x) "str"
  | lst {a : Addr} {xs : List V} : H a = some (.lst xs) → Bv H (.ref a) "list"
  | tup {a : Addr} {xs : List V} : H a = some (.tup xs) → Bv H (.ref a) "tuple"
  | dct {a : Addr} {kvs : List (Key × V)} : H a = some (.dK kvs) → Bv H (.ref a) "dict"
theorem Bv.tyx {K : PySem.W.Frag} {H : Hp} {v : V} {T : String} (h : Bv H v T) : TyX K H v (.type T) := by
  cases h with
  | non => exact .base .non
  | bl b => exact .base (.bl b)
  | int i => exact .base (.int i)
  | str x => exact .base (.str x)
  | lst e => exact .base (.lst e)
  | tup e => exact .base (.tup e)
  | dct e => exact .base (.dK e)
def bus : List String := ["NoneType", "bool", "int", "str", "list", "tuple", "dict"]
theorem Bv.mem {H : Hp} {v : V} {T : String} (h : Bv H v T) : T ∈ bus := by cases h <;> decide
/-- what comparisons with built-in values ask of an own class -/
structure BuOk (K : PySem.W.Frag) (C : Addr) : Prop where
  all : ∀ T ∈ bus, PySem.W.notFirst K C (.type T) = true ∧ PySem.W.subIn K (.ref C) (.type T) = some false ∧ PySem.W.kitOne K (.type T) (.ref C) = some false
def buB (K : PySem.W.Frag) (C : Addr) : Bool := bus.all fun T => PySem.W.notFirst K C (.type T) && (decide (PySem.W.subIn K (.ref C) (.type T) = some false) && decide (PySem.W.kitOne K (.type T) (.ref C) = some false))
theorem buB_ok {K : PySem.W.Frag} {C : Addr} (h : buB K C = true) : BuOk K C := ⟨fun T hT => by
  obtain ⟨h1, h2⟩ := He.ba (List.all_eq_true.mp h T hT)
  obtain ⟨h2, h3⟩ := He.ba h2
  exact ⟨h1, of_decide_eq_true h2, of_decide_eq_true h3⟩⟩
theorem BuOk.kit {K : PySem.W.Frag} {C : Addr} {H : Hp} {v : V} {T : String} (h : BuOk K C) (b : Bv H v T) : PySem.W.kitOne K (.type T) (.ref C) = some false := (h.all T b.mem).2.2
section
variable {X : Cx} {pins : List (Addr × Obj)} {σ : L2.St} {H : Hp} {s : Shared} {k j : Nat} {c : Str} {sp : Sp}
theorem Bv.typeIs (I : Inv X pins σ H s) {v : V} {T : String} {u : Value} (h : Bv H v T) (r : RelV v u) : s.TypeIs u T := by
  cases h with
  | non => cases r; rfl
  | bl b => cases r; rfl
  | int i => obtain ⟨t, rfl⟩ := r; rfl
  | str x => obtain ⟨t, rfl⟩ := r; rfl
  | lst e =>
    cases r
    obtain ⟨its, _, ⟨o, n, ho, hc, _, hd⟩, _⟩ := I.list (SqL.of e)
    exact ⟨o, ho, hc⟩
  | tup e =>
    cases r
    obtain ⟨its, _, ⟨o, ho, hc, n, hd⟩, _⟩ := I.tuple (SqT.of e)
    exact ⟨o, ho, hc⟩
  | dct e =>
    cases r
    obtain ⟨_, _, vs, _, dd⟩ := dk_of I.hok e
    exact dd.typeIs
theorem looks_of {prog : Program} {w : World} {u : Value} {T : String} (h : s.TypeIs u T) : PySem.W.Looks (model prog w) s.heap (typeOf u) (.type T) := by
  cases u with
  | ref a =>
    obtain ⟨o, ho, hc⟩ := h
    exact hc ▸ (PySem.W.Looks.ld ho).andThen .now
  | _ => exact PySem.W.Looks.of_pure h
def rEqB (C : Addr) (sp : Sp) : R2 := fun x y H Q => ∃ a dx fs T, x = .ref a ∧ H a = some (.ins C dx fs) ∧ Bv H y T ∧ sp [.ref a, y] H (fun v H' => (∃ t, v = .bl t) ∧ Q v H') E0
theorem op_eqB (D : EqOf X.prog X.w X.K X.mg X.base k c sp) (B : BuOk X.K (He.ga X.K c)) (hr : Room j X.A) (hj : k ≤ j := by decide) : OpR X (compareOp .Eq) (rEqB (He.ga X.K c) sp) := by
  intro pins s σ H x y u v Q I rx ry ⟨a, dx, fs, T, ex, ha, bv, hsp⟩
  subst ex
  obtain rfl : u = Value.ref a := rx
  obtain ⟨fd, F, bi⟩ := D.ex
  have hr' := hr.mono hj
  obtain ⟨mA, J, _⟩ := ins_get I.hok ha
  obtain ⟨od, J, _⟩ := J.look
  obtain ⟨m, hF⟩ := I.fr
  have ty := bv.typeIs I ry
  show wpAny (model X.prog X.w) X.A (richCompare .Eq (.ref a) v) (EP X pins σ Q) X.xe s
  refine PySem.W.cmp_K (op := .Eq) (tb := .type T) hr'.units0 hF I.ok.mod.kin J (looks_of ty) (B.all T bv.mem).1 D.at_ D.fn ?_
  have r2 : Vals [V.ref a, y] [Value.ref a, v] := .cons rfl (.cons ry .nil)
  have bb := bi s [.ref a, v] I.kIn rfl
  refine wpAny_call (codeAny_mono (F.run X.A X.stack s H ⟨[.ref a, v], []⟩ [.ref a, v] [.ref a, y] _ E0 hr' I.env0 (by simpa using bb) r2 hsp) fun r s' hq => ?_)
  match r, hq with
  | .ok (.ret w), hq =>
    obtain ⟨z, H', I', rz, ⟨t, ez⟩, q⟩ := I.after hq
    subst ez
    cases rz
    exact ⟨.bl t, H', I', rfl, q⟩
def rNeB (C : Addr) (sp : Sp) : R2 := fun x y H Q => ∃ a dx fs T, x = .ref a ∧ H a = some (.ins C dx fs) ∧ Bv H y T ∧ sp [.ref a, y] H (fun v H' => ∃ t, v = .bl t ∧ Q (.bl (!t)) H') E0
theorem op_neB (D : EqOf X.prog X.w X.K X.mg X.base k c sp) (N : NeOk X.K (He.ga X.K c)) (B : BuOk X.K (He.ga X.K c)) (hr : Room j X.A) (hj : k + 1 ≤ j := by decide) : OpR X (compareOp .NotEq) (rNeB (He.ga X.K c) sp) := by
  intro pins s σ H x y u v Q I rx ry ⟨a, dx, fs, T, ex, ha, bv, hsp⟩
  subst ex
  obtain rfl : u = Value.ref a := rx
  obtain ⟨fd, F, bi⟩ := D.ex
  have hr' := hr.mono hj
  obtain ⟨mA, J, _⟩ := ins_get I.hok ha
  obtain ⟨od, J, _⟩ := J.look
  have ty := bv.typeIs I ry
  show wpAny (model X.prog X.w) X.A (richCompare .NotEq (.ref a) v) (EP X pins σ Q) X.xe s
  refine HQ.ne_KB hr'.units0 hr'.in1.units0 I.kIn J (looks_of ty) (B.all T bv.mem).1 N.hm N.ne D.at_ D.fn ?_
  have r2 : Vals [V.ref a, y] [Value.ref a, v] := .cons rfl (.cons ry .nil)
  have bb := bi s [.ref a, v] I.kIn rfl
  refine wpAny_call (codeAny_mono (F.run X.A.in1 X.stack s H ⟨[.ref a, v], []⟩ [.ref a, v] [.ref a, y] _ E0 hr'.in1 I.env0.in1 (by simpa using bb) r2 hsp) fun r s' hq => ?_)
  match r, hq with
  | .ok (.ret w), hq =>
    obtain ⟨z, H', I', rz, ⟨t, ez, q⟩⟩ := I.after hq
    subst ez
    cases rz
    exact ⟨t, rfl, .bl (!t), H', I', rfl, q⟩
def rEqR (C : Addr) (sp : Sp) : R2 := fun x y H Q => ∃ b dx fs T, y = .ref b ∧ H b = some (.ins C dx fs) ∧ Bv H x T ∧ sp [.ref b, x] H (fun v H' => (∃ t, v = .bl t) ∧ Q v H') E0
theorem op_eqR (D : EqOf X.prog X.w X.K X.mg X.base k c sp) (B : BuOk X.K (He.ga X.K c)) (hr : Room j X.A) (hj : k ≤ j := by decide) : OpR X (compareOp .Eq) (rEqR (He.ga X.K c) sp) := by
  intro pins s σ H x y u v Q I rx ry ⟨b, dx, fs, T, ey, hb, bv, hsp⟩
  subst ey
  obtain rfl : v = Value.ref b := ry
  obtain ⟨fd, F, bi⟩ := D.ex
  have hr' := hr.mono hj
  obtain ⟨mA, J, _⟩ := ins_get I.hok hb
  obtain ⟨od, J, _⟩ := J.look
  have ty := bv.typeIs I rx
  have at0 : HQ.At X.K b (He.ga X.K c) dx (some od) s := ⟨I.kIn, J⟩
  have su : ∀ T ∈ bus, PySem.W.subIn X.K (.ref (He.ga X.K c)) (.type T) = some false := fun T hT => (B.all T hT).2.1
  have r2 : Vals [V.ref b, x] [Value.ref b, u] := .cons rfl (.cons rx .nil)
  have bb := bi s [.ref b, u] I.kIn rfl
  have own : wpAny (model X.prog X.w) X.A (call (.ref (He.ma X.K (He.ga X.K c) "__eq__")) [.ref b, u]) (PySem.W.CmpBack (EP X pins σ Q)) X.xe s := by
    refine wpAny_call (codeAny_mono (F.run X.A X.stack s H ⟨[.ref b, u], []⟩ [.ref b, u] [.ref b, x] _ E0 hr' I.env0 (by simpa using bb) r2 hsp) fun r s' hq => ?_)
    match r, hq with
    | .ok (.ret w), hq =>
      obtain ⟨z, H', I', rz, ⟨t, ez⟩, q⟩ := I.after hq
      subst ez
      cases rz
      exact ⟨.bl t, H', I', rfl, q⟩
  have tyT := ty
  show wpAny (model X.prog X.w) X.A (richCompare .Eq u (.ref b)) (EP X pins σ Q) X.xe s
  cases bv with
  | non =>
    cases rx
    exact HQ.refl_K hr'.units0 I.kIn J D.at_ D.fn ty PySem.F.slot_NoneType_eq (su _ (by decide)) (fun Q' q' => call_meets PySem.F.slot_NoneType_eq ty PySem.F.entry_NoneType_eq (PySem.F.args_NoneType_eq_2 _ _) HQ.m_none q') own
  | bl p =>
    cases rx
    exact HQ.refl_K hr'.units0 I.kIn J D.at_ D.fn ty PySem.F.slot_bool_eq (su _ (by decide)) (fun Q' q' => call_meets PySem.F.slot_bool_eq ty PySem.F.entry_int_eq (PySem.F.args_int_eq_2 _ _) (HQ.m_bool p (su "int" (by decide))) ⟨at0, q'⟩) own
  | int i =>
    obtain ⟨t, rfl⟩ := rx
    exact HQ.refl_K hr'.units0 I.kIn J D.at_ D.fn ty PySem.F.slot_int_eq (su _ (by decide)) (fun Q' q' => call_meets PySem.F.slot_int_eq ty PySem.F.entry_int_eq (PySem.F.args_int_eq_2 _ _) (HQ.m_int i t (su "int" (by decide))) ⟨at0, q'⟩) own
  | str z =>
    obtain ⟨t, rfl⟩ := rx
    exact HQ.refl_K hr'.units0 I.kIn J D.at_ D.fn ty PySem.F.slot_str_eq (su _ (by decide)) (fun Q' q' => call_meets PySem.F.slot_str_eq ty PySem.F.entry_str_eq (PySem.F.args_str_eq_2 _ _) (HQ.m_str z t (su "str" (by decide))) ⟨at0, q'⟩) own
  | lst e =>
    cases rx
    obtain ⟨its, _, ⟨⟨oc, od1, odt, osl⟩, n, ho, hc, _, hd⟩, _⟩ := I.list (SqL.of e)
    simp only at hc hd
    subst hc hd
    exact HQ.refl_K hr'.units0 I.kIn J D.at_ D.fn ty PySem.F.slot_list_eq (su _ (by decide)) (fun Q' q' => call_meets PySem.F.slot_list_eq ty PySem.F.entry_list_eq (PySem.F.args_list_eq_2 _ _) (HQ.m_list (su "list" (by decide))) ⟨at0, ho, q'⟩) own
  | tup e =>
    cases rx
    obtain ⟨its, _, ⟨⟨oc, od1, odt, osl⟩, ho, hc, n, hd⟩, _⟩ := I.tuple (SqT.of e)
    simp only at hc hd
    subst hc hd
    exact HQ.refl_K hr'.units0 I.kIn J D.at_ D.fn ty PySem.F.slot_tuple_eq (su _ (by decide)) (fun Q' q' => call_meets PySem.F.slot_tuple_eq ty PySem.F.entry_tuple_eq (PySem.F.args_tuple_eq_2 _ _) (HQ.m_tuple (su "tuple" (by decide))) ⟨at0, ho, q'⟩) own
  | dct e =>
    cases rx
    obtain ⟨_, _, vs, _, ⟨oc, od1, odt, osl⟩, es, ep, ho, hx, hd, _⟩ := dk_of I.hok e
    have hc : oc = .type "dict" := hx.1
    simp only at hd
    subst hc hd
    exact HQ.refl_K hr'.units0 I.kIn J D.at_ D.fn ty PySem.F.slot_dict_eq (su _ (by decide)) (fun Q' q' => call_meets PySem.F.slot_dict_eq ty PySem.F.entry_dict_eq (PySem.F.args_dict_eq_2 _ _) (HQ.m_dict (su "dict" (by decide))) ⟨at0, ho, q'⟩) own
end
end Ex

set_option Elab.async false
set_option linter.all false
set_option maxRecDepth 100000
set_option maxHeartbeats 0
namespace Ex
open PySem PySem.Spec PyProof.Rows L2 Gu
def conB (K : PySem.W.Frag) (C : Addr) (f : Str) (i : Int) : Bool := match PySem.W.findIn K (.ref C) f with
  | some (some (.int j t)) => decide (j = i) && (He.eqO (PySem.W.specialIn K (.int j t) "__get__") (some none) && !PySem.W.copiedNames.contains f)
  | _ => false
theorem conB_ok {K : PySem.W.Frag} {C : Addr} {f : Str} {i : Int} (h : conB K C f i = true) : ∃ u, Con K C f (.int i) u := by
  unfold conB at h
  split at h
  · rename_i j t e
    obtain ⟨h1, h2⟩ := He.ba h
    obtain ⟨h3, h4⟩ := He.ba h2
    have ej : j = i := of_decide_eq_true h1
    exact ⟨_, e, ⟨t, by rw [ej]⟩, He.eqO_ok h3, by simpa using h4⟩
  · cases h
/-- the default of a parameter by keyword alone: one step more than what K reaches -/
def kwC (g : Addr → Option Obj) (n : Nat) (c m k : Str) : Addr := match (He.frG g (cStatics :: sysModules :: He.asD g n)).lookup (He.ma (He.frG g (cStatics :: sysModules :: He.asD g n)) (He.ga (He.frG g (cStatics :: sysModules :: He.asD g n)) c) m) with
  | some ⟨_, _, .func fd, _⟩ => (match fd.kwdefaults with
    | .ref D => (match PySem.W.nsIn (He.frG g (cStatics :: sysModules :: He.asD g n)) D k with
      | some (some (.ref z)) => z
      | _ => 0)
    | _ => 0)
  | _ => 0
def kkQ (g : Addr → Option Obj) (n : Nat) (ps : List (Str × Str)) : PySem.W.Frag := He.frG g ((cStatics :: sysModules :: He.asD g n) ++ (prCs g n ps ++ [kwC g n "Layout" "slack" "kept"]))
end Ex

set_option Elab.async false
set_option linter.all false
set_option maxRecDepth 100000
set_option maxHeartbeats 0
namespace K44
open PySem PySem.Spec PyProof.Rows L2 Gu Ex
abbrev R : PySem.W.OpenRow := PySem.W.OpenLaw.row PySem.Challenge.rw_exactroom_k44_chosen_addresses
def dOf (a : Str × Option Str) (x q : Str) (st : Stmt) : He.DefD := ⟨a, x, q, defArgs st, defBody st, defScope st, [], []⟩
def dOfK (a : Str × Option Str) (x q : Str) (st : Stmt) (kw : List (Str × He.Dv)) : He.DefD := ⟨a, x, q, defArgs st, defBody st, defScope st, [], kw⟩
def fn : List He.DefD := [dOf ("is_integer", none) "is_integer" "is_integer" (top 13),
  dOf ("size_problem", none) "size_problem" "size_problem" (top 17),
  dOf ("check_sizes", none) "check_sizes" "check_sizes" (top 18),
  dOf ("is_cells", none) "is_cells" "is_cells" (top 14),
  dOf ("check_cells", none) "check_cells" "check_cells" (top 15),
  dOf ("check_numbers", none) "check_numbers" "check_numbers" (top 16),
  dOf ("Sizes", some "__init__") "__init__" "Sizes.__init__" (inClass (top 19) 4),
  dOf ("Sizes", some "has_level") "has_level" "Sizes.has_level" (inClass (top 19) 12),
  dOf ("Sizes", some "check_level") "check_level" "Sizes.check_level" (inClass (top 19) 13),
  dOf ("Sizes", some "size") "size" "Sizes.size" (inClass (top 19) 14),
  dOf ("Sizes", some "whole") "whole" "Sizes.whole" (inClass (top 19) 16),
  dOf ("Sizes", some "__len__") "__len__" "Sizes.__len__" (inClass (top 19) 6),
  dOf ("Sizes", some "all_sizes") "all_sizes" "Sizes.all_sizes" (inClass (top 19) 11),
  dOf ("Sizes", some "counts") "counts" "Sizes.counts" (inClass (top 19) 17),
  dOf ("Sizes", some "pieces") "pieces" "Sizes.pieces" (inClass (top 19) 18),
  dOf ("Layout", some "__init__") "__init__" "Layout.__init__" (inClass (top 34) 0),
  dOf ("Layout", some "count_below") "count_below" "Layout.count_below" (inClass (top 34) 9),
  dOf ("Layout", some "index_of") "index_of" "Layout.index_of" (inClass (top 34) 10),
  dOf ("Layout", some "block_at") "block_at" "Layout.block_at" (inClass (top 34) 11),
  dOf ("Layout", some "first_taken") "first_taken" "Layout.first_taken" (inClass (top 34) 12),
  dOfK ("Layout", some "put") "put" "Layout.put" (inClass (top 34) 13) [("pinned", .bl false)],
  dOf ("Layout", some "take_out") "take_out" "Layout.take_out" (inClass (top 34) 14),
  dOf ("Layout", some "ranges_of") "ranges_of" "Layout.ranges_of" (inClass (top 34) 16),
  dOf ("Layout", some "pinned_ranges") "pinned_ranges" "Layout.pinned_ranges" (inClass (top 34) 18),
  dOf ("Layout", some "unpinned_levels") "unpinned_levels" "Layout.unpinned_levels" (inClass (top 34) 19),
  dOf ("Layout", some "regions_in") "regions_in" "Layout.regions_in" (inClass (top 34) 21),
  dOf ("Layout", some "free_gaps") "free_gaps" "Layout.free_gaps" (inClass (top 34) 17),
  dOf ("Layout", some "free_runs") "free_runs" "Layout.free_runs" (inClass (top 34) 20),
  dOf ("Layout", some "clear_cells") "clear_cells" "Layout.clear_cells" (inClass (top 34) 24),
  dOf ("Layout", some "unpinned_cells") "unpinned_cells" "Layout.unpinned_cells" (inClass (top 34) 25),
  dOf ("Layout", some "slack") "slack" "Layout.slack" (inClass (top 34) 26),
  dOf ("Layout", some "short_level") "short_level" "Layout.short_level" (inClass (top 34) 27),
  dOf ("Layout", some "blocks") "blocks" "Layout.blocks" (inClass (top 34) 7),
  dOf ("Layout", some "__repr__") "__repr__" "Layout.__repr__" (inClass (top 34) 3),
  dOf ("is_address", none) "is_address" "is_address" (top 21),
  dOf ("check_range", none) "check_range" "check_range" (top 22),
  dOf ("next_start", none) "next_start" "next_start" (top 23),
  dOf ("gaps_between", none) "gaps_between" "gaps_between" (top 24),
  dOf ("lies_below", none) "lies_below" "lies_below" (top 25),
  dOf ("is_region", none) "is_region" "is_region" (top 26),
  dOf ("region_start", none) "region_start" "region_start" (top 27),
  dOf ("count_regions", none) "count_regions" "count_regions" (top 28),
  dOf ("highest_level_at", none) "highest_level_at" "highest_level_at" (top 29),
  dOf ("first_run", none) "first_run" "first_run" (top 30),
  dOf ("maximal_runs", none) "maximal_runs" "maximal_runs" (top 31),
  dOf ("check_fits", none) "check_fits" "check_fits" (top 33),
  dOf ("runs_by_level", none) "runs_by_level" "runs_by_level" (top 38),
  dOf ("take_region", none) "take_region" "take_region" (top 39),
  dOf ("chosen_addresses", none) "chosen_addresses" "chosen_addresses" (top 40),
  dOf ("room_by_moves", none) "room_by_moves" "room_by_moves" (top 41),
  dOf ("room", none) "room" "room" (top 42),
  dOf ("_law_rng", none) "_law_rng" "_law_rng" (top 44),
  dOf ("_law_draw", none) "_law_draw" "_law_draw" (top 45),
  dOf ("_law_choice", none) "_law_choice" "_law_choice" (top 46),
  dOf ("_law_sizes", none) "_law_sizes" "_law_sizes" (top 47),
  dOf ("_law_whole", none) "_law_whole" "_law_whole" (top 48),
  dOf ("_law_pieces", none) "_law_pieces" "_law_pieces" (top 49),
  dOf ("_law_has_space", none) "_law_has_space" "_law_has_space" (top 50),
  dOf ("_law_blocks", none) "_law_blocks" "_law_blocks" (top 51),
  dOf ("_law_untouched", none) "_law_untouched" "_law_untouched" (top 52),
  dOf ("_law_runs", none) "_law_runs" "_law_runs" (top 53),
  dOf ("_law_free_runs", none) "_law_free_runs" "_law_free_runs" (top 54),
  dOf ("_law_chosen", none) "_law_chosen" "_law_chosen" (top 55),
  dOf ("_law_layout", none) "_law_layout" "_law_layout" (top 56),
  dOf ("_law_far_sizes", none) "_law_far_sizes" "_law_far_sizes" (top 57),
  dOf ("_law_few", none) "_law_few" "_law_few" (top 58),
  dOf ("_law_are_enough", none) "_law_are_enough" "_law_are_enough" (top 59),
  dOf ("_law_asked", none) "_law_asked" "_law_asked" (top 60),
  dOf ("_law_right", none) "_law_right" "_law_right" (top 61),
  dOf ("law", none) "law" "law" (top 62)]
def fa : List He.Fa := [.glo "is_integer", .glo "size_problem", .glo "check_sizes", .glo "is_cells", .glo "check_cells", .glo "check_numbers", .glo "is_address", .glo "check_range", .glo "next_start", .glo "gaps_between", .glo "lies_below", .glo "is_region", .glo "region_start", .glo "count_regions", .glo "highest_level_at", .glo "first_run", .glo "maximal_runs", .glo "check_fits", .glo "runs_by_level", .glo "take_region", .glo "chosen_addresses", .glo "room_by_moves", .glo "room", .glo "_law_rng", .glo "_law_draw", .glo "_law_choice", .glo "_law_sizes", .glo "_law_whole", .glo "_law_pieces", .glo "_law_has_space", .glo "_law_blocks", .glo "_law_untouched", .glo "_law_runs", .glo "_law_free_runs", .glo "_law_chosen", .glo "_law_layout", .glo "_law_far_sizes", .glo "_law_few", .glo "_law_are_enough", .glo "_law_asked", .glo "_law_right", .glo "law", .glo "Sizes", .glo "Layout", .free "len", .free "isinstance", .free "int", .free "bool", .free "list", .free "range", .free "divmod", .free "abs", .free "max", .free "min", .free "enumerate", .free "all", .free "sum", .free "tuple", .free "sorted", .free "repr", .free "set", .free "reversed", .free "zip", .cls "Sizes", .noat "Sizes" "size_list", .mkr "Sizes", .meth "Sizes" "has_level", .meth "Sizes" "check_level", .meth "Sizes" "size", .meth "Sizes" "whole", .meth "Sizes" "__len__", .meth "Sizes" "all_sizes", .meth "Sizes" "counts", .meth "Sizes" "pieces", .cls "Layout", .mkr "Layout", .noat "Layout" "size_table", .noat "Layout" "cell_count", .noat "Layout" "free_count", .noat "Layout" "block_list", .meth "Layout" "count_below", .meth "Layout" "index_of", .meth "Layout" "block_at", .meth "Layout" "first_taken", .meth "Layout" "put", .meth "Layout" "take_out", .meth "Layout" "ranges_of", .meth "Layout" "pinned_ranges", .meth "Layout" "unpinned_levels", .meth "Layout" "regions_in", .meth "Layout" "free_gaps", .meth "Layout" "free_runs", .meth "Layout" "clear_cells", .meth "Layout" "unpinned_cells", .meth "Layout" "slack", .meth "Layout" "short_level", .meth "Layout" "blocks", .meth "Layout" "__repr__"]
def exB (K : PySem.W.Frag) : Bool := (rdB K (He.ga K "Sizes") && (cvB K (He.ga K "Sizes") "MAX_SIZE" 1000000000 && (cvB K (He.ga K "Sizes") "MAX_SIZES" 8 && (sysB K && (cvB K (He.ga K "Sizes") "MAX_CELLS" 1000000000000 && (conB K (He.ga K "Sizes") "MAX_PIECES" 64 && (kwB K (He.ma K (He.ga K "Layout") "slack") "kept" && (Ex.insB K (He.ga K "Sizes") && (Ex.insB K (He.ga K "Layout") && (prB K (He.ga K "Sizes") "top" && (okAt K (pgA K (He.ga K "Sizes") "top") "Sizes.top" && (prB K (He.ga K "Layout") "sizes" && (okAt K (pgA K (He.ga K "Layout") "sizes") "Layout.sizes" && true)))))))))))))
def v_top : He.FnW := some ("top", "Sizes.top", defArgs (inClass (top 19) 10), .stmts (defBody (inClass (top 19) 10)), defScope (inClass (top 19) 10), mainGlobals, [], builtinsNs)
def v_sizes : He.FnW := some ("sizes", "Layout.sizes", defArgs (inClass (top 34) 4), .stmts (defBody (inClass (top 34) 4)), defScope (inClass (top 34) 4), mainGlobals, [], builtinsNs)
abbrev AlE : Type := He.AlD × Bool × He.FnW × He.FnW
def ob0 (K : PySem.W.Frag) : AlE := (He.obsD fa fn K, exB K, fnAt K (pgA K (He.ga K "Sizes") "top"), fnAt K (pgA K (He.ga K "Layout") "sizes"))
def vl0 : AlE := (He.valD fn, true, v_top, v_sizes)
def prNs : List (Str × Str) := [("Sizes", "top"), ("Layout", "sizes")]
def ob1 (g : Addr → Option Obj) : AlE := ob0 (kkQ g 4 prNs)
def hk : PySem.W.Hook where
  α := AlE
  obs := fun s => ob1 s.heap.get?
  val := fun _ => vl0
  says := fun _ h => ∃ K : PySem.W.Frag, K.In h ∧ ob0 K = vl0
  of := fun _ _ e => ⟨_, He.frG_in, e⟩
  keeps := fun _ _ _ ⟨K, hK, c⟩ k => ⟨K, PySem.W.Frag.In.keeps hK k, c⟩
def ob (s : PySem.W.SharedT) : AlE := ob1 (HandSHeadRun.getT s)
theorem ob_eq (s : PySem.W.SharedT) : ob s = hk.obs s.abs := by
  have e : HandSHeadRun.getT s = s.abs.heap.get? := funext (HandSHeadRun.getT_eq s)
  show ob1 (HandSHeadRun.getT s) = ob1 s.abs.heap.get?
  rw [e]
def loose : List Str := ("_wall" : Str) :: ("RoomError" : Str) :: ("InvalidSizes" : Str) :: ("InvalidLevel" : Str) :: ("InvalidNumber" : Str) :: ("InvalidNumbers" : Str) :: ("InvalidAddress" : Str) :: ("UnknownBlock" : Str) :: ("Occupied" : Str) :: ("NoRoom" : Str) :: ("TooManyPieces" : Str) :: ("is_integer" : Str) :: ("is_cells" : Str) :: ("check_cells" : Str) :: ("check_numbers" : Str) :: ("size_problem" : Str) :: ("check_sizes" : Str) :: ("Sizes" : Str) :: ("is_address" : Str) :: ("check_range" : Str) :: ("next_start" : Str) :: ("gaps_between" : Str) :: ("lies_below" : Str) :: ("is_region" : Str) :: ("region_start" : Str) :: ("count_regions" : Str) :: ("highest_level_at" : Str) :: ("first_run" : Str) :: ("maximal_runs" : Str) :: ("check_fits" : Str) :: ("Layout" : Str) :: ("Plan" : Str) :: ("runs_by_level" : Str) :: ("take_region" : Str) :: ("chosen_addresses" : Str) :: ("room_by_moves" : Str) :: ("room" : Str) :: ("_law_rng" : Str) :: ("_law_draw" : Str) :: ("_law_choice" : Str) :: ("_law_sizes" : Str) :: ("_law_whole" : Str) :: ("_law_pieces" : Str) :: ("_law_has_space" : Str) :: ("_law_blocks" : Str) :: ("_law_untouched" : Str) :: ("_law_runs" : Str) :: ("_law_free_runs" : Str) :: ("_law_chosen" : Str) :: ("_law_layout" : Str) :: ("_law_far_sizes" : Str) :: ("_law_few" : Str) :: ("_law_are_enough" : Str) :: ("_law_asked" : Str) :: ("_law_right" : Str) :: []
def kk (s : PySem.W.SharedT) : PySem.W.Frag := kkQ (HandSHeadRun.getT s) 4 prNs
noncomputable def ends (w : World) (os : OsState) : Option PySem.W.SharedT := HandSHeadRun.endF (HandSHeadRun.stepQ (HandSHeadRun.denQ HandSHeadRun.tabQ) R.prog w) 16000 R.prog w os
theorem in_parts {σ A B E F : Type} {o : Option σ} {a : σ → A} {b : σ → B} {c d : σ → Bool} {e : σ → E} {f : σ → Bool} {g : σ → F} {x1 : A} {x2 : B} {x5 : E} {x7 : F} (h1 : o.map a = some x1) (h2 : o.map b = some x2) (h3 : o.map c = some true) (h4 : o.map d = some true)
    (h5 : o.map e = some x5) (h6 : o.map f = some true) (h7 : o.map g = some x7) : o.map (fun s => (a s, b s, (((c s && d s), e s), f s, g s))) = some (x1, x2, ((true, x5), true, x7)) := by
  cases o with
  | none => cases h1
  | some s =>
    have g1 : a s = x1 := Option.some.inj h1
    have g2 : b s = x2 := Option.some.inj h2
    have g3 : c s = true := Option.some.inj h3
    have g4 : d s = true := Option.some.inj h4
    have g5 : e s = x5 := Option.some.inj h5
    have g6 : f s = true := Option.some.inj h6
    have g7 : g s = x7 := Option.some.inj h7
    show some (a s, b s, (((c s && d s), e s), f s, g s)) = _
    rw [g1, g2, g3, g4, g5, g6, g7]
    rfl
end K44

set_option Elab.async false
set_option linter.all false
set_option maxRecDepth 100000
set_option maxHeartbeats 0
namespace K44
open PySem PySem.Spec PyProof.Rows L2 Gu Ex PySem.W PySem.Calls
theorem r_looks (w : World) (os : OsState) : (ends w os).map (fun s => HandSHeadRun.looksF R.prog (boot_heap w.params) s.abs) = some true := by kernel_rfl
theorem r_seen (w : World) (os : OsState) : (ends w os).map (fun s => HandSHeadRun.seenQ (PySem.W.view R.prog [62]) loose (PySem.importedModules R.prog.main.body) (fun s => PySem.W.xlAt (PySem.W.view R.prog [62]) [] s && PySem.W.recOk R.toRowW.records s) s.abs) = some (PySem.W.openGood (PySem.W.view R.prog [62]) loose) := by kernel_rfl
end K44

set_option Elab.async false
set_option linter.all false
set_option maxRecDepth 100000
set_option maxHeartbeats 0
namespace K44
open PySem PySem.Spec PyProof.Rows L2 Gu Ex
theorem r_fa (w : World) (os : OsState) : (ends w os).map (fun s => fa.all fun f => f.ok (kk s)) = some true := by kernel_rfl
end K44

set_option Elab.async false
set_option linter.all false
set_option maxRecDepth 100000
set_option maxHeartbeats 0
namespace K44
open PySem PySem.Spec PyProof.Rows L2 Gu Ex
theorem r_fn (w : World) (os : OsState) : (ends w os).map (fun s => fn.all fun d => d.ok (kk s)) = some true := by kernel_rfl
end K44

set_option Elab.async false
set_option linter.all false
set_option maxRecDepth 100000
set_option maxHeartbeats 0
namespace K44
open PySem PySem.Spec PyProof.Rows L2 Gu Ex
theorem r_fw (w : World) (os : OsState) : (ends w os).map (fun s => fn.map fun d => He.fnW (kk s) d.at_) = some (fn.map He.DefD.val) := by kernel_rfl
end K44

set_option Elab.async false
set_option linter.all false
set_option maxRecDepth 100000
set_option maxHeartbeats 0
namespace K44
open PySem PySem.Spec PyProof.Rows L2 Gu Ex
theorem r_ex (w : World) (os : OsState) : (ends w os).map (fun s => exB (kk s)) = some true := by kernel_rfl
theorem r_pr (w : World) (os : OsState) : (ends w os).map (fun s => (fnAt (kk s) (pgA (kk s) (He.ga (kk s) "Sizes") "top"), fnAt (kk s) (pgA (kk s) (He.ga (kk s) "Layout") "sizes"))) = some (v_top, v_sizes) := by kernel_rfl
end K44

set_option Elab.async false
set_option linter.all false
set_option maxRecDepth 100000
set_option maxHeartbeats 4000000
namespace K44
open PySem PySem.Spec PyProof.Rows L2 Gu Ex
def szF (l : Addr) : List (Str × V) := [("size_list", V.ref l)]
theorem szF_get (l : Addr) : (szF l).lookup ("size_list" : Str) = some (.ref l) := by simp [szF, List.lookup]
theorem szF_no (l : Addr) {m : Str} (h : (m == ("size_list" : Str)) = false) : (szF l).lookup m = none := by simp [szF, List.lookup, h]
/-- at p an object of Sizes with the list ns -/
def SzAt (C : Addr) (H : Hp) (p : Addr) (ns : List Int) : Prop := ∃ dx l, H p = some (.ins C dx (szF l)) ∧ H l = some (.lst (ns.map V.int))
theorem putF_new (l : Addr) : putF "size_list" (V.ref l) [] = szF l := rfl
section
variable {P : Program} {w : World} {K : PySem.W.Frag} {mg : Str → Option Value} {base : Heap} {f : Addr} {fd : FuncData}
def spMade (K : PySem.W.Frag) : Sp := fun vs H Q _ => ∃ (x dx a : Addr) (ns : List Int), vs = [.ref x, .ref a] ∧ H x = some (.ins (He.ga K "Sizes") dx []) ∧ SqL K H a (ns.map V.int) ∧ TyX K H (.ref a) (.type "list") ∧ Good ns ∧
  ∀ l, H l = none → Q .non (upd (upd H l (.lst (ns.map V.int))) x (.ins (He.ga K "Sizes") dx (szF l)))
theorem sc_Sizes_init : FnScope ["self", "values"] ["self", "values"] (defScope (inClass (top 19) 4)) := ⟨rfl, rfl, rfl, by decide +kernel, rfl, by decide +kernel, by decide +kernel⟩
theorem ok_init (T : Tx K mg) (D_check_sizes : Df P w K mg base 3 "check_sizes" ["values"] (spCheck K)) (F : FnP K "__init__" "Sizes.__init__" (inClass (top 19) 4) f fd) :
    FnOk P w K mg base CX0 4 f fd ["self", "values"] (spMade K) := by
  refine F.ok sc_Sizes_init (fun vs H Q E h => ?_) (fun cdv A outer s H vs Q E hr h => ⟨_, PSs.nox (pss_cons (ps_expr (pcall D_check_sizes hr (pa_cons (pv 1) pa_nil))) (pss_one (ps_fld (pv 0) (pe_callTy call_list_of (by rfl) T.n_list (by decide +kernel) (pa_cons (pv 1) pa_nil)) rfl))), ?_⟩)
  · obtain ⟨x, dx, a, ns, rfl, _⟩ := h
    rfl
  · obtain ⟨x, dx, a, ns, rfl, hx, hS, ty, g, q⟩ := h
    refine ⟨_, rfl, a, ns, rfl, hS, ty, g, ?_⟩
    refine ⟨_, rfl, a, _, rfl, .inl hS, fun l hl => ?_⟩
    refine ⟨_, rfl, x, He.ga K "Sizes", dx, [], rfl, (by rw [upd_ne (ne_of_none hx hl)]; exact hx), T.cl, T.nSL, (by show 0 < 1000; decide), ?_⟩
    exact q l hl
def spTop (K : PySem.W.Frag) : Sp := fun vs H Q _ => ∃ (p : Addr) (ns : List Int), vs = [.ref p] ∧ SzAt (He.ga K "Sizes") H p ns ∧ Q (.int ((ns.length : Int) - 1)) H
theorem sc_top : FnScope ["self"] ["self"] (defScope (inClass (top 19) 10)) := ⟨rfl, rfl, rfl, by decide +kernel, rfl, by decide +kernel, by decide +kernel⟩
theorem ok_top (T : Tx K mg) (F : FnP K "top" "Sizes.top" (inClass (top 19) 10) f fd) : FnOk P w K mg base CX0 1 f fd ["self"] (spTop K) := by
  refine F.ok sc_top (fun vs H Q E h => ?_) (fun cdv A outer s H vs Q E hr h => ⟨_, PSs.nox (pss_one (ps_ret (pe_op op_sub (pe_callB call_len_seq (by rfl) T.n_len (by decide +kernel) (pa_cons (pe_fld (pv 0) rfl) pa_nil)) pe_int))), ?_⟩)
  · obtain ⟨p, ns, rfl, _⟩ := h
    rfl
  · obtain ⟨p, ns, rfl, ⟨dx, l, h1, h2⟩, q⟩ := h
    refine ⟨_, rfl, p, _, dx, _, _, rfl, h1, T.cl, T.nSL, szF_get l, l, _, rfl, .inl (SqL.of h2), _, _, rfl, rfl, ?_⟩
    rw [List.length_map]
    exact q
def spHas (K : PySem.W.Frag) : Sp := fun vs H Q _ => ∃ (p : Addr) (ns : List Int) (i : Nat), vs = [.ref p, .int i] ∧ SzAt (He.ga K "Sizes") H p ns ∧ i < ns.length ∧ Q (.bl true) H
theorem sc_has_level : FnScope ["self", "level"] ["self", "level"] (defScope (inClass (top 19) 12)) := ⟨rfl, rfl, rfl, by decide +kernel, rfl, by decide +kernel, by decide +kernel⟩
theorem ok_has (T : Tx K mg) (D_is_integer : Df P w K mg base 1 "is_integer" ["value"] spInt) (P_top : Pf P w K mg base 1 "Sizes" "top" (spTop K)) (F : FnP K "has_level" "Sizes.has_level" (inClass (top 19) 12) f fd) :
    FnOk P w K mg base CX0 3 f fd ["self", "level"] (spHas K) := by
  refine F.ok sc_has_level (fun vs H Q E h => ?_) (fun cdv A outer s H vs Q E hr h => ⟨_, PSs.nox (pss_one (ps_ret (pe_and (pcall D_is_integer hr (pa_cons (pv 1) pa_nil)) (pe_one (pe_chain op_le op_le pe_int (pv 1) (pprop P_top hr (pv 0))))))), ?_⟩)
  · obtain ⟨p, ns, i, rfl, _⟩ := h
    rfl
  · obtain ⟨p, ns, i, rfl, hz, hi, q⟩ := h
    obtain ⟨dx, l, h1, h2⟩ := id hz
    refine ⟨_, rfl, _, rfl, true, rfl, iteT ?_⟩
    refine ⟨_, rfl, _, _, rfl, rfl, true, bT (by omega), iteT ?_⟩
    refine ⟨_, rfl, p, dx, _, rfl, h1, p, ns, rfl, hz, _, _, rfl, rfl, ?_⟩
    have e : decide ((i : Int) ≤ (ns.length : Int) - 1) = true := decide_eq_true (by omega)
    show Q (.bl (decide ((i : Int) ≤ (ns.length : Int) - 1))) H
    rw [e]
    exact q
def spCheckL (K : PySem.W.Frag) : Sp := fun vs H Q _ => ∃ (p : Addr) (ns : List Int) (i : Nat), vs = [.ref p, .int i] ∧ SzAt (He.ga K "Sizes") H p ns ∧ i < ns.length ∧ Q .non H
theorem sc_check_level : FnScope ["self", "level"] ["self", "level"] (defScope (inClass (top 19) 13)) := ⟨rfl, rfl, rfl, by decide +kernel, rfl, by decide +kernel, by decide +kernel⟩
theorem ok_check_level (T : Tx K mg) (M_has_level : Mf P w K mg base 3 "Sizes" "has_level" ["self", "level"] (spHas K)) (F : FnP K "check_level" "Sizes.check_level" (inClass (top 19) 13) f fd) :
    FnOk P w K mg base CX0 4 f fd ["self", "level"] (spCheckL K) := by
  refine F.ok sc_check_level (fun vs H Q E h => ?_) (fun cdv A outer s H vs Q E hr h => ⟨_, PSs.nox (pss_one (ps_if (pt_not (pt_val (pmeth M_has_level hr (pv 0) (pa_cons (pv 1) pa_nil)))) (pss_one ps_never) pss_nil)), ?_⟩)
  · obtain ⟨p, ns, i, rfl, _⟩ := h
    rfl
  · obtain ⟨p, ns, i, rfl, hz, hi, q⟩ := h
    obtain ⟨dx, l, h1, h2⟩ := id hz
    exact ⟨_, rfl, p, dx, _, rfl, h1, szF_no l (by decide +kernel), _, rfl, p, ns, i, rfl, hz, hi, true, rfl, iteF q⟩
def spSize (K : PySem.W.Frag) : Sp := fun vs H Q _ => ∃ (p : Addr) (ns : List Int) (i : Nat) (x : Int), vs = [.ref p, .int i] ∧ SzAt (He.ga K "Sizes") H p ns ∧ ns[i]? = some x ∧ Q (.int x) H
theorem sc_size : FnScope ["self", "level"] ["self", "level"] (defScope (inClass (top 19) 14)) := ⟨rfl, rfl, rfl, by decide +kernel, rfl, by decide +kernel, by decide +kernel⟩
theorem ok_size (T : Tx K mg) (M_check_level : Mf P w K mg base 4 "Sizes" "check_level" ["self", "level"] (spCheckL K)) (F : FnP K "size" "Sizes.size" (inClass (top 19) 14) f fd) :
    FnOk P w K mg base CX0 5 f fd ["self", "level"] (spSize K) := by
  refine F.ok sc_size (fun vs H Q E h => ?_) (fun cdv A outer s H vs Q E hr h => ⟨_, PSs.nox (pss_cons (ps_expr (pmeth M_check_level hr (pv 0) (pa_cons (pv 1) pa_nil))) (pss_one (ps_ret (pe_ix ix_list (pe_fld (pv 0) rfl) (pv 1) (fun _ _ => rfl))))), ?_⟩)
  · obtain ⟨p, ns, i, x, rfl, _⟩ := h
    rfl
  · obtain ⟨p, ns, i, x, rfl, hz, hx, q⟩ := h
    obtain ⟨dx, l, h1, h2⟩ := id hz
    refine ⟨_, rfl, p, dx, _, rfl, h1, szF_no l (by decide +kernel), _, rfl, p, ns, i, rfl, hz, (List.getElem?_eq_some_iff.mp hx).1, ?_⟩
    exact ⟨_, rfl, p, _, dx, _, _, rfl, h1, T.cl, T.nSL, szF_get l, _, rfl, l, _, _, _, rfl, rfl, SqL.of h2, at_map hx, q⟩
def spAddr : Sp := fun vs H Q _ => ∃ i : Int, vs = [.int i] ∧ 0 ≤ i ∧ Q (.bl true) H
theorem sc_is_address : FnScope ["value"] ["value"] (defScope (top 21)) := ⟨rfl, rfl, rfl, by decide +kernel, rfl, by decide +kernel, by decide +kernel⟩
theorem ok_is_address (T : Tx K mg) (D_is_integer : Df P w K mg base 1 "is_integer" ["value"] spInt) (F : FnP K "is_address" "is_address" (top 21) f fd) : FnOk P w K mg base CX0 2 f fd ["value"] spAddr := by
  refine F.ok sc_is_address (fun vs H Q E h => ?_) (fun cdv A outer s H vs Q E hr h => ⟨_, PSs.nox (pss_one (ps_ret (pe_and (pcall D_is_integer hr (pa_cons (pv 0) pa_nil)) (pe_one (pe_cmpR op_ge (pv 0) pe_int (nomark _)))))), ?_⟩)
  · obtain ⟨i, rfl, _⟩ := h
    rfl
  · obtain ⟨i, rfl, hi, q⟩ := h
    refine ⟨_, rfl, _, rfl, true, rfl, iteT ⟨_, rfl, _, _, rfl, rfl, ?_⟩⟩
    have e : decide ((0 : Int) ≤ i) = true := decide_eq_true hi
    show Q (.bl (decide ((0 : Int) ≤ i))) H
    rw [e]
    exact q
def spRange : Sp := fun vs H Q _ => ∃ a b : Int, vs = [.int a, .int b] ∧ 0 ≤ a ∧ a ≤ b ∧ Q .non H
theorem sc_check_range : FnScope ["low", "high"] ["low", "high"] (defScope (top 22)) := ⟨rfl, rfl, rfl, by decide +kernel, rfl, by decide +kernel, by decide +kernel⟩
theorem ok_check_range (T : Tx K mg) (D_is_integer : Df P w K mg base 1 "is_integer" ["value"] spInt) (D_is_address : Df P w K mg base 2 "is_address" ["value"] spAddr) (F : FnP K "check_range" "check_range" (top 22) f fd) :
    FnOk P w K mg base CX0 3 f fd ["low", "high"] spRange := by
  refine F.ok sc_check_range (fun vs H Q E h => ?_) (fun cdv A outer s H vs Q E hr h => ⟨_, PSs.nox (pss_cons (ps_if (pt_not (pt_val (pcall D_is_address hr (pa_cons (pv 0) pa_nil)))) (pss_one ps_never) pss_nil) (pss_one (ps_if (PW.pt (pw_or (pt_not (pt_val (pcall D_is_integer hr (pa_cons (pv 1) pa_nil)))) (pw_or1 (pt_cmpR op_lt (pv 1) (pv 0) (nomark _))))) (pss_one ps_never) pss_nil))), ?_⟩)
  · obtain ⟨a, b, rfl, _⟩ := h
    rfl
  · obtain ⟨a, b, rfl, ha, hb, q⟩ := h
    refine ⟨_, rfl, _, rfl, ha, true, rfl, iteF ?_⟩
    exact ⟨_, rfl, _, rfl, true, rfl, iteF ⟨_, rfl, _, rfl, _, _, rfl, rfl, false, bF (by omega), iteF q⟩⟩
/-- the least multiple of s from a on -/
def nextI (s a : Int) : Int := -(-a / s) * s
def spNext : Sp := fun vs H Q _ => ∃ s a : Int, vs = [.int s, .int a] ∧ 1 ≤ s ∧ s ≤ 1000000000 ∧ Q (.int (nextI s a)) H
theorem div_ok {i s : Int} (h1 : 1 ≤ s) (h2 : s ≤ 1000000000) : CDivW i s := wide_div (b := 64) (by omega) (by omega) (by decide) (by decide)
theorem sc_next_start : FnScope ["size", "address"] ["size", "address"] (defScope (top 23)) := ⟨rfl, rfl, rfl, by decide +kernel, rfl, by decide +kernel, by decide +kernel⟩
theorem ok_next_start (T : Tx K mg) (F : FnP K "next_start" "next_start" (top 23) f fd) : FnOk P w K mg base CX0 1 f fd ["size", "address"] spNext := by
  refine F.ok sc_next_start (fun vs H Q E h => ?_) (fun cdv A outer s H vs Q E hr h => ⟨_, PSs.nox (pss_one (ps_ret (pe_op op_mul (pe_un un_neg (pe_op op_fdivW (pe_un un_neg (pv 1)) (pv 0))) (pv 0)))), ?_⟩)
  · obtain ⟨s, a, rfl, _⟩ := h
    rfl
  · obtain ⟨s, a, rfl, h1, h2, q⟩ := h
    exact ⟨_, rfl, _, rfl, _, rfl, _, _, rfl, rfl, div_ok h1 h2, _, rfl, _, rfl, _, _, rfl, rfl, .inr ⟨by omega, by omega⟩, q⟩
def spStart (K : PySem.W.Frag) : Sp := fun vs H Q _ => ∃ (p : Addr) (ns : List Int) (i : Nat) (x a : Int), vs = [.ref p, .int i, .int a] ∧ SzAt (He.ga K "Sizes") H p ns ∧ ns[i]? = some x ∧ 1 ≤ x ∧ 0 ≤ a ∧ Q (.int (a - a % x)) H
theorem sc_region_start : FnScope ["sizes", "level", "address", "size"] ["sizes", "level", "address"] (defScope (top 27)) := ⟨rfl, rfl, rfl, by decide +kernel, rfl, by decide +kernel, by decide +kernel⟩
theorem ok_region_start (T : Tx K mg) (D_is_address : Df P w K mg base 2 "is_address" ["value"] spAddr) (M_size : Mf P w K mg base 5 "Sizes" "size" ["self", "level"] (spSize K)) (F : FnP K "region_start" "region_start" (top 27) f fd) :
    FnOk P w K mg base CX0 6 f fd ["sizes", "level", "address"] (spStart K) := by
  refine F.ok sc_region_start (fun vs H Q E h => ?_) (fun cdv A outer s H vs Q E hr h => ⟨_, PSs.nox (pss_cons (ps_set (i := 3) sc_region_start.nd rfl (by first | exact Or.inl rfl | exact Or.inr rfl) (pmeth M_size hr (pv 0) (pa_cons (pv 1) pa_nil))) (pss_cons (ps_if (pt_not (pt_val (pcall D_is_address hr (pa_cons (pv 2) pa_nil)))) (pss_one ps_never) pss_nil) (pss_one (ps_ret (pe_op op_sub (pv 2) (pe_op op_mod (pv 2) (pv 3))))))), ?_⟩)
  · obtain ⟨p, ns, i, x, a, rfl, _⟩ := h
    rfl
  · obtain ⟨p, ns, i, x, a, rfl, hz, hx, x1, ha, q⟩ := h
    obtain ⟨dx, l, h1, h2⟩ := id hz
    refine ⟨_, rfl, p, dx, _, rfl, h1, szF_no l (by decide +kernel), _, rfl, p, ns, i, x, rfl, hz, hx, ?_⟩
    refine ⟨_, rfl, _, rfl, ha, true, rfl, iteF ?_⟩
    exact ⟨_, rfl, _, rfl, _, rfl, _, _, rfl, rfl, (by show (0 : Int) < x; omega), _, _, rfl, rfl, q⟩
/-- what count_regions reckons -/
def cntI (s lo hi : Int) : Int := if ((hi - hi % s) - nextI s lo) / s > 0 then ((hi - hi % s) - nextI s lo) / s else 0
def spCount (K : PySem.W.Frag) : Sp := fun vs H Q _ => ∃ (p : Addr) (ns : List Int) (i : Nat) (x a b : Int), vs = [.ref p, .int i, .int a, .int b] ∧ SzAt (He.ga K "Sizes") H p ns ∧ ns[i]? = some x ∧ 1 ≤ x ∧ x ≤ 1000000000 ∧ 0 ≤ a ∧ a ≤ b ∧ Q (.int (cntI x a b)) H
theorem sc_count_regions : FnScope ["sizes", "level", "low", "high", "size"] ["sizes", "level", "low", "high"] (defScope (top 28)) := ⟨rfl, rfl, rfl, by decide +kernel, rfl, by decide +kernel, by decide +kernel⟩
theorem ok_count_regions (T : Tx K mg) (D_check_range : Df P w K mg base 3 "check_range" ["low", "high"] spRange) (D_region_start : Df P w K mg base 6 "region_start" ["sizes", "level", "address"] (spStart K))
    (D_next_start : Df P w K mg base 1 "next_start" ["size", "address"] spNext) (M_size : Mf P w K mg base 5 "Sizes" "size" ["self", "level"] (spSize K)) (F : FnP K "count_regions" "count_regions" (top 28) f fd) :
    FnOk P w K mg base CX0 7 f fd ["sizes", "level", "low", "high"] (spCount K) := by
  refine F.ok sc_count_regions (fun vs H Q E h => ?_) (fun cdv A outer s H vs Q E hr h => ⟨_, PSs.nox (pss_cons (ps_set (i := 4) sc_count_regions.nd rfl (by first | exact Or.inl rfl | exact Or.inr rfl) (pmeth M_size hr (pv 0) (pa_cons (pv 1) pa_nil))) (pss_cons (ps_expr (pcall D_check_range hr (pa_cons (pv 2) (pa_cons (pv 3) pa_nil)))) (pss_one (ps_ret (pe_callB (call_max2 rfl) (by rfl) T.n_max (by decide +kernel) (pa_cons pe_int (pa_cons (pe_op op_fdivW (pe_op op_sub (pcall D_region_start hr (pa_cons (pv 0) (pa_cons (pv 1) (pa_cons (pv 3) pa_nil)))) (pcall D_next_start hr (pa_cons (pv 4) (pa_cons (pv 2) pa_nil)))) (pv 4)) pa_nil))))))), ?_⟩)
  · obtain ⟨p, ns, i, x, a, b, rfl, _⟩ := h
    rfl
  · obtain ⟨p, ns, i, x, a, b, rfl, hz, hx, x1, x2, ha, hb, q⟩ := h
    obtain ⟨dx, l, h1, h2⟩ := id hz
    refine ⟨_, rfl, p, dx, _, rfl, h1, szF_no l (by decide +kernel), _, rfl, p, ns, i, x, rfl, hz, hx, ?_⟩
    refine ⟨_, rfl, _, rfl, a, b, rfl, ha, hb, ?_⟩
    refine ⟨_, rfl, _, rfl, _, rfl, p, ns, i, x, b, rfl, hz, hx, x1, by omega, _, rfl, _, rfl, x, a, rfl, x1, x2, _, _, rfl, rfl, _, rfl, _, _, rfl, rfl, div_ok x1 x2, _, _, rfl, ?_⟩
    exact q
end
end K44

set_option linter.all false
/-! The mathematics of counted regions. -/
namespace M15
theorem div_is {x s q r : Int} (h : x = s * q + r) (h0 : 0 ≤ r) (h1 : r < s) : x / s = q := by
  have e : r + s * q = x := by rw [h, Int.add_comm]
  exact ((Int.ediv_emod_unique (by omega)).mpr ⟨e, h0, h1⟩).1
/-- the number of multiples below x, rounded up -/
def C (s x : Int) : Int := (x + s - 1) / s
theorem parts (s x : Int) (h : 1 ≤ s) : x = s * (x / s) + x % s ∧ 0 ≤ x % s ∧ x % s < s :=
  ⟨(Int.mul_ediv_add_emod x s).symm, Int.emod_nonneg _ (by omega), Int.emod_lt_of_pos _ (by omega)⟩
theorem C_of {s x q r : Int} (hs : 1 ≤ s) (h : x = s * q + r) (h0 : 0 ≤ r) (h1 : r < s) : C s x = if r = 0 then q else q + 1 := by
  unfold C
  by_cases z : r = 0
  · rw [if_pos z]
    exact div_is (r := s - 1) (by omega) (by omega) (by omega)
  · rw [if_neg z]
    refine div_is (r := r - 1) ?_ (by omega) (by omega)
    have e : s * (q + 1) = s * q + s := by rw [Int.mul_add, Int.mul_one]
    omega
theorem C_step {s x : Int} (hs : 1 ≤ s) : C s (x + 1) = C s x + (if x % s = 0 then 1 else 0) := by
  obtain ⟨e, h0, h1⟩ := parts s x hs
  have a : C s (x + 1) = x / s + 1 := by
    unfold C
    have e2 : s * (x / s + 1) = s * (x / s) + s := by rw [Int.mul_add, Int.mul_one]
    exact div_is (r := x % s) (by omega) h0 h1
  rw [a, C_of hs e h0 h1]
  by_cases z : x % s = 0
  · rw [if_pos z, if_pos z]
  · rw [if_neg z, if_neg z]
    omega
theorem C_mono {s : Int} (hs : 1 ≤ s) (x : Int) (n : Nat) : C s x ≤ C s (x + n) := by
  induction n with
  | zero => simp
  | succ n ih =>
    have e := C_step (s := s) (x := x + n) hs
    rw [show x + ((n + 1 : Nat) : Int) = x + n + 1 by omega, e]
    split <;> omega
theorem C_le {s : Int} (hs : 1 ≤ s) {x y : Int} (h : x ≤ y) : C s x ≤ C s y := by
  have e := C_mono hs x (y - x).toNat
  rw [show x + (((y - x).toNat : Nat) : Int) = y by omega] at e
  exact e
/-- how many of the first n addresses from b on begin a region that ends by e -/
def cnt (s b e : Int) : Nat → Nat
  | 0 => 0
  | n + 1 => cnt s b e n + if (b + n) % s = 0 ∧ b + n + s ≤ e then 1 else 0
theorem cnt_is {s b e : Int} (hs : 1 ≤ s) : ∀ n : Nat, ((cnt s b e n : Nat) : Int) = if C s (min (b + n) (e - s + 1)) > C s b then C s (min (b + n) (e - s + 1)) - C s b else 0
  | 0 => by
    have h : C s (min (b + (0 : Nat)) (e - s + 1)) ≤ C s b := C_le hs (by omega)
    rw [if_neg (by omega)]
    rfl
  | n + 1 => by
    have ih := cnt_is (s := s) (b := b) (e := e) hs n
    show (((cnt s b e n + if (b + n) % s = 0 ∧ b + n + s ≤ e then 1 else 0 : Nat)) : Int) = _
    by_cases hb : b + n + s ≤ e
    · rw [show min (b + ((n + 1 : Nat) : Int)) (e - s + 1) = b + n + 1 by omega, C_step hs]
      rw [show min (b + (n : Int)) (e - s + 1) = b + n by omega] at ih
      have m := C_mono hs b n
      by_cases z : (b + n) % s = 0
      · rw [if_pos ⟨z, hb⟩, if_pos z]
        split at ih <;> split <;> omega
      · rw [if_neg (fun q => z q.1), if_neg z]
        split at ih <;> split <;> omega
    · rw [if_neg (fun q => hb q.2)]
      rw [show min (b + ((n + 1 : Nat) : Int)) (e - s + 1) = e - s + 1 by omega]
      rw [show min (b + (n : Int)) (e - s + 1) = e - s + 1 by omega] at ih
      omega
/-- the greatest of 0 and the difference -/
def cntM (s b e : Int) : Int := if e / s - C s b > 0 then e / s - C s b else 0
theorem C_end {s e : Int} : C s (e - s + 1) = e / s := by
  unfold C
  rw [show e - s + 1 + s - 1 = e by omega]
theorem cnt_all {s b e : Int} (hs : 1 ≤ s) (hb : b ≤ e) : ((cnt s b e (e - b).toNat : Nat) : Int) = cntM s b e := by
  rw [cnt_is hs, show min (b + (((e - b).toNat : Nat) : Int)) (e - s + 1) = e - s + 1 by omega, C_end]
  unfold cntM
  split <;> split <;> omega
theorem up_is {s a : Int} (hs : 1 ≤ s) : -(-a / s) = C s a := by
  obtain ⟨e, h0, h1⟩ := parts s a hs
  rw [C_of hs e h0 h1]
  by_cases z : a % s = 0
  · rw [if_pos z]
    have : -a / s = -(a / s) := div_is (r := 0) (by rw [Int.mul_neg]; omega) (by omega) (by omega)
    omega
  · rw [if_neg z]
    have e2 : s * (-(a / s) - 1) = -(s * (a / s)) - s := by rw [Int.mul_sub, Int.mul_neg, Int.mul_one]
    have : -a / s = -(a / s) - 1 := div_is (r := s - a % s) (by omega) (by omega) (by omega)
    omega
theorem quot_is {s a e : Int} (hs : 1 ≤ s) : ((e - e % s) - -(-a / s) * s) / s = e / s - C s a := by
  obtain ⟨h, h0, h1⟩ := parts s e hs
  rw [up_is hs]
  refine div_is (r := 0) ?_ (by omega) (by omega)
  have x1 : C s a * s = s * C s a := Int.mul_comm _ _
  have x2 : s * (e / s - C s a) = s * (e / s) - s * C s a := Int.mul_sub _ _ _
  omega
/-- a region across the cut -/
theorem across {s b c e : Int} (hs : 1 ≤ s) (h1 : b ≤ c) (h2 : c ≤ e) :
    cntM s b c + cntM s c e + (if b ≤ c - c % s ∧ c - c % s < c ∧ c - c % s + s ≤ e ∧ c % s ≠ 0 then 1 else 0) = cntM s b e := by
  obtain ⟨ec, c0, c1⟩ := parts s c hs
  obtain ⟨ee, e0, e1⟩ := parts s e hs
  obtain ⟨eb, b0, b1⟩ := parts s b hs
  have hCc := C_of hs ec c0 c1
  have hCb := C_of hs eb b0 b1
  have m1 : C s b ≤ C s c := C_le hs h1
  have m2 : c / s ≤ e / s := Int.ediv_le_ediv (by omega) h2
  have m3 : b / s ≤ c / s := Int.ediv_le_ediv (by omega) h1
  unfold cntM
  -- quotients: qb qc qe
  generalize hqb : b / s = qb at *
  generalize hqc : c / s = qc at *
  generalize hqe : e / s = qe at *
  have k1 : b ≤ c - c % s ↔ C s b ≤ qc := by
    have t : c - c % s = s * qc := by omega
    rw [t, hCb]
    constructor
    · intro h
      by_cases z : b % s = 0
      · rw [if_pos z]
        exact m3
      · rw [if_neg z]
        refine Int.not_lt.mp fun hn => ?_
        have : qc = qb := by omega
        rw [this] at h
        omega
    · intro h
      by_cases z : b % s = 0
      · rw [if_pos z] at h
        have := Int.mul_le_mul_of_nonneg_left h (show (0 : Int) ≤ s by omega)
        omega
      · rw [if_neg z] at h
        have := Int.mul_le_mul_of_nonneg_left h (show (0 : Int) ≤ s by omega)
        rw [Int.mul_add, Int.mul_one] at this
        omega
  have k2 : c - c % s + s ≤ e ↔ qc + 1 ≤ qe := by
    have t : c - c % s + s = s * (qc + 1) := by rw [Int.mul_add, Int.mul_one]; omega
    rw [t]
    constructor
    · intro h
      refine Int.not_lt.mp fun hn => ?_
      have := Int.mul_le_mul_of_nonneg_left (show qe ≤ qc by omega) (show (0 : Int) ≤ s by omega)
      have : s * (qc + 1) = s * qc + s := by rw [Int.mul_add, Int.mul_one]
      omega
    · intro h
      have := Int.mul_le_mul_of_nonneg_left h (show (0 : Int) ≤ s by omega)
      omega
  have hI : (if b ≤ c - c % s ∧ c - c % s < c ∧ c - c % s + s ≤ e ∧ c % s ≠ 0 then (1 : Int) else 0) = if c % s ≠ 0 ∧ C s b ≤ qc ∧ qc + 1 ≤ qe then 1 else 0 := by
    by_cases y : c % s ≠ 0 ∧ C s b ≤ qc ∧ qc + 1 ≤ qe
    · rw [if_pos y, if_pos ⟨k1.mpr y.2.1, by omega, k2.mpr y.2.2, y.1⟩]
    · rw [if_neg y, if_neg fun q => y ⟨q.2.2.2, k1.mp q.1, k2.mp q.2.2.1⟩]
  rw [hI]
  have hc3 : C s c = qc ∧ c % s = 0 ∨ C s c = qc + 1 ∧ c % s ≠ 0 := by
    by_cases z : c % s = 0
    · rw [if_pos z] at hCc
      exact .inl ⟨hCc, z⟩
    · rw [if_neg z] at hCc
      exact .inr ⟨hCc, z⟩
  clear hCc hCb k1 k2 hI
  generalize C s b = cb at *
  generalize C s c = cc at *
  rcases hc3 with ⟨rfl, z⟩ | ⟨rfl, z⟩
  · rw [if_neg (c := c % s ≠ 0 ∧ cb ≤ cc ∧ cc + 1 ≤ qe) fun q => q.1 z]
    split <;> split <;> split <;> omega
  · by_cases y : cb ≤ qc ∧ qc + 1 ≤ qe
    · rw [if_pos (c := c % s ≠ 0 ∧ cb ≤ qc ∧ qc + 1 ≤ qe) ⟨z, y.1, y.2⟩]
      split <;> split <;> split <;> omega
    · rw [if_neg (c := c % s ≠ 0 ∧ cb ≤ qc ∧ qc + 1 ≤ qe) fun q => y q.2]
      split <;> split <;> split <;> omega
end M15

set_option Elab.async false
set_option linter.all false
set_option maxRecDepth 100000
set_option maxHeartbeats 4000000
namespace K44
open PySem PySem.Spec PyProof.Rows L2 Gu Ex
/-- the drawing list at r -/
def Rng (H : Hp) (r : Addr) : Prop := ∃ a b : Int, H r = some (.lst [.int a, .int b]) ∧ 0 ≤ a ∧ 0 ≤ b ∧ b < 2147483587
/-- only the drawing list at r may have changed -/
def Stp (r : Addr) (H H' : Hp) : Prop := Rng H' r ∧ ∀ b o, b ≠ r → H b = some o → H' b = some o
theorem Stp.trans {r : Addr} {H H1 H2 : Hp} (a : Stp r H H1) (b : Stp r H1 H2) : Stp r H H2 := ⟨b.1, fun c o n e => b.2 c o n (a.2 c o n e)⟩
theorem Stp.refl {r : Addr} {H : Hp} (h : Rng H r) : Stp r H H := ⟨h, fun _ _ _ e => e⟩
/-- the ways of a choice come together: what holds of every value -/
theorem join {α : Type} {G : Prop} (Pc : α → Prop) {R : α → Prop} (h1 : (∀ c, Pc c → R c) → G) (h2 : ∀ c, Pc c → R c) : G := h1 h2
theorem Rng.ne {H : Hp} {r p : Addr} (h : Rng H r) (hp : H p = none) : r ≠ p := fun z => by
  obtain ⟨_, _, e, _⟩ := h
  rw [z, hp] at e
  cases e
theorem Stp.new {r p : Addr} {H H1 : Hp} {o : HO} (a : Stp r H H1) (hp : H1 p = none) : Stp r H (upd H1 p o) := by
  obtain ⟨⟨x, y, e, z⟩, k⟩ := a
  refine ⟨⟨x, y, ?_, z⟩, fun b u n e2 => ?_⟩
  · rw [upd_ne (ne_of_none e hp)]
    exact e
  · rw [upd_ne (ne_of_none (k b u n e2) hp)]
    exact k b u n e2
theorem Stp.free {r p : Addr} {H H1 : Hp} (a : Stp r H H1) (h : H1 p = none) : H p = none := by
  cases e : H p with
  | none => rfl
  | some o =>
    have n : p ≠ r := fun z => (a.1.ne h) z.symm
    rw [a.2 p o n e] at h
    cases h
section
variable {P : Program} {w : World} {K : PySem.W.Frag} {mg : Str → Option Value} {base : Heap} {f : Addr} {fd : FuncData}
def spRng (K : PySem.W.Frag) : Sp := fun vs H Q _ => ∃ (a : Addr) (ns : List Int) (k : Nat), vs = [.ref a, .int k] ∧ SqL K H a (ns.map V.int) ∧ k ≤ 63 ∧ ∀ p H', H p = none → Same H H' → Rng H' p → Q (.ref p) H'
theorem sc__law_rng : FnScope ["_law_script", "_law_k", "_law_cell"] ["_law_script", "_law_k"] (defScope (top 44)) := ⟨rfl, rfl, rfl, by decide +kernel, rfl, by decide +kernel, by decide +kernel⟩
theorem ok_rng (T : Tx K mg) (F : FnP K "_law_rng" "_law_rng" (top 44) f fd) : FnOk P w K mg base CX0 1 f fd ["_law_script", "_law_k"] (spRng K) := by
  refine F.ok sc__law_rng (fun vs H Q E h => ?_) (fun cdv A outer s H vs Q E hr h => ⟨_, PSs.nox (pss_cons (ps_set (i := 2) sc__law_rng.nd rfl (by first | exact Or.inl rfl | exact Or.inr rfl) (pe_ifExp (pt_cmpR op_lt (pv 1) (pe_callB call_len_seq (by rfl) T.n_len (by decide +kernel) (pa_cons (pv 0) pa_nil)) (nomark _)) (pe_callB call_abs (by rfl) T.n_abs (by decide +kernel) (pa_cons (pe_ix ix_list (pv 0) (pv 1) (fun _ _ => rfl)) pa_nil)) pe_int)) (pss_one (ps_ret (pe_lst (pa_cons (pe_callB (call_max2 rfl) (by rfl) T.n_max (by decide +kernel) (pa_cons pe_int (pa_cons (pe_op op_sub (pv 2) (pe_op op_pow pe_int pe_int)) pa_nil))) (pa_cons (pe_op op_add (pe_op op_mod (pe_op op_pow (pe_op op_add (pe_op op_add (pe_op op_mod (pv 2) pe_int) (pe_op op_mul pe_int (pv 1))) pe_int) pe_int) pe_int) pe_int) pa_nil)))))), ?_⟩)
  · obtain ⟨a, ns, k, rfl, _⟩ := h
    rfl
  · obtain ⟨a, ns, k, rfl, hS, hk, q⟩ := h
    refine join (fun c : Int => 0 ≤ c) (R := ?R) (fun tail => ?main) ?tl
    case main =>
      refine ⟨_, rfl, _, rfl, a, _, rfl, .inl hS, _, _, rfl, rfl, _, rfl, ?_⟩
      by_cases hl : (k : Int) < (((ns.map V.int).length : Nat) : Int)
      · have hk2 : k < ns.length := by rw [List.length_map] at hl; omega
        refine ifT (decide_eq_true hl) ?_
        refine ⟨_, rfl, _, rfl, a, _, _, _, rfl, rfl, hS, at_map (List.getElem?_eq_getElem hk2), _, rfl, ?_⟩
        obtain ⟨c, hc, ec⟩ : ∃ c : Int, 0 ≤ c ∧ (if ns[k] < 0 then -ns[k] else ns[k]) = c := ⟨if ns[k] < 0 then -ns[k] else ns[k], by split <;> omega, rfl⟩
        rw [ec]
        exact tail c hc
      · refine ifF (decide_eq_false hl) ?_
        exact tail 0 (by decide)
    case tl =>
      intro c hc
      have c0 := Int.emod_nonneg c (show (2147483543 : Int) ≠ 0 by decide)
      have c1 := Int.emod_lt_of_pos c (show (0 : Int) < 2147483543 by decide)
      refine ⟨_, rfl, _, _, rfl, rfl, ⟨by decide, by decide, by decide⟩, _, _, rfl, rfl, _, _, rfl, ?_⟩
      refine ⟨_, rfl, _, _, rfl, rfl, (by show (0 : Int) < 2147483543; decide), _, rfl, _, _, rfl, rfl, .inl ⟨by decide, by decide⟩, _, _, rfl, rfl, _, _, rfl, rfl, _, _, rfl, rfl, ⟨by decide, by decide, by omega⟩, _, _, rfl, rfl, (by show (0 : Int) < 2147483497; decide), _, _, rfl, rfl, ?_⟩
      refine ⟨(by show 2 ≤ sizeLine; decide), fun p hp => q p _ hp (fun b o e => by rw [upd_ne (ne_of_none e hp)]; exact e) ⟨_, _, upd_same, ?_, ?_, ?_⟩⟩
      · split <;> omega
      · have := Int.emod_nonneg ((c % 2147483543 + 101 * (k : Int) + 7) ^ (2 : Int).toNat) (show (2147483497 : Int) ≠ 0 by decide)
        omega
      · have := Int.emod_lt_of_pos ((c % 2147483543 + 101 * (k : Int) + 7) ^ (2 : Int).toNat) (show (0 : Int) < 2147483497 by decide)
        omega
def spDraw : Sp := fun vs H Q _ => ∃ (r : Addr) (m : Int), vs = [.ref r, .int m] ∧ Rng H r ∧ 1 ≤ m ∧ m ≤ 10 ^ 40 ∧ ∀ d H', 0 ≤ d → d < m → Stp r H H' → Q (.int d) H'
theorem sc__law_draw : FnScope ["_law_rng_here", "_law_many", "_law_mixed", "_law_digit"] ["_law_rng_here", "_law_many"] (defScope (top 45)) := ⟨rfl, rfl, rfl, by decide +kernel, rfl, by decide +kernel, by decide +kernel⟩
theorem ok_draw (T : Tx K mg) (F : FnP K "_law_draw" "_law_draw" (top 45) f fd) : FnOk P w K mg base CX0 1 f fd ["_law_rng_here", "_law_many"] spDraw := by
  refine F.ok sc__law_draw (fun vs H Q E h => ?_) (fun cdv A outer s H vs Q E hr h => ⟨_, PSs.nox (pss_cons (ps_if (pt_cmpR op_gt (pe_ix ix_list (pv 0) pe_int (fun _ _ => rfl)) pe_int (nomark _)) (pss_cons (ps_asg (pe_callB call_divmodW (by rfl) T.n_divmod (by decide +kernel) (pa_cons (pe_ix ix_list (pv 0) pe_int (fun _ _ => rfl)) (pa_cons (pv 1) pa_nil))) (pg_tup (by rfl) (pgs_cons (pg_sub (pv 0) pe_int set_list) (pgs_cons (pg_name (i := 3) sc__law_draw.nd rfl (by first | exact Or.inl rfl | exact Or.inr rfl)) pgs_nil)))) (pss_one (ps_ret (pv 3)))) pss_nil) (pss_cons (ps_asg (pe_op op_mod (pe_op op_add (pe_op op_mul (pe_ix ix_list (pv 0) pe_int (fun _ _ => rfl)) pe_int) pe_int) pe_int) (pg_sub (pv 0) pe_int set_list)) (pss_cons (ps_set (i := 2) sc__law_draw.nd rfl (by first | exact Or.inl rfl | exact Or.inr rfl) (pe_op op_fdivW (pe_op op_mod (pe_op op_mul (pe_ix ix_list (pv 0) pe_int (fun _ _ => rfl)) (pe_ix ix_list (pv 0) pe_int (fun _ _ => rfl))) pe_int) pe_int)) (pss_one (ps_ret (pe_ifExp (pt_cmpR op_lt (pv 1) (pe_op op_pow pe_int pe_int) (nomark _)) (pe_op op_mod (pv 2) (pv 1)) (pe_op op_mod (pe_op op_mul (pe_op op_add (pe_op op_mul (pv 2) pe_int) (pe_ix ix_list (pv 0) pe_int (fun _ _ => rfl))) pe_int) (pv 1)))))))), ?_⟩)
  · obtain ⟨r, m, rfl, _⟩ := h
    rfl
  · obtain ⟨r, m, rfl, ⟨a, b, hR, ha, hb, hb2⟩, m1, m2, q⟩ := h
    have mb : m.natAbs < 2 ^ 200 := by
      have : (10 : Int) ^ 40 < 2 ^ 200 := by decide
      have e : ((2 : Nat) ^ 200 : Nat) = ((2 : Int) ^ 200).natAbs := by decide
      omega
    refine ⟨_, rfl, r, _, _, _, rfl, rfl, SqL.of hR, rfl, _, _, rfl, rfl, _, rfl, ?_⟩
    by_cases h0 : 0 < a
    · refine ifT (decide_eq_true h0) ?_
      refine ⟨_, rfl, r, _, _, _, rfl, rfl, SqL.of hR, rfl, _, rfl, _, _, rfl, ⟨by omega, PyProof.noPylong_of_log2 (Nat.lt_of_lt_of_le (PySem.Flt.log2_lt_of (by decide) mb) (by decide))⟩, fun p hp => ?_⟩
      have nrp : r ≠ p := ne_of_none hR hp
      have hR2 : (upd H p (.tup [.int (a / m), .int (a % m)])) r = some (.lst [.int a, .int b]) := by rw [upd_ne nrp]; exact hR
      refine ⟨p, _, rfl, .inl (.inl upd_same), rfl, _, _, rfl, _, rfl, r, _, _, 0, rfl, rfl, hR2, rfl, _, _, rfl, rfl, ?_⟩
      refine ⟨_, rfl, q _ _ (Int.emod_nonneg _ (by omega)) (Int.emod_lt_of_pos _ (by omega)) ⟨⟨a / m, b, upd_same, Int.ediv_nonneg (by omega) (by omega), hb, hb2⟩, fun c o n e => ?_⟩⟩
      rw [upd_ne n, upd_ne (ne_of_none e hp)]
      exact e
    · refine ifF (decide_eq_false h0) ?_
      have b0 := Int.emod_nonneg (b * 48271 + 10007) (show (2147483587 : Int) ≠ 0 by decide)
      have b1 := Int.emod_lt_of_pos (b * 48271 + 10007) (show (0 : Int) < 2147483587 by decide)
      refine ⟨_, rfl, r, _, _, _, rfl, rfl, SqL.of hR, rfl, _, _, rfl, rfl, .inr ⟨by decide, by decide⟩, _, _, rfl, rfl, _, _, rfl, rfl, (by show (0 : Int) < 2147483587; decide), _, rfl, r, _, _, 1, rfl, rfl, hR, rfl, ?_⟩
      dsimp only
      generalize hB : (b * 48271 + 10007) % 2147483587 = B at *
      have hR2 : (upd H r (.lst [.int a, .int B])) r = some (.lst [.int a, .int B]) := upd_same
      have st : Stp r H (upd H r (.lst [.int a, .int B])) := ⟨⟨a, B, upd_same, ha, b0, b1⟩, fun c o n e => by rw [upd_ne n]; exact e⟩
      refine ⟨_, rfl, r, _, _, _, rfl, rfl, SqL.of hR2, rfl, _, rfl, r, _, _, _, rfl, rfl, SqL.of hR2, rfl, _, _, rfl, rfl, .inl ⟨by omega, by omega⟩, _, _, rfl, rfl, (by show (0 : Int) < 2147483549; decide), _, _, rfl, rfl, wide_div (b := 64) (by decide) (by decide) (by decide) (by decide), ?_⟩
      refine ⟨_, rfl, _, _, rfl, rfl, ⟨by decide, by decide, by decide⟩, _, _, rfl, rfl, _, rfl, ite2 (fun _ => ?_) (fun _ => ?_)⟩
      · exact ⟨_, rfl, _, rfl, _, _, rfl, rfl, (by show (0 : Int) < m; omega), q _ _ (Int.emod_nonneg _ (by omega)) (Int.emod_lt_of_pos _ (by omega)) st⟩
      · refine ⟨_, rfl, _, _, rfl, rfl, .inr ⟨by decide, by decide⟩, _, rfl, r, _, _, _, rfl, rfl, SqL.of hR2, rfl, _, _, rfl, rfl, _, _, rfl, rfl, .inr ⟨by decide, by decide⟩, _, rfl, _, _, rfl, rfl, (by show (0 : Int) < m; omega), ?_⟩
        exact q _ _ (Int.emod_nonneg _ (by omega)) (Int.emod_lt_of_pos _ (by omega)) st
end
end K44

set_option Elab.async false
set_option linter.all false
set_option maxRecDepth 100000
set_option maxHeartbeats 4000000
namespace K44
open PySem PySem.Spec PyProof.Rows L2 Gu Ex
section
variable {P : Program} {w : World} {K : PySem.W.Frag} {mg : Str → Option Value} {base : Heap} {f : Addr} {fd : FuncData}
theorem at_of {xs : List V} {d : Int} (h0 : 0 ≤ d) (h1 : d < xs.length) : ∃ v, atI xs d = some v ∧ v ∈ xs := by
  obtain ⟨n, rfl⟩ := Int.eq_ofNat_of_zero_le h0
  have hn : n < xs.length := by omega
  exact ⟨xs[n], atI_nat (List.getElem?_eq_getElem hn), List.getElem_mem hn⟩
def spChoice : Sp := fun vs H Q _ => ∃ (r o : Addr) (xs : List V), vs = [.ref r, .ref o] ∧ Rng H r ∧ H o = some (.lst xs) ∧ o ≠ r ∧ 1 ≤ xs.length ∧ xs.length ≤ 1000 ∧ ∀ v H', v ∈ xs → Stp r H H' → Q v H'
theorem sc__law_choice : FnScope ["_law_rng_here", "_law_options"] ["_law_rng_here", "_law_options"] (defScope (top 46)) := ⟨rfl, rfl, rfl, by decide +kernel, rfl, by decide +kernel, by decide +kernel⟩
theorem ok_choice (T : Tx K mg) (D__law_draw : Df P w K mg base 1 "_law_draw" ["_law_rng_here", "_law_many"] spDraw) (F : FnP K "_law_choice" "_law_choice" (top 46) f fd) : FnOk P w K mg base CX0 2 f fd ["_law_rng_here", "_law_options"] spChoice := by
  refine F.ok sc__law_choice (fun vs H Q E h => ?_) (fun cdv A outer s H vs Q E hr h => ⟨_, PSs.nox (pss_one (ps_ret (pe_ix ix_list (pv 1) (pcall D__law_draw hr (pa_cons (pv 0) (pa_cons (pe_callB call_len_seq (by rfl) T.n_len (by decide +kernel) (pa_cons (pv 1) pa_nil)) pa_nil))) (fun _ _ => rfl)))), ?_⟩)
  · obtain ⟨r, o, xs, rfl, _⟩ := h
    rfl
  · obtain ⟨r, o, xs, rfl, hR, hO, ne, l1, l2, q⟩ := h
    refine ⟨_, rfl, _, rfl, _, rfl, o, _, rfl, .inl (SqL.of hO), r, _, rfl, hR, by omega, ?_, fun d H1 d0 d1 st => ?_⟩
    · have : (1000 : Int) ≤ 10 ^ 40 := by decide
      omega
    · obtain ⟨v, hv, hm⟩ := at_of d0 d1
      exact ⟨o, _, _, v, rfl, rfl, SqL.of (st.2 o _ ne hO), hv, q v H1 hm st⟩
theorem good_one : Good [1] := ⟨⟨by decide, by decide⟩, rfl, fun i x h => by
    cases i with
    | zero => cases h; decide
    | succ i => simp at h, fun i x y h1 h2 => by
    cases i with
    | zero => simp at h2
    | succ i => simp at h1⟩
theorem good_more {ns : List Int} {x k : Int} (g : Good ns) (hl : ns.length < 8) (hx : ns[ns.length - 1]? = some x) (hk : 2 ≤ k) (hm : x * k ≤ 1000000000) : Good (ns ++ [x * k]) := by
  have l := g.len
  have xr := g.rng _ _ hx
  have gt : x < x * k := by
    have := Int.mul_le_mul_of_nonneg_left hk (show (0 : Int) ≤ x by omega)
    omega
  refine ⟨⟨by rw [List.length_append, List.length_singleton]; omega, by rw [List.length_append, List.length_singleton]; omega⟩, ?_, fun i y h => ?_, fun i y z h1 h2 => ?_⟩
  · rw [List.getElem?_append_left (by omega)]
    exact g.one
  · by_cases hi : i < ns.length
    · rw [List.getElem?_append_left hi] at h
      exact g.rng i y h
    · rw [List.getElem?_append_right (by omega)] at h
      have hi2 : i - ns.length = 0 := by
        cases e : i - ns.length with
        | zero => rfl
        | succ n => rw [e] at h; simp at h
      rw [hi2] at h
      have e : x * k = y := Option.some.inj h
      omega
  · by_cases hi : i + 1 < ns.length
    · rw [List.getElem?_append_left hi] at h2
      rw [List.getElem?_append_left (by omega)] at h1
      exact g.up i y z h1 h2
    · by_cases hi2 : i + 1 = ns.length
      · rw [List.getElem?_append_left (by omega)] at h1
        rw [List.getElem?_append_right (by omega), hi2, Nat.sub_self] at h2
        have e : x * k = z := Option.some.inj h2
        rw [show i = ns.length - 1 by omega, hx] at h1
        have e2 : x = y := Option.some.inj h1
        rw [← e, ← e2]
        exact ⟨gt, Int.mul_emod_right x k⟩
      · rw [List.getElem?_append_right (by omega)] at h2
        cases e : i + 1 - ns.length with
        | zero => omega
        | succ n => rw [e] at h2; simp at h2
def spSizes : Sp := fun vs H Q _ => ∃ (r : Addr) (lv gr : Int), vs = [.ref r, .int lv, .int gr] ∧ Rng H r ∧ 1 ≤ lv ∧ lv ≤ 8 ∧ 2 ≤ gr ∧ gr ≤ 1000000 ∧
  ∀ l ns H', Good ns → H l = none → H' l = some (.lst (ns.map V.int)) → Stp r H H' → Q (.ref l) H'
theorem at_last (ys : List Int) (x : Int) : atI ((ys ++ [x]).map V.int) (-1) = some (.int x) := by
  rw [List.map_append]
  exact atI_last _ _
theorem last_of : ∀ {ns : List Int}, 1 ≤ ns.length → ∃ ys x, ns = ys ++ [x]
  | [], h => absurd h (by decide)
  | [x], _ => ⟨[], x, rfl⟩
  | a :: b :: r, _ => by
    obtain ⟨ys, x, e⟩ := last_of (ns := b :: r) (by simp)
    exact ⟨a :: ys, x, by rw [e]; rfl⟩
theorem last_get (ys : List Int) (x : Int) : (ys ++ [x])[(ys ++ [x]).length - 1]? = some x := by
  rw [List.length_append, List.length_singleton, Nat.add_sub_cancel, List.getElem?_append_right (Nat.le_refl _), Nat.sub_self]
  rfl
theorem sc__law_sizes : FnScope ["_law_rng_here", "_law_levels", "_law_greatest", "_law_result", "_law_k", "_law_factor"] ["_law_rng_here", "_law_levels", "_law_greatest"] (defScope (top 47)) := ⟨rfl, rfl, rfl, by decide +kernel, rfl, by decide +kernel, by decide +kernel⟩
theorem ok_sizes (T : Tx K mg) (D__law_draw : Df P w K mg base 1 "_law_draw" ["_law_rng_here", "_law_many"] spDraw) (F : FnP K "_law_sizes" "_law_sizes" (top 47) f fd) :
    FnOk P w K mg base CX0 2 f fd ["_law_rng_here", "_law_levels", "_law_greatest"] spSizes := by
  refine F.ok sc__law_sizes (fun vs H Q E h => ?_) (fun cdv A outer s H vs Q E hr h => ⟨_, PSs.nox (pss_cons (ps_set (i := 3) sc__law_sizes.nd rfl (by first | exact Or.inl rfl | exact Or.inr rfl) (pe_lst (pa_cons pe_int pa_nil))) (pss_cons (ps_for PassesOwn.never rfl (pi_range1 rfl T.n_range (pa_cons (pcall D__law_draw hr (pa_cons (pv 0) (pa_cons (pv 1) pa_nil))) pa_nil)) (pg_name (i := 4) sc__law_sizes.nd rfl (by first | exact Or.inl rfl | exact Or.inr rfl)) (pss_cons (ps_set (i := 5) sc__law_sizes.nd rfl (by first | exact Or.inl rfl | exact Or.inr rfl) (pe_ix ix_list (pe_lst (pa_cons pe_int (pa_cons pe_int (pa_cons pe_int (pa_cons pe_int (pa_cons (pe_op op_add pe_int (pcall D__law_draw hr (pa_cons (pv 0) (pa_cons (pe_op op_sub (pv 2) pe_int) pa_nil)))) pa_nil)))))) (pcall D__law_draw hr (pa_cons (pv 0) (pa_cons pe_int pa_nil))) (fun _ _ => rfl))) (pss_one (ps_if (PW.pt (pw_and (pt_cmpR op_le (pe_op op_mul (pe_ix ix_list (pv 3) (pe_un un_neg pe_int) (fun _ _ => rfl)) (pv 5)) (pe_op op_pow pe_int pe_int) (nomark _)) (pw_and1 (pt_cmpR op_le (pv 5) (pv 2) (nomark _))))) (pss_one (ps_expr (pe_bm PySem.F.plainAttrs_list PySem.F.slot_list_append PySem.F.type_list_append mt_append (pv 3) (pa_cons (pe_op op_mul (pe_ix ix_list (pv 3) (pe_un un_neg pe_int) (fun _ _ => rfl)) (pv 5)) pa_nil)))) pss_nil)))) (pss_one (ps_ret (pv 3))))), ?_⟩)
  · obtain ⟨r, lv, gr, rfl, _⟩ := h
    rfl
  · obtain ⟨r, lv, gr, rfl, hR, l1, l2, g1, g2, q⟩ := h
    have big : (10 : Int) ^ 40 = 10000000000000000000000000000000000000000 := by decide
    refine ⟨(by show 1 ≤ sizeLine; decide), fun l hl => ?_⟩
    have nrl : r ≠ l := hR.ne hl
    have s0 : Stp r H (upd H l (.lst [.int 1])) := (Stp.refl hR).new hl
    refine ⟨_, rfl, _, rfl, r, lv, rfl, s0.1, l1, by omega, fun d H1 d0 d1 s1 => ?_⟩
    refine ⟨d, rfl, by omega, by omega, ?_⟩
    have s01 := s0.trans s1
    refine for_range (fun i σ H' => ∃ ns x y, σ = [some (.ref r), some (.int lv), some (.int gr), some (.ref l), x, y] ∧ Good ns ∧ ns.length ≤ i + 1 ∧ H' l = some (.lst (ns.map V.int)) ∧ Stp r H H') ⟨[1], none, none, rfl, good_one, by simp, s1.2 l _ nrl.symm upd_same, s01⟩ ?_ ?_
    · rintro i σ H' hi ⟨ns, x, y, rfl, g, hlen, hL, st⟩
      have hi8 : i < 8 := by omega
      obtain ⟨ys, z, rfl⟩ := last_of g.len.1
      have zr := g.rng _ _ (last_get ys z)
      refine ⟨_, rfl, _, rfl, _, _, rfl, rfl, r, gr - 1, rfl, st.1, by omega, by omega, fun d1 H1 a0 a1 t1 => ?_⟩
      have st1 := st.trans t1
      have hL1 : H1 l = some (.lst ((ys ++ [z]).map V.int)) := t1.2 l _ nrl.symm hL
      refine ⟨_, _, rfl, rfl, (by show 5 ≤ sizeLine; decide), fun t ht => ?_⟩
      have st2 := st1.new (o := .lst [.int 2, .int 2, .int 3, .int 4, .int (2 + d1)]) ht
      have nrt : r ≠ t := st1.1.ne ht
      have hL2 : (upd H1 t (.lst [.int 2, .int 2, .int 3, .int 4, .int (2 + d1)])) l = some (.lst ((ys ++ [z]).map V.int)) := by rw [upd_ne (ne_of_none hL1 ht)]; exact hL1
      refine ⟨_, rfl, r, 5, rfl, st2.1, by decide, by omega, fun d2 H3 b0 b1 t3 => ?_⟩
      have st3 := st2.trans t3
      have hL3 : H3 l = some (.lst ((ys ++ [z]).map V.int)) := t3.2 l _ nrl.symm hL2
      obtain ⟨v, hv, hm⟩ := at_of (xs := [.int 2, .int 2, .int 3, .int 4, .int (2 + d1)]) b0 b1
      obtain ⟨k, rfl, k2⟩ : ∃ k : Int, v = .int k ∧ 2 ≤ k := by
        simp only [List.mem_cons, List.not_mem_nil, or_false] at hm
        rcases hm with rfl | rfl | rfl | rfl | rfl
        · exact ⟨_, rfl, by omega⟩
        · exact ⟨_, rfl, by omega⟩
        · exact ⟨_, rfl, by omega⟩
        · exact ⟨_, rfl, by omega⟩
        · exact ⟨_, rfl, by omega⟩
      refine ⟨t, _, _, _, rfl, rfl, SqL.of (t3.2 t _ nrt.symm upd_same), hv, ?_⟩
      refine ⟨_, rfl, _, rfl, l, _, _, _, rfl, rfl, SqL.of hL3, at_last ys z, _, rfl, _, _, rfl, rfl, .inl ⟨by omega, by omega⟩, _, _, rfl, rfl, ⟨by decide, by decide, by decide⟩, _, _, rfl, rfl, _, rfl, ?_⟩
      by_cases hc : z * k ≤ 10 ^ (9 : Int).toNat
      · refine ifT (decide_eq_true hc) ?_
        refine ⟨_, rfl, _, rfl, _, _, rfl, rfl, _, rfl, ite2 (fun hk => ?_) (fun _ => ?_)⟩
        · refine ⟨_, rfl, .inl ⟨rfl, _, SqL.of hL3⟩, _, rfl, _, rfl, l, _, _, _, rfl, rfl, SqL.of hL3, at_last ys z, _, rfl, _, _, rfl, rfl, .inl ⟨by omega, by omega⟩, l, _, _, rfl, rfl, hL3, ?_, ?_⟩
          · exact small1000 (by rw [List.length_map]; omega)
          · have hc2 : z * k ≤ 1000000000 := hc
            refine ⟨(ys ++ [z]) ++ [z * k], _, _, rfl, good_more g (by omega) (last_get ys z) k2 hc2, by rw [List.length_append (bs := [z * k]), List.length_singleton]; omega, ?_, ?_⟩
            · rw [upd_same, List.map_append (l₂ := [z * k])]
              rfl
            · obtain ⟨⟨x1, x2, e1, e2⟩, kk⟩ := st3
              refine ⟨⟨x1, x2, by rw [upd_ne nrl]; exact e1, e2⟩, fun b o n e => ?_⟩
              rw [upd_ne (ne_of_none e hl)]
              exact kk b o n e
        · exact ⟨_, _, _, rfl, g, by omega, hL3, st3⟩
      · exact ifF (decide_eq_false hc) ⟨_, _, _, rfl, g, by omega, hL3, st3⟩
    · rintro σ H' ⟨ns, x, y, rfl, g, hlen, hL, st⟩
      exact ⟨_, rfl, q l ns H' g hl hL st⟩
end
end K44

set_option Elab.async false
set_option linter.all false
set_option maxRecDepth 100000
set_option maxHeartbeats 4000000
/-! Own layer: range(a, b, c) of any whole numbers a, b and a step from 1 to 2^30; a comprehension over it. -/
namespace Ex
open PySem PySem.Spec PyProof.Rows L2 Gu
theorem turn_longC {P : Program} {w : World} {K : PySem.W.Frag} {tg : Expr} (it : Addr) (lo c : Int) (n : Nat) :
    Turn P w K tg (Itc lo c n) [it] it (fun i h => IsLongIter h it (lo + (i : Nat) * c) ((n : Int) - (i : Nat)) c) where
  mem := List.mem_singleton.mpr rfl
  obj := fun i h st b hb => by
    obtain rfl := List.mem_singleton.mp hb
    exact ⟨_, st, fun v z => nomatch (show Data.fields _ = Data.cell v from z)⟩
  keep := fun i h h' st k => k it (List.mem_singleton.mpr rfl) _ st
  item := by
    rintro X rfl rfl rfl hc i pins s σ H E I hf st hg
    obtain ⟨f0, f1, f2, f3, f4, f5⟩ := hf it (List.mem_singleton.mpr rfl)
    refine (Walks.longrange (prog := X.prog) (w := X.w) (I.ok.hd hc) it lo c n).item i s _ _ hg st fun v h' tk hv st' kk => ?_
    obtain ⟨t, rfl⟩ := hv
    have J : Inv X pins σ H { s with heap := h', toks := tk } := I.turned (fun b o hb e => kk b o (fun z => hb (List.mem_singleton.mp z)) e) f0 f1 f3 f4 f5
    exact ⟨_, rfl, go_of (s := { s with heap := h', toks := tk }) (n := "longrange_iterator") st' rfl rfl (by decide) ⟨.int (lo + (i : Nat) * c), H, J, ⟨t, rfl⟩, ⟨rfl, rfl⟩, st', fun b hb => (hf b hb).1⟩⟩
  done := by
    rintro X rfl rfl rfl hc i pins s σ H E I hf st hg
    obtain ⟨f0, f1, f2, f3, f4, f5⟩ := hf it (List.mem_singleton.mpr rfl)
    have hn : n ≤ i := hg
    exact wpAny_pyNext_long_end (I.ok.hd hc) st (by omega) fun h' eb => ⟨rfl, I.turned (t' := s.toks) (fun b o hb e => eb b o hb e) f0 f1 f3 f4 f5⟩
  self := fun _ _ _ _ _ st h => wpAny_pyIter_longiter st h
section
variable {X : Cx} {tg : Expr}
theorem range_anyC {pins : List (Addr × Obj)} {σ : L2.St} {H : Hp} {s : Shared} {R : It → Hp → Prop} {E : Value → Shared → Prop} {lo hi c : Int} {t u v : Tok} {tk : Nat} (I : Inv X pins σ H s) (q : R (Itc lo c (Builtin.Range.rangeSize lo hi c).toNat) H) :
    wpAny (model X.prog X.w) X.A (pyIter (.ref s.heap.objs.size)) (PIE X pins σ tg R) E { s with heap := s.heap.push { cls := .type "range", data := .fields #[.int lo t, .int hi u, .int c v] }, toks := tk } := by
  have J : Inv X pins σ H { s with heap := s.heap.push { cls := .type "range", data := .fields #[.int lo t, .int hi u, .int c v] }, toks := tk } := I.kept fun b o e => Heap.get?_push_of_some _ e
  have e1 : lo + ((0 : Nat) : Int) * c = lo := by simp
  have e2 : (((Builtin.Range.rangeSize lo hi c).toNat : Nat) : Int) - ((0 : Nat) : Int) = Builtin.Range.rangeSize lo hi c := by
    rw [← rangeSize_toNat]
    simp
  have fr : ∀ b ∈ [(s.heap.push { cls := .type "range", data := .fields #[.int lo t, .int hi u, .int c v] }).objs.size], _ := fun b hb => by
    obtain rfl := List.mem_singleton.mp hb
    exact J.fpOk (Nat.le_refl _) (J.hok.fresh (Nat.le_refl _))
  cases hs : Builtin.Range.small lo hi c with
  | true =>
    refine wpAny_pyIter_range (IsRange.new ..) hs ⟨_, [_], _, _, H, rfl, J.kept (t' := tk) fun b o e => Heap.get?_push_of_some _ e, turn_rangeC _ lo c (Builtin.Range.rangeSize lo hi c).toNat, ?_, fr, q⟩
    show IsRangeIter _ _ (lo + ((0 : Nat) : Int) * c) ((((Builtin.Range.rangeSize lo hi c).toNat : Nat) : Int) - ((0 : Nat) : Int)) c
    rw [e1, e2]
    exact Heap.get?_push_size _ rfl
  | false =>
    refine wpAny_pyIter_longrange (IsRange.new ..) hs ⟨_, [_], _, _, H, rfl, J.kept (t' := tk) fun b o e => Heap.get?_push_of_some _ e, turn_longC _ lo c (Builtin.Range.rangeSize lo hi c).toNat, ?_, fr, q⟩
    show IsLongIter _ _ (lo + ((0 : Nat) : Int) * c) ((((Builtin.Range.rangeSize lo hi c).toNat : Nat) : Int) - ((0 : Nat) : Int)) c
    rw [e1, e2]
    exact Heap.get?_push_size _ rfl
/-- how many turns range(i, j, c) has -/
def stepsN (i j c : Int) : Nat := (Builtin.Range.rangeSize i j c).toNat
def iRngS (ta : TA) : TI := fun σ H R => ta σ H fun vs H1 => ∃ i j c : Int, vs = [.int i, .int j, .int c] ∧ 1 ≤ c ∧ c < 1073741824 ∧ R (Itc i c (stepsN i j c)) H1
theorem pi_rangeS {a b c : Expr} {ta : TA} {p pos : Pos} (hg : Gl X "range") (hm : X.mg "range" = none) (ha : PA X [a, b, c] ta)
    (hs : starEach [a, b, c] X.env = (false, eval a X.env) :: starEach [b, c] X.env := by rfl) (hpl : (backTo pos (starEach [b, c] X.env)).any (·.1) = false := by rfl) :
    PI X tg (.Call (.Name "range" p) [a, b, c] [] pos) (iRngS ta) := by
  refine ⟨fun pins s σ H R I h => ?_⟩
  refine Call_ (ld_blt I hg hm boot_range (PyProof.Rows.callWith_type1 (thn (ha.run pos pins s σ H _ I h) fun us s1 ⟨vs, H1, I1, r1, q1⟩ => ?_) hs hpl))
  obtain ⟨i, j, k, e, c0, c1, q⟩ := q1
  subst e
  cases r1 with
  | cons r rr =>
    cases rr with
    | cons r' rr =>
      cases rr with
      | cons r'' rr =>
        cases rr
        obtain ⟨t, rfl⟩ := r
        obtain ⟨t', rfl⟩ := r'
        obtain ⟨t'', rfl⟩ := r''
        exact call_range_3 (by omega) (range_anyC (tk := s1.toks) I1 q) (.inl (PyProof.noPylong_small (by omega)))
end
theorem steps_le {i j c : Int} (hc : 1 ≤ c) (h : j - i ≤ 100) : stepsN i j c ≤ 100 := by
  unfold stepsN Builtin.Range.rangeSize
  rw [if_pos (by omega)]
  split
  · have h1 := Int.ediv_le_self c (show (0 : Int) ≤ j - i - 1 by omega)
    omega
  · decide
/-- the turns reach every step below the end, and no other -/
theorem steps_lt {i j c : Int} (hc : 1 ≤ c) (n : Nat) : n < stepsN i j c ↔ i + (n : Int) * c < j := by
  unfold stepsN Builtin.Range.rangeSize
  rw [if_pos (by omega)]
  by_cases hij : i < j
  · rw [if_pos hij]
    have d0 : 0 ≤ (j - i - 1) / c := Int.ediv_nonneg (by omega) (by omega)
    have e1 := Int.mul_ediv_add_emod (j - i - 1) c
    have e2 := Int.emod_nonneg (j - i - 1) (show c ≠ 0 by omega)
    have e3 := Int.emod_lt_of_pos (j - i - 1) (show 0 < c by omega)
    generalize (j - i - 1) / c = q at *
    constructor
    · intro h
      have h2 : (n : Int) ≤ q := by omega
      have h3 := Int.mul_le_mul_of_nonneg_left h2 (show 0 ≤ c by omega)
      have h4 : (n : Int) * c = c * n := Int.mul_comm _ _
      omega
    · intro h
      have h4 : (n : Int) * c = c * n := Int.mul_comm _ _
      have h2 : (n : Int) ≤ q := by
        refine Int.not_lt.mp fun z => ?_
        have h3 := Int.mul_le_mul_of_nonneg_left (show q + 1 ≤ (n : Int) by omega) (show 0 ≤ c by omega)
        rw [Int.mul_add, Int.mul_one] at h3
        omega
      omega
  · rw [if_neg hij]
    have : 0 ≤ (n : Int) * c := Int.mul_nonneg (by omega) (by omega)
    constructor
    · intro h
      have : n < (0 : Int).toNat := h
      exact absurd this (Nat.not_lt_zero _)
    · intro h
      omega
/-- a comprehension over such a range -/
theorem lc_rangeC {lo c : Int} {n : Nat} {g : TG} {tt : TT} {te : TE} {vs : List Nat} {σ : L2.St} {H1 : Hp} {D : Addr} {Qd : Hp → Prop} (Pv : Nat → Hp → Prop) (h0 : Pv 0 (upd H1 D (.lst [])))
    (hs : ∀ i H, i < n → Pv i H → g (.int (lo + (i : Nat) * c)) (wipe σ vs) H fun σ2 H2 => wipe σ2 vs = wipe σ vs ∧ tt σ2 H2 fun b H3 =>
      if b = true then te σ2 H3 fun y H4 => ∃ acc, H4 D = some (.lst acc) ∧ acc.length < sizeLine ∧ Pv (i + 1) (upd H4 D (.lst (acc ++ [y]))) else Pv (i + 1) H3) (hd : ∀ H, Pv n H → Qd H) :
    ∃ W : Nat → Nat → Hp → Prop, (∃ m, W 0 m (upd H1 D (.lst []))) ∧ ∀ i m H, W i m H →
      ((Itc lo c n).stop i H ∧ Qd H) ∨ ((Itc lo c n).go i H ∧ ∃ Nx : Hp → Prop, (∀ H', Nx H' → ∃ m', m' < m ∧ W (i + 1) m' H') ∧ ∀ x H', (Itc lo c n).yld i H x H' → g x (wipe σ vs) H' fun σ2 H2 => wipe σ2 vs = wipe σ vs ∧ tt σ2 H2 fun b H3 =>
        if b = true then te σ2 H3 fun y H4 => ∃ acc, H4 D = some (.lst acc) ∧ acc.length < sizeLine ∧ Nx (upd H4 D (.lst (acc ++ [y]))) else Nx H3) := by
  refine ⟨fun i m H => m = n - i ∧ i ≤ n ∧ Pv i H, ⟨n, by simp, Nat.zero_le _, h0⟩, ?_⟩
  rintro i m H ⟨rfl, hi, p⟩
  by_cases hlt : i < n
  · refine .inr ⟨hlt, Pv (i + 1), fun H' p' => ⟨n - (i + 1), by omega, rfl, hlt, p'⟩, fun x H' y => ?_⟩
    obtain ⟨e, y⟩ := y
    subst e y
    exact hs i _ hlt p
  · have e : i = n := by omega
    subst e
    exact .inl ⟨Nat.le_refl _, hd H p⟩
end Ex

set_option Elab.async false
set_option linter.all false
/-! The mathematics of maximal regions: sizes that divide each other, a range from lo to hi. -/
namespace M16
structure Ch (s : Nat → Int) (m : Nat) : Prop where
  m1 : 1 ≤ m
  one : s 0 = 1
  pos : ∀ k, k < m → 1 ≤ s k
  dv : ∀ k, k + 1 < m → s k ∣ s (k + 1)
theorem Ch.dvd {s : Nat → Int} {m : Nat} (c : Ch s m) {j : Nat} : ∀ {k : Nat}, j ≤ k → k < m → s j ∣ s k
  | 0, h, _ => by
    rw [show j = 0 by omega]
    exact Int.dvd_refl _
  | k + 1, h, hk => by
    by_cases e : j = k + 1
    · rw [e]
      exact Int.dvd_refl _
    · exact Int.dvd_trans (Ch.dvd c (show j ≤ k by omega) (by omega)) (c.dv k hk)
theorem gap {z q e : Int} (h1 : z ∣ q) (h2 : z ∣ e) (h : q < e) : q + z ≤ e := by
  have := Int.le_of_dvd (by omega) (Int.dvd_sub h2 h1)
  omega
theorem mod0 {z x : Int} (h : z ∣ x) : x % z = 0 := Int.emod_eq_zero_of_dvd h
theorem dvd0 {z x : Int} (h : x % z = 0) : z ∣ x := Int.dvd_of_emod_eq_zero h
theorem fl_dvd (z x : Int) : z ∣ x - x % z := ⟨x / z, by have := Int.mul_ediv_add_emod x z; omega⟩
theorem fl_le {z : Int} (x : Int) (hz : 1 ≤ z) : x - x % z ≤ x := by
  have := Int.emod_nonneg x (show z ≠ 0 by omega)
  omega
theorem fl_lt {z : Int} (x : Int) (hz : 1 ≤ z) : x < x - x % z + z := by
  have := Int.emod_lt_of_pos x (show 0 < z by omega)
  omega
theorem fl_eq {z q x : Int} (hz : 1 ≤ z) (h : z ∣ q) (h1 : q ≤ x) (h2 : x < q + z) : x - x % z = q := by
  have a := fl_le x hz
  have b := fl_lt x hz
  have d := fl_dvd z x
  rcases Int.lt_trichotomy (x - x % z) q with e | e | e
  · have := gap d h e
    omega
  · exact e
  · have := gap h d e
    omega
theorem fl_ge {z q x : Int} (hz : 1 ≤ z) (h : z ∣ q) (h1 : q ≤ x) : q ≤ x - x % z := by
  have b := fl_lt x hz
  refine Int.not_lt.mp fun e => ?_
  have := gap (fl_dvd z x) h e
  omega
/-- the least multiple from a on -/
def nx (z a : Int) : Int := -(-a / z) * z
theorem nx_is (z a : Int) : nx z a = a + (-a) % z := by
  have e := Int.mul_ediv_add_emod (-a) z
  have h : nx z a = -(z * (-a / z)) := by
    unfold nx
    rw [Int.neg_mul, Int.mul_comm]
  omega
theorem nx_dvd (z a : Int) : z ∣ nx z a := ⟨-(-a / z), by unfold nx; rw [Int.mul_comm]⟩
theorem nx_ge {z : Int} (a : Int) (hz : 1 ≤ z) : a ≤ nx z a := by
  have := Int.emod_nonneg (-a) (show z ≠ 0 by omega)
  rw [nx_is]
  omega
theorem nx_lt {z : Int} (a : Int) (hz : 1 ≤ z) : nx z a < a + z := by
  have := Int.emod_lt_of_pos (-a) (show 0 < z by omega)
  rw [nx_is]
  omega
theorem nx_least {z a q : Int} (hz : 1 ≤ z) (h : z ∣ q) (ha : a ≤ q) : nx z a ≤ q := by
  refine Int.not_lt.mp fun e => ?_
  have := gap h (nx_dvd z a) e
  have := nx_lt a hz
  omega
theorem nx_self {z a : Int} (hz : 1 ≤ z) (h : z ∣ a) : nx z a = a := by
  have := nx_ge a hz
  have := nx_least hz h (Int.le_refl a)
  omega
/-- count_regions is positive just if the first region ends by b -/
theorem cnt_pos {z a b : Int} (hz : 1 ≤ z) : 0 < ((b - b % z) - nx z a) / z ↔ nx z a + z ≤ b := by
  have h : (1 : Int) ≤ ((b - b % z) - nx z a) / z ↔ 1 * z ≤ (b - b % z) - nx z a := Int.le_ediv_iff_mul_le (by omega)
  rw [Int.one_mul] at h
  have l := fl_le b hz
  constructor
  · intro k
    have := h.mp (by omega)
    omega
  · intro k
    have d : z ∣ nx z a + z := Int.dvd_add (nx_dvd z a) (Int.dvd_refl z)
    have := fl_ge hz d k
    have := h.mpr (by omega)
    omega
section
variable (s : Nat → Int) (m : Nat) (hi : Int)
def Lies (a : Int) (k : Nat) : Prop := a % s k = 0 ∧ a + s k ≤ hi
instance (a : Int) (k : Nat) : Decidable (Lies s hi a k) := inferInstanceAs (Decidable (a % s k = 0 ∧ a + s k ≤ hi))
/-- the highest level of a region at a, sought from n down -/
def lev (a : Int) : Nat → Nat
  | 0 => 0
  | n + 1 => if Lies s hi a (n + 1) then n + 1 else lev a n
def L (a : Int) : Nat := lev s hi a (m - 1)
def en (a : Int) : Int := if L s m hi a + 1 < m ∧ nx (s (L s m hi a + 1)) a + s (L s m hi a + 1) ≤ hi then nx (s (L s m hi a + 1)) a else hi - hi % s (L s m hi a)
/-- no region that lies in the range goes across a -/
def B (lo a : Int) : Prop := ∀ j, j < m → a % s j ≠ 0 → ¬ (lo ≤ a - a % s j ∧ a - a % s j + s j ≤ hi)
abbrev Run : Type := Nat × Int × Int
def run (a : Int) : Run := (L s m hi a, a, (en s m hi a - a) / s (L s m hi a))
def lay : Nat → Int → List Run
  | 0, _ => []
  | n + 1, a => if a < hi then run s m hi a :: lay n (en s m hi a) else []
def R (a : Int) : List Run := lay s m hi (hi - a).toNat a
end
section
variable {s : Nat → Int} {m : Nat} {hi a lo : Int}
theorem lev_le : ∀ n, lev s hi a n ≤ n
  | 0 => Nat.le_refl _
  | n + 1 => by
    show (if Lies s hi a (n + 1) then n + 1 else lev s hi a n) ≤ n + 1
    split
    · exact Nat.le_refl _
    · have := lev_le n
      omega
theorem lev_lies (h0 : Lies s hi a 0) : ∀ n, Lies s hi a (lev s hi a n)
  | 0 => h0
  | n + 1 => by
    show Lies s hi a (if Lies s hi a (n + 1) then n + 1 else lev s hi a n)
    split
    · assumption
    · exact lev_lies h0 n
theorem lev_max : ∀ n j, j ≤ n → lev s hi a n < j → ¬ Lies s hi a j
  | 0, j, h, h2 => by
    have : lev s hi a 0 = 0 := rfl
    omega
  | n + 1, j, h, h2 => by
    have e : lev s hi a (n + 1) = if Lies s hi a (n + 1) then n + 1 else lev s hi a n := rfl
    by_cases hl : Lies s hi a (n + 1)
    · rw [e, if_pos hl] at h2
      omega
    · rw [e, if_neg hl] at h2
      by_cases ej : j = n + 1
      · rw [ej]
        exact hl
      · exact lev_max n j (by omega) h2
theorem lies0 (c : Ch s m) (h : a < hi) : Lies s hi a 0 := by
  unfold Lies
  rw [c.one]
  exact ⟨Int.emod_one a, by omega⟩
theorem L_lt (c : Ch s m) : L s m hi a < m := by
  have := lev_le (s := s) (hi := hi) (a := a) (m - 1)
  have := c.m1
  show lev s hi a (m - 1) < m
  omega
theorem L_lies (c : Ch s m) (h : a < hi) : Lies s hi a (L s m hi a) := lev_lies (lies0 c h) _
theorem L_max (c : Ch s m) {j : Nat} (hj : j < m) (h : L s m hi a < j) : ¬ Lies s hi a j := lev_max (m - 1) j (by omega) h
theorem lies_down (c : Ch s m) {j k : Nat} (h : j ≤ k) (hk : k < m) (x : Lies s hi a k) : Lies s hi a j := by
  have d := c.dvd h hk
  have p := c.pos k hk
  have l := Int.le_of_dvd (by omega) d
  exact ⟨mod0 (Int.dvd_trans d (dvd0 x.1)), by have := x.2; omega⟩
theorem en1 (c1 : L s m hi a + 1 < m ∧ nx (s (L s m hi a + 1)) a + s (L s m hi a + 1) ≤ hi) : en s m hi a = nx (s (L s m hi a + 1)) a := if_pos c1
theorem en2 (c2 : ¬ (L s m hi a + 1 < m ∧ nx (s (L s m hi a + 1)) a + s (L s m hi a + 1) ≤ hi)) : en s m hi a = hi - hi % s (L s m hi a) := if_neg c2
theorem en_gt (c : Ch s m) (h : a < hi) : a < en s m hi a := by
  have hl := L_lies c h
  have hm := L_lt (a := a) (hi := hi) c
  by_cases c1 : L s m hi a + 1 < m ∧ nx (s (L s m hi a + 1)) a + s (L s m hi a + 1) ≤ hi
  · rw [en1 c1]
    have z := c.pos _ c1.1
    have g := nx_ge a z
    refine Int.not_le.mp fun hle => ?_
    have e : a = nx (s (L s m hi a + 1)) a := by omega
    refine L_max c c1.1 (Nat.lt_succ_self _) ⟨mod0 ?_, ?_⟩
    · have d := nx_dvd (s (L s m hi a + 1)) a
      rw [← e] at d
      exact d
    · have := c1.2
      rw [← e] at this
      exact this
  · rw [en2 c1]
    have z := c.pos _ hm
    have := fl_ge (x := hi) z (Int.dvd_add (dvd0 hl.1) (Int.dvd_refl _)) hl.2
    omega
theorem en_le (c : Ch s m) : en s m hi a ≤ hi := by
  by_cases c1 : L s m hi a + 1 < m ∧ nx (s (L s m hi a + 1)) a + s (L s m hi a + 1) ≤ hi
  · rw [en1 c1]
    have := c.pos _ c1.1
    have := c1.2
    omega
  · rw [en2 c1]
    exact fl_le hi (c.pos _ (L_lt c))
theorem en_dvd (c : Ch s m) : s (L s m hi a) ∣ en s m hi a := by
  by_cases c1 : L s m hi a + 1 < m ∧ nx (s (L s m hi a + 1)) a + s (L s m hi a + 1) ≤ hi
  · rw [en1 c1]
    exact Int.dvd_trans (c.dv _ c1.1) (nx_dvd _ _)
  · rw [en2 c1]
    exact fl_dvd _ _
/-- one way up, the other down -/
theorem up (c : Ch s m) (c1 : L s m hi a + 1 < m ∧ nx (s (L s m hi a + 1)) a + s (L s m hi a + 1) ≤ hi) : en s m hi a < hi ∧ L s m hi a < L s m hi (en s m hi a) := by
  have z := c.pos _ c1.1
  have e := en1 c1
  have h2 := c1.2
  rw [← e] at h2
  refine ⟨by omega, Nat.lt_of_not_le fun hle => ?_⟩
  refine L_max (a := en s m hi a) c c1.1 (by omega) ⟨mod0 ?_, h2⟩
  rw [e]
  exact nx_dvd _ _
def NoHi (s : Nat → Int) (m : Nat) (hi a : Int) : Prop := ¬ (L s m hi a + 1 < m ∧ nx (s (L s m hi a + 1)) a + s (L s m hi a + 1) ≤ hi)
theorem down (c : Ch s m) (c2 : NoHi s m hi a) (h : en s m hi a < hi) : L s m hi (en s m hi a) < L s m hi a ∧ NoHi s m hi (en s m hi a) := by
  have e := en2 c2
  have hm := L_lt (a := a) (hi := hi) c
  have z := c.pos _ hm
  have l := fl_lt hi z
  have dk : s (L s m hi a) ∣ en s m hi a := en_dvd c
  have lt : L s m hi (en s m hi a) < L s m hi a := Nat.lt_of_not_le fun hle => by
    have x := lies_down c hle (L_lt c) (L_lies c h)
    have := x.2
    omega
  refine ⟨lt, fun c1 => ?_⟩
  have d := Int.dvd_trans (c.dvd (show L s m hi (en s m hi a) + 1 ≤ L s m hi a by omega) hm) dk
  have n := nx_self (c.pos _ c1.1) d
  have k := c1.2
  rw [n] at k
  exact L_max (a := en s m hi a) c c1.1 (Nat.lt_succ_self _) ⟨mod0 d, k⟩
theorem other (c : Ch s m) (h : en s m hi a < hi) : L s m hi a ≠ L s m hi (en s m hi a) := by
  by_cases c1 : L s m hi a + 1 < m ∧ nx (s (L s m hi a + 1)) a + s (L s m hi a + 1) ≤ hi
  · have := (up c c1).2
    omega
  · have := (down c c1 h).1
    omega
theorem B_lo (c : Ch s m) : B s m hi lo lo := fun j hj n h => by
  have := Int.emod_nonneg lo (show s j ≠ 0 by have := c.pos j hj; omega)
  omega
theorem B_next (c : Ch s m) (h : a < hi) (b : B s m hi lo a) : B s m hi lo (en s m hi a) := fun j hj n ⟨h1, h2⟩ => by
  have hm := L_lt (a := a) (hi := hi) c
  have zj := c.pos j hj
  have q0 := fl_dvd (s j) (en s m hi a)
  have q1 := fl_le (en s m hi a) zj
  have q2 := fl_lt (en s m hi a) zj
  have gt := en_gt c h
  have nq : en s m hi a - en s m hi a % s j < en s m hi a := by
    have := Int.emod_nonneg (en s m hi a) (show s j ≠ 0 by omega)
    omega
  generalize en s m hi a - en s m hi a % s j = q at *
  have hk : L s m hi a < j := Nat.lt_of_not_le fun hle => n (mod0 (Int.dvd_trans (c.dvd hle hm) (en_dvd c)))
  have k1 : L s m hi a + 1 < m := by omega
  have z1 := c.pos _ k1
  have dq : s (L s m hi a + 1) ∣ q := Int.dvd_trans (c.dvd (by omega) hj) q0
  have lz : s (L s m hi a + 1) ≤ s j := Int.le_of_dvd (by omega) (c.dvd (by omega) hj)
  have qa : q < a := by
    by_cases c1 : L s m hi a + 1 < m ∧ nx (s (L s m hi a + 1)) a + s (L s m hi a + 1) ≤ hi
    · have e := en1 c1
      have l := nx_lt a z1
      have d := nx_dvd (s (L s m hi a + 1)) a
      rw [← e] at l d
      have := gap dq d nq
      omega
    · refine Int.not_le.mp fun ha => c1 ⟨k1, ?_⟩
      have := nx_least z1 dq ha
      omega
  have f := fl_eq zj q0 (show q ≤ a by omega) (by omega)
  refine b j hj ?_ ?_
  · omega
  · rw [f]
    exact ⟨h1, h2⟩
/-- no higher region around an address of the run lies in the range -/
theorem no_high (c : Ch s m) (h : a < hi) (b : B s m hi lo a) (k1 : L s m hi a + 1 < m) {x : Int} (x1 : a ≤ x) (x2 : x < en s m hi a) :
    ¬ (lo ≤ x - x % s (L s m hi a + 1) ∧ x - x % s (L s m hi a + 1) + s (L s m hi a + 1) ≤ hi) := fun ⟨h1, h2⟩ => by
  have z1 := c.pos _ k1
  have q0 := fl_dvd (s (L s m hi a + 1)) x
  have q1 := fl_le x z1
  have q2 := fl_lt x z1
  generalize x - x % s (L s m hi a + 1) = q at *
  by_cases qa : q < a
  · have f := fl_eq z1 q0 (show q ≤ a by omega) (by omega)
    refine b _ k1 ?_ ?_
    · omega
    · rw [f]
      exact ⟨h1, h2⟩
  · have n := nx_least z1 q0 (show a ≤ q by omega)
    by_cases c1 : L s m hi a + 1 < m ∧ nx (s (L s m hi a + 1)) a + s (L s m hi a + 1) ≤ hi
    · rw [en1 c1] at x2
      omega
    · exact c1 ⟨k1, by omega⟩
theorem top_in (c : Ch s m) (h : a < hi) {x : Int} (x1 : a ≤ x) (x2 : x < en s m hi a) : a ≤ x - x % s (L s m hi a) ∧ x - x % s (L s m hi a) + s (L s m hi a) ≤ en s m hi a := by
  have z := c.pos _ (L_lt (a := a) (hi := hi) c)
  have l := fl_le x z
  refine ⟨fl_ge z (dvd0 (L_lies c h).1) x1, gap (fl_dvd _ _) (en_dvd c) (by omega)⟩
theorem top_max (c : Ch s m) (h : a < hi) (b : B s m hi lo a) {x : Int} (x1 : a ≤ x) (x2 : x < en s m hi a) {j : Nat} (hj : j < m) (h1 : lo ≤ x - x % s j) (h2 : x - x % s j + s j ≤ hi) : j ≤ L s m hi a := by
  refine Nat.le_of_not_lt fun hlt => ?_
  have k1 : L s m hi a + 1 < m := by omega
  have z1 := c.pos _ k1
  have zj := c.pos j hj
  have d := c.dvd (show L s m hi a + 1 ≤ j by omega) hj
  have g1 := fl_ge (x := x) z1 (Int.dvd_trans d (fl_dvd (s j) x)) (fl_le x zj)
  have g2 := gap (fl_dvd (s (L s m hi a + 1)) x) (Int.dvd_add (Int.dvd_trans d (fl_dvd (s j) x)) d) (show x - x % s (L s m hi a + 1) < x - x % s j + s j by
    have := fl_le x z1
    have := fl_lt x zj
    omega)
  exact no_high c h b k1 x1 x2 ⟨by omega, by omega⟩
theorem lay_eq (c : Ch s m) : ∀ n n' a, (hi - a).toNat ≤ n → (hi - a).toNat ≤ n' → lay s m hi n a = lay s m hi n' a
  | 0, 0, _, _, _ => rfl
  | 0, n' + 1, a, h, _ => by
    show ([] : List Run) = if a < hi then run s m hi a :: lay s m hi n' (en s m hi a) else []
    rw [if_neg (by omega)]
  | n + 1, 0, a, _, h => by
    show (if a < hi then run s m hi a :: lay s m hi n (en s m hi a) else []) = []
    rw [if_neg (by omega)]
  | n + 1, n' + 1, a, h, h' => by
    show (if a < hi then run s m hi a :: lay s m hi n (en s m hi a) else []) = if a < hi then run s m hi a :: lay s m hi n' (en s m hi a) else []
    by_cases e : a < hi
    · have g := en_gt c e
      rw [if_pos e, if_pos e, lay_eq c n n' (en s m hi a) (by omega) (by omega)]
    · rw [if_neg e, if_neg e]
theorem R_end (h : ¬ a < hi) : R s m hi a = [] := by
  unfold R
  rw [show (hi - a).toNat = 0 by omega]
  rfl
theorem R_step (c : Ch s m) (h : a < hi) : R s m hi a = run s m hi a :: R s m hi (en s m hi a) := by
  unfold R
  obtain ⟨n, e⟩ : ∃ n, (hi - a).toNat = n + 1 := ⟨(hi - a).toNat - 1, by omega⟩
  rw [e]
  show (if a < hi then run s m hi a :: lay s m hi n (en s m hi a) else []) = _
  have g := en_gt c h
  rw [if_pos h, lay_eq c n (hi - en s m hi a).toNat (en s m hi a) (by omega) (Nat.le_refl _)]
theorem R_down (c : Ch s m) : ∀ (n : Nat) (a : Int), (hi - a).toNat ≤ n → a < hi → NoHi s m hi a → (R s m hi a).length ≤ L s m hi a + 1
  | 0, a, h, h2, _ => by omega
  | n + 1, a, h, h2, c2 => by
    rw [R_step c h2, List.length_cons]
    by_cases e : en s m hi a < hi
    · obtain ⟨d1, d2⟩ := down c c2 e
      have g := en_gt c h2
      have := R_down c n (en s m hi a) (by omega) e d2
      omega
    · rw [R_end e]
      simp
theorem R_len (c : Ch s m) : ∀ (n : Nat) (a : Int), (hi - a).toNat ≤ n → a < hi → (R s m hi a).length + L s m hi a ≤ 2 * m
  | 0, a, h, h2 => by omega
  | n + 1, a, h, h2 => by
    have l := L_lt (a := a) (hi := hi) c
    by_cases c1 : L s m hi a + 1 < m ∧ nx (s (L s m hi a + 1)) a + s (L s m hi a + 1) ≤ hi
    · obtain ⟨u1, u2⟩ := up c c1
      have g := en_gt c h2
      have := R_len c n (en s m hi a) (by omega) u1
      rw [R_step c h2, List.length_cons]
      omega
    · have := R_down c (n + 1) a h h2 c1
      omega
theorem R_short (c : Ch s m) (h8 : m ≤ 8) : (R s m hi a).length ≤ 16 := by
  by_cases h : a < hi
  · have := R_len c _ a (Nat.le_refl _) h
    omega
  · rw [R_end h]
    simp
/-- a place between two runs -/
structure Mid (s : Nat → Int) (m : Nat) (hi lo a : Int) (done : List Run) : Prop where
  eq : R s m hi lo = done ++ R s m hi a
  lo_le : lo ≤ a
  le_hi : a ≤ hi
  bd : B s m hi lo a
  last : a < hi → ∀ t, done.getLast? = some t → t.1 ≠ L s m hi a
theorem mid0 (c : Ch s m) (h : lo ≤ hi) : Mid s m hi lo lo [] := ⟨rfl, Int.le_refl _, h, B_lo c, fun _ t e => by cases e⟩
theorem Mid.next {done : List Run} (c : Ch s m) (M : Mid s m hi lo a done) (h : a < hi) : Mid s m hi lo (en s m hi a) (done ++ [run s m hi a]) := by
  have g := en_gt c h
  have l := M.lo_le
  refine ⟨?_, by omega, en_le c, B_next c h M.bd, fun h2 t e => ?_⟩
  · rw [M.eq, R_step c h, List.append_assoc]
    rfl
  · rw [List.getLast?_concat] at e
    cases e
    exact other c h2
/-- the number of cells of a run -/
theorem run_cells (c : Ch s m) (h : a < hi) : (en s m hi a - a) / s (L s m hi a) * s (L s m hi a) = en s m hi a - a := Int.ediv_mul_cancel (Int.dvd_sub (en_dvd c) (dvd0 (L_lies c h).1))
theorem run_one (c : Ch s m) (h : a < hi) : 1 ≤ (en s m hi a - a) / s (L s m hi a) := by
  have z := c.pos _ (L_lt (a := a) (hi := hi) c)
  have g := gap (dvd0 (L_lies c h).1) (en_dvd c) (en_gt c h)
  exact (Int.le_ediv_iff_mul_le (by omega)).mpr (by omega)
/-- multiples of z below y, from 0 on -/
def cd (z y : Int) : Int := (y + z - 1) / z
theorem cd_zero {z : Int} (hz : 1 ≤ z) : cd z 0 = 0 := by
  unfold cd
  exact Int.ediv_eq_zero_of_lt (by omega) (by omega)
theorem cd_mul {z y : Int} (hz : 1 ≤ z) (h : z ∣ y) : cd z y = y / z := by
  obtain ⟨q, rfl⟩ := h
  unfold cd
  rw [show z * q + z - 1 = (z - 1) + z * q by omega, Int.add_mul_ediv_left _ _ (by omega), Int.mul_ediv_cancel_left _ (by omega), Int.ediv_eq_zero_of_lt (by omega) (by omega)]
  omega
theorem cd_next {z y : Int} (hz : 1 ≤ z) (h : z ∣ y) : cd z (y + 1) = y / z + 1 := by
  obtain ⟨q, rfl⟩ := h
  unfold cd
  rw [show z * q + 1 + z - 1 = z * (q + 1) by rw [Int.mul_add]; omega, Int.mul_ediv_cancel_left _ (by omega), Int.mul_ediv_cancel_left _ (by omega)]
theorem cd_stay {z y : Int} (hz : 1 ≤ z) (h : ¬ z ∣ y) : cd z (y + 1) = cd z y := by
  unfold cd
  have e := Int.mul_ediv_add_emod y z
  have e1 := Int.emod_nonneg y (show z ≠ 0 by omega)
  have e2 := Int.emod_lt_of_pos y (show 0 < z by omega)
  have n : y % z ≠ 0 := fun q => h (dvd0 q)
  have a1 : (y + 1 + z - 1) / z = y / z + 1 := by
    rw [show y + 1 + z - 1 = (y % z) + z * (y / z + 1) by rw [Int.mul_add]; omega, Int.add_mul_ediv_left _ _ (by omega), Int.ediv_eq_zero_of_lt e1 e2]
    omega
  have a2 : (y + z - 1) / z = y / z + 1 := by
    rw [show y + z - 1 = (y % z - 1) + z * (y / z + 1) by rw [Int.mul_add]; omega, Int.add_mul_ediv_left _ _ (by omega), Int.ediv_eq_zero_of_lt (by omega) (by omega)]
    omega
  rw [a1, a2]
end
end M16

set_option Elab.async false
set_option linter.all false
set_option maxRecDepth 100000
set_option maxHeartbeats 4000000
namespace K44
open PySem PySem.Spec PyProof.Rows L2 Gu Ex
theorem same_upd {H : Hp} {p : Addr} {o : HO} (h : H p = none) : Same H (upd H p o) := fun b x e => by
  rw [upd_ne (ne_of_none e h)]
  exact e
theorem SzAt.same {C p : Addr} {H H' : Hp} {ns : List Int} (h : SzAt C H p ns) (s : Same H H') : SzAt C H' p ns := by
  obtain ⟨dx, l, a, b⟩ := h
  exact ⟨dx, l, s _ _ a, s _ _ b⟩
def sz (ns : List Int) (k : Nat) : Int := ns.getD k 0
theorem sz_at {ns : List Int} {k : Nat} (h : k < ns.length) : ns[k]? = some (sz ns k) := by
  unfold sz
  rw [List.getD_eq_getElem?_getD, List.getElem?_eq_getElem h]
  rfl
theorem chain {ns : List Int} (g : Good ns) : M16.Ch (sz ns) ns.length := by
  refine ⟨g.len.1, ?_, fun k h => (g.rng k _ (sz_at h)).1, fun k h => Int.dvd_of_emod_eq_zero (g.up k _ _ (sz_at (by omega)) (sz_at h)).2⟩
  have := (sz_at (ns := ns) (k := 0) (by have := g.len.1; omega)).symm.trans g.one
  exact Option.some.inj this
theorem sz_le {ns : List Int} (g : Good ns) {k : Nat} (h : k < ns.length) : sz ns k ≤ 1000000000 := (g.rng k _ (sz_at h)).2
theorem at_sz {ns : List Int} {k : Nat} (h : k < ns.length) : atI (ns.map V.int) (k : Int) = some (.int (sz ns k)) := at_map (sz_at h)
/-- objects at these addresses, told by f -/
inductive Refs {α : Type} (f : α → List V) (H : Hp) : List Addr → List α → Prop
  | nil : Refs f H [] []
  | cons {p : Addr} {ps : List Addr} {t : α} {ts : List α} : H p = some (.tup (f t)) → Refs f H ps ts → Refs f H (p :: ps) (t :: ts)
section
variable {α : Type} {f : α → List V} {H H' : Hp} {ps qs : List Addr} {ts us : List α}
theorem Refs.mono (h : Refs f H ps ts) (k : ∀ p xs, H p = some (.tup xs) → H' p = some (.tup xs)) : Refs f H' ps ts := by
  induction h with
  | nil => exact .nil
  | cons a _ ih => exact .cons (k _ _ a) ih
theorem Refs.same (h : Refs f H ps ts) (k : Same H H') : Refs f H' ps ts := h.mono fun p xs e => k p _ e
theorem Refs.app (h : Refs f H ps ts) (h2 : Refs f H qs us) : Refs f H (ps ++ qs) (ts ++ us) := by
  induction h with
  | nil => exact h2
  | cons b _ ih => exact .cons b ih
theorem Refs.one {p : Addr} {t : α} (h : H p = some (.tup (f t))) : Refs f H [p] [t] := .cons h .nil
theorem Refs.len (h : Refs f H ps ts) : ps.length = ts.length := by
  induction h with
  | nil => rfl
  | cons _ _ ih => rw [List.length_cons, List.length_cons, ih]
theorem Refs.get (h : Refs f H ps ts) : ∀ {i : Nat} {p : Addr}, ps[i]? = some p → ∃ t, ts[i]? = some t ∧ H p = some (.tup (f t)) := by
  induction h with
  | nil => intro i p e; cases e
  | cons a _ ih =>
    intro i p e
    cases i with
    | zero =>
      cases e
      exact ⟨_, rfl, a⟩
    | succ i => exact ih e
theorem Refs.at_ (h : Refs f H ps ts) {i : Nat} {t : α} (ht : ts[i]? = some t) : ∃ p, ps[i]? = some p ∧ H p = some (.tup (f t)) := by
  have hi : i < ts.length := (List.getElem?_eq_some_iff.mp ht).1
  have hi2 : i < ps.length := by rw [h.len]; exact hi
  obtain ⟨u, e1, e2⟩ := h.get (List.getElem?_eq_getElem hi2)
  rw [ht] at e1
  cases e1
  exact ⟨_, List.getElem?_eq_getElem hi2, e2⟩
theorem Refs.take (h : Refs f H ps ts) : ∀ n, Refs f H (ps.take n) (ts.take n) := by
  induction h with
  | nil => intro n; simp; exact .nil
  | cons a _ ih =>
    intro n
    cases n with
    | zero => exact .nil
    | succ n => exact .cons a (ih n)
theorem Refs.drop (h : Refs f H ps ts) : ∀ n, Refs f H (ps.drop n) (ts.drop n) := by
  induction h with
  | nil => intro n; simp; exact .nil
  | cons a b ih =>
    intro n
    cases n with
    | zero => exact .cons a b
    | succ n => exact ih n
theorem Refs.map_at {i : Nat} {p : Addr} (h : ps[i]? = some p) : atI (ps.map V.ref) (i : Int) = some (.ref p) := atI_nat (by rw [List.getElem?_map, h]; rfl)
end
section
variable {P : Program} {w : World} {K : PySem.W.Frag} {mg : Str → Option Value} {base : Heap} {f : Addr} {fd : FuncData}
def spCells : Sp := fun vs H Q _ => ∃ i : Int, vs = [.int i] ∧ 1 ≤ i ∧ i ≤ 1000000000000 ∧ Q (.bl true) H
theorem sc_is_cells : FnScope ["value"] ["value"] (defScope (top 14)) := ⟨rfl, rfl, rfl, by decide +kernel, rfl, by decide +kernel, by decide +kernel⟩
theorem ok_is_cells (T : Tx K mg) (D_is_integer : Df P w K mg base 1 "is_integer" ["value"] spInt) (F : FnP K "is_cells" "is_cells" (top 14) f fd) : FnOk P w K mg base CX0 2 f fd ["value"] spCells := by
  refine F.ok sc_is_cells (fun vs H Q E h => ?_) (fun cdv A outer s H vs Q E hr h => ⟨_, PSs.nox (pss_one (ps_ret (pe_and (pcall D_is_integer hr (pa_cons (pv 0) pa_nil)) (pe_one (pe_chain op_le op_le pe_int (pv 0) (ClX.pe_cval (pe_glob (v := .ref _) rfl T.g_Sizes rfl))))))), ?_⟩)
  · obtain ⟨i, rfl, _⟩ := h
    rfl
  · obtain ⟨i, rfl, h1, h2, q⟩ := h
    obtain ⟨u, cC⟩ := T.cC
    refine ⟨_, rfl, _, rfl, true, rfl, iteT ⟨_, rfl, _, _, rfl, rfl, _, rfl, ifT (decide_eq_true h1) ⟨_, _, _, _, rfl, T.rd, cC, _, _, rfl, rfl, ?_⟩⟩⟩
    have e : decide (i ≤ 1000000000000) = true := decide_eq_true h2
    show Q (.bl (decide (i ≤ 1000000000000))) H
    rw [e]
    exact q
def spCellsC : Sp := fun vs H Q _ => ∃ i : Int, vs = [.int i] ∧ 1 ≤ i ∧ i ≤ 1000000000000 ∧ Q .non H
theorem sc_check_cells : FnScope ["value"] ["value"] (defScope (top 15)) := ⟨rfl, rfl, rfl, by decide +kernel, rfl, by decide +kernel, by decide +kernel⟩
theorem ok_check_cells (T : Tx K mg) (D_is_cells : Df P w K mg base 2 "is_cells" ["value"] spCells) (F : FnP K "check_cells" "check_cells" (top 15) f fd) : FnOk P w K mg base CX0 3 f fd ["value"] spCellsC := by
  refine F.ok sc_check_cells (fun vs H Q E h => ?_) (fun cdv A outer s H vs Q E hr h => ⟨_, PSs.nox (pss_one (ps_if (pt_not (pt_val (pcall D_is_cells hr (pa_cons (pv 0) pa_nil)))) (pss_one ps_never) pss_nil)), ?_⟩)
  · obtain ⟨i, rfl, _⟩ := h
    rfl
  · obtain ⟨i, rfl, h1, h2, q⟩ := h
    exact ⟨_, rfl, _, rfl, h1, h2, true, rfl, iteF q⟩
def spWhole (K : PySem.W.Frag) : Sp := fun vs H Q _ => ∃ (p : Addr) (ns : List Int) (i : Nat) (x c : Int), vs = [.ref p, .int c, .int i] ∧ SzAt (He.ga K "Sizes") H p ns ∧ ns[i]? = some x ∧ 1 ≤ x ∧ 1 ≤ c ∧ c ≤ 1000000000000 ∧ Q (.int (c - c % x)) H
theorem sc_whole : FnScope ["self", "cells", "level"] ["self", "cells", "level"] (defScope (inClass (top 19) 16)) := ⟨rfl, rfl, rfl, by decide +kernel, rfl, by decide +kernel, by decide +kernel⟩
theorem ok_whole (T : Tx K mg) (D_check_cells : Df P w K mg base 3 "check_cells" ["value"] spCellsC) (M_size : Mf P w K mg base 5 "Sizes" "size" ["self", "level"] (spSize K)) (F : FnP K "whole" "Sizes.whole" (inClass (top 19) 16) f fd) :
    FnOk P w K mg base CX0 6 f fd ["self", "cells", "level"] (spWhole K) := by
  refine F.ok sc_whole (fun vs H Q E h => ?_) (fun cdv A outer s H vs Q E hr h => ⟨_, PSs.nox (pss_cons (ps_expr (pcall D_check_cells hr (pa_cons (pv 1) pa_nil))) (pss_one (ps_ret (pe_op op_sub (pv 1) (pe_op op_mod (pv 1) (pmeth M_size hr (pv 0) (pa_cons (pv 2) pa_nil))))))), ?_⟩)
  · obtain ⟨p, ns, i, x, c, rfl, _⟩ := h
    rfl
  · obtain ⟨p, ns, i, x, c, rfl, hz, hx, x1, c1, c2, q⟩ := h
    obtain ⟨dx, l, h1, h2⟩ := id hz
    refine ⟨_, rfl, c, rfl, c1, c2, ?_⟩
    exact ⟨_, rfl, _, rfl, _, rfl, p, dx, _, rfl, h1, szF_no l (by decide +kernel), _, rfl, p, ns, i, x, rfl, hz, hx, _, _, rfl, rfl, (by show (0 : Int) < x; omega), _, _, rfl, rfl, q⟩
def spBelow (K : PySem.W.Frag) : Sp := fun vs H Q _ => ∃ (p : Addr) (ns : List Int) (i : Nat) (x a e : Int), vs = [.ref p, .int i, .int a, .int e] ∧ SzAt (He.ga K "Sizes") H p ns ∧ ns[i]? = some x ∧ 1 ≤ x ∧ Q (.bl (decide (a % x = 0 ∧ a + x ≤ e))) H
theorem sc_lies_below : FnScope ["sizes", "level", "address", "end", "size"] ["sizes", "level", "address", "end"] (defScope (top 25)) := ⟨rfl, rfl, rfl, by decide +kernel, rfl, by decide +kernel, by decide +kernel⟩
theorem ok_below (T : Tx K mg) (M_size : Mf P w K mg base 5 "Sizes" "size" ["self", "level"] (spSize K)) (F : FnP K "lies_below" "lies_below" (top 25) f fd) : FnOk P w K mg base CX0 6 f fd ["sizes", "level", "address", "end"] (spBelow K) := by
  refine F.ok sc_lies_below (fun vs H Q E h => ?_) (fun cdv A outer s H vs Q E hr h => ⟨_, PSs.nox (pss_cons (ps_set (i := 4) sc_lies_below.nd rfl (by first | exact Or.inl rfl | exact Or.inr rfl) (pmeth M_size hr (pv 0) (pa_cons (pv 1) pa_nil))) (pss_one (ps_ret (pe_and (pe_cmpR op_eq (pe_op op_mod (pv 2) (pv 4)) pe_int (nomark _)) (pe_one (pe_cmpR op_le (pe_op op_add (pv 2) (pv 4)) (pv 3) (nomark _))))))), ?_⟩)
  · obtain ⟨p, ns, i, x, a, e, rfl, _⟩ := h
    rfl
  · obtain ⟨p, ns, i, x, a, e, rfl, hz, hx, x1, q⟩ := h
    obtain ⟨dx, l, h1, h2⟩ := id hz
    refine ⟨_, rfl, p, dx, _, rfl, h1, szF_no l (by decide +kernel), _, rfl, p, ns, i, x, rfl, hz, hx, ?_⟩
    refine ⟨_, rfl, _, rfl, _, _, rfl, rfl, (by show (0 : Int) < x; omega), rfl, _, rfl, ?_⟩
    by_cases hm : a % x = 0
    · refine ifT (vT hm) ⟨_, rfl, _, rfl, _, _, rfl, rfl, _, rfl, _, _, rfl, rfl, ?_⟩
      have e2 : decide (a % x = 0 ∧ a + x ≤ e) = decide (a + x ≤ e) := by
        by_cases z : a + x ≤ e
        · rw [decide_eq_true z, decide_eq_true ⟨hm, z⟩]
        · rw [decide_eq_false z, decide_eq_false fun y => z y.2]
      rw [e2] at q
      exact q
    · have e2 : decide (a % x = 0 ∧ a + x ≤ e) = false := decide_eq_false fun y => hm y.1
      rw [e2] at q
      exact ifF (vF hm) q
/-- a right region -/
def spRegion (K : PySem.W.Frag) : Sp := fun vs H Q _ => ∃ (p : Addr) (ns : List Int) (i : Nat) (n a : Int), vs = [.ref p, .int n, .int i, .int a] ∧ SzAt (He.ga K "Sizes") H p ns ∧ Good ns ∧ i < ns.length ∧ 1 ≤ n ∧ n ≤ 1000000000000 ∧ 0 ≤ a ∧ a % sz ns i = 0 ∧ a + sz ns i ≤ n ∧ Q (.bl true) H
theorem sc_is_region : FnScope ["sizes", "length", "level", "address"] ["sizes", "length", "level", "address"] (defScope (top 26)) := ⟨rfl, rfl, rfl, by decide +kernel, rfl, by decide +kernel, by decide +kernel⟩
theorem ok_is_region (T : Tx K mg) (D_check_cells : Df P w K mg base 3 "check_cells" ["value"] spCellsC) (M_has_level : Mf P w K mg base 3 "Sizes" "has_level" ["self", "level"] (spHas K)) (D_is_address : Df P w K mg base 2 "is_address" ["value"] spAddr)
    (D_lies_below : Df P w K mg base 6 "lies_below" ["sizes", "level", "address", "end"] (spBelow K)) (F : FnP K "is_region" "is_region" (top 26) f fd) : FnOk P w K mg base CX0 7 f fd ["sizes", "length", "level", "address"] (spRegion K) := by
  refine F.ok sc_is_region (fun vs H Q E h => ?_) (fun cdv A outer s H vs Q E hr h => ⟨_, PSs.nox (pss_cons (ps_expr (pcall D_check_cells hr (pa_cons (pv 1) pa_nil))) (pss_one (ps_ret (pe_and (pmeth M_has_level hr (pv 0) (pa_cons (pv 2) pa_nil)) (pe_and (pcall D_is_address hr (pa_cons (pv 3) pa_nil)) (pe_one (pcall D_lies_below hr (pa_cons (pv 0) (pa_cons (pv 2) (pa_cons (pv 3) (pa_cons (pv 1) pa_nil))))))))))), ?_⟩)
  · obtain ⟨p, ns, i, n, a, rfl, _⟩ := h
    rfl
  · obtain ⟨p, ns, i, n, a, rfl, hz, g, hi, n1, n2, a0, a1, a2, q⟩ := h
    obtain ⟨dx, l, h1, h2⟩ := id hz
    refine ⟨_, rfl, n, rfl, n1, n2, ?_⟩
    refine ⟨_, rfl, p, dx, _, rfl, h1, szF_no l (by decide +kernel), _, rfl, p, ns, i, rfl, hz, hi, true, rfl, iteT ⟨_, rfl, a, rfl, a0, true, rfl, iteT ?_⟩⟩
    refine ⟨_, rfl, _, rfl, _, rfl, _, rfl, p, ns, i, _, a, n, rfl, hz, sz_at hi, (chain g).pos i hi, ?_⟩
    rw [decide_eq_true (show a % sz ns i = 0 ∧ a + sz ns i ≤ n from ⟨a1, a2⟩)]
    exact q
end
end K44

set_option Elab.async false
set_option linter.all false
set_option maxRecDepth 100000
set_option maxHeartbeats 4000000
namespace K44
open PySem PySem.Spec PyProof.Rows L2 Gu Ex
def layF (zp : Addr) (n fr : Int) (bl : Addr) : List (Str × V) := [("size_table", .ref zp), ("cell_count", .int n), ("free_count", .int fr), ("block_list", .ref bl)]
section
variable (zp bl : Addr) (n fr : Int)
theorem lay_st : (layF zp n fr bl).lookup ("size_table" : Str) = some (.ref zp) := by simp [layF, List.lookup]
theorem lay_cc : (layF zp n fr bl).lookup ("cell_count" : Str) = some (.int n) := by
  have e : (("cell_count" : Str) == ("size_table" : Str)) = false := by decide +kernel
  simp [layF, List.lookup, e]
theorem lay_fc : (layF zp n fr bl).lookup ("free_count" : Str) = some (.int fr) := by
  have e : (("free_count" : Str) == ("size_table" : Str)) = false := by decide +kernel
  have e2 : (("free_count" : Str) == ("cell_count" : Str)) = false := by decide +kernel
  simp [layF, List.lookup, e, e2]
theorem lay_bl : (layF zp n fr bl).lookup ("block_list" : Str) = some (.ref bl) := by
  have e : (("block_list" : Str) == ("size_table" : Str)) = false := by decide +kernel
  have e2 : (("block_list" : Str) == ("cell_count" : Str)) = false := by decide +kernel
  have e3 : (("block_list" : Str) == ("free_count" : Str)) = false := by decide +kernel
  simp [layF, List.lookup, e, e2, e3]
theorem lay_no {m : Str} (h1 : (m == ("size_table" : Str)) = false) (h2 : (m == ("cell_count" : Str)) = false) (h3 : (m == ("free_count" : Str)) = false) (h4 : (m == ("block_list" : Str)) = false) : (layF zp n fr bl).lookup m = none := by
  simp [layF, List.lookup, h1, h2, h3, h4]
theorem lay_put (z : Int) : putF "free_count" (.int z) (layF zp n fr bl) = layF zp n z bl := by
  have e : (("size_table" : Str) = ("free_count" : Str)) = False := by
    simp only [eq_iff_iff, iff_false]
    decide +kernel
  have e2 : (("cell_count" : Str) = ("free_count" : Str)) = False := by
    simp only [eq_iff_iff, iff_false]
    decide +kernel
  simp [layF, putF, e, e2]
end
/-- a block: address, level, is it pinned -/
abbrev Blk : Type := Int × Nat × Bool
def blkV (b : Blk) : List V := [.int b.1, .int (b.2.1 : Nat), .bl b.2.2]
def bEnd (ns : List Int) (b : Blk) : Int := b.1 + sz ns b.2.1
structure Wf (ns : List Int) (n : Int) (bs : List Blk) : Prop where
  ok : ∀ b ∈ bs, b.2.1 < ns.length ∧ 0 ≤ b.1 ∧ sz ns b.2.1 ∣ b.1 ∧ bEnd ns b ≤ n
  so : bs.Pairwise fun b c => bEnd ns b ≤ c.1
def tot (ns : List Int) (bs : List Blk) : Int := (bs.map fun b => sz ns b.2.1).sum
structure Ly (K : PySem.W.Frag) (H : Hp) (y zp bl dx : Addr) (ps : List Addr) (ns : List Int) (n : Int) (bs : List Blk) : Prop where
  at_ : H y = some (.ins (He.ga K "Layout") dx (layF zp n (n - tot ns bs) bl))
  szs : SzAt (He.ga K "Sizes") H zp ns
  lst : H bl = some (.lst (ps.map V.ref))
  rf : Refs blkV H ps bs
  wf : Wf ns n bs
  gd : Good ns
  n1 : 1 ≤ n
  n2 : n ≤ 1000000000000
  ln : bs.length ≤ 1000
  ap : ∃ dz l, H zp = some (.ins (He.ga K "Sizes") dz (szF l)) ∧ H l = some (.lst (ns.map V.int)) ∧ l ≠ bl
section
variable {K : PySem.W.Frag} {H H' : Hp} {y zp bl dx : Addr} {ps : List Addr} {ns : List Int} {n : Int} {bs : List Blk}
theorem Ly.same (h : Ly K H y zp bl dx ps ns n bs) (s : Same H H') : Ly K H' y zp bl dx ps ns n bs := ⟨s _ _ h.at_, h.szs.same s, s _ _ h.lst, h.rf.same s, h.wf, h.gd, h.n1, h.n2, h.ln, h.ap.elim fun dz z => z.elim fun l z => ⟨dz, l, s _ _ z.1, s _ _ z.2.1, z.2.2⟩⟩
theorem Wf.pos (w : Wf ns n bs) (g : Good ns) {b : Blk} (h : b ∈ bs) : 1 ≤ sz ns b.2.1 := (chain g).pos _ (w.ok b h).1
/-- the addresses rise -/
theorem Wf.lt (w : Wf ns n bs) (g : Good ns) {i j : Nat} {b c : Blk} (hi : bs[i]? = some b) (hj : bs[j]? = some c) (h : i < j) : bEnd ns b ≤ c.1 ∧ b.1 < c.1 := by
  obtain ⟨h1, e1⟩ := List.getElem?_eq_some_iff.mp hi
  obtain ⟨h2, e2⟩ := List.getElem?_eq_some_iff.mp hj
  have p := List.pairwise_iff_getElem.mp w.so i j h1 h2 h
  rw [e1, e2] at p
  have z := w.pos g (List.mem_of_getElem? hi)
  unfold bEnd at p
  exact ⟨p, by omega⟩
/-- the layout's own objects lie apart from the sizes -/
theorem Ly.far (L : Ly K H y zp bl dx ps ns n bs) : ∃ dz l, H zp = some (.ins (He.ga K "Sizes") dz (szF l)) ∧ H l = some (.lst (ns.map V.int)) ∧ zp ≠ y ∧ zp ≠ bl ∧ l ≠ bl ∧ l ≠ y ∧ y ≠ bl := by
  obtain ⟨dz, l, z1, z2, nb⟩ := L.ap
  refine ⟨dz, l, z1, z2, fun e => ?_, fun e => ?_, nb, fun e => ?_, fun e => ?_⟩
  · rw [e, L.at_] at z1
    have z3 := congrArg List.length (HO.ins.inj (Option.some.inj z1)).2.2
    cases z3
  · rw [e, L.lst] at z1
    cases z1
  · rw [e, L.at_] at z2
    cases z2
  · have a := L.at_
    rw [e, L.lst] at a
    cases a
/-- how many blocks start below a -/
def Below (bs : List Blk) (a : Int) (i : Nat) : Prop := i ≤ bs.length ∧ ∀ j b, bs[j]? = some b → (j < i ↔ b.1 < a)
end
section
variable {P : Program} {w : World} {K : PySem.W.Frag} {mg : Str → Option Value} {base : Heap} {f : Addr} {fd : FuncData}
def spNew (K : PySem.W.Frag) : Sp := fun vs H Q _ => ∃ (y zp dx : Addr) (ns : List Int) (n : Int), vs = [.ref y, .ref zp, .int n] ∧ H y = some (.ins (He.ga K "Layout") dx []) ∧ SzAt (He.ga K "Sizes") H zp ns ∧ Good ns ∧ 1 ≤ n ∧ n ≤ 1000000000000 ∧
  ∀ bl H', H bl = none → (∀ c o, c ≠ y → H c = some o → H' c = some o) → Ly K H' y zp bl dx [] ns n [] → Q .non H'
theorem sc_Layout_init : FnScope ["self", "sizes", "length"] ["self", "sizes", "length"] (defScope (inClass (top 34) 0)) := ⟨rfl, rfl, rfl, by decide +kernel, rfl, by decide +kernel, by decide +kernel⟩
theorem ok_new (T : Tx K mg) (D_check_cells : Df P w K mg base 3 "check_cells" ["value"] spCellsC) (F : FnP K "__init__" "Layout.__init__" (inClass (top 34) 0) f fd) : FnOk P w K mg base CX0 4 f fd ["self", "sizes", "length"] (spNew K) := by
  refine F.ok sc_Layout_init (fun vs H Q E h => ?_) (fun cdv A outer s H vs Q E hr h => ⟨_, PSs.nox (pss_cons (ps_expr (pcall D_check_cells hr (pa_cons (pv 2) pa_nil))) (pss_cons (ps_fld (pv 0) (pv 1) rfl) (pss_cons (ps_fld (pv 0) (pv 2) rfl) (pss_cons (ps_fld (pv 0) (pv 2) rfl) (pss_one (ps_fld (pv 0) (pe_lst pa_nil) rfl)))))), ?_⟩)
  · obtain ⟨y, zp, dx, ns, n, rfl, _⟩ := h
    rfl
  · obtain ⟨y, zp, dx, ns, n, rfl, hy, hz, g, n1, n2, q⟩ := h
    have few : ∀ k, k < 10 → k < 1000 := fun k h => by omega
    refine ⟨_, rfl, n, rfl, n1, n2, ?_⟩
    refine ⟨_, rfl, _, rfl, y, _, dx, _, rfl, hy, T.ly, T.nST, (by show 0 < 1000; decide), ?_⟩
    refine ⟨_, rfl, _, rfl, y, _, dx, _, rfl, upd_same, T.ly, T.nCC, (by show 1 < 1000; decide), ?_⟩
    refine ⟨_, rfl, _, rfl, y, _, dx, _, rfl, upd_same, T.ly, T.nFC, (by show 2 < 1000; decide), ?_⟩
    refine ⟨Nat.zero_le _, fun bl hbl => ⟨_, rfl, y, _, dx, _, rfl, (by rw [upd_ne (ne_of_none (o := .ins (He.ga K "Layout") dx (putF "free_count" (.int n) (putF "cell_count" (.int n) (putF "size_table" (.ref zp) []))))  upd_same hbl)]; exact upd_same), T.ly, T.nBL, (by show 3 < 1000; decide), ?_⟩⟩
    have nyb : y ≠ bl := ne_of_none (o := .ins (He.ga K "Layout") dx (putF "free_count" (.int n) (putF "cell_count" (.int n) (putF "size_table" (.ref zp) [])))) upd_same hbl
    have nb : H bl = none := by
      rw [upd_ne nyb.symm, upd_ne nyb.symm, upd_ne nyb.symm] at hbl
      exact hbl
    have keep : ∀ {c : Addr} {o : HO}, c ≠ y → H c = some o → (upd (upd (upd (upd (upd H y (.ins (He.ga K "Layout") dx (putF "size_table" (.ref zp) []))) y (.ins (He.ga K "Layout") dx (putF "cell_count" (.int n) (putF "size_table" (.ref zp) [])))) y (.ins (He.ga K "Layout") dx (putF "free_count" (.int n) (putF "cell_count" (.int n) (putF "size_table" (.ref zp) []))))) bl (.lst [])) y (.ins (He.ga K "Layout") dx (putF "block_list" (.ref bl) (putF "free_count" (.int n) (putF "cell_count" (.int n) (putF "size_table" (.ref zp) [])))))) c = some o := fun {c o} hc e => by
      rw [upd_ne hc, upd_ne (ne_of_none e nb), upd_ne hc, upd_ne hc, upd_ne hc]
      exact e
    obtain ⟨dz, l, z1, z2⟩ := id hz
    have ny1 : zp ≠ y := fun e => by
      rw [e, hy] at z1
      have z3 := (HO.ins.inj (Option.some.inj z1)).2.2
      cases z3
    have ny2 : l ≠ y := fun e => by
      rw [e, hy] at z2
      cases z2
    refine q bl _ nb (fun c o hc e => keep hc e) ⟨?_, ⟨dz, l, keep ny1 z1, keep ny2 z2⟩, ?_, .nil, ⟨fun b hb => absurd hb List.not_mem_nil, .nil⟩, g, n1, n2, Nat.zero_le _, ⟨dz, l, keep ny1 z1, keep ny2 z2, ne_of_none z2 nb⟩⟩
    · rw [upd_same]
      have e : n - tot ns [] = n := by simp [tot]
      rw [e]
      rfl
    · rw [upd_ne nyb.symm, upd_same]
      rfl
def spCB (K : PySem.W.Frag) : Sp := fun vs H Q _ => ∃ (y zp bl dx : Addr) (ps : List Addr) (ns : List Int) (n a : Int) (bs : List Blk), vs = [.ref y, .int a] ∧ Ly K H y zp bl dx ps ns n bs ∧ ∀ i : Nat, Below bs a i → Q (.int i) H
theorem sc_count_below : FnScope ["self", "address", "low", "high", "middle"] ["self", "address"] (defScope (inClass (top 34) 9)) := ⟨rfl, rfl, rfl, by decide +kernel, rfl, by decide +kernel, by decide +kernel⟩
theorem ok_cb (T : Tx K mg) (F : FnP K "count_below" "Layout.count_below" (inClass (top 34) 9) f fd) : FnOk P w K mg base CX0 1 f fd ["self", "address"] (spCB K) := by
  refine F.ok sc_count_below (fun vs H Q E h => ?_) (fun cdv A outer s H vs Q E hr h => ⟨_, PSs.nox (pss_cons (ps_set (i := 2) sc_count_below.nd rfl (by first | exact Or.inl rfl | exact Or.inr rfl) pe_int) (pss_cons (ps_set (i := 3) sc_count_below.nd rfl (by first | exact Or.inl rfl | exact Or.inr rfl) (pe_callB call_len_seq (by rfl) T.n_len (by decide +kernel) (pa_cons (pe_fld (pv 0) rfl) pa_nil))) (pss_cons (ps_while PassesOwn.never (pt_cmpR op_lt (pv 2) (pv 3) (nomark _)) (pss_cons (ps_set (i := 4) sc_count_below.nd rfl (by first | exact Or.inl rfl | exact Or.inr rfl) (pe_op op_fdivW (pe_op op_add (pv 2) (pv 3)) pe_int)) (pss_one (ps_if (pt_cmpR op_lt (pe_ix ix_tup (pe_ix ix_list (pe_fld (pv 0) rfl) (pv 4) (fun _ _ => rfl)) pe_int (fun _ _ => rfl)) (pv 1) (nomark _)) (pss_one (ps_set (i := 2) sc_count_below.nd rfl (by first | exact Or.inl rfl | exact Or.inr rfl) (pe_op op_add (pv 4) pe_int))) (pss_one (ps_set (i := 3) sc_count_below.nd rfl (by first | exact Or.inl rfl | exact Or.inr rfl) (pv 4))))))) (pss_one (ps_ret (pv 2)))))), ?_⟩)
  · obtain ⟨y, zp, bl, dx, ps, ns, n, a, bs, rfl, _⟩ := h
    rfl
  · obtain ⟨y, zp, bl, dx, ps, ns, n, a, bs, rfl, L, q⟩ := h
    have pl := L.rf.len
    have sl : sizeLine = 16777216 := sizeLine_eq
    refine ⟨_, rfl, y, _, dx, _, _, rfl, L.at_, T.ly, T.nBL, lay_bl .., bl, _, rfl, .inl (SqL.of L.lst), ?_⟩
    refine ⟨fun m σ G => ∃ (lo hi : Nat) (x : Option V), m = hi - lo ∧ G = H ∧ σ = [some (.ref y), some (.int a), some (.int (lo : Nat)), some (.int (hi : Nat)), x] ∧ lo ≤ hi ∧ hi ≤ bs.length ∧ (∀ j b, bs[j]? = some b → j < lo → b.1 < a) ∧ (∀ j b, bs[j]? = some b → hi ≤ j → a ≤ b.1),
      ⟨_, 0, bs.length, none, rfl, rfl, (by rw [List.length_map, pl]; rfl), Nat.zero_le _, Nat.le_refl _, fun j b _ h => absurd h (Nat.not_lt_zero _), fun j b hb h => by
        have := (List.getElem?_eq_some_iff.mp hb).1
        omega⟩, ?_⟩
    rintro m σ G ⟨lo, hi, x, rfl, rfl, rfl, h1, h2, h3, h4⟩
    refine ⟨_, rfl, _, rfl, _, _, rfl, rfl, _, rfl, ?_⟩
    by_cases hc : (lo : Int) < (hi : Int)
    · refine ifT (decide_eq_true hc) ?_
      have em : ((lo : Int) + (hi : Int)) / 2 = (((lo + hi) / 2 : Nat) : Int) := by omega
      have mlt : (lo + hi) / 2 < bs.length := by omega
      obtain ⟨b, hb⟩ : ∃ b, bs[(lo + hi) / 2]? = some b := ⟨_, List.getElem?_eq_getElem mlt⟩
      obtain ⟨p, hp, hT⟩ := L.rf.at_ hb
      refine ⟨fun σ' G' => ∃ (lo' hi' : Nat) (x : Option V), hi' - lo' < hi - lo ∧ G' = G ∧ σ' = [some (.ref y), some (.int a), some (.int (lo' : Nat)), some (.int (hi' : Nat)), x] ∧ lo' ≤ hi' ∧ hi' ≤ bs.length ∧ (∀ j b, bs[j]? = some b → j < lo' → b.1 < a) ∧ (∀ j b, bs[j]? = some b → hi' ≤ j → a ≤ b.1),
        fun σ' G' ⟨lo', hi', x, hl, r⟩ => ⟨hi' - lo', hl, lo', hi', x, rfl, r⟩, ?_⟩
      refine ⟨_, rfl, _, rfl, _, _, rfl, rfl, _, _, rfl, rfl, wide_div (b := 64) (by decide) (by decide) (by decide) (by decide), ?_⟩
      refine ⟨_, rfl, y, _, dx, _, _, rfl, L.at_, T.ly, T.nBL, lay_bl .., _, rfl, bl, _, _, _, rfl, rfl, SqL.of L.lst, (by rw [em]; exact Refs.map_at hp), p, _, _, _, rfl, rfl, SqT.of hT, rfl, _, rfl, _, _, rfl, rfl, _, rfl, ?_⟩
      by_cases hb2 : b.1 < a
      · refine ifT (decide_eq_true hb2) ⟨_, rfl, _, _, rfl, rfl, (lo + hi) / 2 + 1, hi, some (.int (((lo : Int) + (hi : Int)) / 2)), by omega, rfl, ?_, by omega, h2, fun j c hj hlt => ?_, h4⟩
        · show [some (V.ref y), some (V.int a), some (V.int (((lo : Int) + (hi : Int)) / 2 + 1)), some (V.int hi), some (V.int (((lo : Int) + (hi : Int)) / 2))] = _
          rw [em]
          rfl
        · by_cases e : j = (lo + hi) / 2
          · rw [e, hb] at hj
            cases hj
            exact hb2
          · have := (L.wf.lt L.gd hj hb (by omega)).2
            omega
      · refine ifF (decide_eq_false hb2) ⟨_, rfl, lo, (lo + hi) / 2, some (.int (((lo : Int) + (hi : Int)) / 2)), by omega, rfl, ?_, by omega, by omega, h3, fun j c hj hle => ?_⟩
        · show [some (V.ref y), some (V.int a), some (V.int lo), some (V.int (((lo : Int) + (hi : Int)) / 2)), some (V.int (((lo : Int) + (hi : Int)) / 2))] = _
          rw [em]
        · by_cases e : j = (lo + hi) / 2
          · rw [e, hb] at hj
            cases hj
            omega
          · have := (L.wf.lt L.gd hb hj (by omega)).2
            omega
    · refine ifF (decide_eq_false hc) ⟨_, rfl, q lo ⟨by omega, fun j b hb => ⟨h3 j b hb, fun hlt => ?_⟩⟩⟩
      have := h4 j b hb
      omega
end
end K44

set_option Elab.async false
set_option linter.all false
set_option maxRecDepth 100000
set_option maxHeartbeats 4000000
namespace K44
open PySem PySem.Spec PyProof.Rows L2 Gu Ex
theorem lay_nm {zp bl : Addr} {n fr : Int} {m : Str} (h : (m == ("size_table" : Str) || (m == ("cell_count" : Str) || (m == ("free_count" : Str) || m == ("block_list" : Str)))) = false) : (layF zp n fr bl).lookup m = none := by
  obtain ⟨h1, h⟩ := Bool.or_eq_false_iff.mp h
  obtain ⟨h2, h⟩ := Bool.or_eq_false_iff.mp h
  obtain ⟨h3, h4⟩ := Bool.or_eq_false_iff.mp h
  exact lay_no zp bl n fr h1 h2 h3 h4
section
variable {ns : List Int} {n : Int} {bs : List Blk}
/-- the place of a block that starts at a -/
theorem Below.at_ {a : Int} {i j : Nat} {b : Blk} (w : Wf ns n bs) (g : Good ns) (h : Below bs a i) (hj : bs[j]? = some b) (e : b.1 = a) : i = j := by
  have h1 := (h.2 j b hj)
  by_cases hij : i < j
  · have hi : i < bs.length := by
      have := (List.getElem?_eq_some_iff.mp hj).1
      omega
    have h2 := h.2 i _ (List.getElem?_eq_getElem hi)
    have h3 := (w.lt g (List.getElem?_eq_getElem hi) hj hij).2
    omega
  · omega
/-- the block that may contain a -/
theorem Below.holds {a : Int} {i : Nat} {c : Blk} (w : Wf ns n bs) (g : Good ns) (h : Below bs (a + 1) i) (hc : c ∈ bs) (h1 : c.1 ≤ a) (h2 : a < bEnd ns c) : 0 < i ∧ bs[i - 1]? = some c := by
  obtain ⟨j, hj, rfl⟩ := List.getElem_of_mem hc
  have ej := List.getElem?_eq_getElem hj
  have k := (h.2 j _ ej).mpr (by omega)
  refine ⟨by omega, ?_⟩
  have l := h.1
  by_cases e : j = i - 1
  · rw [← e]
    exact ej
  · have hi : i - 1 < bs.length := by omega
    have p := (w.lt g ej (List.getElem?_eq_getElem hi) (by omega)).1
    have k2 := (h.2 (i - 1) _ (List.getElem?_eq_getElem hi)).mp (by omega)
    omega
end
section
variable {P : Program} {w : World} {K : PySem.W.Frag} {mg : Str → Option Value} {base : Heap} {f : Addr} {fd : FuncData}
def spIx (K : PySem.W.Frag) : Sp := fun vs H Q _ => ∃ (y zp bl dx : Addr) (ps : List Addr) (ns : List Int) (n a : Int) (bs : List Blk) (j : Nat) (b : Blk), vs = [.ref y, .int a] ∧ Ly K H y zp bl dx ps ns n bs ∧ bs[j]? = some b ∧ b.1 = a ∧ Q (.int j) H
theorem sc_index_of : FnScope ["self", "address", "index"] ["self", "address"] (defScope (inClass (top 34) 10)) := ⟨rfl, rfl, rfl, by decide +kernel, rfl, by decide +kernel, by decide +kernel⟩
theorem ok_ix (T : Tx K mg) (D_is_integer : Df P w K mg base 1 "is_integer" ["value"] spInt) (M_count_below : Mf P w K mg base 1 "Layout" "count_below" ["self", "address"] (spCB K)) (F : FnP K "index_of" "Layout.index_of" (inClass (top 34) 10) f fd) :
    FnOk P w K mg base CX0 2 f fd ["self", "address"] (spIx K) := by
  refine F.ok sc_index_of (fun vs H Q E h => ?_) (fun cdv A outer s H vs Q E hr h => ⟨_, PSs.nox (pss_cons (ps_if (pt_val (pcall D_is_integer hr (pa_cons (pv 1) pa_nil))) (pss_cons (ps_set (i := 2) sc_index_of.nd rfl (by first | exact Or.inl rfl | exact Or.inr rfl) (pmeth M_count_below hr (pv 0) (pa_cons (pv 1) pa_nil))) (pss_one (ps_if (PW.pt (pw_and (pt_cmpR op_lt (pv 2) (pe_callB call_len_seq (by rfl) T.n_len (by decide +kernel) (pa_cons (pe_fld (pv 0) rfl) pa_nil)) (nomark _)) (pw_and1 (pt_cmpR op_eq (pe_ix ix_tup (pe_ix ix_list (pe_fld (pv 0) rfl) (pv 2) (fun _ _ => rfl)) pe_int (fun _ _ => rfl)) (pv 1) (nomark _))))) (pss_one (ps_ret (pv 2))) pss_nil))) pss_nil) (pss_one ps_never)), ?_⟩)
  · obtain ⟨y, zp, bl, dx, ps, ns, n, a, bs, j, b, rfl, _⟩ := h
    rfl
  · obtain ⟨y, zp, bl, dx, ps, ns, n, a, bs, j, b, rfl, L, hj, hb, q⟩ := h
    refine ⟨_, rfl, a, rfl, true, rfl, iteT ?_⟩
    refine ⟨_, rfl, y, dx, _, rfl, L.at_, lay_nm (by decide +kernel), _, rfl, y, zp, bl, dx, ps, ns, n, a, bs, rfl, L, fun i hi => ?_⟩
    obtain rfl := hi.at_ L.wf L.gd hj hb
    obtain ⟨p, hp, hT⟩ := L.rf.at_ hj
    have jl := (List.getElem?_eq_some_iff.mp hj).1
    have pl := L.rf.len
    refine ⟨_, rfl, _, rfl, y, _, dx, _, _, rfl, L.at_, T.ly, T.nBL, lay_bl .., bl, _, rfl, .inl (SqL.of L.lst), _, _, rfl, rfl, _, rfl, ifT (decide_eq_true (by rw [List.length_map]; omega)) ?_⟩
    exact ⟨_, rfl, y, _, dx, _, _, rfl, L.at_, T.ly, T.nBL, lay_bl .., _, rfl, bl, _, _, _, rfl, rfl, SqL.of L.lst, Refs.map_at hp, p, _, _, _, rfl, rfl, SqT.of hT, rfl, _, rfl, rfl, _, rfl, ifT (vT hb) ⟨_, rfl, q⟩⟩
def spAt (K : PySem.W.Frag) : Sp := fun vs H Q _ => ∃ (y zp bl dx : Addr) (ps : List Addr) (ns : List Int) (n a : Int) (bs : List Blk), vs = [.ref y, .int a] ∧ Ly K H y zp bl dx ps ns n bs ∧ 0 ≤ a ∧ a < n ∧
  ((∀ b ∈ bs, ¬ (b.1 ≤ a ∧ a < bEnd ns b)) → Q .non H) ∧ (∀ b ∈ bs, b.1 ≤ a → a < bEnd ns b → ∀ t, H t = none → Q (.ref t) (upd H t (.tup (blkV b))))
theorem sc_block_at : FnScope ["self", "address", "index", "start", "level", "is_pinned"] ["self", "address"] (defScope (inClass (top 34) 11)) := ⟨rfl, rfl, rfl, by decide +kernel, rfl, by decide +kernel, by decide +kernel⟩
theorem ok_at (T : Tx K mg) (D_is_address : Df P w K mg base 2 "is_address" ["value"] spAddr) (M_count_below : Mf P w K mg base 1 "Layout" "count_below" ["self", "address"] (spCB K)) (M_size : Mf P w K mg base 5 "Sizes" "size" ["self", "level"] (spSize K))
    (F : FnP K "block_at" "Layout.block_at" (inClass (top 34) 11) f fd) : FnOk P w K mg base CX0 6 f fd ["self", "address"] (spAt K) := by
  refine F.ok sc_block_at (fun vs H Q E h => ?_) (fun cdv A outer s H vs Q E hr h => ⟨_, PSs.nox (pss_cons (ps_if (PW.pt (pw_or (pt_not (pt_val (pcall D_is_address hr (pa_cons (pv 1) pa_nil)))) (pw_or1 (pt_cmpR op_ge (pv 1) (pe_fld (pv 0) rfl) (nomark _))))) (pss_one ps_never) pss_nil) (pss_cons (ps_set (i := 2) sc_block_at.nd rfl (by first | exact Or.inl rfl | exact Or.inr rfl) (pe_op op_sub (pmeth M_count_below hr (pv 0) (pa_cons (pe_op op_add (pv 1) pe_int) pa_nil)) pe_int)) (pss_cons (ps_if (pt_cmpR op_lt (pv 2) pe_int (nomark _)) (pss_one (ps_ret pe_non)) pss_nil) (pss_cons (ps_asg (pe_ix ix_list (pe_fld (pv 0) rfl) (pv 2) (fun _ _ => rfl)) (pg_tup (by rfl) (pgs_cons (pg_name (i := 3) sc_block_at.nd rfl (by first | exact Or.inl rfl | exact Or.inr rfl)) (pgs_cons (pg_name (i := 4) sc_block_at.nd rfl (by first | exact Or.inl rfl | exact Or.inr rfl)) (pgs_cons (pg_name (i := 5) sc_block_at.nd rfl (by first | exact Or.inl rfl | exact Or.inr rfl)) pgs_nil))))) (pss_one (ps_ret (pe_ifExp (pt_cmpR op_lt (pv 1) (pe_op op_add (pv 3) (pmeth M_size hr (pe_fld (pv 0) rfl) (pa_cons (pv 4) pa_nil))) (nomark _)) (pe_tup (pa_cons (pv 3) (pa_cons (pv 4) (pa_cons (pv 5) pa_nil)))) pe_non))))))), ?_⟩)
  · obtain ⟨y, zp, bl, dx, ps, ns, n, a, bs, rfl, _⟩ := h
    rfl
  · obtain ⟨y, zp, bl, dx, ps, ns, n, a, bs, rfl, L, a0, a1, q1, q2⟩ := h
    refine ⟨_, rfl, a, rfl, a0, true, rfl, iteF ⟨_, rfl, _, rfl, y, _, dx, _, _, rfl, L.at_, T.ly, T.nCC, lay_cc .., _, _, rfl, rfl, _, rfl, ifF (decide_eq_false (by omega)) ?_⟩⟩
    refine ⟨_, rfl, y, dx, _, rfl, L.at_, lay_nm (by decide +kernel), _, rfl, _, _, rfl, rfl, y, zp, bl, dx, ps, ns, n, a + 1, bs, rfl, L, fun i hi => ⟨_, _, rfl, rfl, ?_⟩⟩
    refine ⟨_, rfl, _, _, rfl, rfl, _, rfl, ?_⟩
    by_cases h0 : ((i : Int) - 1) < 0
    · refine ifT (decide_eq_true h0) (q1 fun b hb hh => ?_)
      have := (hi.holds L.wf L.gd hb hh.1 hh.2).1
      omega
    · refine ifF (decide_eq_false h0) ?_
      have e : ((i : Int) - 1) = ((i - 1 : Nat) : Int) := by omega
      have il : i - 1 < bs.length := by have := hi.1; omega
      obtain ⟨b, hb⟩ : ∃ b, bs[i - 1]? = some b := ⟨_, List.getElem?_eq_getElem il⟩
      have bm := List.mem_of_getElem? hb
      obtain ⟨p, hp, hT⟩ := L.rf.at_ hb
      have b1 := (hi.2 _ _ hb).mp (by omega)
      have bk := (L.wf.ok b bm).1
      obtain ⟨dz, l, z1, z2⟩ := id L.szs
      have hT' : H p = some (.tup [.int b.1, .int (b.2.1 : Nat), .bl b.2.2]) := hT
      refine ⟨_, rfl, y, _, dx, _, _, rfl, L.at_, T.ly, T.nBL, lay_bl .., _, rfl, bl, _, _, _, rfl, rfl, SqL.of L.lst, (by rw [e]; exact Refs.map_at hp), p, _, rfl, .inl (.inl hT'), rfl, _, _, rfl, _, _, rfl, _, _, rfl, rfl, ?_⟩
      refine ⟨_, rfl, _, rfl, _, rfl, y, _, dx, _, _, rfl, L.at_, T.ly, T.nST, lay_st .., zp, dz, _, rfl, z1, szF_no l (by decide +kernel), _, rfl, zp, ns, b.2.1, _, rfl, L.szs, sz_at bk, _, _, rfl, rfl, _, _, rfl, rfl, _, rfl, ?_⟩
      by_cases hc : a < b.1 + sz ns b.2.1
      · exact ifT (decide_eq_true hc) ⟨_, rfl, _, rfl, _, rfl, (by show 3 ≤ sizeLine; decide), fun t ht => q2 b bm (by omega) hc t ht⟩
      · refine ifF (decide_eq_false hc) (q1 fun c hcm hh => ?_)
        have e2 := (hi.holds L.wf L.gd hcm hh.1 hh.2).2
        rw [hb] at e2
        cases e2
        exact hc hh.2
/-- a range without a block -/
def FreeR (ns : List Int) (bs : List Blk) (lo hi : Int) : Prop := ∀ b ∈ bs, bEnd ns b ≤ lo ∨ hi ≤ b.1
def spFirst (K : PySem.W.Frag) : Sp := fun vs H Q _ => ∃ (y zp bl dx : Addr) (ps : List Addr) (ns : List Int) (n lo hi : Int) (bs : List Blk), vs = [.ref y, .int lo, .int hi] ∧ Ly K H y zp bl dx ps ns n bs ∧ 0 ≤ lo ∧ lo < hi ∧ hi ≤ n ∧ FreeR ns bs lo hi ∧ Q .non H
theorem sc_first_taken : FnScope ["self", "low", "high", "index"] ["self", "low", "high"] (defScope (inClass (top 34) 12)) := ⟨rfl, rfl, rfl, by decide +kernel, rfl, by decide +kernel, by decide +kernel⟩
theorem ok_first (T : Tx K mg) (M_block_at : Mf P w K mg base 6 "Layout" "block_at" ["self", "address"] (spAt K)) (M_count_below : Mf P w K mg base 1 "Layout" "count_below" ["self", "address"] (spCB K)) (F : FnP K "first_taken" "Layout.first_taken" (inClass (top 34) 12) f fd) :
    FnOk P w K mg base CX0 7 f fd ["self", "low", "high"] (spFirst K) := by
  refine F.ok sc_first_taken (fun vs H Q E h => ?_) (fun cdv A outer s H vs Q E hr h => ⟨_, PSs.nox (pss_cons (ps_if (pt_cmpR op_notN (pmeth M_block_at hr (pv 0) (pa_cons (pv 1) pa_nil)) pe_non (nomark _)) (pss_one (ps_ret (pv 1))) pss_nil) (pss_cons (ps_set (i := 3) sc_first_taken.nd rfl (by first | exact Or.inl rfl | exact Or.inr rfl) (pmeth M_count_below hr (pv 0) (pa_cons (pv 1) pa_nil))) (pss_cons (ps_if (PW.pt (pw_and (pt_cmpR op_lt (pv 3) (pe_callB call_len_seq (by rfl) T.n_len (by decide +kernel) (pa_cons (pe_fld (pv 0) rfl) pa_nil)) (nomark _)) (pw_and1 (pt_cmpR op_lt (pe_ix ix_tup (pe_ix ix_list (pe_fld (pv 0) rfl) (pv 3) (fun _ _ => rfl)) pe_int (fun _ _ => rfl)) (pv 2) (nomark _))))) (pss_one (ps_ret (pe_ix ix_tup (pe_ix ix_list (pe_fld (pv 0) rfl) (pv 3) (fun _ _ => rfl)) pe_int (fun _ _ => rfl)))) pss_nil) (pss_one (ps_ret pe_non))))), ?_⟩)
  · obtain ⟨y, zp, bl, dx, ps, ns, n, lo, hi, bs, rfl, _⟩ := h
    rfl
  · obtain ⟨y, zp, bl, dx, ps, ns, n, lo, hi, bs, rfl, L, l0, l1, l2, fr, q⟩ := h
    refine ⟨_, rfl, y, dx, _, rfl, L.at_, lay_nm (by decide +kernel), _, rfl, y, zp, bl, dx, ps, ns, n, lo, bs, rfl, L, l0, by omega, fun _ => ?_, fun b hb h1 h2 => ?_⟩
    · refine ⟨rfl, _, rfl, iteF ?_⟩
      refine ⟨_, rfl, y, dx, _, rfl, L.at_, lay_nm (by decide +kernel), _, rfl, y, zp, bl, dx, ps, ns, n, lo, bs, rfl, L, fun i hb0 => ?_⟩
      have pl := L.rf.len
      refine ⟨_, rfl, _, rfl, y, _, dx, _, _, rfl, L.at_, T.ly, T.nBL, lay_bl .., bl, _, rfl, .inl (SqL.of L.lst), _, _, rfl, rfl, _, rfl, ?_⟩
      by_cases hc : ((i : Nat) : Int) < (((ps.map V.ref).length : Nat) : Int)
      · have il : i < bs.length := by rw [List.length_map] at hc; omega
        obtain ⟨b, hb⟩ : ∃ b, bs[i]? = some b := ⟨_, List.getElem?_eq_getElem il⟩
        obtain ⟨p, hp, hT⟩ := L.rf.at_ hb
        have bm := List.mem_of_getElem? hb
        have z := L.wf.pos L.gd bm
        have nb : ¬ b.1 < hi := by
          have k := (hb0.2 i b hb)
          have r := fr b bm
          unfold bEnd at r
          omega
        refine ifT (decide_eq_true hc) ⟨_, rfl, y, _, dx, _, _, rfl, L.at_, T.ly, T.nBL, lay_bl .., _, rfl, bl, _, _, _, rfl, rfl, SqL.of L.lst, Refs.map_at hp, p, _, _, _, rfl, rfl, SqT.of hT, rfl, _, rfl, _, _, rfl, rfl, _, rfl, ifF (decide_eq_false nb) q⟩
      · exact ifF (decide_eq_false hc) q
    · exact absurd (fr b hb) (by unfold bEnd at *; omega)
end
end K44

set_option Elab.async false
set_option linter.all false
set_option maxRecDepth 100000
set_option maxHeartbeats 4000000
namespace K44
open PySem PySem.Spec PyProof.Rows L2 Gu Ex
abbrev FnK (K : PySem.W.Frag) (x qual : Str) (st : Stmt) (kws : List (Str × V)) (f : Addr) (fd : FuncData) : Prop := FunD K x qual (defArgs st) (defBody st) (defScope st) [] kws f fd
section
variable {ns : List Int} {n : Int} {bs : List Blk}
theorem mem_take_at {i : Nat} {c : Blk} (h : c ∈ bs.take i) : ∃ j, j < i ∧ bs[j]? = some c := by
  obtain ⟨j, hj, e⟩ := List.getElem_of_mem h
  rw [List.length_take] at hj
  refine ⟨j, by omega, ?_⟩
  rw [List.getElem_take] at e
  rw [← e]
  exact List.getElem?_eq_getElem (by omega)
theorem mem_drop_at {i : Nat} {c : Blk} (h : c ∈ bs.drop i) : ∃ j, i ≤ j ∧ bs[j]? = some c := by
  obtain ⟨j, hj, e⟩ := List.getElem_of_mem h
  rw [List.length_drop] at hj
  refine ⟨i + j, by omega, ?_⟩
  rw [List.getElem_drop] at e
  rw [← e]
  exact List.getElem?_eq_getElem (by omega)
/-- a block put in at its place -/
def insB (bs : List Blk) (i : Nat) (b : Blk) : List Blk := bs.take i ++ [b] ++ bs.drop i
theorem ins_wf {i : Nat} {b : Blk} (w : Wf ns n bs) (g : Good ns) (h : Below bs b.1 i) (k : b.2.1 < ns.length) (h0 : 0 ≤ b.1) (hd : sz ns b.2.1 ∣ b.1) (he : bEnd ns b ≤ n) (fr : FreeR ns bs b.1 (bEnd ns b)) : Wf ns n (insB bs i b) := by
  have z := (chain g).pos _ k
  have left : ∀ c ∈ bs.take i, bEnd ns c ≤ b.1 := fun c hc => by
    obtain ⟨j, hj, e⟩ := mem_take_at hc
    have h1 := (h.2 j c e).mp hj
    have r := fr c (List.mem_of_getElem? e)
    unfold bEnd at *
    omega
  have right : ∀ c ∈ bs.drop i, bEnd ns b ≤ c.1 := fun c hc => by
    obtain ⟨j, hj, e⟩ := mem_drop_at hc
    have h1 := h.2 j c e
    have r := fr c (List.mem_of_getElem? e)
    have zc := w.pos g (List.mem_of_getElem? e)
    unfold bEnd at *
    omega
  refine ⟨fun c hc => ?_, ?_⟩
  · unfold insB at hc
    rcases List.mem_append.mp hc with hc | hc
    · rcases List.mem_append.mp hc with hc | hc
      · exact w.ok c (List.mem_of_mem_take hc)
      · rw [List.mem_singleton.mp hc]
        exact ⟨k, h0, hd, he⟩
    · exact w.ok c (List.mem_of_mem_drop hc)
  · unfold insB
    rw [List.append_assoc]
    refine List.pairwise_append.mpr ⟨w.so.sublist (List.take_sublist _ _), ?_, fun c hc d hd => ?_⟩
    · refine List.pairwise_append.mpr ⟨List.pairwise_singleton _ _, w.so.sublist (List.drop_sublist _ _), fun c hc d hd => ?_⟩
      rw [List.mem_singleton.mp hc]
      exact right d hd
    · rcases List.mem_append.mp hd with hd | hd
      · rw [List.mem_singleton.mp hd]
        exact left c hc
      · have a1 := left c hc
        have a2 := right d hd
        unfold bEnd at *
        omega
theorem tot_app (xs ys : List Blk) : tot ns (xs ++ ys) = tot ns xs + tot ns ys := by
  unfold tot
  rw [List.map_append, List.sum_append]
theorem tot_one (b : Blk) : tot ns [b] = sz ns b.2.1 := by simp [tot]
theorem tot_ins (bs : List Blk) (i : Nat) (b : Blk) : tot ns (insB bs i b) = tot ns bs + sz ns b.2.1 := by
  unfold insB
  have e := congrArg (tot ns) (List.take_append_drop i bs)
  rw [tot_app] at e
  rw [tot_app, tot_app, tot_one]
  omega
theorem tot_era {j : Nat} {b : Blk} (h : bs[j]? = some b) : tot ns (bs.eraseIdx j) = tot ns bs - sz ns b.2.1 := by
  have e := congrArg (tot ns) (List.take_append_drop j bs)
  obtain ⟨hj, eb⟩ := List.getElem?_eq_some_iff.mp h
  rw [List.eraseIdx_eq_take_drop_succ, tot_app]
  rw [List.drop_eq_getElem_cons hj, tot_app, ← List.singleton_append, tot_app, tot_one, eb] at e
  omega
theorem era_wf {j : Nat} (w : Wf ns n bs) : Wf ns n (bs.eraseIdx j) := ⟨fun b hb => w.ok b (List.mem_of_mem_eraseIdx hb), w.so.sublist (List.eraseIdx_sublist _ _)⟩
/-- a block with another pin -/
def pinB (bs : List Blk) (j : Nat) (b : Blk) (p : Bool) : List Blk := bs.set j (b.1, b.2.1, p)
theorem pin_wf {j : Nat} {b : Blk} {p : Bool} (w : Wf ns n bs) (h : bs[j]? = some b) : Wf ns n (pinB bs j b p) := by
  obtain ⟨hj, eb⟩ := List.getElem?_eq_some_iff.mp h
  refine ⟨fun c hc => ?_, ?_⟩
  · rcases List.mem_or_eq_of_mem_set hc with z | z
    · exact w.ok c z
    · rw [z]
      exact w.ok b (List.mem_of_getElem? h)
  · refine List.pairwise_iff_getElem.mpr fun i k hi hk hik => ?_
    unfold pinB at hi hk ⊢
    rw [List.length_set] at hi hk
    have p0 := List.pairwise_iff_getElem.mp w.so i k hi hk hik
    rw [List.getElem_set, List.getElem_set]
    split
    · rename_i e
      subst e
      rw [if_neg (by omega)]
      rw [eb] at p0
      exact p0
    · split
      · rename_i e
        subst e
        rw [eb] at p0
        exact p0
      · exact p0
theorem tot_pin {j : Nat} {b : Blk} {p : Bool} (h : bs[j]? = some b) : tot ns (pinB bs j b p) = tot ns bs := by
  obtain ⟨hj, eb⟩ := List.getElem?_eq_some_iff.mp h
  unfold pinB tot
  rw [List.map_set]
  congr 1
  have e : sz ns b.2.1 = (bs.map fun b => sz ns b.2.1)[j]'(by rw [List.length_map]; exact hj) := by rw [List.getElem_map, eb]
  show (bs.map fun b => sz ns b.2.1).set j (sz ns b.2.1) = _
  rw [e, List.set_getElem_self]
end
/-- all but the layout's own two objects stay -/
def But2 (y bl : Addr) (H H' : Hp) : Prop := ∀ c o, c ≠ y → c ≠ bl → H c = some o → H' c = some o
theorem Refs.ins {α : Type} {f : α → List V} {H : Hp} {ps : List Addr} {ts : List α} {p : Addr} {t : α} (h : Refs f H ps ts) (i : Nat) (hp : H p = some (.tup (f t))) : Refs f H (ps.take i ++ [p] ++ ps.drop i) (ts.take i ++ [t] ++ ts.drop i) := ((h.take i).app (.one hp)).app (h.drop i)
theorem Refs.era {α : Type} {f : α → List V} {H : Hp} {ps : List Addr} {ts : List α} (h : Refs f H ps ts) (j : Nat) : Refs f H (ps.eraseIdx j) (ts.eraseIdx j) := by
  rw [List.eraseIdx_eq_take_drop_succ, List.eraseIdx_eq_take_drop_succ]
  exact (h.take j).app (h.drop (j + 1))
theorem Refs.set {α : Type} {f : α → List V} {H : Hp} {p : Addr} {t : α} (hp : H p = some (.tup (f t))) : ∀ {ps : List Addr} {ts : List α}, Refs f H ps ts → ∀ j, Refs f H (ps.set j p) (ts.set j t)
  | _, _, .nil, _ => .nil
  | _, _, .cons a b, 0 => .cons hp b
  | _, _, .cons a b, j + 1 => .cons a (Refs.set hp b j)
section
variable {P : Program} {w : World} {K : PySem.W.Frag} {mg : Str → Option Value} {base : Heap} {f : Addr} {fd : FuncData}
def spPut (K : PySem.W.Frag) : Sp := fun vs H Q _ => ∃ (y zp bl dx : Addr) (ps : List Addr) (ns : List Int) (n a : Int) (bs : List Blk) (k : Nat) (p : Bool), vs = [.ref y, .int k, .int a, .bl p] ∧ Ly K H y zp bl dx ps ns n bs ∧ bs.length < 900 ∧ k < ns.length ∧ 0 ≤ a ∧ a % sz ns k = 0 ∧ a + sz ns k ≤ n ∧ FreeR ns bs a (a + sz ns k) ∧
  ∀ i ps' H', Below bs a i → Ly K H' y zp bl dx ps' ns n (insB bs i (a, k, p)) → But2 y bl H H' → Q .non H'
theorem sc_put : FnScope ["self", "level", "address", "pinned", "size", "taken"] ["self", "level", "address", "pinned"] (defScope (inClass (top 34) 13)) := ⟨rfl, rfl, rfl, by decide +kernel, rfl, by decide +kernel, by decide +kernel⟩
theorem ok_put (T : Tx K mg) (M_size : Mf P w K mg base 5 "Sizes" "size" ["self", "level"] (spSize K)) (D_is_region : Df P w K mg base 7 "is_region" ["sizes", "length", "level", "address"] (spRegion K)) (M_first_taken : Mf P w K mg base 7 "Layout" "first_taken" ["self", "low", "high"] (spFirst K))
    (M_count_below : Mf P w K mg base 1 "Layout" "count_below" ["self", "address"] (spCB K)) (F : FnK K "put" "Layout.put" (inClass (top 34) 13) [("pinned", .bl false)] f fd) : FnOk P w K mg base CX0 8 f fd ["self", "level", "address", "pinned"] (spPut K) := by
  refine F.ok sc_put (fun vs H Q E h => ?_) (fun cdv A outer s H vs Q E hr h => ⟨_, PSs.nox (pss_cons (ps_set (i := 4) sc_put.nd rfl (by first | exact Or.inl rfl | exact Or.inr rfl) (pmeth M_size hr (pe_fld (pv 0) rfl) (pa_cons (pv 1) pa_nil))) (pss_cons (ps_if (pt_not (pt_val (pcall D_is_region hr (pa_cons (pe_fld (pv 0) rfl) (pa_cons (pe_fld (pv 0) rfl) (pa_cons (pv 1) (pa_cons (pv 2) pa_nil))))))) (pss_one ps_never) pss_nil) (pss_cons (ps_set (i := 5) sc_put.nd rfl (by first | exact Or.inl rfl | exact Or.inr rfl) (pmeth M_first_taken hr (pv 0) (pa_cons (pv 2) (pa_cons (pe_op op_add (pv 2) (pv 4)) pa_nil)))) (pss_cons (ps_if (pt_cmpR op_notN (pv 5) pe_non (nomark _)) (pss_one ps_never) pss_nil) (pss_cons (ps_expr (pe_bm PySem.F.plainAttrs_list PySem.F.slot_list_insert PySem.F.type_list_insert mt_insert (pe_fld (pv 0) rfl) (pa_cons (pmeth M_count_below hr (pv 0) (pa_cons (pv 2) pa_nil)) (pa_cons (pe_tup (pa_cons (pv 2) (pa_cons (pv 1) (pa_cons (pv 3) pa_nil)))) pa_nil)))) (pss_one (ps_fldaug (pv 0) (pv 4) in_sub))))))), ?_⟩)
  · obtain ⟨y, zp, bl, dx, ps, ns, n, a, bs, k, p, rfl, _⟩ := h
    rfl
  · obtain ⟨y, zp, bl, dx, ps, ns, n, a, bs, k, p, rfl, L, l900, hk, a0, a1, a2, fr, q⟩ := h
    obtain ⟨dz, l, zz, zl, zy, zb, lb, ly, nyb⟩ := L.far
    have z := (chain L.gd).pos _ hk
    have pl := L.rf.len
    have sl : sizeLine = 16777216 := sizeLine_eq
    refine ⟨_, rfl, y, _, dx, _, _, rfl, L.at_, T.ly, T.nST, lay_st .., zp, dz, _, rfl, zz, szF_no l (by decide +kernel), _, rfl, zp, ns, k, _, rfl, L.szs, sz_at hk, ?_⟩
    refine ⟨_, rfl, y, _, dx, _, _, rfl, L.at_, T.ly, T.nST, lay_st .., _, rfl, y, _, dx, _, _, rfl, L.at_, T.ly, T.nCC, lay_cc .., _, rfl, _, rfl, zp, ns, k, n, a, rfl, L.szs, L.gd, hk, L.n1, L.n2, a0, a1, a2, true, rfl, iteF ?_⟩
    refine ⟨_, rfl, y, dx, _, rfl, L.at_, lay_nm (by decide +kernel), _, rfl, _, rfl, _, rfl, _, _, rfl, rfl, y, zp, bl, dx, ps, ns, n, a, a + sz ns k, bs, rfl, L, a0, by omega, a2, fr, ?_⟩
    refine ⟨_, rfl, rfl, _, rfl, iteF ?_⟩
    refine ⟨_, rfl, y, _, dx, _, _, rfl, L.at_, T.ly, T.nBL, lay_bl .., .inl ⟨rfl, _, SqL.of L.lst⟩, _, rfl, y, dx, _, rfl, L.at_, lay_nm (by decide +kernel), _, rfl, y, zp, bl, dx, ps, ns, n, a, bs, rfl, L, fun i hi => ?_⟩
    refine ⟨_, rfl, _, rfl, _, rfl, (by show 3 ≤ sizeLine; decide), fun t ht => ?_⟩
    have ntb : bl ≠ t := ne_of_none L.lst ht
    have nty : y ≠ t := ne_of_none L.at_ ht
    refine ⟨bl, _, i, _, rfl, rfl, (by rw [upd_ne ntb]; exact L.lst), (by rw [List.length_map]; omega), by omega, (by have := hi.1; have := L.ln; omega), ?_⟩
    have keep : ∀ {c : Addr} {o : HO} {u v : HO}, c ≠ y → c ≠ bl → H c = some o → (upd (upd (upd H t (.tup (blkV (a, k, p)))) bl u) y v) c = some o := fun {c o u v} c1 c2 e => by
      rw [upd_ne c1, upd_ne c2, upd_ne (ne_of_none e ht)]
      exact e
    refine ⟨_, rfl, y, _, dx, _, _, rfl, (by rw [upd_ne nyb, upd_ne nty]; exact L.at_), T.ly, T.nFC, lay_fc .., _, rfl, _, _, rfl, rfl, dx, _, (by rw [upd_ne nyb, upd_ne nty]; exact L.at_), (by show 4 < 1000; decide), ?_⟩
    refine q i (ps.take i ++ [t] ++ ps.drop i) _ hi ⟨?_, ?_, ?_, ?_, ins_wf L.wf L.gd hi hk a0 (M16.dvd0 a1) a2 fr, L.gd, L.n1, L.n2, ?_, ⟨dz, l, keep zy zb zz, keep ly lb zl, lb⟩⟩ fun c o c1 c2 e => keep c1 c2 e
    · rw [upd_same, lay_put, tot_ins]
      have e : n - tot ns bs - sz ns k = n - (tot ns bs + sz ns k) := by omega
      exact congrArg (fun z => some (HO.ins (He.ga K "Layout") dx (layF zp n z bl))) e
    · exact ⟨dz, l, keep zy zb zz, keep ly lb zl⟩
    · rw [upd_ne nyb.symm, upd_same, List.map_append, List.map_append, List.map_take, List.map_drop]
      rfl
    · refine Refs.ins (L.rf.mono fun c xs e => ?_) i ?_
      · exact keep (fun z => by rw [z, L.at_] at e; cases e) (fun z => by rw [z, L.lst] at e; cases e) e
      · rw [upd_ne nty.symm, upd_ne ntb.symm, upd_same]
        rfl
    · unfold insB
      rw [List.length_append, List.length_append, List.length_take, List.length_drop, List.length_singleton]
      omega
theorem era_map (ps : List Addr) (j : Nat) : (ps.map V.ref).eraseIdx j = (ps.eraseIdx j).map V.ref := by
  rw [List.eraseIdx_eq_take_drop_succ, List.eraseIdx_eq_take_drop_succ, List.map_append, List.map_take, List.map_drop]
theorem ix_nat {k n : Nat} (h : k < n) : ixN n (k : Int) = some k := by
  unfold ixN
  rw [if_pos (by omega), if_pos (by omega), Int.toNat_natCast]
def spTake (K : PySem.W.Frag) : Sp := fun vs H Q _ => ∃ (y zp bl dx : Addr) (ps : List Addr) (ns : List Int) (n a : Int) (bs : List Blk) (j : Nat) (b : Blk), vs = [.ref y, .int a] ∧ Ly K H y zp bl dx ps ns n bs ∧ bs[j]? = some b ∧ b.1 = a ∧
  ∀ t ps' H', H t = none → Ly K H' y zp bl dx ps' ns n (bs.eraseIdx j) → H' t = some (.tup [.int (b.2.1 : Nat), .bl b.2.2]) → But2 y bl H H' → Q (.ref t) H'
theorem sc_take_out : FnScope ["self", "address", "start", "level", "is_pinned"] ["self", "address"] (defScope (inClass (top 34) 14)) := ⟨rfl, rfl, rfl, by decide +kernel, rfl, by decide +kernel, by decide +kernel⟩
theorem ok_take (T : Tx K mg) (M_index_of : Mf P w K mg base 2 "Layout" "index_of" ["self", "address"] (spIx K)) (M_size : Mf P w K mg base 5 "Sizes" "size" ["self", "level"] (spSize K)) (F : FnP K "take_out" "Layout.take_out" (inClass (top 34) 14) f fd) :
    FnOk P w K mg base CX0 6 f fd ["self", "address"] (spTake K) := by
  refine F.ok sc_take_out (fun vs H Q E h => ?_) (fun cdv A outer s H vs Q E hr h => ⟨_, PSs.nox (pss_cons (ps_asg (pe_bm PySem.F.plainAttrs_list PySem.F.slot_list_pop PySem.F.type_list_pop mt_popAt (pe_fld (pv 0) rfl) (pa_cons (pmeth M_index_of hr (pv 0) (pa_cons (pv 1) pa_nil)) pa_nil)) (pg_tup (by rfl) (pgs_cons (pg_name (i := 2) sc_take_out.nd rfl (by first | exact Or.inl rfl | exact Or.inr rfl)) (pgs_cons (pg_name (i := 3) sc_take_out.nd rfl (by first | exact Or.inl rfl | exact Or.inr rfl)) (pgs_cons (pg_name (i := 4) sc_take_out.nd rfl (by first | exact Or.inl rfl | exact Or.inr rfl)) pgs_nil))))) (pss_cons (ps_fldaug (pv 0) (pmeth M_size hr (pe_fld (pv 0) rfl) (pa_cons (pv 3) pa_nil)) in_add) (pss_one (ps_ret (pe_tup (pa_cons (pv 3) (pa_cons (pv 4) pa_nil))))))), ?_⟩)
  · obtain ⟨y, zp, bl, dx, ps, ns, n, a, bs, j, b, rfl, _⟩ := h
    rfl
  · obtain ⟨y, zp, bl, dx, ps, ns, n, a, bs, j, b, rfl, L, hj, hb, q⟩ := h
    obtain ⟨dz, l, zz, zl, zy, zb, lb, ly, nyb⟩ := L.far
    have pl := L.rf.len
    have bn := L.ln
    have jl := (List.getElem?_eq_some_iff.mp hj).1
    have hk := (L.wf.ok b (List.mem_of_getElem? hj)).1
    obtain ⟨p, hp, hT⟩ := L.rf.at_ hj
    have hT' : H p = some (.tup [.int b.1, .int (b.2.1 : Nat), .bl b.2.2]) := hT
    refine ⟨_, rfl, y, _, dx, _, _, rfl, L.at_, T.ly, T.nBL, lay_bl .., .inl ⟨rfl, _, SqL.of L.lst⟩, _, rfl, y, dx, _, rfl, L.at_, lay_nm (by decide +kernel), _, rfl, y, zp, bl, dx, ps, ns, n, a, bs, j, b, rfl, L, hj, hb, ?_⟩
    refine ⟨bl, _, j, j, .ref p, rfl, rfl, L.lst, by omega, by omega, (by rw [List.length_map]; exact (seqIndex_at (by omega) (by omega)).trans (by rw [Int.toNat_natCast])), (by rw [List.getElem?_map, hp]; rfl), ?_⟩
    have keep0 : ∀ {c : Addr} {o : HO} {u : HO}, c ≠ bl → H c = some o → (upd H bl u) c = some o := fun {c o u} c2 e => by
      rw [upd_ne c2]
      exact e
    have pb : p ≠ bl := fun z => by rw [z, L.lst] at hT'; cases hT'
    have py : p ≠ y := fun z => by rw [z, L.at_] at hT'; cases hT'
    refine ⟨p, _, rfl, .inl (.inl (keep0 pb hT')), rfl, _, _, rfl, _, _, rfl, _, _, rfl, rfl, ?_⟩
    refine ⟨_, rfl, y, _, dx, _, _, rfl, keep0 nyb L.at_, T.ly, T.nFC, lay_fc .., _, rfl, y, _, dx, _, _, rfl, keep0 nyb L.at_, T.ly, T.nST, lay_st .., zp, dz, _, rfl, keep0 zb zz, szF_no l (by decide +kernel), _, rfl, zp, ns, b.2.1, _, rfl, ⟨dz, l, keep0 zb zz, keep0 lb zl⟩, sz_at hk, _, _, rfl, rfl, dx, _, keep0 nyb L.at_, (by show 4 < 1000; decide), ?_⟩
    refine ⟨_, rfl, _, rfl, (by show 2 ≤ sizeLine; decide), fun t ht => ?_⟩
    have keep : ∀ {c : Addr} {o : HO} {u v v' : HO}, c ≠ y → c ≠ bl → H c = some o → (upd (upd (upd H bl u) y v) t v') c = some o ∨ c = t := fun {c o u v v'} c1 c2 e => by
      by_cases ct : c = t
      · exact .inr ct
      · rw [upd_ne ct, upd_ne c1, upd_ne c2]
        exact .inl e
    have ty : t ≠ y := fun z => by
      rw [z, upd_same] at ht
      cases ht
    have tb : t ≠ bl := fun z => by
      rw [z, upd_ne nyb.symm, upd_same] at ht
      cases ht
    have tn : H t = none := by
      rw [upd_ne ty, upd_ne tb] at ht
      exact ht
    have kp : ∀ {c : Addr} {o : HO} {u v v' : HO}, c ≠ y → c ≠ bl → H c = some o → (upd (upd (upd H bl u) y v) t v') c = some o := fun {c o u v v'} c1 c2 e => by
      rw [upd_ne (ne_of_none e tn), upd_ne c1, upd_ne c2]
      exact e
    refine q t (ps.eraseIdx j) _ tn ⟨?_, ⟨dz, l, kp zy zb zz, kp ly lb zl⟩, ?_, (L.rf.mono fun c xs e => ?_).era j, era_wf L.wf, L.gd, L.n1, L.n2, ?_, ⟨dz, l, kp zy zb zz, kp ly lb zl, lb⟩⟩ upd_same fun c o c1 c2 e => kp c1 c2 e
    · rw [upd_ne ty.symm, upd_same, lay_put, tot_era hj]
      have e : n - tot ns bs + sz ns b.2.1 = n - (tot ns bs - sz ns b.2.1) := by omega
      exact congrArg (fun z => some (HO.ins (He.ga K "Layout") dx (layF zp n z bl))) e
    · rw [upd_ne tb.symm, upd_ne nyb.symm, upd_same, era_map]
    · exact kp (fun z => by rw [z, L.at_] at e; cases e) (fun z => by rw [z, L.lst] at e; cases e) e
    · have := List.length_eraseIdx_le bs j
      omega
def spPin (K : PySem.W.Frag) : Sp := fun vs H Q _ => ∃ (y zp bl dx : Addr) (ps : List Addr) (ns : List Int) (n a : Int) (bs : List Blk) (j : Nat) (b : Blk) (p : Bool), vs = [.ref y, .int a, .bl p] ∧ Ly K H y zp bl dx ps ns n bs ∧ bs[j]? = some b ∧ b.1 = a ∧
  ∀ ps' H', Ly K H' y zp bl dx ps' ns n (pinB bs j b p) → But2 y bl H H' → Q .non H'
end
end K44

set_option Elab.async false
set_option linter.all false
set_option maxRecDepth 100000
set_option maxHeartbeats 4000000
namespace K44
open PySem PySem.Spec PyProof.Rows L2 Gu Ex
def prV (p : Int × Int) : List V := [.int p.1, .int p.2]
def gapsI (n : Int) : Int → List (Int × Int) → List (Int × Int)
  | low, [] => if low < n then [(low, n)] else []
  | low, (s, e) :: r => (if low < s then [(low, s)] else []) ++ gapsI n e r
def rngB (ns : List Int) (b : Blk) : Int × Int := (b.1, bEnd ns b)
theorem drop_at {α : Type} {rs : List α} {i : Nat} {t : α} (h : rs[i]? = some t) : rs.drop i = t :: rs.drop (i + 1) := by
  obtain ⟨hi, e⟩ := List.getElem?_eq_some_iff.mp h
  rw [List.drop_eq_getElem_cons hi, e]
theorem take_at {α : Type} {rs : List α} {i : Nat} {t : α} (h : rs[i]? = some t) : rs.take (i + 1) = rs.take i ++ [t] := by
  rw [List.take_add_one, h]
  rfl
/-- appending a new tuple to a new list -/
theorem Refs.more {α : Type} {f : α → List V} {H : Hp} {ps : List Addr} {ts : List α} {M t : Addr} {u : α} {xs : List V} (h : Refs f H ps ts) (hM : H M = some (.lst xs)) (ht : H t = none) : Refs f (upd (upd H t (.tup (f u))) M (.lst (xs ++ [.ref t]))) (ps ++ [t]) (ts ++ [u]) := by
  have nM : M ≠ t := ne_of_none hM ht
  refine (h.mono fun b ys e => ?_).app (.one ?_)
  · rw [upd_ne (fun z => by rw [z, hM] at e; cases e), upd_ne (ne_of_none e ht)]
    exact e
  · rw [upd_ne nM.symm, upd_same]
theorem ref_of {ps : List Addr} {i : Nat} {x : V} (h : (ps.map V.ref)[i]? = some x) : ∃ p, ps[i]? = some p ∧ x = .ref p := by
  rw [List.getElem?_map] at h
  cases e : ps[i]? with
  | none => rw [e] at h; cases h
  | some p => rw [e] at h; exact ⟨p, rfl, (Option.some.inj h).symm⟩
section
variable {P : Program} {w : World} {K : PySem.W.Frag} {mg : Str → Option Value} {base : Heap} {f : Addr} {fd : FuncData}
def spGaps : Sp := fun vs H Q _ => ∃ (L : Addr) (n : Int) (ps : List Addr) (rs : List (Int × Int)), vs = [.ref L, .int n] ∧ H L = some (.lst (ps.map V.ref)) ∧ Refs prV H ps rs ∧ rs.length ≤ 1000 ∧
  ∀ M qs H', H M = none → Same H H' → H' M = some (.lst (qs.map V.ref)) → Refs prV H' qs (gapsI n 0 rs) → Q (.ref M) H'
theorem sc_gaps_between : FnScope ["ranges", "length", "gaps", "low", "start", "end"] ["ranges", "length"] (defScope (top 24)) := ⟨rfl, rfl, rfl, by decide +kernel, rfl, by decide +kernel, by decide +kernel⟩
theorem ok_gaps (T : Tx K mg) (F : FnP K "gaps_between" "gaps_between" (top 24) f fd) : FnOk P w K mg base CX0 1 f fd ["ranges", "length"] spGaps := by
  refine F.ok sc_gaps_between (fun vs H Q E h => ?_) (fun cdv A outer s H vs Q E hr h => ⟨_, PSs.nox (pss_cons (ps_set (i := 2) sc_gaps_between.nd rfl (by first | exact Or.inl rfl | exact Or.inr rfl) (pe_lst pa_nil)) (pss_cons (ps_set (i := 3) sc_gaps_between.nd rfl (by first | exact Or.inl rfl | exact Or.inr rfl) pe_int) (pss_cons (ps_for PassesOwn.never rfl (pi_list (pv 0)) (pg_tup (by rfl) (pgs_cons (pg_name (i := 4) sc_gaps_between.nd rfl (by first | exact Or.inl rfl | exact Or.inr rfl)) (pgs_cons (pg_name (i := 5) sc_gaps_between.nd rfl (by first | exact Or.inl rfl | exact Or.inr rfl)) pgs_nil))) (pss_cons (ps_if (pt_cmpR op_lt (pv 3) (pv 4) (nomark _)) (pss_one (ps_expr (pe_bm PySem.F.plainAttrs_list PySem.F.slot_list_append PySem.F.type_list_append mt_append (pv 2) (pa_cons (pe_tup (pa_cons (pv 3) (pa_cons (pv 4) pa_nil))) pa_nil)))) pss_nil) (pss_one (ps_set (i := 3) sc_gaps_between.nd rfl (by first | exact Or.inl rfl | exact Or.inr rfl) (pv 5))))) (pss_cons (ps_if (pt_cmpR op_lt (pv 3) (pv 1) (nomark _)) (pss_one (ps_expr (pe_bm PySem.F.plainAttrs_list PySem.F.slot_list_append PySem.F.type_list_append mt_append (pv 2) (pa_cons (pe_tup (pa_cons (pv 3) (pa_cons (pv 1) pa_nil))) pa_nil)))) pss_nil) (pss_one (ps_ret (pv 2))))))), ?_⟩)
  · obtain ⟨L, n, ps, rs, rfl, _⟩ := h
    rfl
  · obtain ⟨L, n, ps, rs, rfl, hL, rf, r1000, q⟩ := h
    have sl : sizeLine = 16777216 := sizeLine_eq
    have two : 2 ≤ sizeLine := by decide
    refine ⟨Nat.zero_le _, fun M hM => ?_⟩
    refine ⟨_, rfl, L, rfl, ⟨_, SqL.of (same_upd hM _ _ hL)⟩, ?_⟩
    have pl := rf.len
    refine for_list (K := K) (a := L) (xs := ps.map V.ref) (fun i σ G => ∃ (low : Int) (acc : List (Int × Int)) (qs : List Addr) (y4 y5 : Option V), σ = [some (.ref L), some (.int n), some (.ref M), some (.int low), y4, y5] ∧ Same H G ∧ G M = some (.lst (qs.map V.ref)) ∧ Refs prV G qs acc ∧ acc.length ≤ i ∧ gapsI n 0 rs = acc ++ gapsI n low (rs.drop i))
      ⟨0, [], [], none, none, rfl, same_upd hM, upd_same, .nil, Nat.le_refl _, rfl⟩ (fun i σ G _ ⟨_, _, _, _, _, _, sm, _⟩ => SqL.of (sm _ _ hL)) ?_ ?_
    · rintro i x σ G hx ⟨low, acc, qs, y4, y5, rfl, sm, hG, ra, al, eq⟩
      obtain ⟨p, hp, rfl⟩ := ref_of hx
      obtain ⟨t, ht, hT⟩ := (rf.same sm).get hp
      have hT' : G p = some (.tup [.int t.1, .int t.2]) := hT
      have il : i < rs.length := (List.getElem?_eq_some_iff.mp ht).1
      rw [drop_at ht] at eq
      have eq2 : gapsI n 0 rs = acc ++ ((if low < t.1 then [(low, t.1)] else []) ++ gapsI n t.2 (rs.drop (i + 1))) := eq
      have ql := ra.len
      refine ⟨p, _, rfl, .inl (.inl hT'), rfl, _, _, rfl, _, _, rfl, rfl, ?_⟩
      refine ⟨_, rfl, _, rfl, _, _, rfl, rfl, _, rfl, ?_⟩
      by_cases hc : low < t.1
      · rw [if_pos hc] at eq2
        refine ifT (decide_eq_true hc) ⟨_, rfl, .inl ⟨rfl, _, SqL.of hG⟩, _, rfl, _, rfl, two, fun u hu => ?_⟩
        have nM : M ≠ u := ne_of_none hG hu
        refine ⟨M, _, _, rfl, rfl, (by rw [upd_ne nM]; exact hG), (by rw [List.length_map]; omega), _, rfl, t.2, acc ++ [(low, t.1)], qs ++ [u], _, _, rfl, fun b o e => ?_, ?_, Refs.more (u := (low, t.1)) ra hG hu, ?_, ?_⟩
        · rw [upd_ne (ne_of_none e hM), upd_ne (ne_of_none (sm b o e) hu)]
          exact sm b o e
        · rw [upd_same, List.map_append]
          rfl
        · rw [List.length_append, List.length_singleton]
          omega
        · rw [eq2, List.append_assoc]
      · rw [if_neg hc] at eq2
        exact ifF (decide_eq_false hc) ⟨_, rfl, t.2, acc, qs, _, _, rfl, sm, hG, ra, by omega, eq2⟩
    · rintro σ G ⟨low, acc, qs, y4, y5, rfl, sm, hG, ra, al, eq⟩
      rw [List.length_map, pl, List.drop_length] at eq
      have eq2 : gapsI n 0 rs = acc ++ (if low < n then [(low, n)] else []) := eq
      have ql := ra.len
      rw [List.length_map] at al
      refine ⟨_, rfl, _, rfl, _, _, rfl, rfl, _, rfl, ?_⟩
      by_cases hc : low < n
      · rw [if_pos hc] at eq2
        refine ifT (decide_eq_true hc) ⟨_, rfl, .inl ⟨rfl, _, SqL.of hG⟩, _, rfl, _, rfl, two, fun u hu => ?_⟩
        have nM : M ≠ u := ne_of_none hG hu
        refine ⟨M, _, _, rfl, rfl, (by rw [upd_ne nM]; exact hG), (by rw [List.length_map]; omega), _, rfl, q M (qs ++ [u]) _ hM (fun b o e => ?_) ?_ ?_⟩
        · rw [upd_ne (ne_of_none e hM), upd_ne (ne_of_none (sm b o e) hu)]
          exact sm b o e
        · rw [upd_same, List.map_append]
          rfl
        · rw [eq2]
          exact Refs.more (u := (low, n)) ra hG hu
      · rw [if_neg hc, List.append_nil] at eq2
        refine ifF (decide_eq_false hc) ⟨_, rfl, q M qs G hM sm hG ?_⟩
        rw [eq2]
        exact ra
def spRanges (K : PySem.W.Frag) : Sp := fun vs H Q _ => ∃ (y zp bl dx : Addr) (ps : List Addr) (ns : List Int) (n : Int) (bs : List Blk) (M : Addr) (qs : List Addr) (cs : List Blk), vs = [.ref y, .ref M] ∧ Ly K H y zp bl dx ps ns n bs ∧ H M = some (.lst (qs.map V.ref)) ∧ Refs blkV H qs cs ∧ cs.length ≤ 1000 ∧ (∀ b ∈ cs, b.2.1 < ns.length) ∧
  ∀ D rs H', H D = none → Same H H' → H' D = some (.lst (rs.map V.ref)) → Refs prV H' rs (cs.map (rngB ns)) → Q (.ref D) H'
theorem sc_ranges_of : FnScope ["self", "blocks", "address", "level", "is_pinned"] ["self", "blocks"] (defScope (inClass (top 34) 16)) := ⟨rfl, rfl, rfl, by decide +kernel, rfl, by decide +kernel, by decide +kernel⟩
theorem ok_ranges (T : Tx K mg) (M_size : Mf P w K mg base 5 "Sizes" "size" ["self", "level"] (spSize K)) (F : FnP K "ranges_of" "Layout.ranges_of" (inClass (top 34) 16) f fd) : FnOk P w K mg base CX0 6 f fd ["self", "blocks"] (spRanges K) := by
  refine F.ok sc_ranges_of (fun vs H Q E h => ?_) (fun cdv A outer s H vs Q E hr h => ⟨_, PSs.nox (pss_one (ps_ret (pe_lc (own := [("address", 2), ("level", 3), ("is_pinned", 4)]) (g := gTup K 3 (gCons (gName 2) (gCons (gName 3) (gCons (gName 4) gNil)))) rfl sc_ranges_of.nd (pi_list (pv 1)) (blkOk_by (own := [("address", 2), ("level", 3), ("is_pinned", 4)]) (N := ["self", "blocks", "address", "level", "is_pinned"]) (sc := defScope (inClass (top 34) 16)) (by decide +kernel)) (fun _ _ _ _ _ => pg_tup rfl (pgs_cons (pg_name (i := 2) sc_ranges_of.nd rfl (Or.inl rfl)) (pgs_cons (pg_name (i := 3) sc_ranges_of.nd rfl (Or.inl rfl)) (pgs_cons (pg_name (i := 4) sc_ranges_of.nd rfl (Or.inl rfl)) pgs_nil)))) (fun _ _ _ _ _ => pts_nil) (fun _ _ _ _ _ => (pe_tup (pa_cons (pv 2) (pa_cons (pe_op op_add (pv 2) (pmethB K M_size hr (pfldB K (pv 0)) (pa_cons (pv 3) pa_nil))) pa_nil))))))), ?_⟩)
  · obtain ⟨y, zp, bl, dx, ps, ns, n, bs, M, qs, cs, rfl, _⟩ := h
    rfl
  · obtain ⟨y, zp, bl, dx, ps, ns, n, bs, M, qs, cs, rfl, L, hM, rf, c1000, hc, q⟩ := h
    have sl : sizeLine = 16777216 := sizeLine_eq
    have two : 2 ≤ sizeLine := by decide
    have ql := rf.len
    refine ⟨_, rfl, M, rfl, ⟨_, SqL.of hM⟩, fun D hD => ?_⟩
    refine lc_list (K := K) (a := M) (xs := qs.map V.ref) (fun i G => ∃ rs, G D = some (.lst (rs.map V.ref)) ∧ Refs prV G rs ((cs.take i).map (rngB ns)) ∧ Same H G) ⟨[], upd_same, .nil, same_upd hD⟩ (fun i G _ ⟨_, _, _, sm⟩ => SqL.of (sm _ _ hM)) ?_ ?_
    · rintro i x G hx ⟨rs, hG, rr, sm⟩
      obtain ⟨p, hp, rfl⟩ := ref_of hx
      obtain ⟨b, hb, hT⟩ := (rf.same sm).get hp
      have hT' : G p = some (.tup [.int b.1, .int (b.2.1 : Nat), .bl b.2.2]) := hT
      have il : i < cs.length := (List.getElem?_eq_some_iff.mp hb).1
      have bk := hc b (List.mem_of_getElem? hb)
      have LG := L.same sm
      obtain ⟨dz, l, z1, z2⟩ := id LG.szs
      have rl := rr.len
      rw [List.length_map, List.length_take] at rl
      refine ⟨p, _, rfl, .inl (.inl hT'), rfl, _, _, rfl, _, _, rfl, _, _, rfl, rfl, rfl, ?_⟩
      refine ⟨_, rfl, _, rfl, _, rfl, y, _, dx, _, _, rfl, LG.at_, T.ly, T.nST, lay_st .., zp, dz, _, rfl, z1, szF_no l (by decide +kernel), _, rfl, zp, ns, b.2.1, _, rfl, LG.szs, sz_at bk, _, _, rfl, rfl, two, fun t ht => ?_⟩
      have nD : D ≠ t := ne_of_none hG ht
      refine ⟨_, (by rw [upd_ne nD]; exact hG), (by rw [List.length_map]; omega), rs ++ [t], ?_, ?_, fun c o e => ?_⟩
      · rw [upd_same, List.map_append]
        rfl
      · rw [take_at hb, List.map_append]
        exact Refs.more (u := rngB ns b) rr hG ht
      · rw [upd_ne (ne_of_none e hD), upd_ne (ne_of_none (sm c o e) ht)]
        exact sm c o e
    · rintro G ⟨rs, hG, rr, sm⟩
      rw [List.length_map, ql, List.take_length] at rr
      exact q D rs G hD sm hG rr
end
end K44

set_option Elab.async false
set_option linter.all false
set_option maxRecDepth 100000
set_option maxHeartbeats 4000000
namespace K44
open PySem PySem.Spec PyProof.Rows L2 Gu Ex
theorem filter_at {bs : List Blk} {i : Nat} {b : Blk} (p : Blk → Bool) (h : bs[i]? = some b) : (bs.take (i + 1)).filter p = (bs.take i).filter p ++ (if p b = true then [b] else []) := by
  rw [take_at h, List.filter_append, List.filter_cons, List.filter_nil]
/-- the gaps are right ranges -/
theorem gaps_ok {n : Int} : ∀ {rs : List (Int × Int)} {low : Int}, 0 ≤ low → (∀ r ∈ rs, 0 ≤ r.2) → ∀ g ∈ gapsI n low rs, 0 ≤ g.1 ∧ g.1 ≤ g.2
  | [], low, h, _, g, hg => by
    have hg2 : g ∈ (if low < n then [(low, n)] else []) := hg
    split at hg2
    · rw [List.mem_singleton.mp hg2]
      exact ⟨h, by show low ≤ n; omega⟩
    · cases hg2
  | (s, e) :: r, low, h, hr, g, hg => by
    rcases List.mem_append.mp (show g ∈ (if low < s then [(low, s)] else []) ++ gapsI n e r from hg) with z | z
    · split at z
      · rw [List.mem_singleton.mp z]
        exact ⟨h, by show low ≤ s; omega⟩
      · cases z
    · exact gaps_ok (hr (s, e) List.mem_cons_self) (fun x hx => hr x (List.mem_cons_of_mem _ hx)) g z
/-- the clear cells, as reckoned -/
def pinR (ns : List Int) (bs : List Blk) : List (Int × Int) := (bs.filter fun b => b.2.2).map (rngB ns)
def regI (ns : List Int) (k : Nat) (gs : List (Int × Int)) : Int := (gs.map fun g => cntI (sz ns k) g.1 g.2).sum
def clrI (ns : List Int) (n : Int) (bs : List Blk) (k : Nat) : Int := regI ns k (gapsI n 0 (pinR ns bs)) * sz ns k
theorem gaps_len {n : Int} : ∀ (rs : List (Int × Int)) (low : Int), (gapsI n low rs).length ≤ rs.length + 1
  | [], low => by
    show (if low < n then [(low, n)] else []).length ≤ 1
    split <;> simp
  | (s, e) :: r, low => by
    show ((if low < s then [(low, s)] else []) ++ gapsI n e r).length ≤ r.length + 1 + 1
    have := gaps_len (n := n) r e
    rw [List.length_append]
    split
    · rw [List.length_singleton]
      omega
    · rw [List.length_nil]
      omega
section
variable {P : Program} {w : World} {K : PySem.W.Frag} {mg : Str → Option Value} {base : Heap} {f : Addr} {fd : FuncData}
def spPinned (K : PySem.W.Frag) : Sp := fun vs H Q _ => ∃ (y zp bl dx : Addr) (ps : List Addr) (ns : List Int) (n : Int) (bs : List Blk), vs = [.ref y] ∧ Ly K H y zp bl dx ps ns n bs ∧
  ∀ D rs H', H D = none → Same H H' → H' D = some (.lst (rs.map V.ref)) → Refs prV H' rs (pinR ns bs) → Q (.ref D) H'
theorem sc_pinned_ranges : FnScope ["self", "block"] ["self"] (defScope (inClass (top 34) 18)) := ⟨rfl, rfl, rfl, by decide +kernel, rfl, by decide +kernel, by decide +kernel⟩
theorem ok_pinned (T : Tx K mg) (M_ranges_of : Mf P w K mg base 6 "Layout" "ranges_of" ["self", "blocks"] (spRanges K)) (F : FnP K "pinned_ranges" "Layout.pinned_ranges" (inClass (top 34) 18) f fd) : FnOk P w K mg base CX0 7 f fd ["self"] (spPinned K) := by
  refine F.ok sc_pinned_ranges (fun vs H Q E h => ?_) (fun cdv A outer s H vs Q E hr h => ⟨_, PSs.nox (pss_one (ps_ret (pmeth M_ranges_of hr (pv 0) (pa_cons (pe_lc (own := [("block", 1)]) (g := gName 1) rfl sc_pinned_ranges.nd (pi_list (pe_fld (pv 0) rfl)) (blkOk_by (own := [("block", 1)]) (N := ["self", "block"]) (sc := defScope (inClass (top 34) 18)) (by decide +kernel)) (fun _ _ _ _ _ => pg_name (i := 1) sc_pinned_ranges.nd rfl (Or.inl rfl)) (fun _ _ _ _ _ => (pts_one (pt_val (pe_ix (r := rIxT K) ix_tup (pv 1) pe_int (fun _ _ => rfl))))) (fun _ _ _ _ _ => (pv 1))) pa_nil)))), ?_⟩)
  · obtain ⟨y, zp, bl, dx, ps, ns, n, bs, rfl, _⟩ := h
    rfl
  · obtain ⟨y, zp, bl, dx, ps, ns, n, bs, rfl, L, q⟩ := h
    have sl : sizeLine = 16777216 := sizeLine_eq
    have pl := L.rf.len
    have bn := L.ln
    refine ⟨_, rfl, y, dx, _, rfl, L.at_, lay_nm (by decide +kernel), _, rfl, y, _, dx, _, _, rfl, L.at_, T.ly, T.nBL, lay_bl .., bl, rfl, ⟨_, SqL.of L.lst⟩, fun D hD => ?_⟩
    refine lc_list (K := K) (a := bl) (xs := ps.map V.ref) (fun i G => ∃ qs, G D = some (.lst (qs.map V.ref)) ∧ Refs blkV G qs ((bs.take i).filter fun b => b.2.2) ∧ Same H G) ⟨[], upd_same, .nil, same_upd hD⟩ (fun i G _ ⟨_, _, _, sm⟩ => SqL.of (sm _ _ L.lst)) ?_ ?_
    · rintro i x G hx ⟨qs, hG, rr, sm⟩
      obtain ⟨p, hp, rfl⟩ := ref_of hx
      obtain ⟨b, hb, hT⟩ := (L.rf.same sm).get hp
      have il : i < bs.length := (List.getElem?_eq_some_iff.mp hb).1
      have rl := rr.len
      have fl := List.length_filter_le (fun b : Blk => b.2.2) (bs.take i)
      rw [List.length_take] at fl
      have hT' : G p = some (.tup [.int b.1, .int (b.2.1 : Nat), .bl b.2.2]) := hT
      refine ⟨rfl, _, rfl, p, _, _, _, rfl, rfl, SqT.of hT', rfl, _, rfl, ?_⟩
      have fa := filter_at (fun b => b.2.2) hb
      cases hq : b.2.2 with
      | true =>
        rw [hq] at fa
        refine iteT ⟨_, rfl, _, hG, (by rw [List.length_map]; omega), qs ++ [p], ?_, ?_, fun c o e => ?_⟩
        · rw [upd_same, List.map_append]
          rfl
        · rw [fa]
          refine (rr.mono fun c xs e => ?_).app (.one ?_)
          · rw [upd_ne (fun z => by rw [z, hG] at e; cases e)]
            exact e
          · rw [upd_ne (fun z => by rw [z, hG] at hT; cases hT)]
            exact hT
        · rw [upd_ne (ne_of_none e hD)]
          exact sm c o e
      | false =>
        rw [hq] at fa
        refine iteF ⟨qs, hG, ?_, sm⟩
        rw [fa]
        simpa using rr
    · rintro G ⟨qs, hG, rr, sm⟩
      rw [List.length_map, pl, List.take_length] at rr
      refine ⟨y, zp, bl, dx, ps, ns, n, bs, D, qs, _, rfl, L.same sm, hG, rr, Nat.le_trans (List.length_filter_le _ _) bn, fun b hb => (L.wf.ok b ((List.mem_filter.mp hb).1)).1, fun D2 rs H' hD2 sm2 h2 r2 => q D2 rs H' (sm.free hD2) (sm.trans sm2) h2 r2⟩
def spRegIn (K : PySem.W.Frag) : Sp := fun vs H Q _ => ∃ (y zp bl dx : Addr) (ps : List Addr) (ns : List Int) (n : Int) (bs : List Blk) (M : Addr) (qs : List Addr) (gs : List (Int × Int)) (k : Nat), vs = [.ref y, .ref M, .int k] ∧ Ly K H y zp bl dx ps ns n bs ∧ H M = some (.lst (qs.map V.ref)) ∧ Refs prV H qs gs ∧ gs.length ≤ 2000 ∧ (∀ g ∈ gs, 0 ≤ g.1 ∧ g.1 ≤ g.2) ∧ k < ns.length ∧
  ∀ H', Same H H' → Q (.int (regI ns k gs)) H'
theorem sc_regions_in : FnScope ["self", "gaps", "level", "low", "high"] ["self", "gaps", "level"] (defScope (inClass (top 34) 21)) := ⟨rfl, rfl, rfl, by decide +kernel, rfl, by decide +kernel, by decide +kernel⟩
theorem ok_regin (T : Tx K mg) (M_check_level : Mf P w K mg base 4 "Sizes" "check_level" ["self", "level"] (spCheckL K)) (D_count_regions : Df P w K mg base 7 "count_regions" ["sizes", "level", "low", "high"] (spCount K)) (F : FnP K "regions_in" "Layout.regions_in" (inClass (top 34) 21) f fd) :
    FnOk P w K mg base CX0 8 f fd ["self", "gaps", "level"] (spRegIn K) := by
  refine F.ok sc_regions_in (fun vs H Q E h => ?_) (fun cdv A outer s H vs Q E hr h => ⟨_, PSs.nox (pss_cons (ps_expr (pmeth M_check_level hr (pe_fld (pv 0) rfl) (pa_cons (pv 2) pa_nil))) (pss_one (ps_ret (pe_callB (cr_sum rfl) (by rfl) T.n_sum (by decide +kernel) (pa_cons (pe_lc (own := [("low", 3), ("high", 4)]) (g := gTup K 2 (gCons (gName 3) (gCons (gName 4) gNil))) rfl sc_regions_in.nd (pi_list (pv 1)) (blkOk_by (own := [("low", 3), ("high", 4)]) (N := ["self", "gaps", "level", "low", "high"]) (sc := defScope (inClass (top 34) 21)) (by decide +kernel)) (fun _ _ _ _ _ => pg_tup rfl (pgs_cons (pg_name (i := 3) sc_regions_in.nd rfl (Or.inl rfl)) (pgs_cons (pg_name (i := 4) sc_regions_in.nd rfl (Or.inl rfl)) pgs_nil))) (fun _ _ _ _ _ => pts_nil) (fun _ _ _ _ _ => (pcall D_count_regions hr (pa_cons (pfldB K (pv 0)) (pa_cons (pv 2) (pa_cons (pv 3) (pa_cons (pv 4) pa_nil))))))) pa_nil))))), ?_⟩)
  · obtain ⟨y, zp, bl, dx, ps, ns, n, bs, M, qs, gs, k, rfl, _⟩ := h
    rfl
  · obtain ⟨y, zp, bl, dx, ps, ns, n, bs, M, qs, gs, k, rfl, L, hM, rf, g2000, gk, hk, q⟩ := h
    have sl : sizeLine = 16777216 := sizeLine_eq
    have ql := rf.len
    obtain ⟨dz, l, z1, z2⟩ := id L.szs
    refine ⟨_, rfl, y, _, dx, _, _, rfl, L.at_, T.ly, T.nST, lay_st .., zp, dz, _, rfl, z1, szF_no l (by decide +kernel), _, rfl, zp, ns, k, rfl, L.szs, hk, ?_⟩
    refine ⟨_, rfl, M, rfl, ⟨_, SqL.of hM⟩, fun D hD => ?_⟩
    refine lc_list (K := K) (a := M) (xs := qs.map V.ref) (fun i G => G D = some (.lst (((gs.take i).map fun g => cntI (sz ns k) g.1 g.2).map V.int)) ∧ Same H G) ⟨upd_same, same_upd hD⟩ (fun i G _ ⟨_, sm⟩ => SqL.of (sm _ _ hM)) ?_ ?_
    · rintro i x G hx ⟨hG, sm⟩
      obtain ⟨p, hp, rfl⟩ := ref_of hx
      obtain ⟨g, hg, hT⟩ := (rf.same sm).get hp
      have hT' : G p = some (.tup [.int g.1, .int g.2]) := hT
      have il : i < gs.length := (List.getElem?_eq_some_iff.mp hg).1
      have LG := L.same sm
      obtain ⟨g1, g2⟩ := gk g (List.mem_of_getElem? hg)
      refine ⟨p, _, rfl, .inl (.inl hT'), rfl, _, _, rfl, _, _, rfl, rfl, rfl, ?_⟩
      refine ⟨_, rfl, y, _, dx, _, _, rfl, LG.at_, T.ly, T.nST, lay_st .., _, rfl, _, rfl, _, rfl, zp, ns, k, _, g.1, g.2, rfl, LG.szs, sz_at hk, (chain L.gd).pos _ hk, sz_le L.gd hk, g1, g2, ?_⟩
      refine ⟨_, hG, (by rw [List.length_map, List.length_map, List.length_take]; omega), ?_, fun c o e => ?_⟩
      · rw [upd_same, take_at hg, List.map_append, List.map_append]
        rfl
      · rw [upd_ne (ne_of_none e hD)]
        exact sm c o e
    · rintro G ⟨hG, sm⟩
      rw [List.length_map, ql, List.take_length] at hG
      exact ⟨D, _, rfl, SqL.of hG, q G sm⟩
def spClear (K : PySem.W.Frag) : Sp := fun vs H Q _ => ∃ (y zp bl dx : Addr) (ps : List Addr) (ns : List Int) (n : Int) (bs : List Blk) (k : Nat), vs = [.ref y, .int k] ∧ Ly K H y zp bl dx ps ns n bs ∧ k < ns.length ∧ ∀ H', Same H H' → Q (.int (clrI ns n bs k)) H'
theorem sc_clear_cells : FnScope ["self", "level", "gaps"] ["self", "level"] (defScope (inClass (top 34) 24)) := ⟨rfl, rfl, rfl, by decide +kernel, rfl, by decide +kernel, by decide +kernel⟩
theorem ok_clear (T : Tx K mg) (M_pinned_ranges : Mf P w K mg base 7 "Layout" "pinned_ranges" ["self"] (spPinned K)) (D_gaps_between : Df P w K mg base 1 "gaps_between" ["ranges", "length"] spGaps) (M_regions_in : Mf P w K mg base 8 "Layout" "regions_in" ["self", "gaps", "level"] (spRegIn K))
    (M_size : Mf P w K mg base 5 "Sizes" "size" ["self", "level"] (spSize K)) (F : FnP K "clear_cells" "Layout.clear_cells" (inClass (top 34) 24) f fd) : FnOk P w K mg base CX0 9 f fd ["self", "level"] (spClear K) := by
  refine F.ok sc_clear_cells (fun vs H Q E h => ?_) (fun cdv A outer s H vs Q E hr h => ⟨_, PSs.nox (pss_cons (ps_set (i := 2) sc_clear_cells.nd rfl (by first | exact Or.inl rfl | exact Or.inr rfl) (pcall D_gaps_between hr (pa_cons (pmeth0 M_pinned_ranges hr (pv 0)) (pa_cons (pe_fld (pv 0) rfl) pa_nil)))) (pss_one (ps_ret (pe_op op_mul (pmeth M_regions_in hr (pv 0) (pa_cons (pv 2) (pa_cons (pv 1) pa_nil))) (pmeth M_size hr (pe_fld (pv 0) rfl) (pa_cons (pv 1) pa_nil)))))), ?_⟩)
  · obtain ⟨y, zp, bl, dx, ps, ns, n, bs, k, rfl, _⟩ := h
    rfl
  · obtain ⟨y, zp, bl, dx, ps, ns, n, bs, k, rfl, L, hk, q⟩ := h
    have bn := L.ln
    have pr : (pinR ns bs).length ≤ 1000 := by
      unfold pinR
      rw [List.length_map]
      exact Nat.le_trans (List.length_filter_le _ _) bn
    refine ⟨_, rfl, y, dx, _, rfl, L.at_, lay_nm (by decide +kernel), y, zp, bl, dx, ps, ns, n, bs, rfl, L, fun D rs H1 hD s1 h1 r1 => ?_⟩
    have L1 := L.same s1
    refine ⟨_, rfl, y, _, dx, _, _, rfl, L1.at_, T.ly, T.nCC, lay_cc .., D, n, rs, _, rfl, h1, r1, pr, fun M qs H2 hM s2 h2 r2 => ?_⟩
    have L2 := L1.same s2
    refine ⟨_, rfl, y, dx, _, rfl, L2.at_, lay_nm (by decide +kernel), _, rfl, _, rfl, y, zp, bl, dx, ps, ns, n, bs, M, qs, _, k, rfl, L2, h2, r2, (by have := gaps_len (n := n) (pinR ns bs) 0; omega), gaps_ok (Int.le_refl 0) (fun r hr => ?_), hk, fun H3 s3 => ?_⟩
    · unfold pinR at hr
      obtain ⟨b, hb, rfl⟩ := List.mem_map.mp hr
      have bm := (List.mem_filter.mp hb).1
      have := (L.wf.ok b bm).2.1
      have := L.wf.pos L.gd bm
      show 0 ≤ b.1 + sz ns b.2.1
      omega
    · have L3 := L2.same s3
      obtain ⟨dz, l, z1, z2⟩ := id L3.szs
      have z := (chain L.gd).pos _ hk
      have zz := sz_le L.gd hk
      have w3 : -(2 ^ 64) < sz ns k := by omega
      have w4 : sz ns k < 2 ^ 64 := by omega
      exact ⟨_, rfl, y, _, dx, _, _, rfl, L3.at_, T.ly, T.nST, lay_st .., zp, dz, _, rfl, z1, szF_no l (by decide +kernel), _, rfl, zp, ns, k, _, rfl, L3.szs, sz_at hk, _, _, rfl, rfl, .inr ⟨w3, w4⟩, q H3 ((s1.trans s2).trans s3)⟩
end
end K44

set_option Elab.async false
set_option linter.all false
set_option maxRecDepth 100000
set_option maxHeartbeats 4000000
namespace K44
open PySem PySem.Spec PyProof.Rows L2 Gu Ex
def unpB (bs : List Blk) : List Blk := bs.filter fun b => !b.2.2
def lvK (cs : List Blk) : List (Key × V) := cs.map fun b => (Sum.inl b.1, V.int (b.2.1 : Nat))
theorem lvK_none {a : Int} : ∀ {cs : List Blk}, (∀ c ∈ cs, c.1 ≠ a) → valV (lvK cs) (Sum.inl a) = none
  | [], _ => rfl
  | c :: cs, h => by
    show valV ((Sum.inl c.1, V.int (c.2.1 : Nat)) :: lvK cs) (Sum.inl a) = none
    rw [valV_neg (fun e => h c List.mem_cons_self (Sum.inl.inj e))]
    exact lvK_none fun d hd => h d (List.mem_cons_of_mem _ hd)
theorem lvK_get : ∀ {cs : List Blk} {b : Blk}, cs.Pairwise (fun b c => b.1 < c.1) → b ∈ cs → valV (lvK cs) (Sum.inl b.1) = some (.int (b.2.1 : Nat))
  | c :: cs, b, hp, hb => by
    show valV ((Sum.inl c.1, V.int (c.2.1 : Nat)) :: lvK cs) (Sum.inl b.1) = _
    have hp2 := List.pairwise_cons.mp hp
    rcases List.mem_cons.mp hb with e | e
    · subst e
      exact valV_pos rfl
    · rw [valV_neg (fun z => by
        have h1 := hp2.1 b e
        have h2 : c.1 = b.1 := Sum.inl.inj z
        omega)]
      exact lvK_get hp2.2 e
theorem Wf.rise {ns : List Int} {n : Int} {bs : List Blk} (w : Wf ns n bs) (g : Good ns) : bs.Pairwise (fun b c => b.1 < c.1) := by
  refine List.pairwise_iff_getElem.mpr fun i j hi hj hij => ?_
  exact (w.lt g (List.getElem?_eq_getElem hi) (List.getElem?_eq_getElem hj) hij).2
/-- the cells of the unpinned blocks of level k or higher -/
def lseI (ns : List Int) (bs : List Blk) (k : Nat) : Int := (((unpB bs).filter fun b => decide (k ≤ b.2.1)).map fun b => sz ns b.2.1).sum
section
variable {P : Program} {w : World} {K : PySem.W.Frag} {mg : Str → Option Value} {base : Heap} {f : Addr} {fd : FuncData}
def spLevels (K : PySem.W.Frag) : Sp := fun vs H Q _ => ∃ (y zp bl dx : Addr) (ps : List Addr) (ns : List Int) (n : Int) (bs : List Blk), vs = [.ref y] ∧ Ly K H y zp bl dx ps ns n bs ∧ ∀ D H', H D = none → Same H H' → H' D = some (.dK (lvK (unpB bs))) → Q (.ref D) H'
theorem sc_unpinned_levels : FnScope ["self", "address", "level", "is_pinned"] ["self"] (defScope (inClass (top 34) 19)) := ⟨rfl, rfl, rfl, by decide +kernel, rfl, by decide +kernel, by decide +kernel⟩
theorem ok_levels (T : Tx K mg) (F : FnP K "unpinned_levels" "Layout.unpinned_levels" (inClass (top 34) 19) f fd) : FnOk P w K mg base CX0 1 f fd ["self"] (spLevels K) := by
  refine F.ok sc_unpinned_levels (fun vs H Q E h => ?_) (fun cdv A outer s H vs Q E hr h => ⟨_, PSs.nox (pss_one (ps_ret (pe_dc (own := [("address", 1), ("level", 2), ("is_pinned", 3)]) (g := gTup K 3 (gCons (gName 1) (gCons (gName 2) (gCons (gName 3) gNil)))) rfl sc_unpinned_levels.nd (pi_list (pe_fld (pv 0) rfl)) (blkOk_by (own := [("address", 1), ("level", 2), ("is_pinned", 3)]) (N := ["self", "address", "level", "is_pinned"]) (sc := defScope (inClass (top 34) 19)) (by decide +kernel)) (fun _ _ _ _ _ => pg_tup rfl (pgs_cons (pg_name (i := 1) sc_unpinned_levels.nd rfl (Or.inl rfl)) (pgs_cons (pg_name (i := 2) sc_unpinned_levels.nd rfl (Or.inl rfl)) (pgs_cons (pg_name (i := 3) sc_unpinned_levels.nd rfl (Or.inl rfl)) pgs_nil)))) (fun _ _ _ _ _ => (pts_one (pt_not (pt_val (pv 3))))) (fun _ _ _ _ _ => (pv 1)) (fun _ _ _ _ _ => (pv 2))))), ?_⟩)
  · obtain ⟨y, zp, bl, dx, ps, ns, n, bs, rfl, _⟩ := h
    rfl
  · obtain ⟨y, zp, bl, dx, ps, ns, n, bs, rfl, L, q⟩ := h
    have sl : sizeLine = 16777216 := sizeLine_eq
    have pl := L.rf.len
    have bn := L.ln
    refine ⟨_, rfl, y, _, dx, _, _, rfl, L.at_, T.ly, T.nBL, lay_bl .., bl, rfl, ⟨_, SqL.of L.lst⟩, fun D hD => ?_⟩
    refine dc_list (K := K) (a := bl) (xs := ps.map V.ref) (fun i G => G D = some (.dK (lvK ((bs.take i).filter fun b => !b.2.2))) ∧ Same H G) ⟨upd_same, same_upd hD⟩ (fun i G _ ⟨_, sm⟩ => SqL.of (sm _ _ L.lst)) ?_ ?_
    · rintro i x G hx ⟨hG, sm⟩
      obtain ⟨p, hp, rfl⟩ := ref_of hx
      obtain ⟨b, hb, hT⟩ := (L.rf.same sm).get hp
      have il : i < bs.length := (List.getElem?_eq_some_iff.mp hb).1
      have hT' : G p = some (.tup [.int b.1, .int (b.2.1 : Nat), .bl b.2.2]) := hT
      have fa := filter_at (fun b => !b.2.2) hb
      have fl := List.length_filter_le (fun b : Blk => !b.2.2) (bs.take i)
      rw [List.length_take] at fl
      refine ⟨p, _, rfl, .inl (.inl hT'), rfl, _, _, rfl, _, _, rfl, _, _, rfl, rfl, rfl, ?_⟩
      refine ⟨_, rfl, _, rfl, ?_⟩
      cases hq : b.2.2 with
      | true =>
        rw [hq] at fa
        refine iteF ⟨?_, sm⟩
        rw [fa]
        simpa using hG
      | false =>
        rw [hq] at fa
        have no : valV (lvK ((bs.take i).filter fun b => !b.2.2)) (Sum.inl b.1) = none := lvK_none fun c hc => by
          obtain ⟨j, hj, ej⟩ := mem_take_at (List.mem_filter.mp hc).1
          have := (L.wf.lt L.gd ej hb hj).2
          omega
        refine iteT ⟨_, rfl, _, rfl, _, Sum.inl b.1, rfl, hG, (by unfold lvK; rw [List.length_map]; omega), ?_, fun c o e => ?_⟩
        · rw [upd_same, putK_new _ no, fa]
          show _ = some (HO.dK (lvK (((bs.take i).filter fun b => !b.2.2) ++ [b])))
          unfold lvK
          rw [List.map_append]
          rfl
        · rw [upd_ne (ne_of_none e hD)]
          exact sm c o e
    · rintro G ⟨hG, sm⟩
      rw [List.length_map, pl, List.take_length] at hG
      exact q D G hD sm hG
def spLoose (K : PySem.W.Frag) : Sp := fun vs H Q _ => ∃ (y zp bl dx : Addr) (ps : List Addr) (ns : List Int) (n : Int) (bs : List Blk) (k : Nat), vs = [.ref y, .int k] ∧ Ly K H y zp bl dx ps ns n bs ∧ k < ns.length ∧ ∀ H', Same H H' → Q (.int (lseI ns bs k)) H'
theorem sc_unpinned_cells : FnScope ["self", "level", "levels", "address"] ["self", "level"] (defScope (inClass (top 34) 25)) := ⟨rfl, rfl, rfl, by decide +kernel, rfl, by decide +kernel, by decide +kernel⟩
theorem ok_loose (T : Tx K mg) (M_check_level : Mf P w K mg base 4 "Sizes" "check_level" ["self", "level"] (spCheckL K)) (M_unpinned_levels : Mf P w K mg base 1 "Layout" "unpinned_levels" ["self"] (spLevels K)) (M_size : Mf P w K mg base 5 "Sizes" "size" ["self", "level"] (spSize K))
    (F : FnP K "unpinned_cells" "Layout.unpinned_cells" (inClass (top 34) 25) f fd) : FnOk P w K mg base CX0 6 f fd ["self", "level"] (spLoose K) := by
  refine F.ok sc_unpinned_cells (fun vs H Q E h => ?_) (fun cdv A outer s H vs Q E hr h => ⟨_, PSs.nox (pss_cons (ps_expr (pmeth M_check_level hr (pe_fld (pv 0) rfl) (pa_cons (pv 1) pa_nil))) (pss_cons (ps_set (i := 2) sc_unpinned_cells.nd rfl (by first | exact Or.inl rfl | exact Or.inr rfl) (pmeth0 M_unpinned_levels hr (pv 0))) (pss_one (ps_ret (pe_callB (cr_sum rfl) (by rfl) T.n_sum (by decide +kernel) (pa_cons (pe_lock (pe_lc (own := [("address", 3)]) (g := gName 3) rfl sc_unpinned_cells.nd (pi_keys (pv 2)) (blkOk_by (own := [("address", 3)]) (N := ["self", "level", "levels", "address"]) (sc := defScope (inClass (top 34) 25)) (by decide +kernel)) (fun _ _ _ _ _ => pg_name (i := 3) sc_unpinned_cells.nd rfl (Or.inl rfl)) (fun _ _ _ _ _ => (pts_one (pt_cmpR op_ge (pe_dget (hu_of hr) (pv 2) (pv 3) (fun _ _ => rfl)) (pv 1) (nomark _)))) (fun _ _ _ _ _ => (pmethB K M_size hr (pfldB K (pv 0)) (pa_cons (pe_dget (hu_of hr) (pv 2) (pv 3) (fun _ _ => rfl)) pa_nil))))) pa_nil)))))), ?_⟩)
  · obtain ⟨y, zp, bl, dx, ps, ns, n, bs, k, rfl, _⟩ := h
    rfl
  · obtain ⟨y, zp, bl, dx, ps, ns, n, bs, k, rfl, L, hk, q⟩ := h
    have sl : sizeLine = 16777216 := sizeLine_eq
    have bn := L.ln
    obtain ⟨dz, l, z1, z2⟩ := id L.szs
    refine ⟨_, rfl, y, _, dx, _, _, rfl, L.at_, T.ly, T.nST, lay_st .., zp, dz, _, rfl, z1, szF_no l (by decide +kernel), _, rfl, zp, ns, k, rfl, L.szs, hk, ?_⟩
    refine ⟨_, rfl, y, dx, _, rfl, L.at_, lay_nm (by decide +kernel), y, zp, bl, dx, ps, ns, n, bs, rfl, L, fun d H1 hd s1 h1 => ?_⟩
    have pw : (unpB bs).Pairwise (fun b c => b.1 < c.1) := (L.wf.rise L.gd).sublist List.filter_sublist
    have ul : (unpB bs).length ≤ 1000 := Nat.le_trans (List.length_filter_le _ _) bn
    refine ⟨d, _, h1, trivial, fun od => ?_⟩
    refine ⟨_, rfl, d, od, rfl, .inl ⟨_, upd_same, fun D hD => ?_⟩⟩
    have nDd : D ≠ d := fun z => by
      rw [z, upd_same] at hD
      cases hD
    have hD1 : H1 D = none := by
      rw [upd_ne nDd] at hD
      exact hD
    have nDH : H D = none := s1.free hD1
    refine lc_it (walk_keys (kvs := lvK (unpB bs))) (fun i G => G D = some (.lst (((((unpB bs).take i).filter fun b => decide (k ≤ b.2.1)).map fun b => sz ns b.2.1).map V.int)) ∧ G d = some (.frz od (.dK (lvK (unpB bs)))) ∧ Same H G)
      ⟨upd_same, (by rw [upd_ne nDd.symm, upd_same]), fun c o e => by rw [upd_ne (ne_of_none e nDH), upd_ne (ne_of_none e hd)]; exact s1 c o e⟩ (fun i G _ hh => hh.2.1) ?_ ?_
    · rintro i x G G' hi ⟨hG, hfz, sm⟩ ⟨rfl, ky, v, hkv, rfl⟩
      have il : i < (unpB bs).length := by
        unfold lvK at hi
        rw [List.length_map] at hi
        exact hi
      obtain ⟨b, hb⟩ : ∃ b, (unpB bs)[i]? = some b := ⟨_, List.getElem?_eq_getElem il⟩
      have ek : ky = Sum.inl b.1 := by
        unfold lvK at hkv
        rw [List.getElem?_map, hb] at hkv
        exact (Prod.mk.inj (Option.some.inj hkv)).1.symm
      subst ek
      have bm := List.mem_of_getElem? hb
      have bk := (L.wf.ok b (List.mem_filter.mp bm).1).1
      have dg : DGet G' d (kV (Sum.inl b.1)) (some (.int (b.2.1 : Nat))) := .inl ⟨_, Sum.inl b.1, .inr ⟨od, hfz⟩, rfl, (lvK_get pw bm).symm⟩
      have LG := L.same sm
      obtain ⟨dz, l, z1, z2⟩ := id LG.szs
      have fa : ((unpB bs).take (i + 1)).filter (fun b => decide (k ≤ b.2.1)) = ((unpB bs).take i).filter (fun b => decide (k ≤ b.2.1)) ++ (if decide (k ≤ b.2.1) = true then [b] else []) := filter_at (fun b => decide (k ≤ b.2.1)) hb
      have fl := List.length_filter_le (fun b : Blk => decide (k ≤ b.2.1)) ((unpB bs).take i)
      rw [List.length_take] at fl
      refine ⟨rfl, _, rfl, _, rfl, d, _, rfl, dg, _, rfl, _, _, rfl, rfl, _, rfl, ?_⟩
      by_cases hc : k ≤ b.2.1
      · rw [if_pos (decide_eq_true hc)] at fa
        refine ifT (decide_eq_true (by omega)) ?_
        refine ⟨_, rfl, y, _, dx, _, _, rfl, LG.at_, T.ly, T.nST, lay_st .., zp, dz, _, rfl, z1, szF_no l (by decide +kernel), _, rfl, _, rfl, d, _, rfl, dg, zp, ns, b.2.1, _, rfl, LG.szs, sz_at bk, ?_⟩
        refine ⟨_, hG, (by rw [List.length_map, List.length_map]; omega), ?_, (by rw [upd_ne nDd.symm]; exact hfz), fun c o e => ?_⟩
        · rw [upd_same, fa, List.map_append, List.map_append]
          rfl
        · rw [upd_ne (ne_of_none e nDH)]
          exact sm c o e
      · rw [if_neg (fun z => hc (of_decide_eq_true z)), List.append_nil] at fa
        refine ifF (decide_eq_false (by omega)) ⟨?_, hfz, sm⟩
        rw [fa]
        exact hG
    · rintro G ⟨hG, hfz, sm⟩
      have e : (lvK (unpB bs)).length = (unpB bs).length := by
        unfold lvK
        rw [List.length_map]
      rw [e, List.take_length] at hG
      refine ⟨hfz, D, _, rfl, SqL.of (show (upd G d (.dK (lvK (unpB bs)))) D = _ by rw [upd_ne nDd]; exact hG), q _ fun c o ec => ?_⟩
      rw [upd_ne (ne_of_none ec hd)]
      exact sm c o ec
end
end K44

set_option Elab.async false
set_option linter.all false
set_option maxRecDepth 100000
set_option maxHeartbeats 4000000
namespace K44
open PySem PySem.Spec PyProof.Rows L2 Gu Ex
/-- a list of blocks at a -/
structure Bl (ns : List Int) (H : Hp) (a : Addr) (ps : List Addr) (bs : List Blk) : Prop where
  at_ : H a = some (.lst (ps.map V.ref))
  rf : Refs blkV H ps bs
  lv : ∀ b ∈ bs, b.2.1 < ns.length
  ln : bs.length ≤ 1000
theorem Bl.same {ns : List Int} {H H' : Hp} {a : Addr} {ps : List Addr} {bs : List Blk} (h : Bl ns H a ps bs) (s : Same H H') : Bl ns H' a ps bs := ⟨s _ _ h.at_, h.rf.same s, h.lv, h.ln⟩
def hitB (ns : List Int) (lo hi : Int) (b : Blk) : Bool := b.2.2 && (decide (b.1 < hi) && decide (lo < bEnd ns b))
def clearB (ns : List Int) (bs : List Blk) (lo hi : Int) : Bool := bs.all fun b => !hitB ns lo hi b
theorem all_at {bs : List Blk} {p : Blk → Bool} {i : Nat} {b : Blk} (h : bs[i]? = some b) (k : (bs.take i).all p = true) (hp : p b = true) : (bs.take (i + 1)).all p = true := by
  rw [take_at h, List.all_append, k]
  simp [hp]
theorem all_no {bs : List Blk} {p : Blk → Bool} {b : Blk} (h : b ∈ bs) (hp : p b = false) : bs.all p = false := by
  cases e : bs.all p with
  | false => rfl
  | true =>
    have := List.all_eq_true.mp e b h
    rw [hp] at this
    cases this
end K44

set_option Elab.async false
set_option linter.all false
set_option maxRecDepth 100000
set_option maxHeartbeats 4000000
namespace K44
open PySem PySem.Spec PyProof.Rows L2 Gu Ex
def offB (ns : List Int) (lo hi : Int) (b : Blk) : Bool := decide (hi ≤ b.1) || decide (bEnd ns b ≤ lo)
def spaceB (ns : List Int) (n : Int) (bs : List Blk) (k : Nat) (a : Int) : Bool := decide (sz ns k ∣ a) && (decide (a + sz ns k ≤ n) && bs.all (offB ns a (a + sz ns k)))
section
variable {P : Program} {w : World} {K : PySem.W.Frag} {mg : Str → Option Value} {base : Heap} {f : Addr} {fd : FuncData}
def spSpace : Sp := fun vs H Q _ => ∃ (s a : Addr) (ns : List Int) (n : Int) (ps : List Addr) (bs : List Blk) (k : Nat) (ad : Int), vs = [.ref s, .int n, .ref a, .int k, .int ad] ∧ H s = some (.lst (ns.map V.int)) ∧ Bl ns H a ps bs ∧ Good ns ∧ k < ns.length ∧ 0 ≤ ad ∧ ad ≤ 100000000000 ∧ ∀ H', Same H H' → Q (.bl (spaceB ns n bs k ad)) H'
theorem sc__law_has_space : FnScope ["_law_sizes_here", "_law_length", "_law_blocks_here", "_law_level", "_law_address", "_law_end", "_law_one"] ["_law_sizes_here", "_law_length", "_law_blocks_here", "_law_level", "_law_address"] (defScope (top 50)) := ⟨rfl, rfl, rfl, by decide +kernel, rfl, by decide +kernel, by decide +kernel⟩
theorem ok_space (T : Tx K mg) (F : FnP K "_law_has_space" "_law_has_space" (top 50) f fd) : FnOk P w K mg base CX0 1 f fd ["_law_sizes_here", "_law_length", "_law_blocks_here", "_law_level", "_law_address"] spSpace := by
  refine F.ok sc__law_has_space (fun vs H Q E h => ?_) (fun cdv A outer s H vs Q E hr h => ⟨_, PSs.nox (pss_cons (ps_set (i := 5) sc__law_has_space.nd rfl (by first | exact Or.inl rfl | exact Or.inr rfl) (pe_op op_add (pv 4) (pe_ix ix_list (pv 0) (pv 3) (fun _ _ => rfl)))) (pss_cons (ps_if (PW.pt (pw_or (pt_cmpR op_ne (pe_op op_mod (pv 4) (pe_ix ix_list (pv 0) (pv 3) (fun _ _ => rfl))) pe_int (nomark _)) (pw_or1 (pt_cmpR op_gt (pv 5) (pv 1) (nomark _))))) (pss_one (ps_ret pe_bl)) pss_nil) (pss_one (ps_ret (pe_callB (cr_all rfl) (by rfl) T.n_all (by decide +kernel) (pa_cons (pe_lc (own := [("_law_one", 6)]) (g := gName 6) rfl sc__law_has_space.nd (pi_list (pv 2)) (blkOk_by (own := [("_law_one", 6)]) (N := ["_law_sizes_here", "_law_length", "_law_blocks_here", "_law_level", "_law_address", "_law_end", "_law_one"]) (sc := defScope (top 50)) (by decide +kernel)) (fun _ _ _ _ _ => pg_name (i := 6) sc__law_has_space.nd rfl (Or.inl rfl)) (fun _ _ _ _ _ => pts_nil) (fun _ _ _ _ _ => (pe_or (pe_cmpR op_ge (pe_ix (r := rIxT K) ix_tup (pv 6) pe_int (fun _ _ => rfl)) (pv 5) (nomark _)) (pe_one (pe_cmpR op_le (pe_op op_add (pe_ix (r := rIxT K) ix_tup (pv 6) pe_int (fun _ _ => rfl)) (pe_ix (r := rIxL K) ix_list (pv 0) (pe_ix (r := rIxT K) ix_tup (pv 6) pe_int (fun _ _ => rfl)) (fun _ _ => rfl))) (pv 4) (nomark _)))))) pa_nil)))))), ?_⟩)
  · obtain ⟨s, a, ns, n, ps, bs, k, ad, rfl, _⟩ := h
    rfl
  · obtain ⟨s, a, ns, n, ps, bs, k, ad, rfl, hs, B, g, hk, a0, a1, q⟩ := h
    have pl := B.rf.len
    have bn := B.ln
    have sl : sizeLine = 16777216 := sizeLine_eq
    have z1 := (chain g).pos k hk
    refine ⟨_, rfl, _, rfl, _, rfl, s, _, _, _, rfl, rfl, SqL.of hs, at_sz hk, _, _, rfl, rfl, ?_⟩
    refine ⟨_, rfl, _, rfl, _, rfl, s, _, _, _, rfl, rfl, SqL.of hs, at_sz hk, _, _, rfl, rfl, by omega, ?_⟩
    by_cases hd : ad % sz ns k = 0
    case neg =>
      refine ⟨rfl, _, rfl, ifT (by rw [vF hd]; rfl) ?_⟩
      have e : spaceB ns n bs k ad = false := by
        unfold spaceB
        rw [decide_eq_false (fun z => hd (Int.emod_eq_zero_of_dvd z))]
        rfl
      have q' := q H (fun _ _ e => e)
      rw [e] at q'
      exact q'
    refine ⟨rfl, _, rfl, ifF (by rw [vT hd]; rfl) ?_⟩
    refine ⟨_, rfl, _, rfl, _, _, rfl, rfl, _, rfl, ?_⟩
    by_cases hl : n < ad + sz ns k
    · refine ifT (decide_eq_true hl) ?_
      have e : spaceB ns n bs k ad = false := by
        unfold spaceB
        rw [decide_eq_false (show ¬ ad + sz ns k ≤ n by omega), Bool.false_and, Bool.and_false]
      have q' := q H (fun _ _ e => e)
      rw [e] at q'
      exact q'
    refine ifF (decide_eq_false hl) ?_
    have e : spaceB ns n bs k ad = bs.all (offB ns ad (ad + sz ns k)) := by
      unfold spaceB
      rw [decide_eq_true (show ad + sz ns k ≤ n by omega), decide_eq_true (Int.dvd_of_emod_eq_zero hd)]
      rfl
    rw [e] at q
    refine ⟨_, rfl, a, rfl, ⟨_, SqL.of B.at_⟩, fun D hD => ?_⟩
    refine lc_list (K := K) (a := a) (xs := ps.map V.ref) (fun i G => G D = some (.lst (((bs.take i).map (offB ns ad (ad + sz ns k))).map V.bl)) ∧ Same H G) ⟨upd_same, same_upd hD⟩ (fun i G _ ⟨_, sm⟩ => SqL.of (sm _ _ B.at_)) ?_ ?_
    · rintro i x G hx ⟨hG, sm⟩
      obtain ⟨p, hp, rfl⟩ := ref_of hx
      obtain ⟨b, hb, hT⟩ := (B.rf.same sm).get hp
      have hT' : G p = some (.tup [.int b.1, .int (b.2.1 : Nat), .bl b.2.2]) := hT
      have bk := B.lv b (List.mem_of_getElem? hb)
      have il : i < bs.length := (List.getElem?_eq_some_iff.mp hb).1
      have fin : ∀ v : Bool, v = offB ns ad (ad + sz ns k) b → ∃ xs, G D = some (.lst xs) ∧ xs.length < sizeLine ∧ (upd G D (.lst (xs ++ [.bl v]))) D = some (.lst (((bs.take (i + 1)).map (offB ns ad (ad + sz ns k))).map V.bl)) ∧ Same H (upd G D (.lst (xs ++ [.bl v]))) := by
        rintro v rfl
        refine ⟨_, hG, (by rw [List.length_map, List.length_map, List.length_take]; omega), ?_, fun c o e => ?_⟩
        · rw [upd_same, take_at hb, List.map_append, List.map_append]
          rfl
        · rw [upd_ne (ne_of_none e hD)]
          exact sm c o e
      refine ⟨rfl, _, rfl, p, _, _, _, rfl, rfl, .inl (.inl hT'), rfl, _, rfl, _, _, rfl, rfl, _, rfl, ?_⟩
      by_cases h1 : ad + sz ns k ≤ b.1
      · refine ifT (decide_eq_true h1) ?_
        exact fin true (by unfold offB; rw [decide_eq_true h1]; rfl)
      · refine ifF (decide_eq_false h1) ?_
        refine ⟨_, rfl, p, _, _, _, rfl, rfl, .inl (.inl hT'), rfl, _, rfl, _, rfl, p, _, _, _, rfl, rfl, .inl (.inl hT'), rfl, s, _, _, _, rfl, rfl, SqL.of (sm _ _ hs), at_sz bk, _, _, rfl, rfl, _, rfl, _, _, rfl, rfl, ?_⟩
        exact fin _ (by unfold offB; rw [decide_eq_false h1]; rfl)
    · rintro G ⟨hG, sm⟩
      rw [List.length_map, pl, List.take_length] at hG
      refine ⟨D, _, rfl, SqL.of hG, ?_⟩
      rw [List.all_map]
      exact q G sm
end
end K44

set_option Elab.async false
set_option linter.all false
set_option maxRecDepth 100000
set_option maxHeartbeats 4000000
namespace K44
open PySem PySem.Spec PyProof.Rows L2 Gu Ex
def clearAt (ns : List Int) (bs : List Blk) (k : Nat) (i : Nat) : Bool := clearB ns bs ((i : Int) * sz ns k) ((i : Int) * sz ns k + sz ns k)
def cntC (ns : List Int) (bs : List Blk) (k : Nat) (m : Nat) : Nat := ((List.range m).filter (clearAt ns bs k)).length
def dueI (ns : List Int) (n : Int) (bs : List Blk) (k : Nat) : Int := sz ns k * (cntC ns bs k (n / sz ns k).toNat : Nat)
theorem cntC_succ (ns : List Int) (bs : List Blk) (k m : Nat) : cntC ns bs k (m + 1) = cntC ns bs k m + (if clearAt ns bs k m = true then 1 else 0) := by
  unfold cntC
  rw [List.range_succ, List.filter_append, List.length_append]
  cases h : clearAt ns bs k m <;> simp [List.filter, h]
theorem cntC_le (ns : List Int) (bs : List Blk) (k m : Nat) : cntC ns bs k m ≤ m := by
  unfold cntC
  exact Nat.le_trans (List.length_filter_le _ _) (by simp)
end K44

set_option Elab.async false
set_option linter.all false
set_option maxRecDepth 100000
set_option maxHeartbeats 4000000
namespace K44
open PySem PySem.Spec PyProof.Rows L2 Gu Ex
theorem sz_lt {ns : List Int} (g : Good ns) {j : Nat} : ∀ {k : Nat}, j < k → k < ns.length → sz ns j < sz ns k
  | 0, h, _ => absurd h (Nat.not_lt_zero _)
  | k + 1, h, hk => by
    have u := (g.up k _ _ (sz_at (by omega)) (sz_at hk)).1
    by_cases e : j = k
    · rw [e]
      exact u
    · have := sz_lt g (j := j) (k := k) (by omega) (by omega)
      omega
end K44

set_option Elab.async false
set_option linter.all false
set_option maxRecDepth 100000
set_option maxHeartbeats 4000000
/-! enumerate over a tuple -/
namespace PySem
open Sem (wp)
open AutoSeq1 (wpAny_loadPart')
theorem meets_enumerate_newT (l : Addr) (items : Array Value) (n : Nat) (dct : Option Addr) (sl : Array (Option Value)) :
    Meets (Builtin.«enumerate.__new__» ⟨[.type "enumerate", .ref l], []⟩) (fun _ R s => s.heap.get? l = some { cls := .type "tuple", dict := dct, data := .seq items n, slots := sl } ∧
      R (.ok (.ret (.ref (s.heap.push { cls := .type "tuple_iterator", data := .fields #[.ref l, .int 0 0] }).objs.size)))
        { s with heap := (s.heap.push { cls := .type "tuple_iterator", data := .fields #[.ref l, .int 0 0] }).push { cls := .type "enumerate", data := .fields #[.none, .bool false, .ref s.heap.objs.size, rawInt 0, .none, .none] } }) :=
  .of_wp fun prog w A R s h => by
    obtain ⟨hp, g, d, tk, os⟩ := s; obtain ⟨hl, h⟩ := h
    have hsub := sub_enumerate
    have hL : Heap.IsTuple (Shared.heap ⟨hp, g, d, tk, os⟩) l items := ⟨_, hl, rfl, n, rfl⟩
    wp_walk using wpAny_loadPart' hl
    refine wpAny_stack_any fun st => wpAny_pure ?_
    split
    · rename_i c _ _ _ _ _
      cases (c == Value.type "enumerate")
      · wp_walk using wpAny_loadPart' hl, wpAny_pyIter_tuple hL
        exact ⟨_, rfl, h⟩
      · wp_walk using wpAny_loadPart' hl, wpAny_pyIter_tuple hL
        exact ⟨_, rfl, h⟩
    · wp_walk using wpAny_loadPart' hl, wpAny_pyIter_tuple hL
      exact ⟨_, rfl, h⟩
section
variable {prog : Program} {w : World} {A : Around} {E : Value → Shared → Prop} {s : Shared}
theorem call_enumerate_tuple {l : Addr} {items : Array Value} {Q : Value → Shared → Prop} (hL : s.heap.IsTuple l items)
    (h : ∀ h', IsEnum h' (s.heap.objs.size + 1) s.heap.objs.size 0 .none → h'.IsTupleIter s.heap.objs.size l 0 → h'.objs.size = s.heap.objs.size + 2 →
      (∀ b o, s.heap.get? b = some o → h'.get? b = some o) → Q (.ref (s.heap.objs.size + 1)) { s with heap := h' }) :
    wpAny (model prog w) A (call (.type "enumerate") [.ref l]) Q E s := by
  obtain ⟨⟨c, dct, dt, sl⟩, hl, hc, n, hd⟩ := hL
  replace hc : c = .type "tuple" := hc
  replace hd : dt = .seq items n := hd
  subst hc hd
  refine callType_new F.called_enumerate (by decide) (F.typeCall_enumerate_1 _) (F.newCall_enumerate_1 _) (fun obj => F.args_object_init_2 obj _) F.entry_enumerate_new
    (meets_enumerate_newT l items n dct sl) ⟨hl, ?_⟩
  have hz : (s.heap.push { cls := .type "tuple_iterator", data := .fields #[.ref l, .int 0 0] }).objs.size = s.heap.objs.size + 1 := Heap.size_push ..
  show _ ∧ _
  rw [hz]
  have he : IsEnum ((s.heap.push { cls := .type "tuple_iterator", data := .fields #[.ref l, .int 0 0] }).push
      { cls := .type "enumerate", data := .fields #[.none, .bool false, .ref s.heap.objs.size, rawInt 0, .none, .none] }) (s.heap.objs.size + 1) s.heap.objs.size 0 .none := by
    have := Heap.get?_push_size (s.heap.push { cls := .type "tuple_iterator", data := .fields #[.ref l, .int 0 0] })
      (o := { cls := .type "enumerate", data := .fields #[.none, .bool false, .ref s.heap.objs.size, rawInt 0, .none, .none] }) rfl
    rw [hz] at this; exact this
  refine ⟨⟨_, he, rfl⟩, h _ he ⟨_, Heap.get?_push_of_some _ (Heap.get?_push_size _ rfl), rfl, rfl⟩ (by rw [Heap.size_push, hz]) fun b o x => Heap.get?_push_of_some _ (Heap.get?_push_of_some _ x)⟩
end
theorem Draws.tuple {prog : Program} {w : World} {A : Around} (hh : A.handled = none) (it l : Addr) (hne : l ≠ it) (items : Array Value) :
    Draws prog w A it [it, l] items.size (fun i v => items[i]? = some v) (fun i h => h.IsTupleIter it l i ∧ h.IsTuple l items) where
  live := fun _ _ st => let ⟨o, ho, _⟩ := st.1; ⟨o, ho⟩
  frame := fun _ _ _ st hk => ⟨st.1.at fun o e => hk it (by simp) o e, st.2.at fun o e => hk l (by simp) o e⟩
  item := fun i s Q E hi st hQ => by
    unfold Builtin.SmallTypes.nextOf
    refine wpAny_bind (L2.special_tup_item st.1 st.2 (x := items[i]) (by simp [hi]) fun h' hit' hs' => ?_)
    exact wpAny_pure (hQ _ h' s.toks (by simp [hi]) ⟨hit', st.2.extBut hs'.extBut hne⟩ hs')
  done := fun s Q E st hE => by
    unfold Builtin.SmallTypes.nextOf
    refine wpAny_bind (L2.special_tup_end hh st.1 st.2 (by simp) fun e h' hx hk => ?_)
    obtain ⟨a, o, vs, rfl, ho, hc, _⟩ := hx
    exact hE h' a hk ⟨o, ho, hc⟩
theorem enum_endT {prog : Program} {w : World} {A : Around} {E : Value → Shared → Prop} {s : Shared} {e it l : Addr} {i : Nat} {items : Array Value} {old : Value} {Q : Option Value → Shared → Prop} (hh : A.handled = none)
    (he : IsEnum s.heap e it i old) (hit : s.heap.IsTupleIter it l i) (hl : s.heap.IsTuple l items) (hx : items[i]? = none)
    (hQ : ∀ h', Heap.ExtBut it s.heap h' → Q none { s with heap := h' }) : wpAny (model prog w) A (pyNext (.ref e)) Q E s := by
  have hT : s.TypeIs (.ref e) "enumerate" := ⟨_, he, rfl⟩
  unfold pyNext
  refine wpAny_bind (wpAny_attempt (wpAny_callSpecial?_slot (name := Str.ofString "__next__") hT F.slot_enumerate_next
    (wpAny_call_entry F.slot_enumerate_next hT F.entry_enumerate_next ?_ (F.args_enumerate_next_1 _))))
  show wpAny _ _ (field (.ref e) 2 >>= _) _ _ _
  refine wpAny_bind (wpAny_field he rfl (x := .ref it) rfl ?_)
  refine wpAny_bind ?_
  unfold Builtin.SmallTypes.nextOf
  refine wpAny_bind (L2.special_tup_end (A := A.in1) hh hit hl hx fun x h' hx' hk => ?_)
  obtain ⟨a, o, vs, rfl, ho, hc, _⟩ := hx'
  refine wpAny_bind (wpAny_isInstance (T := "StopIteration") (b := true) ⟨o, ho, hc⟩ isSubtype_stop ?_)
  exact wpAny_pure (hQ _ hk)
end PySem

set_option Elab.async false
set_option linter.all false
set_option maxRecDepth 100000
set_option maxHeartbeats 4000000
namespace L2
open PySem PySem.Spec PyProof.Rows
/-- the tuple at a, each item in a new pair -/
def IteT (K : PySem.W.Frag) (a : Addr) : It :=
  ⟨fun i H => ∃ (xs : List V) (x : V), SqT K H a xs ∧ xs[i]? = some x, fun i H v H' => ∃ T x, v = .ref T ∧ H T = none ∧ H' = upd H T (.tup [.int (i : Nat), x]) ∧ ∀ xs, SqT K H a xs → xs[i]? = some x, fun i H => ∃ xs : List V, SqT K H a xs ∧ xs.length ≤ i⟩
theorem turn_enumT {P : Program} {w : World} {K : PySem.W.Frag} {elts : List Expr} {kk : Nat} {tpos : Pos} (a e it : Addr) :
    Turn P w K (.Tuple elts kk tpos) (IteT K a) [e, it] e (fun i h => (∃ old, IsEnum h e it ((i : Nat) : Int) old) ∧ h.IsTupleIter it a i ∧ e ≠ it) where
  mem := by simp
  obj := fun i h st b hb => by
    obtain ⟨⟨old, he⟩, ⟨o, ho, hc, hd⟩, _⟩ := st
    have e' : b = e ∨ b = it := by simpa using hb
    rcases e' with z | z
    · rw [z]; exact ⟨_, he, fun v q => nomatch q⟩
    · rw [z]; exact ⟨o, ho, fun v q => by rw [hd] at q; cases q⟩
  keep := fun i h h' st k => let ⟨⟨old, he⟩, hi, hne⟩ := st; ⟨⟨old, k e (by simp) _ he⟩, hi.at fun o q => k it (by simp) o q, hne⟩
  item := by
    intro X hP hw hK hc i pins s σ H E I hf st hg
    subst hP hw hK
    obtain ⟨⟨old, he⟩, hit, hne⟩ := st
    obtain ⟨xs, x, hq, hx⟩ := hg
    obtain ⟨its, rv, p, hz⟩ := I.tuple hq
    obtain ⟨u, hu, ru⟩ := rv.get hx
    have hel : e < s.heap.objs.size := Heap.lt_size he
    have hil : it < s.heap.objs.size := by obtain ⟨_, q, _⟩ := hit; exact Heap.lt_size q
    have hT' : s.heap.IsTuple a its.toArray := p
    have nae : e ≠ a := fun z => by
      obtain ⟨o, ho, hc', _⟩ := hT'
      rw [← z] at ho
      have := Option.some.inj (he.symm.trans ho)
      rw [← this] at hc'
      exact absurd (Value.type.inj hc') (by decide)
    have nai : a ≠ it := fun z => by
      obtain ⟨o, ho, hc', _⟩ := hT'
      obtain ⟨o2, ho2, hc2, _⟩ := hit
      rw [z] at ho
      have := Option.some.inj (ho.symm.trans ho2)
      rw [this, hc2] at hc'
      exact absurd (Value.type.inj hc') (by decide)
    have D := Draws.tuple (prog := X.prog) (w := X.w) (A := X.A.in1) (I.ok.hd hc) it a nai its.toArray
    have hul : its.toArray[i]? = some u := by simpa using hu
    have hlt : i < its.toArray.size := (Array.getElem?_eq_some_iff.mp hul).1
    refine wpAny_pyNext_enum_itemD D he ⟨hit, hT'⟩ hlt hne (by simp [hne, nae]) fun y h' tk hy ho hst hT hsz hk => ?_
    have ey : y = u := Option.some.inj (hy.symm.trans hul)
    subst ey
    refine ⟨_, rfl, wpAny_letOwnedTupleGo_enum (s := { s with heap := h', toks := tk + 1 }) ho fun h'' he' sb => ?_⟩
    have hT2 : h''.get? s.heap.objs.size = some { cls := .type "tuple", data := .seq #[.int i tk, y] } := (sb.2 _ (Nat.ne_of_gt hel)).trans hT
    have new : ObjOk X.prog X.w (upd H s.heap.objs.size (.tup [.int (i : Nat), x])) h'' s.heap.objs.size (.tup [.int (i : Nat), x]) :=
      ⟨by show 2 ≤ sizeLine; decide, [.int i tk, y], .cons ⟨_, rfl⟩ (.cons ru .nil), ⟨_, hT2, rfl, _, rfl⟩⟩
    have I1 : Inv X pins σ (upd H s.heap.objs.size (.tup [.int (i : Nat), x])) { s with heap := h'', toks := tk + 1 } :=
      I.turnedNew (ch := [e, it]) (fun b ob hb q => (sb.2 b (fun z => hb (by simp [z]))).trans (hk b ob (fun z => hb (by simp [z])) (fun z => hb (by simp [z])) q)) hf (Nat.le_refl _) new
    refine ⟨.ref s.heap.objs.size, _, I1, rfl, ⟨_, x, rfl, I.hok.fresh (Nat.le_refl _), rfl, fun ys hy => by rw [I.tuple_inj hy hq]; exact hx⟩, ⟨⟨y, ?_⟩, hst.1.at fun o q => (sb.2 it (Ne.symm hne)).trans q, hne⟩, fun b hb => ?_⟩
    · have e1 : ((i + 1 : Nat) : Int) = (i : Int) + 1 := by omega
      rw [e1]; exact he'
    · have hb' : b < s.heap.objs.size := by
        have e' : b = e ∨ b = it := by simpa using hb
        rcases e' with z | z
        · rw [z]; exact hel
        · rw [z]; exact hil
      rw [upd_ne (Nat.ne_of_lt hb')]
      exact (hf b hb).1
  done := by
    intro X hP hw hK hc i pins s σ H E I hf st hg
    subst hP hw hK
    obtain ⟨⟨old, he⟩, hit, hne⟩ := st
    obtain ⟨xs, hq, hx⟩ := hg
    obtain ⟨its, rv, p, hz⟩ := I.tuple hq
    obtain ⟨f0, f1, f2, f3, f4, f5⟩ := hf it (by simp)
    have hl := rv.length
    have hT' : s.heap.IsTuple a its.toArray := p
    have nai : a ≠ it := fun z => by
      obtain ⟨o, ho, hc', _⟩ := hT'
      obtain ⟨o2, ho2, hc2, _⟩ := hit
      rw [z] at ho
      have := Option.some.inj (ho.symm.trans ho2)
      rw [this, hc2] at hc'
      exact absurd (Value.type.inj hc') (by decide)
    have hTn : its.toArray[i]? = none := by simp; omega
    exact enum_endT (I.ok.hd hc) he hit hT' hTn fun h' eb => ⟨rfl, I.turned (t' := s.toks) (fun b o hb q => eb b o hb q) f0 f1 f3 f4 f5⟩
  self := fun A i s Q E st h => let ⟨⟨_, he⟩, _⟩ := st; wpAny_pyIter_enum he h
def iEnumT (K : PySem.W.Frag) (ta : TA) : TI := fun σ H R => ta σ H fun vs H1 => ∃ a xs, vs = [.ref a] ∧ SqT K H1 a xs ∧ R (IteT K a) H1
theorem pi_enumT {X : Cx} {e : Expr} {ta : TA} {p pos tpos : Pos} {elts : List Expr} {kk : Nat} (hg : Gl X "enumerate") (hm : X.mg "enumerate" = none) (ha : PA X [e] ta) (hs : starEach [e] X.env = [(false, eval e X.env)] := by rfl) :
    PI X (.Tuple elts kk tpos) (.Call (.Name "enumerate" p) [e] [] pos) (iEnumT X.K ta) := by
  refine ⟨fun pins s σ H R I h => ?_⟩
  refine Call_ (ld_blt I hg hm boot_enumerate (PyProof.Rows.callWith_type1 (thn (ha.run pos pins s σ H _ I h) fun us s1 ⟨vs, H1, I1, r1, q1⟩ => ?_) hs rfl))
  obtain ⟨a, xs, ex, hq, q⟩ := q1
  subst ex
  cases r1 with
  | cons r rr =>
    cases rr
    cases r
    obtain ⟨its, rv, p', hz⟩ := I1.tuple hq
    refine call_enumerate_tuple (show s1.heap.IsTuple a its.toArray from p') fun h' he hit hsz hk => wpAny_pyIter_enum he ?_
    have I2 : Inv X pins σ H1 { s1 with heap := h' } := I1.kept (t' := s1.toks) hk
    refine ⟨s1.heap.objs.size + 1, [s1.heap.objs.size + 1, s1.heap.objs.size], _, _, H1, rfl, I2, turn_enumT a (s1.heap.objs.size + 1) s1.heap.objs.size, ⟨⟨.none, he⟩, hit, Nat.succ_ne_self _⟩, fun b hb => ?_, q⟩
    have e' : b = s1.heap.objs.size + 1 ∨ b = s1.heap.objs.size := by simpa using hb
    have hle : s1.heap.objs.size ≤ b := by
      rcases e' with z | z
      · rw [z]; exact Nat.le_add_right _ _
      · rw [z]; exact Nat.le_refl _
    exact I1.fpOk hle (I1.hok.fresh hle)
theorem walk_enumT {K : PySem.W.Frag} {a : Addr} {xs : List V} : Walk (IteT K a) xs.length (fun H => SqT K H a xs) (YPair (fun i => some (.int (i : Nat))) (fun i => xs[i]?)) := by
  refine ⟨fun i _ hi q => ⟨xs, xs[i], q, by simp [hi]⟩, fun _ q => ⟨xs, q, Nat.le_refl _⟩, fun i H v H' _ q y => ?_⟩
  obtain ⟨T, x, h1, h2, h3, h4⟩ := y
  exact ⟨T, .int (i : Nat), x, h1, h2, h3, rfl, h4 xs q⟩
/-- the one way or the other -/
def iOr (t1 t2 : TI) : TI := fun σ H R => t1 σ H R ∨ t2 σ H R
theorem pi_or {X : Cx} {tg e : Expr} {t1 t2 : TI} (h1 : PI X tg e t1) (h2 : PI X tg e t2) : PI X tg e (iOr t1 t2) := ⟨fun pins s σ H R I h => h.elim (h1.run pins s σ H R I) (h2.run pins s σ H R I)⟩
end L2

set_option Elab.async false
set_option linter.all false
set_option maxRecDepth 100000
set_option maxHeartbeats 4000000
namespace K44
open PySem PySem.Spec PyProof.Rows L2 Gu Ex
/-- a list or a tuple of whole numbers, also the default () -/
inductive Kept (K : PySem.W.Frag) (H : Hp) (a : Addr) (cs : List Int) : Prop
  | lst (h : H a = some (.lst (cs.map V.int)))
  | tup (h : H a = some (.tup (cs.map V.int)))
  | dft (o : Obj) (n : Nat) (e : cs = []) (h : K.lookup a = some o) (c : o.cls = .type "tuple") (d : o.data = .seq #[] n)
section
variable {K : PySem.W.Frag} {H H' : Hp} {a : Addr} {cs : List Int}
theorem sqT_same {xs : List V} (s : Same H H') (h : SqT K H a xs) : SqT K H' a xs := by
  rcases h with (h | ⟨o, h⟩) | h
  · exact .inl (.inl (s _ _ h))
  · exact .inl (.inr ⟨o, s _ _ h⟩)
  · exact .inr h
theorem Kept.same (h : Kept K H a cs) (s : Same H H') : Kept K H' a cs := by
  cases h with
  | lst h => exact .lst (s _ _ h)
  | tup h => exact .tup (s _ _ h)
  | dft o n e h c d => exact .dft o n e h c d
theorem Kept.seq (h : Kept K H a cs) : SqL K H a (cs.map V.int) ∧ TyX K H (.ref a) (.type "list") ∨ SqT K H a (cs.map V.int) ∧ TyX K H (.ref a) (.type "tuple") := by
  cases h with
  | lst h => exact .inl ⟨SqL.of h, .base (.lst h)⟩
  | tup h => exact .inr ⟨SqT.of h, .base (.tup h)⟩
  | dft o n e h c d =>
    subst e
    exact .inr ⟨.inr ⟨o, #[], n, h, c, d, Nat.zero_le _, .nil⟩, .kTuple h c⟩
end
section
variable {P : Program} {w : World} {K : PySem.W.Frag} {mg : Str → Option Value} {base : Heap} {f : Addr} {fd : FuncData}
def spNums (K : PySem.W.Frag) : Sp := fun vs H Q _ => ∃ (a : Addr) (cs : List Int), vs = [.ref a] ∧ Kept K H a cs ∧ (∀ c ∈ cs, 1 ≤ c ∧ c ≤ 1000000000000) ∧ ∀ H', Same H H' → Q .non H'
theorem sc_check_numbers : FnScope ["value", "position", "cells"] ["value"] (defScope (top 16)) := ⟨rfl, rfl, rfl, by decide +kernel, rfl, by decide +kernel, by decide +kernel⟩
theorem ok_nums (T : Tx K mg) (D_is_cells : Df P w K mg base 2 "is_cells" ["value"] spCells) (F : FnP K "check_numbers" "check_numbers" (top 16) f fd) : FnOk P w K mg base CX0 3 f fd ["value"] (spNums K) := by
  refine F.ok sc_check_numbers (fun vs H Q E h => ?_) (fun cdv A outer s H vs Q E hr h => ⟨_, PSs.nox (pss_cons (ps_if (pt_not (pt_val (pe_callB call_isiT (by rfl) T.n_isinstance (by decide +kernel) (pa_cons (pv 0) (pa_cons (pe_tup (pa_cons (pe_bltn (v := .ty "list") (by rfl) T.n_list (by decide +kernel) rfl) (pa_cons (pe_bltn (v := .ty "tuple") (by rfl) T.n_tuple (by decide +kernel) rfl) pa_nil))) pa_nil))))) (pss_one ps_never) pss_nil) (pss_one (ps_for PassesOwn.never rfl (pi_or (pi_enum rfl T.n_enumerate (pa_cons (pv 0) pa_nil)) (pi_enumT rfl T.n_enumerate (pa_cons (pv 0) pa_nil))) (pg_tup (by rfl) (pgs_cons (pg_name (i := 1) sc_check_numbers.nd rfl (by first | exact Or.inl rfl | exact Or.inr rfl)) (pgs_cons (pg_name (i := 2) sc_check_numbers.nd rfl (by first | exact Or.inl rfl | exact Or.inr rfl)) pgs_nil))) (pss_one (ps_if (pt_not (pt_val (pcall D_is_cells hr (pa_cons (pv 2) pa_nil)))) (pss_one ps_never) pss_nil))))), ?_⟩)
  · obtain ⟨a, cs, rfl, _⟩ := h
    rfl
  · obtain ⟨a, cs, rfl, kp, rg, q⟩ := h
    refine ⟨_, rfl, by show 2 ≤ sizeLine; decide, fun t ht => ?_⟩
    have sm0 : Same H (upd H t (.tup [.ty "list", .ty "tuple"])) := same_upd ht
    have kp0 := kp.same sm0
    have tt : (upd H t (.tup [.ty "list", .ty "tuple"])) t = some (.tup [.ty "list", .ty "tuple"]) := upd_same
    generalize upd H t (.tup [.ty "list", .ty "tuple"]) = H0 at sm0 kp0 tt
    have turn : ∀ (i : Nat) (x1 x2 : Option V) (G : Hp) (T' : Addr) (y2 : V), Same H G → G T' = none → (cs.map V.int)[i]? = some y2 → ∃ c : Int, y2 = .int c ∧ 1 ≤ c ∧ c ≤ 1000000000000 ∧ Same H (upd G T' (.tup [.int (i : Nat), y2])) := by
      intro i x1 x2 G T' y2 sm hT e2
      rw [List.getElem?_map] at e2
      cases e3 : cs[i]? with
      | none => rw [e3] at e2; cases e2
      | some c =>
        rw [e3] at e2
        have r := rg c (List.mem_of_getElem? e3)
        exact ⟨c, (Option.some.inj e2).symm, r.1, r.2, sm.trans (same_upd hT)⟩
    rcases kp0.seq with ⟨sq, ty⟩ | ⟨sq, ty⟩
    · refine ⟨_, t, _, _, [.type "list", .type "tuple"], true, rfl, tt, .cons (.ty "list") (.cons (.ty "tuple") .nil), ty, by rfl, _, rfl, iteF ?_⟩
      refine .inl ⟨_, rfl, a, _, rfl, sq, ?_⟩
      refine for_it (walk_enum (xs := cs.map V.int)) (fun i σ G => Same H0 G ∧ Same H G ∧ (∃ x y, σ = [some (.ref a), x, y])) ⟨Same.refl H0, sm0, none, none, rfl⟩ (fun i σ G _ hh => hh.1.seq sq) ?_ ?_
      · rintro i x σ G G2 hi ⟨s0, sm, ⟨x1, x2, rfl⟩⟩ ⟨T', y1, y2, rfl, hT, rfl, e1, e2⟩
        cases e1
        obtain ⟨c, rfl, c1, c2, sm2⟩ := turn i x1 x2 G T' y2 sm hT e2
        refine ⟨T', _, rfl, .inl (.inl upd_same), rfl, _, _, rfl, _, _, rfl, rfl, ?_⟩
        exact ⟨_, rfl, c, rfl, c1, c2, _, rfl, iteF ⟨s0.trans (same_upd hT), sm2, _, _, rfl⟩⟩
      · rintro σ G ⟨s0, sm, ⟨x1, x2, rfl⟩⟩
        exact q G sm
    · refine ⟨_, t, _, _, [.type "list", .type "tuple"], true, rfl, tt, .cons (.ty "list") (.cons (.ty "tuple") .nil), ty, by rfl, _, rfl, iteF ?_⟩
      refine .inr ⟨_, rfl, a, _, rfl, sq, ?_⟩
      refine for_it (walk_enumT (xs := cs.map V.int)) (fun i σ G => Same H0 G ∧ Same H G ∧ (∃ x y, σ = [some (.ref a), x, y])) ⟨Same.refl H0, sm0, none, none, rfl⟩ (fun i σ G _ hh => ?_) ?_ ?_
      · exact sqT_same hh.1 sq
      · rintro i x σ G G2 hi ⟨s0, sm, ⟨x1, x2, rfl⟩⟩ ⟨T', y1, y2, rfl, hT, rfl, e1, e2⟩
        cases e1
        obtain ⟨c, rfl, c1, c2, sm2⟩ := turn i x1 x2 G T' y2 sm hT e2
        refine ⟨T', _, rfl, .inl (.inl upd_same), rfl, _, _, rfl, _, _, rfl, rfl, ?_⟩
        exact ⟨_, rfl, c, rfl, c1, c2, _, rfl, iteF ⟨s0.trans (same_upd hT), sm2, _, _, rfl⟩⟩
      · rintro σ G ⟨s0, sm, ⟨x1, x2, rfl⟩⟩
        exact q G sm
end
end K44

set_option Elab.async false
set_option linter.all false
set_option maxRecDepth 100000
set_option maxHeartbeats 4000000
namespace Ex
open PySem PySem.Spec PySem.Calls PyProof.Rows L2 Gu
section
variable {X : Cx} {k j : Nat} {c m : Str} {ps : List Str} {dvs : List V} {sp : Sp} {pos apos : Pos} {e o : Expr} {es : List Expr} {t : TA} {ta : TE}
/-- a method called with its defaults -/
structure MfD (P : Program) (w : World) (K : PySem.W.Frag) (mg : Str → Option Value) (base : Heap) (k : Nat) (c m : Str) (ps : List Str) (dvs : List V) (sp : Sp) : Prop where
  ex : ∃ fd ds, FnOk P w K mg base CX0 k (He.ma K (He.ga K c) m) fd ps sp ∧ Vals dvs ds ∧ Binds K fd ps ds
  cl : Cls K (He.ga K c)
  me : Meth K (He.ga K c) m (He.ma K (He.ga K c) m)
theorem pmethD {pl : Sem Bool} (D : MfD X.prog X.w X.K X.mg X.base k c m ps dvs sp) (hr : Room j X.A) (he : PE X o ta) (ha : PA X (e :: es) t) (hj : k ≤ j := by decide)
    (hst : starEach (e :: es) X.env = (false, eval e X.env) :: starEach es X.env := by rfl) (hpl : (backTo pos (starEach es X.env)).any (·.1) = false := by rfl)
    (ht : eval (.Call (.Attribute o m apos) (e :: es) [] pos) X.env = (do
      let ov ← eval o X.env
      standAt apos.atName
      let (f, first) ← holding [ov] (getMethod ov m pl)
      callWith pos f first (backTo pos (starEach (e :: es) X.env)) (backToKw pos (keywordEach [] X.env))) := by rfl) :
    PE X (.Call (.Attribute o m apos) (e :: es) [] pos) (tMeth (He.ga X.K c) m sp dvs E0 ta t) := by
  obtain ⟨fd, ds, F, v, b⟩ := D.ex
  exact pe_meth he D.cl D.me F (hr.mono hj) b v pass0 ha hst hpl ht
end
end Ex
namespace K44
open PySem PySem.Spec PyProof.Rows L2 Gu Ex
def whlI (ns : List Int) (k : Nat) (cs : List Int) : List Int := cs.map fun c => c - c % sz ns k
def slkI (ns : List Int) (n : Int) (bs : List Blk) (k : Nat) (cs : List Int) : Int := clrI ns n bs k - lseI ns bs k - (whlI ns k cs).sum
section
variable {P : Program} {w : World} {K : PySem.W.Frag} {mg : Str → Option Value} {base : Heap} {f : Addr} {fd : FuncData}
def spSlack (K : PySem.W.Frag) : Sp := fun vs H Q _ => ∃ (y zp bl dx : Addr) (ps : List Addr) (ns : List Int) (n : Int) (bs : List Blk) (k : Nat) (a : Addr) (cs : List Int), vs = [.ref y, .int k, .ref a] ∧ Ly K H y zp bl dx ps ns n bs ∧ k < ns.length ∧ Kept K H a cs ∧ (∀ c ∈ cs, 1 ≤ c ∧ c ≤ 1000000000000) ∧ cs.length ≤ 1000 ∧ ∀ H', Same H H' → Q (.int (slkI ns n bs k cs)) H'
theorem sc_slack : FnScope ["self", "level", "kept", "cells", "number"] ["self", "level", "kept"] (defScope (inClass (top 34) 26)) := ⟨rfl, rfl, rfl, by decide +kernel, rfl, by decide +kernel, by decide +kernel⟩
theorem ok_slack {z0 : Addr} (T : Tx K mg) (M_clear_cells : Mf P w K mg base 9 "Layout" "clear_cells" ["self", "level"] (spClear K)) (M_unpinned_cells : Mf P w K mg base 6 "Layout" "unpinned_cells" ["self", "level"] (spLoose K)) (D_check_numbers : Df P w K mg base 3 "check_numbers" ["value"] (spNums K))
    (M_whole : Mf P w K mg base 6 "Sizes" "whole" ["self", "cells", "level"] (spWhole K)) (F : FnK K "slack" "Layout.slack" (inClass (top 34) 26) [("kept", .ref z0)] f fd) : FnOk P w K mg base CX0 10 f fd ["self", "level", "kept"] (spSlack K) := by
  refine F.ok sc_slack (fun vs H Q E h => ?_) (fun cdv A outer s H vs Q E hr h => ⟨_, PSs.nox (pss_cons (ps_set (i := 3) sc_slack.nd rfl (by first | exact Or.inl rfl | exact Or.inr rfl) (pe_op op_sub (pmeth M_clear_cells hr (pv 0) (pa_cons (pv 1) pa_nil)) (pmeth M_unpinned_cells hr (pv 0) (pa_cons (pv 1) pa_nil)))) (pss_cons (ps_expr (pcall D_check_numbers hr (pa_cons (pv 2) pa_nil))) (pss_one (ps_ret (pe_op op_sub (pv 3) (pe_callB (cr_sum rfl) (by rfl) T.n_sum (by decide +kernel) (pa_cons (pe_lc (own := [("number", 4)]) (g := gName 4) rfl sc_slack.nd (pi_or (pi_list (pv 2)) (pi_tup (pv 2))) (blkOk_by (own := [("number", 4)]) (N := ["self", "level", "kept", "cells", "number"]) (sc := defScope (inClass (top 34) 26)) (by decide +kernel)) (fun _ _ _ _ _ => pg_name (i := 4) sc_slack.nd rfl (Or.inl rfl)) (fun _ _ _ _ _ => pts_nil) (fun _ _ _ _ _ => (pmethB K M_whole hr (pfldB K (pv 0)) (pa_cons (pv 4) (pa_cons (pv 1) pa_nil))))) pa_nil))))))), ?_⟩)
  · obtain ⟨y, zp, bl, dx, ps, ns, n, bs, k, a, cs, rfl, _⟩ := h
    rfl
  · obtain ⟨y, zp, bl, dx, ps, ns, n, bs, k, a, cs, rfl, L, hk, kp, rg, cl, q⟩ := h
    have sl : sizeLine = 16777216 := sizeLine_eq
    refine ⟨_, rfl, y, dx, _, rfl, L.at_, lay_nm (by decide +kernel), _, rfl, y, zp, bl, dx, ps, ns, n, bs, k, rfl, L, hk, fun H1 s1 => ?_⟩
    have L1 := L.same s1
    refine ⟨_, rfl, y, dx, _, rfl, L1.at_, lay_nm (by decide +kernel), _, rfl, y, zp, bl, dx, ps, ns, n, bs, k, rfl, L1, hk, fun H2 s2 => ?_⟩
    refine ⟨_, _, rfl, rfl, ?_⟩
    have kp2 := kp.same (s1.trans s2)
    refine ⟨_, rfl, a, cs, rfl, kp2, rg, fun H3 s3 => ?_⟩
    have sH := (s1.trans s2).trans s3
    have kp3 := kp2.same s3
    refine ⟨_, rfl, ?_⟩
    have turn : ∀ (D : Addr) (hD : H3 D = none) (i : Nat) (x : V) (G : Hp), (cs.map V.int)[i]? = some x → (G D = some (.lst ((whlI ns k (cs.take i)).map V.int)) ∧ Same H3 G) → ∃ c, x = .int c ∧ 1 ≤ c ∧ c ≤ 1000000000000 ∧ ∃ acc, G D = some (.lst acc) ∧ acc.length < sizeLine ∧ (upd G D (.lst (acc ++ [.int (c - c % sz ns k)]))) D = some (.lst ((whlI ns k (cs.take (i + 1))).map V.int)) ∧ Same H3 (upd G D (.lst (acc ++ [.int (c - c % sz ns k)]))) := by
      rintro D hD i x G hx ⟨hG, sm⟩
      rw [List.getElem?_map] at hx
      cases e3 : cs[i]? with
      | none => rw [e3] at hx; cases hx
      | some c =>
        rw [e3] at hx
        have r := rg c (List.mem_of_getElem? e3)
        have il := (List.getElem?_eq_some_iff.mp e3).1
        refine ⟨c, (Option.some.inj hx).symm, r.1, r.2, _, hG, (by unfold whlI; rw [List.length_map, List.length_map, List.length_take]; omega), ?_, fun c o e => ?_⟩
        · rw [upd_same, take_at e3]
          unfold whlI
          rw [List.map_append, List.map_append]
          rfl
        · rw [upd_ne (ne_of_none e hD)]
          exact sm c o e
    have z1 := (chain L.gd).pos _ hk
    rcases kp3.seq with ⟨sq, _⟩ | ⟨sq, _⟩
    · refine .inl ⟨_, rfl, a, rfl, ⟨_, sq⟩, fun D hD => ?_⟩
      refine lc_list (K := K) (a := a) (xs := cs.map V.int) (fun i G => G D = some (.lst ((whlI ns k (cs.take i)).map V.int)) ∧ Same H3 G) ⟨upd_same, same_upd hD⟩ (fun i G _ ⟨_, sm⟩ => sm.seq sq) ?_ ?_
      · rintro i x G hx hh
        obtain ⟨c, rfl, c1, c2, fin⟩ := turn D hD i x G hx hh
        have LG := L.same (sH.trans hh.2)
        obtain ⟨dz, l, z3, z4⟩ := id LG.szs
        refine ⟨rfl, _, rfl, y, _, dx, _, _, rfl, LG.at_, T.ly, T.nST, lay_st .., zp, dz, _, rfl, z3, szF_no l (by decide +kernel), _, rfl, _, rfl, zp, ns, k, _, c, rfl, LG.szs, sz_at hk, z1, c1, c2, fin⟩
      · rintro G ⟨hG, sm⟩
        rw [List.length_map, List.take_length] at hG
        exact ⟨D, _, rfl, SqL.of hG, _, _, rfl, rfl, q G (sH.trans sm)⟩
    · refine .inr ⟨_, rfl, a, rfl, ⟨_, sq⟩, fun D hD => ?_⟩
      refine lc_tup (K := K) (a := a) (xs := cs.map V.int) (fun i G => G D = some (.lst ((whlI ns k (cs.take i)).map V.int)) ∧ Same H3 G) ⟨upd_same, same_upd hD⟩ (fun i G _ ⟨_, sm⟩ => sqT_same sm sq) ?_ ?_
      · rintro i x G hx hh
        obtain ⟨c, rfl, c1, c2, fin⟩ := turn D hD i x G hx hh
        have LG := L.same (sH.trans hh.2)
        obtain ⟨dz, l, z3, z4⟩ := id LG.szs
        refine ⟨rfl, _, rfl, y, _, dx, _, _, rfl, LG.at_, T.ly, T.nST, lay_st .., zp, dz, _, rfl, z3, szF_no l (by decide +kernel), _, rfl, _, rfl, zp, ns, k, _, c, rfl, LG.szs, sz_at hk, z1, c1, c2, fin⟩
      · rintro G ⟨hG, sm⟩
        rw [List.length_map, List.take_length] at hG
        exact ⟨D, _, rfl, SqL.of hG, _, _, rfl, rfl, q G (sH.trans sm)⟩
end
end K44

set_option Elab.async false
set_option linter.all false
set_option maxRecDepth 100000
set_option maxHeartbeats 4000000
namespace K44
open PySem PySem.Spec PyProof.Rows L2 Gu Ex
/-- the run at a, the level and where it ends -/
abbrev lv (ns : List Int) (hi a : Int) : Nat := M16.L (sz ns) ns.length hi a
abbrev eN (ns : List Int) (hi a : Int) : Int := M16.en (sz ns) ns.length hi a
section
variable {P : Program} {w : World} {K : PySem.W.Frag} {mg : Str → Option Value} {base : Heap} {f : Addr} {fd : FuncData}
def spHigh (K : PySem.W.Frag) : Sp := fun vs H Q _ => ∃ (p : Addr) (ns : List Int) (a e : Int), vs = [.ref p, .int a, .int e] ∧ SzAt (He.ga K "Sizes") H p ns ∧ Good ns ∧ a < e ∧ Q (.int (lv ns e a)) H
theorem sc_highest_level_at : FnScope ["sizes", "low", "high", "level"] ["sizes", "low", "high"] (defScope (top 29)) := ⟨rfl, rfl, rfl, by decide +kernel, rfl, by decide +kernel, by decide +kernel⟩
theorem ok_high (T : Tx K mg) (P_top : Pf P w K mg base 1 "Sizes" "top" (spTop K)) (D_lies_below : Df P w K mg base 6 "lies_below" ["sizes", "level", "address", "end"] (spBelow K)) (F : FnP K "highest_level_at" "highest_level_at" (top 29) f fd) :
    FnOk P w K mg base CX0 7 f fd ["sizes", "low", "high"] (spHigh K) := by
  refine F.ok sc_highest_level_at (fun vs H Q E h => ?_) (fun cdv A outer s H vs Q E hr h => ⟨_, PSs.nox (pss_cons (ps_set (i := 3) sc_highest_level_at.nd rfl (by first | exact Or.inl rfl | exact Or.inr rfl) (pprop P_top hr (pv 0))) (pss_cons (ps_while PassesOwn.never (pt_not (pt_val (pcall D_lies_below hr (pa_cons (pv 0) (pa_cons (pv 3) (pa_cons (pv 1) (pa_cons (pv 2) pa_nil))))))) (pss_one (ps_aug (i := 3) sc_highest_level_at.nd rfl (by first | exact Or.inl rfl | exact Or.inr rfl) pe_int ip_sub))) (pss_one (ps_ret (pv 3))))), ?_⟩)
  · obtain ⟨p, ns, a, e, rfl, _⟩ := h
    rfl
  · obtain ⟨p, ns, a, e, rfl, hz, g, hlt, q⟩ := h
    obtain ⟨dx, l, h1, h2⟩ := id hz
    have c := chain g
    have l1 := g.len.1
    refine ⟨_, rfl, p, dx, _, rfl, h1, p, ns, rfl, hz, ?_⟩
    refine ⟨fun m σ G => ∃ n : Nat, m = n ∧ n < ns.length ∧ G = H ∧ σ = [some (.ref p), some (.int a), some (.int e), some (.int (n : Nat))] ∧ lv ns e a = M16.lev (sz ns) e a n, ⟨ns.length - 1, ns.length - 1, rfl, by omega, rfl, ?_, rfl⟩, ?_⟩
    · rw [show ((ns.length : Int) - 1) = ((ns.length - 1 : Nat) : Int) by omega]
      rfl
    · rintro m σ G ⟨n, rfl, hn, rfl, rfl, hl⟩
      refine ⟨_, rfl, _, rfl, _, rfl, _, rfl, p, ns, m, _, a, e, rfl, hz, sz_at hn, c.pos _ hn, _, rfl, ?_⟩
      by_cases hs : a % sz ns m = 0 ∧ a + sz ns m ≤ e
      · refine ifF (by rw [decide_eq_true hs]; rfl) ⟨_, rfl, ?_⟩
        have e1 : M16.lev (sz ns) e a m = m := by
          cases m with
          | zero => rfl
          | succ k => exact if_pos hs
        rw [hl, e1] at q
        exact q
      · refine ifT (by rw [decide_eq_false hs]; rfl) ?_
        cases m with
        | zero => exact absurd (M16.lies0 c hlt) hs
        | succ k =>
          refine ⟨fun σ' G' => ∃ n : Nat, n = k ∧ n < ns.length ∧ G' = G ∧ σ' = [some (.ref p), some (.int a), some (.int e), some (.int (n : Nat))] ∧ lv ns e a = M16.lev (sz ns) e a n, fun σ' G' ⟨n, e0, r⟩ => ⟨n, by omega, n, rfl, r⟩, ?_⟩
          refine ⟨_, rfl, _, _, rfl, rfl, k, rfl, by omega, rfl, ?_, ?_⟩
          · show [some (V.ref p), some (V.int a), some (V.int e), some (V.int (((k + 1 : Nat) : Int) - 1))] = _
            rw [show (((k + 1 : Nat) : Int) - 1) = ((k : Nat) : Int) by omega]
          · rw [hl]
            exact if_neg hs
def spFRun (K : PySem.W.Frag) : Sp := fun vs H Q _ => ∃ (p : Addr) (ns : List Int) (a e : Int), vs = [.ref p, .int a, .int e] ∧ SzAt (He.ga K "Sizes") H p ns ∧ Good ns ∧ 0 ≤ a ∧ a < e ∧ ∀ t, H t = none → Q (.ref t) (upd H t (.tup [.int (lv ns e a), .int (eN ns e a)]))
theorem cntI_pos {z a b : Int} (hz : 1 ≤ z) : 0 < cntI z a b ↔ M16.nx z a + z ≤ b := by
  have h := M16.cnt_pos (z := z) (a := a) (b := b) hz
  have e : cntI z a b = if ((b - b % z) - M16.nx z a) / z > 0 then ((b - b % z) - M16.nx z a) / z else 0 := rfl
  rw [e, ← h]
  split <;> omega
theorem sc_first_run : FnScope ["sizes", "low", "high", "level"] ["sizes", "low", "high"] (defScope (top 30)) := ⟨rfl, rfl, rfl, by decide +kernel, rfl, by decide +kernel, by decide +kernel⟩
theorem ok_frun (T : Tx K mg) (P_top : Pf P w K mg base 1 "Sizes" "top" (spTop K)) (M_size : Mf P w K mg base 5 "Sizes" "size" ["self", "level"] (spSize K)) (D_highest_level_at : Df P w K mg base 7 "highest_level_at" ["sizes", "low", "high"] (spHigh K))
    (D_count_regions : Df P w K mg base 7 "count_regions" ["sizes", "level", "low", "high"] (spCount K)) (D_next_start : Df P w K mg base 1 "next_start" ["size", "address"] spNext) (D_region_start : Df P w K mg base 6 "region_start" ["sizes", "level", "address"] (spStart K))
    (F : FnP K "first_run" "first_run" (top 30) f fd) : FnOk P w K mg base CX0 8 f fd ["sizes", "low", "high"] (spFRun K) := by
  refine F.ok sc_first_run (fun vs H Q E h => ?_) (fun cdv A outer s H vs Q E hr h => ⟨_, PSs.nox (pss_cons (ps_set (i := 3) sc_first_run.nd rfl (by first | exact Or.inl rfl | exact Or.inr rfl) (pcall D_highest_level_at hr (pa_cons (pv 0) (pa_cons (pv 1) (pa_cons (pv 2) pa_nil))))) (pss_cons (ps_if (PW.pt (pw_and (pt_cmpR op_lt (pv 3) (pprop P_top hr (pv 0)) (nomark _)) (pw_and1 (pt_cmpR op_gt (pcall D_count_regions hr (pa_cons (pv 0) (pa_cons (pe_op op_add (pv 3) pe_int) (pa_cons (pv 1) (pa_cons (pv 2) pa_nil))))) pe_int (nomark _))))) (pss_one (ps_ret (pe_tup (pa_cons (pv 3) (pa_cons (pcall D_next_start hr (pa_cons (pmeth M_size hr (pv 0) (pa_cons (pe_op op_add (pv 3) pe_int) pa_nil)) (pa_cons (pv 1) pa_nil))) pa_nil))))) pss_nil) (pss_one (ps_ret (pe_tup (pa_cons (pv 3) (pa_cons (pcall D_region_start hr (pa_cons (pv 0) (pa_cons (pv 3) (pa_cons (pv 2) pa_nil)))) pa_nil))))))), ?_⟩)
  · obtain ⟨p, ns, a, e, rfl, _⟩ := h
    rfl
  · obtain ⟨p, ns, a, e, rfl, hz, g, a0, hlt, q⟩ := h
    obtain ⟨dx, l, h1, h2⟩ := id hz
    have c := chain g
    have two : 2 ≤ sizeLine := by decide
    have lm : lv ns e a < ns.length := M16.L_lt c
    refine ⟨_, rfl, _, rfl, _, rfl, p, ns, a, e, rfl, hz, g, hlt, ?_⟩
    refine ⟨_, rfl, _, rfl, p, dx, _, rfl, h1, p, ns, rfl, hz, _, _, rfl, rfl, _, rfl, ?_⟩
    have last : ¬ (lv ns e a + 1 < ns.length ∧ M16.nx (sz ns (lv ns e a + 1)) a + sz ns (lv ns e a + 1) ≤ e) → eN ns e a = e - e % sz ns (lv ns e a) := M16.en2
    by_cases hk : ((lv ns e a : Nat) : Int) < (ns.length : Int) - 1
    · have k1 : lv ns e a + 1 < ns.length := by omega
      have z1 := c.pos _ k1
      have z2 := sz_le g k1
      refine ifT (decide_eq_true hk) ⟨_, rfl, _, rfl, _, _, rfl, rfl, _, rfl, _, rfl, p, ns, lv ns e a + 1, _, a, e, rfl, hz, sz_at k1, z1, z2, a0, by omega, _, _, rfl, rfl, _, rfl, ?_⟩
      by_cases hc : 0 < cntI (sz ns (lv ns e a + 1)) a e
      · refine ifT (decide_eq_true hc) ⟨_, rfl, _, rfl, p, dx, _, rfl, h1, szF_no l (by decide +kernel), _, rfl, _, _, rfl, rfl, p, ns, lv ns e a + 1, _, rfl, hz, sz_at k1, _, rfl, _, a, rfl, z1, z2, two, fun t ht => ?_⟩
        have e1 : eN ns e a = M16.nx (sz ns (lv ns e a + 1)) a := M16.en1 ⟨k1, (cntI_pos z1).mp hc⟩
        have r := q t ht
        rw [e1] at r
        exact r
      · refine ifF (decide_eq_false hc) ⟨_, rfl, _, rfl, _, rfl, _, rfl, p, ns, lv ns e a, _, e, rfl, hz, sz_at lm, c.pos _ lm, by omega, two, fun t ht => ?_⟩
        have r := q t ht
        rw [last fun y => hc ((cntI_pos z1).mpr y.2)] at r
        exact r
    · refine ifF (decide_eq_false hk) (iteF ⟨_, rfl, _, rfl, _, rfl, _, rfl, p, ns, lv ns e a, _, e, rfl, hz, sz_at lm, c.pos _ lm, by omega, two, fun t ht => ?_⟩)
      have r := q t ht
      rw [last fun y => hk (by omega)] at r
      exact r
end
/-- a run as a tuple -/
def runV (t : M16.Run) : List V := [.int (t.1 : Nat), .int t.2.1, .int t.2.2]
def runD (t : M16.Run) : PyData := .tuple [.int (t.1 : Nat), .int t.2.1, .int t.2.2]
/-- the tuples of runs at these addresses -/
inductive Tups (H : Hp) : List Addr → List M16.Run → Prop
  | nil : Tups H [] []
  | cons {p : Addr} {ps : List Addr} {t : M16.Run} {ts : List M16.Run} : H p = some (.tup (runV t)) → Tups H ps ts → Tups H (p :: ps) (t :: ts)
section
variable {H H' : Hp} {ps : List Addr} {ts : List M16.Run}
theorem Tups.mono (h : Tups H ps ts) (k : ∀ p xs, H p = some (.tup xs) → H' p = some (.tup xs)) : Tups H' ps ts := by
  induction h with
  | nil => exact .nil
  | cons a _ ih => exact .cons (k _ _ a) ih
theorem Tups.same (h : Tups H ps ts) (k : Same H H') : Tups H' ps ts := h.mono fun p xs e => k p _ e
theorem Tups.snoc {p : Addr} {t : M16.Run} (h : Tups H ps ts) (a : H p = some (.tup (runV t))) : Tups H (ps ++ [p]) (ts ++ [t]) := by
  induction h with
  | nil => exact .cons a .nil
  | cons b _ ih => exact .cons b ih
theorem Tups.len (h : Tups H ps ts) : ps.length = ts.length := by
  induction h with
  | nil => rfl
  | cons _ _ ih => rw [List.length_cons, List.length_cons, ih]
theorem Tups.get (h : Tups H ps ts) : ∀ {i : Nat} {p : Addr}, ps[i]? = some p → ∃ t, ts[i]? = some t ∧ H p = some (.tup (runV t)) := by
  induction h with
  | nil => intro i p e; cases e
  | cons a _ ih =>
    intro i p e
    cases i with
    | zero =>
      cases e
      exact ⟨_, rfl, a⟩
    | succ i => exact ih e
end
section
variable {P : Program} {w : World} {K : PySem.W.Frag} {mg : Str → Option Value} {base : Heap} {f : Addr} {fd : FuncData}
abbrev Rs (ns : List Int) (hi a : Int) : List M16.Run := M16.R (sz ns) ns.length hi a
def spMax (K : PySem.W.Frag) : Sp := fun vs H Q _ => ∃ (p : Addr) (ns : List Int) (lo hi : Int), vs = [.ref p, .int lo, .int hi] ∧ SzAt (He.ga K "Sizes") H p ns ∧ Good ns ∧ 0 ≤ lo ∧ lo ≤ hi ∧
  ∀ L ps H', H L = none → Same H H' → H' L = some (.lst (ps.map V.ref)) → Tups H' ps (Rs ns hi lo) → Q (.ref L) H'
theorem sc_maximal_runs : FnScope ["sizes", "low", "high", "runs", "address", "level", "end"] ["sizes", "low", "high"] (defScope (top 31)) := ⟨rfl, rfl, rfl, by decide +kernel, rfl, by decide +kernel, by decide +kernel⟩
theorem ok_max (T : Tx K mg) (D_check_range : Df P w K mg base 3 "check_range" ["low", "high"] spRange) (M_size : Mf P w K mg base 5 "Sizes" "size" ["self", "level"] (spSize K)) (D_first_run : Df P w K mg base 8 "first_run" ["sizes", "low", "high"] (spFRun K))
    (F : FnP K "maximal_runs" "maximal_runs" (top 31) f fd) : FnOk P w K mg base CX0 9 f fd ["sizes", "low", "high"] (spMax K) := by
  refine F.ok sc_maximal_runs (fun vs H Q E h => ?_) (fun cdv A outer s H vs Q E hr h => ⟨_, PSs.nox (pss_cons (ps_expr (pcall D_check_range hr (pa_cons (pv 1) (pa_cons (pv 2) pa_nil)))) (pss_cons (ps_set (i := 3) sc_maximal_runs.nd rfl (by first | exact Or.inl rfl | exact Or.inr rfl) (pe_lst pa_nil)) (pss_cons (ps_set (i := 4) sc_maximal_runs.nd rfl (by first | exact Or.inl rfl | exact Or.inr rfl) (pv 1)) (pss_cons (ps_while PassesOwn.never (pt_cmpR op_lt (pv 4) (pv 2) (nomark _)) (pss_cons (ps_asg (pcall D_first_run hr (pa_cons (pv 0) (pa_cons (pv 4) (pa_cons (pv 2) pa_nil)))) (pg_tup (by rfl) (pgs_cons (pg_name (i := 5) sc_maximal_runs.nd rfl (by first | exact Or.inl rfl | exact Or.inr rfl)) (pgs_cons (pg_name (i := 6) sc_maximal_runs.nd rfl (by first | exact Or.inl rfl | exact Or.inr rfl)) pgs_nil)))) (pss_cons (ps_expr (pe_bm PySem.F.plainAttrs_list PySem.F.slot_list_append PySem.F.type_list_append mt_append (pv 3) (pa_cons (pe_tup (pa_cons (pv 5) (pa_cons (pv 4) (pa_cons (pe_op op_fdivW (pe_op op_sub (pv 6) (pv 4)) (pmeth M_size hr (pv 0) (pa_cons (pv 5) pa_nil))) pa_nil)))) pa_nil))) (pss_one (ps_set (i := 4) sc_maximal_runs.nd rfl (by first | exact Or.inl rfl | exact Or.inr rfl) (pv 6)))))) (pss_one (ps_ret (pv 3))))))), ?_⟩)
  · obtain ⟨p, ns, a, e, rfl, _⟩ := h
    rfl
  · obtain ⟨p, ns, lo, hi, rfl, hz, g, a0, hlt, q⟩ := h
    have c := chain g
    have sl : sizeLine = 16777216 := sizeLine_eq
    refine ⟨_, rfl, _, rfl, lo, hi, rfl, a0, hlt, ?_⟩
    refine ⟨Nat.zero_le _, fun L hL => ⟨_, rfl, ?_⟩⟩
    have short : ∀ {done : List M16.Run} {a : Int}, Rs ns hi lo = done ++ Rs ns hi a → done.length ≤ 16 := fun {done a} e => by
      have l := M16.R_short (s := sz ns) (a := lo) (hi := hi) c g.len.2
      have l2 := congrArg List.length e
      rw [List.length_append] at l2
      have : (Rs ns hi lo).length ≤ 16 := l
      omega
    refine ⟨fun m σ G => ∃ (a : Int) (ps : List Addr) (done : List M16.Run) (x y : Option V), m = (hi - a).toNat ∧ σ = [some (.ref p), some (.int lo), some (.int hi), some (.ref L), some (.int a), x, y] ∧ Same H G ∧ G L = some (.lst (ps.map V.ref)) ∧ Tups G ps done ∧ M16.Mid (sz ns) ns.length hi lo a done,
      ⟨_, lo, [], [], none, none, rfl, rfl, same_upd hL, upd_same, .nil, M16.mid0 c hlt⟩, ?_⟩
    rintro m σ G ⟨a, ps, done, x, y, rfl, rfl, sm, hG, tp, M⟩
    refine ⟨_, rfl, _, rfl, _, _, rfl, rfl, _, rfl, ?_⟩
    by_cases hc : a < hi
    · refine ifT (decide_eq_true hc) ?_
      have la := M.lo_le
      have zG := hz.same sm
      refine ⟨fun σ' G' => ∃ (ps : List Addr) (done : List M16.Run) (x y : Option V), σ' = [some (.ref p), some (.int lo), some (.int hi), some (.ref L), some (.int (eN ns hi a)), x, y] ∧ Same H G' ∧ G' L = some (.lst (ps.map V.ref)) ∧ Tups G' ps done ∧ M16.Mid (sz ns) ns.length hi lo (eN ns hi a) done,
        fun σ' G' ⟨ps, done, x, y, r⟩ => ⟨_, (by have gg : a < eN ns hi a := M16.en_gt c hc; show (hi - eN ns hi a).toNat < _; omega), eN ns hi a, ps, done, x, y, rfl, r⟩, ?_⟩
      refine ⟨_, rfl, _, rfl, _, rfl, p, ns, a, hi, rfl, zG, g, by omega, hc, fun t ht => ?_⟩
      refine ⟨t, _, rfl, .inl (.inl upd_same), rfl, _, _, rfl, _, _, rfl, rfl, ?_⟩
      have sm1 := same_upd (o := .tup [.int (lv ns hi a), .int (eN ns hi a)]) ht
      have hG1 := sm1 _ _ hG
      have zG1 := zG.same sm1
      generalize (upd G t (.tup [.int (lv ns hi a), .int (eN ns hi a)])) = G1 at sm1 hG1 zG1 ⊢
      obtain ⟨dx, l, h1, h2⟩ := id zG1
      have lm : lv ns hi a < ns.length := M16.L_lt c
      refine ⟨_, rfl, .inl ⟨rfl, _, SqL.of hG1⟩, ?_⟩
      refine ⟨_, rfl, _, rfl, _, rfl, _, rfl, _, _, rfl, rfl, _, rfl, p, dx, _, rfl, h1, szF_no l (by decide +kernel), _, rfl, p, ns, lv ns hi a, _, rfl, zG1, sz_at lm, _, _, rfl, rfl, div_ok (c.pos _ lm) (sz_le g lm), (by show 3 ≤ sizeLine; decide), fun t2 ht2 => ?_⟩
      have nL : L ≠ t2 := ne_of_none hG1 ht2
      have hl := short M.eq
      refine ⟨L, _, _, rfl, rfl, (by rw [upd_ne nL]; exact hG1), (by rw [List.length_map, tp.len]; omega), ?_⟩
      have tp2 : Tups (upd (upd G1 t2 (.tup (runV (M16.run (sz ns) ns.length hi a)))) L (.lst (ps.map V.ref ++ [.ref t2]))) (ps ++ [t2]) (done ++ [M16.run (sz ns) ns.length hi a]) := by
        refine Tups.snoc ((tp.same sm1).mono fun b xs e => ?_) ?_
        · rw [upd_ne (fun z => by rw [z, hG1] at e; cases e), upd_ne (ne_of_none e ht2)]
          exact e
        · rw [upd_ne nL.symm, upd_same]
      refine ⟨_, rfl, ps ++ [t2], _, _, _, rfl, fun b o e => ?_, ?_, tp2, M.next c hc⟩
      · rw [upd_ne (ne_of_none e hL), upd_ne (ne_of_none (sm1 _ _ (sm b o e)) ht2)]
        exact sm1 _ _ (sm b o e)
      · rw [upd_same, List.map_append]
        rfl
    · refine ifF (decide_eq_false hc) ⟨_, rfl, q L ps G hL sm hG ?_⟩
      have e := M.eq
      rw [M16.R_end hc, List.append_nil] at e
      show Tups G ps (M16.R (sz ns) ns.length hi lo)
      rw [e]
      exact tp
end
end K44

set_option Elab.async false
set_option linter.all false
set_option maxRecDepth 100000
set_option maxHeartbeats 4000000
namespace K44
open PySem PySem.Spec PyProof.Rows L2 Gu Ex
def blkD (b : Blk) : PyData := .tuple [.int b.1, .int (b.2.1 : Nat), .bool b.2.2]
theorem Refs.dp {K : PySem.W.Frag} {H : Hp} {qs : List Addr} {bs : List Blk} (h : Refs blkV H qs bs) : DpAll K H (qs.map V.ref) (bs.map blkD) := by
  induction h with
  | nil => exact .nil
  | cons e _ ih => exact .cons (.tup (SqT.of e) (.cons (.int _) (.cons (.int _) (.cons (.bl _) .nil)))) ih
theorem lay_blk : ∀ bs : List Blk, PyData.canLayAll0 (bs.map blkD) = true
  | [] => rfl
  | b :: r => by
    have e : (blkD b).canLay0 = true := rfl
    simp only [List.map_cons, PyData.canLayAll0, e, lay_blk r, Bool.and_self]
theorem dep_blk : ∀ bs : List Blk, PyData.depthAll (bs.map blkD) ≤ 1
  | [] => Nat.zero_le _
  | b :: r => by
    have e : (blkD b).depth = 1 := rfl
    simp only [List.map_cons, PyData.depthAll, e]
    have := dep_blk r
    omega
theorem shaped_blk (bs : List Blk) : SeqAt.shaped (.list (bs.map blkD)) = true := by
  have c : (PyData.list (bs.map blkD)).canLay0 = true := lay_blk bs
  have e : (PyData.list (bs.map blkD)).depth ≤ 2 := by
    show PyData.depthAll (bs.map blkD) + 1 ≤ 2
    have := dep_blk bs
    omega
  unfold SeqAt.shaped
  rw [c]
  simp
  omega
theorem trues_len (i : Nat) : (List.map V.bl (List.replicate i true)).length = i := by simp
theorem trues_more (i : Nat) : List.map V.bl (List.replicate i true) ++ [V.bl true] = List.map V.bl (List.replicate (i + 1) true) := by
  rw [List.replicate_succ', List.map_append]
  rfl
theorem all_trues (i : Nat) : (List.replicate i true).all id = true := by
  rw [List.all_replicate]
  split <;> rfl

theorem eqv_ints : ∀ ns ms : List Int, PyData.eqvAll (ns.map PyData.int) (ms.map PyData.int) = decide (ns = ms)
  | [], [] => rfl
  | [], _ :: _ => rfl
  | _ :: _, [] => rfl
  | n :: ns, m :: ms => by
    show ((n == m) && PyData.eqvAll (ns.map PyData.int) (ms.map PyData.int)) = _
    rw [eqv_ints ns ms]
    by_cases h : n = m
    · subst h
      simp
    · simp [h]
theorem eqv_blk (b c : Blk) : PyData.eqv (blkD b) (blkD c) = decide (b = c) := by
  obtain ⟨a, k, p⟩ := b
  obtain ⟨a2, k2, p2⟩ := c
  show ((a == a2) && (((k : Int) == (k2 : Int)) && ((p == p2) && true))) = _
  by_cases h1 : a = a2
  · by_cases h2 : k = k2
    · by_cases h3 : p = p2
      · subst h1 h2 h3
        simp
      · simp [h1, h2, h3]
    · have h2' : ¬ (k : Int) = (k2 : Int) := by omega
      simp [h1, h2, h2']
  · simp [h1]
theorem eqv_blks : ∀ bs cs : List Blk, PyData.eqvAll (bs.map blkD) (cs.map blkD) = decide (bs = cs)
  | [], [] => rfl
  | [], _ :: _ => rfl
  | _ :: _, [] => rfl
  | b :: bs, c :: cs => by
    show (PyData.eqv (blkD b) (blkD c) && PyData.eqvAll (bs.map blkD) (cs.map blkD)) = _
    rw [eqv_blks bs cs, eqv_blk]
    by_cases h : b = c
    · subst h
      simp
    · simp [h]
theorem dp_ints {K : PySem.W.Frag} {H : Hp} : ∀ ns : List Int, DpAll K H (ns.map V.int) (ns.map PyData.int)
  | [] => .nil
  | n :: r => .cons (.int n) (dp_ints r)
theorem flat : ∀ ns : List Int, PyData.depthAll (ns.map PyData.int) = 0
  | [] => rfl
  | n :: r => by
    show max 0 (PyData.depthAll (r.map PyData.int)) = 0
    rw [flat r]
    rfl
theorem can_lay : ∀ ns : List Int, PyData.canLayAll0 (ns.map PyData.int) = true
  | [] => rfl
  | n :: r => by simp only [List.map_cons, PyData.canLayAll0, PyData.canLay0, can_lay r, Bool.and_self]
theorem shaped_ints (ns : List Int) : SeqAt.shaped (.list (ns.map PyData.int)) = true := by
  have e : (PyData.list (ns.map PyData.int)).depth = 1 := by
    show PyData.depthAll (ns.map PyData.int) + 1 = 1
    rw [flat]
  have c : (PyData.list (ns.map PyData.int)).canLay0 = true := can_lay ns
  unfold SeqAt.shaped
  rw [c, e]
  rfl
section
variable {P : Program} {w : World} {K : PySem.W.Frag} {mg : Str → Option Value} {base : Heap} {f : Addr} {fd : FuncData}
def spBlk (K : PySem.W.Frag) : Sp := fun vs H Q _ => ∃ (y zp bl dx : Addr) (ps : List Addr) (ns : List Int) (n : Int) (bs : List Blk), vs = [.ref y] ∧ Ly K H y zp bl dx ps ns n bs ∧ ∀ l, H l = none → Q (.ref l) (upd H l (.lst (ps.map V.ref)))
theorem sc_blocks : FnScope ["self"] ["self"] (defScope (inClass (top 34) 7)) := ⟨rfl, rfl, rfl, by decide +kernel, rfl, by decide +kernel, by decide +kernel⟩
theorem ok_blk (T : Tx K mg) (F : FnP K "blocks" "Layout.blocks" (inClass (top 34) 7) f fd) : FnOk P w K mg base CX0 1 f fd ["self"] (spBlk K) := by
  refine F.ok sc_blocks (fun vs H Q E h => ?_) (fun cdv A outer s H vs Q E hr h => ⟨_, PSs.nox (pss_one (ps_ret (pe_callTy call_list_of (by rfl) T.n_list (by decide +kernel) (pa_cons (pe_fld (pv 0) rfl) pa_nil)))), ?_⟩)
  · obtain ⟨y, zp, bl, dx, ps, ns, n, bs, rfl, _⟩ := h
    rfl
  · obtain ⟨y, zp, bl, dx, ps, ns, n, bs, rfl, L, q⟩ := h
    exact ⟨_, rfl, y, _, dx, _, _, rfl, L.at_, T.ly, T.nBL, lay_bl .., bl, _, rfl, .inl (SqL.of L.lst), q⟩
def spSEq (K : PySem.W.Frag) : Sp := fun vs H Q _ => ∃ (p q : Addr) (ns ms : List Int), vs = [.ref p, .ref q] ∧ SzAt (He.ga K "Sizes") H p ns ∧ SzAt (He.ga K "Sizes") H q ms ∧ Q (.bl (decide (ns = ms))) H
theorem sc_Sizes_eq : FnScope ["self", "other"] ["self", "other"] (defScope (inClass (top 19) 5)) := ⟨rfl, rfl, rfl, by decide +kernel, rfl, by decide +kernel, by decide +kernel⟩
theorem ok_seq (T : Tx K mg) (F : FnP K "__eq__" "Sizes.__eq__" (inClass (top 19) 5) f fd) : FnOk P w K mg base CX0 1 f fd ["self", "other"] (spSEq K) := by
  refine F.ok sc_Sizes_eq (fun vs H Q E h => ?_) (fun cdv A outer s H vs Q E hr h => ⟨_, PSs.nox (pss_one (ps_ret (pe_and (pe_callB call_isi (by rfl) T.n_isinstance (by decide +kernel) (pa_cons (pv 1) (pa_cons (pe_glob (v := .ref _) rfl T.g_Sizes rfl) pa_nil))) (pe_one (pe_cmpR (op_eqD hr.units) (pe_fld (pv 0) rfl) (pe_fld (pv 1) rfl) (nomark _)))))), ?_⟩)
  · obtain ⟨p, q, ns, ms, rfl, _⟩ := h
    rfl
  · obtain ⟨p, r, ns, ms, rfl, ⟨dx, l, h1, h2⟩, ⟨dy, m, k1, k2⟩, q⟩ := h
    refine ⟨_, rfl, _, _, _, _, true, rfl, .own _, T.iS.ty k1, T.iS.ki, _, rfl, iteT ?_⟩
    refine ⟨_, rfl, p, _, dx, _, _, rfl, h1, T.cl, T.nSL, szF_get l, _, rfl, r, _, dy, _, _, rfl, k1, T.cl, T.nSL, szF_get m, _, _, .lst (SqL.of h2) (dp_ints ns), .lst (SqL.of k2) (dp_ints ms), shaped_ints _, shaped_ints _, ?_⟩
    show Q (.bl (PyData.eqvAll (ns.map PyData.int) (ms.map PyData.int))) H
    rw [eqv_ints]
    exact q
def spLen (K : PySem.W.Frag) : Sp := fun vs H Q _ => ∃ (p : Addr) (ns : List Int), vs = [.ref p] ∧ SzAt (He.ga K "Sizes") H p ns ∧ Q (.int (ns.length : Nat)) H
theorem sc_Sizes_len : FnScope ["self"] ["self"] (defScope (inClass (top 19) 6)) := ⟨rfl, rfl, rfl, by decide +kernel, rfl, by decide +kernel, by decide +kernel⟩
theorem ok_len (T : Tx K mg) (F : FnP K "__len__" "Sizes.__len__" (inClass (top 19) 6) f fd) : FnOk P w K mg base CX0 1 f fd ["self"] (spLen K) := by
  refine F.ok sc_Sizes_len (fun vs H Q E h => ?_) (fun cdv A outer s H vs Q E hr h => ⟨_, PSs.nox (pss_one (ps_ret (pe_callB call_len_seq (by rfl) T.n_len (by decide +kernel) (pa_cons (pe_fld (pv 0) rfl) pa_nil)))), ?_⟩)
  · obtain ⟨p, ns, rfl, _⟩ := h
    rfl
  · obtain ⟨p, ns, rfl, ⟨dx, l, h1, h2⟩, q⟩ := h
    refine ⟨_, rfl, p, _, dx, _, _, rfl, h1, T.cl, T.nSL, szF_get l, l, _, rfl, .inl (SqL.of h2), ?_⟩
    rw [List.length_map]
    exact q
def spLEq (K : PySem.W.Frag) : Sp := fun vs H Q _ => ∃ (y zp bl dx y2 zp2 bl2 dx2 : Addr) (ps ps2 : List Addr) (ns ns2 : List Int) (n n2 : Int) (bs bs2 : List Blk), vs = [.ref y, .ref y2] ∧ Ly K H y zp bl dx ps ns n bs ∧ Ly K H y2 zp2 bl2 dx2 ps2 ns2 n2 bs2 ∧
  ns = ns2 ∧ n = n2 ∧ Q (.bl (decide (bs = bs2))) H
theorem sc_Layout_eq : FnScope ["self", "other"] ["self", "other"] (defScope (inClass (top 34) 1)) := ⟨rfl, rfl, rfl, by decide +kernel, rfl, by decide +kernel, by decide +kernel⟩
theorem ok_leq (T : Tx K mg) (E_Sizes : EqOf P w K mg base 1 "Sizes" (spSEq K)) (F : FnP K "__eq__" "Layout.__eq__" (inClass (top 34) 1) f fd) : FnOk P w K mg base CX0 2 f fd ["self", "other"] (spLEq K) := by
  refine F.ok sc_Layout_eq (fun vs H Q E h => ?_) (fun cdv A outer s H vs Q E hr h => ⟨_, PSs.nox (pss_one (ps_ret (pe_and (pe_callB call_isi (by rfl) T.n_isinstance (by decide +kernel) (pa_cons (pv 1) (pa_cons (pe_glob (v := .ref _) rfl T.g_Layout rfl) pa_nil))) (pe_and (pe_cmpR (op_own E_Sizes hr) (pe_fld (pv 0) rfl) (pe_fld (pv 1) rfl) (nomark _)) (pe_and (pe_cmpR op_eq (pe_fld (pv 0) rfl) (pe_fld (pv 1) rfl) (nomark _)) (pe_one (pe_cmpR (op_eqD hr.units) (pe_fld (pv 0) rfl) (pe_fld (pv 1) rfl) (nomark _)))))))), ?_⟩)
  · obtain ⟨y, zp, bl, dx, y2, zp2, bl2, dx2, ps, ps2, ns, ns2, n, n2, bs, bs2, rfl, _⟩ := h
    rfl
  · obtain ⟨y, zp, bl, dx, y2, zp2, bl2, dx2, ps, ps2, ns, ns2, n, n2, bs, bs2, rfl, L, L2, rfl, rfl, q⟩ := h
    obtain ⟨dz, l, z1, z2⟩ := id L.szs
    obtain ⟨dz2, l2, z3, z4⟩ := id L2.szs
    refine ⟨_, rfl, _, _, _, _, true, rfl, .own _, T.iL.ty L2.at_, T.iL.ki, _, rfl, iteT ?_⟩
    refine ⟨_, rfl, y, _, dx, _, _, rfl, L.at_, T.ly, T.nST, lay_st .., _, rfl, y2, _, dx2, _, _, rfl, L2.at_, T.ly, T.nST, lay_st .., zp, zp2, dz, dz2, _, _, rfl, rfl, z1, z3, zp, zp2, ns, ns, rfl, L.szs, L2.szs, ⟨_, rfl⟩, _, rfl, ifT (decide_eq_true rfl) ?_⟩
    refine ⟨_, rfl, y, _, dx, _, _, rfl, L.at_, T.ly, T.nCC, lay_cc .., _, rfl, y2, _, dx2, _, _, rfl, L2.at_, T.ly, T.nCC, lay_cc .., rfl, _, rfl, ifT (decide_eq_true rfl) ?_⟩
    refine ⟨_, rfl, y, _, dx, _, _, rfl, L.at_, T.ly, T.nBL, lay_bl .., _, rfl, y2, _, dx2, _, _, rfl, L2.at_, T.ly, T.nBL, lay_bl .., _, _, .lst (SqL.of L.lst) L.rf.dp, .lst (SqL.of L2.lst) L2.rf.dp, shaped_blk _, shaped_blk _, ?_⟩
    show Q (.bl (PyData.eqvAll (bs.map blkD) (bs2.map blkD))) H
    rw [eqv_blks]
    exact q
def spFree (K : PySem.W.Frag) : Sp := fun vs H Q _ => ∃ (y zp bl dx : Addr) (ps : List Addr) (ns : List Int) (n : Int) (bs : List Blk), vs = [.ref y] ∧ Ly K H y zp bl dx ps ns n bs ∧ Q (.int (n - tot ns bs)) H
theorem sc_free : FnScope ["self"] ["self"] (defScope (inClass (top 34) 6)) := ⟨rfl, rfl, rfl, by decide +kernel, rfl, by decide +kernel, by decide +kernel⟩
theorem ok_free (T : Tx K mg) (F : FnP K "free" "Layout.free" (inClass (top 34) 6) f fd) : FnOk P w K mg base CX0 1 f fd ["self"] (spFree K) := by
  refine F.ok sc_free (fun vs H Q E h => ?_) (fun cdv A outer s H vs Q E hr h => ⟨_, PSs.nox (pss_one (ps_ret (pe_fld (pv 0) rfl))), ?_⟩)
  · obtain ⟨y, zp, bl, dx, ps, ns, n, bs, rfl, _⟩ := h
    rfl
  · obtain ⟨y, zp, bl, dx, ps, ns, n, bs, rfl, L, q⟩ := h
    exact ⟨_, rfl, y, _, dx, _, _, rfl, L.at_, T.ly, T.nFC, lay_fc .., q⟩
/-- the free gaps -/
def fgI (ns : List Int) (n : Int) (bs : List Blk) : List (Int × Int) := gapsI n 0 (bs.map (rngB ns))
def spFg (K : PySem.W.Frag) : Sp := fun vs H Q _ => ∃ (y zp bl dx : Addr) (ps : List Addr) (ns : List Int) (n : Int) (bs : List Blk), vs = [.ref y] ∧ Ly K H y zp bl dx ps ns n bs ∧
  ∀ M qs H', H M = none → Same H H' → H' M = some (.lst (qs.map V.ref)) → Refs prV H' qs (fgI ns n bs) → Q (.ref M) H'
theorem sc_free_gaps : FnScope ["self"] ["self"] (defScope (inClass (top 34) 17)) := ⟨rfl, rfl, rfl, by decide +kernel, rfl, by decide +kernel, by decide +kernel⟩
theorem ok_fg (T : Tx K mg) (M_ranges_of : Mf P w K mg base 6 "Layout" "ranges_of" ["self", "blocks"] (spRanges K)) (D_gaps_between : Df P w K mg base 1 "gaps_between" ["ranges", "length"] spGaps) (F : FnP K "free_gaps" "Layout.free_gaps" (inClass (top 34) 17) f fd) :
    FnOk P w K mg base CX0 7 f fd ["self"] (spFg K) := by
  refine F.ok sc_free_gaps (fun vs H Q E h => ?_) (fun cdv A outer s H vs Q E hr h => ⟨_, PSs.nox (pss_one (ps_ret (pcall D_gaps_between hr (pa_cons (pmeth M_ranges_of hr (pv 0) (pa_cons (pe_fld (pv 0) rfl) pa_nil)) (pa_cons (pe_fld (pv 0) rfl) pa_nil))))), ?_⟩)
  · obtain ⟨y, zp, bl, dx, ps, ns, n, bs, rfl, _⟩ := h
    rfl
  · obtain ⟨y, zp, bl, dx, ps, ns, n, bs, rfl, L, q⟩ := h
    refine ⟨_, rfl, y, dx, _, rfl, L.at_, lay_nm (by decide +kernel), _, rfl, y, _, dx, _, _, rfl, L.at_, T.ly, T.nBL, lay_bl .., y, zp, bl, dx, ps, ns, n, bs, bl, ps, bs, rfl, L, L.lst, L.rf, L.ln, (fun b hb => (L.wf.ok b hb).1), fun D rs H1 hD s1 hD1 r1 => ?_⟩
    have L1 := L.same s1
    refine ⟨_, rfl, y, _, dx, _, _, rfl, L1.at_, T.ly, T.nCC, lay_cc .., D, n, rs, _, rfl, hD1, r1, (by rw [List.length_map]; exact L.ln), fun M qs H2 hM s2 h2 r2 => ?_⟩
    exact q M qs H2 (s1.free hM) (s1.trans s2) h2 r2
def spFr (K : PySem.W.Frag) : Sp := fun vs H Q _ => ∃ (y zp bl dx : Addr) (ps : List Addr) (ns : List Int) (n : Int) (bs : List Blk) (k : Nat), vs = [.ref y, .int k] ∧ Ly K H y zp bl dx ps ns n bs ∧ k < ns.length ∧ ∀ H', Same H H' → Q (.int (regI ns k (fgI ns n bs))) H'
theorem fg_ok {ns : List Int} {n : Int} {bs : List Blk} (w : Wf ns n bs) (g : Good ns) : (∀ x ∈ fgI ns n bs, 0 ≤ x.1 ∧ x.1 ≤ x.2) ∧ (fgI ns n bs).length ≤ bs.length + 1 := by
  refine ⟨gaps_ok (Int.le_refl _) fun r hr => ?_, ?_⟩
  · obtain ⟨b, hb, rfl⟩ := List.mem_map.mp hr
    have p := w.pos g hb
    have o := (w.ok b hb).2.1
    show 0 ≤ b.1 + sz ns b.2.1
    omega
  · have h := gaps_len (n := n) (bs.map (rngB ns)) 0
    rw [List.length_map] at h
    exact h
end
end K44

set_option Elab.async false
set_option linter.all false
set_option maxRecDepth 100000
set_option maxHeartbeats 4000000
/-! Own layer: methods with keywords or defaults within a comprehension's block, or with no argument at all. -/
namespace Ex
open PySem PySem.Spec PySem.Calls PyProof.Rows L2 Gu
section
variable {X : Cx} {k j : Nat} {c m : Str} {ps ks : List Str} {dvs : List V} {sp : Sp} {p pos apos : Pos} {e o : Expr} {es : List Expr} {kws : List Keyword} {t tk : TA} {ta : TE} {f : Str}
theorem pmethKB {pl : Sem Bool} {n : Nat} (K : PySem.W.Frag) (D : MfK X.prog X.w X.K X.mg X.base k c m ps n ks sp) (hr : Room j X.A) (he : PE X o ta) (ha : PA X (e :: es) t) (hkw : PK X kws tk) (hj : k ≤ j := by decide) (hK : X.K = K := by rfl)
    (hst : starEach (e :: es) X.env = (false, eval e X.env) :: starEach es X.env := by rfl)
    (hall : (backToKw pos (keywordEach kws X.env)).all (·.1.isSome) = true := by rfl) (hks : (backToKw pos (keywordEach kws X.env)).filterMap (·.1) = ks := by rfl)
    (hpl : ((backTo pos (starEach (e :: es) X.env)).any (·.1) || (backToKw pos (keywordEach kws X.env)).any (·.1.isNone)) = false := by rfl)
    (ht : eval (.Call (.Attribute o m apos) (e :: es) kws pos) X.env = (do
      let ov ← eval o X.env
      standAt apos.atName
      let (f, first) ← holding [ov] (getMethod ov m pl)
      callWith pos f first (backTo pos (starEach (e :: es) X.env)) (backToKw pos (keywordEach kws X.env))) := by rfl) :
    PE X (.Call (.Attribute o m apos) (e :: es) kws pos) (tMethK (He.ga K c) m sp n ks.length ta t tk) := by
  subst hK
  exact pmethK D hr he ha hkw hj hst hall hks hpl ht
theorem pmethDB {pl : Sem Bool} (K : PySem.W.Frag) (D : MfD X.prog X.w X.K X.mg X.base k c m ps dvs sp) (hr : Room j X.A) (he : PE X o ta) (ha : PA X (e :: es) t) (hj : k ≤ j := by decide) (hK : X.K = K := by rfl)
    (hst : starEach (e :: es) X.env = (false, eval e X.env) :: starEach es X.env := by rfl) (hpl : (backTo pos (starEach es X.env)).any (·.1) = false := by rfl)
    (ht : eval (.Call (.Attribute o m apos) (e :: es) [] pos) X.env = (do
      let ov ← eval o X.env
      standAt apos.atName
      let (f, first) ← holding [ov] (getMethod ov m pl)
      callWith pos f first (backTo pos (starEach (e :: es) X.env)) (backToKw pos (keywordEach [] X.env))) := by rfl) :
    PE X (.Call (.Attribute o m apos) (e :: es) [] pos) (tMeth (He.ga K c) m sp dvs E0 ta t) := by
  subst hK
  exact pmethD D hr he ha hj hst hpl ht
theorem pmethD0 {pl : Sem Bool} (D : MfD X.prog X.w X.K X.mg X.base k c m ps dvs sp) (hr : Room j X.A) (he : PE X o ta) (hj : k ≤ j := by decide)
    (ht : eval (.Call (.Attribute o m apos) [] [] pos) X.env = (do
      let ov ← eval o X.env
      standAt apos.atName
      let (f, first) ← holding [ov] (getMethod ov m pl)
      callWith pos f first (backTo pos (starEach [] X.env)) (backToKw pos (keywordEach [] X.env))) := by rfl) :
    PE X (.Call (.Attribute o m apos) [] [] pos) (tMeth (He.ga X.K c) m sp dvs E0 ta tNil) := by
  obtain ⟨fd, ds, F, v, b⟩ := D.ex
  exact pe_meth0 he D.cl D.me F (hr.mono hj) b v pass0 ht
end
/-- the least of a list -/
def mnL : List Int → Int
  | [] => 0
  | [x] => x
  | x :: y :: r => min x (mnL (y :: r))
theorem mnL_ok : ∀ l : List Int, 0 < l.length → mnL l ∈ l ∧ ∀ y ∈ l, mnL l ≤ y
  | [x], _ => ⟨List.mem_singleton.mpr rfl, fun y h => by rw [List.mem_singleton.mp h]; exact Int.le_refl _⟩
  | x :: y :: r, _ => by
    obtain ⟨h1, h2⟩ := mnL_ok (y :: r) (by simp)
    show min x (mnL (y :: r)) ∈ _ ∧ _
    refine ⟨?_, fun z hz => ?_⟩
    · rcases Int.le_total x (mnL (y :: r)) with h | h
      · rw [Int.min_eq_left h]
        exact List.mem_cons_self
      · rw [Int.min_eq_right h]
        exact List.mem_cons_of_mem _ h1
    · show min x (mnL (y :: r)) ≤ z
      rcases List.mem_cons.mp hz with e | e
      · rw [e]
        exact Int.min_le_left _ _
      · exact Int.le_trans (Int.min_le_right _ _) (h2 z e)
theorem mnL_is {l : List Int} {m : Int} (h : m ∈ l) (k : ∀ y ∈ l, m ≤ y) : m = mnL l := by
  obtain ⟨h1, h2⟩ := mnL_ok l (List.length_pos_of_mem h)
  have := k _ h1
  have := h2 _ h
  omega
end Ex

set_option Elab.async false
set_option linter.all false
set_option maxRecDepth 100000
set_option maxHeartbeats 4000000
namespace K44
open PySem PySem.Spec PyProof.Rows L2 Gu Ex
theorem lay_putB (zp bl : Addr) (n fr : Int) (z : Addr) : putF "block_list" (.ref z) (layF zp n fr bl) = layF zp n fr z := by
  have e : (("size_table" : Str) = ("block_list" : Str)) = False := by
    simp only [eq_iff_iff, iff_false]
    decide +kernel
  have e2 : (("cell_count" : Str) = ("block_list" : Str)) = False := by
    simp only [eq_iff_iff, iff_false]
    decide +kernel
  have e3 : (("free_count" : Str) = ("block_list" : Str)) = False := by
    simp only [eq_iff_iff, iff_false]
    decide +kernel
  simp [layF, putF, e, e2, e3]
section
variable {P : Program} {w : World} {K : PySem.W.Frag} {mg : Str → Option Value} {base : Heap} {f : Addr} {fd : FuncData}
def spClone (K : PySem.W.Frag) : Sp := fun vs H Q _ => ∃ (y zp bl dx : Addr) (ps : List Addr) (ns : List Int) (n : Int) (bs : List Blk), vs = [.ref y] ∧ Ly K H y zp bl dx ps ns n bs ∧
  ∀ y2 bl2 dx2 H', H y2 = none → H bl2 = none → Same H H' → Ly K H' y2 zp bl2 dx2 ps ns n bs → Q (.ref y2) H'
theorem Tups.app {H : Hp} {ps qs : List Addr} {ts us : List M16.Run} (h : Tups H ps ts) (h2 : Tups H qs us) : Tups H (ps ++ qs) (ts ++ us) := by
  induction h with
  | nil => exact h2
  | cons a _ ih => exact .cons a ih
/-- the runs of the free gaps -/
def runsI (ns : List Int) (gs : List (Int × Int)) : List M16.Run := gs.flatMap fun g => Rs ns g.2 g.1
theorem runs_len {ns : List Int} (g : Good ns) : ∀ gs : List (Int × Int), (runsI ns gs).length ≤ 16 * gs.length
  | [] => Nat.le_refl _
  | x :: r => by
    have h1 := runs_len g r
    have h2 := M16.R_short (s := sz ns) (a := x.1) (hi := x.2) (chain g) g.len.2
    unfold runsI at h1 ⊢
    rw [List.flatMap_cons, List.length_append, List.length_cons]
    show (M16.R (sz ns) ns.length x.2 x.1).length + _ ≤ _
    omega
def spRuns (K : PySem.W.Frag) : Sp := fun vs H Q _ => ∃ (y zp bl dx : Addr) (ps : List Addr) (ns : List Int) (n : Int) (bs : List Blk), vs = [.ref y] ∧ Ly K H y zp bl dx ps ns n bs ∧
  ∀ R ts H', H R = none → Same H H' → H' R = some (.lst (ts.map V.ref)) → Tups H' ts (runsI ns (fgI ns n bs)) → Q (.ref R) H'
theorem sc_free_runs : FnScope ["self", "runs", "low", "high"] ["self"] (defScope (inClass (top 34) 20)) := ⟨rfl, rfl, rfl, by decide +kernel, rfl, by decide +kernel, by decide +kernel⟩
theorem ok_runs (T : Tx K mg) (M_free_gaps : Mf P w K mg base 7 "Layout" "free_gaps" ["self"] (spFg K)) (D_maximal_runs : Df P w K mg base 9 "maximal_runs" ["sizes", "low", "high"] (spMax K)) (F : FnP K "free_runs" "Layout.free_runs" (inClass (top 34) 20) f fd) : FnOk P w K mg base CX0 10 f fd ["self"] (spRuns K) := by
  refine F.ok sc_free_runs (fun vs H Q E h => ?_) (fun cdv A outer s H vs Q E hr h => ⟨_, PSs.nox (pss_cons (ps_set (i := 1) sc_free_runs.nd rfl (by first | exact Or.inl rfl | exact Or.inr rfl) (pe_lst pa_nil)) (pss_cons (ps_for PassesOwn.never rfl (pi_list (pmeth0 M_free_gaps hr (pv 0))) (pg_tup (by rfl) (pgs_cons (pg_name (i := 2) sc_free_runs.nd rfl (by first | exact Or.inl rfl | exact Or.inr rfl)) (pgs_cons (pg_name (i := 3) sc_free_runs.nd rfl (by first | exact Or.inl rfl | exact Or.inr rfl)) pgs_nil))) (pss_one (ps_expr (pe_bm PySem.F.plainAttrs_list PySem.F.slot_list_extend PySem.F.type_list_extend mt_extend (pv 1) (pa_cons (pcall D_maximal_runs hr (pa_cons (pe_fld (pv 0) rfl) (pa_cons (pv 2) (pa_cons (pv 3) pa_nil)))) pa_nil))))) (pss_one (ps_ret (pv 1))))), ?_⟩)
  · obtain ⟨y, zp, bl, dx, ps, ns, n, bs, rfl, _⟩ := h
    rfl
  · obtain ⟨y, zp, bl, dx, ps, ns, n, bs, rfl, L, q⟩ := h
    have sl : sizeLine = 16777216 := sizeLine_eq
    obtain ⟨f1, f2⟩ := fg_ok L.wf L.gd
    have bn := L.ln
    refine ⟨Nat.zero_le _, fun R hR => ?_⟩
    have s0 : Same H (upd H R (.lst [])) := same_upd hR
    have L0 := L.same s0
    have hR0 : (upd H R (.lst [])) R = some (.lst []) := upd_same
    generalize upd H R (.lst []) = H0 at s0 L0 hR0
    refine ⟨_, rfl, y, dx, _, rfl, L0.at_, lay_nm (by decide +kernel), y, zp, bl, dx, ps, ns, n, bs, rfl, L0, fun M qs H1 hM s1 h1 r1 => ?_⟩
    have nMR : M ≠ R := (ne_of_none hR0 hM).symm
    have pl := r1.len
    refine ⟨M, rfl, ⟨_, SqL.of h1⟩, ?_⟩
    refine for_list (K := K) (a := M) (xs := qs.map V.ref) (fun i σ G => ∃ (ts : List Addr) (x2 x3 : Option V), σ = [some (.ref y), some (.ref R), x2, x3] ∧ (∀ c o, c ≠ R → H1 c = some o → G c = some o) ∧ G R = some (.lst (ts.map V.ref)) ∧ Tups G ts (runsI ns ((fgI ns n bs).take i)))
      ⟨[], none, none, rfl, fun _ _ _ e => e, s1 _ _ hR0, .nil⟩ (fun i σ G _ ⟨_, _, _, _, kp, _⟩ => SqL.of (kp _ _ nMR h1)) ?_ ?_
    · rintro i v σ G hv ⟨ts, x2, x3, rfl, kp, hG, tp⟩
      obtain ⟨p, hp, rfl⟩ := ref_of hv
      obtain ⟨g, hg, hT⟩ := r1.get hp
      have sG : Same H G := fun c o e => kp c o (ne_of_none e hR) (s1 _ _ (s0 c o e))
      have hT' : G p = some (.tup [.int g.1, .int g.2]) := kp _ _ (fun z => by rw [z, s1 _ _ hR0] at hT; cases hT) hT
      have LG := L.same sG
      obtain ⟨g1, g2⟩ := f1 g (List.mem_of_getElem? hg)
      have il := (List.getElem?_eq_some_iff.mp hg).1
      refine ⟨p, _, rfl, .inl (.inl hT'), rfl, _, _, rfl, _, _, rfl, rfl, ?_⟩
      refine ⟨_, rfl, .inl ⟨rfl, _, SqL.of hG⟩, _, rfl, y, _, dx, _, _, rfl, LG.at_, T.ly, T.nST, lay_st .., _, rfl, _, rfl, zp, ns, g.1, g.2, rfl, LG.szs, LG.gd, g1, g2, fun B us G1 hB s2 h2 t2 => ?_⟩
      have l1 := runs_len L.gd ((fgI ns n bs).take i)
      have l2 := M16.R_short (s := sz ns) (a := g.1) (hi := g.2) (chain L.gd) L.gd.len.2
      have e1 := tp.len
      have e2 := t2.len
      rw [List.length_take] at l1
      have e3 : us.length ≤ 16 := by rw [e2]; exact l2
      refine ⟨R, B, _, _, rfl, rfl, s2 _ _ hG, h2, (by rw [List.length_map, List.length_map]; omega), ?_⟩
      have nR : ∀ {c : Addr} {xs : List V}, G1 c = some (.tup xs) → c ≠ R := fun {c xs} e z => by
        rw [z, s2 _ _ hG] at e
        cases e
      refine ⟨ts ++ us, _, _, rfl, fun c o nc e => ?_, ?_, ?_⟩
      · rw [upd_ne nc]
        exact s2 _ _ (kp c o nc e)
      · rw [upd_same, List.map_append]
      · have e4 : runsI ns ((fgI ns n bs).take (i + 1)) = runsI ns ((fgI ns n bs).take i) ++ Rs ns g.2 g.1 := by
          unfold runsI
          rw [take_at hg, List.flatMap_append, List.flatMap_cons, List.flatMap_nil, List.append_nil]
        rw [e4]
        refine ((tp.same s2).app t2).mono fun c xs e => ?_
        rw [upd_ne (nR e)]
        exact e
    · rintro σ G ⟨ts, x2, x3, rfl, kp, hG, tp⟩
      rw [List.length_map, pl, List.take_length] at tp
      exact ⟨_, rfl, q R ts G hR (fun c o e => kp c o (ne_of_none e hR) (s1 _ _ (s0 c o e))) hG tp⟩
def rowsI (ns : List Int) (n : Int) (bs : List Blk) (cs : List Int) (i : Nat) : List Int := (List.range i).map fun k => slkI ns n bs k cs + sz ns k - 1
def lrgI (ns : List Int) (n : Int) (bs : List Blk) (cs : List Int) : Int := if mnL (rowsI ns n bs cs ns.length) > 0 then mnL (rowsI ns n bs cs ns.length) else 0
def spLarge (K : PySem.W.Frag) : Sp := fun vs H Q _ => ∃ (y zp bl dx : Addr) (ps : List Addr) (ns : List Int) (n : Int) (bs : List Blk) (a : Addr) (cs : List Int), vs = [.ref y, .ref a] ∧ Ly K H y zp bl dx ps ns n bs ∧ Kept K H a cs ∧ (∀ c ∈ cs, 1 ≤ c ∧ c ≤ 1000000000000) ∧ cs.length ≤ 1000 ∧ ∀ H', Same H H' → Q (.int (lrgI ns n bs cs)) H'
theorem sc_largest : FnScope ["self", "kept", "most", "level"] ["self", "kept"] (defScope (inClass (top 34) 29)) := ⟨rfl, rfl, rfl, by decide +kernel, rfl, by decide +kernel, by decide +kernel⟩
theorem ok_large {z0 : Addr} (T : Tx K mg) (M_len : Mf P w K mg base 1 "Sizes" "__len__" ["self"] (spLen K)) (M_slack_kw : MfK P w K mg base 10 "Layout" "slack" ["self", "level", "kept"] 2 ["kept"] (spSlack K)) (M_size : Mf P w K mg base 5 "Sizes" "size" ["self", "level"] (spSize K))
    (F : FnK K "largest" "Layout.largest" (inClass (top 34) 29) [("kept", .ref z0)] f fd) : FnOk P w K mg base CX0 11 f fd ["self", "kept"] (spLarge K) := by
  refine F.ok sc_largest (fun vs H Q E h => ?_) (fun cdv A outer s H vs Q E hr h => ⟨_, PSs.nox (pss_cons (ps_setLc (i := 2) (own := [("level", 3)]) (g := gName 3) rfl sc_largest.nd rfl rfl (sw_true rfl rfl rfl (by decide +kernel)) (pi_range1 rfl T.n_range (pa_cons (pe_callB (call_lenO M_len hr) (by rfl) T.n_len (by decide +kernel) (pa_cons (pe_fld (pv 0) rfl) pa_nil)) pa_nil)) (blkOk_by (own := [("level", 3)]) (N := ["self", "kept", "most", "level"]) (sc := defScope (inClass (top 34) 29)) (by decide +kernel)) (fun _ _ _ _ _ => pg_name (i := 3) sc_largest.nd rfl (Or.inl rfl)) (fun _ _ _ _ _ => pts_nil) (fun _ _ _ _ _ => (pe_op op_sub (pe_op op_add (pmethKB K M_slack_kw hr (pv 0) (pa_cons (pv 3) pa_nil) (pk_cons (pv 1) pk_nil)) (pmethB K M_size hr (pfldB K (pv 0)) (pa_cons (pv 3) pa_nil))) pe_int))) (pss_one (ps_ret (pe_callB (call_max2 rfl) (by rfl) T.n_max (by decide +kernel) (pa_cons pe_int (pa_cons (pe_callB (cr_min rfl) (by rfl) T.n_min (by decide +kernel) (pa_cons (pv 2) pa_nil)) pa_nil)))))), ?_⟩)
  · obtain ⟨y, zp, bl, dx, ps, ns, n, bs, a, cs, rfl, _⟩ := h
    rfl
  · obtain ⟨y, zp, bl, dx, ps, ns, n, bs, a, cs, rfl, L, kp, rg, cl, q⟩ := h
    have sl : sizeLine = 16777216 := sizeLine_eq
    obtain ⟨dz, l, z1, z2⟩ := id L.szs
    have l8 := L.gd.len
    refine ⟨_, rfl, y, _, dx, _, _, rfl, L.at_, T.ly, T.nST, lay_st .., zp, dz, _, rfl, z1, zp, ns, rfl, L.szs, ns.length, rfl, by omega, _, rfl, by omega, by omega, fun D hD => ?_⟩
    refine lc_range (fun i G => G D = some (.lst ((rowsI ns n bs cs i).map V.int)) ∧ Same H G) ⟨upd_same, same_upd hD⟩ ?_ ?_
    · rintro i G hi ⟨hG, sm⟩
      rw [Int.toNat_natCast] at hi
      rw [Int.zero_add]
      have LG := L.same sm
      refine ⟨rfl, _, rfl, y, dx, _, rfl, LG.at_, lay_nm (by decide +kernel), _, rfl, _, rfl, rfl, rfl, y, zp, bl, dx, ps, ns, n, bs, i, a, cs, rfl, LG, hi, kp.same sm, rg, cl, fun G1 s1 => ?_⟩
      have L1 := LG.same s1
      obtain ⟨dz, l, z1, z2⟩ := id L1.szs
      refine ⟨_, rfl, y, _, dx, _, _, rfl, L1.at_, T.ly, T.nST, lay_st .., zp, dz, _, rfl, z1, szF_no l (by decide +kernel), _, rfl, zp, ns, i, _, rfl, L1.szs, sz_at hi, _, _, rfl, rfl, _, _, rfl, rfl, _, s1 _ _ hG, ?_, ?_, fun c o e => ?_⟩
      · unfold rowsI
        rw [List.length_map, List.length_map, List.length_range]
        omega
      · unfold rowsI
        rw [upd_same, List.range_succ, List.map_append, List.map_append]
        rfl
      · rw [upd_ne (ne_of_none e hD)]
        exact s1 _ _ (sm c o e)
    · rintro G ⟨hG, sm⟩
      rw [Int.toNat_natCast] at hG
      refine ⟨_, rfl, D, _, rfl, SqL.of hG, (by unfold rowsI; rw [List.length_map, List.length_range]; omega), fun m h1 h2 => ?_⟩
      obtain rfl := mnL_is h1 h2
      exact ⟨_, _, rfl, q G sm⟩
end
end K44

set_option Elab.async false
set_option linter.all false
set_option maxRecDepth 100000
set_option maxHeartbeats 4000000
namespace K44
open PySem PySem.Spec PyProof.Rows L2 Gu Ex
def cn (p : Nat → Bool) : Nat → Nat
  | 0 => 0
  | m + 1 => cn p m + (if p m = true then 1 else 0)
theorem cn_congr {p q : Nat → Bool} : ∀ {m : Nat}, (∀ i, i < m → p i = q i) → cn p m = cn q m
  | 0, _ => rfl
  | m + 1, h => by
    show cn p m + _ = cn q m + _
    rw [cn_congr (m := m) fun i hi => h i (by omega), h m (by omega)]
theorem cn_or {p q r : Nat → Bool} : ∀ {m : Nat}, (∀ i, i < m → p i = (q i || r i)) → (∀ i, i < m → q i = true → r i = false) → cn p m = cn q m + cn r m
  | 0, _, _ => rfl
  | m + 1, h, h2 => by
    show cn p m + _ = (cn q m + _) + (cn r m + _)
    rw [cn_or (m := m) (fun i hi => h i (by omega)) (fun i hi => h2 i (by omega)), h m (by omega)]
    have h3 := h2 m (by omega)
    cases e : q m with
    | true =>
      rw [h3 e]
      simp
      omega
    | false =>
      simp
      omega
theorem cn_le {p q : Nat → Bool} : ∀ {m : Nat}, (∀ i, i < m → p i = true → q i = true) → cn p m ≤ cn q m
  | 0, _ => Nat.le_refl _
  | m + 1, h => by
    show cn p m + _ ≤ cn q m + _
    have ih := cn_le (m := m) fun i hi => h i (by omega)
    have h3 := h m (by omega)
    cases e : p m with
    | true =>
      rw [h3 e]
      simp
      omega
    | false =>
      simp
      omega
theorem cn_zero {p : Nat → Bool} : ∀ {m : Nat}, (∀ i, i < m → p i = false) → cn p m = 0
  | 0, _ => rfl
  | m + 1, h => by
    show cn p m + _ = 0
    rw [cn_zero (m := m) fun i hi => h i (by omega), h m (by omega)]
    rfl
theorem cn_seg {A B : Int} (hA : 0 ≤ A) : ∀ m : Nat, ((cn (fun i => decide (A ≤ (i : Int)) && decide ((i : Int) < B)) m : Nat) : Int) = if min B (m : Int) - A > 0 then min B (m : Int) - A else 0
  | 0 => by
    show (0 : Int) = _
    rw [if_neg (by omega)]
  | m + 1 => by
    show ((cn _ m + _ : Nat) : Int) = _
    rw [Int.natCast_add, cn_seg hA m]
    by_cases h1 : A ≤ (m : Int)
    · by_cases h2 : (m : Int) < B
      · rw [if_pos (show (decide (A ≤ (m : Int)) && decide ((m : Int) < B)) = true by rw [decide_eq_true h1, decide_eq_true h2]; rfl)]
        split <;> split <;> omega
      · rw [if_neg (show ¬ (decide (A ≤ (m : Int)) && decide ((m : Int) < B)) = true by rw [decide_eq_false h2, Bool.and_false]; exact Bool.false_ne_true)]
        split <;> split <;> omega
    · rw [if_neg (show ¬ (decide (A ≤ (m : Int)) && decide ((m : Int) < B)) = true by rw [decide_eq_false h1, Bool.false_and]; exact Bool.false_ne_true)]
      split <;> split <;> omega
theorem up_iff {s b i : Int} (hs : 1 ≤ s) : M15.C s b ≤ i ↔ b ≤ i * s := by
  unfold M15.C
  have h : (b + s - 1) / s < i + 1 ↔ b + s - 1 < (i + 1) * s := Int.ediv_lt_iff_lt_mul (by omega)
  rw [Int.add_mul, Int.one_mul] at h
  omega
theorem dn_iff {s e i : Int} (hs : 1 ≤ s) : i < e / s ↔ i * s + s ≤ e := by
  have h : i + 1 ≤ e / s ↔ (i + 1) * s ≤ e := Int.le_ediv_iff_mul_le (by omega)
  rw [Int.add_mul, Int.one_mul] at h
  omega
def inG (s lo hi : Int) (i : Nat) : Bool := decide (lo ≤ (i : Int) * s) && decide ((i : Int) * s + s ≤ hi)
theorem cntI_is {s a b : Int} (hs : 1 ≤ s) : cntI s a b = M15.cntM s a b := by
  unfold cntI M15.cntM nextI
  rw [M15.quot_is hs]
theorem inG_cn {s lo hi : Int} {m : Nat} (hs : 1 ≤ s) (h0 : 0 ≤ lo) (hm : hi / s ≤ (m : Int)) : ((cn (inG s lo hi) m : Nat) : Int) = cntI s lo hi := by
  have e : cn (inG s lo hi) m = cn (fun i => decide (M15.C s lo ≤ (i : Int)) && decide ((i : Int) < hi / s)) m := cn_congr fun i _ => by
    unfold inG
    rw [decide_eq_decide.mpr (up_iff (b := lo) (i := (i : Int)) hs), decide_eq_decide.mpr (dn_iff (e := hi) (i := (i : Int)) hs)]
  have c0 : 0 ≤ M15.C s lo := by
    unfold M15.C
    exact Int.ediv_nonneg (by omega) (by omega)
  rw [e, cn_seg c0, cntI_is hs, show min (hi / s) (m : Int) = hi / s by omega]
  rfl
def Ord (n : Int) : Int → List (Int × Int) → Prop
  | low, [] => low ≤ n
  | low, r :: rs => low ≤ r.1 ∧ r.1 ≤ r.2 ∧ Ord n r.2 rs
theorem Ord.le {n : Int} : ∀ {rs : List (Int × Int)} {low : Int}, Ord n low rs → low ≤ n ∧ ∀ r ∈ rs, low ≤ r.1
  | [], low, h => ⟨h, fun _ m => nomatch m⟩
  | r :: rs, low, ⟨h1, h2, h3⟩ => by
    obtain ⟨i1, i2⟩ := Ord.le h3
    refine ⟨by omega, fun x hx => ?_⟩
    rcases List.mem_cons.mp hx with e | e
    · rw [e]; exact h1
    · have := i2 x e
      omega
def offR (s : Int) (i : Nat) (r : Int × Int) : Bool := decide ((i : Int) * s + s ≤ r.1) || decide (r.2 ≤ (i : Int) * s)
theorem gaps_cn {n s : Int} {m : Nat} (hs : 1 ≤ s) (hm : n / s ≤ (m : Int)) : ∀ {rs : List (Int × Int)} {low : Int}, 0 ≤ low → Ord n low rs → ((gapsI n low rs).map fun g => cntI s g.1 g.2).sum = ((cn (fun i => inG s low n i && rs.all (offR s i)) m : Nat) : Int)
  | [], low, h0, ho => by
    have e : cn (fun i => inG s low n i && ([] : List (Int × Int)).all (offR s i)) m = cn (inG s low n) m := cn_congr fun i _ => by simp
    rw [e]
    show ((if low < n then [(low, n)] else []).map fun g => cntI s g.1 g.2).sum = _
    by_cases hc : low < n
    · rw [if_pos hc, inG_cn hs h0 hm]
      simp
    · rw [if_neg hc, cn_zero fun i _ => ?_]
      · rfl
      · unfold inG
        by_cases h1 : low ≤ (i : Int) * s
        · rw [decide_eq_false (show ¬ (i : Int) * s + s ≤ n by have : low ≤ n := ho; omega), Bool.and_false]
        · rw [decide_eq_false h1, Bool.false_and]
  | r :: rs, low, h0, ⟨h1, h2, h3⟩ => by
    obtain ⟨o1, o2⟩ := Ord.le h3
    have ih := gaps_cn hs hm (rs := rs) (low := r.2) (by omega) h3
    have dv : r.1 / s ≤ (m : Int) := Int.le_trans (Int.ediv_le_ediv (by omega) (by omega)) hm
    have spl : cn (fun i => inG s low n i && (r :: rs).all (offR s i)) m = cn (inG s low r.1) m + cn (fun i => inG s r.2 n i && rs.all (offR s i)) m := by
      refine cn_or (fun i _ => ?_) (fun i _ hq => ?_)
      · by_cases ha : (i : Int) * s + s ≤ r.1
        · have al : rs.all (offR s i) = true := List.all_eq_true.mpr fun x hx => by
            have := o2 x hx
            unfold offR
            rw [decide_eq_true (show (i : Int) * s + s ≤ x.1 by omega)]
            rfl
          rw [List.all_cons, al]
          unfold inG offR
          rw [decide_eq_true ha, decide_eq_true (show (i : Int) * s + s ≤ n by omega), decide_eq_false (show ¬ r.2 ≤ (i : Int) * s by omega)]
          simp
        · rw [List.all_cons]
          unfold inG offR
          rw [decide_eq_false ha]
          by_cases hb : r.2 ≤ (i : Int) * s
          · rw [decide_eq_true hb, decide_eq_true (show low ≤ (i : Int) * s by omega)]
            simp
          · rw [decide_eq_false hb]
            simp
      · unfold inG at hq ⊢
        have : (i : Int) * s + s ≤ r.1 := by
          have := (Bool.and_eq_true _ _ ▸ hq : _ ∧ _).2
          exact of_decide_eq_true this
        rw [decide_eq_false (show ¬ r.2 ≤ (i : Int) * s by omega)]
        simp
    rw [spl, Int.natCast_add, inG_cn hs h0 dv, ← ih]
    show (((if low < r.1 then [(low, r.1)] else []) ++ gapsI n r.2 rs).map fun g => cntI s g.1 g.2).sum = _
    rw [List.map_append, List.sum_append_int]
    by_cases hc : low < r.1
    · rw [if_pos hc]
      simp
    · rw [if_neg hc]
      have z : cntI s low r.1 = 0 := by
        rw [← inG_cn (m := m) hs h0 dv, cn_zero fun i _ => ?_]
        · rfl
        · unfold inG
          by_cases h4 : low ≤ (i : Int) * s
          · rw [decide_eq_false (show ¬ (i : Int) * s + s ≤ r.1 by omega), Bool.and_false]
          · rw [decide_eq_false h4, Bool.false_and]
      rw [z]
      rfl
end K44

set_option Elab.async false
set_option linter.all false
set_option maxRecDepth 100000
set_option maxHeartbeats 4000000
namespace K44
open PySem PySem.Spec PyProof.Rows L2 Gu Ex
theorem cntC_cn (ns : List Int) (bs : List Blk) (k : Nat) : ∀ m, cntC ns bs k m = cn (clearAt ns bs k) m
  | 0 => rfl
  | m + 1 => by
    rw [cntC_succ, cntC_cn ns bs k m]
    rfl
theorem ord_pin {ns : List Int} {n : Int} : ∀ {bs : List Blk} {low : Int}, (∀ b ∈ bs, low ≤ b.1 ∧ b.1 ≤ bEnd ns b ∧ bEnd ns b ≤ n) → bs.Pairwise (fun b c => bEnd ns b ≤ c.1) → low ≤ n → Ord n low (pinR ns bs)
  | [], low, _, _, h => h
  | b :: bs, low, h1, h2, h3 => by
    have p := List.pairwise_cons.mp h2
    have hb := h1 b List.mem_cons_self
    have rest := fun lo (hl : ∀ c ∈ bs, lo ≤ c.1) (hn : lo ≤ n) => ord_pin (ns := ns) (n := n) (bs := bs) (low := lo) (fun c hc => ⟨hl c hc, (h1 c (List.mem_cons_of_mem _ hc)).2⟩) p.2 hn
    unfold pinR
    cases e : b.2.2 with
    | true =>
      rw [List.filter_cons_of_pos (p := fun b : Blk => b.2.2) (a := b) e, List.map_cons]
      exact ⟨hb.1, hb.2.1, rest _ (fun c hc => p.1 c hc) hb.2.2⟩
    | false =>
      rw [List.filter_cons_of_neg (p := fun b : Blk => b.2.2) (a := b) (by rw [e]; exact Bool.false_ne_true)]
      exact rest _ (fun c hc => (h1 c (List.mem_cons_of_mem _ hc)).1) h3
theorem clear_pin {ns : List Int} {s : Int} {i : Nat} : ∀ bs : List Blk, clearB ns bs ((i : Int) * s) ((i : Int) * s + s) = (pinR ns bs).all (offR s i)
  | [] => rfl
  | b :: bs => by
    have ih := clear_pin (ns := ns) (s := s) (i := i) bs
    unfold clearB at ih ⊢
    unfold pinR at ih ⊢
    rw [List.all_cons, ih]
    cases e : b.2.2 with
    | true =>
      rw [List.filter_cons_of_pos (p := fun b : Blk => b.2.2) (a := b) e, List.map_cons, List.all_cons]
      congr 1
      unfold hitB offR rngB
      rw [e]
      by_cases h1 : b.1 < (i : Int) * s + s
      · by_cases h2 : (i : Int) * s < bEnd ns b
        · rw [decide_eq_true h1, decide_eq_true h2, decide_eq_false (show ¬ (i : Int) * s + s ≤ b.1 by omega), decide_eq_false (show ¬ bEnd ns b ≤ (i : Int) * s by omega)]
          rfl
        · rw [decide_eq_true h1, decide_eq_false h2, decide_eq_true (show bEnd ns b ≤ (i : Int) * s by omega), Bool.or_true]
          rfl
      · rw [decide_eq_false h1, decide_eq_true (show (i : Int) * s + s ≤ b.1 by omega)]
        rfl
    | false =>
      rw [List.filter_cons_of_neg (by rw [e]; exact Bool.false_ne_true)]
      unfold hitB
      rw [e]
      simp
section
variable {ns : List Int} {n : Int} {bs : List Blk} {k : Nat}
theorem clr_due (w : Wf ns n bs) (g : Good ns) (hk : k < ns.length) (n1 : 0 ≤ n) : clrI ns n bs k = dueI ns n bs k := by
  have hs := (chain g).pos k hk
  have q0 : 0 ≤ n / sz ns k := Int.ediv_nonneg n1 (by omega)
  have hm : n / sz ns k ≤ (((n / sz ns k).toNat : Nat) : Int) := by omega
  have od : Ord n 0 (pinR ns bs) := ord_pin (fun b hb => ⟨(w.ok b hb).2.1, (by
    have := w.pos g hb
    unfold bEnd
    omega), (w.ok b hb).2.2.2⟩) w.so n1
  unfold clrI regI dueI
  rw [gaps_cn hs hm (Int.le_refl _) od, Int.mul_comm, cntC_cn]
  congr 2
  refine cn_congr fun i hi => ?_
  unfold clearAt
  rw [clear_pin bs]
  have h1 : (i : Int) * sz ns k + sz ns k ≤ n := (dn_iff hs).mp (by omega)
  have h2 : 0 ≤ (i : Int) * sz ns k := Int.mul_nonneg (by omega) (by omega)
  unfold inG
  rw [decide_eq_true h1, decide_eq_true h2]
  rfl
def inB (ns : List Int) (k i : Nat) (b : Blk) : Bool := (!b.2.2 && decide (k ≤ b.2.1)) && inG (sz ns k) b.1 (bEnd ns b) i
theorem one_cn {b : Blk} {m : Nat} (g : Good ns) (hk : k ≤ b.2.1) (hb : b.2.1 < ns.length) (h0 : 0 ≤ b.1) (hd : sz ns b.2.1 ∣ b.1) (hm : bEnd ns b / sz ns k ≤ (m : Int)) : sz ns k * ((cn (inG (sz ns k) b.1 (bEnd ns b)) m : Nat) : Int) = sz ns b.2.1 := by
  have hs := (chain g).pos k (by omega)
  have hz := (chain g).pos b.2.1 hb
  have dz := (chain g).dvd hk hb
  obtain ⟨q, hq⟩ := Int.dvd_trans dz hd
  obtain ⟨t, ht⟩ := dz
  have eC : M15.C (sz ns k) b.1 = q := by
    have := M15.C_of (s := sz ns k) (x := b.1) (q := q) (r := 0) hs (by omega) (by omega) (by omega)
    rw [this, if_pos rfl]
  have eE : bEnd ns b / sz ns k = q + t := M15.div_is (r := 0) (by unfold bEnd; rw [hq, ht, Int.mul_add]; omega) (by omega) (by omega)
  have t1 : 0 < t := by
    rcases Int.lt_or_le 0 t with h | h
    · exact h
    · have := Int.mul_le_mul_of_nonneg_left h (show 0 ≤ sz ns k by omega)
      rw [Int.mul_zero] at this
      omega
  rw [inG_cn hs h0 hm, cntI_is hs]
  unfold M15.cntM
  rw [eC, eE, show q + t - q = t by omega, if_pos t1, ht]
theorem lse_cn {m : Nat} (g : Good ns) (hk : k < ns.length) (hm : n / sz ns k ≤ (m : Int)) : ∀ {bs : List Blk}, (∀ b ∈ bs, b.2.1 < ns.length ∧ 0 ≤ b.1 ∧ sz ns b.2.1 ∣ b.1 ∧ bEnd ns b ≤ n) → bs.Pairwise (fun b c => bEnd ns b ≤ c.1) → lseI ns bs k = sz ns k * ((cn (fun i => bs.any (inB ns k i)) m : Nat) : Int)
  | [], _, _ => by
    rw [cn_zero (p := fun i => ([] : List Blk).any (inB ns k i)) fun i _ => rfl]
    simp [lseI, unpB]
  | b :: bs, h, hp => by
    have hs := (chain g).pos k hk
    have p := List.pairwise_cons.mp hp
    have hb := h b List.mem_cons_self
    have ih := lse_cn g hk hm (bs := bs) (fun c hc => h c (List.mem_cons_of_mem _ hc)) p.2
    have spl : cn (fun i => (b :: bs).any (inB ns k i)) m = cn (fun i => inB ns k i b) m + cn (fun i => bs.any (inB ns k i)) m := by
      refine cn_or (fun i _ => List.any_cons) (fun i _ hq => ?_)
      have h1 : (i : Int) * sz ns k + sz ns k ≤ bEnd ns b := by
        unfold inB inG at hq
        simp at hq
        exact hq.2.2
      cases e : bs.any (inB ns k i) with
      | false => rfl
      | true =>
        obtain ⟨c, hc, hi⟩ := List.any_eq_true.mp e
        have := p.1 c hc
        unfold inB inG at hi
        simp at hi
        have h2 : c.1 ≤ (i : Int) * sz ns k := hi.2.1
        omega
    rw [spl, Int.natCast_add, Int.mul_add, ← ih]
    by_cases hc : b.2.2 = false ∧ k ≤ b.2.1
    · have e1 : cn (fun i => inB ns k i b) m = cn (inG (sz ns k) b.1 (bEnd ns b)) m := cn_congr fun i _ => by
        unfold inB
        rw [hc.1, decide_eq_true hc.2]
        rfl
      have dv : bEnd ns b / sz ns k ≤ (m : Int) := Int.le_trans (Int.ediv_le_ediv (by omega) hb.2.2.2) hm
      rw [e1, one_cn g hc.2 hb.1 hb.2.1 hb.2.2.1 dv]
      unfold lseI unpB
      rw [List.filter_cons_of_pos (by rw [hc.1]; rfl), List.filter_cons_of_pos (p := fun b : Blk => decide (k ≤ b.2.1)) (a := b) (decide_eq_true hc.2), List.map_cons, List.sum_cons]
    · have e1 : cn (fun i => inB ns k i b) m = 0 := cn_zero fun i _ => by
        unfold inB
        cases e : b.2.2 with
        | true => rfl
        | false =>
          rw [decide_eq_false (fun z => hc ⟨e, z⟩)]
          rfl
      rw [e1]
      unfold lseI unpB
      cases e : b.2.2 with
      | true =>
        rw [List.filter_cons_of_neg (by rw [e]; exact Bool.false_ne_true)]
        simp
      | false =>
        rw [List.filter_cons_of_pos (by rw [e]; rfl), List.filter_cons_of_neg (by rw [decide_eq_false (fun z => hc ⟨e, z⟩)]; exact Bool.false_ne_true)]
        simp
theorem lse_le (w : Wf ns n bs) (g : Good ns) (hk : k < ns.length) (n1 : 0 ≤ n) : lseI ns bs k ≤ dueI ns n bs k ∧ (dueI ns n bs k - lseI ns bs k) % sz ns k = 0 := by
  have hs := (chain g).pos k hk
  have q0 : 0 ≤ n / sz ns k := Int.ediv_nonneg n1 (by omega)
  have hm : n / sz ns k ≤ (((n / sz ns k).toNat : Nat) : Int) := by omega
  rw [lse_cn g hk hm w.ok w.so]
  unfold dueI
  rw [cntC_cn]
  refine ⟨?_, ?_⟩
  · refine Int.mul_le_mul_of_nonneg_left (Int.ofNat_le.mpr (cn_le fun i _ hq => ?_)) (by omega)
    obtain ⟨b, hb, hi⟩ := List.any_eq_true.mp hq
    unfold inB inG at hi
    simp at hi
    obtain ⟨⟨hu, _⟩, hi1, hi2⟩ := hi
    unfold clearAt clearB
    refine List.all_eq_true.mpr fun c hc => ?_
    unfold hitB
    cases ec : c.2.2 with
    | false => rfl
    | true =>
      obtain ⟨x, hx, ex⟩ := List.mem_iff_getElem.mp hb
      obtain ⟨y, hy, ey⟩ := List.mem_iff_getElem.mp hc
      have ne : x ≠ y := fun z => by
        subst z
        rw [ex] at ey
        rw [← ey, hu] at ec
        cases ec
      have pw := List.pairwise_iff_getElem.mp w.so
      rcases Nat.lt_or_gt_of_ne ne with hlt | hlt
      · have := pw x y hx hy hlt
        rw [ex, ey] at this
        rw [decide_eq_false (show ¬ c.1 < (i : Int) * sz ns k + sz ns k by omega)]
        rfl
      · have := pw y x hy hx hlt
        rw [ex, ey] at this
        rw [decide_eq_false (show ¬ (i : Int) * sz ns k < bEnd ns c by omega), Bool.and_false]
        rfl
  · rw [← Int.mul_sub]
    exact Int.mul_emod_right _ _
end
end K44

set_option Elab.async false
set_option linter.all false
set_option maxRecDepth 100000
set_option maxHeartbeats 4000000
namespace K44
open PySem PySem.Spec PyProof.Rows L2 Gu Ex
theorem mul_step {s p q : Int} (hs : 1 ≤ s) (h : s * p < s * q + s) : s * p ≤ s * q := by
  rcases Int.lt_or_le q p with h1 | h1
  · have := Int.mul_le_mul_of_nonneg_left (show q + 1 ≤ p by omega) (show 0 ≤ s by omega)
    rw [Int.mul_add, Int.mul_one] at this
    omega
  · exact Int.mul_le_mul_of_nonneg_left h1 (by omega)
theorem div_iff {s x i : Int} (hs : 1 ≤ s) : x / s = i ↔ i * s ≤ x ∧ x < i * s + s := by
  have h1 : i ≤ x / s ↔ i * s ≤ x := Int.le_ediv_iff_mul_le (by omega)
  have h2 : x / s < i + 1 ↔ x < (i + 1) * s := Int.ediv_lt_iff_lt_mul (by omega)
  rw [Int.add_mul, Int.one_mul] at h2
  omega
/-- does b touch the region i of size s -/
def hitN (ns : List Int) (s : Int) (i : Nat) (b : Blk) : Bool := decide (b.1 < (i : Int) * s + s) && decide ((i : Int) * s < bEnd ns b)
theorem hitN_iff {ns : List Int} {s : Int} {i : Nat} {b : Blk} : hitN ns s i b = true ↔ b.1 < (i : Int) * s + s ∧ (i : Int) * s < bEnd ns b := by
  unfold hitN
  simp
theorem inG_iff {s lo hi : Int} {i : Nat} : inG s lo hi i = true ↔ lo ≤ (i : Int) * s ∧ (i : Int) * s + s ≤ hi := by
  unfold inG
  simp
section
variable {ns : List Int} {n : Int} {bs : List Blk} {k : Nat} {b : Blk} {i : Nat}
theorem hit_large (g : Good ns) (hk : k ≤ b.2.1) (hb : b.2.1 < ns.length) (hd : sz ns b.2.1 ∣ b.1) : hitN ns (sz ns k) i b = inG (sz ns k) b.1 (bEnd ns b) i := by
  have hs := (chain g).pos k (by omega)
  have dz := (chain g).dvd hk hb
  obtain ⟨q, hq⟩ := Int.dvd_trans dz hd
  obtain ⟨t, ht⟩ := dz
  have e1 : bEnd ns b = sz ns k * (q + t) := by
    unfold bEnd
    rw [hq, ht, Int.mul_add]
  have e2 : (i : Int) * sz ns k = sz ns k * (i : Int) := Int.mul_comm _ _
  refine Bool.eq_iff_iff.mpr (hitN_iff.trans (Iff.trans ?_ inG_iff.symm))
  rw [e1, hq, e2]
  have e3 : sz ns k * (i : Int) + sz ns k = sz ns k * ((i : Int) + 1) := by rw [Int.mul_add, Int.mul_one]
  refine ⟨fun ⟨h1, h2⟩ => ⟨mul_step hs h1, ?_⟩, fun ⟨h1, h2⟩ => ⟨by omega, by omega⟩⟩
  rw [e3]
  refine mul_step hs ?_
  rw [Int.mul_add, Int.mul_one]
  omega
theorem hit_small (g : Good ns) (hk : b.2.1 ≤ k) (hkl : k < ns.length) (hd : sz ns b.2.1 ∣ b.1) : hitN ns (sz ns k) i b = decide (b.1 / sz ns k = (i : Int)) := by
  have hs := (chain g).pos k hkl
  have hz := (chain g).pos b.2.1 (by omega)
  obtain ⟨t, ht⟩ := (chain g).dvd hk hkl
  obtain ⟨q, hq⟩ := hd
  refine Bool.eq_iff_iff.mpr (hitN_iff.trans (Iff.trans ?_ decide_eq_true_iff.symm))
  rw [div_iff hs]
  unfold bEnd
  refine ⟨fun ⟨h1, h2⟩ => ⟨?_, h1⟩, fun ⟨h1, h2⟩ => ⟨h2, by omega⟩⟩
  have e : (i : Int) * sz ns k = sz ns b.2.1 * ((i : Int) * t) := by
    rw [ht, ← Int.mul_assoc, Int.mul_comm (i : Int), Int.mul_assoc]
  rw [e] at h2 ⊢
  rw [hq] at h2 ⊢
  exact mul_step hz h2
theorem cn_not (p : Nat → Bool) : ∀ m, cn p m + cn (fun i => !p i) m = m
  | 0 => rfl
  | m + 1 => by
    have ih := cn_not p m
    show (cn p m + (if p m = true then 1 else 0)) + (cn (fun i => !p i) m + (if (!p m) = true then 1 else 0)) = m + 1
    cases e : p m with
    | true =>
      rw [if_pos rfl, if_neg (by decide)]
      omega
    | false =>
      rw [if_neg (by decide), if_pos (by decide)]
      omega
theorem cn_eq {x : Int} {m : Nat} (h0 : 0 ≤ x) (h1 : x < (m : Int)) : cn (fun i => decide (x = (i : Int))) m = 1 := by
  have e : cn (fun i => decide (x = (i : Int))) m = cn (fun i => decide (x ≤ (i : Int)) && decide ((i : Int) < x + 1)) m := cn_congr fun i _ => by
    by_cases h : x = (i : Int)
    · rw [decide_eq_true h, decide_eq_true (show x ≤ (i : Int) by omega), decide_eq_true (show (i : Int) < x + 1 by omega)]
      rfl
    · rw [decide_eq_false h]
      by_cases h2 : x ≤ (i : Int)
      · rw [decide_eq_false (show ¬ (i : Int) < x + 1 by omega), Bool.and_false]
      · rw [decide_eq_false h2]
        rfl
  have h := cn_seg (A := x) (B := x + 1) h0 m
  rw [← e] at h
  rw [if_pos (by omega)] at h
  omega
theorem cn_eq_le {x : Int} : ∀ m : Nat, cn (fun i => decide (x = (i : Int))) m ≤ 1 := fun m => by
  by_cases h : 0 ≤ x ∧ x < (m : Int)
  · rw [cn_eq h.1 h.2]
    exact Nat.le_refl _
  · rw [cn_zero fun i hi => decide_eq_false (by omega)]
    exact Nat.zero_le _
theorem cn_mem {m : Nat} : ∀ {D : List Int}, D.Nodup → (∀ x ∈ D, 0 ≤ x ∧ x < (m : Int)) → cn (fun i => decide ((i : Int) ∈ D)) m = D.length
  | [], _, _ => cn_zero fun i _ => by simp
  | x :: D, hn, h => by
    have p := List.nodup_cons.mp hn
    have ih := cn_mem (m := m) (D := D) p.2 fun y hy => h y (List.mem_cons_of_mem _ hy)
    obtain ⟨h0, h1⟩ := h x List.mem_cons_self
    have e := cn_or (m := m) (p := fun i => decide ((i : Int) ∈ x :: D)) (q := fun i => decide (x = (i : Int))) (r := fun i => decide ((i : Int) ∈ D)) (fun i _ => by
      show decide ((i : Int) ∈ x :: D) = (decide (x = (i : Int)) || decide ((i : Int) ∈ D))
      rw [← Bool.decide_or]
      refine decide_eq_decide.mpr ?_
      rw [List.mem_cons]
      exact ⟨fun z => z.imp Eq.symm id, fun z => z.imp Eq.symm id⟩) (fun i _ hq => by
      have hq2 : x = (i : Int) := of_decide_eq_true hq
      refine decide_eq_false ?_
      rw [← hq2]
      exact p.1)
    rw [e, cn_eq h0 h1, ih, List.length_cons]
    omega
theorem dedup_ok : ∀ (l acc : List Int), acc.Nodup → (l.foldl step_dedup acc).Nodup ∧ ∀ x, x ∈ l.foldl step_dedup acc ↔ x ∈ acc ∨ x ∈ l
  | [], acc, h => ⟨h, fun x => by simp⟩
  | a :: l, acc, h => by
    have e : step_dedup acc a = if a ∈ acc then acc else acc ++ [a] := by
      unfold step_dedup
      by_cases ha : a ∈ acc
      · rw [if_pos ha, if_pos]
        exact List.any_eq_true.mpr ⟨a, ha, by simp⟩
      · rw [if_neg ha, if_neg]
        intro z
        obtain ⟨y, hy, ey⟩ := List.any_eq_true.mp z
        have : y = a := by simpa using ey
        rw [this] at hy
        exact ha hy
    rw [List.foldl_cons, e]
    by_cases ha : a ∈ acc
    · rw [if_pos ha]
      obtain ⟨h1, h2⟩ := dedup_ok l acc h
      refine ⟨h1, fun x => ?_⟩
      rw [h2, List.mem_cons]
      refine ⟨fun z => z.imp id .inr, fun z => ?_⟩
      rcases z with z | z | z
      · exact .inl z
      · rw [z]
        exact .inl ha
      · exact .inr z
    · rw [if_neg ha]
      have hn : (acc ++ [a]).Nodup := List.nodup_append.mpr ⟨h, List.nodup_cons.mpr ⟨List.not_mem_nil, List.nodup_nil⟩, fun x hx y hy z => by
        rw [List.mem_singleton.mp hy] at z
        rw [z] at hx
        exact ha hx⟩
      obtain ⟨h1, h2⟩ := dedup_ok l _ hn
      refine ⟨h1, fun x => ?_⟩
      rw [h2, List.mem_append, List.mem_singleton, List.mem_cons]
      exact or_assoc
theorem cn_diff {m : Nat} {l : List Int} (h : ∀ x ∈ l, 0 ≤ x ∧ x < (m : Int)) : cn (fun i => decide ((i : Int) ∈ l)) m = diff l := by
  obtain ⟨h1, h2⟩ := dedup_ok l [] List.nodup_nil
  have h3 : ∀ x, x ∈ l.foldl step_dedup [] ↔ x ∈ l := fun x => by
    rw [h2]
    simp
  unfold diff
  rw [← cn_mem (m := m) h1 fun x hx => h x ((h3 x).mp hx)]
  exact cn_congr fun i _ => decide_eq_decide.mpr (h3 _).symm
/-- what _law_untouched reckons -/
def larI (ns : List Int) (k : Nat) (bs : List Blk) : Int := ((bs.filter fun b => decide (sz ns k ≤ sz ns b.2.1)).map fun b => sz ns b.2.1).sum
def smaP (ns : List Int) (n : Int) (k : Nat) (b : Blk) : Bool := decide (sz ns b.2.1 < sz ns k) && decide (b.1 / sz ns k < n / sz ns k)
def smaL (ns : List Int) (n : Int) (k : Nat) (bs : List Blk) : List Int := (bs.filter (smaP ns n k)).map fun b => b.1 / sz ns k
def untI (ns : List Int) (n : Int) (bs : List Blk) (k : Nat) : Int := n / sz ns k * sz ns k - larI ns k bs - (diff (smaL ns n k bs) : Nat) * sz ns k
theorem sz_le_iff (g : Good ns) {j : Nat} (hk : k < ns.length) (hj : j < ns.length) : sz ns k ≤ sz ns j ↔ k ≤ j := by
  refine ⟨fun h => ?_, fun h => ?_⟩
  · rcases Nat.lt_or_ge j k with h1 | h1
    · have := sz_lt g h1 hk
      omega
    · exact h1
  · rcases Nat.lt_or_ge k j with h1 | h1
    · exact Int.le_of_lt (sz_lt g h1 hj)
    · rw [Nat.le_antisymm h h1]
      exact Int.le_refl _
def flipB (b : Blk) : Blk := (b.1, b.2.1, false)
theorem lse_flip (g : Good ns) (hk : k < ns.length) : ∀ {bs : List Blk}, (∀ b ∈ bs, b.2.1 < ns.length) → lseI ns (bs.map flipB) k = larI ns k bs
  | [], _ => rfl
  | b :: bs, h => by
    have ih := lse_flip g hk (bs := bs) fun c hc => h c (List.mem_cons_of_mem _ hc)
    have hb := h b List.mem_cons_self
    unfold lseI unpB larI at ih ⊢
    rw [List.map_cons, List.filter_cons_of_pos (by rfl)]
    by_cases hc : k ≤ b.2.1
    · rw [List.filter_cons_of_pos (p := fun b : Blk => decide (k ≤ b.2.1)) (a := flipB b) (decide_eq_true hc), List.filter_cons_of_pos (p := fun b : Blk => decide (sz ns k ≤ sz ns b.2.1)) (a := b) (decide_eq_true ((sz_le_iff g hk hb).mpr hc)), List.map_cons, List.map_cons, List.sum_cons, List.sum_cons, ih]
      rfl
    · rw [List.filter_cons_of_neg (p := fun b : Blk => decide (k ≤ b.2.1)) (a := flipB b) (by rw [show decide (k ≤ (flipB b).2.1) = false from decide_eq_false hc]; exact Bool.false_ne_true), List.filter_cons_of_neg (p := fun b : Blk => decide (sz ns k ≤ sz ns b.2.1)) (a := b) (by rw [decide_eq_false (fun z => hc ((sz_le_iff g hk hb).mp z))]; exact Bool.false_ne_true), ih]
theorem two_of {c d : Blk} (w : Wf ns n bs) (hc : c ∈ bs) (hd : d ∈ bs) (h : c ≠ d) : bEnd ns c ≤ d.1 ∨ bEnd ns d ≤ c.1 := by
  obtain ⟨i, hi, rfl⟩ := List.getElem_of_mem hc
  obtain ⟨j, hj, rfl⟩ := List.getElem_of_mem hd
  rcases Nat.lt_trichotomy i j with h1 | h1 | h1
  · exact .inl (List.pairwise_iff_getElem.mp w.so i j hi hj h1)
  · subst h1
    exact absurd rfl h
  · exact .inr (List.pairwise_iff_getElem.mp w.so j i hj hi h1)
theorem unt_clr (w : Wf ns n bs) (g : Good ns) (hk : k < ns.length) (n1 : 0 ≤ n) (pin : ∀ b ∈ bs, b.2.2 = true) : untI ns n bs k = clrI ns n bs k := by
  have hs := (chain g).pos k hk
  have q0 : 0 ≤ n / sz ns k := Int.ediv_nonneg n1 (by omega)
  obtain ⟨m, em⟩ : ∃ m : Nat, n / sz ns k = (m : Int) := ⟨(n / sz ns k).toNat, by omega⟩
  rw [clr_due w g hk n1]
  unfold dueI untI
  rw [em, Int.toNat_natCast, cntC_cn]
  have not_is : cn (fun i => !clearAt ns bs k i) m = cn (fun i => bs.any fun b => decide (k ≤ b.2.1) && hitN ns (sz ns k) i b) m + cn (fun i => bs.any fun b => decide (b.2.1 < k) && hitN ns (sz ns k) i b) m := by
    refine cn_or (fun i _ => ?_) (fun i _ hq => ?_)
    · refine Bool.eq_iff_iff.mpr ?_
      rw [Bool.or_eq_true, List.any_eq_true, List.any_eq_true]
      unfold clearAt clearB
      constructor
      · intro h
        have h' : (bs.all fun b => !hitB ns ((i : Int) * sz ns k) ((i : Int) * sz ns k + sz ns k) b) = false := by simpa using h
        obtain ⟨b, hb, e⟩ := List.all_eq_false.mp h'
        have e2 : hitB ns ((i : Int) * sz ns k) ((i : Int) * sz ns k + sz ns k) b = true := by simpa using e
        unfold hitB at e2
        have e3 : hitN ns (sz ns k) i b = true := by
          rw [pin b hb] at e2
          exact e2
        by_cases hc : k ≤ b.2.1
        · exact .inl ⟨b, hb, by rw [decide_eq_true hc, e3]; rfl⟩
        · exact .inr ⟨b, hb, by rw [decide_eq_true (show b.2.1 < k by omega), e3]; rfl⟩
      · intro h
        have : ∃ b, b ∈ bs ∧ hitN ns (sz ns k) i b = true := by
          rcases h with ⟨b, hb, e⟩ | ⟨b, hb, e⟩
          · exact ⟨b, hb, (Bool.and_eq_true_iff.mp e).2⟩
          · exact ⟨b, hb, (Bool.and_eq_true_iff.mp e).2⟩
        obtain ⟨b, hb, e⟩ := this
        have : (bs.all fun b => !hitB ns ((i : Int) * sz ns k) ((i : Int) * sz ns k + sz ns k) b) = false := all_no hb (by
          unfold hitB
          rw [pin b hb]
          unfold hitN at e
          rw [e]
          rfl)
        rw [this]
        rfl
    · obtain ⟨c, hc, e⟩ := List.any_eq_true.mp hq
      obtain ⟨e1, e2⟩ := Bool.and_eq_true_iff.mp e
      have ok := w.ok c hc
      rw [hit_large g (of_decide_eq_true e1) ok.1 ok.2.2.1] at e2
      have e3 := inG_iff.mp e2
      cases h : (bs.any fun b => decide (b.2.1 < k) && hitN ns (sz ns k) i b) with
      | false => rfl
      | true =>
        obtain ⟨d, hd, f⟩ := List.any_eq_true.mp h
        obtain ⟨f1, f2⟩ := Bool.and_eq_true_iff.mp f
        have f3 := hitN_iff.mp f2
        have lt := of_decide_eq_true f1
        have le := of_decide_eq_true e1
        have ne : c ≠ d := fun z => by
          rw [z] at le
          omega
        rcases two_of w hc hd ne with z | z <;> omega
  have large : sz ns k * ((cn (fun i => bs.any fun b => decide (k ≤ b.2.1) && hitN ns (sz ns k) i b) m : Nat) : Int) = larI ns k bs := by
    rw [← lse_flip g hk (bs := bs) fun b hb => (w.ok b hb).1]
    rw [lse_cn (n := n) (m := m) g hk (by omega) (bs := bs.map flipB) (fun b hb => by
      obtain ⟨c, hc, rfl⟩ := List.mem_map.mp hb
      exact w.ok c hc) (List.pairwise_map.mpr w.so)]
    congr 2
    refine cn_congr fun i _ => ?_
    rw [List.any_map]
    refine Bool.eq_iff_iff.mpr ?_
    rw [List.any_eq_true, List.any_eq_true]
    have one : ∀ b ∈ bs, (decide (k ≤ b.2.1) && hitN ns (sz ns k) i b) = (inB ns k i ∘ flipB) b := fun b hb => by
      show _ = ((true && decide (k ≤ b.2.1)) && inG (sz ns k) b.1 (bEnd ns b) i)
      have ok := w.ok b hb
      by_cases hc : k ≤ b.2.1
      · rw [hit_large g hc ok.1 ok.2.2.1, Bool.true_and]
      · rw [decide_eq_false hc]
        rfl
    exact ⟨fun ⟨b, hb, e⟩ => ⟨b, hb, by rw [← one b hb]; exact e⟩, fun ⟨b, hb, e⟩ => ⟨b, hb, by rw [one b hb]; exact e⟩⟩
  have small : cn (fun i => bs.any fun b => decide (b.2.1 < k) && hitN ns (sz ns k) i b) m = diff (smaL ns n k bs) := by
    rw [← cn_diff (m := m) (l := smaL ns n k bs)]
    · refine cn_congr fun i hi => ?_
      refine Bool.eq_iff_iff.mpr ?_
      rw [List.any_eq_true, decide_eq_true_iff]
      unfold smaL
      rw [List.mem_map]
      constructor
      · rintro ⟨b, hb, e⟩
        obtain ⟨e1, e2⟩ := Bool.and_eq_true_iff.mp e
        have ok := w.ok b hb
        have lt := of_decide_eq_true e1
        rw [hit_small g (by omega) hk ok.2.2.1] at e2
        have e3 := of_decide_eq_true e2
        refine ⟨b, List.mem_filter.mpr ⟨hb, ?_⟩, e3⟩
        unfold smaP
        rw [decide_eq_true (sz_lt g lt hk), decide_eq_true (show b.1 / sz ns k < n / sz ns k by rw [e3, em]; omega)]
        rfl
      · rintro ⟨b, hb, e⟩
        obtain ⟨hm, hp⟩ := List.mem_filter.mp hb
        have ok := w.ok b hm
        unfold smaP at hp
        have lt := of_decide_eq_true (Bool.and_eq_true_iff.mp hp).1
        have lt2 : b.2.1 < k := by
          rcases Nat.lt_or_ge b.2.1 k with z | z
          · exact z
          · have := (sz_le_iff g hk ok.1).mpr z
            omega
        exact ⟨b, hm, by rw [decide_eq_true lt2, hit_small g (by omega) hk ok.2.2.1, decide_eq_true e]; rfl⟩
    · intro x hx
      unfold smaL at hx
      obtain ⟨b, hb, rfl⟩ := List.mem_map.mp hx
      obtain ⟨hm, hp⟩ := List.mem_filter.mp hb
      have ok := w.ok b hm
      unfold smaP at hp
      have lt := of_decide_eq_true (Bool.and_eq_true_iff.mp hp).2
      exact ⟨Int.ediv_nonneg ok.2.1 (by omega), by omega⟩
  have tot := cn_not (clearAt ns bs k) m
  rw [not_is, small] at tot
  have ec : ((cn (clearAt ns bs k) m : Nat) : Int) = (m : Int) - ((cn (fun i => bs.any fun b => decide (k ≤ b.2.1) && hitN ns (sz ns k) i b) m : Nat) : Int) - ((diff (smaL ns n k bs) : Nat) : Int) := by omega
  rw [ec, ← large, Int.mul_sub, Int.mul_sub, Int.mul_comm (m : Int), Int.mul_comm ((diff (smaL ns n k bs) : Nat) : Int)]
theorem clr_filter (ns : List Int) (n : Int) (bs : List Blk) (k : Nat) : clrI ns n (bs.filter fun b => b.2.2) k = clrI ns n bs k := by
  unfold clrI pinR
  rw [List.filter_filter]
  simp
theorem lse_one (ns : List Int) (bs : List Blk) (k : Nat) : lseI ns bs k = ((bs.filter fun b => !b.2.2 && decide (k ≤ b.2.1)).map fun b => sz ns b.2.1).sum := by
  unfold lseI unpB
  rw [List.filter_filter]
  congr 2
  refine List.filter_congr fun b _ => Bool.and_comm _ _
theorem lse_app (xs ys : List Blk) : lseI ns (xs ++ ys) k = lseI ns xs k + lseI ns ys k := by
  rw [lse_one, lse_one, lse_one, List.filter_append, List.map_append, List.sum_append]
theorem lse_cons (b : Blk) (ys : List Blk) : lseI ns (b :: ys) k = (if (!b.2.2 && decide (k ≤ b.2.1)) = true then sz ns b.2.1 else 0) + lseI ns ys k := by
  rw [lse_one, lse_one]
  cases e : (!b.2.2 && decide (k ≤ b.2.1)) with
  | true =>
    rw [List.filter_cons_of_pos (p := fun b : Blk => !b.2.2 && decide (k ≤ b.2.1)) e, List.map_cons, List.sum_cons, if_pos rfl]
  | false =>
    rw [List.filter_cons_of_neg (p := fun b : Blk => !b.2.2 && decide (k ≤ b.2.1)) (by rw [e]; exact Bool.false_ne_true), if_neg Bool.false_ne_true, Int.zero_add]
/-- a block gets a pin: the slack -/
theorem slk_pin {j : Nat} (w : Wf ns n bs) (g : Good ns) (n1 : 0 ≤ n) (hj : bs[j]? = some b) (hp : b.2.2 = false) (hk : k < ns.length) :
    (k ≤ b.2.1 → slkI ns n (pinB bs j b true) k [] = slkI ns n bs k []) ∧ (b.2.1 < k → slkI ns n bs k [] - slkI ns n (pinB bs j b true) k [] = 0 ∨ slkI ns n bs k [] - slkI ns n (pinB bs j b true) k [] = sz ns k) := by
  have hs := (chain g).pos k hk
  have q0 : 0 ≤ n / sz ns k := Int.ediv_nonneg n1 (by omega)
  have bm := List.mem_of_getElem? hj
  have ok := w.ok b bm
  have w' : Wf ns n (pinB bs j b true) := pin_wf w hj
  have jl := (List.getElem?_eq_some_iff.mp hj).1
  have e1 : bs = bs.take j ++ b :: bs.drop (j + 1) := by
    rw [← drop_at hj, List.take_append_drop]
  have e2 : pinB bs j b true = bs.take j ++ (b.1, b.2.1, true) :: bs.drop (j + 1) := by
    unfold pinB
    rw [List.set_eq_take_append_cons_drop, if_pos jl]
  obtain ⟨m, em⟩ : ∃ m : Nat, n / sz ns k = (m : Int) := ⟨(n / sz ns k).toNat, by omega⟩
  have cl : ∀ i, clearAt ns (pinB bs j b true) k i = (clearAt ns bs k i && !hitN ns (sz ns k) i b) := fun i => by
    have h2 : clearAt ns (pinB bs j b true) k i = ((bs.take j).all (fun b => !hitB ns ((i : Int) * sz ns k) ((i : Int) * sz ns k + sz ns k) b) && ((!hitN ns (sz ns k) i b) && (bs.drop (j + 1)).all (fun b => !hitB ns ((i : Int) * sz ns k) ((i : Int) * sz ns k + sz ns k) b))) := by
      rw [e2]
      unfold clearAt clearB
      rw [List.all_append, List.all_cons]
      rfl
    have h1 : clearAt ns bs k i = ((bs.take j).all (fun b => !hitB ns ((i : Int) * sz ns k) ((i : Int) * sz ns k + sz ns k) b) && (bs.drop (j + 1)).all (fun b => !hitB ns ((i : Int) * sz ns k) ((i : Int) * sz ns k + sz ns k) b)) := by
      conv => lhs; rw [e1]
      unfold clearAt clearB
      rw [List.all_append, List.all_cons]
      have : (!hitB ns ((i : Int) * sz ns k) ((i : Int) * sz ns k + sz ns k) b) = true := by
        unfold hitB
        rw [hp]
        rfl
      rw [this, Bool.true_and]
    rw [h1, h2]
    cases (bs.take j).all (fun b => !hitB ns ((i : Int) * sz ns k) ((i : Int) * sz ns k + sz ns k) b) <;> cases hitN ns (sz ns k) i b <;> simp
  have cs : cn (clearAt ns bs k) m = cn (clearAt ns (pinB bs j b true) k) m + cn (fun i => clearAt ns bs k i && hitN ns (sz ns k) i b) m := by
    refine cn_or (fun i _ => ?_) (fun i _ hq => ?_)
    · rw [cl]
      cases clearAt ns bs k i <;> cases hitN ns (sz ns k) i b <;> rfl
    · rw [cl] at hq
      have h2 := (Bool.and_eq_true_iff.mp hq).2
      cases h3 : hitN ns (sz ns k) i b with
      | false => rw [Bool.and_false]
      | true =>
        rw [h3] at h2
        cases h2
  have ls : lseI ns bs k = lseI ns (pinB bs j b true) k + (if k ≤ b.2.1 then sz ns b.2.1 else 0) := by
    rw [e2]
    conv => lhs; rw [e1]
    rw [lse_app, lse_app, lse_cons, lse_cons, hp]
    by_cases hc : k ≤ b.2.1
    · rw [decide_eq_true hc, if_pos hc, if_pos (by rfl), if_neg (by simp)]
      omega
    · rw [decide_eq_false hc, if_neg hc, if_neg (by simp), if_neg (by simp)]
      omega
  have d1 : slkI ns n bs k [] = sz ns k * ((cn (clearAt ns bs k) m : Nat) : Int) - lseI ns bs k := by
    unfold slkI
    rw [clr_due w g hk n1]
    unfold dueI whlI
    rw [cntC_cn, em, Int.toNat_natCast]
    simp
  have d2 : slkI ns n (pinB bs j b true) k [] = sz ns k * ((cn (clearAt ns (pinB bs j b true) k) m : Nat) : Int) - lseI ns (pinB bs j b true) k := by
    unfold slkI
    rw [clr_due w' g hk n1]
    unfold dueI whlI
    rw [cntC_cn, em, Int.toNat_natCast]
    simp
  rw [d1, d2, cs, ls, Int.natCast_add, Int.mul_add]
  refine ⟨fun hc => ?_, fun hc => ?_⟩
  · rw [if_pos hc]
    have e3 : cn (fun i => clearAt ns bs k i && hitN ns (sz ns k) i b) m = cn (inG (sz ns k) b.1 (bEnd ns b)) m := cn_congr fun i _ => by
      rw [hit_large g hc ok.1 ok.2.2.1]
      cases h : inG (sz ns k) b.1 (bEnd ns b) i with
      | false => rw [Bool.and_false]
      | true =>
        rw [Bool.and_true]
        have h2 := inG_iff.mp h
        unfold clearAt clearB
        refine List.all_eq_true.mpr fun c hcm => ?_
        have : hitB ns ((i : Int) * sz ns k) ((i : Int) * sz ns k + sz ns k) c = false := by
          unfold hitB
          cases ep : c.2.2 with
          | false => rfl
          | true =>
            have ne : c ≠ b := fun z => by
              rw [z, hp] at ep
              cases ep
            cases hh : (decide (c.1 < (i : Int) * sz ns k + sz ns k) && decide ((i : Int) * sz ns k < bEnd ns c)) with
            | false => rfl
            | true =>
              obtain ⟨z1, z2⟩ := Bool.and_eq_true_iff.mp hh
              have z1 := of_decide_eq_true z1
              have z2 := of_decide_eq_true z2
              rcases two_of w hcm bm ne with z | z <;> omega
        rw [this]
        rfl
    have dv : bEnd ns b / sz ns k ≤ (m : Int) := by
      have := Int.ediv_le_ediv (show 0 < sz ns k by omega) ok.2.2.2
      omega
    rw [e3, one_cn g hc ok.1 ok.2.1 ok.2.2.1 dv]
    omega
  · rw [if_neg (by omega)]
    have le : cn (fun i => clearAt ns bs k i && hitN ns (sz ns k) i b) m ≤ 1 := Nat.le_trans (cn_le (q := fun i => decide (b.1 / sz ns k = (i : Int))) fun i _ h => by
      rw [← hit_small g (by omega) hk ok.2.2.1]
      exact (Bool.and_eq_true_iff.mp h).2) (cn_eq_le m)
    rcases Nat.le_one_iff_eq_zero_or_eq_one.mp le with e | e
    · left
      rw [e]
      simp
    · right
      rw [e]
      simp
      omega
theorem slk_le {j : Nat} (w : Wf ns n bs) (g : Good ns) (n1 : 0 ≤ n) (hj : bs[j]? = some b) (hp : b.2.2 = false) (hk : k < ns.length) : slkI ns n (pinB bs j b true) k [] ≤ slkI ns n bs k [] := by
  obtain ⟨h1, h2⟩ := slk_pin w g n1 hj hp hk
  have hs := (chain g).pos k hk
  rcases Nat.lt_or_ge b.2.1 k with h | h
  · rcases h2 h with z | z <;> omega
  · have := h1 h
    omega
theorem lrg_le {j : Nat} (w : Wf ns n bs) (g : Good ns) (n1 : 0 ≤ n) (hj : bs[j]? = some b) (hp : b.2.2 = false) : lrgI ns n (pinB bs j b true) [] ≤ lrgI ns n bs [] := by
  have l := g.len
  have len : ∀ cs : List Blk, 0 < (rowsI ns n cs [] ns.length).length := fun cs => by
    unfold rowsI
    rw [List.length_map, List.length_range]
    omega
  have h1 := mnL_ok _ (len (pinB bs j b true))
  have h2 := mnL_ok _ (len bs)
  have le : mnL (rowsI ns n (pinB bs j b true) [] ns.length) ≤ mnL (rowsI ns n bs [] ns.length) := by
    have hm := h2.1
    obtain ⟨k, hk, e⟩ := List.mem_map.mp hm
    have hk := List.mem_range.mp hk
    have h3 := h1.2 (slkI ns n (pinB bs j b true) k [] + sz ns k - 1) (List.mem_map.mpr ⟨k, List.mem_range.mpr hk, rfl⟩)
    have h4 := slk_le w g n1 hj hp hk
    omega
  unfold lrgI
  split <;> split <;> omega
end
end K44

set_option Elab.async false
set_option linter.all false
set_option maxRecDepth 100000
set_option maxHeartbeats 4000000
/-! sorted of tuples (int, int, bool) with distinct first parts -/
namespace SrtO
open PySem PyProof.Rows Srt
section
variable {prog : Program} {w : World} {A : Around} {E : Value → Shared → Prop} {s : Shared}
def IsTrip (h : Heap) (v : Value) (x : Int) : Prop := ∃ a o t y u b n, v = .ref a ∧ h.get? a = some o ∧ o.cls = .type "tuple" ∧ o.data = .seq #[.int x t, .int y u, .bool b] n
theorem IsTrip.keeps {h h' : Heap} {v : Value} {x : Int} (p : IsTrip h v x) (k : ∀ b o, h.get? b = some o → o.cls = .type "tuple" → h'.get? b = some o) : IsTrip h' v x := by
  obtain ⟨a, o, t, y, u, b, n, e, ho, hc, hd⟩ := p
  exact ⟨a, o, t, y, u, b, n, e, k _ _ ho hc, hc, hd⟩
abbrev ltI (k : Value → Int) (v u : Value) : Bool := decide (k v < k u)
theorem swo_int {α : Type} (k : α → Int) : Swo (fun v u => decide (k v < k u)) := by
  refine ⟨fun x y h => ?_, fun x y z h1 h2 => ?_⟩
  · have a := of_decide_eq_true h
    exact decide_eq_false (by omega)
  · have a := of_decide_eq_false h1
    have b := of_decide_eq_false h2
    exact decide_eq_false (by omega)
theorem trip_cmp {vs : List Value} {k : Value → Int} (hp : ∀ v ∈ vs, IsTrip s.heap v (k v)) (hd : ∀ v ∈ vs, ∀ u ∈ vs, k v = k u → v = u) : Cmp prog w A s (tuples' true) (fun p => p.1 ∈ vs) (lt2 (ltI k)) := by
  intro p q hm hm'
  show wpAny (model prog w) A (keyLt' (tuples' true) p.1 q.1) (fun r s' => s' = s ∧ r = decide (k p.1 < k q.1)) (fun _ _ => False) s
  have h1 := hp _ hm
  have h2 := hp _ hm'
  by_cases ek : k p.1 = k q.1
  · have ev := hd _ hm _ hm' ek
    rw [← ev]
    rw [decide_eq_false (Int.lt_irrefl _)]
    generalize k p.1 = x at h1
    obtain ⟨a, o, t, y, u, b, n, e, ho, hc, hdd⟩ := h1
    rw [e]
    refine PySem.W.kat_lt ho hdd ho hdd ?_
    show PySem.W.KatLex prog w A true (decide (3 < 3)) _ [(.int x t, .int x t), (.int y u, .int y u), (.bool b, .bool b)] 0 s
    refine PySem.W.kat_cons (SeqAt.EqAt.int_int x t x t prog w _ _ ?_)
    refine PySem.W.kat_go (fun _ => ?_) (fun e1 => absurd e1 (by simp))
    refine PySem.W.kat_yes (PySem.W.kat_cons (SeqAt.EqAt.int_int y u y u prog w _ _ ?_))
    refine PySem.W.kat_go (fun _ => ?_) (fun e1 => absurd e1 (by simp))
    refine PySem.W.kat_yes (PySem.W.kat_cons (SeqAt.EqAt.bool_bool b b prog w _ _ ?_))
    refine PySem.W.kat_go (fun _ => ?_) (fun e1 => absurd e1 (by simp))
    exact PySem.W.kat_yes (PySem.W.kat_nil ⟨rfl, rfl⟩)
  · generalize k p.1 = x at h1 ek
    generalize k q.1 = x' at h2 ek
    obtain ⟨a, o, t, y, u, b, n, e, ho, hc, hdd⟩ := h1
    obtain ⟨a', o', t', y', u', b', n', e', ho', hc', hdd'⟩ := h2
    rw [e, e']
    refine PySem.W.kat_lt ho hdd ho' hdd' ?_
    show PySem.W.KatLex prog w A true (decide (3 < 3)) _ [(.int x t, .int x' t'), (.int y u, .int y' u'), (.bool b, .bool b')] 0 s
    refine PySem.W.kat_cons (SeqAt.EqAt.int_int x t x' t' prog w _ _ ?_)
    refine PySem.W.kat_go (fun e1 => absurd (by simpa using e1) ek) (fun e1 => ?_)
    exact PySem.W.kat_no (oneLt_int ⟨rfl, rfl⟩)
theorem firsts3 {h : Heap} : ∀ {vs : List Value}, (∀ v ∈ vs, ∃ x, IsTrip h v x) → ∃ fs : List Value, PySem.W.KatTups h vs fs ∧ fs.length = vs.length ∧ ∀ f ∈ fs, ∃ x t, f = Value.int x t
  | [], _ => ⟨[], PySem.W.KatTups.nil, rfl, fun _ hm => by simp at hm⟩
  | v :: vs, hp => by
    obtain ⟨fs, h1, h2, h3⟩ := firsts3 (vs := vs) fun v' hm => hp v' (List.mem_cons_of_mem _ hm)
    obtain ⟨x, a, o, t, y, u, b, n, e, ho, hc, hd⟩ := hp v (List.mem_cons_self ..)
    subst e
    refine ⟨.int x t :: fs, PySem.W.KatTups.cons ho hc hd rfl h1, by rw [List.length_cons, List.length_cons, h2], fun f hm => ?_⟩
    rcases List.mem_cons.mp hm with rfl | hm
    · exact ⟨x, t, rfl⟩
    · exact h3 f hm
theorem trips_sortable {a : Addr} {vs : List Value} {k : Value → Int} (h0 : 0 < vs.length) (hp : ∀ v ∈ vs, IsTrip s.heap v (k v)) (hd : ∀ v ∈ vs, ∀ u ∈ vs, k v = k u → v = u) (ha : ∀ o, s.heap.get? a = some o → o.cls ≠ .type "tuple") : SortableO prog w A s a vs (ltI k) := by
  intro h' keep
  have hp' : ∀ v ∈ vs, IsTrip h' v (k v) := fun v hm => (hp v hm).keeps fun b o e c => keep b o (fun z => by subst z; exact ha o e c) e
  obtain ⟨fs, h1, h2, h3⟩ := firsts3 fun v hm => ⟨_, hp' v hm⟩
  refine ⟨tuples' true, fun Q E hq => ?_, trip_cmp hp' hd⟩
  refine PySem.W.kat_kind (T := .type "int") h1 (by omega) (fun f hm => ?_) (by rfl) ?_
  · obtain ⟨x, t, rfl⟩ := h3 f hm
    exact PySem.W.Looks.now
  · have e : (Value.type "int" != Value.type "tuple") = true := by first | decide +kernel | rfl | decide
    rw [e]
    exact hq
theorem sorted_trips {l : Addr} {vs : List Value} {k : Value → Int} {Q : Value → Shared → Prop} (hl : s.heap.IsList l vs.toArray) (hz : vs.length ≤ sizeLine) (hp : ∀ v ∈ vs, IsTrip s.heap v (k v)) (hdi : ∀ v ∈ vs, ∀ u ∈ vs, k v = k u → v = u)
    (h : ∀ (h' : Heap) (d : Addr) (out : List Value), Srtd (ltI k) out → Stb (ltI k) out vs → (∀ b o, s.heap.get? b = some o → h'.get? b = some o) → s.heap.objs.size ≤ d → (∃ n, h'.get? d = some (seqObj "list" out.toArray n)) → Q (.ref d) { s with heap := h' }) :
    wpAny (model prog w) A (call (.builtin "sorted") [.ref l]) Q E s := by
  refine sorted_ord (swo_int k) hl hz (fun h2 h₁ a ha kk => ?_) fun out hs hb => ?_
  · refine trips_sortable (s := { s with heap := h₁ }) (by omega) (fun v hm => (hp v hm).keeps fun b o e _ => (kk b o e).2) hdi fun o e => ?_
    have e' : some o = some (seqObj "list" vs.toArray 0) := e.symm.trans ha
    cases e'
    intro c
    exact absurd (Value.type.inj c) (by decide)
  · exact h _ _ out hs hb (fun b o e => sortedAll_old e) (Nat.le_succ _) (sortedAll_at s.heap vs out.toArray)
end
end SrtO
namespace L2
open PySem PySem.Spec PyProof.Rows
theorem vals3S {a b c : V} {us : List Value} (r : Vals [a, b, c] us) : ∃ u v w, us = [u, v, w] ∧ RelV a u ∧ RelV b v ∧ RelV c w := by
  cases r with
  | cons h1 r => cases r with
    | cons h2 r => cases r with
      | cons h3 r => cases r with
        | nil => exact ⟨_, _, _, rfl, h1, h2, h3⟩
def rSortedB (K : PySem.W.Frag) : List V → Hp → VK → Prop := fun vs H Q => ∃ (a : Addr) (xs : List V) (k : V → Int), vs = [V.ref a] ∧ SqL K H a xs ∧ (∀ x ∈ xs, ∃ t j b, x = V.ref t ∧ H t = some (.tup [.int (k x), .int j, .bl b])) ∧ (∀ x ∈ xs, ∀ y ∈ xs, k x = k y → x = y) ∧
  ∀ ys p, ys.Pairwise (fun x y => k x ≤ k y) → ys.Perm xs → H p = none → Q (.ref p) (upd H p (.lst ys))
section
variable {X : Cx}
theorem cr_sortedB : CallR X (.builtin "sorted") (rSortedB X.K) := by
  intro pins s σ H vs us Q I r h
  obtain ⟨a, xs, k, rfl, hs, hx, hdi, q⟩ := h
  obtain ⟨its, rv, hl, hz⟩ := I.list hs
  obtain ⟨u, rfl, ru⟩ := vals1 r
  obtain rfl : u = Value.ref a := ru
  obtain ⟨e1, e2⟩ := refs_back rv fun x m => by
    obtain ⟨t, _, _, e, _⟩ := hx x m
    exact ⟨t, e⟩
  have mem : ∀ v ∈ its, backV v ∈ xs := fun v hv => by rw [e1]; exact List.mem_map.mpr ⟨_, hv, rfl⟩
  refine SrtO.sorted_trips (k := fun u => k (backV u)) hl.isList (by rw [← rv.length]; exact hz) (fun v hv => ?_) (fun v hv u hu e => ?_) fun h' d out h1 h2 kp hd hn => ?_
  · obtain ⟨t, rfl⟩ := e2 v hv
    have hm : V.ref t ∈ xs := mem _ hv
    obtain ⟨t', j, b, e, ht⟩ := hx _ hm
    cases e
    obtain ⟨_, its2, r2, o, ho, hc, n, hd⟩ := I.hok _ _ ht
    obtain ⟨u1, u2, u3, rfl, ri, rj, rb⟩ := vals3S r2
    obtain ⟨t1, rfl⟩ := ri
    obtain ⟨t2, rfl⟩ := rj
    have e3 : u3 = .bool b := rb
    subst e3
    exact ⟨t, o, t1, j, t2, b, n, rfl, ho, hc, hd⟩
  · have z := hdi _ (mem v hv) _ (mem u hu) e
    obtain ⟨t, rfl⟩ := e2 v hv
    obtain ⟨t', rfl⟩ := e2 u hu
    have z2 : V.ref t = V.ref t' := z
    rw [V.ref.inj z2]
  · have h3 : ∀ u ∈ out, ∃ a, u = Value.ref a := fun u hu => e2 u (h2.perm.mem_iff.mp hu)
    obtain ⟨n, hn⟩ := hn
    have hb : (out.map backV).Perm xs := by
      rw [e1]
      exact h2.perm.map backV
    refine ⟨.ref d, upd H d (.lst (out.map backV)), I.laid (t' := s.toks) kp hd ⟨?_, out, n, vals_back h3, hn⟩, rfl, q _ d (List.pairwise_map.mpr (h1.imp fun {x y} e => ?_)) hb (I.hok.fresh hd)⟩
    · rw [hb.length_eq]
      exact hz
    · have z := of_decide_eq_false e
      exact Int.not_lt.mp z
end
end L2

set_option Elab.async false
set_option linter.all false
set_option maxRecDepth 100000
set_option maxHeartbeats 4000000
namespace K44
open PySem PySem.Spec PyProof.Rows L2 Gu Ex
/-- the block at an address -/
def bkA (G : Hp) (t : Addr) : Blk := match G t with
  | some (.tup [.int a, .int l, .bl p]) => (a, l.toNat, p)
  | _ => (0, 0, false)
def keyV (G : Hp) : V → Int
  | .ref t => (bkA G t).1
  | _ => 0
theorem bkA_of {G : Hp} {t : Addr} {b : Blk} (h : G t = some (.tup (blkV b))) : bkA G t = b := by
  unfold bkA
  rw [h]
  obtain ⟨a, l, p⟩ := b
  show (a, ((l : Nat) : Int).toNat, p) = (a, l, p)
  rw [Int.toNat_natCast]
theorem Refs.bk {G : Hp} {qs : List Addr} {bs : List Blk} (h : Refs blkV G qs bs) : bs = qs.map (bkA G) ∧ ∀ t ∈ qs, G t = some (.tup (blkV (bkA G t))) := by
  induction h with
  | nil => exact ⟨rfl, fun _ m => nomatch m⟩
  | cons e _ ih =>
    have e2 := bkA_of e
    refine ⟨by rw [List.map_cons, e2, ih.1], fun t ht => ?_⟩
    rcases List.mem_cons.mp ht with z | z
    · rw [z, e2]; exact e
    · exact ih.2 t z
theorem Refs.of_bk {G : Hp} : ∀ {qs : List Addr}, (∀ t ∈ qs, G t = some (.tup (blkV (bkA G t)))) → Refs blkV G qs (qs.map (bkA G))
  | [], _ => .nil
  | t :: qs, h => .cons (h t List.mem_cons_self) (Refs.of_bk fun u hu => h u (List.mem_cons_of_mem _ hu))
def Dj (ns : List Int) (b c : Blk) : Prop := bEnd ns b ≤ c.1 ∨ bEnd ns c ≤ b.1
/-- blocks as they are put, in any order -/
structure Un (ns : List Int) (n : Int) (bs : List Blk) : Prop where
  ok : ∀ b ∈ bs, b.2.1 < ns.length ∧ 0 ≤ b.1 ∧ sz ns b.2.1 ∣ b.1 ∧ bEnd ns b ≤ n
  dj : bs.Pairwise (Dj ns)
theorem Wf.un {ns : List Int} {n : Int} {bs : List Blk} (w : Wf ns n bs) : Un ns n bs := ⟨w.ok, w.so.imp fun h => .inl h⟩
theorem Un.snoc {ns : List Int} {n : Int} {bs : List Blk} {k : Nat} {a : Int} {p : Bool} (u : Un ns n bs) (hk : k < ns.length) (a0 : 0 ≤ a) (h : spaceB ns n bs k a = true) : Un ns n (bs ++ [(a, k, p)]) := by
  unfold spaceB at h
  rw [Bool.and_eq_true, Bool.and_eq_true] at h
  obtain ⟨h1, h2, h3⟩ := h
  have d1 := of_decide_eq_true h1
  have d2 := of_decide_eq_true h2
  refine ⟨fun b hb => ?_, List.pairwise_append.mpr ⟨u.dj, List.pairwise_singleton _ _, fun b hb c hc => ?_⟩⟩
  · rcases List.mem_append.mp hb with e | e
    · exact u.ok b e
    · rw [List.mem_singleton.mp e]
      exact ⟨hk, a0, d1, d2⟩
  · rw [List.mem_singleton.mp hc]
    have := List.all_eq_true.mp h3 b hb
    unfold offB at this
    rw [Bool.or_eq_true] at this
    rcases this with z | z
    · exact .inr (of_decide_eq_true z)
    · exact .inl (of_decide_eq_true z)
section
variable {ns : List Int} {n : Int} {bs : List Blk} {G : Hp} {qs : List Addr}
theorem Un.perm {cs : List Blk} (u : Un ns n bs) (p : cs.Perm bs) : Un ns n cs := ⟨fun b hb => u.ok b (p.mem_iff.mp hb), (p.pairwise_iff (fun h => h.symm)).mpr u.dj⟩
theorem Un.wf (u : Un ns n bs) (g : Good ns) (s : bs.Pairwise (fun b c => b.1 ≤ c.1)) : Wf ns n bs := by
  refine ⟨u.ok, List.pairwise_iff_getElem.mpr fun i j hi hj hij => ?_⟩
  have h1 := List.pairwise_iff_getElem.mp u.dj i j hi hj hij
  have h2 := List.pairwise_iff_getElem.mp s i j hi hj hij
  have h3 := (chain g).pos _ (u.ok _ (List.getElem_mem hj)).1
  rcases h1 with h | h
  · exact h
  · unfold bEnd at h
    omega
/-- what sorted wants -/
theorem Un.keys (u : Un ns n bs) (g : Good ns) (rf : Refs blkV G qs bs) : (∀ x ∈ qs.map V.ref, ∃ t j b, x = V.ref t ∧ G t = some (.tup [.int (keyV G x), .int j, .bl b])) ∧ ∀ x ∈ qs.map V.ref, ∀ y ∈ qs.map V.ref, keyV G x = keyV G y → x = y := by
  obtain ⟨e, h⟩ := rf.bk
  refine ⟨fun x hx => ?_, fun x hx y hy hk => ?_⟩
  · obtain ⟨t, ht, rfl⟩ := List.mem_map.mp hx
    exact ⟨t, _, _, rfl, h t ht⟩
  · obtain ⟨t, ht, rfl⟩ := List.mem_map.mp hx
    obtain ⟨t2, ht2, rfl⟩ := List.mem_map.mp hy
    obtain ⟨i, hi, ei⟩ := List.mem_iff_getElem.mp ht
    obtain ⟨j, hj, ej⟩ := List.mem_iff_getElem.mp ht2
    by_cases ij : i = j
    · subst ij
      rw [ei] at ej
      rw [ej]
    · exfalso
      have hk2 : (bkA G t).1 = (bkA G t2).1 := hk
      have pw := List.pairwise_iff_getElem.mp u.dj
      have li : i < bs.length := by rw [e, List.length_map]; exact hi
      have lj : j < bs.length := by rw [e, List.length_map]; exact hj
      have bi : bs[i] = bkA G t := by
        have : bs[i]? = some (bkA G t) := by rw [e, List.getElem?_map, List.getElem?_eq_getElem hi, ei]; rfl
        rw [List.getElem?_eq_getElem li] at this
        exact Option.some.inj this
      have bj : bs[j] = bkA G t2 := by
        have : bs[j]? = some (bkA G t2) := by rw [e, List.getElem?_map, List.getElem?_eq_getElem hj, ej]; rfl
        rw [List.getElem?_eq_getElem lj] at this
        exact Option.some.inj this
      have p1 := (chain g).pos _ (u.ok _ (List.getElem_mem li)).1
      have p2 := (chain g).pos _ (u.ok _ (List.getElem_mem lj)).1
      have dd : Dj ns bs[i] bs[j] := by
        rcases Nat.lt_or_gt_of_ne ij with l | l
        · exact pw i j li lj l
        · exact (pw j i lj li l).symm
      have hk3 : bs[i].1 = bs[j].1 := by rw [bi, bj]; exact hk2
      unfold Dj bEnd at dd
      omega
def unR : V → Addr
  | .ref t => t
  | _ => 0
theorem map_unR (qs : List Addr) : (qs.map V.ref).map unR = qs := by
  induction qs with
  | nil => rfl
  | cons t qs ih => rw [List.map_cons, List.map_cons, ih]; rfl
theorem refs_of : ∀ {zs : List V}, (∀ v ∈ zs, ∃ t, v = V.ref t) → ∃ qs : List Addr, zs = qs.map V.ref
  | [], _ => ⟨[], rfl⟩
  | v :: zs, h => by
    obtain ⟨t, rfl⟩ := h v List.mem_cons_self
    obtain ⟨qs, rfl⟩ := refs_of (zs := zs) fun u hu => h u (List.mem_cons_of_mem _ hu)
    exact ⟨t :: qs, rfl⟩
theorem Un.sorted (u : Un ns n bs) (g : Good ns) (rf : Refs blkV G qs bs) {zs : List V} (hs : zs.Pairwise (fun x y => keyV G x ≤ keyV G y)) (hp : zs.Perm (qs.map V.ref)) : ∃ qs' bs', zs = qs'.map V.ref ∧ Refs blkV G qs' bs' ∧ bs'.Perm bs ∧ Wf ns n bs' := by
  obtain ⟨e, h⟩ := rf.bk
  obtain ⟨qs', hq, hz⟩ : ∃ qs' : List Addr, qs'.Perm qs ∧ zs = qs'.map V.ref := by
    obtain ⟨qs', rfl⟩ := refs_of (zs := zs) fun v hv => by
      obtain ⟨t, _, rfl⟩ := List.mem_map.mp (hp.mem_iff.mp hv)
      exact ⟨t, rfl⟩
    have := hp.map unR
    rw [map_unR, map_unR] at this
    exact ⟨qs', this, rfl⟩
  subst hz
  have rf' := Refs.of_bk (G := G) (qs := qs') fun t ht => h t (hq.mem_iff.mp ht)
  have pm : (qs'.map (bkA G)).Perm bs := by rw [e]; exact hq.map _
  refine ⟨qs', _, rfl, rf', pm, (u.perm pm).wf g ?_⟩
  have hs' : qs'.Pairwise (fun x y => (bkA G x).1 ≤ (bkA G y).1) := (List.pairwise_map (f := V.ref) (R := fun x y => keyV G x ≤ keyV G y)).mp hs
  exact List.pairwise_map.mpr hs'
/-- sorted lists of the same blocks are one -/
theorem uniqB : ∀ {l m : List Blk}, l.Pairwise (fun b c => b.1 < c.1) → m.Pairwise (fun b c => b.1 < c.1) → l.Perm m → l = m
  | [], m, _, _, h => (List.Perm.eq_nil h.symm).symm
  | x :: l, [], _, _, h => absurd h.length_eq (by simp)
  | x :: l, y :: m, hl, hm, h => by
    have pl := List.pairwise_cons.mp hl
    have pm := List.pairwise_cons.mp hm
    have e : x = y := by
      rcases List.mem_cons.mp (h.mem_iff.mp (List.mem_cons_self (a := x) (l := l))) with e | e
      · exact e
      · rcases List.mem_cons.mp (h.mem_iff.mpr (List.mem_cons_self (a := y) (l := m))) with e2 | e2
        · exact e2.symm
        · have := pm.1 x e
          have := pl.1 y e2
          omega
    subst e
    rw [uniqB pl.2 pm.2 (List.Perm.cons_inv h)]
end
section
variable {P : Program} {w : World} {K : PySem.W.Frag} {mg : Str → Option Value} {base : Heap} {f : Addr} {fd : FuncData}
def spBlocks : Sp := fun vs H Q _ => ∃ (r s : Addr) (ns : List Int) (n many one : Int), vs = [.ref r, .ref s, .int n, .int many, .int one] ∧ Rng H r ∧ H s = some (.lst (ns.map V.int)) ∧ s ≠ r ∧ Good ns ∧ 1 ≤ n ∧ n ≤ 100000000000 ∧ 0 ≤ many ∧ many ≤ 100 ∧ 1 ≤ one ∧ one ≤ 100 ∧
  ∀ a qs bs H', H a = none → Stp r H H' → H' a = some (.lst (qs.map V.ref)) → Refs blkV H' qs bs → Wf ns n bs → (bs.length : Int) ≤ many → Q (.ref a) H'
theorem sc__law_blocks : FnScope ["_law_rng_here", "_law_sizes_here", "_law_length", "_law_many", "_law_one_in", "_law_result", "_law_k", "_law_level", "_law_address", "_law_is_pinned"] ["_law_rng_here", "_law_sizes_here", "_law_length", "_law_many", "_law_one_in"] (defScope (top 51)) := ⟨rfl, rfl, rfl, by decide +kernel, rfl, by decide +kernel, by decide +kernel⟩
theorem ok_blocks (T : Tx K mg) (D__law_draw : Df P w K mg base 1 "_law_draw" ["_law_rng_here", "_law_many"] spDraw) (D__law_has_space : Df P w K mg base 1 "_law_has_space" ["_law_sizes_here", "_law_length", "_law_blocks_here", "_law_level", "_law_address"] spSpace)
    (F : FnP K "_law_blocks" "_law_blocks" (top 51) f fd) : FnOk P w K mg base CX0 2 f fd ["_law_rng_here", "_law_sizes_here", "_law_length", "_law_many", "_law_one_in"] spBlocks := by
  refine F.ok sc__law_blocks (fun vs H Q E h => ?_) (fun cdv A outer s H vs Q E hr h => ⟨_, PSs.nox (pss_cons (ps_set (i := 5) sc__law_blocks.nd rfl (by first | exact Or.inl rfl | exact Or.inr rfl) (pe_lst pa_nil)) (pss_cons (ps_for PassesOwn.never rfl (pi_range1 rfl T.n_range (pa_cons (pcall D__law_draw hr (pa_cons (pv 0) (pa_cons (pe_op op_add (pv 3) pe_int) pa_nil))) pa_nil)) (pg_name (i := 6) sc__law_blocks.nd rfl (by first | exact Or.inl rfl | exact Or.inr rfl)) (pss_cons (ps_set (i := 7) sc__law_blocks.nd rfl (by first | exact Or.inl rfl | exact Or.inr rfl) (pcall D__law_draw hr (pa_cons (pv 0) (pa_cons (pe_callB call_len_seq (by rfl) T.n_len (by decide +kernel) (pa_cons (pv 1) pa_nil)) pa_nil)))) (pss_one (ps_if (pt_cmpR op_le (pe_ix ix_list (pv 1) (pv 7) (fun _ _ => rfl)) (pv 2) (nomark _)) (pss_cons (ps_set (i := 8) sc__law_blocks.nd rfl (by first | exact Or.inl rfl | exact Or.inr rfl) (pe_op op_mul (pcall D__law_draw hr (pa_cons (pv 0) (pa_cons (pe_op op_fdivW (pv 2) (pe_ix ix_list (pv 1) (pv 7) (fun _ _ => rfl))) pa_nil))) (pe_ix ix_list (pv 1) (pv 7) (fun _ _ => rfl)))) (pss_cons (ps_set (i := 9) sc__law_blocks.nd rfl (by first | exact Or.inl rfl | exact Or.inr rfl) (pe_and (pe_cmpR op_gt (pv 4) pe_int (nomark _)) (pe_one (pe_cmpR op_eq (pcall D__law_draw hr (pa_cons (pv 0) (pa_cons (pe_callB (call_max2 rfl) (by rfl) T.n_max (by decide +kernel) (pa_cons pe_int (pa_cons (pv 4) pa_nil))) pa_nil))) pe_int (nomark _))))) (pss_one (ps_if (pt_val (pcall D__law_has_space hr (pa_cons (pv 1) (pa_cons (pv 2) (pa_cons (pv 5) (pa_cons (pv 7) (pa_cons (pv 8) pa_nil))))))) (pss_one (ps_expr (pe_bm PySem.F.plainAttrs_list PySem.F.slot_list_append PySem.F.type_list_append mt_append (pv 5) (pa_cons (pe_tup (pa_cons (pv 8) (pa_cons (pv 7) (pa_cons (pv 9) pa_nil)))) pa_nil)))) pss_nil)))) pss_nil)))) (pss_one (ps_ret (pe_callB cr_sortedB (by rfl) T.n_sorted (by decide +kernel) (pa_cons (pv 5) pa_nil)))))), ?_⟩)
  · obtain ⟨r, s, ns, n, many, one, rfl, _⟩ := h
    rfl
  · obtain ⟨r, s, ns, n, many, one, rfl, hR, hs, nsr, g, n1, n2, m1, m2, o1, o2, q⟩ := h
    have sl : sizeLine = 16777216 := sizeLine_eq
    have big : (10 : Int) ^ 40 = 10000000000000000000000000000000000000000 := by decide
    have g8 := g.len
    refine ⟨Nat.zero_le _, fun R hRn => ?_⟩
    have nrR : R ≠ r := (hR.ne hRn).symm
    have s0 : Stp r H (upd H R (.lst [])) := (Stp.refl hR).new hRn
    have hR0 : (upd H R (.lst [])) R = some (.lst []) := upd_same
    generalize upd H R (.lst []) = H0 at s0 hR0
    refine ⟨_, rfl, _, rfl, _, _, rfl, rfl, r, many + 1, rfl, s0.1, by omega, by omega, fun d H1 d0 d1 s1 => ?_⟩
    refine ⟨d, rfl, by omega, by omega, ?_⟩
    have two : 3 ≤ sizeLine := by decide
    refine for_range (fun i σ G => ∃ (x6 x7 x8 x9 : Option V) (qs : List Addr) (bs : List Blk), σ = [some (.ref r), some (.ref s), some (.int n), some (.int many), some (.int one), some (.ref R), x6, x7, x8, x9] ∧ Stp r H G ∧ G R = some (.lst (qs.map V.ref)) ∧ Refs blkV G qs bs ∧ Un ns n bs ∧ bs.length ≤ i)
      ⟨none, none, none, none, [], [], rfl, s0.trans s1, s1.2 _ _ nrR hR0, .nil, ⟨fun _ m => (nomatch m), .nil⟩, Nat.le_refl _⟩ ?_ ?_
    · rintro i σ G hi ⟨x6, x7, x8, x9, qs, bs, rfl, st, hG, rf, un, bl⟩
      have hi2 : i < 101 := by omega
      have hsG : G s = some (.lst (ns.map V.int)) := st.2 _ _ nsr hs
      refine ⟨_, rfl, _, rfl, s, _, rfl, .inl (SqL.of hsG), r, _, rfl, st.1, (by rw [List.length_map]; omega), (by rw [List.length_map]; omega), fun d7 G1 a0 a1 t1 => ?_⟩
      rw [List.length_map] at a1
      obtain ⟨k, rfl⟩ : ∃ k : Nat, d7 = (k : Int) := ⟨d7.toNat, by omega⟩
      have hk : k < ns.length := by omega
      have st1 := st.trans t1
      have mv : ∀ {G G' : Hp}, Stp r G G' → Refs blkV G qs bs → Rng G r → Refs blkV G' qs bs := fun {G G'} t rf rg => rf.mono fun p xs e => t.2 p _ (fun z => by
        obtain ⟨_, _, e2, _⟩ := rg
        rw [z, e2] at e
        cases e) e
      have rf1 := mv t1 rf st.1
      have hG1 := t1.2 _ _ nrR hG
      have hs1 := st1.2 _ _ nsr hs
      have z1 := (chain g).pos k hk
      have z2 := sz_le g hk
      refine ⟨_, rfl, _, rfl, s, _, _, _, rfl, rfl, SqL.of hs1, at_sz hk, _, rfl, _, _, rfl, rfl, _, rfl, ?_⟩
      by_cases hc : sz ns k ≤ n
      case neg =>
        exact ifF (decide_eq_false hc) ⟨_, _, _, _, qs, bs, rfl, st1, hG1, rf1, un, by omega⟩
      refine ifT (decide_eq_true hc) ?_
      have j1 : 1 ≤ n / sz ns k := (Int.le_ediv_iff_mul_le (by omega)).mpr (by omega)
      have j2 : n / sz ns k ≤ 100000000000 := Int.le_trans (Int.ediv_le_self _ (by omega)) n2
      refine ⟨_, rfl, _, rfl, _, rfl, _, rfl, s, _, _, _, rfl, rfl, SqL.of hs1, at_sz hk, _, _, rfl, rfl, wide_div (b := 64) (by omega) (by omega) (by decide) (by decide), r, _, rfl, st1.1, j1, by omega, fun d8 G2 b0 b1 t2 => ?_⟩
      have st2 := st1.trans t2
      have hs2 := st2.2 _ _ nsr hs
      refine ⟨_, rfl, _, rfl, s, _, _, _, rfl, rfl, SqL.of hs2, at_sz hk, _, _, rfl, rfl, .inr ⟨by omega, by omega⟩, ?_⟩
      have ad0 : 0 ≤ d8 * sz ns k := Int.mul_nonneg b0 (by omega)
      have ad1 : d8 * sz ns k ≤ 100000000000 := by
        have h1 := (dn_iff (s := sz ns k) (e := n) (i := d8) z1).mp b1
        omega
      have rf2 := mv t2 rf1 st1.1
      have hG2 := t2.2 _ _ nrR hG1
      refine ⟨_, rfl, _, _, rfl, rfl, true, bT (by omega), iteT ?_⟩
      have mx : 1 ≤ (if one > 1 then one else 1) ∧ (if one > 1 then one else 1) ≤ 100 := by
        split <;> omega
      refine ⟨_, rfl, _, rfl, _, _, rfl, r, _, rfl, st2.1, mx.1, by omega, fun d9 G3 c0 c1 t3 => ?_⟩
      have st3 := st2.trans t3
      have hs3 := st3.2 _ _ nsr hs
      have rf3 := mv t3 rf2 st2.1
      have hG3 := t3.2 _ _ nrR hG2
      refine ⟨rfl, ?_⟩
      refine ⟨_, rfl, _, rfl, _, rfl, _, rfl, _, rfl, s, R, ns, n, qs, bs, k, _, rfl, hs3, ⟨hG3, rf3, fun b hb => (un.ok b hb).1, by omega⟩, g, hk, ad0, by omega, fun G4 s4 => ?_⟩
      have st4 : Stp r H G4 := ⟨by
        obtain ⟨x, y, e, z⟩ := st3.1
        exact ⟨x, y, s4 _ _ e, z⟩, fun b o nb e => s4 _ _ (st3.2 b o nb e)⟩
      have rf4 := rf3.same s4
      have hG4 := s4 _ _ hG3
      refine ⟨_, rfl, ?_⟩
      cases hsp : spaceB ns n bs k (d8 * sz ns k) with
      | false => exact iteF ⟨_, _, _, _, qs, bs, rfl, st4, hG4, rf4, un, by omega⟩
      | true =>
        have ql := rf.len
        refine iteT ⟨_, rfl, .inl ⟨rfl, _, SqL.of hG4⟩, _, rfl, _, rfl, _, rfl, two, fun u hu => ?_⟩
        have nM : R ≠ u := ne_of_none hG4 hu
        refine ⟨R, _, _, rfl, rfl, (by rw [upd_ne nM]; exact hG4), (by rw [List.length_map]; omega), ?_⟩
        refine ⟨_, _, _, _, qs ++ [u], bs ++ [(d8 * sz ns k, k, _)], rfl, ?_, ?_, Refs.more (u := (d8 * sz ns k, k, _)) rf4 hG4 hu, un.snoc hk ad0 hsp, (by rw [List.length_append, List.length_singleton]; omega)⟩
        · refine ⟨?_, fun b o nb e => ?_⟩
          · obtain ⟨x, y, e, z⟩ := st4.1
            exact ⟨x, y, by rw [upd_ne nrR.symm, upd_ne (ne_of_none e hu)]; exact e, z⟩
          · rw [upd_ne (ne_of_none e hRn), upd_ne (ne_of_none (st4.2 b o nb e) hu)]
            exact st4.2 b o nb e
        · rw [upd_same, List.map_append]
          rfl
    · rintro σ G ⟨x6, x7, x8, x9, qs, bs, rfl, st, hG, rf, un, bl⟩
      obtain ⟨k1, k2⟩ := un.keys g rf
      refine ⟨_, rfl, R, _, keyV G, rfl, SqL.of hG, k1, k2, fun zs p hs' hp hpn => ?_⟩
      obtain ⟨qs', bs', rfl, rf', pm, wf⟩ := un.sorted g rf hs' hp
      refine q p qs' bs' _ (st.free hpn) (st.new hpn) upd_same (rf'.same (same_upd hpn)) wf ?_
      rw [pm.length_eq]
      omega
end
end K44

set_option Elab.async false
set_option linter.all false
set_option maxRecDepth 100000
set_option maxHeartbeats 4000000
namespace K44
open PySem PySem.Spec PyProof.Rows L2 Gu Ex
theorem ins_last {ns : List Int} {n : Int} {bs : List Blk} {i j : Nat} {b : Blk} (w : Wf ns n bs) (g : Good ns) (hb : bs[i]? = some b) (h : Below (bs.take i) b.1 j) : insB (bs.take i) j b = bs.take (i + 1) := by
  have il := (List.getElem?_eq_some_iff.mp hb).1
  have tl : (bs.take i).length = i := by rw [List.length_take]; omega
  have ej : j = (bs.take i).length := by
    refine Nat.le_antisymm h.1 ?_
    rcases Nat.lt_or_ge j (bs.take i).length with hl | hl
    · have e := List.getElem?_eq_getElem hl
      have e2 := e
      rw [List.getElem?_take_of_lt (by omega)] at e2
      have lt := (w.lt g e2 hb (by omega)).2
      exact absurd ((h.2 j _ e).mpr lt) (Nat.lt_irrefl _)
    · exact hl
  unfold insB
  rw [ej, List.take_length, List.drop_length, List.append_nil, take_at hb]
section
variable {P : Program} {w : World} {K : PySem.W.Frag} {mg : Str → Option Value} {base : Heap} {f : Addr} {fd : FuncData}
def spLayout (K : PySem.W.Frag) : Sp := fun vs H Q _ => ∃ (s a : Addr) (ns : List Int) (n : Int) (qs : List Addr) (bs : List Blk), vs = [.ref s, .int n, .ref a] ∧ H s = some (.lst (ns.map V.int)) ∧ Good ns ∧ H a = some (.lst (qs.map V.ref)) ∧ Refs blkV H qs bs ∧ Wf ns n bs ∧ bs.length ≤ 100 ∧ 1 ≤ n ∧ n ≤ 100000000000 ∧
  ∀ y zp bl dx dz l ps H', Same H H' → Ly K H' y zp bl dx ps ns n bs → H y = none → H bl = none → H' zp = some (.ins (He.ga K "Sizes") dz (szF l)) → H l = none → Q (.ref y) H'
theorem sc__law_layout : FnScope ["_law_sizes_here", "_law_length", "_law_blocks_here", "_law_layout_here", "_law_address", "_law_level", "_law_is_pinned"] ["_law_sizes_here", "_law_length", "_law_blocks_here"] (defScope (top 56)) := ⟨rfl, rfl, rfl, by decide +kernel, rfl, by decide +kernel, by decide +kernel⟩
theorem ok_layout (T : Tx K mg) (D_Sizes : Kf P w K mg base 4 "Sizes" ["self", "values"] (spMade K)) (D_Layout : Kf P w K mg base 4 "Layout" ["self", "sizes", "length"] (spNew K)) (M_put_kw : MfK P w K mg base 8 "Layout" "put" ["self", "level", "address", "pinned"] 3 ["pinned"] (spPut K))
    (F : FnP K "_law_layout" "_law_layout" (top 56) f fd) : FnOk P w K mg base CX0 9 f fd ["_law_sizes_here", "_law_length", "_law_blocks_here"] (spLayout K) := by
  refine F.ok sc__law_layout (fun vs H Q E h => ?_) (fun cdv A outer s H vs Q E hr h => ⟨_, PSs.nox (pss_cons (ps_set (i := 3) sc__law_layout.nd rfl (by first | exact Or.inl rfl | exact Or.inr rfl) (pmake D_Layout hr (pa_cons (pmake D_Sizes hr (pa_cons (pv 0) pa_nil)) (pa_cons (pv 1) pa_nil)))) (pss_cons (ps_for PassesOwn.never rfl (pi_list (pv 2)) (pg_tup (by rfl) (pgs_cons (pg_name (i := 4) sc__law_layout.nd rfl (by first | exact Or.inl rfl | exact Or.inr rfl)) (pgs_cons (pg_name (i := 5) sc__law_layout.nd rfl (by first | exact Or.inl rfl | exact Or.inr rfl)) (pgs_cons (pg_name (i := 6) sc__law_layout.nd rfl (by first | exact Or.inl rfl | exact Or.inr rfl)) pgs_nil)))) (pss_one (ps_expr (pmethK M_put_kw hr (pv 3) (pa_cons (pv 5) (pa_cons (pv 4) pa_nil)) (pk_cons (pv 6) pk_nil))))) (pss_one (ps_ret (pv 3))))), ?_⟩)
  · obtain ⟨s, a, ns, n, qs, bs, rfl, _⟩ := h
    rfl
  · obtain ⟨s, a, ns, n, qs, bs, rfl, hs, g, ha, rf, wf, b100, n1, n2, q⟩ := h
    have ql := rf.len
    refine ⟨_, rfl, ?_⟩
    intro x dz hx hdz ndz
    have e1 : (upd (upd H dz (.own x)) x (.ins (He.ga K "Sizes") dz [])) s = some (.lst (ns.map V.int)) := by
      rw [upd_ne (ne_of_none hs hx), upd_ne (ne_of_none hs hdz)]
      exact hs
    refine ⟨x, dz, s, ns, rfl, upd_same, SqL.of e1, .base (.lst e1), g, fun l hl => ⟨rfl, ?_⟩⟩
    have nxl : x ≠ l := ne_of_none upd_same hl
    have ndl : dz ≠ l := fun z => by
      rw [← z, upd_ne ndz, upd_same] at hl
      cases hl
    have l0 : H l = none := by
      rw [upd_ne nxl.symm, upd_ne ndl.symm] at hl
      exact hl
    refine ⟨_, rfl, ?_⟩
    intro y dx hy hdx ndx
    have kp1 : ∀ {c : Addr} {o : HO}, H c = some o → (upd (upd (upd (upd H dz (.own x)) x (.ins (He.ga K "Sizes") dz [])) l (.lst (ns.map V.int))) x (.ins (He.ga K "Sizes") dz (szF l))) c = some o := fun {c o} e => by
      rw [upd_ne (ne_of_none e hx), upd_ne (ne_of_none e l0), upd_ne (ne_of_none e hx), upd_ne (ne_of_none e hdz)]
      exact e
    have hx1 : (upd (upd (upd (upd H dz (.own x)) x (.ins (He.ga K "Sizes") dz [])) l (.lst (ns.map V.int))) x (.ins (He.ga K "Sizes") dz (szF l))) x = some (.ins (He.ga K "Sizes") dz (szF l)) := upd_same
    have hl1 : (upd (upd (upd (upd H dz (.own x)) x (.ins (He.ga K "Sizes") dz [])) l (.lst (ns.map V.int))) x (.ins (He.ga K "Sizes") dz (szF l))) l = some (.lst (ns.map V.int)) := by rw [upd_ne nxl.symm, upd_same]
    have kp2 : ∀ {c : Addr} {o : HO}, (upd (upd (upd (upd H dz (.own x)) x (.ins (He.ga K "Sizes") dz [])) l (.lst (ns.map V.int))) x (.ins (He.ga K "Sizes") dz (szF l))) c = some o → (upd (upd (upd (upd (upd (upd H dz (.own x)) x (.ins (He.ga K "Sizes") dz [])) l (.lst (ns.map V.int))) x (.ins (He.ga K "Sizes") dz (szF l))) dx (.own y)) y (.ins (He.ga K "Layout") dx [])) c = some o := fun {c o} e => by
      rw [upd_ne (ne_of_none e hy), upd_ne (ne_of_none e hdx)]
      exact e
    have free : ∀ {c : Addr}, (upd (upd (upd (upd (upd (upd H dz (.own x)) x (.ins (He.ga K "Sizes") dz [])) l (.lst (ns.map V.int))) x (.ins (He.ga K "Sizes") dz (szF l))) dx (.own y)) y (.ins (He.ga K "Layout") dx [])) c = none → H c = none := fun {c} e => by
      cases e2 : H c with
      | none => rfl
      | some o =>
        exact nomatch (kp2 (kp1 e2)).symm.trans e
    have y0 : H y = none := by
      cases e2 : H y with
      | none => rfl
      | some o =>
        exact nomatch (kp1 e2).symm.trans hy
    refine ⟨y, x, dx, ns, n, rfl, upd_same, ⟨dz, l, kp2 hx1, kp2 hl1⟩, g, n1, by omega, fun bl H' hbl keep L => ⟨rfl, ?_⟩⟩
    have bl0 := free hbl
    have sm : Same H H' := fun c o e => keep c o (ne_of_none e y0) (kp2 (kp1 e))
    have hx' : H' x = some (.ins (He.ga K "Sizes") dz (szF l)) := keep x _ (ne_of_none hx1 hy) (kp2 hx1)
    refine ⟨_, rfl, a, rfl, ⟨_, SqL.of (sm _ _ ha)⟩, ?_⟩
    refine for_list (K := K) (a := a) (xs := qs.map V.ref) (fun i σ G => ∃ (ps : List Addr) (x4 x5 x6 : Option V), σ = [some (.ref s), some (.int n), some (.ref a), some (.ref y), x4, x5, x6] ∧ Same H G ∧ Ly K G y x bl dx ps ns n (bs.take i) ∧ G x = some (.ins (He.ga K "Sizes") dz (szF l))) ⟨[], none, none, none, rfl, sm, L, hx'⟩ (fun i σ G _ ⟨_, _, _, _, _, sm, _⟩ => SqL.of (sm _ _ ha)) ?_ ?_
    · rintro i v σ G hv ⟨ps, x4, x5, x6, rfl, sm, L, hxG⟩
      obtain ⟨p, hp, rfl⟩ := ref_of hv
      obtain ⟨b, hb, hT⟩ := (rf.same sm).get hp
      have hT' : G p = some (.tup [.int b.1, .int (b.2.1 : Nat), .bl b.2.2]) := hT
      have bm := List.mem_of_getElem? hb
      have bo := wf.ok b bm
      have z1 := (chain g).pos _ bo.1
      refine ⟨p, _, rfl, .inl (.inl hT'), rfl, _, _, rfl, _, _, rfl, _, _, rfl, rfl, ?_⟩
      refine ⟨_, rfl, y, dx, _, rfl, L.at_, lay_nm (by decide +kernel), _, rfl, _, rfl, _, rfl, rfl, rfl, y, x, bl, dx, ps, ns, n, b.1, bs.take i, b.2.1, b.2.2, rfl, L, (by rw [List.length_take]; omega), bo.1, bo.2.1, Int.emod_eq_zero_of_dvd bo.2.2.1, bo.2.2.2, fun c hc => ?_, fun j ps' G' hbw L' bt => ?_⟩
      · obtain ⟨jj, hj, ej⟩ := mem_take_at hc
        exact .inl (wf.lt g ej hb hj).1
      · rw [show (b.1, b.2.1, b.2.2) = b from rfl, ins_last wf g hb hbw] at L'
        obtain ⟨_, _, _, _, zy, zb, _, _, _⟩ := L.far
        exact ⟨ps', _, _, _, rfl, fun c o e => bt c o (ne_of_none e y0) (ne_of_none e bl0) (sm c o e), L', bt _ _ zy zb hxG⟩
    · rintro σ G ⟨ps, x4, x5, x6, rfl, sm, L, hxG⟩
      rw [List.length_map, ql, List.take_length] at L
      exact ⟨_, rfl, q y x bl dx dz l ps G sm L y0 bl0 hxG l0⟩
end
end K44

set_option Elab.async false
set_option linter.all false
set_option maxRecDepth 100000
set_option maxHeartbeats 4000000
namespace K44
open PySem PySem.Spec PyProof.Rows L2 Gu Ex
section
variable {P : Program} {w : World} {K : PySem.W.Frag} {mg : Str → Option Value} {base : Heap} {f : Addr} {fd : FuncData}
def spLW : Sp := fun vs H Q _ => ∃ (c s : Int), vs = [.int c, .int s] ∧ 1 ≤ s ∧ Q (.int (c - c % s)) H
theorem sc__law_whole : FnScope ["_law_cells", "_law_size"] ["_law_cells", "_law_size"] (defScope (top 48)) := ⟨rfl, rfl, rfl, by decide +kernel, rfl, by decide +kernel, by decide +kernel⟩
theorem ok_lwhole (T : Tx K mg) (F : FnP K "_law_whole" "_law_whole" (top 48) f fd) : FnOk P w K mg base CX0 1 f fd ["_law_cells", "_law_size"] spLW := by
  refine F.ok sc__law_whole (fun vs H Q E h => ?_) (fun cdv A outer s H vs Q E hr h => ⟨_, PSs.nox (pss_one (ps_ret (pe_op op_sub (pv 0) (pe_op op_mod (pv 0) (pv 1))))), ?_⟩)
  · obtain ⟨c, s, rfl, _⟩ := h
    rfl
  · obtain ⟨c, s, rfl, h1, q⟩ := h
    exact ⟨_, rfl, _, rfl, _, rfl, _, _, rfl, rfl, (by show (0 : Int) < s; omega), _, _, rfl, rfl, q⟩
def spUnt : Sp := fun vs H Q _ => ∃ (s a : Addr) (ns : List Int) (n : Int) (ps : List Addr) (bs : List Blk) (k : Nat), vs = [.ref s, .int n, .ref a, .int k] ∧ H s = some (.lst (ns.map V.int)) ∧ Bl ns H a ps bs ∧ Good ns ∧ k < ns.length ∧ bs.length < 1000 ∧ ∀ H', Same H H' → Q (.int (untI ns n bs k)) H'
theorem sc__law_untouched : FnScope ["_law_sizes_here", "_law_length", "_law_blocks_here", "_law_level", "_law_size", "_law_larger", "_law_smaller", "_law_one"] ["_law_sizes_here", "_law_length", "_law_blocks_here", "_law_level"] (defScope (top 52)) := ⟨rfl, rfl, rfl, by decide +kernel, rfl, by decide +kernel, by decide +kernel⟩
theorem ok_unt (T : Tx K mg) (F : FnP K "_law_untouched" "_law_untouched" (top 52) f fd) : FnOk P w K mg base CX0 1 f fd ["_law_sizes_here", "_law_length", "_law_blocks_here", "_law_level"] spUnt := by
  refine F.ok sc__law_untouched (fun vs H Q E h => ?_) (fun cdv A outer s H vs Q E hr h => ⟨_, PSs.nox (pss_cons (ps_set (i := 4) sc__law_untouched.nd rfl (by first | exact Or.inl rfl | exact Or.inr rfl) (pe_ix ix_list (pv 0) (pv 3) (fun _ _ => rfl))) (pss_cons (ps_set (i := 5) sc__law_untouched.nd rfl (by first | exact Or.inl rfl | exact Or.inr rfl) (pe_callB (cr_sum rfl) (by rfl) T.n_sum (by decide +kernel) (pa_cons (pe_lc (own := [("_law_one", 7)]) (g := gName 7) rfl sc__law_untouched.nd (pi_list (pv 2)) (blkOk_by (own := [("_law_one", 7)]) (N := ["_law_sizes_here", "_law_length", "_law_blocks_here", "_law_level", "_law_size", "_law_larger", "_law_smaller", "_law_one"]) (sc := defScope (top 52)) (by decide +kernel)) (fun _ _ _ _ _ => pg_name (i := 7) sc__law_untouched.nd rfl (Or.inl rfl)) (fun _ _ _ _ _ => (pts_one (pt_cmpR op_ge (pe_ix (r := rIxL K) ix_list (pv 0) (pe_ix (r := rIxT K) ix_tup (pv 7) pe_int (fun _ _ => rfl)) (fun _ _ => rfl)) (pv 4) (nomark _)))) (fun _ _ _ _ _ => (pe_ix (r := rIxL K) ix_list (pv 0) (pe_ix (r := rIxT K) ix_tup (pv 7) pe_int (fun _ _ => rfl)) (fun _ _ => rfl)))) pa_nil))) (pss_cons (ps_set (i := 6) sc__law_untouched.nd rfl (by first | exact Or.inl rfl | exact Or.inr rfl) (pe_lenSetD rfl (by rfl) T.n_len (by rfl) T.n_set (pe_lc (own := [("_law_one", 7)]) (g := gName 7) rfl sc__law_untouched.nd (pi_list (pv 2)) (blkOk_by (own := [("_law_one", 7)]) (N := ["_law_sizes_here", "_law_length", "_law_blocks_here", "_law_level", "_law_size", "_law_larger", "_law_smaller", "_law_one"]) (sc := defScope (top 52)) (by decide +kernel)) (fun _ _ _ _ _ => pg_name (i := 7) sc__law_untouched.nd rfl (Or.inl rfl)) (fun _ _ _ _ _ => (pts_one (PW.pt (pw_and (pt_cmpR op_lt (pe_ix (r := rIxL K) ix_list (pv 0) (pe_ix (r := rIxT K) ix_tup (pv 7) pe_int (fun _ _ => rfl)) (fun _ _ => rfl)) (pv 4) (nomark _)) (pw_and1 (pt_cmpR op_lt (pe_op op_fdivW (pe_ix (r := rIxT K) ix_tup (pv 7) pe_int (fun _ _ => rfl)) (pv 4)) (pe_op op_fdivW (pv 1) (pv 4)) (nomark _))))))) (fun _ _ _ _ _ => (pe_op op_fdivW (pe_ix (r := rIxT K) ix_tup (pv 7) pe_int (fun _ _ => rfl)) (pv 4)))))) (pss_one (ps_ret (pe_op op_sub (pe_op op_sub (pe_op op_mul (pe_op op_fdivW (pv 1) (pv 4)) (pv 4)) (pv 5)) (pe_op op_mul (pv 6) (pv 4)))))))), ?_⟩)
  · obtain ⟨s, a, ns, n, ps, bs, k, rfl, _⟩ := h
    rfl
  · obtain ⟨s, a, ns, n, ps, bs, k, rfl, hs, B, g, hk, b64, q⟩ := h
    have pl := B.rf.len
    have sl : sizeLine = 16777216 := sizeLine_eq
    have z1 := (chain g).pos k hk
    have z2 := sz_le g hk
    refine ⟨_, rfl, _, rfl, s, _, _, _, rfl, rfl, SqL.of hs, at_sz hk, ?_⟩
    refine ⟨_, rfl, a, rfl, ⟨_, SqL.of B.at_⟩, fun D hD => ?_⟩
    refine lc_list (K := K) (a := a) (xs := ps.map V.ref) (fun i G => G D = some (.lst ((((bs.take i).filter fun b => decide (sz ns k ≤ sz ns b.2.1)).map fun b => sz ns b.2.1).map V.int)) ∧ Same H G) ⟨upd_same, same_upd hD⟩ (fun i G _ ⟨_, sm⟩ => SqL.of (sm _ _ B.at_)) ?_ ?_
    · rintro i x G hx ⟨hG, sm⟩
      obtain ⟨p, hp, rfl⟩ := ref_of hx
      obtain ⟨b, hb, hT⟩ := (B.rf.same sm).get hp
      have hT' : G p = some (.tup [.int b.1, .int (b.2.1 : Nat), .bl b.2.2]) := hT
      have bk := B.lv b (List.mem_of_getElem? hb)
      have il : i < bs.length := (List.getElem?_eq_some_iff.mp hb).1
      have hsG := sm _ _ hs
      have fa : (bs.take (i + 1)).filter (fun b => decide (sz ns k ≤ sz ns b.2.1)) = (bs.take i).filter (fun b => decide (sz ns k ≤ sz ns b.2.1)) ++ (if decide (sz ns k ≤ sz ns b.2.1) = true then [b] else []) := filter_at (fun b => decide (sz ns k ≤ sz ns b.2.1)) hb
      have fl := List.length_filter_le (fun b : Blk => decide (sz ns k ≤ sz ns b.2.1)) (bs.take i)
      rw [List.length_take] at fl
      refine ⟨rfl, _, rfl, _, rfl, p, _, _, _, rfl, rfl, .inl (.inl hT'), rfl, s, _, _, _, rfl, rfl, SqL.of hsG, at_sz bk, _, rfl, _, _, rfl, rfl, _, rfl, ?_⟩
      by_cases hc : sz ns k ≤ sz ns b.2.1
      · rw [if_pos (decide_eq_true hc)] at fa
        refine ifT (decide_eq_true hc) ⟨_, rfl, _, rfl, p, _, _, _, rfl, rfl, .inl (.inl hT'), rfl, s, _, _, _, rfl, rfl, SqL.of hsG, at_sz bk, _, hG, (by rw [List.length_map, List.length_map]; omega), ?_, fun c o e => ?_⟩
        · rw [upd_same, fa, List.map_append, List.map_append]
          rfl
        · rw [upd_ne (ne_of_none e hD)]
          exact sm c o e
      · rw [if_neg (fun z => hc (of_decide_eq_true z)), List.append_nil] at fa
        refine ifF (decide_eq_false hc) ⟨?_, sm⟩
        rw [fa]
        exact hG
    · rintro G ⟨hG, sm⟩
      rw [List.length_map, pl, List.take_length] at hG
      refine ⟨D, _, rfl, SqL.of hG, ?_⟩
      have BG := B.same sm
      have hsG := sm _ _ hs
      refine ⟨_, rfl, a, rfl, ⟨_, SqL.of BG.at_⟩, fun D2 hD2 => ?_⟩
      refine lc_list (K := K) (a := a) (xs := ps.map V.ref) (fun i G2 => G2 D2 = some (.lst ((((bs.take i).filter (smaP ns n k)).map fun b => b.1 / sz ns k).map V.int)) ∧ Same G G2) ⟨upd_same, same_upd hD2⟩ (fun i G2 _ ⟨_, sm⟩ => SqL.of (sm _ _ BG.at_)) ?_ ?_
      · rintro i x G2 hx ⟨hG2, sm2⟩
        obtain ⟨p, hp, rfl⟩ := ref_of hx
        obtain ⟨b, hb, hT⟩ := (BG.rf.same sm2).get hp
        have hT' : G2 p = some (.tup [.int b.1, .int (b.2.1 : Nat), .bl b.2.2]) := hT
        have bk := B.lv b (List.mem_of_getElem? hb)
        have il : i < bs.length := (List.getElem?_eq_some_iff.mp hb).1
        have hsG := sm2 _ _ hsG
        have fa := filter_at (smaP ns n k) hb
        have fl := List.length_filter_le (smaP ns n k) (bs.take i)
        rw [List.length_take] at fl
        refine ⟨rfl, _, rfl, _, rfl, p, _, _, _, rfl, rfl, .inl (.inl hT'), rfl, s, _, _, _, rfl, rfl, SqL.of hsG, at_sz bk, _, rfl, _, _, rfl, rfl, _, rfl, ?_⟩
        by_cases hc : sz ns b.2.1 < sz ns k
        · refine ifT (decide_eq_true hc) ⟨_, rfl, p, _, _, _, rfl, rfl, .inl (.inl hT'), rfl, _, rfl, _, _, rfl, rfl, div_ok z1 z2, _, rfl, _, rfl, _, _, rfl, rfl, div_ok z1 z2, _, _, rfl, rfl, _, rfl, ?_⟩
          by_cases hd : b.1 / sz ns k < n / sz ns k
          · have e : smaP ns n k b = true := by
              unfold smaP
              rw [decide_eq_true hc, decide_eq_true hd]
              rfl
            rw [if_pos e] at fa
            refine ifT (decide_eq_true hd) ⟨_, rfl, p, _, _, _, rfl, rfl, .inl (.inl hT'), rfl, _, rfl, _, _, rfl, rfl, div_ok z1 z2, _, hG2, (by rw [List.length_map, List.length_map]; omega), ?_, fun c o e => ?_⟩
            · rw [upd_same, fa, List.map_append, List.map_append]
              rfl
            · rw [upd_ne (ne_of_none e hD2)]
              exact sm2 c o e
          · have e : smaP ns n k b = false := by
              unfold smaP
              rw [decide_eq_false hd, Bool.and_false]
            rw [e, if_neg Bool.false_ne_true, List.append_nil] at fa
            refine ifF (decide_eq_false hd) ⟨?_, sm2⟩
            rw [fa]
            exact hG2
        · have e : smaP ns n k b = false := by
            unfold smaP
            rw [decide_eq_false hc, Bool.false_and]
          rw [e, if_neg Bool.false_ne_true, List.append_nil] at fa
          refine ifF (decide_eq_false hc) ⟨?_, sm2⟩
          rw [fa]
          exact hG2
      · rintro G2 ⟨hG2, sm2⟩
        rw [List.length_map, pl, List.take_length] at hG2
        have fl := List.length_filter_le (smaP ns n k) bs
        refine ⟨D2, smaL ns n k bs, rfl, SqL.of hG2, (by unfold smaL; rw [List.length_map]; omega), ?_⟩
        exact ⟨_, rfl, _, rfl, _, _, rfl, rfl, div_ok z1 z2, _, rfl, _, _, rfl, rfl, .inr ⟨by omega, by omega⟩, _, rfl, _, _, rfl, rfl, _, rfl, _, rfl, _, _, rfl, rfl, .inr ⟨by omega, by omega⟩, _, _, rfl, rfl, q G2 (sm.trans sm2)⟩
/-- the blocks that the law keeps, beside its sizes -/
structure Lb (ns : List Int) (n : Int) (H : Hp) (s a : Addr) (qs : List Addr) (bs : List Blk) : Prop where
  hs : H s = some (.lst (ns.map V.int))
  ha : H a = some (.lst (qs.map V.ref))
  rf : Refs blkV H qs bs
  wf : Wf ns n bs
  gd : Good ns
  n0 : 0 ≤ n
  ln : bs.length ≤ 16
theorem Lb.same {ns : List Int} {n : Int} {H H' : Hp} {s a : Addr} {qs : List Addr} {bs : List Blk} (h : Lb ns n H s a qs bs) (sm : Same H H') : Lb ns n H' s a qs bs := ⟨sm _ _ h.hs, sm _ _ h.ha, h.rf.same sm, h.wf, h.gd, h.n0, h.ln⟩
def spLClear : Sp := fun vs H Q _ => ∃ (s a : Addr) (ns : List Int) (n : Int) (qs : List Addr) (bs : List Blk) (k : Nat), vs = [.ref s, .int n, .ref a, .int k] ∧ Lb ns n H s a qs bs ∧ k < ns.length ∧ ∀ H', Same H H' → Q (.int (clrI ns n bs k)) H'
def spLLoose : Sp := fun vs H Q _ => ∃ (s a : Addr) (ns : List Int) (n : Int) (qs : List Addr) (bs : List Blk) (k : Nat), vs = [.ref s, .ref a, .int k] ∧ Lb ns n H s a qs bs ∧ k < ns.length ∧ ∀ H', Same H H' → Q (.int (lseI ns bs k)) H'
end
end K44

set_option Elab.async false
set_option linter.all false
set_option maxRecDepth 100000
set_option maxHeartbeats 4000000
set_option pp.maxSteps 900
namespace K44
open PySem PySem.Spec PyProof.Rows L2 Gu Ex
section
variable {P : Program} {w : World} {K : PySem.W.Frag} {mg : Str → Option Value} {base : Heap} {f : Addr} {fd : FuncData}
def fitB (ns : List Int) (a hi : Int) (k : Nat) : Bool := decide (a % sz ns k = 0) && decide (a + sz ns k ≤ hi)
def spRunsL : Sp := fun vs H Q _ => ∃ (s : Addr) (ns : List Int) (lo hi : Int), vs = [.ref s, .int lo, .int hi] ∧ H s = some (.lst (ns.map V.int)) ∧ Good ns ∧ 0 ≤ lo ∧ lo ≤ hi ∧ hi ≤ 1000000000000 ∧
  ∀ L ps H', H L = none → Same H H' → H' L = some (.lst (ps.map V.ref)) → Refs runV H' ps (M16.R (sz ns) ns.length hi lo) → Q (.ref L) H'
theorem lv_is {ns : List Int} (g : Good ns) {a hi : Int} (h : a < hi) {m : Int} (h1 : m ∈ ((List.range ns.length).filter (fitB ns a hi)).map fun k : Nat => (k : Int)) (h2 : ∀ y ∈ ((List.range ns.length).filter (fitB ns a hi)).map fun k : Nat => (k : Int), y ≤ m) : m = (M16.L (sz ns) ns.length hi a : Nat) := by
  have c := chain g
  obtain ⟨k, hk, rfl⟩ := List.mem_map.mp h1
  obtain ⟨k1, k2⟩ := List.mem_filter.mp hk
  have k1 := List.mem_range.mp k1
  unfold fitB at k2
  rw [Bool.and_eq_true, decide_eq_true_eq, decide_eq_true_eq] at k2
  have e1 : k ≤ M16.L (sz ns) ns.length hi a := Classical.byContradiction fun z => M16.L_max c (a := a) (hi := hi) k1 (by omega) k2
  have e2 := h2 (M16.L (sz ns) ns.length hi a : Nat) (List.mem_map.mpr ⟨_, List.mem_filter.mpr ⟨List.mem_range.mpr (M16.L_lt c), by
    have := M16.L_lies c h
    unfold fitB
    rw [decide_eq_true this.1, decide_eq_true this.2]
    rfl⟩, rfl⟩)
  omega
theorem up_nx {z a : Int} (hz : 1 ≤ z) : (a + z - 1) / z * z = M16.nx z a := by
  have h1 := M16.nx_dvd z a
  have h2 := M16.nx_ge a hz
  have h3 := M16.nx_lt a hz
  have e : (a + z - 1) / z * z = (a + z - 1) - (a + z - 1) % z := by
    have := Int.mul_ediv_add_emod (a + z - 1) z
    rw [Int.mul_comm] at this
    omega
  have d : z ∣ (a + z - 1) / z * z := Int.dvd_mul_left _ _
  have m0 := Int.emod_nonneg (a + z - 1) (show z ≠ 0 by omega)
  have m1 := Int.emod_lt_of_pos (a + z - 1) (show 0 < z by omega)
  rw [e] at d ⊢
  have le : M16.nx z a ≤ (a + z - 1) - (a + z - 1) % z := M16.nx_least hz d (by omega)
  rcases Int.lt_or_eq_of_le le with k | k
  · have := M16.gap h1 d k
    omega
  · exact k.symm
theorem many2 {s : Nat → Int} {m : Nat} {hi a : Int} (c : M16.Ch s m) (h : a < hi) (c2 : ¬ (M16.L s m hi a + 1 < m ∧ M16.nx (s (M16.L s m hi a + 1)) a + s (M16.L s m hi a + 1) ≤ hi)) : (hi - a) / s (M16.L s m hi a) = (M16.en s m hi a - a) / s (M16.L s m hi a) := by
  rw [M16.en2 c2]
  have z := c.pos _ (M16.L_lt (s := s) (hi := hi) (a := a) c)
  obtain ⟨k, hk⟩ := M16.dvd0 (M16.L_lies c h).1
  generalize s (M16.L s m hi a) = z1 at *
  have e : (hi - hi % z1 - a) = z1 * (hi / z1 - k) := by
    have := Int.mul_ediv_add_emod hi z1
    rw [Int.mul_sub, ← hk]
    omega
  have e2 : hi - a = hi + z1 * (-k) := by rw [Int.mul_neg, ← hk]; omega
  rw [e, Int.mul_ediv_cancel_left _ (by omega), e2, Int.add_mul_ediv_left _ _ (by omega)]
  omega
theorem ints_refs (ns : List Int) (ps : List Addr) {x : Prop} (g : Good ns) (h : some (HO.lst (ps.map V.ref)) = some (.lst (ns.map V.int))) : x := by
  have h0 := g.one
  cases ns with
  | nil => cases h0
  | cons n r =>
    cases ps with
    | nil => cases h
    | cons p ps => cases h
theorem sc__law_runs : FnScope ["_law_sizes_here", "_law_low", "_law_high", "_law_result", "_law_at", "_law_level", "_law_many", "_law_large", "_law_up", "_law_k"] ["_law_sizes_here", "_law_low", "_law_high"] (defScope (top 53)) := ⟨rfl, rfl, rfl, by decide +kernel, rfl, by decide +kernel, by decide +kernel⟩
theorem ok_lruns (T : Tx K mg) (F : FnP K "_law_runs" "_law_runs" (top 53) f fd) : FnOk P w K mg base CX0 1 f fd ["_law_sizes_here", "_law_low", "_law_high"] spRunsL := by
  refine F.ok sc__law_runs (fun vs H Q E h => ?_) (fun cdv A outer s H vs Q E hr h => ⟨_, PSs.nox (pss_cons (ps_asg (pe_tup (pa_cons (pe_lst pa_nil) (pa_cons (pv 1) pa_nil))) (pg_tup (by rfl) (pgs_cons (pg_name (i := 3) sc__law_runs.nd rfl (by first | exact Or.inl rfl | exact Or.inr rfl)) (pgs_cons (pg_name (i := 4) sc__law_runs.nd rfl (by first | exact Or.inl rfl | exact Or.inr rfl)) pgs_nil)))) (pss_cons (ps_while PassesOwn.never (pt_cmpR op_lt (pv 4) (pv 2) (nomark _)) (pss_cons (ps_set (i := 5) sc__law_runs.nd rfl (by first | exact Or.inl rfl | exact Or.inr rfl) (pe_callB (cr_max rfl) (by rfl) T.n_max (by decide +kernel) (pa_cons (pe_lc (own := [("_law_k", 9)]) (g := gName 9) rfl sc__law_runs.nd (pi_range1 rfl T.n_range (pa_cons (pe_callB call_len_seq (by rfl) T.n_len (by decide +kernel) (pa_cons (pv 0) pa_nil)) pa_nil)) (blkOk_by (own := [("_law_k", 9)]) (N := ["_law_sizes_here", "_law_low", "_law_high", "_law_result", "_law_at", "_law_level", "_law_many", "_law_large", "_law_up", "_law_k"]) (sc := defScope (top 53)) (by decide +kernel)) (fun _ _ _ _ _ => pg_name (i := 9) sc__law_runs.nd rfl (Or.inl rfl)) (fun _ _ _ _ _ => (pts_one (PW.pt (pw_and (pt_cmpR op_eq (pe_op op_mod (pv 4) (pe_ix (r := rIxL K) ix_list (pv 0) (pv 9) (fun _ _ => rfl))) pe_int (nomark _)) (pw_and1 (pt_cmpR op_le (pe_op op_add (pv 4) (pe_ix (r := rIxL K) ix_list (pv 0) (pv 9) (fun _ _ => rfl))) (pv 2) (nomark _))))))) (fun _ _ _ _ _ => (pv 9))) pa_nil))) (pss_cons (ps_set (i := 6) sc__law_runs.nd rfl (by first | exact Or.inl rfl | exact Or.inr rfl) (pe_op op_fdivW (pe_op op_sub (pv 2) (pv 4)) (pe_ix ix_list (pv 0) (pv 5) (fun _ _ => rfl)))) (pss_cons (ps_if (pt_cmpR op_lt (pe_op op_add (pv 5) pe_int) (pe_callB call_len_seq (by rfl) T.n_len (by decide +kernel) (pa_cons (pv 0) pa_nil)) (nomark _)) (pss_cons (ps_set (i := 7) sc__law_runs.nd rfl (by first | exact Or.inl rfl | exact Or.inr rfl) (pe_ix ix_list (pv 0) (pe_op op_add (pv 5) pe_int) (fun _ _ => rfl))) (pss_cons (ps_set (i := 8) sc__law_runs.nd rfl (by first | exact Or.inl rfl | exact Or.inr rfl) (pe_op op_mul (pe_op op_fdivW (pe_op op_sub (pe_op op_add (pv 4) (pv 7)) pe_int) (pv 7)) (pv 7))) (pss_one (ps_if (pt_cmpR op_le (pe_op op_add (pv 8) (pv 7)) (pv 2) (nomark _)) (pss_one (ps_set (i := 6) sc__law_runs.nd rfl (by first | exact Or.inl rfl | exact Or.inr rfl) (pe_op op_fdivW (pe_op op_sub (pv 8) (pv 4)) (pe_ix ix_list (pv 0) (pv 5) (fun _ _ => rfl))))) pss_nil)))) pss_nil) (pss_cons (ps_expr (pe_bm PySem.F.plainAttrs_list PySem.F.slot_list_append PySem.F.type_list_append mt_append (pv 3) (pa_cons (pe_tup (pa_cons (pv 5) (pa_cons (pv 4) (pa_cons (pv 6) pa_nil)))) pa_nil))) (pss_one (ps_set (i := 4) sc__law_runs.nd rfl (by first | exact Or.inl rfl | exact Or.inr rfl) (pe_op op_add (pv 4) (pe_op op_mul (pv 6) (pe_ix ix_list (pv 0) (pv 5) (fun _ _ => rfl))))))))))) (pss_one (ps_ret (pv 3))))), ?_⟩)
  · obtain ⟨s, ns, lo, hi, rfl, _⟩ := h
    rfl
  · obtain ⟨s, ns, lo, hi, rfl, hs, g, lo0, le, hi9, q⟩ := h
    have c := chain g
    have sl : sizeLine = 16777216 := sizeLine_eq
    have g8 := g.len
    refine ⟨(by show 0 ≤ sizeLine; decide), fun L hL => ⟨_, rfl, (by show 2 ≤ sizeLine; decide), fun t ht => ?_⟩⟩
    refine ⟨t, _, rfl, .inl (.inl upd_same), rfl, _, _, rfl, _, _, rfl, rfl, ?_⟩
    have s0 := (same_upd (o := .lst []) hL).trans (same_upd (o := .tup [.ref L, .int lo]) ht)
    have hL0 : (upd (upd H L (.lst [])) t (.tup [.ref L, .int lo])) L = some (.lst (([] : List Addr).map V.ref)) := same_upd (o := .tup [.ref L, .int lo]) ht _ _ upd_same
    generalize upd (upd H L (.lst [])) t (.tup [.ref L, .int lo]) = H0 at s0 hL0
    refine ⟨fun m σ G => ∃ (a : Int) (ps : List Addr) (done : List M16.Run) (x5 x6 x7 x8 : Option V), m = (hi - a).toNat ∧ σ = [some (.ref s), some (.int lo), some (.int hi), some (.ref L), some (.int a), x5, x6, x7, x8, none] ∧ Same H G ∧ G L = some (.lst (ps.map V.ref)) ∧ Refs runV G ps done ∧ M16.Mid (sz ns) ns.length hi lo a done,
      ⟨_, lo, [], [], none, none, none, none, rfl, rfl, s0, hL0, .nil, M16.mid0 c le⟩, ?_⟩
    rintro m σ G ⟨a, ps, done, x5, x6, x7, x8, rfl, rfl, sm, hG, rf, M⟩
    refine ⟨_, rfl, _, rfl, _, _, rfl, rfl, _, rfl, ?_⟩
    by_cases hc : a < hi
    case neg =>
      refine ifF (decide_eq_false hc) ⟨_, rfl, q L ps G hL sm hG ?_⟩
      have e := M.eq
      rw [M16.R_end hc, List.append_nil] at e
      rw [e]
      exact rf
    refine ifT (decide_eq_true hc) ?_
    have la := M.lo_le
    have short : done.length ≤ 16 := by
      have l := M16.R_short (s := sz ns) (a := lo) (hi := hi) c g.len.2
      have l2 := congrArg List.length M.eq
      rw [List.length_append] at l2
      omega
    refine ⟨fun σ' G' => ∃ (ps : List Addr) (done : List M16.Run) (x5 x6 x7 x8 : Option V), σ' = [some (.ref s), some (.int lo), some (.int hi), some (.ref L), some (.int (M16.en (sz ns) ns.length hi a)), x5, x6, x7, x8, none] ∧ Same H G' ∧ G' L = some (.lst (ps.map V.ref)) ∧ Refs runV G' ps done ∧ M16.Mid (sz ns) ns.length hi lo (M16.en (sz ns) ns.length hi a) done,
      fun σ' G' ⟨ps, done, x5, x6, x7, x8, r⟩ => ⟨_, (by have gg : a < M16.en (sz ns) ns.length hi a := M16.en_gt c hc; show (hi - M16.en (sz ns) ns.length hi a).toNat < _; omega), M16.en (sz ns) ns.length hi a, ps, done, x5, x6, x7, x8, rfl, r⟩, ?_⟩
    have hsG := sm _ _ hs
    refine ⟨_, rfl, s, _, rfl, .inl (SqL.of hsG), _, rfl, (by omega), (by rw [List.length_map]; omega), fun D hD => ?_⟩
    refine lc_range (fun i G' => G' D = some (.lst ((((List.range i).filter (fitB ns a hi)).map fun k : Nat => (k : Int)).map V.int)) ∧ Same G G') ⟨upd_same, same_upd hD⟩ ?_ ?_
    · rintro i G1 hi2 ⟨hD1, s1⟩
      rw [List.length_map] at hi2
      have ik : i < ns.length := by omega
      have z1 := c.pos i ik
      have fl := List.length_filter_le (fitB ns a hi) (List.range i)
      rw [List.length_range] at fl
      refine ⟨rfl, _, rfl, _, rfl, _, rfl, s, _, _, _, rfl, rfl, SqL.of (s1 _ _ hsG), (by rw [Int.zero_add]; exact at_sz ik), _, _, rfl, rfl, (by show 0 < sz ns i; omega), rfl, _, rfl, ?_⟩
      have tk : (List.range (i + 1)).filter (fitB ns a hi) = (List.range i).filter (fitB ns a hi) ++ (if fitB ns a hi i then [i] else []) := by
        rw [List.range_succ, List.filter_append]
        cases e : fitB ns a hi i <;> simp [e]
      have no : fitB ns a hi i = false → G1 D = some (.lst ((((List.range (i + 1)).filter (fitB ns a hi)).map fun k : Nat => (k : Int)).map V.int)) ∧ Same G G1 := fun e => by
        rw [tk, e]
        refine ⟨?_, s1⟩
        simpa using hD1
      by_cases h1 : a % sz ns i = 0
      · refine ifT (vT h1) ?_
        refine ⟨_, rfl, _, rfl, _, rfl, s, _, _, _, rfl, rfl, SqL.of (s1 _ _ hsG), (by rw [Int.zero_add]; exact at_sz ik), _, _, rfl, rfl, _, rfl, _, _, rfl, rfl, _, rfl, ?_⟩
        by_cases h2 : a + sz ns i ≤ hi
        · have fit : fitB ns a hi i = true := by unfold fitB; rw [decide_eq_true h1, decide_eq_true h2]; rfl
          refine ifT (decide_eq_true h2) ⟨_, rfl, _, hD1, (by rw [List.length_map, List.length_map]; omega), ?_, fun c o e => ?_⟩
          · rw [upd_same, tk, fit, Int.zero_add]
            simp
          · rw [upd_ne (ne_of_none e hD)]
            exact s1 c o e
        · exact ifF (decide_eq_false h2) (no (by unfold fitB; rw [decide_eq_false h2, Bool.and_false]))
      · exact ifF (vF h1) (iteF (no (by unfold fitB; rw [decide_eq_false h1]; rfl)))
    · rintro G1 ⟨hD1, s1⟩
      rw [List.length_map, Int.toNat_natCast] at hD1
      refine ⟨D, _, rfl, SqL.of hD1, ?_, fun m m1 m2 => ?_⟩
      · refine List.length_pos_iff.mpr fun z => ?_
        have : M16.L (sz ns) ns.length hi a ∈ (List.range ns.length).filter (fitB ns a hi) := List.mem_filter.mpr ⟨List.mem_range.mpr (M16.L_lt c), by
          have := M16.L_lies c hc
          unfold fitB
          rw [decide_eq_true this.1, decide_eq_true this.2]
          rfl⟩
        rw [List.map_eq_nil_iff.mp z] at this
        cases this
      · obtain rfl := lv_is g hc m1 m2
        have lm : M16.L (sz ns) ns.length hi a < ns.length := M16.L_lt c
        have zL := c.pos _ lm
        have zL9 := sz_le g lm
        have sm1 := sm.trans s1
        have hs1 := sm1 _ _ hs
        refine ⟨_, rfl, _, rfl, _, _, rfl, rfl, _, rfl, _, rfl, s, _, _, _, rfl, rfl, SqL.of hs1, at_sz lm, _, _, rfl, rfl, div_ok zL zL9, ?_⟩
        refine ⟨_, rfl, _, _, rfl, rfl, _, rfl, s, _, rfl, .inl (SqL.of hs1), _, _, rfl, rfl, _, rfl, ?_⟩
        by_cases c1 : M16.L (sz ns) ns.length hi a + 1 < ns.length
        · have zU := c.pos _ c1
          have zU9 := sz_le g c1
          have un := up_nx (a := a) zU
          refine ifT (decide_eq_true (by rw [List.length_map]; omega)) ?_
          refine ⟨_, rfl, _, rfl, _, _, rfl, rfl, s, _, _, _, rfl, rfl, SqL.of hs1, (show atI (ns.map V.int) ((M16.L (sz ns) ns.length hi a : Nat) + 1) = some (.int (sz ns (M16.L (sz ns) ns.length hi a + 1))) from at_sz c1), ?_⟩
          refine ⟨_, rfl, _, rfl, _, _, rfl, rfl, _, _, rfl, rfl, _, rfl, _, _, rfl, rfl, div_ok zU zU9, _, rfl, _, _, rfl, rfl, .inr ⟨by omega, by omega⟩, ?_⟩
          refine ⟨_, rfl, _, rfl, _, _, rfl, rfl, _, rfl, _, _, rfl, rfl, _, rfl, ?_⟩
          by_cases c2 : (a + sz ns (M16.L (sz ns) ns.length hi a + 1) - 1) / sz ns (M16.L (sz ns) ns.length hi a + 1) * sz ns (M16.L (sz ns) ns.length hi a + 1) + sz ns (M16.L (sz ns) ns.length hi a + 1) ≤ hi
          · refine ifT (decide_eq_true c2) ?_
            rw [un] at c2
            have em := M16.en1 (s := sz ns) (m := ns.length) (hi := hi) (a := a) ⟨c1, c2⟩
            rw [← un] at em
            have em := congrArg (fun x => (x - a) / sz ns (M16.L (sz ns) ns.length hi a)) em.symm
            refine ⟨_, rfl, _, rfl, _, _, rfl, rfl, _, rfl, _, rfl, s, _, _, _, rfl, rfl, SqL.of hs1, at_sz lm, _, _, rfl, rfl, div_ok zL zL9, ?_⟩
            have m1 := M16.run_one c hc
            have mc := M16.run_cells c hc
            have eg := M16.en_gt c hc
            have el := M16.en_le (s := sz ns) (m := ns.length) (hi := hi) (a := a) c
            have hG1 := s1 _ _ hG
            refine ⟨_, rfl, .inl ⟨rfl, _, SqL.of hG1⟩, _, rfl, _, rfl, _, rfl, (by show 3 ≤ sizeLine; decide), fun u hu => ?_⟩
            have nL : L ≠ u := ne_of_none hG1 hu
            have rl := rf.len
            refine ⟨L, _, _, rfl, rfl, (by rw [upd_ne nL]; exact hG1), (by rw [List.length_map]; omega), ?_⟩
            refine ⟨_, rfl, _, rfl, _, rfl, _, rfl, s, _, _, _, rfl, rfl, SqL.of (by rw [upd_ne (fun z => by rw [z, hG1] at hs1; exact ints_refs ns ps g hs1), upd_ne (ne_of_none hs1 hu)]; exact hs1), at_sz lm, _, _, rfl, rfl, .inr ⟨by omega, by omega⟩, _, _, rfl, rfl, ?_⟩
            refine ⟨ps ++ [u], done ++ [M16.run (sz ns) ns.length hi a], ?x5a, ?x6a, ?x7a, ?x8a, ?e1, fun c o e => ?e2, ?e3, ?e4, M.next c hc⟩
            case e1 =>
              dsimp only
              rw [em, mc, show a + (M16.en (sz ns) ns.length hi a - a) = M16.en (sz ns) ns.length hi a by omega]
              rfl
            case e2 =>
              rw [upd_ne (ne_of_none e hL), upd_ne (ne_of_none (sm1 _ _ e) hu)]
              exact sm1 _ _ e
            case e3 =>
              rw [upd_same, List.map_append]
              rfl
            case e4 =>
              dsimp only
              rw [em]
              refine Refs.more (u := M16.run (sz ns) ns.length hi a) (rf.same s1) hG1 hu
          · refine ifF (decide_eq_false c2) ?_
            rw [un] at c2
            have em := many2 c hc fun z => c2 z.2
            have m1 := M16.run_one c hc
            have mc := M16.run_cells c hc
            have eg := M16.en_gt c hc
            have el := M16.en_le (s := sz ns) (m := ns.length) (hi := hi) (a := a) c
            have hG1 := s1 _ _ hG
            refine ⟨_, rfl, .inl ⟨rfl, _, SqL.of hG1⟩, _, rfl, _, rfl, _, rfl, (by show 3 ≤ sizeLine; decide), fun u hu => ?_⟩
            have nL : L ≠ u := ne_of_none hG1 hu
            have rl := rf.len
            refine ⟨L, _, _, rfl, rfl, (by rw [upd_ne nL]; exact hG1), (by rw [List.length_map]; omega), ?_⟩
            refine ⟨_, rfl, _, rfl, _, rfl, _, rfl, s, _, _, _, rfl, rfl, SqL.of (by rw [upd_ne (fun z => by rw [z, hG1] at hs1; exact ints_refs ns ps g hs1), upd_ne (ne_of_none hs1 hu)]; exact hs1), at_sz lm, _, _, rfl, rfl, .inr ⟨by omega, by omega⟩, _, _, rfl, rfl, ?_⟩
            refine ⟨ps ++ [u], done ++ [M16.run (sz ns) ns.length hi a], ?x5b, ?x6b, ?x7b, ?x8b, ?e1, fun c o e => ?e2, ?e3, ?e4, M.next c hc⟩
            case e1 =>
              dsimp only
              rw [em, mc, show a + (M16.en (sz ns) ns.length hi a - a) = M16.en (sz ns) ns.length hi a by omega]
              rfl
            case e2 =>
              rw [upd_ne (ne_of_none e hL), upd_ne (ne_of_none (sm1 _ _ e) hu)]
              exact sm1 _ _ e
            case e3 =>
              rw [upd_same, List.map_append]
              rfl
            case e4 =>
              dsimp only
              rw [em]
              refine Refs.more (u := M16.run (sz ns) ns.length hi a) (rf.same s1) hG1 hu
        · refine ifF (decide_eq_false (by rw [List.length_map]; omega)) ?_
          have em := many2 c hc fun z => c1 z.1
          have m1 := M16.run_one c hc
          have mc := M16.run_cells c hc
          have eg := M16.en_gt c hc
          have el := M16.en_le (s := sz ns) (m := ns.length) (hi := hi) (a := a) c
          have hG1 := s1 _ _ hG
          refine ⟨_, rfl, .inl ⟨rfl, _, SqL.of hG1⟩, _, rfl, _, rfl, _, rfl, (by show 3 ≤ sizeLine; decide), fun u hu => ?_⟩
          have nL : L ≠ u := ne_of_none hG1 hu
          have rl := rf.len
          refine ⟨L, _, _, rfl, rfl, (by rw [upd_ne nL]; exact hG1), (by rw [List.length_map]; omega), ?_⟩
          refine ⟨_, rfl, _, rfl, _, rfl, _, rfl, s, _, _, _, rfl, rfl, SqL.of (by rw [upd_ne (fun z => by rw [z, hG1] at hs1; exact ints_refs ns ps g hs1), upd_ne (ne_of_none hs1 hu)]; exact hs1), at_sz lm, _, _, rfl, rfl, .inr ⟨by omega, by omega⟩, _, _, rfl, rfl, ?_⟩
          refine ⟨ps ++ [u], done ++ [M16.run (sz ns) ns.length hi a], ?x5c, ?x6c, ?x7c, ?x8c, ?e1, fun c o e => ?e2, ?e3, ?e4, M.next c hc⟩
          case e1 =>
            dsimp only
            rw [em, mc, show a + (M16.en (sz ns) ns.length hi a - a) = M16.en (sz ns) ns.length hi a by omega]
            rfl
          case e2 =>
            rw [upd_ne (ne_of_none e hL), upd_ne (ne_of_none (sm1 _ _ e) hu)]
            exact sm1 _ _ e
          case e3 =>
            rw [upd_same, List.map_append]
            rfl
          case e4 =>
            dsimp only
            rw [em]
            refine Refs.more (u := M16.run (sz ns) ns.length hi a) (rf.same s1) hG1 hu
end
end K44

set_option Elab.async false
set_option linter.all false
set_option maxRecDepth 100000
set_option maxHeartbeats 1600000
/-! Mathematics: what the runs of a range tell of its regions. -/
namespace K44
open PySem PySem.Spec PyProof.Rows L2 Gu Ex
/-- what the runs of the range from lo to hi tell, from a on -/
structure RgT (s : Nat → Int) (m : Nat) (lo hi a : Int) (rs : List M16.Run) : Prop where
  snd : ∀ r ∈ rs, r.1 < m ∧ s r.1 ∣ r.2.1 ∧ 1 ≤ r.2.2 ∧ a ≤ r.2.1 ∧ r.2.1 + r.2.2 * s r.1 ≤ hi ∧ ∀ x, r.2.1 ≤ x → x < r.2.1 + r.2.2 * s r.1 → (r.2.1 ≤ x - x % s r.1 ∧ x - x % s r.1 + s r.1 ≤ r.2.1 + r.2.2 * s r.1) ∧ ∀ j, j < m → lo ≤ x - x % s j → x - x % s j + s j ≤ hi → j ≤ r.1
  cov : ∀ x, a ≤ x → x < hi → ∃ r ∈ rs, r.2.1 ≤ x ∧ x < r.2.1 + r.2.2 * s r.1
  asc : rs.Pairwise fun r q => r.2.1 + r.2.2 * s r.1 ≤ q.2.1
theorem rgt {s : Nat → Int} {m : Nat} (c : M16.Ch s m) {lo hi : Int} : ∀ (k : Nat) (a : Int), (hi - a).toNat ≤ k → lo ≤ a → M16.B s m hi lo a → RgT s m lo hi a (M16.R s m hi a) := by
  intro k
  induction k with
  | zero =>
    intro a ha hl hb
    have : ¬ a < hi := by omega
    rw [M16.R_end this]
    exact ⟨(fun _ h => nomatch h), fun x h1 h2 => by omega, .nil⟩
  | succ k ih =>
    intro a ha hl hb
    by_cases h : a < hi
    · have g1 := M16.en_gt (s := s) (m := m) c h
      have g2 := M16.en_le (s := s) (m := m) (hi := hi) (a := a) c
      have e := M16.run_cells (s := s) (m := m) c h
      have I := ih (M16.en s m hi a) (by omega) (by omega) (M16.B_next c h hb)
      have re : (M16.run s m hi a).2.1 + (M16.run s m hi a).2.2 * s (M16.run s m hi a).1 = M16.en s m hi a := by
        show a + (M16.en s m hi a - a) / s (M16.L s m hi a) * s (M16.L s m hi a) = _
        rw [e]
        omega
      rw [M16.R_step c h]
      refine ⟨fun r hr => ?_, fun x h1 h2 => ?_, List.pairwise_cons.mpr ⟨fun q hq => ?_, I.asc⟩⟩
      · rcases List.mem_cons.mp hr with rfl | hr
        · rw [re]
          refine ⟨M16.L_lt c, M16.dvd0 (M16.L_lies c h).1, M16.run_one c h, Int.le_refl _, g2, fun x x1 x2 => ⟨M16.top_in c h x1 x2, fun j hj h1 h2 => M16.top_max c h hb x1 x2 hj h1 h2⟩⟩
        · obtain ⟨h1, h2, h3, h4, h5⟩ := I.snd r hr
          exact ⟨h1, h2, h3, by omega, h5⟩
      · by_cases z : x < M16.en s m hi a
        · exact ⟨_, List.mem_cons_self, h1, by rw [re]; exact z⟩
        · obtain ⟨r, hr, z1⟩ := I.cov x (by omega) h2
          exact ⟨r, List.mem_cons_of_mem _ hr, z1⟩
      · rw [re]
        exact (I.snd q hq).2.2.2.1
    · rw [M16.R_end h]
      exact ⟨(fun _ h => nomatch h), fun x h1 h2 => by omega, .nil⟩
section
variable {ns : List Int} {n : Int} {bs : List Blk}
abbrev fl (ns : List Int) (l : Nat) (x : Int) : Int := x - x % sz ns l
/-- a region of the level l at y, free of these blocks -/
def FrV (ns : List Int) (n : Int) (bs : List Blk) (l : Nat) (y : Int) : Prop := l < ns.length ∧ sz ns l ∣ y ∧ 0 ≤ y ∧ y + sz ns l ≤ n ∧ ∀ b ∈ bs, bEnd ns b ≤ y ∨ y + sz ns l ≤ b.1
/-- the level of the largest free region around the cell x -/
def TopL (ns : List Int) (n : Int) (bs : List Blk) (l : Nat) (x : Int) : Prop := FrV ns n bs l (fl ns l x) ∧ ∀ j, FrV ns n bs j (fl ns j x) → j ≤ l
theorem TopL.uniq {l j : Nat} {x : Int} (h : TopL ns n bs l x) (k : TopL ns n bs j x) : l = j := by
  have a := h.2 _ k.1
  have b := k.2 _ h.1
  omega
/-- runs that tell all free regions -/
structure FrT (ns : List Int) (n : Int) (bs : List Blk) (rs : List M16.Run) : Prop where
  snd : ∀ r ∈ rs, r.1 < ns.length ∧ sz ns r.1 ∣ r.2.1 ∧ 1 ≤ r.2.2 ∧ ∀ x, r.2.1 ≤ x → x < r.2.1 + r.2.2 * sz ns r.1 → TopL ns n bs r.1 x
  cov : ∀ x, FrV ns n bs 0 x → ∃ r ∈ rs, r.2.1 ≤ x ∧ x < r.2.1 + r.2.2 * sz ns r.1
  asc : rs.Pairwise fun r q => r.2.1 + r.2.2 * sz ns r.1 ≤ q.2.1
theorem FrV.perm {cs : List Blk} {l : Nat} {y : Int} (h : FrV ns n bs l y) (p : cs.Perm bs) : FrV ns n cs l y := ⟨h.1, h.2.1, h.2.2.1, h.2.2.2.1, fun b hb => h.2.2.2.2 b (p.mem_iff.mp hb)⟩
theorem TopL.perm {cs : List Blk} {l : Nat} {x : Int} (h : TopL ns n bs l x) (p : cs.Perm bs) : TopL ns n cs l x := ⟨h.1.perm p, fun j hj => h.2 j (hj.perm p.symm)⟩
theorem FrT.perm {cs : List Blk} {rs : List M16.Run} (F : FrT ns n bs rs) (p : cs.Perm bs) : FrT ns n cs rs := ⟨fun r hr => by
  obtain ⟨h1, h2, h3, h4⟩ := F.snd r hr
  exact ⟨h1, h2, h3, fun x x1 x2 => (h4 x x1 x2).perm p⟩, fun x hx => F.cov x (hx.perm p.symm), F.asc⟩
/-- a longest free range -/
structure Gap (ns : List Int) (n : Int) (bs : List Blk) (lo hi : Int) : Prop where
  lo0 : 0 ≤ lo
  hin : hi ≤ n
  lo1 : lo = 0 ∨ ∃ b ∈ bs, b.1 < lo ∧ bEnd ns b = lo
  hi1 : hi = n ∨ ∃ b ∈ bs, b.1 = hi ∧ hi < bEnd ns b
  btw : ∀ b ∈ bs, bEnd ns b ≤ lo ∨ hi ≤ b.1
theorem fl_in (g : Good ns) {j : Nat} (hj : j < ns.length) (x : Int) : fl ns j x ≤ x ∧ x < fl ns j x + sz ns j ∧ sz ns j ∣ fl ns j x := by
  have z := (chain g).pos j hj
  exact ⟨M16.fl_le x z, M16.fl_lt x z, M16.fl_dvd _ x⟩
theorem Gap.iff {lo hi : Int} (G : Gap ns n bs lo hi) (g : Good ns) {x : Int} (x1 : lo ≤ x) (x2 : x < hi) {j : Nat} : FrV ns n bs j (fl ns j x) ↔ j < ns.length ∧ lo ≤ fl ns j x ∧ fl ns j x + sz ns j ≤ hi := by
  constructor
  · rintro ⟨h1, h2, h3, h4, h5⟩
    obtain ⟨f1, f2, f3⟩ := fl_in g h1 x
    refine ⟨h1, ?_, ?_⟩
    · rcases G.lo1 with z | ⟨b, hb, z1, z2⟩
      · omega
      · rcases h5 b hb with z | z <;> omega
    · rcases G.hi1 with z | ⟨b, hb, z1, z2⟩
      · omega
      · rcases h5 b hb with z | z <;> omega
  · rintro ⟨h1, h2, h3⟩
    obtain ⟨f1, f2, f3⟩ := fl_in g h1 x
    have a := G.lo0
    have b := G.hin
    exact ⟨h1, f3, by omega, by omega, fun b hb => by
      rcases G.btw b hb with z | z
      · exact .inl (by omega)
      · exact .inr (by omega)⟩
theorem Gap.runs {lo hi : Int} (G : Gap ns n bs lo hi) (g : Good ns) (h : lo ≤ hi) : (∀ r ∈ Rs ns hi lo, r.1 < ns.length ∧ sz ns r.1 ∣ r.2.1 ∧ 1 ≤ r.2.2 ∧ lo ≤ r.2.1 ∧ r.2.1 + r.2.2 * sz ns r.1 ≤ hi ∧ ∀ x, r.2.1 ≤ x → x < r.2.1 + r.2.2 * sz ns r.1 → TopL ns n bs r.1 x) ∧
    (∀ x, lo ≤ x → x < hi → ∃ r ∈ Rs ns hi lo, r.2.1 ≤ x ∧ x < r.2.1 + r.2.2 * sz ns r.1) ∧ (Rs ns hi lo).Pairwise fun r q => r.2.1 + r.2.2 * sz ns r.1 ≤ q.2.1 := by
  have I := rgt (chain g) (lo := lo) (hi := hi) _ lo (Nat.le_refl _) (Int.le_refl _) (M16.B_lo (chain g))
  refine ⟨fun r hr => ?_, I.cov, I.asc⟩
  obtain ⟨h1, h2, h3, h4, h5, h6⟩ := I.snd r hr
  refine ⟨h1, h2, h3, h4, h5, fun x x1 x2 => ?_⟩
  obtain ⟨⟨k1, k2⟩, k3⟩ := h6 x x1 x2
  refine ⟨(G.iff g (by omega) (by omega)).mpr ⟨h1, by unfold fl; omega, by unfold fl; omega⟩, fun j hj => ?_⟩
  obtain ⟨j1, j2, j3⟩ := (G.iff g (by omega) (by omega)).mp hj
  exact k3 j j1 j2 j3
/-- all runs behind low -/
def FRL (ns : List Int) (n : Int) : Int → List Blk → List M16.Run
  | low, [] => Rs ns n low
  | low, b :: r => Rs ns b.1 low ++ FRL ns n (bEnd ns b) r
theorem frl_gaps : ∀ (bs : List Blk) (low : Int), runsI ns (gapsI n low (bs.map (rngB ns))) = FRL ns n low bs
  | [], low => by
    show runsI ns (if low < n then [(low, n)] else []) = Rs ns n low
    by_cases h : low < n
    · rw [if_pos h]
      show Rs ns n low ++ [] = _
      rw [List.append_nil]
    · rw [if_neg h]
      exact (M16.R_end h).symm
  | b :: r, low => by
    show runsI ns ((if low < b.1 then [(low, b.1)] else []) ++ gapsI n (bEnd ns b) (r.map (rngB ns))) = Rs ns b.1 low ++ FRL ns n (bEnd ns b) r
    have e : ∀ xs ys, runsI ns (xs ++ ys) = runsI ns xs ++ runsI ns ys := fun xs ys => by unfold runsI; rw [List.flatMap_append]
    rw [e, frl_gaps r]
    by_cases h : low < b.1
    · rw [if_pos h]
      show (Rs ns b.1 low ++ []) ++ _ = _
      rw [List.append_nil]
    · rw [if_neg h]
      rw [show Rs ns b.1 low = [] from M16.R_end h]
      rfl
theorem frl_part (w : Wf ns n bs) (g : Good ns) : ∀ (r d : List Blk) (low : Int), bs = d ++ r → 0 ≤ low → low ≤ n → (low = 0 ∨ ∃ b ∈ bs, b.1 < low ∧ bEnd ns b = low) → (∀ b ∈ d, bEnd ns b ≤ low) → (∀ b ∈ r, low ≤ b.1) →
    (∀ q ∈ FRL ns n low r, q.1 < ns.length ∧ sz ns q.1 ∣ q.2.1 ∧ 1 ≤ q.2.2 ∧ low ≤ q.2.1 ∧ ∀ x, q.2.1 ≤ x → x < q.2.1 + q.2.2 * sz ns q.1 → TopL ns n bs q.1 x) ∧ (∀ x, low ≤ x → FrV ns n bs 0 x → ∃ q ∈ FRL ns n low r, q.2.1 ≤ x ∧ x < q.2.1 + q.2.2 * sz ns q.1) ∧ (FRL ns n low r).Pairwise fun r q => r.2.1 + r.2.2 * sz ns r.1 ≤ q.2.1
  | [], d, low, e, l0, ln, le, hd, _ => by
    have G : Gap ns n bs low n := ⟨l0, Int.le_refl _, le, .inl rfl, fun b hb => .inl (hd b (by rw [e, List.append_nil] at hb; exact hb))⟩
    obtain ⟨h1, h2, h3⟩ := G.runs g ln
    refine ⟨fun q hq => ?_, fun x hx f => ?_, h3⟩
    · obtain ⟨a, b, c, d, _, f⟩ := h1 q hq
      exact ⟨a, b, c, d, f⟩
    · have := f.2.2.2.1
      have := (chain g).pos 0 f.1
      exact h2 x hx (by omega)
  | b :: r, d, low, e, l0, ln, le, hd, hr => by
    have hb : b ∈ bs := by rw [e]; simp
    have o := w.ok b hb
    have pb := w.pos g hb
    have lb := hr b List.mem_cons_self
    have eb : bEnd ns b = b.1 + sz ns b.2.1 := rfl
    have so := w.so
    rw [e] at so
    have so2 := (List.pairwise_append.mp so).2.1
    have so3 := List.pairwise_cons.mp so2
    have G : Gap ns n bs low b.1 := ⟨l0, by omega, le, .inr ⟨b, hb, rfl, by omega⟩, fun c hc => by
      rw [e] at hc
      rcases List.mem_append.mp hc with z | z
      · exact .inl (hd c z)
      · rcases List.mem_cons.mp z with rfl | z
        · exact .inr (Int.le_refl _)
        · have := so3.1 c z
          exact .inr (by omega)⟩
    obtain ⟨h1, h2, h3⟩ := G.runs g lb
    obtain ⟨k1, k2, k3⟩ := frl_part w g r (d ++ [b]) (bEnd ns b) (by rw [e, List.append_assoc]; rfl) (by omega) o.2.2.2 (.inr ⟨b, hb, by omega, rfl⟩) (fun c hc => by
      rcases List.mem_append.mp hc with z | z
      · have := hd c z
        omega
      · rw [List.mem_singleton.mp z]
        exact Int.le_refl _) (fun c hc => so3.1 c hc)
    refine ⟨fun q hq => ?_, fun x hx f => ?_, List.pairwise_append.mpr ⟨h3, k3, fun p hp q hq => ?_⟩⟩
    · rcases List.mem_append.mp hq with z | z
      · obtain ⟨a, b', c, d, _, f⟩ := h1 q z
        exact ⟨a, b', c, d, f⟩
      · obtain ⟨a, b', c, d, f⟩ := k1 q z
        exact ⟨a, b', c, by omega, f⟩
    · have z0 := (chain g).pos 0 f.1
      rcases f.2.2.2.2 b hb with z | z
      · obtain ⟨q, hq, z1⟩ := k2 x z f
        exact ⟨q, List.mem_append_right _ hq, z1⟩
      · obtain ⟨q, hq, z1⟩ := h2 x hx (by omega)
        exact ⟨q, List.mem_append_left _ hq, z1⟩
    · have := (h1 p hp).2.2.2.2.1
      have := (k1 q hq).2.2.2.1
      omega
theorem frl_ok (w : Wf ns n bs) (g : Good ns) (n0 : 0 ≤ n) : FrT ns n bs (FRL ns n 0 bs) := by
  obtain ⟨h1, h2, h3⟩ := frl_part w g bs [] 0 rfl (Int.le_refl _) n0 (.inl rfl) (fun _ h => nomatch h) (fun b hb => (w.ok b hb).2.1)
  exact ⟨fun r hr => by
    obtain ⟨a, b, c, _, f⟩ := h1 r hr
    exact ⟨a, b, c, f⟩, fun x hx => h2 x hx.2.2.1 hx, h3⟩
end
end K44

set_option Elab.async false
set_option linter.all false
set_option maxRecDepth 100000
set_option maxHeartbeats 4000000
set_option pp.maxSteps 900
namespace K44
open PySem PySem.Spec PyProof.Rows L2 Gu Ex
theorem filter_atG {α : Type} (c : α → Bool) {l : List α} {i : Nat} {x : α} (h : l[i]? = some x) : (l.take (i + 1)).filter c = (l.take i).filter c ++ (if c x = true then [x] else []) := by
  rw [take_at h, List.filter_append]
  cases e : c x <;> simp [e]
section
variable {P : Program} {w : World} {K : PySem.W.Frag} {mg : Str → Option Value} {base : Heap} {f : Addr} {fd : FuncData}
/-- the loop's state -/
structure FrE (ns : List Int) (n : Int) (bs : List Blk) (i : Nat) (at_ : Int) (rs : List M16.Run) : Prop where
  eq : FRL ns n 0 bs = rs ++ FRL ns n at_ (bs.drop i)
  a0 : 0 ≤ at_
  an : at_ ≤ n
  le : ∀ b ∈ bs.drop i, at_ ≤ b.1
  len : rs.length ≤ 16 * i
theorem FrE.start {ns : List Int} {n : Int} {bs : List Blk} (w : Wf ns n bs) (n0 : 0 ≤ n) : FrE ns n bs 0 0 [] := ⟨rfl, Int.le_refl _, n0, fun b hb => (w.ok b hb).2.1, Nat.zero_le _⟩
theorem FrE.next {ns : List Int} {n : Int} {bs : List Blk} {i : Nat} {at_ : Int} {rs : List M16.Run} {b : Blk} (F : FrE ns n bs i at_ rs) (w : Wf ns n bs) (g : Good ns) (hb : bs[i]? = some b) : FrE ns n bs (i + 1) (bEnd ns b) (rs ++ M16.R (sz ns) ns.length b.1 at_) := by
  have ed := drop_at hb
  have o := w.ok b (List.mem_of_getElem? hb)
  have p := w.pos g (List.mem_of_getElem? hb)
  have r3 := M16.R_short (s := sz ns) (a := at_) (hi := b.1) (chain g) g.len.2
  have so := w.so.sublist (List.drop_sublist i bs)
  rw [ed] at so
  refine ⟨?_, by unfold bEnd; omega, o.2.2.2, fun c hc => (List.pairwise_cons.mp so).1 c hc, by rw [List.length_append]; have := F.len; omega⟩
  rw [F.eq, ed, List.append_assoc]
  rfl
theorem FrE.fin {ns : List Int} {n : Int} {bs : List Blk} {at_ : Int} {rs : List M16.Run} (F : FrE ns n bs bs.length at_ rs) : rs ++ M16.R (sz ns) ns.length n at_ = FRL ns n 0 bs := by
  have e := F.eq
  rw [List.drop_length] at e
  exact e.symm
def spFrL : Sp := fun vs H Q _ => ∃ (s a : Addr) (ns : List Int) (n : Int) (qs : List Addr) (bs : List Blk), vs = [.ref s, .int n, .ref a] ∧ H s = some (.lst (ns.map V.int)) ∧ Good ns ∧ H a = some (.lst (qs.map V.ref)) ∧ Refs blkV H qs bs ∧ Un ns n bs ∧ 0 ≤ n ∧ n ≤ 1000000000000 ∧ bs.length ≤ 300 ∧
  ∀ L ps rs H', H L = none → Same H H' → H' L = some (.lst (ps.map V.ref)) → Refs runV H' ps rs → FrT ns n bs rs → rs.length ≤ 16 * (bs.length + 1) → Q (.ref L) H'
theorem sc__law_free_runs : FnScope ["_law_sizes_here", "_law_length", "_law_blocks_here", "_law_result", "_law_at", "_law_address", "_law_level", "_law_is_pinned"] ["_law_sizes_here", "_law_length", "_law_blocks_here"] (defScope (top 54)) := ⟨rfl, rfl, rfl, by decide +kernel, rfl, by decide +kernel, by decide +kernel⟩
theorem ok_frl (T : Tx K mg) (D__law_runs : Df P w K mg base 1 "_law_runs" ["_law_sizes_here", "_law_low", "_law_high"] spRunsL) (F : FnP K "_law_free_runs" "_law_free_runs" (top 54) f fd) : FnOk P w K mg base CX0 2 f fd ["_law_sizes_here", "_law_length", "_law_blocks_here"] spFrL := by
  refine F.ok sc__law_free_runs (fun vs H Q E h => ?_) (fun cdv A outer s H vs Q E hr h => ⟨_, PSs.nox (pss_cons (ps_par (by rfl) sc__law_free_runs.nd (i := 3) (j := 4) rfl rfl (by decide) rfl rfl (pa_cons (pe_lst pa_nil) (pa_cons pe_int pa_nil)) (by rfl)) (pss_cons (ps_for PassesOwn.never rfl (pi_list (pe_callB cr_sortedB (by rfl) T.n_sorted (by decide +kernel) (pa_cons (pv 2) pa_nil))) (pg_tup (by rfl) (pgs_cons (pg_name (i := 5) sc__law_free_runs.nd rfl (by first | exact Or.inl rfl | exact Or.inr rfl)) (pgs_cons (pg_name (i := 6) sc__law_free_runs.nd rfl (by first | exact Or.inl rfl | exact Or.inr rfl)) (pgs_cons (pg_name (i := 7) sc__law_free_runs.nd rfl (by first | exact Or.inl rfl | exact Or.inr rfl)) pgs_nil)))) (pss_cons (ps_set (i := 3) sc__law_free_runs.nd rfl (by first | exact Or.inl rfl | exact Or.inr rfl) (pe_op op_cat (pv 3) (pcall D__law_runs hr (pa_cons (pv 0) (pa_cons (pv 4) (pa_cons (pv 5) pa_nil)))))) (pss_one (ps_set (i := 4) sc__law_free_runs.nd rfl (by first | exact Or.inl rfl | exact Or.inr rfl) (pe_op op_add (pv 5) (pe_ix ix_list (pv 0) (pv 6) (fun _ _ => rfl))))))) (pss_one (ps_ret (pe_op op_cat (pv 3) (pcall D__law_runs hr (pa_cons (pv 0) (pa_cons (pv 4) (pa_cons (pv 1) pa_nil))))))))), ?_⟩)
  · obtain ⟨s, a, ns, n, qs, bs, rfl, _⟩ := h
    rfl
  · obtain ⟨s, a, ns, n, qs, bs, rfl, hs, g, ha, rf, un, n0, n9, b100, q⟩ := h
    have sl : sizeLine = 16777216 := sizeLine_eq
    refine ⟨(by show 0 ≤ sizeLine; decide), fun L hL => ⟨_, _, rfl, ?_⟩⟩
    have s0 := same_upd (o := .lst []) hL
    have hL0 : (upd H L (.lst [])) L = some (.lst (([] : List Addr).map V.ref)) := upd_same
    have rfa := rf.same s0
    have ha0 := s0 _ _ ha
    obtain ⟨k1, k2⟩ := un.keys g rfa
    generalize upd H L (.lst []) = H0 at s0 hL0 rfa ha0 k1 k2
    refine ⟨_, rfl, a, _, keyV H0, rfl, SqL.of ha0, k1, k2, fun zs p hs' hp hpn => ?_⟩
    obtain ⟨qs', bs', rfl, rf', pm, wf⟩ := un.sorted g rfa hs' hp
    have s1 := same_upd (o := .lst (qs'.map V.ref)) hpn
    have hp1 : (upd H0 p (.lst (qs'.map V.ref))) p = some (.lst (qs'.map V.ref)) := upd_same
    have sH := s0.trans s1
    have hL1 := s1 _ _ hL0
    have rf1 := rf'.same s1
    generalize upd H0 p (.lst (qs'.map V.ref)) = H1 at s1 hp1 sH hL1 rf1
    have bl : bs'.length ≤ 300 := by rw [pm.length_eq]; exact b100
    have ql := rf1.len
    refine ⟨p, rfl, ⟨_, SqL.of hp1⟩, ?_⟩
    refine for_list (K := K) (a := p) (xs := qs'.map V.ref) (fun i σ G => ∃ (R : Addr) (at_ : Int) (ps : List Addr) (rs : List M16.Run) (x5 x6 x7 : Option V), σ = [some (.ref s), some (.int n), some (.ref a), some (.ref R), some (.int at_), x5, x6, x7] ∧ H R = none ∧ Same H G ∧ Same H1 G ∧ G R = some (.lst (ps.map V.ref)) ∧ Refs runV G ps rs ∧ FrE ns n bs' i at_ rs)
      ⟨L, 0, [], [], none, none, none, rfl, hL, sH, Same.refl _, hL1, .nil, FrE.start wf n0⟩ (fun i σ G _ ⟨_, _, _, _, _, _, _, _, _, _, sm, _⟩ => SqL.of (sm _ _ hp1)) ?_ ?_
    · rintro i v σ G hv ⟨R, at_, ps, rs, x5, x6, x7, rfl, hR, sm, sm1, hG, rfG, FI⟩
      obtain ⟨p', hp', rfl⟩ := ref_of hv
      obtain ⟨b, hb, hT⟩ := (rf1.same sm1).get hp'
      have hT' : G p' = some (.tup [.int b.1, .int (b.2.1 : Nat), .bl b.2.2]) := hT
      have il := (List.getElem?_eq_some_iff.mp hb).1
      have o := wf.ok b (List.mem_of_getElem? hb)
      have z1 := (chain g).pos _ o.1
      have le := FI.le b (by rw [drop_at hb]; exact List.mem_cons_self)
      have FN := FI.next wf g hb
      have a0 := FI.a0
      have b9 : b.1 + sz ns b.2.1 ≤ n := o.2.2.2
      have rl := rfG.len
      have rl2 := FI.len
      refine ⟨p', _, rfl, .inl (.inl hT'), rfl, _, _, rfl, _, _, rfl, _, _, rfl, rfl, ?_⟩
      refine ⟨_, rfl, _, rfl, _, rfl, _, rfl, s, ns, at_, b.1, rfl, sm _ _ hs, g, a0, le, by omega, fun L2 ps2 G2 hL2 s2 hL2' rf2 => ?_⟩
      have hG2 := s2 _ _ hG
      have r2 := rf2.len
      have r3 := M16.R_short (s := sz ns) (a := at_) (hi := b.1) (chain g) g.len.2
      refine ⟨R, L2, _, _, rfl, rfl, hG2, hL2', (by rw [List.length_map, List.length_map]; omega), fun L3 hL3 => ?_⟩
      have s3 := same_upd (o := .lst (ps.map V.ref ++ ps2.map V.ref)) hL3
      have hL3' : (upd G2 L3 (.lst (ps.map V.ref ++ ps2.map V.ref))) L3 = some (.lst ((ps ++ ps2).map V.ref)) := by rw [upd_same, List.map_append]
      have s23 := s2.trans s3
      have f3 := sm.free (s2.free hL3)
      have rfN := (rfG.same s23).app (rf2.same s3)
      generalize upd G2 L3 (.lst (ps.map V.ref ++ ps2.map V.ref)) = G3 at s3 hL3' s23 rfN
      have hs3 := (sm.trans s23) _ _ hs
      refine ⟨_, rfl, _, rfl, _, rfl, s, _, _, _, rfl, rfl, SqL.of hs3, at_sz o.1, _, _, rfl, rfl, ?_⟩
      exact ⟨L3, bEnd ns b, ps ++ ps2, _, _, _, _, rfl, f3, sm.trans s23, sm1.trans s23, hL3', rfN, FN⟩
    · rintro σ G ⟨R, at_, ps, rs, x5, x6, x7, rfl, hR, sm, sm1, hG, rfG, FI⟩
      rw [List.length_map, ql] at FI
      have le := FI.an
      have FO := FI.fin
      have a0 := FI.a0
      have rl := rfG.len
      have rl2 := FI.len
      refine ⟨_, rfl, _, rfl, _, rfl, _, rfl, s, ns, at_, n, rfl, sm _ _ hs, g, a0, le, n9, fun L2 ps2 G2 hL2 s2 hL2' rf2 => ?_⟩
      have hG2 := s2 _ _ hG
      have r2 := rf2.len
      have r3 := M16.R_short (s := sz ns) (a := at_) (hi := n) (chain g) g.len.2
      refine ⟨R, L2, _, _, rfl, rfl, hG2, hL2', (by rw [List.length_map, List.length_map]; omega), fun L3 hL3 => ?_⟩
      have s3 := same_upd (o := .lst (ps.map V.ref ++ ps2.map V.ref)) hL3
      have s23 := s2.trans s3
      exact q L3 (ps ++ ps2) _ _ (sm.free (s2.free hL3)) (sm.trans s23) (by rw [upd_same, List.map_append]) ((rfG.same s23).app (rf2.same s3)) ((by rw [FO]; exact (frl_ok wf g n0).perm pm.symm)) (by rw [List.length_append]; have := pm.length_eq; omega)
end
end K44

set_option Elab.async false
set_option linter.all false
set_option maxRecDepth 100000
set_option maxHeartbeats 4000000
/-! Own layer: a def called with n values by position and keywords behind them, also one that may raise. -/
namespace Ex
open PySem PySem.Spec PySem.Calls PyProof.Rows L2 Gu
structure DfXk (P : Program) (w : World) (K : PySem.W.Frag) (mg : Str → Option Value) (base : Heap) (CX : CXT) (k : Nat) (x : Str) (ps : List Str) (n : Nat) (ks : List Str) (sp : Sp) : Prop where
  ex : ∃ fd, FnOk P w K mg base CX k (He.ga K x) fd ps sp ∧ ∀ (s : Shared) (us ws : List Value), us.length = n → ws.length = ks.length → K.In s.heap → BindsTo s fd ⟨us, ks.zip ws⟩ (ps.zip (us ++ ws))
  gl : mg x = some (.ref (He.ga K x))
  kp : PySem.W.keepIn K (.ref (He.ga K x)) = true
def tCallk (sp : Sp) (n q : Nat) (E : XK) (t tk : TA) : TE := fun σ H Q => t σ H fun vs H1 => tk σ H1 fun zs H2 => vs.length = n ∧ zs.length = q ∧ sp (vs ++ zs) H2 Q E
section
variable {X : Cx} {CX : CXT} {k j n : Nat} {x : Str} {ps ks : List Str} {sp : Sp} {p pos : Pos} {e : Expr} {es : List Expr} {kws : List Keyword} {t tk : TA} {E : XK}
theorem pcallXk (D : DfXk X.prog X.w X.K X.mg X.base CX k x ps n ks sp) (hr : Room j X.A) (px : Passes CX X E) (ha : PA X (e :: es) t) (hkw : PK X kws tk) (hj : k ≤ j := by decide) (hg : Gl X x := by rfl)
    (hall : (backToKw pos (keywordEach kws X.env)).all (·.1.isSome) = true := by rfl) (hks : (backToKw pos (keywordEach kws X.env)).filterMap (·.1) = ks := by rfl)
    (hdb : (x == ("__debug__" : Str)) = false := by decide) (he : starEach (e :: es) X.env = (false, eval e X.env) :: starEach es X.env := by rfl)
    (hpl : ((backTo pos (starEach (e :: es) X.env)).any (·.1) || (backToKw pos (keywordEach kws X.env)).any (·.1.isNone)) = false := by rfl) :
    PE X (.Call (.Name x p) (e :: es) kws pos) (tCallk sp n ks.length E t tk) := by
  obtain ⟨fd, F, b⟩ := D.ex
  refine ⟨fun pins s σ H Q I h => ?_⟩
  refine wpAny_Call_Name_kw (ld_glob I hg D.gl ?_ hdb)
  refine PySem.W.callWith_KW (h₀ := X.base) I.ok.mod.kin D.kp hall (thn (ha.run pos pins s σ H _ I h) fun us s1 ⟨vs, H1, I1, r, q⟩ => ?_) hpl he
  refine thn (hkw.run pos pins s1 σ H1 _ I1 q) fun ws s2 ⟨zs, H2, I2, rz, l1, l2, q2⟩ => ⟨I2.kIn, ?_⟩
  rw [hks]
  refine wpAny_call (codeAny_mono (F.run X.A X.stack s2 H2 ⟨us, ks.zip ws⟩ (us ++ ws) (vs ++ zs) Q E (hr.mono hj) I2.env0 (b s2 us ws (r.length.symm.trans l1) (rz.length.symm.trans l2) I2.kIn) (r.append rz) q2) fun r s' hq => ?_)
  match r, hq with
  | .error e, hq => exact px pins σ H2 s2 e s' I2 hq
  | .ok (.ret u), hq => exact I2.after hq
end
/-- within a comprehension's block the reading names K by hand -/
theorem pi_listB {X : Cx} {tg : Expr} {l : Expr} {tl : TE} (K : PySem.W.Frag) (hl : PE X l tl) (hK : X.K = K := by rfl) : PI X tg l (iList K tl) := by
  subst hK
  exact pi_list hl
theorem pmeth0B {X : Cx} {k j : Nat} {c m : Str} {ps : List Str} {sp : Sp} {pos apos : Pos} {o : Expr} {ta : TE} {pl : Sem Bool} (K : PySem.W.Frag) (D : Mf X.prog X.w X.K X.mg X.base k c m ps sp) (hr : Room j X.A) (he : PE X o ta) (hj : k ≤ j := by decide) (hK : X.K = K := by rfl)
    (ht : eval (.Call (.Attribute o m apos) [] [] pos) X.env = (do
      let ov ← eval o X.env
      standAt apos.atName
      let (f, first) ← holding [ov] (getMethod ov m pl)
      callWith pos f first (backTo pos (starEach [] X.env)) (backToKw pos (keywordEach [] X.env))) := by rfl) :
    PE X (.Call (.Attribute o m apos) [] [] pos) (tMeth (He.ga K c) m sp [] E0 ta tNil) := by
  subst hK
  exact pmeth0 D hr he hj ht
end Ex

/-! The mathematics of pieces: counts by remainders, the level of a number, the fewest blocks. -/
namespace M13
open M16
/-- what is left for level k -/
def rest (s : Nat → Int) (m : Nat) (n : Int) (k : Nat) : Int := if k + 1 < m then n % s (k + 1) else n
def cnt (s : Nat → Int) (m : Nat) (n : Int) (k : Nat) : Int := rest s m n k / s k
section
variable {s : Nat → Int} {m : Nat}
theorem rest_nn (c : Ch s m) {n : Int} (hn : 0 ≤ n) (k : Nat) : 0 ≤ rest s m n k := by
  unfold rest
  split
  · rename_i h
    have := c.pos _ h
    exact Int.emod_nonneg _ (by omega)
  · exact hn
theorem rest_le (c : Ch s m) {n : Int} (hn : 0 ≤ n) (k : Nat) : rest s m n k ≤ n := by
  unfold rest
  split
  · rename_i h
    have p := c.pos _ h
    have e := Int.mul_ediv_add_emod n (s (k + 1))
    have q := Int.mul_nonneg (show (0 : Int) ≤ s (k + 1) by omega) (Int.ediv_nonneg hn (show (0 : Int) ≤ s (k + 1) by omega))
    omega
  · exact Int.le_refl _
theorem cnt_nn (c : Ch s m) {n : Int} (hn : 0 ≤ n) {k : Nat} (hk : k < m) : 0 ≤ cnt s m n k := Int.ediv_nonneg (rest_nn c hn k) (by have := c.pos k hk; omega)
theorem rest_next (c : Ch s m) (n : Int) {k : Nat} (hk : k < m) : rest s m n k % s k = n % s k := by
  unfold rest
  split
  · rename_i h
    exact Int.emod_emod_of_dvd n (c.dv k h)
  · rfl
/-- cnt k cells of level k: what is between the remainders -/
theorem cnt_mul (c : Ch s m) (n : Int) {k : Nat} (hk : k < m) : cnt s m n k * s k = rest s m n k - n % s k := by
  have dv := Int.mul_ediv_add_emod (rest s m n k) (s k)
  rw [rest_next c n hk] at dv
  unfold cnt
  rw [Int.mul_comm]
  omega
/-- sums of the j highest levels -/
def from_ (f : Nat → Int) (m : Nat) : Nat → Int
  | 0 => 0
  | j + 1 => f (m - (j + 1)) + from_ f m j
theorem from_is (c : Ch s m) (n : Int) : ∀ j, j + 1 ≤ m → from_ (fun k => cnt s m n k * s k) m (j + 1) = n - n % s (m - (j + 1))
  | 0, h => by
    show cnt s m n (m - (0 + 1)) * s (m - (0 + 1)) + 0 = _
    rw [cnt_mul c n (by omega)]
    unfold rest
    rw [if_neg (by omega)]
    omega
  | j + 1, h => by
    have ih := from_is c n j (by omega)
    show cnt s m n (m - (j + 1 + 1)) * s (m - (j + 1 + 1)) + from_ _ m (j + 1) = _
    rw [ih, cnt_mul c n (by omega)]
    unfold rest
    rw [if_pos (by omega), show m - (j + 1 + 1) + 1 = m - (j + 1) by omega]
    omega
/-- the greatest level whose size is at most n -/
def IsLv (s : Nat → Int) (m : Nat) (n : Int) (k : Nat) : Prop := k < m ∧ s k ≤ n ∧ ∀ j, k < j → j < m → n < s j
theorem lv_high (c : Ch s m) {n : Int} {k j : Nat} (hn : 0 ≤ n) (h : IsLv s m n k) (hj : k < j) (hm : j < m) : cnt s m n j = 0 := by
  have := h.2.2 j hj hm
  have r1 := rest_nn c hn j
  have r2 := rest_le c hn j
  unfold cnt
  exact Int.ediv_eq_zero_of_lt r1 (by omega)
theorem lv_pos (c : Ch s m) {n : Int} {k : Nat} (hn : 0 ≤ n) (h : IsLv s m n k) : 0 < cnt s m n k := by
  obtain ⟨h1, h2, h3⟩ := h
  have e : rest s m n k = n := by
    unfold rest
    split
    · rename_i hk
      exact Int.emod_eq_of_lt hn (h3 (k + 1) (by omega) hk)
    · rfl
  unfold cnt
  rw [e]
  have := c.pos k h1
  have e1 := Int.mul_ediv_add_emod n (s k)
  have e2 := Int.emod_lt_of_pos n (show 0 < s k by omega)
  by_cases z : n / s k ≤ 0
  · have := Int.mul_le_mul_of_nonneg_left z (show (0 : Int) ≤ s k by omega)
    rw [Int.mul_zero] at this
    omega
  · omega
end
end M13
namespace M13
open M16
/-- how many blocks greedily -/
def F (s : Nat → Int) : Nat → Int → Int
  | 0, _ => 0
  | m + 1, n => n / s m + F s m (n % s m)
theorem _root_.M16.Ch.less {s : Nat → Int} {m : Nat} (c : Ch s (m + 1 + 1)) : Ch s (m + 1) := ⟨by omega, c.one, fun k h => c.pos k (by omega), fun k h => c.dv k (by omega)⟩
theorem cnt_less {s : Nat → Int} {m : Nat} (c : Ch s (m + 1)) (n : Int) {k : Nat} (hk : k < m) : cnt s (m + 1) n k = cnt s m (n % s m) k := by
  unfold cnt rest
  rw [if_pos (by omega)]
  by_cases h : k + 1 < m
  · rw [if_pos h, Int.emod_emod_of_dvd n (c.dvd (by omega) (by omega))]
  · rw [if_neg h, show k + 1 = m by omega]
theorem F_sum {s : Nat → Int} : ∀ (m : Nat) (n : Int), Ch s m → ((List.range m).map (cnt s m n)).sum = F s m n
  | 0, n, c => rfl
  | m + 1, n, c => by
    have e1 : (List.range m).map (cnt s (m + 1) n) = (List.range m).map (cnt s m (n % s m)) := List.map_congr_left fun k hk => cnt_less c n (List.mem_range.mp hk)
    have e2 : cnt s (m + 1) n m = n / s m := by
      unfold cnt rest
      rw [if_neg (by omega)]
    rw [List.range_succ, List.map_append, List.sum_append, e1]
    show _ + (cnt s (m + 1) n m + 0) = n / s m + F s m (n % s m)
    rw [e2]
    cases m with
    | zero =>
      show 0 + (n / s 0 + 0) = n / s 0 + 0
      omega
    | succ m =>
      rw [F_sum (m + 1) _ c.less]
      omega
theorem F_zero {s : Nat → Int} : ∀ m, F s m 0 = 0
  | 0 => rfl
  | m + 1 => by
    show (0 : Int) / s m + F s m (0 % s m) = 0
    rw [Int.zero_ediv, Int.zero_emod, F_zero m]
    rfl
/-- what stands below level j is the same with a multiple of it more -/
theorem F_more {s : Nat → Int} : ∀ (m j : Nat) (r c : Int), Ch s m → j < m → 0 ≤ r → r < s j → 0 ≤ c → s j ∣ c → F s m r ≤ F s m (r + c)
  | 0, j, r, c, ch, hj, _, _, _, _ => by omega
  | m + 1, j, r, c, ch, hj, r0, r1, c0, dv => by
    have pm := ch.pos m (by omega)
    have pj := ch.pos j hj
    show r / s m + F s m (r % s m) ≤ (r + c) / s m + F s m ((r + c) % s m)
    have q0 : 0 ≤ (r + c) / s m := Int.ediv_nonneg (by omega) (by omega)
    have le : s j ≤ s m := Int.le_of_dvd (by omega) (ch.dvd (by omega) (by omega))
    rw [Int.ediv_eq_zero_of_lt r0 (show r < s m by omega), Int.emod_eq_of_lt r0 (show r < s m by omega)]
    have e := Int.mul_ediv_add_emod (r + c) (s m)
    by_cases h : j = m
    · subst h
      obtain ⟨t, rfl⟩ := dv
      rw [Int.add_mul_emod_self_left, Int.emod_eq_of_lt r0 r1]
      omega
    · generalize (r + c) / s m = q at *
      have e2 : (r + c) % s m = r + (c - s m * q) := by omega
      rw [e2]
      have d2 : s j ∣ c - s m * q := Int.dvd_sub dv (Int.dvd_trans (ch.dvd (show j ≤ m by omega) (by omega)) (Int.dvd_mul_right _ _))
      have n2 := Int.emod_nonneg (r + c) (show s m ≠ 0 by omega)
      have c2 : 0 ≤ c - s m * q := by
        obtain ⟨t, ht⟩ := d2
        rw [ht] at e2 ⊢
        have t0 : 0 ≤ t := by
          apply Int.le_of_lt_add_one
          by_cases z : t + 1 ≤ 0
          · have := Int.mul_le_mul_of_nonneg_left z (show (0 : Int) ≤ s j by omega)
            rw [Int.mul_add, Int.mul_one, Int.mul_zero] at this
            omega
          · omega
        exact Int.mul_nonneg (by omega) t0
      cases m with
      | zero => omega
      | succ m =>
        have := F_more (m + 1) j r (c - s (m + 1) * q) ch.less (by omega) r0 r1 c2 d2
        omega
/-- a block more is at most one block more -/
theorem F_add {s : Nat → Int} : ∀ (m j : Nat) (n : Int), Ch s m → j < m → 0 ≤ n → F s m (n + s j) ≤ F s m n + 1
  | 0, j, n, ch, hj, _ => by omega
  | m + 1, j, n, ch, hj, n0 => by
    have pm := ch.pos m (by omega)
    have pj := ch.pos j hj
    have le : s j ≤ s m := Int.le_of_dvd (by omega) (ch.dvd (by omega) (by omega))
    show (n + s j) / s m + F s m ((n + s j) % s m) ≤ n / s m + F s m (n % s m) + 1
    by_cases h : j = m
    · subst h
      rw [Int.add_ediv_of_dvd_right (Int.dvd_refl _), Int.ediv_self (by omega), Int.add_emod_right]
      omega
    · cases m with
      | zero => omega
      | succ m =>
        have e := Int.mul_ediv_add_emod n (s (m + 1))
        have r0 := Int.emod_nonneg n (show s (m + 1) ≠ 0 by omega)
        have r1 := Int.emod_lt_of_pos n (show 0 < s (m + 1) by omega)
        generalize n / s (m + 1) = q at *
        generalize n % s (m + 1) = r at *
        have e3 : n + s j = (r + s j) + s (m + 1) * q := by omega
        rw [e3, Int.add_mul_ediv_left _ _ (by omega), Int.add_mul_emod_self_left]
        by_cases h2 : r + s j < s (m + 1)
        · rw [Int.ediv_eq_zero_of_lt (by omega) h2, Int.emod_eq_of_lt (by omega) h2]
          have := F_add (m + 1) j r ch.less (by omega) r0
          omega
        · have e4 : (r + s j) = (r + s j - s (m + 1)) + s (m + 1) * 1 := by omega
          have lt : r + s j - s (m + 1) < s j := by omega
          rw [e4, Int.add_mul_ediv_left _ _ (by omega), Int.add_mul_emod_self_left, Int.ediv_eq_zero_of_lt (by omega) (show r + s j - s (m + 1) < s (m + 1) by omega), Int.emod_eq_of_lt (by omega) (show r + s j - s (m + 1) < s (m + 1) by omega)]
          have := F_more (m + 1) j (r + s j - s (m + 1)) (s (m + 1) - s j) ch.less (by omega) (by omega) lt (by omega) (Int.dvd_sub (ch.dvd (by omega) (by omega)) (Int.dvd_refl _))
          rw [show r + s j - s (m + 1) + (s (m + 1) - s j) = r by omega] at this
          omega
/-- some block less is one block less -/
theorem F_sub {s : Nat → Int} : ∀ (m : Nat) (n : Int), Ch s m → 1 ≤ n → ∃ j, j < m ∧ s j ≤ n ∧ F s m n = 1 + F s m (n - s j)
  | 0, n, ch, _ => absurd ch.m1 (by omega)
  | m + 1, n, ch, n1 => by
    have pm := ch.pos m (by omega)
    by_cases h : s m ≤ n
    · refine ⟨m, by omega, h, ?_⟩
      show n / s m + F s m (n % s m) = 1 + ((n - s m) / s m + F s m ((n - s m) % s m))
      have e : n = (n - s m) + s m * 1 := by omega
      have e1 : n / s m = (n - s m) / s m + 1 := by
        conv => lhs; rw [e]
        exact Int.add_mul_ediv_left _ _ (by omega)
      have e2 : n % s m = (n - s m) % s m := by
        conv => lhs; rw [e]
        exact Int.add_mul_emod_self_left _ _ _
      rw [e1, e2]
      omega
    · cases m with
      | zero =>
        have := ch.one
        omega
      | succ m =>
        obtain ⟨j, h1, h2, h3⟩ := F_sub (m + 1) n ch.less n1
        have pj := ch.pos j (by omega)
        refine ⟨j, by omega, h2, ?_⟩
        show n / s (m + 1) + F s (m + 1) (n % s (m + 1)) = 1 + ((n - s j) / s (m + 1) + F s (m + 1) ((n - s j) % s (m + 1)))
        rw [Int.ediv_eq_zero_of_lt (by omega) (by omega), Int.emod_eq_of_lt (by omega) (by omega), Int.ediv_eq_zero_of_lt (by omega) (by omega), Int.emod_eq_of_lt (by omega) (by omega), h3]
        omega
end M13

set_option Elab.async false
set_option linter.all false
set_option maxRecDepth 100000
set_option maxHeartbeats 4000000
set_option pp.maxSteps 900
namespace K44
open PySem PySem.Spec PyProof.Rows L2 Gu Ex
/-- how many blocks of each level -/
def cnts (ns : List Int) (n : Int) : List Int := (List.range ns.length).map (M13.cnt (sz ns) ns.length n)
theorem cnts_len (ns : List Int) (n : Int) : (cnts ns n).length = ns.length := by
  unfold cnts
  rw [List.length_map, List.length_range]
theorem cnts_at {ns : List Int} {n : Int} {k : Nat} (h : k < ns.length) : (cnts ns n)[k]? = some (M13.cnt (sz ns) ns.length n k) := by
  unfold cnts
  rw [List.getElem?_map, List.getElem?_range h]
  rfl
/-- the highest i levels, falling -/
def falls (ns : List Int) (n : Int) (i : Nat) : List Int := (List.range i).map fun j => M13.cnt (sz ns) ns.length n (ns.length - 1 - j)
theorem falls_more (ns : List Int) (n : Int) (i : Nat) : falls ns n i ++ [M13.cnt (sz ns) ns.length n (ns.length - 1 - i)] = falls ns n (i + 1) := by
  unfold falls
  rw [List.range_succ, List.map_append]
  rfl
theorem falls_len (ns : List Int) (n : Int) (i : Nat) : (falls ns n i).length = i := by
  unfold falls
  rw [List.length_map, List.length_range]
theorem falls_all (ns : List Int) (n : Int) : (falls ns n ns.length).reverse = cnts ns n := by
  apply List.ext_getElem?
  intro k
  by_cases h : k < ns.length
  · rw [List.getElem?_reverse (by rw [falls_len]; exact h), falls_len, cnts_at h]
    unfold falls
    rw [List.getElem?_map, List.getElem?_range (by omega)]
    show some (M13.cnt _ _ _ (ns.length - 1 - (ns.length - 1 - k))) = _
    rw [show ns.length - 1 - (ns.length - 1 - k) = k by omega]
  · rw [List.getElem?_eq_none (by rw [List.length_reverse, falls_len]; omega), List.getElem?_eq_none (by rw [cnts_len]; omega)]
/-- the levels of the pieces, falling: those of the highest i levels -/
def lvls (ns : List Int) (n : Int) : Nat → List Int
  | 0 => []
  | i + 1 => lvls ns n i ++ List.replicate (M13.cnt (sz ns) ns.length n (ns.length - 1 - i)).toNat ((ns.length - 1 - i : Nat) : Int)
def pcs (ns : List Int) (n : Int) : List Int := lvls ns n ns.length
theorem falls_sum (ns : List Int) (n : Int) (i : Nat) : (falls ns n (i + 1)).sum = (falls ns n i).sum + M13.cnt (sz ns) ns.length n (ns.length - 1 - i) := by
  rw [← falls_more, List.sum_append]
  show _ + (_ + 0) = _
  omega
theorem falls_nn {ns : List Int} (g : Good ns) {n : Int} (hn : 0 ≤ n) : ∀ i, i ≤ ns.length → 0 ≤ (falls ns n i).sum ∧ ((lvls ns n i).length : Int) = (falls ns n i).sum
  | 0, _ => ⟨Int.le_refl _, rfl⟩
  | i + 1, h => by
    obtain ⟨h1, h2⟩ := falls_nn g hn i (by omega)
    have c0 := M13.cnt_nn (chain g) hn (k := ns.length - 1 - i) (by omega)
    rw [falls_sum]
    refine ⟨by omega, ?_⟩
    show (((lvls ns n i ++ List.replicate _ _).length : Nat) : Int) = _
    rw [List.length_append, List.length_replicate]
    omega
theorem falls_up {ns : List Int} (g : Good ns) {n : Int} (hn : 0 ≤ n) {i : Nat} : ∀ d, i + d ≤ ns.length → (falls ns n i).sum ≤ (falls ns n (i + d)).sum
  | 0, _ => Int.le_refl _
  | d + 1, h => by
    have ih := falls_up g hn (i := i) d (by omega)
    have c0 := M13.cnt_nn (chain g) hn (k := ns.length - 1 - (i + d)) (by omega)
    rw [show i + (d + 1) = (i + d) + 1 by omega, falls_sum]
    omega
theorem sum_rev : ∀ l : List Int, l.reverse.sum = l.sum
  | [] => rfl
  | x :: l => by
    rw [List.reverse_cons, List.sum_append, sum_rev l]
    show _ + (x + 0) = x + l.sum
    omega
theorem falls_le {ns : List Int} (g : Good ns) {n : Int} (hn : 0 ≤ n) {i : Nat} (hi : i ≤ ns.length) : (falls ns n i).sum ≤ (cnts ns n).sum := by
  have h := falls_up g hn (i := i) (ns.length - i) (by omega)
  rw [show i + (ns.length - i) = ns.length by omega] at h
  rw [← falls_all, sum_rev]
  exact h
theorem cnt_le {ns : List Int} (g : Good ns) {n : Int} (hn : 0 ≤ n) {i : Nat} (hi : i < ns.length) (h : (cnts ns n).sum ≤ 64) : 0 ≤ M13.cnt (sz ns) ns.length n (ns.length - 1 - i) ∧ M13.cnt (sz ns) ns.length n (ns.length - 1 - i) ≤ 64 ∧ (lvls ns n i).length + (M13.cnt (sz ns) ns.length n (ns.length - 1 - i)).toNat ≤ 64 := by
  have h1 := falls_le g hn (i := i + 1) (by omega)
  obtain ⟨h2, h3⟩ := falls_nn g hn i (by omega)
  have c0 := M13.cnt_nn (chain g) hn (k := ns.length - 1 - i) (by omega)
  rw [falls_sum] at h1
  omega
theorem flat_one (k : Nat) (v : V) : (List.replicate k [v]).flatten = List.replicate k v := by
  induction k with
  | zero => rfl
  | succ k ih =>
    rw [List.replicate_succ, List.flatten_cons, ih, List.replicate_succ]
    rfl
section
variable {P : Program} {w : World} {K : PySem.W.Frag} {mg : Str → Option Value} {base : Heap} {f : Addr} {fd : FuncData}
def spCounts (K : PySem.W.Frag) : Sp := fun vs H Q _ => ∃ (p : Addr) (ns : List Int) (n : Int), vs = [.ref p, .int n] ∧ SzAt (He.ga K "Sizes") H p ns ∧ Good ns ∧ 1 ≤ n ∧ n ≤ 1000000000000 ∧ ∀ a H', H a = none → Same H H' → H' a = some (.lst ((cnts ns n).map V.int)) → Q (.ref a) H'
theorem sc_counts : FnScope ["self", "cells", "rest", "falling", "size"] ["self", "cells"] (defScope (inClass (top 19) 17)) := ⟨rfl, rfl, rfl, by decide +kernel, rfl, by decide +kernel, by decide +kernel⟩
theorem ok_counts (T : Tx K mg) (D_check_cells : Df P w K mg base 3 "check_cells" ["value"] spCellsC) (F : FnP K "counts" "Sizes.counts" (inClass (top 19) 17) f fd) : FnOk P w K mg base CX0 4 f fd ["self", "cells"] (spCounts K) := by
  refine F.ok sc_counts (fun vs H Q E h => ?_) (fun cdv A outer s H vs Q E hr h => ⟨_, PSs.nox (pss_cons (ps_expr (pcall D_check_cells hr (pa_cons (pv 1) pa_nil))) (pss_cons (ps_set (i := 2) sc_counts.nd rfl (by first | exact Or.inl rfl | exact Or.inr rfl) (pv 1)) (pss_cons (ps_set (i := 3) sc_counts.nd rfl (by first | exact Or.inl rfl | exact Or.inr rfl) (pe_lst pa_nil)) (pss_cons (ps_for PassesOwn.never rfl (pi_reversed rfl T.n_reversed (pa_cons (pe_fld (pv 0) rfl) pa_nil)) (pg_name (i := 4) sc_counts.nd rfl (by first | exact Or.inl rfl | exact Or.inr rfl)) (pss_cons (ps_expr (pe_bm PySem.F.plainAttrs_list PySem.F.slot_list_append PySem.F.type_list_append mt_append (pv 3) (pa_cons (pe_op op_fdivW (pv 2) (pv 4)) pa_nil))) (pss_one (ps_set (i := 2) sc_counts.nd rfl (by first | exact Or.inl rfl | exact Or.inr rfl) (pe_op op_mod (pv 2) (pv 4)))))) (pss_one (ps_ret (pe_revL (pv 3)))))))), ?_⟩)
  · obtain ⟨p, ns, n, rfl, _⟩ := h
    rfl
  · obtain ⟨p, ns, n, rfl, hz, g, n1, n2, q⟩ := h
    obtain ⟨dx, l, h1, h2⟩ := id hz
    refine ⟨_, rfl, n, rfl, n1, n2, ?_⟩
    have ch := chain g
    have l8 := g.len
    refine ⟨_, rfl, (by show 0 ≤ sizeLine; decide), fun a ha => ?_⟩
    have sm : Same H (upd H a (.lst [])) := same_upd ha
    refine ⟨_, rfl, p, _, dx, _, _, rfl, sm _ _ h1, T.cl, T.nSL, szF_get l, l, _, rfl, SqL.of (sm _ _ h2), ?_⟩
    refine for_it (walk_rev (xs := ns.map V.int)) (fun i σ G => ∃ (x : Option V), σ = [some (.ref p), some (.int n), some (.int (if i = 0 then n else n % sz ns (ns.length - i))), some (.ref a), x] ∧ G = upd H a (.lst ((falls ns n i).map V.int))) ⟨none, rfl, rfl⟩ (fun i σ G _ ⟨_, _, eG⟩ => by subst eG; exact SqL.of (same_upd ha _ _ h2)) ?_ ?_
    · rintro i x σ G G2 hi ⟨x0, rfl, rfl⟩ ⟨rfl, hx⟩
      rw [List.length_map] at hi hx
      have km : ns.length - 1 - i < ns.length := by omega
      rw [List.getElem?_map, sz_at km] at hx
      obtain rfl := (Option.some.inj hx).symm
      have ps := ch.pos _ km
      have er : (if i = 0 then n else n % sz ns (ns.length - i)) = M13.rest (sz ns) ns.length n (ns.length - 1 - i) := by
        unfold M13.rest
        by_cases h0 : i = 0
        · rw [if_pos h0, if_neg (by omega)]
        · rw [if_neg h0, if_pos (by omega), show ns.length - 1 - i + 1 = ns.length - i by omega]
      refine ⟨_, rfl, .inl ⟨rfl, _, SqL.of upd_same⟩, _, rfl, _, rfl, _, _, rfl, rfl, div_ok ps (sz_le g km), a, _, _, rfl, rfl, upd_same, small1000 (by rw [List.length_map, falls_len]; omega), ?_⟩
      refine ⟨_, rfl, _, rfl, _, _, rfl, rfl, (by show (0 : Int) < sz ns _; omega), some (.int (sz ns (ns.length - 1 - i))), ?_, ?_⟩
      · rw [er, if_neg (show ¬ i + 1 = 0 by omega), show ns.length - (i + 1) = ns.length - 1 - i by omega, ← M13.rest_next ch n km]
        rfl
      · rw [er, upd_upd, ← falls_more, List.map_append]
        rfl
    · rintro σ G ⟨x0, rfl, rfl⟩
      rw [List.length_map]
      refine ⟨_, rfl, a, _, rfl, SqL.of upd_same, fun b hb => ?_⟩
      rw [← List.map_reverse, falls_all]
      refine q b _ ?_ ((same_upd ha).trans (same_upd hb)) upd_same
      exact (same_upd ha).free hb
def spPieces (K : PySem.W.Frag) : Sp := fun vs H Q _ => ∃ (p : Addr) (ns : List Int) (n : Int), vs = [.ref p, .int n] ∧ SzAt (He.ga K "Sizes") H p ns ∧ Good ns ∧ 1 ≤ n ∧ n ≤ 1000000000000 ∧ (cnts ns n).sum ≤ 64 ∧ ∀ a H', H a = none → Same H H' → H' a = some (.lst ((pcs ns n).map V.int)) → Q (.ref a) H'
theorem sc_pieces : FnScope ["self", "cells", "counts", "levels", "level"] ["self", "cells"] (defScope (inClass (top 19) 18)) := ⟨rfl, rfl, rfl, by decide +kernel, rfl, by decide +kernel, by decide +kernel⟩
theorem ok_pieces (T : Tx K mg) (M_counts : Mf P w K mg base 4 "Sizes" "counts" ["self", "cells"] (spCounts K)) (P_top : Pf P w K mg base 1 "Sizes" "top" (spTop K)) (F : FnP K "pieces" "Sizes.pieces" (inClass (top 19) 18) f fd) : FnOk P w K mg base CX0 5 f fd ["self", "cells"] (spPieces K) := by
  refine F.ok sc_pieces (fun vs H Q E h => ?_) (fun cdv A outer s H vs Q E hr h => ⟨_, PSs.nox (pss_cons (ps_set (i := 2) sc_pieces.nd rfl (by first | exact Or.inl rfl | exact Or.inr rfl) (pmeth M_counts hr (pv 0) (pa_cons (pv 1) pa_nil))) (pss_cons (ps_if (pt_cmpR op_gt (pe_callB (cr_sum rfl) (by rfl) T.n_sum (by decide +kernel) (pa_cons (pv 2) pa_nil)) (pe_con (pv 0) rfl) (nomark _)) (pss_one ps_never) pss_nil) (pss_cons (ps_set (i := 3) sc_pieces.nd rfl (by first | exact Or.inl rfl | exact Or.inr rfl) (pe_lst pa_nil)) (pss_cons (ps_for PassesOwn.never rfl (pi_range3 rfl T.n_range (pa_cons (pprop P_top hr (pv 0)) (pa_cons (pe_un un_neg pe_int) (pa_cons (pe_un un_neg pe_int) pa_nil)))) (pg_name (i := 4) sc_pieces.nd rfl (by first | exact Or.inl rfl | exact Or.inr rfl)) (pss_one (ps_aug (i := 3) sc_pieces.nd rfl (by first | exact Or.inl rfl | exact Or.inr rfl) (pe_op op_rep (pe_lst (pa_cons (pv 4) pa_nil)) (pe_ix ix_list (pv 2) (pv 4) (fun _ _ => rfl))) iop_ext))) (pss_one (ps_ret (pv 3))))))), ?_⟩)
  · obtain ⟨p, ns, n, rfl, _⟩ := h
    rfl
  · obtain ⟨p, ns, n, rfl, hz, g, n1, n2, n64, q⟩ := h
    obtain ⟨dx, l, h1, h2⟩ := id hz
    obtain ⟨u, kP⟩ := T.kP
    refine ⟨_, rfl, p, dx, _, rfl, h1, szF_no l (by decide +kernel), _, rfl, p, ns, n, rfl, hz, g, n1, n2, fun a H1 ha sm hA => ?_⟩
    have l8 := g.len
    refine ⟨_, rfl, a, _, rfl, SqL.of hA, _, rfl, p, _, dx, _, _, u, rfl, sm _ _ h1, T.cl, kP, szF_no l (by decide +kernel), _, _, rfl, rfl, _, rfl, ?_⟩
    refine ifF (decide_eq_false (by omega)) ⟨(by show 0 ≤ sizeLine; decide), fun b hb => ?_⟩
    have sb : Same H1 (upd H1 b (.lst [])) := same_upd hb
    have nab : a ≠ b := ne_of_none hA hb
    refine ⟨_, rfl, p, dx, _, rfl, sb _ _ (sm _ _ h1), p, ns, rfl, (hz.same sm).same sb, _, rfl, _, rfl, _, _, _, _, rfl, RgC.neg (by omega) (by omega) (by decide) (by decide), ?_⟩
    have en : ((ns.length : Int) - 1 - -1).toNat = ns.length := by omega
    rw [show (((ns.length : Int) - 1 - -(1 : Int)).toNat) = ns.length by omega]
    refine for_rangeC (fun i σ G => Same H1 G ∧ ∃ x : Option V, σ = [some (.ref p), some (.int n), some (.ref a), some (.ref b), x] ∧ G b = some (.lst ((lvls ns n i).map V.int))) ⟨sb, none, rfl, upd_same⟩ ?_ ?_
    · rintro i σ G hi ⟨sg, x, rfl, hB⟩
      have ek : (ns.length : Int) - 1 + (i : Nat) * (-1) = ((ns.length - 1 - i : Nat) : Int) := by omega
      rw [ek]
      obtain ⟨c0, c1, c2⟩ := cnt_le g (show 0 ≤ n by omega) hi (by omega)
      refine ⟨_, rfl, _, rfl, (by show 1 ≤ sizeLine; decide), fun t ht => ?_⟩
      have st : Same G (upd G t (.lst [.int ((ns.length - 1 - i : Nat) : Int)])) := same_upd ht
      refine ⟨_, rfl, _, rfl, a, _, _, _, rfl, rfl, SqL.of (st _ _ (sg _ _ hA)), at_map (cnts_at (show ns.length - 1 - i < ns.length by omega)), t, _, _, rfl, rfl, upd_same, by omega, by omega, ?_, fun r hr => ?_⟩
      · have e1 : sizeLine = 16777216 := sizeLine_eq
        show 1 * _ ≤ sizeLine
        omega
      · have hB2 := (same_upd (o := .lst (List.replicate (M13.cnt (sz ns) ns.length n (ns.length - 1 - i)).toNat [V.int ((ns.length - 1 - i : Nat) : Int)]).flatten) hr) _ _ (st _ _ hB)
        refine ⟨b, r, _, _, rfl, rfl, hB2, upd_same, ?_, fun c o e => ?_, _, rfl, ?_⟩
        · have e1 : sizeLine = 16777216 := sizeLine_eq
          rw [flat_one, List.length_map, List.length_replicate]
          omega
        · rw [upd_ne (ne_of_none e hb)]
          exact (same_upd hr) _ _ (st _ _ (sg _ _ e))
        · rw [upd_same, flat_one]
          show _ = some (HO.lst ((lvls ns n i ++ List.replicate _ _).map V.int))
          rw [List.map_append, List.map_replicate]
    · rintro σ G ⟨sg, x, rfl, hB⟩
      exact ⟨_, rfl, q b G (sm.free hb) (sm.trans sg) hB⟩
end
end K44

set_option Elab.async false
set_option linter.all false
set_option maxRecDepth 100000
set_option maxHeartbeats 1600000
/-! Mathematics: the chosen region, and what is left behind it. -/
namespace K44
open PySem PySem.Spec PyProof.Rows L2 Gu Ex
section
variable {ns : List Int} {n : Int} {bs : List Blk}
/-- at a: the lowest one among the smallest free maximal regions that are large enough for the level k -/
def Best (ns : List Int) (n : Int) (bs : List Blk) (k : Nat) (a : Int) : Prop := ∃ f, k ≤ f ∧ sz ns f ∣ a ∧ TopL ns n bs f a ∧ ∀ f' a', k ≤ f' → sz ns f' ∣ a' → TopL ns n bs f' a' → f < f' ∨ (f = f' ∧ a ≤ a')
theorem Best.uniq {k : Nat} {a b : Int} (h : Best ns n bs k a) (h' : Best ns n bs k b) : a = b := by
  obtain ⟨f, h1, h2, h3, h4⟩ := h
  obtain ⟨f', k1, k2, k3, k4⟩ := h'
  have x := h4 f' b k1 k2 k3
  have y := k4 f a h1 h2 h3
  omega
theorem Best.perm {cs : List Blk} {k : Nat} {a : Int} (h : Best ns n bs k a) (p : cs.Perm bs) : Best ns n cs k a := by
  obtain ⟨f, h1, h2, h3, h4⟩ := h
  exact ⟨f, h1, h2, h3.perm p, fun f' a' k1 k2 k3 => h4 f' a' k1 k2 (k3.perm p.symm)⟩
/-- no free region of this level -/
def NoR (ns : List Int) (n : Int) (bs : List Blk) (k : Nat) : Prop := ∀ y, ¬ FrV ns n bs k y
theorem fl_self {l : Nat} {y : Int} (h : sz ns l ∣ y) : fl ns l y = y := by
  have := M16.mod0 h
  unfold fl
  omega
theorem FrV.down (g : Good ns) {j k : Nat} {y x : Int} (h : FrV ns n bs k y) (hj : j ≤ k) (d : sz ns j ∣ x) (x1 : y ≤ x) (x2 : x < y + sz ns k) : FrV ns n bs j x := by
  obtain ⟨h1, h2, h3, h4, h5⟩ := h
  have c := chain g
  have dj := c.dvd hj h1
  have hjl : j < ns.length := by omega
  have zj := c.pos j hjl
  have e : x + sz ns j ≤ y + sz ns k := M16.gap d (Int.dvd_add (Int.dvd_trans dj h2) dj) x2
  exact ⟨hjl, d, by omega, by omega, fun b hb => by
    rcases h5 b hb with z | z
    · exact .inl (by omega)
    · exact .inr (by omega)⟩
/-- around a free cell there is a largest free region -/
theorem FrT.top_of {rs : List M16.Run} (F : FrT ns n bs rs) (g : Good ns) {k : Nat} {y : Int} (h : FrV ns n bs k y) : ∃ r ∈ rs, k ≤ r.1 ∧ r.2.1 ≤ y ∧ y < r.2.1 + r.2.2 * sz ns r.1 ∧ TopL ns n bs r.1 y := by
  have z := (chain g).pos k h.1
  have f0 := h.down g (Nat.zero_le k) (j := 0) (x := y) (by
    have e : sz ns 0 = 1 := Option.some.inj ((sz_at (ns := ns) (k := 0) (by have := g.len.1; omega)).symm.trans g.one)
    rw [e]
    exact Int.one_dvd _) (Int.le_refl _) (by omega)
  obtain ⟨r, hr, r1, r2⟩ := F.cov y f0
  have t := (F.snd r hr).2.2.2 y r1 r2
  exact ⟨r, hr, t.2 k (by rw [fl_self h.2.1]; exact h), r1, r2, t⟩
theorem run_size (g : Good ns) {r : M16.Run} (h : r.1 < ns.length) (h2 : 1 ≤ r.2.2) : r.2.1 + sz ns r.1 ≤ r.2.1 + r.2.2 * sz ns r.1 := by
  have z := (chain g).pos _ h
  have := Int.mul_le_mul_of_nonneg_right h2 (show 0 ≤ sz ns r.1 by omega)
  omega
theorem FrT.none {rs : List M16.Run} (F : FrT ns n bs rs) (g : Good ns) {k : Nat} (h : ∀ r ∈ rs, ¬ k ≤ r.1) : NoR ns n bs k := fun y hy => by
  obtain ⟨r, hr, k1, _⟩ := F.top_of g hy
  exact h r hr k1
/-- the first of the smallest runs that are large enough -/
theorem FrT.best {rs : List M16.Run} (F : FrT ns n bs rs) (g : Good ns) {k : Nat} {r : M16.Run} (hr : r ∈ rs) (k1 : k ≤ r.1) (m : ∀ q ∈ rs, k ≤ q.1 → r.1 < q.1 ∨ (r.1 = q.1 ∧ r.2.1 ≤ q.2.1)) : Best ns n bs k r.2.1 := by
  obtain ⟨h1, h2, h3, h4⟩ := F.snd r hr
  have z := (chain g).pos _ h1
  have s := run_size g h1 h3
  refine ⟨r.1, k1, h2, h4 _ (Int.le_refl _) (by omega), fun f a kf d t => ?_⟩
  obtain ⟨q, hq, kq, q1, q2, tq⟩ := F.top_of g (fl_self d ▸ t.1)
  have e := t.uniq tq
  have := m q hq (by omega)
  omega
theorem FrT.free {rs : List M16.Run} (F : FrT ns n bs rs) (g : Good ns) {k : Nat} {r : M16.Run} (hr : r ∈ rs) (k1 : k ≤ r.1) : FrV ns n bs k r.2.1 := by
  obtain ⟨h1, h2, h3, h4⟩ := F.snd r hr
  have z := (chain g).pos _ h1
  have s := run_size g h1 h3
  have t := (h4 _ (Int.le_refl _) (by omega)).1
  rw [fl_self h2] at t
  exact t.down g k1 (Int.dvd_trans ((chain g).dvd k1 h1) h2) (Int.le_refl _) (by omega)
/-- what is left of the runs -/
def takeR (ns : List Int) (k f : Nat) (a c : Int) : List M16.Run := Rs ns (a + sz ns f) (a + sz ns k) ++ (if c > 1 then [(f, a + sz ns f, c - 1)] else [])
theorem rest_lv (g : Good ns) {k f : Nat} {a : Int} (hk : k ≤ f) (hf : f < ns.length) (d : sz ns f ∣ a) : ∀ r ∈ Rs ns (a + sz ns f) (a + sz ns k), k ≤ r.1 ∧ r.1 < f := by
  have c := chain g
  have dk := c.dvd hk hf
  have zk := c.pos k (by omega)
  have zf := c.pos f hf
  intro r hr
  have I := rgt c (lo := a + sz ns k) (hi := a + sz ns f) _ _ (Nat.le_refl _) (Int.le_refl _) (M16.B_lo c)
  obtain ⟨h1, h2, h3, h4, h5, h6⟩ := I.snd r hr
  have s := run_size g h1 h3
  refine ⟨?_, ?_⟩
  · have e := (h6 r.2.1 (Int.le_refl _) (by have := c.pos _ h1; omega)).2 k (by omega)
    have f1 := M16.fl_ge (x := r.2.1) zk (q := a + sz ns k) (Int.dvd_add (Int.dvd_trans dk d) (Int.dvd_refl _)) h4
    have f2 := M16.gap (M16.fl_dvd (sz ns k) r.2.1) (e := a + sz ns f) (Int.dvd_add (Int.dvd_trans dk d) dk) (by
      have := M16.fl_le r.2.1 zk
      have := c.pos _ h1
      omega)
    exact e f1 f2
  · refine Nat.lt_of_not_le fun z => ?_
    have := c.dvd z h1
    have := Int.le_of_dvd (by have := c.pos _ h1; omega) this
    omega
theorem rs_asc {rs : List M16.Run} (p : rs.Pairwise fun r q => r.2.1 + r.2.2 * sz ns r.1 ≤ q.2.1) {pre post : List M16.Run} {r : M16.Run} (e : rs = pre ++ r :: post) : (∀ q ∈ pre, q.2.1 + q.2.2 * sz ns q.1 ≤ r.2.1) ∧ (∀ q ∈ post, r.2.1 + r.2.2 * sz ns r.1 ≤ q.2.1) ∧ pre.Pairwise (fun r q => r.2.1 + r.2.2 * sz ns r.1 ≤ q.2.1) ∧ post.Pairwise (fun r q => r.2.1 + r.2.2 * sz ns r.1 ≤ q.2.1) ∧ ∀ q ∈ pre, ∀ t ∈ post, q.2.1 + q.2.2 * sz ns q.1 ≤ t.2.1 := by
  rw [e] at p
  obtain ⟨h1, h2, h3⟩ := List.pairwise_append.mp p
  obtain ⟨h4, h5⟩ := List.pairwise_cons.mp h2
  exact ⟨fun q hq => h3 q hq r List.mem_cons_self, h4, h1, h5, fun q hq t ht => h3 q hq t (List.mem_cons_of_mem _ ht)⟩
/-- the runs behind the taking of the first region of a run -/
theorem FrT.take {pre post : List M16.Run} {k f : Nat} {a c : Int} {p : Bool} (F : FrT ns n bs (pre ++ (f, a, c) :: post)) (g : Good ns) (hk : k ≤ f) : FrT ns n (bs ++ [(a, k, p)]) (pre ++ (takeR ns k f a c ++ post)) := by
  have ch := chain g
  obtain ⟨h1, h2, h3, h4⟩ := F.snd (f, a, c) (List.mem_append_right _ List.mem_cons_self)
  have h1 : f < ns.length := h1
  have h2 : sz ns f ∣ a := h2
  have h3 : 1 ≤ c := h3
  have h4 : ∀ x, a ≤ x → x < a + c * sz ns f → TopL ns n bs f x := h4
  have zf := ch.pos f h1
  have zk := ch.pos k (by omega)
  have dk := ch.dvd hk h1
  have kf : sz ns k ≤ sz ns f := Int.le_of_dvd (by omega) dk
  have cf : sz ns f ≤ c * sz ns f := by
    have := Int.mul_le_mul_of_nonneg_right h3 (show 0 ≤ sz ns f by omega)
    omega
  obtain ⟨s1, s2, s3, s4, s5⟩ := rs_asc F.asc (pre := pre) (post := post) (r := (f, a, c)) rfl
  have s1 : ∀ q ∈ pre, q.2.1 + q.2.2 * sz ns q.1 ≤ a := s1
  have s2 : ∀ q ∈ post, a + c * sz ns f ≤ q.2.1 := s2
  have fa : FrV ns n bs f a := by
    have := (h4 a (Int.le_refl _) (by omega)).1
    rwa [fl_self h2] at this
  have I := rgt ch (lo := a + sz ns k) (hi := a + sz ns f) _ _ (Nat.le_refl _) (Int.le_refl _) (M16.B_lo ch)
  have sub : ∀ {j : Nat} {y : Int}, FrV ns n (bs ++ [(a, k, p)]) j y → FrV ns n bs j y ∧ (a + sz ns k ≤ y ∨ y + sz ns j ≤ a) := fun {j y} h => ⟨⟨h.1, h.2.1, h.2.2.1, h.2.2.2.1, fun b hb => h.2.2.2.2 b (List.mem_append_left _ hb)⟩, h.2.2.2.2 (a, k, p) (List.mem_append_right _ List.mem_cons_self)⟩
  have sup : ∀ {j : Nat} {y : Int}, FrV ns n bs j y → (a + sz ns k ≤ y ∨ y + sz ns j ≤ a) → FrV ns n (bs ++ [(a, k, p)]) j y := fun {j y} h z => ⟨h.1, h.2.1, h.2.2.1, h.2.2.2.1, fun b hb => by
    rcases List.mem_append.mp hb with q | q
    · exact h.2.2.2.2 b q
    · rw [List.mem_singleton.mp q]
      exact z⟩
  -- a run of old regions beside the taken one
  have old : ∀ (l : Nat) (b d : Int), l < ns.length → sz ns l ∣ b → (∀ x, b ≤ x → x < b + d * sz ns l → TopL ns n bs l x) → (a + sz ns k ≤ b ∨ b + d * sz ns l ≤ a) → ∀ x, b ≤ x → x < b + d * sz ns l → TopL ns n (bs ++ [(a, k, p)]) l x := fun l b d hl hd t z x x1 x2 => by
    have zl := ch.pos l hl
    have tx := t x x1 x2
    obtain ⟨f1, f2, f3⟩ := fl_in g hl x
    have g1 := M16.fl_ge (x := x) zl hd x1
    have g2 := M16.gap f3 (e := b + d * sz ns l) (Int.dvd_add hd (Int.dvd_mul_left _ _)) (show fl ns l x < _ by omega)
    exact ⟨sup tx.1 (by unfold fl at *; omega), fun j hj => tx.2 j (sub hj).1⟩
  refine ⟨fun r hr => ?_, fun x hx => ?_, ?_⟩
  · rcases List.mem_append.mp hr with z | z
    · obtain ⟨k1, k2, k3, k4⟩ := F.snd r (List.mem_append_left _ z)
      exact ⟨k1, k2, k3, old r.1 r.2.1 r.2.2 k1 k2 k4 (.inr (s1 r z))⟩
    · rcases List.mem_append.mp z with z | z
      · unfold takeR at z
        rcases List.mem_append.mp z with z | z
        · obtain ⟨k1, k2, k3, k4, k5, k6⟩ := I.snd r z
          obtain ⟨lv1, lv2⟩ := rest_lv g hk h1 h2 r z
          refine ⟨k1, k2, k3, fun x x1 x2 => ?_⟩
          obtain ⟨⟨y1, y2⟩, y3⟩ := k6 x x1 x2
          have tx := h4 x (by omega) (by omega)
          obtain ⟨f1, f2, f3⟩ := fl_in g k1 x
          refine ⟨sup (fa.down g (Nat.le_of_lt lv2) f3 (by unfold fl; omega) (by unfold fl; omega)) (.inl (by unfold fl; omega)), fun j hj => ?_⟩
          obtain ⟨j1, j2⟩ := sub hj
          have jf := tx.2 j j1
          have hjl := j1.1
          have zj := ch.pos j hjl
          obtain ⟨e1, e2, e3⟩ := fl_in g hjl x
          have dj := ch.dvd jf h1
          have g1 := M16.fl_ge (x := x) zj (q := a) (Int.dvd_trans dj h2) (by omega)
          have g2 := M16.gap e3 (e := a + sz ns f) (Int.dvd_add (Int.dvd_trans dj h2) dj) (show fl ns j x < _ by omega)
          refine y3 j hjl ?_ g2
          rcases j2 with z | z
          · exact z
          · have g1' : a ≤ fl ns j x := g1
            omega
        · by_cases c1 : c > 1
          · rw [if_pos c1] at z
            rw [List.mem_singleton.mp z]
            have eq : a + sz ns f + (c - 1) * sz ns f = a + c * sz ns f := by
              rw [Int.sub_mul]
              omega
            exact ⟨h1, Int.dvd_add h2 (Int.dvd_refl _), by show 1 ≤ c - 1; omega, old f (a + sz ns f) (c - 1) h1 (Int.dvd_add h2 (Int.dvd_refl _)) (fun x x1 x2 => h4 x (by omega) (by omega)) (.inl (by omega))⟩
          · rw [if_neg c1] at z
            cases z
      · obtain ⟨k1, k2, k3, k4⟩ := F.snd r (List.mem_append_right _ (List.mem_cons_of_mem _ z))
        exact ⟨k1, k2, k3, old r.1 r.2.1 r.2.2 k1 k2 k4 (.inl (by have := s2 r z; omega))⟩
  · obtain ⟨x1, x2⟩ := sub hx
    obtain ⟨r, hr, r1, r2⟩ := F.cov x x1
    rcases List.mem_append.mp hr with z | z
    · exact ⟨r, List.mem_append_left _ z, r1, r2⟩
    · rcases List.mem_cons.mp z with rfl | z
      · have r1 : a ≤ x := r1
        have r2 : x < a + c * sz ns f := r2
        have z0 := ch.pos 0 x1.1
        by_cases y1 : x < a + sz ns f
        · obtain ⟨q, hq, q1⟩ := I.cov x (by omega) y1
          exact ⟨q, List.mem_append_right _ (List.mem_append_left _ (List.mem_append_left _ hq)), q1⟩
        · have c1 : c > 1 := by
            refine Int.lt_of_not_ge fun z => ?_
            have e : c = 1 := by omega
            rw [e, Int.one_mul] at r2
            omega
          have eq : a + sz ns f + (c - 1) * sz ns f = a + c * sz ns f := by
            rw [Int.sub_mul]
            omega
          refine ⟨(f, a + sz ns f, c - 1), List.mem_append_right _ (List.mem_append_left _ (List.mem_append_right _ (by rw [if_pos c1]; exact List.mem_singleton.mpr rfl))), by show a + sz ns f ≤ x; omega, by show x < a + sz ns f + (c - 1) * sz ns f; omega⟩
      · exact ⟨r, List.mem_append_right _ (List.mem_append_right _ z), r1, r2⟩
  · have tk : (takeR ns k f a c).Pairwise (fun r q => r.2.1 + r.2.2 * sz ns r.1 ≤ q.2.1) ∧ ∀ q ∈ takeR ns k f a c, a ≤ q.2.1 ∧ q.2.1 + q.2.2 * sz ns q.1 ≤ a + c * sz ns f := by
      unfold takeR
      refine ⟨List.pairwise_append.mpr ⟨I.asc, ?_, fun r hr q hq => ?_⟩, fun q hq => ?_⟩
      · by_cases c1 : c > 1
        · rw [if_pos c1]
          exact List.pairwise_singleton _ _
        · rw [if_neg c1]
          exact .nil
      · by_cases c1 : c > 1
        · rw [if_pos c1] at hq
          rw [List.mem_singleton.mp hq]
          exact (I.snd r hr).2.2.2.2.1
        · rw [if_neg c1] at hq
          cases hq
      · rcases List.mem_append.mp hq with z | z
        · obtain ⟨_, _, _, k4, k5, _⟩ := I.snd q z
          exact ⟨by omega, by omega⟩
        · by_cases c1 : c > 1
          · rw [if_pos c1] at z
            rw [List.mem_singleton.mp z]
            have eq : a + sz ns f + (c - 1) * sz ns f = a + c * sz ns f := by
              rw [Int.sub_mul]
              omega
            exact ⟨by show a ≤ a + sz ns f; omega, by show a + sz ns f + (c - 1) * sz ns f ≤ _; omega⟩
          · rw [if_neg c1] at z
            cases z
    refine List.pairwise_append.mpr ⟨s3, List.pairwise_append.mpr ⟨tk.1, s4, fun r hr q hq => ?_⟩, fun r hr q hq => ?_⟩
    · have := (tk.2 r hr).2
      have := s2 q hq
      omega
    · rcases List.mem_append.mp hq with z | z
      · have := (tk.2 q z).1
        have := s1 r hr
        omega
      · exact s5 r hr q z
/-- the chosen addresses of pieces of these levels -/
inductive ChO (ns : List Int) (n : Int) : List Blk → List Nat → Option (List Int) → Prop
  | nil {bs : List Blk} : ChO ns n bs [] (some [])
  | no {bs : List Blk} {k : Nat} {ks : List Nat} : NoR ns n bs k → ChO ns n bs (k :: ks) none
  | cons {bs : List Blk} {k : Nat} {ks : List Nat} {a : Int} {o : Option (List Int)} : Best ns n bs k a → ChO ns n (bs ++ [(a, k, false)]) ks o → ChO ns n bs (k :: ks) (o.map (a :: ·))
theorem Best.fr (g : Good ns) {k : Nat} {a : Int} (h : Best ns n bs k a) : FrV ns n bs k a := by
  obtain ⟨f, h1, h2, h3, _⟩ := h
  have t := h3.1
  rw [fl_self h2] at t
  have := (chain g).pos _ t.1
  exact t.down g h1 (Int.dvd_trans ((chain g).dvd h1 t.1) h2) (Int.le_refl _) (by omega)
theorem ChO.uniq (g : Good ns) : ∀ {ks : List Nat} {bs : List Blk} {o o' : Option (List Int)}, ChO ns n bs ks o → ChO ns n bs ks o' → o = o'
  | _, _, _, _, .nil, .nil => rfl
  | _, _, _, _, .no _, .no _ => rfl
  | _, _, _, _, .no h, .cons b _ => absurd (b.fr g) (h _)
  | _, _, _, _, .cons b _, .no h => absurd (b.fr g) (h _)
  | _, _, _, _, .cons b c, .cons b' c' => by
    have e := b.uniq b'
    subst e
    rw [ChO.uniq g c c']
end
end K44

set_option Elab.async false
set_option linter.all false
set_option maxRecDepth 100000
set_option maxHeartbeats 1600000
/-! Mathematics: how many regions are left. -/
namespace K44
open PySem PySem.Spec PyProof.Rows L2 Gu Ex
section
variable {ns : List Int} {n : Int} {bs : List Blk}
/-- the cells in regions of the level k that no block meets -/
def uC (ns : List Int) (n : Int) (bs : List Blk) (k : Nat) : Int := sz ns k * ((cn (fun i => bs.all fun b => !hitN ns (sz ns k) i b) (n / sz ns k).toNat : Nat) : Int)
def pinT (b : Blk) : Blk := (b.1, b.2.1, true)
theorem unt_pin (k : Nat) : untI ns n (bs.map pinT) k = untI ns n bs k := by
  have e1 : larI ns k (bs.map pinT) = larI ns k bs := by
    unfold larI
    rw [List.filter_map, List.map_map]
    rfl
  have e2 : smaL ns n k (bs.map pinT) = smaL ns n k bs := by
    unfold smaL
    rw [List.filter_map, List.map_map]
    rfl
  unfold untI
  rw [e1, e2]
theorem unt_uC (w : Wf ns n bs) (g : Good ns) {k : Nat} (hk : k < ns.length) (n1 : 0 ≤ n) : untI ns n bs k = uC ns n bs k := by
  have w' : Wf ns n (bs.map pinT) := ⟨fun b hb => by
    obtain ⟨c, hc, rfl⟩ := List.mem_map.mp hb
    exact w.ok c hc, List.pairwise_map.mpr w.so⟩
  rw [← unt_pin, unt_clr w' g hk n1 (fun b hb => by
    obtain ⟨c, _, rfl⟩ := List.mem_map.mp hb
    rfl), clr_due w' g hk n1]
  unfold dueI uC
  rw [cntC_cn]
  have e : cn (clearAt ns (bs.map pinT) k) (n / sz ns k).toNat = cn (fun i => bs.all fun b => !hitN ns (sz ns k) i b) (n / sz ns k).toNat := cn_congr fun i _ => by
    unfold clearAt clearB
    rw [List.all_map]
    rfl
  rw [e]
theorem uC_perm {cs : List Blk} (p : cs.Perm bs) (k : Nat) : uC ns n cs k = uC ns n bs k := by
  unfold uC
  have e : cn (fun i => cs.all fun b => !hitN ns (sz ns k) i b) (n / sz ns k).toNat = cn (fun i => bs.all fun b => !hitN ns (sz ns k) i b) (n / sz ns k).toNat := cn_congr fun i _ => by
    refine Bool.eq_iff_iff.mpr ?_
    rw [List.all_eq_true, List.all_eq_true]
    exact ⟨fun h b hb => h b (p.mem_iff.mpr hb), fun h b hb => h b (p.mem_iff.mp hb)⟩
  rw [e]
theorem uC_nn (g : Good ns) {k : Nat} (hk : k < ns.length) : 0 ≤ uC ns n bs k := by
  have z := (chain g).pos k hk
  exact Int.mul_nonneg (by omega) (by omega)
theorem uC_take (g : Good ns) {a : Int} {k j : Nat} {p : Bool} (h : FrV ns n bs k a) (hj : j ≤ k) : uC ns n (bs ++ [(a, k, p)]) j = uC ns n bs j - sz ns k := by
  have c := chain g
  obtain ⟨h1, h2, h3, h4, h5⟩ := id h
  have hjl : j < ns.length := by omega
  have zj := c.pos j hjl
  have zk := c.pos k h1
  have dj := c.dvd hj h1
  obtain ⟨A, eA⟩ := Int.dvd_trans dj h2
  obtain ⟨B, eB⟩ := dj
  have fr : ∀ i : Nat, inG (sz ns j) a (a + sz ns k) i = true → (bs.all fun b => !hitN ns (sz ns j) i b) = true := fun i hi => by
    obtain ⟨i1, i2⟩ := inG_iff.mp hi
    have f := h.down g hj (x := (i : Int) * sz ns j) (Int.dvd_mul_left _ _) i1 (by omega)
    refine List.all_eq_true.mpr fun b hb => ?_
    cases e : hitN ns (sz ns j) i b with
    | false => rfl
    | true =>
      obtain ⟨e1, e2⟩ := hitN_iff.mp e
      rcases f.2.2.2.2 b hb with z | z <;> omega
  have all : ∀ i : Nat, ((bs ++ [(a, k, p)]).all fun b => !hitN ns (sz ns j) i b) = ((bs.all fun b => !hitN ns (sz ns j) i b) && !inG (sz ns j) a (a + sz ns k) i) := fun i => by
    rw [List.all_append]
    have := hit_large (i := i) (b := (a, k, p)) g hj h1 h2
    simp only [List.all_cons, List.all_nil, Bool.and_true]
    rw [this]
    rfl
  have cnt := cn_or (p := fun i => bs.all fun b => !hitN ns (sz ns j) i b) (q := fun i => (bs ++ [(a, k, p)]).all fun b => !hitN ns (sz ns j) i b) (r := fun i => inG (sz ns j) a (a + sz ns k) i) (m := (n / sz ns j).toNat) (fun i _ => by
    show _ = (_ || _)
    rw [all]
    cases e : inG (sz ns j) a (a + sz ns k) i with
    | true => rw [fr i e]; rfl
    | false => rw [Bool.or_false]; simp) (fun i _ hq => by
    have hq' : ((bs ++ [(a, k, p)]).all fun b => !hitN ns (sz ns j) i b) = true := hq
    rw [all] at hq'
    have := (Bool.and_eq_true_iff.mp hq').2
    show inG (sz ns j) a (a + sz ns k) i = false
    cases e : inG (sz ns j) a (a + sz ns k) i with
    | true => rw [e] at this; cases this
    | false => rfl)
  have A0 : 0 ≤ A := by
    refine Int.not_lt.mp fun z => ?_
    have := Int.mul_le_mul_of_nonneg_left (show A ≤ -1 by omega) (show 0 ≤ sz ns j by omega)
    omega
  have B0 : 0 ≤ B := by
    refine Int.not_lt.mp fun z => ?_
    have := Int.mul_le_mul_of_nonneg_left (show B ≤ -1 by omega) (show 0 ≤ sz ns j by omega)
    omega
  have le : A + B ≤ n / sz ns j := by
    refine (Int.le_ediv_iff_mul_le (by omega)).mpr ?_
    rw [Int.add_mul, Int.mul_comm A, Int.mul_comm B]
    omega
  have seg := cn_seg (A := A) (B := A + B) A0 (n / sz ns j).toNat
  have eq : cn (fun i => inG (sz ns j) a (a + sz ns k) i) (n / sz ns j).toNat = cn (fun i => decide (A ≤ (i : Int)) && decide ((i : Int) < A + B)) (n / sz ns j).toNat := cn_congr fun i _ => by
    refine Bool.eq_iff_iff.mpr ?_
    show inG (sz ns j) a (a + sz ns k) i = true ↔ _
    rw [inG_iff, Bool.and_eq_true, decide_eq_true_eq, decide_eq_true_eq, eA, eB]
    have e2 : (i : Int) * sz ns j + sz ns j = sz ns j * ((i : Int) + 1) := by rw [Int.mul_add, Int.mul_one, Int.mul_comm]
    rw [e2, Int.mul_comm (i : Int), ← Int.mul_add]
    constructor
    · rintro ⟨i1, i2⟩
      have := Int.le_of_mul_le_mul_left i1 (by omega)
      have := Int.le_of_mul_le_mul_left i2 (by omega)
      omega
    · rintro ⟨i1, i2⟩
      exact ⟨Int.mul_le_mul_of_nonneg_left i1 (by omega), Int.mul_le_mul_of_nonneg_left (by omega) (by omega)⟩
  have cB : ((cn (fun i => inG (sz ns j) a (a + sz ns k) i) (n / sz ns j).toNat : Nat) : Int) = B := by
    rw [eq, seg]
    have e3 : min (A + B) (((n / sz ns j).toNat : Nat) : Int) = A + B := by omega
    rw [e3]
    split <;> omega
  unfold uC
  rw [cnt, Int.natCast_add, cB, Int.mul_add, ← eB]
  omega
theorem uC_no (g : Good ns) {k : Nat} (hk : k < ns.length) (h : NoR ns n bs k) : uC ns n bs k = 0 := by
  have z := (chain g).pos k hk
  have e : cn (fun i => bs.all fun b => !hitN ns (sz ns k) i b) (n / sz ns k).toNat = 0 := cn_zero fun i hi => by
    cases e : bs.all fun b => !hitN ns (sz ns k) i b with
    | false => rfl
    | true =>
      refine absurd ⟨hk, Int.dvd_mul_left _ _, Int.mul_nonneg (by omega) (by omega), ?_, fun b hb => ?_⟩ (h ((i : Int) * sz ns k))
      · have h2 : ((i : Int) + 1) ≤ n / sz ns k := by omega
        have := (Int.le_ediv_iff_mul_le (by omega)).mp h2
        rw [Int.add_mul, Int.one_mul] at this
        exact this
      · have := List.all_eq_true.mp e b hb
        have : hitN ns (sz ns k) i b = false := by simpa using this
        have no : ¬ (b.1 < (i : Int) * sz ns k + sz ns k ∧ (i : Int) * sz ns k < bEnd ns b) := fun z => by
          rw [hitN_iff.mpr z] at this
          cases this
        omega
  unfold uC
  rw [e]
  omega
theorem sum_nn : ∀ {l : List Int}, (∀ x ∈ l, 0 ≤ x) → 0 ≤ l.sum
  | [], _ => Int.le_refl _
  | x :: l, h => by
    have := h x List.mem_cons_self
    have := sum_nn (l := l) fun y hy => h y (List.mem_cons_of_mem _ hy)
    rw [List.sum_cons]
    omega
def need (ns : List Int) (j : Nat) (ks : List Nat) : Int := ((ks.filter fun k => decide (j ≤ k)).map fun k => sz ns k).sum
theorem need_cons (j k : Nat) (ks : List Nat) : need ns j (k :: ks) = (if j ≤ k then sz ns k else 0) + need ns j ks := by
  unfold need
  by_cases h : j ≤ k
  · rw [List.filter_cons_of_pos (by simpa using h), if_pos h, List.map_cons, List.sum_cons]
  · rw [List.filter_cons_of_neg (by simpa using h), if_neg h]
    omega
theorem need_none {j : Nat} : ∀ {ks : List Nat}, (∀ k ∈ ks, k < j) → need ns j ks = 0
  | [], _ => rfl
  | k :: r, h => by
    rw [need_cons, if_neg (by have := h k List.mem_cons_self; omega), need_none fun c hc => h c (List.mem_cons_of_mem _ hc)]
    rfl
theorem cho_iff (g : Good ns) : ∀ {ks : List Nat} {bs : List Blk} {o : Option (List Int)}, ks.Pairwise (fun a b => b ≤ a) → (∀ k ∈ ks, k < ns.length) → ChO ns n bs ks o → (o ≠ none ↔ ∀ j, j < ns.length → need ns j ks ≤ uC ns n bs j)
  | _, bs, _, _, _, .nil => ⟨fun _ j hj => uC_nn g hj, fun _ z => nomatch z⟩
  | k :: ks, bs, _, _, hl, .no h => ⟨fun z => absurd rfl z, fun z => by
    have hk := hl k List.mem_cons_self
    have e := z k hk
    rw [uC_no g hk h, need_cons, if_pos (Nat.le_refl k)] at e
    have zk := (chain g).pos k hk
    have nn : 0 ≤ need ns k ks := by
      unfold need
      refine sum_nn fun x hx => ?_
      obtain ⟨c, hc, rfl⟩ := List.mem_map.mp hx
      have := (chain g).pos c (hl c (List.mem_cons_of_mem _ (List.mem_filter.mp hc).1))
      omega
    omega⟩
  | k :: ks, bs, _, p, hl, .cons (a := a) (o := o) b c => by
    have p2 := List.pairwise_cons.mp p
    have I := cho_iff g p2.2 (fun c hc => hl c (List.mem_cons_of_mem _ hc)) c
    have fb := b.fr g
    have e : Option.map (a :: ·) o ≠ none ↔ o ≠ none := by cases o <;> simp
    rw [e, I]
    constructor
    · intro h j hj
      rw [need_cons]
      by_cases z : j ≤ k
      · rw [if_pos z]
        have := h j hj
        rw [uC_take g fb z] at this
        omega
      · rw [if_neg z, need_none fun c hc => by have := p2.1 c hc; omega]
        have := uC_nn (n := n) (bs := bs) g hj
        omega
    · intro h j hj
      have := h j hj
      rw [need_cons] at this
      by_cases z : j ≤ k
      · rw [if_pos z] at this
        rw [uC_take g fb z]
        omega
      · rw [need_none fun c hc => by have := p2.1 c hc; omega]
        exact uC_nn g hj
end
end K44

set_option Elab.async false
set_option linter.all false
set_option maxRecDepth 100000
set_option maxHeartbeats 1600000
/-! Mathematics: the levels of the pieces. -/
namespace K44
open PySem PySem.Spec PyProof.Rows L2 Gu Ex
section
variable {ns : List Int} {c : Int}
def lvN (ns : List Int) (c : Int) : Nat → List Nat
  | 0 => []
  | i + 1 => lvN ns c i ++ List.replicate (M13.cnt (sz ns) ns.length c (ns.length - 1 - i)).toNat (ns.length - 1 - i)
def pcN (ns : List Int) (c : Int) : List Nat := lvN ns c ns.length
theorem lvN_map (ns : List Int) (c : Int) : ∀ i, (lvN ns c i).map (fun k : Nat => (k : Int)) = lvls ns c i
  | 0 => rfl
  | i + 1 => by
    show (lvN ns c i ++ _).map _ = lvls ns c i ++ _
    rw [List.map_append, lvN_map ns c i, List.map_replicate]
theorem pcN_map (ns : List Int) (c : Int) : (pcN ns c).map (fun k : Nat => (k : Int)) = pcs ns c := lvN_map ns c ns.length
theorem lvN_in (g : Good ns) : ∀ i, i ≤ ns.length → (∀ k ∈ lvN ns c i, k < ns.length ∧ ns.length - i ≤ k) ∧ (lvN ns c i).Pairwise (fun a b => b ≤ a)
  | 0, _ => ⟨(fun _ h => nomatch h), .nil⟩
  | i + 1, h => by
    obtain ⟨h1, h2⟩ := lvN_in g i (by omega)
    have l1 := g.len.1
    refine ⟨fun k hk => ?_, List.pairwise_append.mpr ⟨h2, List.pairwise_replicate.mpr (.inr (Nat.le_refl _)), fun a ha b hb => ?_⟩⟩
    · rcases List.mem_append.mp hk with z | z
      · have := h1 k z
        omega
      · have := (List.mem_replicate.mp z).2
        omega
    · have := h1 a ha
      have := (List.mem_replicate.mp hb).2
      omega
theorem need_app (j : Nat) (xs ys : List Nat) : need ns j (xs ++ ys) = need ns j xs + need ns j ys := by
  unfold need
  rw [List.filter_append, List.map_append, List.sum_append]
theorem need_rep (j k : Nat) : ∀ t : Nat, need ns j (List.replicate t k) = if j ≤ k then (t : Int) * sz ns k else 0
  | 0 => by
    show (0 : Int) = _
    split <;> simp
  | t + 1 => by
    rw [List.replicate_succ, need_cons, need_rep j k t]
    split
    · rw [Int.natCast_add, Int.add_mul]
      show sz ns k + _ = _ + 1 * _
      omega
    · rfl
theorem need_lv (g : Good ns) (c0 : 0 ≤ c) {j : Nat} (hj : j < ns.length) : ∀ i, i ≤ ns.length → need ns j (lvN ns c i) = M13.from_ (fun k => M13.cnt (sz ns) ns.length c k * sz ns k) ns.length (min i (ns.length - j))
  | 0, _ => by
    rw [Nat.zero_min]
    rfl
  | i + 1, h => by
    show need ns j (lvN ns c i ++ _) = _
    have cn := M13.cnt_nn (chain g) c0 (k := ns.length - 1 - i) (by omega)
    rw [need_app, need_lv g c0 hj i (by omega), need_rep]
    by_cases z : i + 1 ≤ ns.length - j
    · rw [if_pos (by omega), Nat.min_eq_left z, Nat.min_eq_left (by omega), show (((M13.cnt (sz ns) ns.length c (ns.length - 1 - i)).toNat : Nat) : Int) = M13.cnt (sz ns) ns.length c (ns.length - 1 - i) by omega]
      show _ = M13.cnt (sz ns) ns.length c (ns.length - (i + 1)) * sz ns (ns.length - (i + 1)) + _
      rw [show ns.length - 1 - i = ns.length - (i + 1) by omega]
      omega
    · rw [if_neg (by omega), show min (i + 1) (ns.length - j) = min i (ns.length - j) by omega]
      omega
theorem need_pc (g : Good ns) (c0 : 0 ≤ c) {j : Nat} (hj : j < ns.length) : need ns j (pcN ns c) = c - c % sz ns j := by
  unfold pcN
  rw [need_lv g c0 hj ns.length (Nat.le_refl _), show min ns.length (ns.length - j) = (ns.length - j - 1) + 1 by omega, M13.from_is (chain g) c _ (by omega), show ns.length - (ns.length - j - 1 + 1) = j by omega]
theorem pc_in (g : Good ns) : (∀ k ∈ pcN ns c, k < ns.length) ∧ (pcN ns c).Pairwise (fun a b => b ≤ a) := by
  obtain ⟨h1, h2⟩ := lvN_in (c := c) g ns.length (Nat.le_refl _)
  exact ⟨fun k hk => (h1 k hk).1, h2⟩
end
end K44

set_option Elab.async false
set_option linter.all false
set_option maxRecDepth 100000
set_option maxHeartbeats 4000000
/-! Own layer: repr(o) by the class's own __repr__; {x!r} of a list or a tuple of data in an f-string. -/
namespace Ex
open PySem PySem.Spec PySem.Calls PyProof.Rows L2 Gu
/-- methods that are called where no repr is under way -/
structure MfG (P : Program) (w : World) (K : PySem.W.Frag) (mg : Str → Option Value) (base : Heap) (k : Nat) (c m : Str) (ps : List Str) (sp : Sp) : Prop where
  ex : ∃ fd, FnG P w K mg base CX0 k (He.ma K (He.ga K c) m) fd ps sp ∧ Binds K fd ps []
  cl : Cls K (He.ga K c)
  me : Meth K (He.ga K c) m (He.ma K (He.ga K c) m)
section
variable {X : Cx} {k j : Nat} {c : Str} {ps : List Str} {sp : Sp}
def rReprO (C : Addr) (sp : Sp) : List V → Hp → VK → Prop := fun xs H Q => ∃ (a dx : Addr) (fs : List (Str × V)), xs = [.ref a] ∧ H a = some (.ins C dx fs) ∧ sp [.ref a] H (fun v H' => ∃ z : Str, v = .str z ∧ Q (.str z) H') E0
theorem call_reprO (D : MfG X.prog X.w X.K X.mg X.base k c "__repr__" ps sp) (hr : RoomG j X.A) (hj : k + 1 ≤ j := by decide) : CallR X (.builtin "repr") (rReprO (He.ga X.K c) sp) := by
  intro pins s σ H xs us Q I r h
  obtain ⟨a, dx, fs, rfl, ha, hq⟩ := h
  obtain ⟨u, rfl, ru⟩ := vals1 r
  obtain rfl : u = Value.ref a := ru
  obtain ⟨fd, F, b⟩ := D.ex
  obtain ⟨mA, J, _⟩ := ins_get I.hok ha
  obtain ⟨od, J, _⟩ := J.look
  obtain ⟨m, hF⟩ := I.fr
  have rm : RoomG k X.A.in1 := ⟨(hr.r.mono hj).in1, hr.g⟩
  have hl := F.len _ _ _ _ hq
  refine PySem.W.repr_K rm.r.units0 hF I.ok.mod.kin J D.me.at_ D.me.fn ?_
  refine wpAny_call (codeAny_mono (F.run X.A.in1 X.stack s H ⟨[.ref a], []⟩ [.ref a] [.ref a] _ E0 rm I.env0.in1 (by
    have := b s [.ref a] I.kIn (by simpa using hl)
    simpa using this) (.cons rfl .nil) hq) fun r s' hq' => ?_)
  match r, hq' with
  | .ok (.ret u), hq' =>
    obtain ⟨v, H', I', rv, z, rfl, q⟩ := I.after hq'
    obtain ⟨t, rfl⟩ := rv
    exact ⟨.str z, H', I', ⟨t, rfl⟩, q⟩
/-- {x!r}, x a list or a tuple -/
def tFmtRQ (K : PySem.W.Frag) (te : TE) : TE := fun σ H Q => te σ H fun x H1 => ∃ (a : Addr) (d : PyData), x = .ref a ∧ Dq K H1 (.ref a) d ∧ d.showable = true ∧ d.depth ≤ 60 ∧ d.shown.length ≤ sizeLine ∧ Q (.str d.shown) H1
theorem pe_fmtRQ (hr : RoomG k X.A) (hs : SysOk X.K) {e : Expr} {te : TE} {pos : Pos} (he : PE X e te) : PE X (.FormattedValue e 114 none pos) (tFmtRQ X.K te) := by
  refine ⟨fun pins s σ H Q I h => ?_⟩
  refine wpAny_FormattedValue_repr (thn (he.run pins s σ H _ I h) fun v s1 hv => ?_)
  obtain ⟨x, H1, I1, r1, a, d, rfl, hd, hsh, hdep, hz, q⟩ := hv
  obtain ⟨as, rd, na⟩ := Dq.reads hs I1 hd v r1
  obtain rfl : v = Value.ref a := r1
  have hu := hr.r.units
  refine pyReprObj_of_reads rd hsh (fun _ => na) hr.g (by omega) (fun _ _ e => e) (fun h' u tk hk => ?_) hz
  exact wpAny_formatField_str ⟨.str d.shown, H1, I1.kept hk, ⟨_, rfl⟩, q⟩ ⟨.str d.shown, H1, I1.kept hk, ⟨_, rfl⟩, q⟩ hz
end
end Ex

set_option Elab.async false
set_option linter.all false
set_option maxRecDepth 100000
set_option maxHeartbeats 4000000
set_option pp.maxSteps 900
namespace K44
open PySem PySem.Spec PyProof.Rows L2 Gu Ex
section
variable {K : PySem.W.Frag} {H : Hp} {n m : Nat}
theorem tqa_nil : TqAll K H [] [] n m := ⟨.nil, rfl, Nat.zero_le _, Nat.zero_le _⟩
theorem tqa_cons {v : V} {vs : List V} {d : PyData} {ds : List PyData} (t : Tq K H v d n m) (h : TqAll K H vs ds n m) : TqAll K H (v :: vs) (d :: ds) n m := by
  obtain ⟨a, b, c, e⟩ := h
  refine ⟨.cons t.dq a, ?_, ?_, ?_⟩
  · show (d.showable && PyData.showableAll ds) = true
    rw [t.sh, b]
    rfl
  · show max d.depth (PyData.depthAll ds) ≤ n
    have := t.dp
    omega
  · show (d.shown.length + ((PyData.shownAll ds).map (·.length)).sum) + 2 * ((PyData.shownAll ds).length + 1) ≤ (vs.length + 1) * (m + 2)
    have := t.ln
    rw [Nat.add_mul, Nat.one_mul]
    omega
end
theorem tqa_blks {K : PySem.W.Frag} {H : Hp} : ∀ {ps : List Addr} {bs : List Blk}, Refs blkV H ps bs → (∀ b ∈ bs, 0 ≤ b.1 ∧ b.1 ≤ 1000000000000 ∧ b.2.1 ≤ 1000) → TqAll K H (ps.map V.ref) (bs.map blkD) 1 200
  | _, _, .nil, _ => tqa_nil
  | _, _, .cons (t := b) h hs, ok => by
    have b39 : (10 : Int) ^ 39 = 1000000000000000000000000000000000000000 := by decide
    obtain ⟨h1, h2, h3⟩ := ok b List.mem_cons_self
    exact tqa_cons (((tqa_cons (m := 41) (n := 0) (tq_int (i := b.1) (by omega) (by omega)) (tqa_cons (tq_int (i := (b.2.1 : Int)) (by omega) (by omega)) (tqa_cons (tq_bl b.2.2) tqa_nil))).tup h).mono (by decide) (by show 3 * (41 + 2) + 3 ≤ 200; decide)) (tqa_blks hs fun c hc => ok c (List.mem_cons_of_mem _ hc))
theorem Wf.bnd {ns : List Int} {n : Int} {bs : List Blk} (w : Wf ns n bs) (g : Good ns) (n2 : n ≤ 1000000000000) : ∀ b ∈ bs, 0 ≤ b.1 ∧ b.1 ≤ 1000000000000 ∧ b.2.1 ≤ 1000 := fun b hb => by
  obtain ⟨h1, h2, h3, h4⟩ := w.ok b hb
  have s1 := w.pos g hb
  have g8 := g.len
  refine ⟨h2, ?_, by omega⟩
  unfold bEnd at h4
  omega
theorem blks_tq {K : PySem.W.Frag} {H : Hp} {qs : List Addr} {bs : List Blk} {l : Addr} (r : Refs blkV H qs bs) (i : ∀ b ∈ bs, 0 ≤ b.1 ∧ b.1 ≤ 1000000000000 ∧ b.2.1 ≤ 1000) (ln : bs.length ≤ 200) (h : H l = some (.lst (qs.map V.ref))) : Tq K H (.ref l) (.list (bs.map blkD)) 2 45000 :=
  ((tqa_blks r i).lst h).mono (by decide) (by rw [List.length_map, r.len]; omega)
def shV (ns : List Int) (n : Int) (bs : List Blk) (cs : List Int) : V := match (List.range ns.length).find? (fun k => decide (slkI ns n bs k cs < 0)) with
  | some k => .int (k : Nat)
  | none => .non
theorem sh_at {ns : List Int} {n : Int} {bs : List Blk} {cs : List Int} {k : Nat} (h : k < ns.length) (p : slkI ns n bs k cs < 0) (b : ∀ j, j < k → ¬ slkI ns n bs j cs < 0) : shV ns n bs cs = .int (k : Nat) := by
  have e : (List.range ns.length).find? (fun k => decide (slkI ns n bs k cs < 0)) = some k := List.find?_range_eq_some.mpr ⟨decide_eq_true p, List.mem_range.mpr h, fun j hj => by
    rw [decide_eq_false (b j hj)]
    rfl⟩
  unfold shV
  rw [e]
theorem sh_no {ns : List Int} {n : Int} {bs : List Blk} {cs : List Int} (b : ∀ j, j < ns.length → ¬ slkI ns n bs j cs < 0) : shV ns n bs cs = .non := by
  have e : (List.range ns.length).find? (fun k => decide (slkI ns n bs k cs < 0)) = none := List.find?_range_eq_none.mpr fun j hj => by
    rw [decide_eq_false (b j hj)]
    rfl
  unfold shV
  rw [e]
section
variable {P : Program} {w : World} {K : PySem.W.Frag} {mg : Str → Option Value} {base : Heap} {f : Addr} {fd : FuncData}
def spShort (K : PySem.W.Frag) : Sp := fun vs H Q _ => ∃ (y zp bl dx : Addr) (ps : List Addr) (ns : List Int) (n : Int) (bs : List Blk) (a : Addr) (cs : List Int), vs = [.ref y, .ref a] ∧ Ly K H y zp bl dx ps ns n bs ∧ Kept K H a cs ∧ (∀ c ∈ cs, 1 ≤ c ∧ c ≤ 1000000000000) ∧ cs.length ≤ 1000 ∧ ∀ H', Same H H' → Q (shV ns n bs cs) H'
theorem sc_short_level : FnScope ["self", "numbers", "level"] ["self", "numbers"] (defScope (inClass (top 34) 27)) := ⟨rfl, rfl, rfl, by decide +kernel, rfl, by decide +kernel, by decide +kernel⟩
theorem ok_short (T : Tx K mg) (M_len : Mf P w K mg base 1 "Sizes" "__len__" ["self"] (spLen K)) (M_slack_kw : MfK P w K mg base 10 "Layout" "slack" ["self", "level", "kept"] 2 ["kept"] (spSlack K)) (F : FnP K "short_level" "Layout.short_level" (inClass (top 34) 27) f fd) :
    FnOk P w K mg base CX0 11 f fd ["self", "numbers"] (spShort K) := by
  refine F.ok sc_short_level (fun vs H Q E h => ?_) (fun cdv A outer s H vs Q E hr h => ⟨_, PSs.nox (pss_cons (ps_for PassesOwn.never rfl (pi_range1 rfl T.n_range (pa_cons (pe_callB (call_lenO M_len hr) (by rfl) T.n_len (by decide +kernel) (pa_cons (pe_fld (pv 0) rfl) pa_nil)) pa_nil)) (pg_name (i := 2) sc_short_level.nd rfl (by first | exact Or.inl rfl | exact Or.inr rfl)) (pss_one (ps_if (pt_cmpR op_lt (pmethK M_slack_kw hr (pv 0) (pa_cons (pv 2) pa_nil) (pk_cons (pv 1) pk_nil)) pe_int (nomark _)) (pss_one (ps_ret (pv 2))) pss_nil))) (pss_one (ps_ret pe_non))), ?_⟩)
  · obtain ⟨y, zp, bl, dx, ps, ns, n, bs, a, cs, rfl, _⟩ := h
    rfl
  · obtain ⟨y, zp, bl, dx, ps, ns, n, bs, a, cs, rfl, L, kp, rg, cl, q⟩ := h
    have l8 := L.gd.len
    have sl : sizeLine = 16777216 := sizeLine_eq
    obtain ⟨dz, l, zz, zl⟩ := L.szs
    refine ⟨_, rfl, y, _, dx, _, _, rfl, L.at_, T.ly, T.nST, lay_st .., zp, dz, _, rfl, zz, zp, ns, rfl, L.szs, ns.length, rfl, by omega, _, rfl, by omega, by omega, ?_⟩
    refine for_range (fun i σ G => (∃ x, σ = [some (.ref y), some (.ref a), x]) ∧ Same H G ∧ ∀ j, j < i → ¬ slkI ns n bs j cs < 0) ⟨⟨_, rfl⟩, Same.refl _, fun j hj => absurd hj (Nat.not_lt_zero j)⟩ ?_ ?_
    · rintro i σ G hi ⟨⟨x, rfl⟩, sm, hb⟩
      rw [Int.toNat_natCast] at hi
      rw [Int.zero_add]
      have LG := L.same sm
      refine ⟨_, rfl, y, dx, _, rfl, LG.at_, lay_nm (by decide +kernel), _, rfl, _, rfl, rfl, rfl, y, zp, bl, dx, ps, ns, n, bs, i, a, cs, rfl, LG, hi, kp.same sm, rg, cl, fun G1 s1 => ?_⟩
      refine ⟨_, _, rfl, rfl, _, rfl, ?_⟩
      by_cases c0 : slkI ns n bs i cs < 0
      · have e := q G1 (sm.trans s1)
        rw [sh_at hi c0 hb] at e
        exact ifT (decide_eq_true c0) ⟨_, rfl, e⟩
      · refine ifF (decide_eq_false c0) ⟨⟨_, rfl⟩, sm.trans s1, fun j hj => ?_⟩
        by_cases e : j = i
        · rw [e]
          exact c0
        · exact hb j (by omega)
    · rintro σ G ⟨⟨x, rfl⟩, sm, hb⟩
      rw [Int.toNat_natCast] at hb
      have e := q G sm
      rw [sh_no hb] at e
      exact e
def spFits (K : PySem.W.Frag) : Sp := fun vs H Q _ => ∃ (y zp bl dx : Addr) (ps : List Addr) (ns : List Int) (n : Int) (bs : List Blk) (a : Addr) (cs : List Int), vs = [.ref y, .ref a] ∧ Ly K H y zp bl dx ps ns n bs ∧ Kept K H a cs ∧ (∀ c ∈ cs, 1 ≤ c ∧ c ≤ 1000000000000) ∧ cs.length ≤ 1000 ∧ (∀ j, j < ns.length → ¬ slkI ns n bs j cs < 0) ∧ ∀ H', Same H H' → Q .non H'
theorem sc_check_fits : FnScope ["layout", "numbers", "short"] ["layout", "numbers"] (defScope (top 33)) := ⟨rfl, rfl, rfl, by decide +kernel, rfl, by decide +kernel, by decide +kernel⟩
theorem ok_fits (T : Tx K mg) (M_short_level : Mf P w K mg base 11 "Layout" "short_level" ["self", "numbers"] (spShort K)) (F : FnP K "check_fits" "check_fits" (top 33) f fd) : FnOk P w K mg base CX0 12 f fd ["layout", "numbers"] (spFits K) := by
  refine F.ok sc_check_fits (fun vs H Q E h => ?_) (fun cdv A outer s H vs Q E hr h => ⟨_, PSs.nox (pss_cons (ps_set (i := 2) sc_check_fits.nd rfl (by first | exact Or.inl rfl | exact Or.inr rfl) (pmeth M_short_level hr (pv 0) (pa_cons (pv 1) pa_nil))) (pss_one (ps_if (pt_cmpR op_notN (pv 2) pe_non (nomark _)) (pss_one ps_never) pss_nil))), ?_⟩)
  · obtain ⟨y, zp, bl, dx, ps, ns, n, bs, a, cs, rfl, _⟩ := h
    rfl
  · obtain ⟨y, zp, bl, dx, ps, ns, n, bs, a, cs, rfl, L, kp, rg, cl, no, q⟩ := h
    refine ⟨_, rfl, y, dx, _, rfl, L.at_, lay_nm (by decide +kernel), _, rfl, y, zp, bl, dx, ps, ns, n, bs, a, cs, rfl, L, kp, rg, cl, fun H1 s1 => ?_⟩
    rw [sh_no no]
    exact ⟨_, rfl, rfl, _, rfl, ifF (by rw [decide_eq_true rfl]; rfl) (q H1 s1)⟩
def spAll (K : PySem.W.Frag) : Sp := fun vs H Q _ => ∃ (p : Addr) (ns : List Int), vs = [.ref p] ∧ SzAt (He.ga K "Sizes") H p ns ∧ ∀ l, H l = none → Q (.ref l) (upd H l (.lst (ns.map V.int)))
theorem sc_all_sizes : FnScope ["self"] ["self"] (defScope (inClass (top 19) 11)) := ⟨rfl, rfl, rfl, by decide +kernel, rfl, by decide +kernel, by decide +kernel⟩
theorem ok_all (T : Tx K mg) (F : FnP K "all_sizes" "Sizes.all_sizes" (inClass (top 19) 11) f fd) : FnOk P w K mg base CX0 1 f fd ["self"] (spAll K) := by
  refine F.ok sc_all_sizes (fun vs H Q E h => ?_) (fun cdv A outer s H vs Q E hr h => ⟨_, PSs.nox (pss_one (ps_ret (pe_callTy call_list_of (by rfl) T.n_list (by decide +kernel) (pa_cons (pe_fld (pv 0) rfl) pa_nil)))), ?_⟩)
  · obtain ⟨p, ns, rfl, _⟩ := h
    rfl
  · obtain ⟨p, ns, rfl, ⟨dx, l, h1, h2⟩, q⟩ := h
    exact ⟨_, rfl, p, _, dx, _, _, rfl, h1, T.cl, T.nSL, szF_get l, l, _, rfl, .inl (SqL.of h2), q⟩
def spLng (K : PySem.W.Frag) : Sp := fun vs H Q _ => ∃ (y zp bl dx : Addr) (ps : List Addr) (ns : List Int) (n : Int) (bs : List Blk), vs = [.ref y] ∧ Ly K H y zp bl dx ps ns n bs ∧ Q (.int n) H
theorem sc_length : FnScope ["self"] ["self"] (defScope (inClass (top 34) 5)) := ⟨rfl, rfl, rfl, by decide +kernel, rfl, by decide +kernel, by decide +kernel⟩
theorem ok_lng (T : Tx K mg) (F : FnP K "length" "Layout.length" (inClass (top 34) 5) f fd) : FnOk P w K mg base CX0 1 f fd ["self"] (spLng K) := by
  refine F.ok sc_length (fun vs H Q E h => ?_) (fun cdv A outer s H vs Q E hr h => ⟨_, PSs.nox (pss_one (ps_ret (pe_fld (pv 0) rfl))), ?_⟩)
  · obtain ⟨y, zp, bl, dx, ps, ns, n, bs, rfl, _⟩ := h
    rfl
  · obtain ⟨y, zp, bl, dx, ps, ns, n, bs, rfl, L, q⟩ := h
    exact ⟨_, rfl, y, _, dx, _, _, rfl, L.at_, T.ly, T.nCC, lay_cc .., q⟩
def spSzs (K : PySem.W.Frag) : Sp := fun vs H Q _ => ∃ (y zp bl dx : Addr) (ps : List Addr) (ns : List Int) (n : Int) (bs : List Blk), vs = [.ref y] ∧ Ly K H y zp bl dx ps ns n bs ∧ Q (.ref zp) H
theorem sc_sizes : FnScope ["self"] ["self"] (defScope (inClass (top 34) 4)) := ⟨rfl, rfl, rfl, by decide +kernel, rfl, by decide +kernel, by decide +kernel⟩
theorem ok_szs (T : Tx K mg) (F : FnP K "sizes" "Layout.sizes" (inClass (top 34) 4) f fd) : FnOk P w K mg base CX0 1 f fd ["self"] (spSzs K) := by
  refine F.ok sc_sizes (fun vs H Q E h => ?_) (fun cdv A outer s H vs Q E hr h => ⟨_, PSs.nox (pss_one (ps_ret (pe_fld (pv 0) rfl))), ?_⟩)
  · obtain ⟨y, zp, bl, dx, ps, ns, n, bs, rfl, _⟩ := h
    rfl
  · obtain ⟨y, zp, bl, dx, ps, ns, n, bs, rfl, L, q⟩ := h
    exact ⟨_, rfl, y, _, dx, _, _, rfl, L.at_, T.ly, T.nST, lay_st .., q⟩
def layT (n : Int) (bs : List Blk) : Str := ("Layout(" : Str) ++ Str.ofString (toString n) ++ (", " : Str) ++ (PyData.list (bs.map blkD)).shown ++ (")" : Str)
def spLRepr (K : PySem.W.Frag) : Sp := fun vs H Q _ => ∃ (y zp bl dx : Addr) (ps : List Addr) (ns : List Int) (n : Int) (bs : List Blk), vs = [.ref y] ∧ Ly K H y zp bl dx ps ns n bs ∧ bs.length ≤ 200 ∧ Q (.str (layT n bs)) H
theorem num_log {n : Int} (h1 : 1 ≤ n) (h2 : n ≤ 1000000000000) : n.natAbs.log2 < 1920 := by
  have e2 : (2 : Nat) ^ 40 = 1099511627776 := by decide
  exact Nat.lt_of_lt_of_le (PySem.Flt.log2_lt_of (k := 40) (by decide) (by omega)) (by decide)
theorem num_len {n : Int} (h1 : 1 ≤ n) (h2 : n ≤ 1000000000000) : (Str.ofString (toString n)).length ≤ 41 := by
  have b39 : (10 : Int) ^ 39 = 1000000000000000000000000000000000000000 := by decide
  have t := (tq_int (K := default) (H := fun _ => none) (i := n) (by omega) (by omega)).ln
  exact t
theorem sc_Layout_repr : FnScope ["self"] ["self"] (defScope (inClass (top 34) 3)) := ⟨rfl, rfl, rfl, by decide +kernel, rfl, by decide +kernel, by decide +kernel⟩
theorem ok_lrepr (T : Tx K mg) (F : FnP K "__repr__" "Layout.__repr__" (inClass (top 34) 3) f fd) : FnG P w K mg base CX0 2 f fd ["self"] (spLRepr K) := by
  refine okG F sc_Layout_repr (fun vs H Q E h => ?_) (fun cdv A outer s H vs Q E hr h => ⟨_, PSs.nox (pss_one (ps_ret (pe_joined (.cons pe_str (.cons (pe_fmt (pe_fld (pv 0) rfl)) (.cons pe_str (.cons (pe_fmtRQ hr T.sys (pe_fld (pv 0) rfl)) (.cons pe_str .nil)))))))), ?_⟩)
  · obtain ⟨y, zp, bl, dx, ps, ns, n, bs, rfl, _⟩ := h
    rfl
  · obtain ⟨y, zp, bl, dx, ps, ns, n, bs, rfl, L, l100, q⟩ := h
    have sl : sizeLine = 16777216 := sizeLine_eq
    have tq := blks_tq (K := K) L.rf (L.wf.bnd L.gd L.n2) l100 L.lst
    have e0 : (Str.empty ++ ("Layout(" : Str)) = ("Layout(" : Str) := by decide +kernel
    have l0 : ("Layout(" : Str).length = 7 := by decide +kernel
    have l1 : (", " : Str).length = 2 := by decide +kernel
    have l2 : (")" : Str).length = 1 := by decide +kernel
    have ln := num_len L.n1 L.n2
    have l3 : (PyData.list (bs.map blkD)).shown.length ≤ 45000 := tq.ln
    refine ⟨_, rfl, by rw [e0, l0]; omega, _, rfl, y, _, dx, _, _, rfl, L.at_, T.ly, T.nCC, lay_cc .., .inr ⟨n, rfl, num_log L.n1 L.n2, ?_⟩⟩
    refine ⟨_, rfl, by rw [e0, Str.length_append, l0]; omega, _, rfl, by rw [e0, Str.length_append, Str.length_append, l0, l1]; omega, _, rfl, y, _, dx, _, _, rfl, L.at_, T.ly, T.nBL, lay_bl .., bl, _, rfl, tq.dq, tq.sh, Nat.le_trans tq.dp (by decide), by omega, ?_⟩
    refine ⟨_, rfl, by rw [e0, Str.length_append, Str.length_append, Str.length_append, l0, l1]; omega, _, rfl, by rw [e0, Str.length_append, Str.length_append, Str.length_append, Str.length_append, l0, l1, l2]; omega, ?_⟩
    rw [e0]
    exact q

end
end K44

set_option Elab.async false
set_option linter.all false
set_option maxRecDepth 100000
set_option maxHeartbeats 1600000
set_option pp.maxSteps 1200
namespace K44
open PySem PySem.Spec PyProof.Rows L2 Gu Ex
theorem at_st {u : TS} {D : Ends} {σ σ' : List (Option V)} {H : Hp} (e : σ = σ') (h : u D σ' H) : u D σ H := e ▸ h
theorem nx_of {E0 : Ends} {F : List (Option V) → Hp → Prop} {rt : VK} {σ σ' : List (Option V)} {H : Hp} (e : σ = σ') (h : F σ' H) : ({ E0 with nx := F, rt := rt } : Ends).nx σ H := e ▸ h
theorem go_nm {i : Nat} {x : V} {σ : List (Option V)} {H : Hp} {Q : List (Option V) → Hp → Prop} (h : Q (σ.set i (some x)) H) : gName i x σ H Q := h
theorem go_asg {te : TE} {i : Nat} {u : TS} {D : Ends} {σ : List (Option V)} {H : Hp} (h : te σ H (fun x H1 => u D (σ.set i (some x)) H1)) : tSeq (tAsg te (gName i)) u D σ H := h
theorem iteT' {b : Bool} {p q : Prop} (e : b = true) (h : p) : if b = true then p else q := by
  rw [e]
  exact iteT h
theorem iteF' {b : Bool} {p q : Prop} (e : b = false) (h : q) : if b = true then p else q := by
  rw [e]
  exact iteF h
/-- the runs of the level j -/
def rsAt (rs : List M16.Run) (j : Nat) : List (Int × Int) := (rs.filter fun r => decide (r.1 = j)).map fun r => (r.2.1, r.2.2)
theorem rsAt_app (xs ys : List M16.Run) (j : Nat) : rsAt (xs ++ ys) j = rsAt xs j ++ rsAt ys j := by
  unfold rsAt
  rw [List.filter_append, List.map_append]
theorem rsAt_one (r : M16.Run) (j : Nat) : rsAt [r] j = if r.1 = j then [(r.2.1, r.2.2)] else [] := by
  unfold rsAt
  by_cases h : r.1 = j
  · rw [if_pos h, List.filter_cons_of_pos (by simpa using h)]
    rfl
  · rw [if_neg h, List.filter_cons_of_neg (by simpa using h)]
    rfl
theorem rsAt_nil {rs : List M16.Run} {j : Nat} (h : ∀ r ∈ rs, r.1 ≠ j) : rsAt rs j = [] := by
  unfold rsAt
  rw [List.filter_eq_nil_iff.mpr fun r hr => by simpa using h r hr]
  rfl
theorem rsAt_mem {rs : List M16.Run} {j : Nat} {x : Int × Int} (h : x ∈ rsAt rs j) : (j, x.1, x.2) ∈ rs := by
  unfold rsAt at h
  obtain ⟨r, hr, e⟩ := List.mem_map.mp h
  obtain ⟨h1, h2⟩ := List.mem_filter.mp hr
  have h3 := of_decide_eq_true h2
  rw [← e, ← h3]
  exact h1
theorem rsAt_of {rs : List M16.Run} {r : M16.Run} (h : r ∈ rs) : (r.2.1, r.2.2) ∈ rsAt rs r.1 := by
  unfold rsAt
  exact List.mem_map.mpr ⟨r, List.mem_filter.mpr ⟨h, by simp⟩, rfl⟩
/-- the first run of a level -/
theorem rsAt_split {f : Nat} {a c : Int} {t : List (Int × Int)} : ∀ {rs : List M16.Run}, rsAt rs f = (a, c) :: t → ∃ pre post, rs = pre ++ (f, a, c) :: post ∧ (∀ r ∈ pre, r.1 ≠ f) ∧ rsAt post f = t
  | [], h => by cases h
  | r :: rs, h => by
    have e : rsAt (r :: rs) f = rsAt [r] f ++ rsAt rs f := rsAt_app [r] rs f
    rw [e, rsAt_one] at h
    by_cases z : r.1 = f
    · rw [if_pos z] at h
      have h1 := (List.cons.inj h).1
      have h2 := (List.cons.inj h).2
      refine ⟨[], rs, ?_, (fun _ z => nomatch z), h2⟩
      obtain ⟨x, y, w⟩ := r
      cases h1
      cases z
      rfl
    · rw [if_neg z] at h
      obtain ⟨pre, post, e1, e2, e3⟩ := rsAt_split (rs := rs) h
      refine ⟨r :: pre, post, by rw [e1]; rfl, fun q hq => ?_, e3⟩
      rcases List.mem_cons.mp hq with rfl | hq
      · exact z
      · exact e2 q hq
/-- a list of lists of pairs -/
structure RLf (H : Hp) (L : Addr) (ls : List Addr) (m : Nat) (g : Nat → List (Int × Int)) : Prop where
  at_ : H L = some (.lst (ls.map V.ref))
  len : ls.length = m
  nd : (L :: ls).Nodup
  each : ∀ (j : Nat) (l : Addr), ls[j]? = some l → ∃ ts, H l = some (.lst (ts.map V.ref)) ∧ Refs prV H ts (g j)
def ButL (X : List Addr) (H H' : Hp) : Prop := ∀ c o, c ∉ X → H c = some o → H' c = some o
theorem ButL.refl {X : List Addr} {H : Hp} : ButL X H H := fun _ _ _ e => e
theorem ButL.trans {X : List Addr} {H H1 H2 : Hp} (a : ButL X H H1) (b : ButL X H1 H2) : ButL X H H2 := fun c o n e => b c o n (a c o n e)
theorem sbl {X : List Addr} {H H' : Hp} (s : Same H H') : ButL X H H' := fun c o _ e => s c o e
section
variable {H H' : Hp} {L : Addr} {ls : List Addr} {m : Nat} {g : Nat → List (Int × Int)}
theorem RLf.same (R : RLf H L ls m g) (s : Same H H') : RLf H' L ls m g := ⟨s _ _ R.at_, R.len, R.nd, fun j l h => by
  obtain ⟨ts, h1, h2⟩ := R.each j l h
  exact ⟨ts, s _ _ h1, h2.same s⟩⟩
theorem RLf.congr {g' : Nat → List (Int × Int)} (R : RLf H L ls m g) (e : ∀ j, j < m → g j = g' j) : RLf H L ls m g' := ⟨R.at_, R.len, R.nd, fun j l h => by
  have := (List.getElem?_eq_some_iff.mp h).1
  rw [← e j (by rw [← R.len]; exact this)]
  exact R.each j l h⟩
/-- the list of one level set anew -/
theorem RLf.set {j : Nat} {l : Addr} {ts : List Addr} {xs : List (Int × Int)} (R : RLf H L ls m g) (hj : ls[j]? = some l) (h : Refs prV H ts xs) : RLf (upd H l (.lst (ts.map V.ref))) L ls m (fun i => if i = j then xs else g i) ∧ ButL (L :: ls) H (upd H l (.lst (ts.map V.ref))) := by
  have lm := List.mem_of_getElem? hj
  have nd := List.nodup_cons.mp R.nd
  obtain ⟨ts0, h0, _⟩ := R.each j l hj
  have tk : ∀ {qs : List Addr} {ys : List (Int × Int)}, Refs prV H qs ys → Refs prV (upd H l (.lst (ts.map V.ref))) qs ys := fun r => r.mono fun p zs e => by
    rw [upd_ne (fun z => by rw [z, h0] at e; cases e)]
    exact e
  refine ⟨⟨?_, R.len, R.nd, fun i l' hi => ?_⟩, fun c o n e => ?_⟩
  · rw [upd_ne (fun z => nd.1 (by rw [z]; exact lm))]
    exact R.at_
  · by_cases e : i = j
    · subst e
      rw [hj] at hi
      cases hi
      rw [if_pos rfl]
      exact ⟨ts, upd_same, tk h⟩
    · rw [if_neg e]
      obtain ⟨ts', h1, h2⟩ := R.each i l' hi
      refine ⟨ts', ?_, tk h2⟩
      rw [upd_ne fun z => e ?_]
      · exact h1
      · have i1 := List.getElem?_eq_some_iff.mp hi
        have j1 := List.getElem?_eq_some_iff.mp hj
        obtain ⟨i2, i3⟩ := i1
        obtain ⟨j2, j3⟩ := j1
        exact (List.getElem_inj nd.2).mp (by rw [i3, j3, z])
  · rw [upd_ne (fun z => n (by rw [z]; exact List.mem_cons_of_mem _ lm))]
    exact e
end
section
variable {P : Program} {w : World} {K : PySem.W.Frag} {mg : Str → Option Value} {base : Heap} {f : Addr} {fd : FuncData}
def spRbl (K : PySem.W.Frag) : Sp := fun vs H Q _ => ∃ (y zp bl dx : Addr) (ps : List Addr) (ns : List Int) (n : Int) (bs : List Blk), vs = [.ref y] ∧ Ly K H y zp bl dx ps ns n bs ∧ ∀ L ls H', (∀ x ∈ L :: ls, H x = none) → Same H H' → RLf H' L ls ns.length (rsAt (FRL ns n 0 bs)) → Q (.ref L) H'
theorem sc_runs_by_level : FnScope ["layout", "runs", "level", "address", "count", "size"] ["layout"] (defScope (top 38)) := ⟨rfl, rfl, rfl, by decide +kernel, rfl, by decide +kernel, by decide +kernel⟩
theorem ok_rbl (T : Tx K mg) (P_sizes : Pf P w K mg base 1 "Layout" "sizes" (spSzs K)) (M_all_sizes : Mf P w K mg base 1 "Sizes" "all_sizes" ["self"] (spAll K)) (M_free_runs : Mf P w K mg base 10 "Layout" "free_runs" ["self"] (spRuns K)) (F : FnP K "runs_by_level" "runs_by_level" (top 38) f fd) : FnOk P w K mg base CX0 11 f fd ["layout"] (spRbl K) := by
  refine F.ok sc_runs_by_level (fun vs H Q E h => ?_) (fun cdv A outer s H vs Q E hr h => ⟨_, PSs.nox (pss_cons (ps_setLc (i := 1) (own := [("size", 5)]) (g := gName 5) rfl sc_runs_by_level.nd rfl rfl (sw_true rfl rfl rfl (by decide +kernel)) (pi_list (pmeth0 M_all_sizes hr (pprop P_sizes hr (pv 0)))) (blkOk_by (own := [("size", 5)]) (N := ["layout", "runs", "level", "address", "count", "size"]) (sc := defScope (top 38)) (by decide +kernel)) (fun _ _ _ _ _ => pg_name (i := 5) sc_runs_by_level.nd rfl (Or.inl rfl)) (fun _ _ _ _ _ => pts_nil) (fun _ _ _ _ _ => (pe_lst pa_nil))) (pss_cons (ps_for PassesOwn.never rfl (pi_list (pmeth0 M_free_runs hr (pv 0))) (pg_tup (by rfl) (pgs_cons (pg_name (i := 2) sc_runs_by_level.nd rfl (by first | exact Or.inl rfl | exact Or.inr rfl)) (pgs_cons (pg_name (i := 3) sc_runs_by_level.nd rfl (by first | exact Or.inl rfl | exact Or.inr rfl)) (pgs_cons (pg_name (i := 4) sc_runs_by_level.nd rfl (by first | exact Or.inl rfl | exact Or.inr rfl)) pgs_nil)))) (pss_one (ps_expr (pe_bm PySem.F.plainAttrs_list PySem.F.slot_list_append PySem.F.type_list_append mt_append (pe_ix ix_list (pv 1) (pv 2) (fun _ _ => rfl)) (pa_cons (pe_tup (pa_cons (pv 3) (pa_cons (pv 4) pa_nil))) pa_nil))))) (pss_one (ps_ret (pv 1))))), ?_⟩)
  · obtain ⟨y, zp, bl, dx, ps, ns, n, bs, rfl, _⟩ := h
    rfl
  · obtain ⟨y, zp, bl, dx, ps, ns, n, bs, rfl, L, q⟩ := h
    have sl : sizeLine = 16777216 := sizeLine_eq
    have g8 := L.gd.len
    obtain ⟨dz, l, zz, zl⟩ := id L.szs
    refine ⟨_, rfl, y, dx, _, rfl, L.at_, y, zp, bl, dx, ps, ns, n, bs, rfl, L, zp, dz, _, rfl, zz, szF_no l (by decide +kernel), zp, ns, rfl, L.szs, fun A1 hA1 => ?_⟩
    have s1 := same_upd (o := .lst (ns.map V.int)) hA1
    have kA : (upd H A1 (.lst (ns.map V.int))) A1 = some (.lst (ns.map V.int)) := upd_same
    generalize upd H A1 (.lst (ns.map V.int)) = H1 at s1 kA
    refine ⟨A1, rfl, ⟨_, SqL.of kA⟩, fun D hD => ?_⟩
    refine lc_list (K := K) (a := A1) (xs := ns.map V.int) (fun i G => ∃ ls : List Addr, G D = some (.lst (ls.map V.ref)) ∧ ls.length = i ∧ (D :: ls).Nodup ∧ (∀ x ∈ D :: ls, H1 x = none) ∧ (∀ x ∈ ls, G x = some (.lst [])) ∧ Same H1 G) ⟨[], upd_same, rfl, by simp, fun x hx => by simp at hx; rw [hx]; exact hD, (fun _ h => nomatch h), same_upd hD⟩ (fun i G _ ⟨_, _, _, _, _, _, sm⟩ => SqL.of (sm _ _ kA)) ?_ ?_
    · rintro i x G hx ⟨ls, hG, ll, nd, fr, em, sm⟩
      have il := (List.getElem?_eq_some_iff.mp hx).1
      rw [List.length_map] at il
      refine ⟨rfl, (by show 0 ≤ sizeLine; decide), fun u hu => ?_⟩
      have su := same_upd (o := .lst []) hu
      have ku : (upd G u (.lst [])) u = some (.lst []) := upd_same
      have nuD : u ≠ D := fun z => by rw [z, hG] at hu; cases hu
      generalize upd G u (.lst []) = G1 at su ku
      have nul : u ∉ ls := fun z => by
        have := em u z
        rw [hu] at this
        cases this
      refine ⟨_, su _ _ hG, (by rw [List.length_map]; omega), ls ++ [u], by rw [upd_same, List.map_append]; rfl, by rw [List.length_append, ll]; rfl, ?_, fun x hx => ?_, fun x hx => ?_, fun c o e => ?_⟩
      · have nd2 := List.nodup_cons.mp nd
        refine List.nodup_cons.mpr ⟨fun z => ?_, List.nodup_append.mpr ⟨nd2.2, List.nodup_cons.mpr ⟨(fun z => nomatch z), .nil⟩, fun a ha b hb e => ?_⟩⟩
        · rcases List.mem_append.mp z with z | z
          · exact nd2.1 z
          · exact nuD (List.mem_singleton.mp z).symm
        · rw [List.mem_singleton.mp hb] at e
          rw [e] at ha
          exact nul ha
      · rcases List.mem_cons.mp hx with rfl | hx
        · exact hD
        · rcases List.mem_append.mp hx with z | z
          · exact fr x (List.mem_cons_of_mem _ z)
          · rw [List.mem_singleton.mp z]
            exact sm.free hu
      · have nx : x ≠ D := fun z => by
          rw [z] at hx
          rcases List.mem_append.mp hx with q | q
          · exact (List.nodup_cons.mp nd).1 q
          · exact nuD (List.mem_singleton.mp q).symm
        rw [upd_ne nx]
        rcases List.mem_append.mp hx with z | z
        · exact su _ _ (em x z)
        · rw [List.mem_singleton.mp z]
          exact ku
      · rw [upd_ne (ne_of_none e hD)]
        exact su _ _ (sm c o e)
    rintro H2 ⟨ls, hG, ll, nd, fr, em, s12⟩
    rw [List.length_map] at ll
    have R0 : RLf H2 D ls ns.length (rsAt []) := ⟨hG, ll, nd, fun j l' h => ⟨[], em l' (List.mem_of_getElem? h), .nil⟩⟩
    have sH2 := s1.trans s12
    have L2 := L.same sH2
    have frH : ∀ x ∈ D :: ls, H x = none := fun x hx => s1.free (fr x hx)
    refine go_nm (nx_of (σ' := [some (.ref y), some (.ref D), none, none, none, none]) rfl ?_)
    refine ⟨_, rfl, y, dx, _, rfl, L2.at_, lay_nm (by decide +kernel), y, zp, bl, dx, ps, ns, n, bs, rfl, L2, fun R ts H3 hR0 s3 hR tp => ?_⟩
    have R1 := R0.same s3
    have rl0 := runs_len L.gd (fgI ns n bs)
    have rl1 := (fg_ok L.wf L.gd).2
    have rl2 := L.ln
    have F0 := frl_ok L.wf L.gd (show 0 ≤ n by have := L.n1; omega)
    have eR : runsI ns (fgI ns n bs) = FRL ns n 0 bs := frl_gaps bs 0
    have tl := tp.len
    refine ⟨R, rfl, ⟨_, SqL.of hR⟩, ?_⟩
    have frR : R ∉ D :: ls := fun z => by
      rcases List.mem_cons.mp z with z | z
      · rw [z, hG] at hR0
        cases hR0
      · rw [em R z] at hR0
        cases hR0
    refine for_list (K := K) (a := R) (xs := ts.map V.ref) (fun i σ G => (∃ x2 x3 x4 : Option V, σ = [some (.ref y), some (.ref D), x2, x3, x4, none]) ∧ RLf G D ls ns.length (rsAt ((runsI ns (fgI ns n bs)).take i)) ∧ ButL (D :: ls) H3 G) ⟨⟨none, none, none, rfl⟩, R1, ButL.refl⟩ (fun i σ G _ h => SqL.of (h.2.2 _ _ frR hR)) ?_ ?_
    · rintro i v σ G hv ⟨⟨x2, x3, x4, rfl⟩, RG, bt⟩
      obtain ⟨p, hp, rfl⟩ := ref_of hv
      obtain ⟨r, hr, hT⟩ := tp.get hp
      have ntp : p ∉ D :: ls := fun z => by
        rcases List.mem_cons.mp z with z | z
        · have := R1.at_
          rw [← z, hT] at this
          cases this
        · obtain ⟨j, hj⟩ := List.mem_iff_getElem?.mp z
          obtain ⟨ts', h1, _⟩ := R1.each j p hj
          rw [hT] at h1
          cases h1
      have hT' : G p = some (.tup [.int (r.1 : Nat), .int r.2.1, .int r.2.2]) := bt _ _ ntp hT
      have rk := (F0.snd r (List.mem_of_getElem? (by rw [eR] at hr; exact hr))).1
      obtain ⟨l', hl'⟩ : ∃ l', ls[r.1]? = some l' := ⟨_, List.getElem?_eq_getElem (by omega)⟩
      obtain ⟨tl', h1, h2⟩ := RG.each r.1 l' hl'
      refine ⟨p, _, rfl, .inl (.inl hT'), rfl, _, _, rfl, _, _, rfl, _, _, rfl, rfl, ?_⟩
      refine at_st (u := tDrop _) (σ' := [some (.ref y), some (.ref D), some (.int (r.1 : Nat)), some (.int r.2.1), some (.int r.2.2), none]) rfl ?_
      have ll2 : (ls.map V.ref)[r.1]? = some (.ref l') := by rw [List.getElem?_map, hl']; rfl
      have len1 := h2.len
      have len2 : (rsAt ((runsI ns (fgI ns n bs)).take i) r.1).length ≤ (runsI ns (fgI ns n bs)).length := by
        unfold rsAt
        rw [List.length_map]
        refine Nat.le_trans (List.length_filter_le _ _) ?_
        rw [List.length_take]
        omega
      refine ⟨_, rfl, _, rfl, D, _, _, _, rfl, rfl, SqL.of RG.at_, atI_nat ll2, .inl ⟨rfl, _, SqL.of h1⟩, ?_⟩
      refine ⟨_, rfl, _, rfl, (by show 2 ≤ sizeLine; decide), fun u hu => ?_⟩
      have su := same_upd (o := .tup [.int r.2.1, .int r.2.2]) hu
      have ku : (upd G u (.tup [.int r.2.1, .int r.2.2])) u = some (.tup (prV (r.2.1, r.2.2))) := upd_same
      have bu := bt.trans (sbl su)
      have RU := RG.same su
      have h1u := su _ _ h1
      have h2u := h2.same su
      generalize upd G u (.tup [.int r.2.1, .int r.2.2]) = GU at ku bu RU h1u h2u
      refine ⟨l', _, _, rfl, rfl, h1u, (by rw [List.length_map]; omega), ?_⟩
      obtain ⟨R2, b2⟩ := RU.set hl' (h2u.app (Refs.one ku))
      rw [List.map_append] at R2 b2
      refine ⟨⟨_, _, _, rfl⟩, R2.congr fun j _ => ?_, bu.trans b2⟩
      rw [take_at hr, rsAt_app, rsAt_one]
      by_cases e : j = r.1
      · rw [if_pos e, if_pos e.symm, e]
      · rw [if_neg e, if_neg (fun z => e z.symm), List.append_nil]
    · rintro σ G ⟨⟨x2, x3, x4, rfl⟩, RG, bt⟩
      rw [List.length_map, tl, List.take_length, eR] at RG
      exact ⟨_, rfl, q D ls G frH (fun c o e => bt c o (fun z => by rw [frH c z] at e; cases e) (s3 _ _ (sH2 _ _ e))) RG⟩
end
end K44

set_option Elab.async false
set_option linter.all false
set_option maxRecDepth 100000
set_option maxHeartbeats 1600000
set_option pp.maxSteps 1200
namespace K44
open PySem PySem.Spec PyProof.Rows L2 Gu Ex
theorem tk_rows {ns : List Int} {k f : Nat} {a c : Int} {pre post : List M16.Run} {t : List (Int × Int)} (g : Good ns) (hk : k ≤ f) (hf : f < ns.length) (d : sz ns f ∣ a) (h1 : ∀ r ∈ pre, r.1 ≠ f) (h2 : rsAt post f = t) (no : ∀ r ∈ pre ++ (f, a, c) :: post, k ≤ r.1 → f ≤ r.1) (j : Nat) :
    (if j = f then (if c > 1 then [(a + sz ns f, c - 1)] else []) ++ t else rsAt (pre ++ (f, a, c) :: post) j) ++ rsAt (Rs ns (a + sz ns f) (a + sz ns k)) j = rsAt (pre ++ (takeR ns k f a c ++ post)) j := by
  have lv := rest_lv g hk hf d
  have eR : rsAt (pre ++ (takeR ns k f a c ++ post)) j = rsAt pre j ++ ((rsAt (Rs ns (a + sz ns f) (a + sz ns k)) j ++ rsAt (if c > 1 then [(f, a + sz ns f, c - 1)] else []) j) ++ rsAt post j) := by
    unfold takeR
    rw [rsAt_app, rsAt_app, rsAt_app]
  rw [eR]
  have er : rsAt (if c > 1 then [(f, a + sz ns f, c - 1)] else []) j = if j = f then (if c > 1 then [(a + sz ns f, c - 1)] else []) else [] := by
    by_cases c1 : c > 1
    · rw [if_pos c1, if_pos c1, rsAt_one]
      by_cases e : j = f
      · rw [if_pos e, if_pos e.symm]
      · rw [if_neg e, if_neg fun z => e z.symm]
    · rw [if_neg c1, if_neg c1]
      split <;> rfl
  rw [er]
  by_cases e : j = f
  · rw [if_pos e, if_pos e, e, rsAt_nil h1, h2, rsAt_nil (rs := Rs ns (a + sz ns f) (a + sz ns k)) fun r hr => by have := (lv r hr).2; omega]
    simp
  · rw [if_neg e, if_neg e]
    have e1 : rsAt (pre ++ (f, a, c) :: post) j = rsAt pre j ++ rsAt post j := by
      rw [rsAt_app]
      have : rsAt ((f, a, c) :: post) j = rsAt [(f, a, c)] j ++ rsAt post j := rsAt_app [(f, a, c)] post j
      rw [this, rsAt_one, if_neg fun z => e z.symm]
      rfl
    rw [e1]
    by_cases z : k ≤ j ∧ j < f
    · have n1 : ∀ r ∈ pre, r.1 ≠ j := fun r hr q => by
        have := no r (List.mem_append_left _ hr) (by omega)
        omega
      have n2 : ∀ r ∈ post, r.1 ≠ j := fun r hr q => by
        have := no r (List.mem_append_right _ (List.mem_cons_of_mem _ hr)) (by omega)
        omega
      rw [rsAt_nil n1, rsAt_nil n2]
      simp
    · rw [rsAt_nil (rs := Rs ns (a + sz ns f) (a + sz ns k)) fun r hr q => by have := lv r hr; omega]
      simp
section
variable {P : Program} {w : World} {K : PySem.W.Frag} {mg : Str → Option Value} {base : Heap} {f : Addr} {fd : FuncData}
def spTkR (K : PySem.W.Frag) : Sp := fun vs H Q _ => ∃ (p L : Addr) (ls : List Addr) (ns : List Int) (n : Int) (bs : List Blk) (rs : List M16.Run) (k : Nat), vs = [.ref p, .ref L, .int k] ∧ SzAt (He.ga K "Sizes") H p ns ∧ Good ns ∧ RLf H L ls ns.length (rsAt rs) ∧ FrT ns n bs rs ∧ k < ns.length ∧ rs.length ≤ 1000000 ∧
  (NoR ns n bs k → Q .non H) ∧ ∀ a rs' H', Best ns n bs k a → FrT ns n (bs ++ [(a, k, false)]) rs' → rs'.length ≤ rs.length + 20 → ButL (L :: ls) H H' → RLf H' L ls ns.length (rsAt rs') → Q (.int a) H'
theorem sc_take_region : FnScope ["sizes", "runs", "level", "found", "end", "address", "count", "rest_level", "rest_address", "rest_count"] ["sizes", "runs", "level"] (defScope (top 39)) := ⟨rfl, rfl, rfl, by decide +kernel, rfl, by decide +kernel, by decide +kernel⟩
theorem ok_tkr (T : Tx K mg) (P_top : Pf P w K mg base 1 "Sizes" "top" (spTop K)) (M_size : Mf P w K mg base 5 "Sizes" "size" ["self", "level"] (spSize K)) (D_maximal_runs : Df P w K mg base 9 "maximal_runs" ["sizes", "low", "high"] (spMax K)) (F : FnP K "take_region" "take_region" (top 39) f fd) : FnOk P w K mg base CX0 10 f fd ["sizes", "runs", "level"] (spTkR K) := by
  refine F.ok sc_take_region (fun vs H Q E h => ?_) (fun cdv A outer s H vs Q E hr h => ⟨_, PSs.nox (pss_cons (ps_set (i := 3) sc_take_region.nd rfl (by first | exact Or.inl rfl | exact Or.inr rfl) (pv 2)) (pss_cons (ps_while PassesOwn.never (PW.pt (pw_and (pt_cmpR op_le (pv 3) (pprop P_top hr (pv 0)) (nomark _)) (pw_and1 (pt_not (pt_truth (pe_ix ix_list (pv 1) (pv 3) (fun _ _ => rfl)) (fun _ => rfl)))))) (pss_one (ps_aug (i := 3) sc_take_region.nd rfl (by first | exact Or.inl rfl | exact Or.inr rfl) pe_int ip_add))) (pss_cons (ps_if (pt_cmpR op_gt (pv 3) (pprop P_top hr (pv 0)) (nomark _)) (pss_one (ps_ret pe_non)) pss_nil) (pss_cons (ps_asg (pe_bm PySem.F.plainAttrs_list PySem.F.slot_list_pop PySem.F.type_list_pop mt_popAt (pe_ix ix_list (pv 1) (pv 3) (fun _ _ => rfl)) (pa_cons pe_int pa_nil)) (pg_tup (by rfl) (pgs_cons (pg_name (i := 5) sc_take_region.nd rfl (by first | exact Or.inl rfl | exact Or.inr rfl)) (pgs_cons (pg_name (i := 6) sc_take_region.nd rfl (by first | exact Or.inl rfl | exact Or.inr rfl)) pgs_nil)))) (pss_cons (ps_set (i := 4) sc_take_region.nd rfl (by first | exact Or.inl rfl | exact Or.inr rfl) (pe_op op_add (pv 5) (pmeth M_size hr (pv 0) (pa_cons (pv 3) pa_nil)))) (pss_cons (ps_if (pt_cmpR op_gt (pv 6) pe_int (nomark _)) (pss_one (ps_expr (pe_bm PySem.F.plainAttrs_list PySem.F.slot_list_insert PySem.F.type_list_insert mt_insert (pe_ix ix_list (pv 1) (pv 3) (fun _ _ => rfl)) (pa_cons pe_int (pa_cons (pe_tup (pa_cons (pv 4) (pa_cons (pe_op op_sub (pv 6) pe_int) pa_nil))) pa_nil))))) pss_nil) (pss_cons (ps_for PassesOwn.never rfl (pi_list (pcall D_maximal_runs hr (pa_cons (pv 0) (pa_cons (pe_op op_add (pv 5) (pmeth M_size hr (pv 0) (pa_cons (pv 2) pa_nil))) (pa_cons (pv 4) pa_nil))))) (pg_tup (by rfl) (pgs_cons (pg_name (i := 7) sc_take_region.nd rfl (by first | exact Or.inl rfl | exact Or.inr rfl)) (pgs_cons (pg_name (i := 8) sc_take_region.nd rfl (by first | exact Or.inl rfl | exact Or.inr rfl)) (pgs_cons (pg_name (i := 9) sc_take_region.nd rfl (by first | exact Or.inl rfl | exact Or.inr rfl)) pgs_nil)))) (pss_one (ps_expr (pe_bm PySem.F.plainAttrs_list PySem.F.slot_list_append PySem.F.type_list_append mt_append (pe_ix ix_list (pv 1) (pv 7) (fun _ _ => rfl)) (pa_cons (pe_tup (pa_cons (pv 8) (pa_cons (pv 9) pa_nil))) pa_nil))))) (pss_one (ps_ret (pv 5)))))))))), ?_⟩)
  · obtain ⟨p, L, ls, ns, n, bs, rs, k, rfl, _⟩ := h
    rfl
  · obtain ⟨p, L, ls, ns, n, bs, rs, k, rfl, S, g, R, FT, hk, r6, qN, q⟩ := h
    have sl : sizeLine = 16777216 := sizeLine_eq
    have g8 := g.len
    have ch := chain g
    obtain ⟨dz, l, zz, zl⟩ := id S
    have Rlen := R.len
    have rl : ∀ j, (rsAt rs j).length ≤ rs.length := fun j => by
      unfold rsAt
      rw [List.length_map]
      exact List.length_filter_le _ _
    refine ⟨_, rfl, ?_⟩
    refine at_st (σ' := [some (.ref p), some (.ref L), some (.int (k : Nat)), some (.int (k : Nat)), none, none, none, none, none, none]) rfl ?_
    refine ⟨fun m σ G => G = H ∧ ∃ x : Nat, m = ns.length - x ∧ k ≤ x ∧ x ≤ ns.length ∧ (∀ r ∈ rs, k ≤ r.1 → x ≤ r.1) ∧ σ = [some (.ref p), some (.ref L), some (.int (k : Nat)), some (.int (x : Nat)), none, none, none, none, none, none], ⟨ns.length - k, rfl, k, rfl, Nat.le_refl k, by omega, fun r _ h => h, rfl⟩, ?_⟩
    rintro m σ G ⟨rfl, x, em, kx, xl, no, rfl⟩
    refine ⟨_, rfl, _, rfl, p, dz, _, rfl, zz, p, ns, rfl, S, _, _, rfl, rfl, _, rfl, ?_⟩
    by_cases hx : x < ns.length
    · refine iteT' (decide_eq_true (by show (x : Int) ≤ (ns.length : Int) - 1; omega)) ?_
      obtain ⟨l', hl'⟩ : ∃ l', ls[x]? = some l' := ⟨_, List.getElem?_eq_getElem (by have := R.len; omega)⟩
      have ll2 : (ls.map V.ref)[x]? = some (.ref l') := by rw [List.getElem?_map, hl']; rfl
      obtain ⟨ts, h1, h2⟩ := R.each x l' hl'
      have tl := h2.len
      refine ⟨_, rfl, _, rfl, L, _, _, _, rfl, rfl, SqL.of R.at_, atI_nat ll2, !(ts.map V.ref).isEmpty, .inl ⟨_, SqL.of h1, rfl⟩, ?_⟩
      cases ts with
      | nil =>
        refine iteT' rfl ?_
        refine ⟨fun σ' H' => H' = G ∧ σ' = [some (.ref p), some (.ref L), some (.int (k : Nat)), some (.int ((x : Nat) + 1)), none, none, none, none, none, none], ?_, ⟨_, rfl, _, _, rfl, rfl, rfl, rfl⟩⟩
        rintro σ' H' ⟨rfl, rfl⟩
        refine ⟨ns.length - (x + 1), by omega, rfl, x + 1, rfl, by omega, by omega, fun r hr h => ?_, by rw [Int.natCast_add]; rfl⟩
        have := no r hr h
        refine Nat.lt_of_le_of_ne this fun z => ?_
        have := rsAt_of hr
        rw [← z] at this
        have := List.length_pos_of_mem this
        rw [List.length_nil] at tl
        omega
      | cons tp ts' =>
        refine iteF' rfl ?_
        obtain ⟨⟨a, c⟩, t, et⟩ : ∃ y t, rsAt rs x = y :: t := by
          cases e : rsAt rs x with
          | nil => rw [e, List.length_cons] at tl; cases tl
          | cons y t => exact ⟨y, t, rfl⟩
        obtain ⟨pre, post, er, hp, hq⟩ := rsAt_split et
        rw [et] at h2
        have hT : G tp = some (.tup [.int a, .int c]) := by
          cases h2 with
          | cons e _ => exact e
        have h3 : Refs prV G ts' t := by
          cases h2 with
          | cons _ e => exact e
        have rm : (x, a, c) ∈ rs := by rw [er]; simp
        obtain ⟨f1, f2, f3, f4⟩ := FT.snd _ rm
        have f1 : x < ns.length := f1
        have f2 : sz ns x ∣ a := f2
        have f3 : 1 ≤ c := f3
        have zx := ch.pos x f1
        have zk := ch.pos k hk
        have dk := ch.dvd kx f1
        have kf : sz ns k ≤ sz ns x := Int.le_of_dvd (by omega) dk
        have a0 : 0 ≤ a := by
          have := (FT.free g rm (k := x) (Nat.le_refl x)).2.2.1
          exact this
        have best : Best ns n bs k a := FT.best g rm kx fun r hr kr => by
          have := no r hr kr
          by_cases e : x = r.1
          · refine .inr ⟨e, ?_⟩
            rw [er] at hr
            rcases List.mem_append.mp hr with z | z
            · exact absurd e.symm (hp r z)
            · rcases List.mem_cons.mp z with rfl | z
              · exact Int.le_refl _
              · have fa := FT.asc
                rw [er] at fa
                have h5 : a + c * sz ns x ≤ r.2.1 := (rs_asc fa rfl).2.1 r z
                have := Int.mul_le_mul_of_nonneg_right f3 (show 0 ≤ sz ns x by omega)
                show a ≤ r.2.1
                omega
          · exact .inl (by show x < r.1; omega)
        have FT2 : FrT ns n (bs ++ [(a, k, false)]) (pre ++ (takeR ns k x a c ++ post)) := FrT.take (by rw [← er]; exact FT) g kx
        refine ⟨_, rfl, _, rfl, p, dz, _, rfl, zz, p, ns, rfl, S, _, _, rfl, rfl, _, rfl, iteF' (decide_eq_false (by show ¬ (ns.length : Int) - 1 < (x : Int); omega)) ?_⟩
        refine ⟨_, rfl, _, rfl, L, _, _, _, rfl, rfl, SqL.of R.at_, atI_nat ll2, .inl ⟨rfl, _, SqL.of h1⟩, l', _, 0, 0, .ref tp, rfl, rfl, h1, by decide, by decide, by rw [List.map_cons, List.length_cons]; unfold seqIndex?; simp, rfl, ?_⟩
        obtain ⟨R1, b1⟩ := R.set hl' h3
        have hh : upd G l' (.lst (((tp :: ts').map V.ref).eraseIdx 0)) = upd G l' (.lst (ts'.map V.ref)) := rfl
        rw [hh]
        have frL : ∀ {q : Addr} {o : HO}, G q = some o → (∀ zs : List Addr, o ≠ .lst (zs.map V.ref)) → q ∉ L :: ls := fun {q o} e ne z => by
          rcases List.mem_cons.mp z with z | z
          · rw [z, R.at_] at e
            cases e
            exact ne ls rfl
          · obtain ⟨j, hj⟩ := List.mem_iff_getElem?.mp z
            obtain ⟨ts2, e2, _⟩ := R.each j q hj
            rw [e2] at e
            cases e
            exact ne ts2 rfl
        have kT := b1 _ _ (frL hT fun zs z => nomatch z) hT
        have kz := b1 _ _ (frL zz fun zs z => nomatch z) zz
        have lnt : l ∉ L :: ls := frL zl fun zs z => ints_refs ns zs g (congrArg some z.symm)
        have kl := b1 _ _ lnt zl
        have h1' : (upd G l' (.lst (ts'.map V.ref))) l' = some (.lst (ts'.map V.ref)) := upd_same
        have h3' : Refs prV (upd G l' (.lst (ts'.map V.ref))) ts' t := h3.mono fun q zs e => b1 q _ (frL e fun zs z => nomatch z) e
        generalize upd G l' (.lst (ts'.map V.ref)) = G1 at R1 b1 kT kz kl h1' h3'
        refine ⟨tp, _, rfl, .inl (.inl kT), rfl, _, _, rfl, _, _, rfl, rfl, ?_⟩
        refine at_st (σ' := [some (.ref p), some (.ref L), some (.int (k : Nat)), some (.int (x : Nat)), none, some (.int a), some (.int c), none, none, none]) rfl ?_
        have S1 : SzAt (He.ga K "Sizes") G1 p ns := ⟨dz, l, kz, kl⟩
        refine ⟨_, rfl, _, rfl, p, dz, _, rfl, kz, szF_no l (by decide +kernel), _, rfl, p, ns, x, sz ns x, rfl, S1, sz_at f1, _, _, rfl, rfl, ?_⟩
        refine at_st (σ' := [some (.ref p), some (.ref L), some (.int (k : Nat)), some (.int (x : Nat)), some (.int (a + sz ns x)), some (.int a), some (.int c), none, none, none]) rfl ?_
        have tl2 : (t.length : Nat) ≤ rs.length := by
          have := rl x
          rw [et, List.length_cons] at this
          omega
        have h3l := h3.len
        refine ⟨_, rfl, _, _, rfl, rfl, _, rfl, ?_⟩
        by_cases c1 : c > 1
        case' pos =>
          refine iteT' (decide_eq_true c1) ?_
          refine ⟨_, rfl, _, rfl, L, _, _, _, rfl, rfl, SqL.of R1.at_, atI_nat ll2, .inl ⟨rfl, _, SqL.of h1'⟩, ?_⟩
          refine ⟨_, rfl, _, rfl, _, _, rfl, rfl, (by show 2 ≤ sizeLine; decide), fun u hu => ?_⟩
          have su := same_upd (o := .tup [.int (a + sz ns x), .int (c - 1)]) hu
          have ku : (upd G1 u (.tup [.int (a + sz ns x), .int (c - 1)])) u = some (.tup (prV (a + sz ns x, c - 1))) := upd_same
          have bu := b1.trans (sbl su)
          have RU := R1.same su
          have h1u := su _ _ h1'
          have h3u := h3'.same su
          have SU := S1.same su
          generalize upd G1 u (.tup [.int (a + sz ns x), .int (c - 1)]) = GU at ku bu RU h1u h3u SU
          refine ⟨l', _, 0, .ref u, rfl, rfl, h1u, (by rw [List.length_map]; omega), by decide, by decide, ?_⟩
          obtain ⟨R2, b2⟩ := RU.set (xs := (a + sz ns x, c - 1) :: t) (ts := u :: ts') hl' (.cons ku h3u)
          have hh2 : upd GU l' (.lst (List.take (0 : Int).toNat (ts'.map V.ref) ++ [V.ref u] ++ List.drop (0 : Int).toNat (ts'.map V.ref))) = upd GU l' (.lst ((u :: ts').map V.ref)) := rfl
          rw [hh2]
          have zU : (upd GU l' (.lst ((u :: ts').map V.ref))) p = some (.ins (He.ga K "Sizes") dz (szF l)) := (bu.trans b2) _ _ (frL zz fun zs z => nomatch z) zz
          have lU : (upd GU l' (.lst ((u :: ts').map V.ref))) l = some (.lst (ns.map V.int)) := (bu.trans b2) _ _ lnt zl
          have R3 : RLf (upd GU l' (.lst ((u :: ts').map V.ref))) L ls ns.length (fun i => if i = x then (if c > 1 then [(a + sz ns x, c - 1)] else []) ++ t else rsAt rs i) := R2.congr fun j _ => by
            by_cases e : j = x
            · rw [if_pos e, if_pos e, if_pos c1]
              rfl
            · rw [if_neg e, if_neg e, if_neg e]
          have b3 := bu.trans b2
          generalize upd GU l' (.lst ((u :: ts').map V.ref)) = G2 at zU lU R3 b3
        case' neg =>
          refine iteF' (decide_eq_false c1) ?_
          have zU := kz
          have lU := kl
          have b3 := b1
          have R3 : RLf G1 L ls ns.length (fun i => if i = x then (if c > 1 then [(a + sz ns x, c - 1)] else []) ++ t else rsAt rs i) := R1.congr fun j _ => by
            by_cases e : j = x
            · rw [if_pos e, if_pos e, if_neg c1]
              rfl
            · rw [if_neg e, if_neg e]
          obtain ⟨G2, eG2⟩ : ∃ G2, G2 = G1 := ⟨_, rfl⟩
          rw [← eG2] at zU lU R3 b3 ⊢
        all_goals
          have S2 : SzAt (He.ga K "Sizes") G2 p ns := ⟨dz, l, zU, lU⟩
          refine ⟨_, rfl, _, rfl, _, rfl, p, dz, _, rfl, zU, szF_no l (by decide +kernel), _, rfl, p, ns, k, sz ns k, rfl, S2, sz_at hk, _, _, rfl, rfl, _, rfl, p, ns, a + sz ns k, a + sz ns x, rfl, S2, g, by omega, by omega, fun R ts3 H3 hR0 s3 hR tp3 => ?_⟩
          have tlen := tp3.len
          have R4 := R3.same s3
          have mid : (Rs ns (a + sz ns x) (a + sz ns k)).length ≤ 16 := M16.R_short (s := sz ns) (a := a + sz ns k) (hi := a + sz ns x) ch g.len.2
          have lv := rest_lv (a := a) g kx f1 f2
          have frR : R ∉ L :: ls := fun z => by
            rcases List.mem_cons.mp z with z | z
            · have := R3.at_
              rw [← z, hR0] at this
              cases this
            · obtain ⟨j, hj⟩ := List.mem_iff_getElem?.mp z
              obtain ⟨ts2, e2, _⟩ := R3.each j R hj
              rw [hR0] at e2
              cases e2
          refine ⟨R, rfl, ⟨_, SqL.of hR⟩, ?_⟩
          refine for_list (K := K) (a := R) (xs := ts3.map V.ref) (fun i σ G3 => (∃ x7 x8 x9 : Option V, σ = [some (.ref p), some (.ref L), some (.int (k : Nat)), some (.int (x : Nat)), some (.int (a + sz ns x)), some (.int a), some (.int c), x7, x8, x9]) ∧ RLf G3 L ls ns.length (fun j => (if j = x then (if c > 1 then [(a + sz ns x, c - 1)] else []) ++ t else rsAt rs j) ++ rsAt ((Rs ns (a + sz ns x) (a + sz ns k)).take i) j) ∧ ButL (L :: ls) H3 G3) ⟨⟨none, none, none, rfl⟩, R4.congr fun j _ => (List.append_nil _).symm, ButL.refl⟩ (fun i σ G3 _ h => SqL.of (h.2.2 _ _ frR hR)) ?_ ?_
          · rintro i v σ G3 hv ⟨⟨x7, x8, x9, rfl⟩, RG, bt⟩
            obtain ⟨pp, hpp, rfl⟩ := ref_of hv
            obtain ⟨r, hr, hT3⟩ := tp3.get hpp
            have ntp : pp ∉ L :: ls := fun z => by
              rcases List.mem_cons.mp z with z | z
              · have := R4.at_
                rw [← z, hT3] at this
                cases this
              · obtain ⟨j, hj⟩ := List.mem_iff_getElem?.mp z
                obtain ⟨ts2, e2, _⟩ := R4.each j pp hj
                rw [hT3] at e2
                cases e2
            have hT4 : G3 pp = some (.tup [.int (r.1 : Nat), .int r.2.1, .int r.2.2]) := bt _ _ ntp hT3
            have rk := (lv r (List.mem_of_getElem? hr)).2
            obtain ⟨l2, hl2⟩ : ∃ l2, ls[r.1]? = some l2 := ⟨_, List.getElem?_eq_getElem (by omega)⟩
            have ll3 : (ls.map V.ref)[r.1]? = some (.ref l2) := by rw [List.getElem?_map, hl2]; rfl
            obtain ⟨tl', g1, g2⟩ := RG.each r.1 l2 hl2
            have len1 := g2.len
            have len2 : (rsAt ((Rs ns (a + sz ns x) (a + sz ns k)).take i) r.1).length ≤ 16 := by
              unfold rsAt
              rw [List.length_map]
              refine Nat.le_trans (List.length_filter_le _ _) ?_
              rw [List.length_take]
              omega
            have len3 := rl r.1
            rw [List.length_append, if_neg (show ¬ r.1 = x by omega)] at len1
            refine ⟨pp, _, rfl, .inl (.inl hT4), rfl, _, _, rfl, _, _, rfl, _, _, rfl, rfl, ?_⟩
            refine at_st (u := tDrop _) (σ' := [some (.ref p), some (.ref L), some (.int (k : Nat)), some (.int (x : Nat)), some (.int (a + sz ns x)), some (.int a), some (.int c), some (.int (r.1 : Nat)), some (.int r.2.1), some (.int r.2.2)]) rfl ?_
            refine ⟨_, rfl, _, rfl, L, _, _, _, rfl, rfl, SqL.of RG.at_, atI_nat ll3, .inl ⟨rfl, _, SqL.of g1⟩, ?_⟩
            refine ⟨_, rfl, _, rfl, (by show 2 ≤ sizeLine; decide), fun u hu => ?_⟩
            have su := same_upd (o := .tup [.int r.2.1, .int r.2.2]) hu
            have ku : (upd G3 u (.tup [.int r.2.1, .int r.2.2])) u = some (.tup (prV (r.2.1, r.2.2))) := upd_same
            have bu := bt.trans (sbl su)
            have RU := RG.same su
            have h1u := su _ _ g1
            have h2u := g2.same su
            generalize upd G3 u (.tup [.int r.2.1, .int r.2.2]) = GU at ku bu RU h1u h2u
            refine ⟨l2, _, _, rfl, rfl, h1u, (by rw [List.length_map]; omega), ?_⟩
            obtain ⟨R5, b5⟩ := RU.set hl2 (h2u.app (Refs.one ku))
            rw [List.map_append] at R5 b5
            refine ⟨⟨_, _, _, rfl⟩, R5.congr fun j _ => ?_, bu.trans b5⟩
            rw [take_at hr, rsAt_app, rsAt_one]
            by_cases e : j = r.1
            · rw [if_pos e, if_pos e.symm, e, List.append_assoc]
            · rw [if_neg e, if_neg (show ¬ r.1 = j from fun z => e z.symm), List.append_nil]
          · rintro σ G3 ⟨⟨x7, x8, x9, rfl⟩, RG, bt⟩
            rw [List.length_map, tlen, List.take_length] at RG
            refine ⟨_, rfl, q a _ G3 best FT2 ?_ (b3.trans ((sbl s3).trans bt)) (RG.congr fun j _ => ?_)⟩
            · rw [er, List.length_append, List.length_append, List.length_append, List.length_cons]
              unfold takeR
              rw [List.length_append]
              by_cases c2 : c > 1
              · rw [if_pos c2, List.length_singleton]
                omega
              · rw [if_neg c2, List.length_nil]
                omega
            · show (if j = x then _ else rsAt rs j) ++ _ = _
              rw [er]
              exact tk_rows g kx f1 f2 hp hq (by rw [← er]; exact no) j
    · refine iteF' (decide_eq_false (by show ¬ (x : Int) ≤ (ns.length : Int) - 1; omega)) (iteF' rfl ?_)
      refine ⟨_, rfl, _, rfl, p, dz, _, rfl, zz, p, ns, rfl, S, _, _, rfl, rfl, _, rfl, iteT' (decide_eq_true (by show (ns.length : Int) - 1 < (x : Int); omega)) ?_⟩
      exact qN (FT.none g fun r hr h => by have := no r hr h; have := (FT.snd r hr).1; omega)
end
end K44

set_option Elab.async false
set_option linter.all false
set_option maxRecDepth 100000
set_option maxHeartbeats 1600000
set_option pp.maxSteps 1200
namespace K44
open PySem PySem.Spec PyProof.Rows L2 Gu Ex
section
variable {P : Program} {w : World} {K : PySem.W.Frag} {mg : Str → Option Value} {base : Heap} {f : Addr} {fd : FuncData}
def spCho (K : PySem.W.Frag) : Sp := fun vs H Q _ => ∃ (y zp bl dx : Addr) (ps : List Addr) (ns : List Int) (n c : Int) (bs : List Blk), vs = [.ref y, .int c] ∧ Ly K H y zp bl dx ps ns n bs ∧ 1 ≤ c ∧ c ≤ 1000000000000 ∧ (cnts ns c).sum ≤ 64 ∧
  (∀ H', ChO ns n bs (pcN ns c) none → Same H H' → Q .non H') ∧ ∀ as l H', ChO ns n bs (pcN ns c) (some as) → as.length ≤ 64 → H l = none → Same H H' → H' l = some (.lst (as.map V.int)) → Q (.ref l) H'
theorem sc_chosen_addresses : FnScope ["layout", "cells", "levels", "runs", "addresses", "level", "address"] ["layout", "cells"] (defScope (top 40)) := ⟨rfl, rfl, rfl, by decide +kernel, rfl, by decide +kernel, by decide +kernel⟩
theorem ok_cho (T : Tx K mg) (P_sizes : Pf P w K mg base 1 "Layout" "sizes" (spSzs K)) (M_pieces : Mf P w K mg base 5 "Sizes" "pieces" ["self", "cells"] (spPieces K)) (D_runs_by_level : Df P w K mg base 11 "runs_by_level" ["layout"] (spRbl K)) (D_take_region : Df P w K mg base 10 "take_region" ["sizes", "runs", "level"] (spTkR K)) (F : FnP K "chosen_addresses" "chosen_addresses" (top 40) f fd) : FnOk P w K mg base CX0 12 f fd ["layout", "cells"] (spCho K) := by
  refine F.ok sc_chosen_addresses (fun vs H Q E h => ?_) (fun cdv A outer s H vs Q E hr h => ⟨_, PSs.nox (pss_cons (ps_set (i := 2) sc_chosen_addresses.nd rfl (by first | exact Or.inl rfl | exact Or.inr rfl) (pmeth M_pieces hr (pprop P_sizes hr (pv 0)) (pa_cons (pv 1) pa_nil))) (pss_cons (ps_set (i := 3) sc_chosen_addresses.nd rfl (by first | exact Or.inl rfl | exact Or.inr rfl) (pcall D_runs_by_level hr (pa_cons (pv 0) pa_nil))) (pss_cons (ps_set (i := 4) sc_chosen_addresses.nd rfl (by first | exact Or.inl rfl | exact Or.inr rfl) (pe_lst pa_nil)) (pss_cons (ps_for PassesOwn.never rfl (pi_list (pv 2)) (pg_name (i := 5) sc_chosen_addresses.nd rfl (by first | exact Or.inl rfl | exact Or.inr rfl)) (pss_cons (ps_set (i := 6) sc_chosen_addresses.nd rfl (by first | exact Or.inl rfl | exact Or.inr rfl) (pcall D_take_region hr (pa_cons (pprop P_sizes hr (pv 0)) (pa_cons (pv 3) (pa_cons (pv 5) pa_nil))))) (pss_cons (ps_if (pt_cmpR op_isN (pv 6) pe_non (nomark _)) (pss_one (ps_ret pe_non)) pss_nil) (pss_one (ps_expr (pe_bm PySem.F.plainAttrs_list PySem.F.slot_list_append PySem.F.type_list_append mt_append (pv 4) (pa_cons (pv 6) pa_nil))))))) (pss_one (ps_ret (pv 4))))))), ?_⟩)
  · obtain ⟨y, zp, bl, dx, ps, ns, n, c, bs, rfl, _⟩ := h
    rfl
  · obtain ⟨y, zp, bl, dx, ps, ns, n, c, bs, rfl, L, c1, c2, c64, qN, qS⟩ := h
    have sl : sizeLine = 16777216 := sizeLine_eq
    have g := L.gd
    have g8 := g.len
    have n1 := L.n1
    obtain ⟨dz, l0, zz, zl⟩ := id L.szs
    refine ⟨_, rfl, y, dx, _, rfl, L.at_, y, zp, bl, dx, ps, ns, n, bs, rfl, L, zp, dz, _, rfl, zz, szF_no l0 (by decide +kernel), _, rfl, zp, ns, c, rfl, L.szs, g, c1, c2, c64, fun LV H1 hLV s1 kLV => ?_⟩
    rw [← pcN_map, List.map_map] at kLV
    have L1 := L.same s1
    refine go_nm (nx_of (σ' := [some (.ref y), some (.int c), some (.ref LV), none, none, none, none]) rfl ?_)
    refine ⟨_, rfl, y, zp, bl, dx, ps, ns, n, bs, rfl, L1, fun RL ls H2 fr s2 R0 => ?_⟩
    refine go_nm (nx_of (σ' := [some (.ref y), some (.int c), some (.ref LV), some (.ref RL), none, none, none]) rfl ?_)
    refine ⟨(by show 0 ≤ sizeLine; decide), fun AD hAD => ?_⟩
    have s3 := same_upd (o := .lst []) hAD
    have kAD : (upd H2 AD (.lst [])) AD = some (.lst (([] : List Int).map V.int)) := upd_same
    have R1 := R0.same s3
    have nAD : AD ∉ RL :: ls := fun z => by
      rcases List.mem_cons.mp z with z | z
      · rw [z, R0.at_] at hAD
        cases hAD
      · obtain ⟨j, hj⟩ := List.mem_iff_getElem?.mp z
        obtain ⟨ts2, e2, _⟩ := R0.each j AD hj
        rw [hAD] at e2
        cases e2
    have s12 := s1.trans s2
    have hADH : H AD = none := s12.free hAD
    have frH : ∀ x ∈ RL :: ls, H x = none := fun x hx => s1.free (fr x hx)
    have nLV : LV ∉ RL :: ls := fun z => by
      have := fr LV z
      rw [kLV] at this
      cases this
    have kLV3 := s3 _ _ (s2 _ _ kLV)
    have nLA : LV ≠ AD := ne_of_none (s2 _ _ kLV) hAD
    have sH3 := s12.trans s3
    generalize upd H2 AD (.lst []) = H3 at s3 kAD R1 kLV3 sH3
    refine go_nm (nx_of (σ' := [some (.ref y), some (.int c), some (.ref LV), some (.ref RL), some (.ref AD), none, none]) rfl ?_)
    have F0 := frl_ok L.wf g (show 0 ≤ n by omega)
    have rl0 := runs_len g (fgI ns n bs)
    have rl1 := (fg_ok L.wf g).2
    have rl2 := L.ln
    rw [show runsI ns (fgI ns n bs) = FRL ns n 0 bs from frl_gaps bs 0] at rl0
    obtain ⟨pk1, pk2⟩ := pc_in (c := c) g
    have pl : (pcN ns c).length ≤ 64 := by
      have e := congrArg List.length (pcN_map ns c)
      rw [List.length_map] at e
      have h := (falls_nn g (n := c) (by omega) ns.length (Nat.le_refl _)).2
      have h2 := falls_le g (n := c) (by omega) (i := ns.length) (Nat.le_refl _)
      have e2 : (pcs ns c).length = (lvls ns c ns.length).length := rfl
      omega
    refine ⟨_, rfl, LV, rfl, ⟨_, SqL.of kLV3⟩, ?_⟩
    refine for_list (K := K) (a := LV) (xs := (pcN ns c).map (V.int ∘ fun k : Nat => (k : Int))) (fun i σ G => ∃ (x5 x6 : Option V) (cs : List Blk) (as : List Int) (rs : List M16.Run), σ = [some (.ref y), some (.int c), some (.ref LV), some (.ref RL), some (.ref AD), x5, x6] ∧ Same H G ∧ G LV = some (.lst ((pcN ns c).map (V.int ∘ fun k : Nat => (k : Int)))) ∧ G AD = some (.lst (as.map V.int)) ∧ as.length = i ∧ RLf G RL ls ns.length (rsAt rs) ∧ FrT ns n cs rs ∧ rs.length ≤ 20000 + 20 * i ∧ ∀ o, ChO ns n cs ((pcN ns c).drop i) o → ChO ns n bs (pcN ns c) (o.map (as ++ ·)))
      ⟨none, none, bs, [], FRL ns n 0 bs, rfl, sH3, kLV3, kAD, rfl, R1, F0, by omega, fun o h => by cases o <;> exact h⟩ (fun i σ G _ ⟨_, _, _, _, _, _, _, h, _⟩ => SqL.of h) ?_ ?_
    · rintro i v σ G hv ⟨x5, x6, cs, as, rs, rfl, sG, kL, kA, al, RG, FG, rl, cho⟩
      obtain ⟨k, hk, rfl⟩ : ∃ k : Nat, (pcN ns c)[i]? = some k ∧ v = .int (k : Nat) := by
        rw [List.getElem?_map] at hv
        cases e : (pcN ns c)[i]? with
        | none => rw [e] at hv; cases hv
        | some k => rw [e] at hv; cases hv; exact ⟨k, rfl, rfl⟩
      have kl := pk1 k (List.mem_of_getElem? hk)
      have il := (List.getElem?_eq_some_iff.mp hk).1
      have ed := drop_at hk
      have LG := L.same sG
      refine go_nm (at_st (σ' := [some (.ref y), some (.int c), some (.ref LV), some (.ref RL), some (.ref AD), some (.int (k : Nat)), x6]) rfl ?_)
      refine ⟨_, rfl, y, dx, _, rfl, LG.at_, y, zp, bl, dx, ps, ns, n, bs, rfl, LG, _, rfl, _, rfl, zp, RL, ls, ns, n, cs, rs, k, rfl, LG.szs, g, RG, FG, kl, by omega, fun no => ?_, fun a rs' G2 best F2 rl' bt R2 => ?_⟩
      · refine go_nm (nx_of (σ' := [some (.ref y), some (.int c), some (.ref LV), some (.ref RL), some (.ref AD), some (.int (k : Nat)), some .non]) rfl ?_)
        refine ⟨_, rfl, rfl, _, rfl, iteT' (decide_eq_true rfl) ?_⟩
        refine qN _ ?_ sG
        have := cho none (by rw [ed]; exact ChO.no no)
        exact this
      · refine go_nm (nx_of (σ' := [some (.ref y), some (.int c), some (.ref LV), some (.ref RL), some (.ref AD), some (.int (k : Nat)), some (.int a)]) rfl ?_)
        refine ⟨_, rfl, rfl, _, rfl, iteF' (decide_eq_false (fun z => nomatch z)) ?_⟩
        have kL2 := bt _ _ nLV kL
        have kA2 := bt _ _ nAD kA
        refine ⟨_, rfl, .inl ⟨rfl, _, SqL.of kA2⟩, _, rfl, AD, _, _, rfl, rfl, kA2, (by rw [List.length_map]; omega), ?_⟩
        refine ⟨_, _, cs ++ [(a, k, false)], as ++ [a], rs', rfl, ?_, (upd_ne nLA).trans kL2, ?_, ?_, ?_, F2, ?_, ?_⟩
        · intro x o ho
          rw [upd_ne (show x ≠ AD from fun z => by rw [z, hADH] at ho; cases ho)]
          exact bt _ _ (fun z => by rw [frH x z] at ho; cases ho) (sG _ _ ho)
        · rw [upd_same, List.map_append]
          rfl
        · rw [List.length_append]
          exact congrArg (· + 1) al
        · refine ⟨?_, R2.len, R2.nd, fun j l hl => ?_⟩
          · rw [upd_ne (fun z => nAD (by rw [← z]; exact List.mem_cons_self))]
            exact R2.at_
          · obtain ⟨ts, h1, h2⟩ := R2.each j l hl
            refine ⟨ts, ?_, h2.mono fun p xs e => ?_⟩
            · rw [upd_ne (fun z => nAD (by rw [← z]; exact List.mem_cons_of_mem _ (List.mem_of_getElem? hl)))]
              exact h1
            · rw [upd_ne (fun z => by rw [z, kA2] at e; cases e)]
              exact e
        · omega
        · intro o h
          have := cho (o.map (a :: ·)) (by rw [ed]; exact ChO.cons best h)
          have e : (o.map (a :: ·)).map (as ++ ·) = o.map (as ++ [a] ++ ·) := by
            cases o with
            | none => rfl
            | some r =>
              show some (as ++ a :: r) = some (as ++ [a] ++ r)
              rw [List.append_assoc]
              rfl
          rw [e] at this
          exact this
    · rintro σ G ⟨x5, x6, cs, as, rs, rfl, sG, kL, kA, al, RG, FG, rl, cho⟩
      refine ⟨_, rfl, ?_⟩
      rw [List.length_map] at al
      have := cho (some []) (by rw [List.length_map, List.drop_length]; exact ChO.nil)
      refine qS as AD G ?_ ?_ hADH sG kA
      · have e : (some []).map (as ++ ·) = some as := by
          show some (as ++ []) = some as
          rw [List.append_nil]
        rw [e] at this
        exact this
      · omega
end
end K44

set_option Elab.async false
set_option linter.all false
set_option maxRecDepth 100000
set_option maxHeartbeats 1600000
set_option pp.maxSteps 1200
namespace K44
open PySem PySem.Spec PyProof.Rows L2 Gu Ex
/-- a promise of nothing: of a def that is never reached -/
def spNo : Sp := fun _ _ _ _ => False
theorem fn_no {P : Program} {w : World} {K : PySem.W.Frag} {mg : Str → Option Value} {base : Heap} {k : Nat} {f : Addr} {fd : FuncData} {ps : List Str} : FnOk P w K mg base CX0 k f fd ps spNo :=
  ⟨fun _ _ _ _ h => h.elim, fun _ _ _ _ _ _ _ _ _ _ _ _ _ h => h.elim⟩
section
variable {P : Program} {w : World} {K : PySem.W.Frag} {mg : Str → Option Value} {base : Heap} {f : Addr} {fd : FuncData}
def spRoom (K : PySem.W.Frag) : Sp := fun vs H Q _ => ∃ (y zp bl dx : Addr) (ps : List Addr) (ns : List Int) (n c : Int) (bs : List Blk) (as : List Int), vs = [.ref y, .int c] ∧ Ly K H y zp bl dx ps ns n bs ∧ 1 ≤ c ∧ c ≤ 1000000000000 ∧ (cnts ns c).sum ≤ 64 ∧
  ChO ns n bs (pcN ns c) (some as) ∧ (∀ j, j < ns.length → ¬ slkI ns n bs j [c] < 0) ∧ ∀ t m l H', Same H H' → H' m = some (.lst []) → H' l = some (.lst (as.map V.int)) → H' t = some (.tup [.ref m, .ref l]) → Q (.ref t) H'
theorem sc_room : FnScope ["layout", "cells", "levels", "addresses"] ["layout", "cells"] (defScope (top 42)) := ⟨rfl, rfl, rfl, by decide +kernel, rfl, by decide +kernel, by decide +kernel⟩
theorem ok_room (T : Tx K mg) (P_sizes : Pf P w K mg base 1 "Layout" "sizes" (spSzs K)) (M_pieces : Mf P w K mg base 5 "Sizes" "pieces" ["self", "cells"] (spPieces K)) (D_check_fits : Df P w K mg base 12 "check_fits" ["layout", "numbers"] (spFits K)) (D_chosen_addresses : Df P w K mg base 12 "chosen_addresses" ["layout", "cells"] (spCho K)) (D_room_by_moves : Df P w K mg base 1 "room_by_moves" ["layout", "levels"] spNo) (F : FnP K "room" "room" (top 42) f fd) : FnOk P w K mg base CX0 13 f fd ["layout", "cells"] (spRoom K) := by
  refine F.ok sc_room (fun vs H Q E h => ?_) (fun cdv A outer s H vs Q E hr h => ⟨_, PSs.nox (pss_cons (ps_set (i := 2) sc_room.nd rfl (by first | exact Or.inl rfl | exact Or.inr rfl) (pmeth M_pieces hr (pprop P_sizes hr (pv 0)) (pa_cons (pv 1) pa_nil))) (pss_cons (ps_expr (pcall D_check_fits hr (pa_cons (pv 0) (pa_cons (pe_lst (pa_cons (pv 1) pa_nil)) pa_nil)))) (pss_cons (ps_set (i := 3) sc_room.nd rfl (by first | exact Or.inl rfl | exact Or.inr rfl) (pcall D_chosen_addresses hr (pa_cons (pv 0) (pa_cons (pv 1) pa_nil)))) (pss_cons (ps_if (pt_cmpR op_notN (pv 3) pe_non (nomark _)) (pss_one (ps_ret (pe_tup (pa_cons (pe_lst pa_nil) (pa_cons (pv 3) pa_nil))))) pss_nil) (pss_one (ps_ret (pcall D_room_by_moves hr (pa_cons (pv 0) (pa_cons (pv 2) pa_nil))))))))), ?_⟩)
  · obtain ⟨y, zp, bl, dx, ps, ns, n, c, bs, as, rfl, _⟩ := h
    rfl
  · obtain ⟨y, zp, bl, dx, ps, ns, n, c, bs, as, rfl, L, c1, c2, c64, cho, nsl, q⟩ := h
    have sl : sizeLine = 16777216 := sizeLine_eq
    have g := L.gd
    have g8 := g.len
    obtain ⟨dz, l0, zz, zl⟩ := id L.szs
    refine ⟨_, rfl, y, dx, _, rfl, L.at_, y, zp, bl, dx, ps, ns, n, bs, rfl, L, zp, dz, _, rfl, zz, szF_no l0 (by decide +kernel), _, rfl, zp, ns, c, rfl, L.szs, g, c1, c2, c64, fun LV H1 hLV s1 kLV => ?_⟩
    have L1 := L.same s1
    refine go_nm (nx_of (σ' := [some (.ref y), some (.int c), some (.ref LV), none]) rfl ?_)
    refine ⟨_, rfl, _, rfl, (by show 1 ≤ sizeLine; decide), fun NL hNL => ?_⟩
    have s2 := same_upd (o := .lst [.int c]) hNL
    have kN : (upd H1 NL (.lst [.int c])) NL = some (.lst ([c].map V.int)) := upd_same
    generalize upd H1 NL (.lst [.int c]) = H2 at s2 kN
    have L2 := L1.same s2
    refine ⟨y, zp, bl, dx, ps, ns, n, bs, NL, [c], rfl, L2, .lst kN, (fun x hx => by rw [List.mem_singleton.mp hx]; exact ⟨c1, c2⟩), (by show 1 ≤ 1000; decide), nsl, fun H3 s3 => ?_⟩
    have L3 := L2.same s3
    refine ⟨_, rfl, _, rfl, y, zp, bl, dx, ps, ns, n, c, bs, rfl, L3, c1, c2, c64, fun H4 no s4 => ?_, fun as' l H4 cho' a64 hl s4 kl => ?_⟩
    · have := no.uniq g cho
      cases this
    · have e := cho'.uniq g cho
      cases e
      refine go_nm (nx_of (σ' := [some (.ref y), some (.int c), some (.ref LV), some (.ref l)]) rfl ?_)
      refine ⟨_, rfl, rfl, _, rfl, iteT' (by rw [decide_eq_false (fun z => nomatch z)]; rfl) ?_⟩
      refine ⟨(by show 0 ≤ sizeLine; decide), fun M hM => ?_⟩
      have s5 := same_upd (o := .lst []) hM
      have kM : (upd H4 M (.lst [])) M = some (.lst []) := upd_same
      have kl5 := s5 _ _ kl
      generalize upd H4 M (.lst []) = H5 at s5 kM kl5
      refine ⟨_, rfl, (by show 2 ≤ sizeLine; decide), fun t ht => ?_⟩
      have s6 := same_upd (o := .tup [.ref M, .ref l]) ht
      exact q t M l _ (s1.trans (s2.trans (s3.trans (s4.trans (s5.trans s6))))) (s6 _ _ kM) (s6 _ _ kl5) upd_same
end
end K44

set_option Elab.async false
set_option linter.all false
set_option maxRecDepth 100000
set_option maxHeartbeats 1600000
/-! Mathematics: where the regions are chosen, the object fits. -/
namespace K44
open PySem PySem.Spec PyProof.Rows L2 Gu Ex
section
variable {ns : List Int} {n c : Int} {bs : List Blk}
theorem slk_pins (g : Good ns) (n1 : 0 ≤ n) {k : Nat} (hk : k < ns.length) : ∀ (post pre : List Blk), Wf ns n (pre ++ post) → slkI ns n (pre ++ post.map pinT) k [] ≤ slkI ns n (pre ++ post) k []
  | [], pre, _ => Int.le_refl _
  | b :: post, pre, w => by
    obtain ⟨a, l, p⟩ := b
    cases p with
    | true =>
      have e : ∀ t : List Blk, pre ++ (a, l, true) :: t = (pre ++ [(a, l, true)]) ++ t := fun t => by simp
      show slkI ns n (pre ++ (a, l, true) :: post.map pinT) k [] ≤ _
      rw [e (post.map pinT), e post]
      rw [e post] at w
      exact slk_pins g n1 hk post _ w
    | false =>
      have hj : (pre ++ (a, l, false) :: post)[pre.length]? = some (a, l, false) := by
        rw [List.getElem?_append_right (Nat.le_refl _), Nat.sub_self]
        rfl
      have e : ∀ t : List Blk, pre ++ (a, l, true) :: t = (pre ++ [(a, l, true)]) ++ t := fun t => by simp
      have ep : pinB (pre ++ (a, l, false) :: post) pre.length (a, l, false) true = (pre ++ [(a, l, true)]) ++ post := by
        unfold pinB
        rw [List.set_append_right _ _ (Nat.le_refl _), Nat.sub_self, ← e]
        rfl
      have w' := pin_wf (p := true) w hj
      have h1 := slk_le w g n1 hj rfl hk
      rw [ep] at w' h1
      show slkI ns n (pre ++ (a, l, true) :: post.map pinT) k [] ≤ _
      rw [e (post.map pinT)]
      exact Int.le_trans (slk_pins g n1 hk post _ w') h1
theorem unt_slk (w : Wf ns n bs) (g : Good ns) (n1 : 0 ≤ n) {k : Nat} (hk : k < ns.length) : untI ns n bs k ≤ slkI ns n bs k [] := by
  have h := slk_pins g n1 hk bs [] w
  have w' : Wf ns n (bs.map pinT) := ⟨fun b hb => by
    obtain ⟨c, hc, rfl⟩ := List.mem_map.mp hb
    exact w.ok c hc, List.pairwise_map.mpr w.so⟩
  have p : ∀ b ∈ bs.map pinT, b.2.2 = true := fun b hb => by
    obtain ⟨c, _, rfl⟩ := List.mem_map.mp hb
    rfl
  have u := unt_clr w' g hk n1 p
  rw [unt_pin] at u
  have l0 : lseI ns (bs.map pinT) k = 0 := by
    rw [lse_one]
    rw [List.filter_eq_nil_iff.mpr fun b hb => by rw [p b hb]; simp]
    rfl
  have s : slkI ns n (bs.map pinT) k [] = clrI ns n (bs.map pinT) k - lseI ns (bs.map pinT) k - 0 := rfl
  have h : slkI ns n (bs.map pinT) k [] ≤ slkI ns n bs k [] := h
  omega
theorem slk_one (k : Nat) : slkI ns n bs k [c] = slkI ns n bs k [] - (c - c % sz ns k) := by
  have e : slkI ns n bs k [c] = clrI ns n bs k - lseI ns bs k - ((c - c % sz ns k) + 0) := rfl
  have e2 : slkI ns n bs k [] = clrI ns n bs k - lseI ns bs k - 0 := rfl
  omega
/-- if the regions can be chosen, the object fits -/
theorem cho_fits (w : Wf ns n bs) (g : Good ns) (n1 : 0 ≤ n) (c0 : 0 ≤ c) {as : List Int} (h : ChO ns n bs (pcN ns c) (some as)) : ∀ j, j < ns.length → ¬ slkI ns n bs j [c] < 0 := fun j hj => by
  obtain ⟨p1, p2⟩ := pc_in (c := c) g
  have i := (cho_iff g p2 p1 h).mp (fun z => nomatch z) j hj
  rw [need_pc g c0 hj, ← unt_uC w g hj n1] at i
  have := unt_slk w g n1 hj
  rw [slk_one]
  omega
/-- the law's own condition -/
theorem cho_enough (w : Wf ns n bs) (g : Good ns) (n1 : 0 ≤ n) (c0 : 0 ≤ c) {o : Option (List Int)} (h : ChO ns n bs (pcN ns c) o) : o ≠ none ↔ ∀ j, j < ns.length → ¬ untI ns n bs j < c - c % sz ns j := by
  obtain ⟨p1, p2⟩ := pc_in (c := c) g
  rw [cho_iff g p2 p1 h]
  refine ⟨fun i j hj => ?_, fun i j hj => ?_⟩
  · have := i j hj
    rw [need_pc g c0 hj, ← unt_uC w g hj n1] at this
    omega
  · have := i j hj
    rw [need_pc g c0 hj, ← unt_uC w g hj n1]
    omega
end
end K44

set_option Elab.async false
set_option linter.all false
set_option maxRecDepth 100000
set_option maxHeartbeats 4000000
set_option pp.maxSteps 900
namespace K44
open PySem PySem.Spec PyProof.Rows L2 Gu Ex
section
variable {P : Program} {w : World} {K : PySem.W.Frag} {mg : Str → Option Value} {base : Heap} {f : Addr} {fd : FuncData}
def spLpc : Sp := fun vs H Q _ => ∃ (o : Addr) (ns : List Int) (n : Int), vs = [.ref o, .int n] ∧ H o = some (.lst (ns.map V.int)) ∧ Good ns ∧ 0 ≤ n ∧ (cnts ns n).sum ≤ 64 ∧
  ∀ l H', H l = none → Same H H' → H' l = some (.lst (((pcN ns n).map fun k : Nat => (k : Int)).map V.int)) → Q (.ref l) H'
theorem rev_rg {m i : Nat} (h : i < m) : (rgV 0 (m : Int)).reverse[i]? = some (.int ((m - 1 - i : Nat) : Int)) := by
  have hl : (rgV 0 (m : Int)).length = m := by rw [rgV_length]; omega
  rw [List.getElem?_reverse (by rw [hl]; exact h), hl]
  unfold rgV
  rw [List.getElem?_map, List.getElem?_range (by omega)]
  show some (V.int (0 + ((m - 1 - i : Nat) : Int))) = _
  rw [Int.zero_add]
theorem sc__law_pieces : FnScope ["_law_sizes_here", "_law_cells", "_law_result", "_law_level", "_law_many"] ["_law_sizes_here", "_law_cells"] (defScope (top 49)) := ⟨rfl, rfl, rfl, by decide +kernel, rfl, by decide +kernel, by decide +kernel⟩
theorem ok_lpc (T : Tx K mg) (F : FnP K "_law_pieces" "_law_pieces" (top 49) f fd) : FnOk P w K mg base CX0 1 f fd ["_law_sizes_here", "_law_cells"] spLpc := by
  refine F.ok sc__law_pieces (fun vs H Q E h => ?_) (fun cdv A outer s H vs Q E hr h => ⟨_, PSs.nox (pss_cons (ps_set (i := 2) sc__law_pieces.nd rfl (by first | exact Or.inl rfl | exact Or.inr rfl) (pe_lst pa_nil)) (pss_cons (ps_for PassesOwn.never rfl (pi_list (pe_revL (pe_listRg rfl (by rfl) T.n_list (prg_1 (by rfl) T.n_range (pe_callB call_len_seq (by rfl) T.n_len (by decide +kernel) (pa_cons (pv 0) pa_nil)))))) (pg_name (i := 3) sc__law_pieces.nd rfl (by first | exact Or.inl rfl | exact Or.inr rfl)) (pss_cons (ps_asg (pe_callB call_divmodW (by rfl) T.n_divmod (by decide +kernel) (pa_cons (pv 1) (pa_cons (pe_ix ix_list (pv 0) (pv 3) (fun _ _ => rfl)) pa_nil))) (pg_tup (by rfl) (pgs_cons (pg_name (i := 4) sc__law_pieces.nd rfl (by first | exact Or.inl rfl | exact Or.inr rfl)) (pgs_cons (pg_name (i := 1) sc__law_pieces.nd rfl (by first | exact Or.inl rfl | exact Or.inr rfl)) pgs_nil)))) (pss_one (ps_set (i := 2) sc__law_pieces.nd rfl (by first | exact Or.inl rfl | exact Or.inr rfl) (pe_op op_cat (pv 2) (pe_op op_rep (pe_lst (pa_cons (pv 3) pa_nil)) (pv 4))))))) (pss_one (ps_ret (pv 2))))), ?_⟩)
  · obtain ⟨o, ns, n, rfl, _⟩ := h
    rfl
  · obtain ⟨o, ns, n, rfl, hO, g, n0, c64, q⟩ := h
    have sl : sizeLine = 16777216 := sizeLine_eq
    have l8 := g.len
    have ch := chain g
    refine ⟨(by show 0 ≤ sizeLine; decide), fun a ha => ⟨_, rfl, o, _, rfl, .inl (SqL.of (same_upd ha _ _ hO)), _, rfl, ?_⟩⟩
    rw [List.length_map]
    refine ⟨RgOk.of_le (by decide) (by omega) (by decide) (by omega), fun q0 hq0 => ⟨q0, _, rfl, SqL.of upd_same, fun b hb => ?_⟩⟩
    have s1 := ((same_upd (o := .lst []) ha).trans (same_upd (o := .lst (rgV 0 (ns.length : Int))) hq0)).trans (same_upd (o := .lst (rgV 0 (ns.length : Int)).reverse) hb)
    have hB : (upd (upd (upd H a (.lst [])) q0 (.lst (rgV 0 (ns.length : Int)))) b (.lst (rgV 0 (ns.length : Int)).reverse)) b = some (.lst (rgV 0 (ns.length : Int)).reverse) := upd_same
    have hA : (upd (upd (upd H a (.lst [])) q0 (.lst (rgV 0 (ns.length : Int)))) b (.lst (rgV 0 (ns.length : Int)).reverse)) a = some (.lst []) := by
      rw [upd_ne (ne_of_none (same_upd hq0 _ _ upd_same) hb), upd_ne (ne_of_none upd_same hq0)]
      exact upd_same
    generalize (upd (upd (upd H a (.lst [])) q0 (.lst (rgV 0 (ns.length : Int)))) b (.lst (rgV 0 (ns.length : Int)).reverse)) = H1 at *
    refine ⟨b, rfl, ⟨_, SqL.of hB⟩, ?_⟩
    refine for_it (walk_list (xs := (rgV 0 (ns.length : Int)).reverse)) (fun i σ G => (∃ (L : Addr) (x3 x4 : Option V), σ = [some (.ref o), some (.int (if i = 0 then n else n % sz ns (ns.length - i))), some (.ref L), x3, x4] ∧ G L = some (.lst ((lvls ns n i).map V.int)) ∧ H L = none) ∧ Same H1 G)
      ⟨⟨a, none, none, rfl, hA, ha⟩, Same.refl _⟩ (fun i σ G _ h => SqL.of (h.2 _ _ hB)) ?_ ?_
    · rintro i v σ G0 G hi ⟨⟨L, x3, x4, rfl, hL, hLH⟩, sm⟩ ⟨rfl, hv⟩
      have hi2 : i < ns.length := by rw [List.length_reverse, rgV_length] at hi; omega
      rw [rev_rg hi2] at hv
      obtain rfl := (Option.some.inj hv).symm
      have km : ns.length - 1 - i < ns.length := by omega
      have ps := ch.pos _ km
      have pl := sz_le g km
      have hO1 := sm _ _ (s1 _ _ hO)
      have er : (if i = 0 then n else n % sz ns (ns.length - i)) = M13.rest (sz ns) ns.length n (ns.length - 1 - i) := by
        unfold M13.rest
        by_cases h0 : i = 0
        · rw [if_pos h0, if_neg (by omega)]
        · rw [if_neg h0, if_pos (by omega), show ns.length - 1 - i + 1 = ns.length - i by omega]
      have mb : (sz ns (ns.length - 1 - i)).natAbs < 2 ^ 34 := by
        have e2 : (2 : Nat) ^ 34 = 17179869184 := by decide
        omega
      obtain ⟨c0, c1, c2⟩ := cnt_le g n0 hi2 c64
      refine ⟨_, rfl, _, rfl, _, rfl, o, _, _, _, rfl, rfl, SqL.of hO1, at_sz km, _, _, rfl, ⟨by omega, PyProof.noPylong_of_log2 (Nat.lt_of_lt_of_le (PySem.Flt.log2_lt_of (by decide) mb) (by decide))⟩, fun p hp => ?_⟩
      rw [er]
      rw [show M13.rest (sz ns) ns.length n (ns.length - 1 - i) / sz ns (ns.length - 1 - i) = M13.cnt (sz ns) ns.length n (ns.length - 1 - i) from rfl, M13.rest_next ch n km]
      have t1 := same_upd (o := .tup [.int (M13.cnt (sz ns) ns.length n (ns.length - 1 - i)), .int (n % sz ns (ns.length - 1 - i))]) hp
      have hL1 := t1 _ _ hL
      have hP : (upd G p (.tup [.int (M13.cnt (sz ns) ns.length n (ns.length - 1 - i)), .int (n % sz ns (ns.length - 1 - i))])) p = some (.tup [.int (M13.cnt (sz ns) ns.length n (ns.length - 1 - i)), .int (n % sz ns (ns.length - 1 - i))]) := upd_same
      generalize upd G p (.tup [.int (M13.cnt (sz ns) ns.length n (ns.length - 1 - i)), .int (n % sz ns (ns.length - 1 - i))]) = G1 at *
      refine ⟨p, _, rfl, .inl (.inl hP), rfl, _, _, rfl, _, _, rfl, rfl, ?_⟩
      refine ⟨_, rfl, _, rfl, (by show 1 ≤ sizeLine; decide), fun e he => ⟨_, rfl, e, _, _, rfl, rfl, upd_same, by omega, by omega, by rw [sl]; show 1 * _ ≤ _; omega, fun c hc => ?_⟩⟩
      rw [flat_one]
      have t2 := (same_upd (o := .lst [.int ((ns.length - 1 - i : Nat) : Int)]) he).trans (same_upd (o := .lst (List.replicate (M13.cnt (sz ns) ns.length n (ns.length - 1 - i)).toNat (V.int ((ns.length - 1 - i : Nat) : Int)))) hc)
      refine ⟨L, c, _, _, rfl, rfl, t2 _ _ hL1, upd_same, by rw [List.length_replicate, List.length_map, sl]; omega, fun d hd => ?_⟩
      have t3 := t2.trans (same_upd (o := .lst ((lvls ns n i).map V.int ++ List.replicate (M13.cnt (sz ns) ns.length n (ns.length - 1 - i)).toNat (V.int ((ns.length - 1 - i : Nat) : Int)))) hd)
      have sG := s1.trans (sm.trans (t1.trans t2))
      refine ⟨⟨d, some (.int ((ns.length - 1 - i : Nat) : Int)), some (.int (M13.cnt (sz ns) ns.length n (ns.length - 1 - i))), ?_, ?_, sG.free hd⟩, sm.trans (t1.trans t3)⟩
      · rw [if_neg (show ¬ i + 1 = 0 by omega), show ns.length - (i + 1) = ns.length - 1 - i by omega]
        rfl
      · rw [upd_same]
        show _ = some (HO.lst ((lvls ns n i ++ List.replicate _ _).map V.int))
        rw [List.map_append, List.map_replicate]
    · rintro σ G ⟨⟨L, x3, x4, rfl, hL, hLH⟩, sm⟩
      have e8 : (rgV 0 (ns.length : Int)).reverse.length = ns.length := by rw [List.length_reverse, rgV_length]; omega
      rw [e8] at hL
      refine ⟨_, rfl, q L G hLH (s1.trans sm) ?_⟩
      rw [hL]
      exact congrArg (fun t => some (HO.lst (t.map V.int))) (pcN_map ns n).symm
end
end K44

set_option Elab.async false
set_option linter.all false
set_option maxRecDepth 100000
set_option maxHeartbeats 4000000
set_option pp.maxSteps 900
/-! min of a list of pairs of ints -/
namespace K44
open PySem PySem.Spec PyProof.Rows L2 Gu Ex
def pD (m : Int × Int) : PyData := .tuple [.int m.1, .int m.2]
/-- in the sequence of pairs -/
def leP (a b : Int × Int) : Prop := a.1 < b.1 ∨ (a.1 = b.1 ∧ a.2 ≤ b.2)
theorem leP_refl (a : Int × Int) : leP a a := .inr ⟨rfl, Int.le_refl _⟩
theorem leP_trans {a b c : Int × Int} (h : leP a b) (k : leP b c) : leP a c := by
  unfold leP at *
  omega
theorem leP_antisymm {a b : Int × Int} (h : leP a b) (k : leP b a) : a = b := by
  unfold leP at *
  exact Prod.ext (by omega) (by omega)
theorem min_pr : ∀ (ms : List (Int × Int)) (b : Int × Int), ∃ m, PySem.W.minD (pD b) (ms.map pD) = pD m ∧ m ∈ b :: ms ∧ leP m b ∧ ∀ c ∈ ms, leP m c
  | [], b => ⟨b, rfl, List.mem_cons_self, leP_refl b, fun _ h => nomatch h⟩
  | c :: ms, b => by
    obtain ⟨d, ed, hd, h1, h2⟩ : ∃ d : Int × Int, (if PySem.W.dataLt (pD c) (pD b) = true then pD c else pD b) = pD d ∧ (d = c ∨ d = b) ∧ leP d b ∧ leP d c := by
      have e : PySem.W.dataLt (pD c) (pD b) = decide (c.1 < b.1 ∨ (c.1 = b.1 ∧ c.2 < b.2)) := PySem.W.dataLt_ii _ _ _ _
      rw [e]
      by_cases l : c.1 < b.1 ∨ (c.1 = b.1 ∧ c.2 < b.2)
      · exact ⟨c, if_pos (decide_eq_true l), .inl rfl, by unfold leP; omega, leP_refl c⟩
      · exact ⟨b, if_neg (fun z => l (of_decide_eq_true z)), .inr rfl, leP_refl b, by unfold leP; omega⟩
    obtain ⟨m, em, mm, k1, k2⟩ := min_pr ms d
    refine ⟨m, ?_, ?_, leP_trans k1 h1, fun x hx => ?_⟩
    · show PySem.W.minD (if PySem.W.dataLt (pD c) (pD b) = true then pD c else pD b) (ms.map pD) = _
      rw [ed]
      exact em
    · rcases List.mem_cons.mp mm with rfl | z
      · rcases hd with rfl | rfl
        · exact List.mem_cons_of_mem _ List.mem_cons_self
        · exact List.mem_cons_self
      · exact List.mem_cons_of_mem _ (List.mem_cons_of_mem _ z)
    · rcases List.mem_cons.mp hx with rfl | hx
      · exact leP_trans k1 h2
      · exact k2 x hx
theorem alike_pr (ms : List (Int × Int)) : PySem.W.AlikeAll (ms.map pD) := by
  refine ⟨fun x hx y hy => ?_, fun x hx => ?_⟩
  · obtain ⟨b, _, rfl⟩ := List.mem_map.mp hx
    obtain ⟨c, _, rfl⟩ := List.mem_map.mp hy
    rfl
  · obtain ⟨b, _, rfl⟩ := List.mem_map.mp hx
    intro z
    cases z
theorem dep_pr : ∀ ms : List (Int × Int), PyData.depthAll (ms.map pD) ≤ 1
  | [] => Nat.zero_le _
  | b :: r => by
    have e : (pD b).depth = 1 := rfl
    simp only [List.map_cons, PyData.depthAll, e]
    have := dep_pr r
    omega
theorem dp_pr {K : PySem.W.Frag} {H : Hp} {qs : List Addr} {ms : List (Int × Int)} (h : Refs prV H qs ms) : DpAll K H (qs.map V.ref) (ms.map pD) := by
  induction h with
  | nil => exact .nil
  | cons e _ ih => exact .cons (.tup (SqT.of e) (.cons (.int _) (.cons (.int _) .nil))) ih
theorem reads_int {h : Heap} {x : Int} {t : Tok} {d : PyData} {as : List Addr} (r : Reads h (.int x t) d as) : d = .int x := by
  cases r
  rfl
/-- min(xs) of a list of pairs that is not empty -/
def rMinP (K : PySem.W.Frag) : List V → Hp → VK → Prop := fun vs H Q => ∃ (a : Addr) (qs : List Addr) (ms : List (Int × Int)), vs = [V.ref a] ∧ SqL K H a (qs.map V.ref) ∧ Refs prV H qs ms ∧ ms ≠ [] ∧ ∀ q m, m ∈ ms → H q = some (.tup (prV m)) → (∀ c ∈ ms, leP m c) → Q (.ref q) H
theorem cr_minP {X : Cx} (hc : X.calm = true) (hu : X.A.units + 64 < cLine) : CallR X (.builtin "min") (rMinP X.K) := by
  intro pins s σ H vs us Q I r h
  obtain ⟨a, qs, ms, rfl, hs, rf, hne, q⟩ := h
  obtain ⟨its, rv, hl, _⟩ := I.list hs
  rw [Vals.ref1 r]
  match ms, rf, hne, q with
  | b0 :: ms, rf, _, q =>
    obtain ⟨as, rd⟩ := Dp.readsAll I _ _ _ (dp_pr rf) rv
    refine PySem.W.min_list_data (x := pD b0) (xs := ms.map pD) (I.ok.hd hc) hl.isList (by simpa using rd) (alike_pr (b0 :: ms)) ?_ fun i v h' tk bs' hv rd' kp => ?_
    · have := dep_pr (b0 :: ms)
      show X.A.units + 1 + PyData.depthAll ((b0 :: ms).map pD) < cLine
      omega
    · obtain ⟨m, em, mm, k1, k2⟩ := min_pr ms b0
      rw [em] at rd'
      have hv2 : its[i]? = some v := by simpa using hv
      have il : i < (b0 :: ms).length := by
        have h1 := rv.length
        rw [List.length_map, rf.len] at h1
        rw [h1]
        exact (List.getElem?_eq_some_iff.mp hv2).1
      obtain ⟨b, hb⟩ : ∃ b, (b0 :: ms)[i]? = some b := ⟨_, List.getElem?_eq_getElem il⟩
      obtain ⟨p, hp, hT⟩ := rf.at_ hb
      obtain ⟨u, hu2, ru⟩ := Vals.get rv (show (qs.map V.ref)[i]? = some (V.ref p) by rw [List.getElem?_map, hp]; rfl)
      rw [hv2] at hu2
      cases hu2
      obtain rfl : v = Value.ref p := ru
      have hT' : H p = some (.tup [.int b.1, .int b.2]) := hT
      obtain ⟨_, its2, r2, o, ho, hcl, n, hd⟩ := I.hok _ _ hT'
      have ebm : b = m := by
        cases r2 with
        | @cons _ u1 _ _ ri r3 =>
          cases r3 with
          | @cons _ u2 _ _ rj r4 =>
            cases r4
            obtain ⟨t1, rfl⟩ := ri
            obtain ⟨t2, rfl⟩ := rj
            cases rd' with
            | tuple e1 e2 e3 e4 =>
              have e5 := kp _ _ ho
              rw [e1] at e5
              cases e5
              rw [hd] at e3
              cases e3
              cases e4 with
              | cons e6 e7 =>
                cases e7 with
                | cons e8 _ => exact Prod.ext (PyData.int.inj (reads_int e6)).symm (PyData.int.inj (reads_int e8)).symm
      subst ebm
      exact ⟨.ref p, H, I.kept kp, rfl, q p b (List.mem_of_getElem? hb) hT fun c hc2 => by
        rcases List.mem_cons.mp hc2 with rfl | hc2
        · exact k1
        · exact k2 c hc2⟩
end K44

set_option Elab.async false
set_option linter.all false
set_option maxRecDepth 100000
set_option maxHeartbeats 4000000
/-! xs == [] -/
namespace L2
open PySem PySem.Spec PyProof.Rows
section
variable {X : Cx}
def rEqNil (K : PySem.W.Frag) : R2 := fun x y H Q => ∃ a b xs, x = .ref a ∧ y = .ref b ∧ SqL K H a xs ∧ SqL K H b [] ∧ Q (.bl (decide (xs.length = 0))) H
theorem op_eqNil (hu : X.A.units + 64 < cLine) : OpR X (compareOp .Eq) (rEqNil X.K) := by
  intro pins s σ H x y v u Q I rx ry h
  obtain ⟨a, b, xs, rfl, rfl, ha, hb, q⟩ := h
  cases rx
  cases ry
  obtain ⟨us, r1, p1, _⟩ := I.list ha
  obtain ⟨ws, r2, p2, _⟩ := I.list hb
  cases r2
  have hl := r1.length
  by_cases hz : xs.length = 0
  · rw [decide_eq_true hz] at q
    have hs : us.toArray.size = (#[] : Array Value).size := by rw [List.size_toArray, ← hl, hz]; rfl
    refine SeqAt.eq_listAt (e := fun _ => true) p1.isList p2.isList hs (by omega) (fun j h1 h2 => absurd h2 (Nat.not_lt_zero j)) ?_
    rw [show ((List.range us.toArray.size).all fun _ => true) = true from List.all_eq_true.mpr fun _ _ => rfl]
    exact ⟨.bl true, H, I, rfl, q⟩
  · rw [decide_eq_false hz] at q
    refine SeqAt.eq_list_lengthsAt p1.isList p2.isList ?_ (by omega) ⟨.bl false, H, I, rfl, q⟩
    have : us.toArray.size ≠ 0 := by rw [List.size_toArray, ← hl]; exact hz
    simpa using this
end
end L2

set_option Elab.async false
set_option linter.all false
set_option maxRecDepth 100000
set_option maxHeartbeats 1600000
set_option pp.maxSteps 1200
namespace K44
open PySem PySem.Spec PyProof.Rows L2 Gu Ex
theorem Un.more {ns : List Int} {n : Int} {bs : List Blk} {k : Nat} {a : Int} {p : Bool} (u : Un ns n bs) (h : FrV ns n bs k a) : Un ns n (bs ++ [(a, k, p)]) := by
  obtain ⟨h1, h2, h3, h4, h5⟩ := h
  refine ⟨fun b hb => ?_, List.pairwise_append.mpr ⟨u.dj, List.pairwise_singleton _ _, fun b hb c hc => ?_⟩⟩
  · rcases List.mem_append.mp hb with z | z
    · exact u.ok b z
    · rw [List.mem_singleton.mp z]
      exact ⟨h1, h3, h2, h4⟩
  · rw [List.mem_singleton.mp hc]
    exact h5 b hb
section
variable {P : Program} {w : World} {K : PySem.W.Frag} {mg : Str → Option Value} {base : Heap} {f : Addr} {fd : FuncData}
def spLCho : Sp := fun vs H Q _ => ∃ (s a : Addr) (ns : List Int) (n c : Int) (qs : List Addr) (bs : List Blk), vs = [.ref s, .int n, .ref a, .int c] ∧ H s = some (.lst (ns.map V.int)) ∧ Good ns ∧ H a = some (.lst (qs.map V.ref)) ∧ Refs blkV H qs bs ∧ Un ns n bs ∧ 0 ≤ n ∧ n ≤ 1000000000000 ∧ bs.length ≤ 140 ∧ 0 ≤ c ∧ (cnts ns c).sum ≤ 64 ∧
  (∀ H', ChO ns n bs (pcN ns c) none → Same H H' → Q .non H') ∧ ∀ as l H', ChO ns n bs (pcN ns c) (some as) → as.length = (pcN ns c).length → H l = none → Same H H' → H' l = some (.lst (as.map V.int)) → Q (.ref l) H'
theorem pc_len {ns : List Int} {c : Int} (g : Good ns) (c0 : 0 ≤ c) (h : (cnts ns c).sum ≤ 64) : (pcN ns c).length ≤ 64 := by
  have e := congrArg List.length (pcN_map ns c)
  rw [List.length_map] at e
  have h1 := (falls_nn g (n := c) c0 ns.length (Nat.le_refl _)).2
  have h2 := falls_le g (n := c) c0 (i := ns.length) (Nat.le_refl _)
  have e2 : (pcs ns c).length = (lvls ns c ns.length).length := rfl
  omega
theorem sc__law_chosen : FnScope ["_law_sizes_here", "_law_length", "_law_blocks_here", "_law_cells", "_law_level", "_law_now", "_law_result", "_law_places", "_law_run"] ["_law_sizes_here", "_law_length", "_law_blocks_here", "_law_cells"] (defScope (top 55)) := ⟨rfl, rfl, rfl, by decide +kernel, rfl, by decide +kernel, by decide +kernel⟩
theorem ok_lcho (T : Tx K mg) (D__law_pieces : Df P w K mg base 1 "_law_pieces" ["_law_sizes_here", "_law_cells"] spLpc) (D__law_free_runs : Df P w K mg base 2 "_law_free_runs" ["_law_sizes_here", "_law_length", "_law_blocks_here"] spFrL) (F : FnP K "_law_chosen" "_law_chosen" (top 55) f fd) : FnOk P w K mg base CX0 3 f fd ["_law_sizes_here", "_law_length", "_law_blocks_here", "_law_cells"] spLCho := by
  refine F.ok sc__law_chosen (fun vs H Q E h => ?_) (fun cdv A outer s H vs Q E hr h => ⟨_, PSs.nox (pss_cons (ps_par (by rfl) sc__law_chosen.nd (i := 5) (j := 6) rfl rfl (by decide) rfl rfl (pa_cons (pe_callTy call_list_of (by rfl) T.n_list (by decide +kernel) (pa_cons (pv 2) pa_nil)) (pa_cons (pe_lst pa_nil) pa_nil)) (by rfl)) (pss_cons (ps_for PassesOwn.never rfl (pi_list (pcall D__law_pieces hr (pa_cons (pv 0) (pa_cons (pv 3) pa_nil)))) (pg_name (i := 4) sc__law_chosen.nd rfl (by first | exact Or.inl rfl | exact Or.inr rfl)) (pss_cons (ps_setLc (i := 7) (own := [("_law_run", 8)]) (g := gName 8) rfl sc__law_chosen.nd rfl rfl (sw_true rfl rfl rfl (by decide +kernel)) (pi_list (pcall D__law_free_runs hr (pa_cons (pv 0) (pa_cons (pv 1) (pa_cons (pv 5) pa_nil))))) (blkOk_by (own := [("_law_run", 8)]) (N := ["_law_sizes_here", "_law_length", "_law_blocks_here", "_law_cells", "_law_level", "_law_now", "_law_result", "_law_places", "_law_run"]) (sc := defScope (top 55)) (by decide +kernel)) (fun _ _ _ _ _ => pg_name (i := 8) sc__law_chosen.nd rfl (Or.inl rfl)) (fun _ _ _ _ _ => (pts_one (pt_cmpR op_ge (pe_ix (r := rIxT K) ix_tup (pv 8) pe_int (fun _ _ => rfl)) (pv 4) (nomark _)))) (fun _ _ _ _ _ => (pe_tup (pa_cons (pe_ix (r := rIxT K) ix_tup (pv 8) pe_int (fun _ _ => rfl)) (pa_cons (pe_ix (r := rIxT K) ix_tup (pv 8) pe_int (fun _ _ => rfl)) pa_nil))))) (pss_cons (ps_if (pt_cmpR (op_eqNil hr.units) (pv 7) (pe_lst pa_nil) (nomark _)) (pss_one (ps_ret pe_non)) pss_nil) (pss_cons (ps_expr (pe_bm PySem.F.plainAttrs_list PySem.F.slot_list_append PySem.F.type_list_append mt_append (pv 6) (pa_cons (pe_ix (r := rIxT K) ix_tup (pe_callB (cr_minP rfl hr.units) (by rfl) T.n_min (by decide +kernel) (pa_cons (pv 7) pa_nil)) pe_int (fun _ _ => rfl)) pa_nil))) (pss_one (ps_expr (pe_bm PySem.F.plainAttrs_list PySem.F.slot_list_append PySem.F.type_list_append mt_append (pv 5) (pa_cons (pe_tup (pa_cons (pe_ix ix_list (pv 6) (pe_un un_neg pe_int) (fun _ _ => rfl)) (pa_cons (pv 4) (pa_cons pe_bl pa_nil)))) pa_nil)))))))) (pss_one (ps_ret (pv 6))))), ?_⟩)
  · obtain ⟨s, a, ns, n, c, qs, bs, rfl, _⟩ := h
    rfl
  · obtain ⟨s, a, ns, n, c, qs, bs, rfl, hs, g, ha, rf, un, n0, n9, b130, c0, c64, qN, qS⟩ := h
    have sl : sizeLine = 16777216 := sizeLine_eq
    have pl := pc_len g c0 c64
    obtain ⟨pk1, pk2⟩ := pc_in (c := c) g
    refine ⟨_, rfl, a, _, rfl, .inl (SqL.of ha), fun N hN => ⟨(by show 0 ≤ sizeLine; decide), fun R hR => ⟨_, _, rfl, ?_⟩⟩⟩
    have s1 := same_upd (o := .lst (qs.map V.ref)) hN
    have kN : (upd H N (.lst (qs.map V.ref))) N = some (.lst (qs.map V.ref)) := upd_same
    have s2 := same_upd (o := .lst []) hR
    have nNR : N ≠ R := ne_of_none kN hR
    have kN2 := s2 _ _ kN
    have kR2 : (upd (upd H N (.lst (qs.map V.ref))) R (.lst [])) R = some (.lst (([] : List Int).map V.int)) := upd_same
    have hRH : H R = none := s1.free hR
    have s12 := s1.trans s2
    generalize upd (upd H N (.lst (qs.map V.ref))) R (.lst []) = H1 at kN2 kR2 s12 s2
    refine ⟨_, rfl, _, rfl, s, ns, c, rfl, s12 _ _ hs, g, c0, c64, fun LV H2 hLV s3 kLV => ?_⟩
    rw [List.map_map] at kLV
    have s13 := s12.trans s3
    have kN3 := s3 _ _ kN2
    have kR3 := s3 _ _ kR2
    have nLN : LV ≠ N := fun z => by rw [z, kN2] at hLV; cases hLV
    have nLR : LV ≠ R := fun z => by rw [z, kR2] at hLV; cases hLV
    refine ⟨LV, rfl, ⟨_, SqL.of kLV⟩, ?_⟩
    refine for_list (K := K) (a := LV) (xs := (pcN ns c).map (V.int ∘ fun k : Nat => (k : Int))) (fun i σ G => ∃ (x4 x7 x8 : Option V) (qs' : List Addr) (cs : List Blk) (as : List Int), σ = [some (.ref s), some (.int n), some (.ref a), some (.int c), x4, some (.ref N), some (.ref R), x7, x8] ∧ Same H G ∧ G LV = some (.lst ((pcN ns c).map (V.int ∘ fun k : Nat => (k : Int)))) ∧ G N = some (.lst (qs'.map V.ref)) ∧ Refs blkV G qs' cs ∧ G R = some (.lst (as.map V.int)) ∧ as.length = i ∧ cs.length = bs.length + i ∧ Un ns n cs ∧ ∀ o, ChO ns n cs ((pcN ns c).drop i) o → ChO ns n bs (pcN ns c) (o.map (as ++ ·)))
      ⟨none, none, none, qs, bs, [], rfl, s13, kLV, kN3, rf.same s13, kR3, rfl, rfl, un, fun o h => by cases o <;> exact h⟩ (fun i σ G _ ⟨_, _, _, _, _, _, _, _, h, _⟩ => SqL.of h) ?_ ?_
    · rintro i v σ G hv ⟨x4, x7, x8, qs', cs, as, rfl, sG, kL, kNG, rfG, kRG, al, cl, unG, cho⟩
      obtain ⟨k, hk, rfl⟩ : ∃ k : Nat, (pcN ns c)[i]? = some k ∧ v = .int (k : Nat) := by
        rw [List.getElem?_map] at hv
        cases e : (pcN ns c)[i]? with
        | none => rw [e] at hv; cases hv
        | some k => rw [e] at hv; cases hv; exact ⟨k, rfl, rfl⟩
      have kl := pk1 k (List.mem_of_getElem? hk)
      have il := (List.getElem?_eq_some_iff.mp hk).1
      have ed := drop_at hk
      refine ⟨_, rfl, _, rfl, _, rfl, s, N, ns, n, qs', cs, rfl, sG _ _ hs, g, kNG, rfG, unG, n0, n9, by omega, fun W ps rs G1 hW sW kW rfr FO rl2 => ?_⟩
      have kLW := sW _ _ kL
      have kNW := sW _ _ kNG
      have kRW := sW _ _ kRG
      have rfW := rfG.same sW
      have sGW := sG.trans sW
      refine ⟨W, rfl, ⟨_, SqL.of kW⟩, fun D hD => ?_⟩
      have rl := rfr.len
      refine lc_list (K := K) (a := W) (xs := ps.map V.ref) (fun i G2 => ∃ ts, G2 D = some (.lst (ts.map V.ref)) ∧ Refs prV G2 ts (((rs.take i).filter fun r => decide (k ≤ r.1)).map fun r => ((r.1 : Int), r.2.1)) ∧ Same G1 G2) ⟨[], upd_same, .nil, same_upd hD⟩ (fun i G2 _ ⟨_, _, _, sm⟩ => SqL.of (sm _ _ kW)) ?_ ?_
      · rintro j x G2 hx ⟨ts, kD, tp, sm⟩
        obtain ⟨p, hp, rfl⟩ := ref_of hx
        obtain ⟨r, hrr, hT⟩ := (rfr.same sm).get hp
        have hT' : G2 p = some (.tup [.int (r.1 : Nat), .int r.2.1, .int r.2.2]) := hT
        have jl := (List.getElem?_eq_some_iff.mp hrr).1
        have fl := List.length_filter_le (fun r : M16.Run => decide (k ≤ r.1)) (rs.take j)
        rw [List.length_take] at fl
        have tl := tp.len
        rw [List.length_map] at tl
        refine ⟨rfl, _, rfl, p, _, _, _, rfl, rfl, .inl (.inl hT'), rfl, _, rfl, _, _, rfl, rfl, _, rfl, ?_⟩
        by_cases hk2 : k ≤ r.1
        · refine ifT (decide_eq_true (by omega)) ⟨_, rfl, p, _, _, _, rfl, rfl, .inl (.inl hT'), rfl, _, rfl, p, _, _, _, rfl, rfl, .inl (.inl hT'), rfl, (by show 2 ≤ sizeLine; decide), fun u hu => ?_⟩
          have nDu : D ≠ u := ne_of_none kD hu
          have kD4 := (same_upd (o := .tup [.int (r.1 : Nat), .int r.2.1]) hu) _ _ kD
          have e4 : ((rs.take (j + 1)).filter fun r => decide (k ≤ r.1)).map (fun r => ((r.1 : Int), r.2.1)) = ((rs.take j).filter fun r => decide (k ≤ r.1)).map (fun r => ((r.1 : Int), r.2.1)) ++ [((r.1 : Int), r.2.1)] := by
            rw [filter_atG _ hrr, if_pos (decide_eq_true hk2), List.map_append]
            rfl
          refine ⟨_, kD4, (by rw [List.length_map]; omega), ts ++ [u], ?_, ?_, ?_⟩
          · rw [upd_same, List.map_append]
            rfl
          · rw [e4]
            exact Refs.more (f := prV) (u := ((r.1 : Int), r.2.1)) tp kD hu
          · intro x o e
            rw [upd_ne (ne_of_none e hD)]
            exact same_upd hu _ _ (sm _ _ e)
        · refine ifF (decide_eq_false (by omega)) ⟨ts, kD, ?_, sm⟩
          rw [filter_atG _ hrr, if_neg (by rw [decide_eq_true_eq]; omega), List.append_nil]
          exact tp
      · rintro G2 ⟨ts, kD, tp, sm⟩
        rw [List.length_map, rl, List.take_length] at tp
        refine go_nm (nx_of (σ' := [some (.ref s), some (.int n), some (.ref a), some (.int c), some (.int (k : Nat)), some (.ref N), some (.ref R), some (.ref D), x8]) rfl ?_)
        have kL2 := sm _ _ kLW
        have kN2' := sm _ _ kNW
        have kR2' := sm _ _ kRW
        have rf2' := rfW.same sm
        have sG2 := sGW.trans sm
        have tl := tp.len
        have fl := List.length_filter_le (fun r : M16.Run => decide (k ≤ r.1)) rs
        rw [List.length_map] at tl
        refine ⟨_, rfl, (by show 0 ≤ sizeLine; decide), fun E2 hE2 => ?_⟩
        have s5 := same_upd (o := .lst []) hE2
        have kE2 : (upd G2 E2 (.lst [])) E2 = some (.lst []) := upd_same
        have kD5 := s5 _ _ kD
        have kL5 := s5 _ _ kL2
        have kN5 := s5 _ _ kN2'
        have kR5 := s5 _ _ kR2'
        have rf5 := rf2'.same s5
        have tp5 := tp.same s5
        have sG5 := sG2.trans s5
        generalize upd G2 E2 (.lst []) = G5 at kE2 kD5 kL5 kN5 kR5 rf5 tp5 sG5
        refine ⟨D, E2, _, rfl, rfl, SqL.of kD5, SqL.of kE2, _, rfl, ?_⟩
        by_cases hz : (ts.map V.ref).length = 0
        · refine iteT' (decide_eq_true hz) ?_
          rw [List.length_map] at hz
          refine qN _ ?_ sG5
          have nr : NoR ns n cs k := FO.none g fun r hr h => by
            have h1 : r ∈ rs.filter fun r => decide (k ≤ r.1) := List.mem_filter.mpr ⟨hr, decide_eq_true h⟩
            have h2 := List.length_pos_of_mem h1
            omega
          have := cho none (by rw [ed]; exact ChO.no nr)
          exact this
        · refine iteF' (decide_eq_false hz) ?_
          rw [List.length_map] at hz
          have ne : ((rs.filter fun r => decide (k ≤ r.1)).map fun r => ((r.1 : Int), r.2.1)) ≠ [] := fun z => by
            have := congrArg List.length z
            rw [List.length_map] at this
            have e0 : ([] : List (Int × Int)).length = 0 := rfl
            omega
          refine ⟨_, rfl, .inl ⟨rfl, _, SqL.of kR5⟩, _, rfl, D, ts, _, rfl, SqL.of kD5, tp5, ne, fun q m hm hq le => ?_⟩
          obtain ⟨r, hr, rfl⟩ := List.mem_map.mp hm
          obtain ⟨hr1, hr2⟩ := List.mem_filter.mp hr
          have kr := of_decide_eq_true hr2
          have best : Best ns n cs k r.2.1 := FO.best g hr1 kr fun q hq1 hq2 => by
            have := le ((q.1 : Int), q.2.1) (List.mem_map.mpr ⟨q, List.mem_filter.mpr ⟨hq1, decide_eq_true hq2⟩, rfl⟩)
            unfold leP at this
            have h1 : (((r.1 : Nat) : Int) < ((q.1 : Nat) : Int)) ∨ (((r.1 : Nat) : Int) = ((q.1 : Nat) : Int) ∧ r.2.1 ≤ q.2.1) := this
            omega
          have hq' : G5 q = some (.tup [.int (r.1 : Nat), .int r.2.1]) := hq
          refine ⟨q, _, _, _, rfl, rfl, .inl (.inl hq'), rfl, R, _, _, rfl, rfl, kR5, (by rw [List.length_map]; omega), ?_⟩
          have kR6 : (upd G5 R (.lst (as.map V.int ++ [.int r.2.1]))) R = some (.lst ((as ++ [r.2.1]).map V.int)) := by
            rw [upd_same, List.map_append]
            rfl
          have kp6 : ∀ {x : Addr} {o : HO}, x ≠ R → G5 x = some o → (upd G5 R (.lst (as.map V.int ++ [.int r.2.1]))) x = some o := fun {x o} nx e => by
            rw [upd_ne nx]
            exact e
          have kL6 := kp6 nLR kL5
          have kN6 := kp6 nNR kN5
          have rf6 : Refs blkV (upd G5 R (.lst (as.map V.int ++ [.int r.2.1]))) qs' cs := rf5.mono fun p xs e => kp6 (fun z => by rw [z, kR5] at e; cases e) e
          have sG6 : Same H (upd G5 R (.lst (as.map V.int ++ [.int r.2.1]))) := fun x o e => kp6 (fun z => by rw [z, hRH] at e; cases e) (sG5 _ _ e)
          generalize upd G5 R (.lst (as.map V.int ++ [.int r.2.1])) = G6 at kR6 kL6 kN6 rf6 sG6
          refine ⟨_, rfl, .inl ⟨rfl, _, SqL.of kN6⟩, _, rfl, _, rfl, R, _, _, _, rfl, rfl, SqL.of kR6, at_last _ _, _, rfl, (by show 3 ≤ sizeLine; decide), fun u hu => ?_⟩
          have s7 := same_upd (o := .tup [.int r.2.1, .int (k : Nat), .bl false]) hu
          have ql := rf6.len
          have hNH : H N = none := hN
          refine ⟨N, _, _, rfl, rfl, s7 _ _ kN6, (by rw [List.length_map]; omega), ?_⟩
          refine ⟨_, _, _, qs' ++ [u], cs ++ [(r.2.1, k, false)], as ++ [r.2.1], rfl, ?_, ?_, ?_, Refs.more (f := blkV) (u := (r.2.1, k, false)) rf6 kN6 hu, ?_, ?_, ?_, unG.more (best.fr g), ?_⟩
          · intro x o e
            rw [upd_ne (ne_of_none e hNH)]
            exact s7 _ _ (sG6 _ _ e)
          · rw [upd_ne nLN]
            exact s7 _ _ kL6
          · rw [upd_same, List.map_append]
            rfl
          · rw [upd_ne nNR.symm]
            exact s7 _ _ kR6
          · rw [List.length_append]
            exact congrArg (· + 1) al
          · rw [List.length_append, cl]
            show bs.length + i + 1 = bs.length + (i + 1)
            omega
          · intro o h
            have := cho (o.map (r.2.1 :: ·)) (by rw [ed]; exact ChO.cons best h)
            have e : (o.map (r.2.1 :: ·)).map (as ++ ·) = o.map (as ++ [r.2.1] ++ ·) := by
              cases o with
              | none => rfl
              | some t =>
                show some (as ++ r.2.1 :: t) = some (as ++ [r.2.1] ++ t)
                rw [List.append_assoc]
                rfl
            rw [e] at this
            exact this
    · rintro σ G ⟨x4, x7, x8, qs', cs, as, rfl, sG, kL, kNG, rfG, kRG, al, cl, unG, cho⟩
      rw [List.length_map] at al
      refine ⟨_, rfl, ?_⟩
      have := cho (some []) (by rw [List.length_map, List.drop_length]; exact ChO.nil)
      have e : (some []).map (as ++ ·) = some as := by
        show some (as ++ []) = some as
        rw [List.append_nil]
      rw [e] at this
      exact qS as R G this al hRH sG kRG
end
end K44

set_option Elab.async false
set_option linter.all false
set_option maxRecDepth 100000
set_option maxHeartbeats 1600000
/-! Mathematics: at most five pieces of each level. -/
namespace K44
open PySem PySem.Spec PyProof.Rows L2 Gu Ex
/-- so many cells, with at most five pieces of each level -/
def W (s : Nat → Int) : Nat → Int → Int
  | 0, _ => 0
  | m + 1, n => (if n / s m < 5 then n / s m else 5) * s m + W s m (n % s m)
theorem W_ok {s : Nat → Int} : ∀ m, (∀ k, k < m → 1 ≤ s k) → ∀ n, 0 ≤ n → 0 ≤ W s m n ∧ W s m n ≤ n ∧ 0 ≤ M13.F s m (W s m n) ∧ M13.F s m (W s m n) ≤ 5 * m
  | 0, _, n, hn => ⟨Int.le_refl _, hn, Int.le_refl _, Int.le_refl _⟩
  | m + 1, p, n, hn => by
    have pm := p m (by omega)
    have r0 := Int.emod_nonneg n (show s m ≠ 0 by omega)
    have r1 := Int.emod_lt_of_pos n (show 0 < s m by omega)
    have e := Int.mul_ediv_add_emod n (s m)
    have q0 : 0 ≤ n / s m := Int.ediv_nonneg hn (by omega)
    obtain ⟨h1, h2, h3, h4⟩ := W_ok m (fun k hk => p k (by omega)) (n % s m) r0
    have d0 : 0 ≤ (if n / s m < 5 then n / s m else 5) ∧ (if n / s m < 5 then n / s m else 5) ≤ n / s m ∧ (if n / s m < 5 then n / s m else 5) ≤ 5 := by split <;> omega
    have eW : W s (m + 1) n = (if n / s m < 5 then n / s m else 5) * s m + W s m (n % s m) := rfl
    rw [eW]
    generalize (if n / s m < 5 then n / s m else 5) = d at d0
    obtain ⟨a1, a2, a3⟩ := d0
    have m1 := Int.mul_nonneg a1 (show 0 ≤ s m by omega)
    have m2 := Int.mul_le_mul_of_nonneg_right a2 (show 0 ≤ s m by omega)
    rw [Int.mul_comm (n / s m)] at m2
    have f1 : (d * s m + W s m (n % s m)) / s m = d := by
      rw [Int.add_comm, Int.add_mul_ediv_right _ _ (show s m ≠ 0 by omega), Int.ediv_eq_zero_of_lt h1 (by omega)]
      omega
    have f2 : (d * s m + W s m (n % s m)) % s m = W s m (n % s m) := by
      rw [Int.add_comm, Int.add_mul_emod_self_right, Int.emod_eq_of_lt h1 (by omega)]
    refine ⟨by omega, by omega, ?_, ?_⟩
    · show 0 ≤ (d * s m + W s m (n % s m)) / s m + M13.F s m ((d * s m + W s m (n % s m)) % s m)
      rw [f1, f2]
      omega
    · show (d * s m + W s m (n % s m)) / s m + M13.F s m ((d * s m + W s m (n % s m)) % s m) ≤ 5 * ((m + 1 : Nat) : Int)
      rw [f1, f2]
      omega
theorem F_one {s : Nat → Int} : ∀ m, (∀ k, k < m → 1 ≤ s k) → M13.F s m 1 ≤ 1
  | 0, _ => (by show (0 : Int) ≤ 1; decide)
  | m + 1, p => by
    have pm := p m (by omega)
    have ih := F_one m (fun k hk => p k (by omega))
    show 1 / s m + M13.F s m (1 % s m) ≤ 1
    by_cases h : s m = 1
    · rw [h, show (1 : Int) / 1 = 1 by decide, show (1 : Int) % 1 = 0 by decide, M13.F_zero]
      decide
    · rw [Int.ediv_eq_zero_of_lt (by decide) (show 1 < s m by omega), Int.emod_eq_of_lt (by decide) (show 1 < s m by omega)]
      omega
theorem W_up {s : Nat → Int} {B : Int} (hB : 1 ≤ B) : ∀ m, (∀ k, k < m → 1 ≤ s k ∧ s k ≤ B) → ∀ n, W s m n ≤ 5 * m * B
  | 0, _, n => (by show (0 : Int) ≤ 5 * ((0 : Nat) : Int) * B; simp)
  | m + 1, p, n => by
    obtain ⟨pm, pb⟩ := p m (by omega)
    have ih := W_up hB m (fun k hk => p k (by omega)) (n % s m)
    have eW : W s (m + 1) n = (if n / s m < 5 then n / s m else 5) * s m + W s m (n % s m) := rfl
    have d : (if n / s m < 5 then n / s m else 5) ≤ 5 := by split <;> omega
    have m1 := Int.mul_le_mul_of_nonneg_right d (show 0 ≤ s m by omega)
    have e2 : 5 * (((m + 1 : Nat) : Int)) * B = 5 * (m : Int) * B + 5 * B := by
      rw [Int.natCast_add, Int.mul_add, Int.add_mul]
      rfl
    rw [eW, e2]
    omega
def fewI (ns : List Int) (c : Int) : Int := if W (sz ns) ns.length c > 1 then W (sz ns) ns.length c else 1
theorem few_ok {ns : List Int} {c : Int} (g : Good ns) (hc : 1 ≤ c) : 1 ≤ fewI ns c ∧ fewI ns c ≤ c ∧ (cnts ns (fewI ns c)).sum ≤ 40 := by
  have ch := chain g
  have l8 := g.len
  have p : ∀ k, k < ns.length → 1 ≤ sz ns k := fun k hk => by have := ch.pos k hk; omega
  obtain ⟨h1, h2, h3, h4⟩ := W_ok (s := sz ns) ns.length p c (by omega)
  have o := F_one (s := sz ns) ns.length p
  have fs : ∀ x, (cnts ns x).sum = M13.F (sz ns) ns.length x := fun x => M13.F_sum ns.length x ch
  rw [fs]
  unfold fewI
  split
  · omega
  · omega
theorem few_up {ns : List Int} {c : Int} (g : Good ns) : fewI ns c ≤ 40000000000 := by
  have ch := chain g
  have l8 := g.len
  have u := W_up (s := sz ns) (B := 1000000000) (by decide) ns.length (fun k hk => by
    have := ch.pos k hk
    have := sz_le g hk
    omega) c
  unfold fewI
  split
  · omega
  · omega
end K44

set_option Elab.async false
set_option linter.all false
set_option maxRecDepth 100000
set_option maxHeartbeats 1600000
set_option pp.maxSteps 1200
namespace K44
open PySem PySem.Spec PyProof.Rows L2 Gu Ex
theorem go_nmK {i : Nat} {x : V} {σ σ' : List (Option V)} {H : Hp} {Q : List (Option V) → Hp → Prop} (e : σ.set i (some x) = σ') (h : Q σ' H) : gName i x σ H Q := by
  show Q (σ.set i (some x)) H
  rw [e]
  exact h
section
variable {P : Program} {w : World} {K : PySem.W.Frag} {mg : Str → Option Value} {base : Heap} {f : Addr} {fd : FuncData}
def spFew : Sp := fun vs H Q _ => ∃ (s : Addr) (ns : List Int) (c : Int), vs = [.ref s, .int c] ∧ H s = some (.lst (ns.map V.int)) ∧ Good ns ∧ 1 ≤ c ∧ c ≤ 1000000000000000000 ∧ ∀ H', Same H H' → Q (.int (fewI ns c)) H'
theorem sc__law_few : FnScope ["_law_sizes_here", "_law_cells", "_law_size", "_law_result", "_law_rest"] ["_law_sizes_here", "_law_cells"] (defScope (top 58)) := ⟨rfl, rfl, rfl, by decide +kernel, rfl, by decide +kernel, by decide +kernel⟩
theorem ok_few (T : Tx K mg) (F : FnP K "_law_few" "_law_few" (top 58) f fd) : FnOk P w K mg base CX0 1 f fd ["_law_sizes_here", "_law_cells"] spFew := by
  refine F.ok sc__law_few (fun vs H Q E h => ?_) (fun cdv A outer s H vs Q E hr h => ⟨_, PSs.nox (pss_cons (ps_par (by rfl) sc__law_few.nd (i := 3) (j := 4) rfl rfl (by decide) rfl rfl (pa_cons pe_int (pa_cons (pv 1) pa_nil)) (by rfl)) (pss_cons (ps_for PassesOwn.never rfl (pi_list (pe_revL (pv 0))) (pg_name (i := 2) sc__law_few.nd rfl (by first | exact Or.inl rfl | exact Or.inr rfl)) (pss_one (ps_par (by rfl) sc__law_few.nd (i := 3) (j := 4) rfl rfl (by decide) rfl rfl (pa_cons (pe_op op_add (pv 3) (pe_op op_mul (pe_callB (call_min2 rfl) (by rfl) T.n_min (by decide +kernel) (pa_cons pe_int (pa_cons (pe_op op_fdivW (pv 4) (pv 2)) pa_nil))) (pv 2))) (pa_cons (pe_op op_mod (pv 4) (pv 2)) pa_nil)) (by rfl)))) (pss_one (ps_ret (pe_callB (call_max2 rfl) (by rfl) T.n_max (by decide +kernel) (pa_cons pe_int (pa_cons (pv 3) pa_nil))))))), ?_⟩)
  · obtain ⟨s, ns, c, rfl, _⟩ := h
    rfl
  · obtain ⟨s, ns, c, rfl, hs, g, c1, c2, q⟩ := h
    have sl : sizeLine = 16777216 := sizeLine_eq
    have ch := chain g
    have l8 := g.len
    have p : ∀ k, k < ns.length → 1 ≤ sz ns k := fun k hk => by have := ch.pos k hk; omega
    refine ⟨_, rfl, _, _, rfl, _, rfl, s, _, rfl, SqL.of hs, fun b hb => ?_⟩
    have s1 := same_upd (o := .lst (ns.map V.int).reverse) hb
    have kb : (upd H b (.lst (ns.map V.int).reverse)) b = some (.lst (ns.map V.int).reverse) := upd_same
    generalize upd H b (.lst (ns.map V.int).reverse) = H1 at s1 kb
    refine ⟨b, rfl, ⟨_, SqL.of kb⟩, ?_⟩
    refine for_list (K := K) (a := b) (xs := (ns.map V.int).reverse) (fun i σ G => G = H1 ∧ ∃ (x2 : Option V) (res rest : Int), σ = [some (.ref s), some (.int c), x2, some (.int res), some (.int rest)] ∧ 0 ≤ res ∧ 0 ≤ rest ∧ rest ≤ c ∧ res + W (sz ns) (ns.length - i) rest = W (sz ns) ns.length c) ⟨rfl, none, 0, c, rfl, Int.le_refl _, by omega, Int.le_refl _, by rw [Int.zero_add]; rfl⟩ (fun i σ G _ ⟨e, _⟩ => by rw [e]; exact SqL.of kb) ?_ ?_
    · rintro i v σ G hv ⟨rfl, x2, res, rest, rfl, r0, t0, t1, inv⟩
      have il : i < ns.length := by
        have := (List.getElem?_eq_some_iff.mp hv).1
        rw [List.length_reverse, List.length_map] at this
        exact this
      rw [List.getElem?_reverse (by rw [List.length_map]; exact il), List.length_map, List.getElem?_map, sz_at (show ns.length - 1 - i < ns.length by omega)] at hv
      obtain rfl := (Option.some.inj hv).symm
      have km : ns.length - 1 - i < ns.length := by omega
      have z1 := p _ km
      have z9 := sz_le g km
      have e1 : ns.length - i = (ns.length - 1 - i) + 1 := by omega
      rw [e1] at inv
      have eW : W (sz ns) ((ns.length - 1 - i) + 1) rest = (if rest / sz ns (ns.length - 1 - i) < 5 then rest / sz ns (ns.length - 1 - i) else 5) * sz ns (ns.length - 1 - i) + W (sz ns) (ns.length - 1 - i) (rest % sz ns (ns.length - 1 - i)) := rfl
      rw [eW] at inv
      have q0 : 0 ≤ rest / sz ns (ns.length - 1 - i) := Int.ediv_nonneg t0 (by omega)
      have m0 := Int.emod_nonneg rest (show sz ns (ns.length - 1 - i) ≠ 0 by omega)
      have m1 : rest % sz ns (ns.length - 1 - i) ≤ rest := by
        have e := Int.mul_ediv_add_emod rest (sz ns (ns.length - 1 - i))
        have := Int.mul_nonneg (show 0 ≤ sz ns (ns.length - 1 - i) by omega) q0
        omega
      have d0 : 0 ≤ (if rest / sz ns (ns.length - 1 - i) < 5 then rest / sz ns (ns.length - 1 - i) else 5) ∧ (if rest / sz ns (ns.length - 1 - i) < 5 then rest / sz ns (ns.length - 1 - i) else 5) ≤ 5 := by split <;> omega
      have mm := Int.mul_nonneg d0.1 (show 0 ≤ sz ns (ns.length - 1 - i) by omega)
      refine go_nmK (σ' := [some (.ref s), some (.int c), some (.int (sz ns (ns.length - 1 - i))), some (.int res), some (.int rest)]) rfl ?_
      refine ⟨_, rfl, _, rfl, _, rfl, _, _, rfl, rfl, div_ok z1 z9, _, _, rfl, _, rfl, _, _, rfl, rfl, .inr ⟨by omega, by omega⟩, _, _, rfl, rfl, _, rfl, _, rfl, _, _, rfl, rfl, (by show (0 : Int) < sz ns _; omega), _, _, rfl, ?_⟩
      refine ⟨rfl, _, _, _, rfl, by omega, m0, by omega, ?_⟩
      rw [show ns.length - (i + 1) = ns.length - 1 - i by omega]
      show res + (if rest / sz ns (ns.length - 1 - i) < 5 then rest / sz ns (ns.length - 1 - i) else 5) * sz ns (ns.length - 1 - i) + W (sz ns) (ns.length - 1 - i) (rest % sz ns (ns.length - 1 - i)) = _
      omega
    · rintro σ G ⟨rfl, x2, res, rest, rfl, r0, t0, t1, inv⟩
      rw [List.length_reverse, List.length_map, Nat.sub_self] at inv
      have e : res = W (sz ns) ns.length c := by
        have : res + 0 = W (sz ns) ns.length c := inv
        omega
      refine ⟨_, rfl, _, _, rfl, ?_⟩
      rw [e]
      exact q G s1
end
end K44

set_option Elab.async false
set_option linter.all false
set_option maxRecDepth 100000
set_option maxHeartbeats 1600000
set_option pp.maxSteps 1200
namespace K44
open PySem PySem.Spec PyProof.Rows L2 Gu Ex
section
variable {P : Program} {w : World} {K : PySem.W.Frag} {mg : Str → Option Value} {base : Heap} {f : Addr} {fd : FuncData}
def spEno : Sp := fun vs H Q _ => ∃ (s a : Addr) (ns : List Int) (n c : Int) (ps : List Addr) (bs : List Blk), vs = [.ref s, .int n, .ref a, .int c] ∧ H s = some (.lst (ns.map V.int)) ∧ Bl ns H a ps bs ∧ Good ns ∧ bs.length < 1000 ∧ ∀ H' b, Same H H' → (b = true ↔ ∀ j, j < ns.length → ¬ untI ns n bs j < c - c % sz ns j) → Q (.bl b) H'
theorem sc__law_are_enough : FnScope ["_law_sizes_here", "_law_length", "_law_blocks_here", "_law_cells", "_law_level", "_law_size"] ["_law_sizes_here", "_law_length", "_law_blocks_here", "_law_cells"] (defScope (top 59)) := ⟨rfl, rfl, rfl, by decide +kernel, rfl, by decide +kernel, by decide +kernel⟩
theorem ok_enough (T : Tx K mg) (D__law_untouched : Df P w K mg base 1 "_law_untouched" ["_law_sizes_here", "_law_length", "_law_blocks_here", "_law_level"] spUnt) (D__law_whole : Df P w K mg base 1 "_law_whole" ["_law_cells", "_law_size"] spLW) (F : FnP K "_law_are_enough" "_law_are_enough" (top 59) f fd) : FnOk P w K mg base CX0 2 f fd ["_law_sizes_here", "_law_length", "_law_blocks_here", "_law_cells"] spEno := by
  refine F.ok sc__law_are_enough (fun vs H Q E h => ?_) (fun cdv A outer s H vs Q E hr h => ⟨_, PSs.nox (pss_cons (ps_for PassesOwn.never rfl (pi_enum rfl T.n_enumerate (pa_cons (pv 0) pa_nil)) (pg_tup (by rfl) (pgs_cons (pg_name (i := 4) sc__law_are_enough.nd rfl (by first | exact Or.inl rfl | exact Or.inr rfl)) (pgs_cons (pg_name (i := 5) sc__law_are_enough.nd rfl (by first | exact Or.inl rfl | exact Or.inr rfl)) pgs_nil))) (pss_one (ps_if (pt_cmpR op_lt (pcall D__law_untouched hr (pa_cons (pv 0) (pa_cons (pv 1) (pa_cons (pv 2) (pa_cons (pv 4) pa_nil))))) (pcall D__law_whole hr (pa_cons (pv 3) (pa_cons (pv 5) pa_nil))) (nomark _)) (pss_one (ps_ret pe_bl)) pss_nil))) (pss_one (ps_ret pe_bl))), ?_⟩)
  · obtain ⟨s, a, ns, n, c, ps, bs, rfl, _⟩ := h
    rfl
  · obtain ⟨s, a, ns, n, c, ps, bs, rfl, hs, B, g, b1000, q⟩ := h
    refine ⟨_, rfl, s, _, rfl, SqL.of hs, ?_⟩
    refine for_it (walk_enum (xs := ns.map V.int)) (fun i σ G => Same H G ∧ (∀ j, j < i → ¬ untI ns n bs j < c - c % sz ns j) ∧ (∃ x y, σ = [some (.ref s), some (.int n), some (.ref a), some (.int c), x, y])) ⟨Same.refl H, (fun j hj => absurd hj (Nat.not_lt_zero _)), none, none, rfl⟩ (fun i σ G _ hh => SqL.of (hh.1 _ _ hs)) ?_ ?_
    · rintro i x σ G G2 hi ⟨sm, ok, ⟨x1, x2, rfl⟩⟩ ⟨T', y1, y2, rfl, hT, rfl, e1, e2⟩
      cases e1
      rw [List.length_map] at hi
      replace e2 : (ns.map V.int)[i]? = some y2 := e2
      rw [List.getElem?_map, sz_at hi] at e2
      obtain rfl := (Option.some.inj e2).symm
      have z1 := (chain g).pos i hi
      have s2 := sm.trans (same_upd (o := .tup [.int (i : Nat), .int (sz ns i)]) hT)
      refine ⟨T', _, rfl, .inl (.inl upd_same), rfl, _, _, rfl, _, _, rfl, rfl, ?_⟩
      generalize upd G T' (.tup [.int (i : Nat), .int (sz ns i)]) = G2 at s2
      refine ⟨_, rfl, _, rfl, _, rfl, _, rfl, s, a, ns, n, ps, bs, i, rfl, s2 _ _ hs, B.same s2, g, hi, b1000, fun G3 s3 => ?_⟩
      refine ⟨_, rfl, _, rfl, c, _, rfl, z1, _, _, rfl, rfl, _, rfl, ?_⟩
      have s23 := s2.trans s3
      by_cases hc : untI ns n bs i < c - c % sz ns i
      · exact ifT (decide_eq_true hc) (q G3 false s23 ⟨fun z => (nomatch z), fun z => absurd hc (z i hi)⟩)
      · refine ifF (decide_eq_false hc) ⟨s23, fun j hj => ?_, _, _, rfl⟩
        rcases Nat.lt_or_ge j i with h | h
        · exact ok j h
        · rw [show j = i by omega]
          exact hc
    · rintro σ G ⟨sm, ok, ⟨x1, x2, rfl⟩⟩
      rw [List.length_map] at ok
      exact q G true sm ⟨fun _ => ok, fun _ => rfl⟩
end
end K44

set_option Elab.async false
set_option linter.all false
set_option maxRecDepth 100000
set_option maxHeartbeats 1600000
set_option pp.maxSteps 1200
namespace K44
open PySem PySem.Spec PyProof.Rows L2 Gu Ex
section
variable {P : Program} {w : World} {K : PySem.W.Frag} {mg : Str → Option Value} {base : Heap} {f : Addr} {fd : FuncData}
def spFar : Sp := fun vs H Q _ => ∃ (r : Addr), vs = [.ref r] ∧ Rng H r ∧
  ∀ l ns H', Good ns → H l = none → H' l = some (.lst (ns.map V.int)) → Stp r H H' → Q (.ref l) H'
theorem sc__law_far_sizes : FnScope ["_law_rng_here", "_law_result", "_law_k", "_law_factor"] ["_law_rng_here"] (defScope (top 57)) := ⟨rfl, rfl, rfl, by decide +kernel, rfl, by decide +kernel, by decide +kernel⟩
theorem ok_far (T : Tx K mg) (D__law_draw : Df P w K mg base 1 "_law_draw" ["_law_rng_here", "_law_many"] spDraw) (F : FnP K "_law_far_sizes" "_law_far_sizes" (top 57) f fd) :
    FnOk P w K mg base CX0 2 f fd ["_law_rng_here"] spFar := by
  refine F.ok sc__law_far_sizes (fun vs H Q E h => ?_) (fun cdv A outer s H vs Q E hr h => ⟨_, PSs.nox (pss_cons (ps_set (i := 1) sc__law_far_sizes.nd rfl (by first | exact Or.inl rfl | exact Or.inr rfl) (pe_lst (pa_cons pe_int pa_nil))) (pss_cons (ps_for PassesOwn.never rfl (pi_range1 rfl T.n_range (pa_cons (pe_op op_add pe_int (pcall D__law_draw hr (pa_cons (pv 0) (pa_cons pe_int pa_nil)))) pa_nil)) (pg_name (i := 2) sc__law_far_sizes.nd rfl (by first | exact Or.inl rfl | exact Or.inr rfl)) (pss_cons (ps_set (i := 3) sc__law_far_sizes.nd rfl (by first | exact Or.inl rfl | exact Or.inr rfl) (pe_ix ix_list (pe_lst (pa_cons pe_int (pa_cons pe_int (pa_cons pe_int (pa_cons (pe_op op_add pe_int (pcall D__law_draw hr (pa_cons (pv 0) (pa_cons (pe_op op_pow pe_int pe_int) pa_nil)))) (pa_cons (pe_op op_pow pe_int pe_int) pa_nil)))))) (pcall D__law_draw hr (pa_cons (pv 0) (pa_cons pe_int pa_nil))) (fun _ _ => rfl))) (pss_one (ps_if (pt_cmpR op_le (pe_op op_mul (pe_ix ix_list (pv 1) (pe_un un_neg pe_int) (fun _ _ => rfl)) (pv 3)) (pe_op op_pow pe_int pe_int) (nomark _)) (pss_one (ps_expr (pe_bm PySem.F.plainAttrs_list PySem.F.slot_list_append PySem.F.type_list_append mt_append (pv 1) (pa_cons (pe_op op_mul (pe_ix ix_list (pv 1) (pe_un un_neg pe_int) (fun _ _ => rfl)) (pv 3)) pa_nil)))) pss_nil)))) (pss_one (ps_ret (pv 1))))), ?_⟩)
  · obtain ⟨r, rfl, _⟩ := h
    rfl
  · obtain ⟨r, rfl, hR, q⟩ := h
    have big : (10 : Int) ^ 40 = 10000000000000000000000000000000000000000 := by decide
    refine ⟨(by show 1 ≤ sizeLine; decide), fun l hl => ?_⟩
    have nrl : r ≠ l := hR.ne hl
    have s0 : Stp r H (upd H l (.lst [.int 1])) := (Stp.refl hR).new hl
    refine ⟨_, rfl, r, 3, rfl, s0.1, by decide, by omega, fun d H1 d0 d1 s1 => ?_⟩
    refine ⟨_, _, rfl, rfl, 1 + d, rfl, by omega, by omega, ?_⟩
    have s01 := s0.trans s1
    refine for_range (fun i σ H' => ∃ ns x y, σ = [some (.ref r), some (.ref l), x, y] ∧ Good ns ∧ ns.length ≤ i + 1 ∧ H' l = some (.lst (ns.map V.int)) ∧ Stp r H H') ⟨[1], none, none, rfl, good_one, by simp, s1.2 l _ nrl.symm upd_same, s01⟩ ?_ ?_
    · rintro i σ H' hi ⟨ns, x, y, rfl, g, hlen, hL, st⟩
      have hi8 : i < 4 := by omega
      obtain ⟨ys, z, rfl⟩ := last_of g.len.1
      have zr := g.rng _ _ (last_get ys z)
      have e6 : (10 : Int) ^ (6 : Int).toNat = 1000000 := by decide
      have e5 : (10 : Int) ^ (5 : Int).toNat = 100000 := by decide
      refine ⟨_, rfl, _, _, rfl, rfl, ⟨by decide, by decide, by decide⟩, r, (10 : Int) ^ (6 : Int).toNat, rfl, st.1, by omega, by omega, fun d1 H1 a0 a1 t1 => ?_⟩
      have st1 := st.trans t1
      have hL1 : H1 l = some (.lst ((ys ++ [z]).map V.int)) := t1.2 l _ nrl.symm hL
      refine ⟨_, _, rfl, rfl, _, _, rfl, rfl, ⟨by decide, by decide, by decide⟩, (by show 5 ≤ sizeLine; decide), fun t ht => ?_⟩
      have st2 := st1.new (o := .lst [.int 2, .int 7, .int 1000, .int (2 + d1), .int ((10 : Int) ^ (5 : Int).toNat)]) ht
      have nrt : r ≠ t := st1.1.ne ht
      have hL2 : (upd H1 t (.lst [.int 2, .int 7, .int 1000, .int (2 + d1), .int ((10 : Int) ^ (5 : Int).toNat)])) l = some (.lst ((ys ++ [z]).map V.int)) := by rw [upd_ne (ne_of_none hL1 ht)]; exact hL1
      refine ⟨_, rfl, r, 5, rfl, st2.1, by decide, by omega, fun d2 H3 b0 b1 t3 => ?_⟩
      have st3 := st2.trans t3
      have hL3 : H3 l = some (.lst ((ys ++ [z]).map V.int)) := t3.2 l _ nrl.symm hL2
      obtain ⟨v, hv, hm⟩ := at_of (xs := [.int 2, .int 7, .int 1000, .int (2 + d1), .int ((10 : Int) ^ (5 : Int).toNat)]) b0 b1
      obtain ⟨k, rfl, k2, k9⟩ : ∃ k : Int, v = .int k ∧ 2 ≤ k ∧ k ≤ 1000002 := by
        simp only [List.mem_cons, List.not_mem_nil, or_false] at hm
        rcases hm with rfl | rfl | rfl | rfl | rfl
        · exact ⟨_, rfl, by omega, by omega⟩
        · exact ⟨_, rfl, by omega, by omega⟩
        · exact ⟨_, rfl, by omega, by omega⟩
        · exact ⟨_, rfl, by omega, by omega⟩
        · exact ⟨_, rfl, by omega, by omega⟩
      refine ⟨t, _, _, _, rfl, rfl, SqL.of (t3.2 t _ nrt.symm upd_same), hv, ?_⟩
      refine ⟨_, rfl, _, rfl, l, _, _, _, rfl, rfl, SqL.of hL3, at_last ys z, _, rfl, _, _, rfl, rfl, .inr ⟨by omega, by omega⟩, _, _, rfl, rfl, ⟨by decide, by decide, by decide⟩, _, _, rfl, rfl, _, rfl, ?_⟩
      by_cases hc : z * k ≤ 10 ^ (9 : Int).toNat
      · refine ifT (decide_eq_true hc) ?_
        refine ⟨_, rfl, .inl ⟨rfl, _, SqL.of hL3⟩, _, rfl, _, rfl, l, _, _, _, rfl, rfl, SqL.of hL3, at_last ys z, _, rfl, _, _, rfl, rfl, .inr ⟨by omega, by omega⟩, l, _, _, rfl, rfl, hL3, ?_, ?_⟩
        · exact small1000 (by rw [List.length_map]; omega)
        · have hc2 : z * k ≤ 1000000000 := hc
          refine ⟨(ys ++ [z]) ++ [z * k], _, _, rfl, good_more g (by omega) (last_get ys z) k2 hc2, by rw [List.length_append (bs := [z * k]), List.length_singleton]; omega, ?_, ?_⟩
          · rw [upd_same, List.map_append (l₂ := [z * k])]
            rfl
          · obtain ⟨⟨x1, x2, e1, e2⟩, kk⟩ := st3
            refine ⟨⟨x1, x2, by rw [upd_ne nrl]; exact e1, e2⟩, fun b o n e => ?_⟩
            rw [upd_ne (ne_of_none e hl)]
            exact kk b o n e
      · exact ifF (decide_eq_false hc) ⟨_, _, _, rfl, g, by omega, hL3, st3⟩
    · rintro σ H' ⟨ns, x, y, rfl, g, hlen, hL, st⟩
      exact ⟨_, rfl, q l ns H' g hl hL st⟩
end
end K44

set_option Elab.async false
set_option linter.all false
set_option maxRecDepth 100000
set_option maxHeartbeats 1600000
set_option pp.maxSteps 1200
namespace K44
open PySem PySem.Spec PyProof.Rows L2 Gu Ex
/-- all that a turn stands on -/
structure Al (K : PySem.W.Frag) (r s a y zp bl dx : Addr) (ps qs : List Addr) (ns : List Int) (n : Int) (bs : List Blk) (H : Hp) : Prop where
  rg : Rng H r
  hs : H s = some (.lst (ns.map V.int))
  ha : H a = some (.lst (qs.map V.ref))
  rf : Refs blkV H qs bs
  sr : s ≠ r
  ab : a ≠ bl
  L : Ly K H y zp bl dx ps ns n bs
  lr : ∃ dz l, H zp = some (.ins (He.ga K "Sizes") dz (szF l)) ∧ H l = some (.lst (ns.map V.int)) ∧ l ≠ bl ∧ l ≠ r
section
variable {K : PySem.W.Frag} {r s a y zp bl dx y2 bl2 dx2 : Addr} {ps qs ps2 : List Addr} {ns : List Int} {n : Int} {bs bs2 : List Blk} {H H' G G' : Hp}
theorem Rng.lst {p : Addr} {qs : List Addr} (h : Rng H r) (e : H p = some (.lst (qs.map V.ref))) : p ≠ r := fun z => by
  obtain ⟨x, y, e2, _⟩ := h
  rw [z, e2] at e
  cases qs with
  | nil => cases e
  | cons q qs => cases e
theorem Rng.tup {p : Addr} {xs : List V} (h : Rng H r) (e : H p = some (.tup xs)) : p ≠ r := fun z => by
  obtain ⟨x, y, e2, _⟩ := h
  rw [z, e2] at e
  cases e
theorem Rng.ins {p C d : Addr} {fs : List (Str × V)} (h : Rng H r) (e : H p = some (.ins C d fs)) : p ≠ r := fun z => by
  obtain ⟨x, y, e2, _⟩ := h
  rw [z, e2] at e
  cases e
theorem Al.step (A : Al K r s a y zp bl dx ps qs ns n bs H) (t : Stp r H H') : Al K r s a y zp bl dx ps qs ns n bs H' := by
  obtain ⟨dz, l, e1, e2, e3, e4⟩ := A.lr
  have k1 := t.2 _ _ (A.rg.ins e1) e1
  have k2 := t.2 _ _ e4 e2
  have mv : ∀ {ps : List Addr} {bs : List Blk}, Refs blkV H ps bs → Refs blkV H' ps bs := fun rf => rf.mono fun p xs e => t.2 p _ (A.rg.tup e) e
  exact ⟨t.1, t.2 _ _ A.sr A.hs, t.2 _ _ (A.rg.lst A.ha) A.ha, mv A.rf, A.sr, A.ab,
    ⟨t.2 _ _ (A.rg.ins A.L.at_) A.L.at_, ⟨dz, l, k1, k2⟩, t.2 _ _ (A.rg.lst A.L.lst) A.L.lst, mv A.L.rf, A.L.wf, A.L.gd, A.L.n1, A.L.n2, A.L.ln, ⟨dz, l, k1, k2, e3⟩⟩, ⟨dz, l, k1, k2, e3, e4⟩⟩
theorem Stp.same {H : Hp} (hR : Rng H r) (s : Same H H') : Stp r H H' := ⟨by
  obtain ⟨x, y, e, z⟩ := hR
  exact ⟨x, y, s _ _ e, z⟩, fun b o _ e => s b o e⟩
theorem Al.same (A : Al K r s a y zp bl dx ps qs ns n bs H) (t : Same H H') : Al K r s a y zp bl dx ps qs ns n bs H' := A.step (Stp.same A.rg t)
theorem ne_ir {p q : Addr} (h1 : H p = some (.lst (ns.map V.int))) (hn : 1 ≤ ns.length) (h2 : H q = some (.lst (qs.map V.ref))) : p ≠ q := fun z => by
  rw [z, h2] at h1
  cases ns with
  | nil => exact absurd hn (by decide)
  | cons i r =>
    cases qs with
    | nil => cases h1
    | cons q qs => cases h1
/-- another list of tuples changes -/
theorem Ly.one (L : Ly K G y zp bl dx ps ns n bs) (ha : G a = some (.lst (qs.map V.ref))) (ab : a ≠ bl) (hk : ∀ c o, c ≠ a → G c = some o → G' c = some o) : Ly K G' y zp bl dx ps ns n bs := by
  obtain ⟨dz, l, e1, e2, e3⟩ := L.ap
  have ya : y ≠ a := fun z => by
    have := L.at_
    rw [z, ha] at this
    cases this
  have za : zp ≠ a := fun z => by
    rw [z, ha] at e1
    cases e1
  have la := ne_ir e2 L.gd.len.1 ha
  have k1 := hk _ _ za e1
  have k2 := hk _ _ la e2
  exact ⟨hk _ _ ya L.at_, ⟨dz, l, k1, k2⟩, hk _ _ ab.symm L.lst, L.rf.mono fun c xs e => hk _ _ (fun z => by
    rw [z, ha] at e
    cases e) e, L.wf, L.gd, L.n1, L.n2, L.ln, ⟨dz, l, k1, k2, e3⟩⟩
/-- the layout changes, and the law's list a is set anew -/
theorem Al.laid {a2 : Addr} {qs2 : List Addr} (A : Al K r s a y zp bl dx ps qs ns n bs H) (bt : But2 y bl H H') (L' : Ly K H' y zp bl dx ps2 ns n bs2) (ha : H' a2 = some (.lst (qs2.map V.ref))) (rf : Refs blkV H' qs2 bs2) (ab : a2 ≠ bl) : Al K r s a2 y zp bl dx ps2 qs2 ns n bs2 H' := by
  obtain ⟨dz, l, e1, e2, e3, e4⟩ := A.lr
  have ry : r ≠ y := (A.rg.ins A.L.at_).symm
  have rb : r ≠ bl := (A.rg.lst A.L.lst).symm
  have sy : s ≠ y := fun z => by
    have := A.hs
    rw [z, A.L.at_] at this
    cases this
  have sb := ne_ir A.hs A.L.gd.len.1 A.L.lst
  have zy : zp ≠ y := fun z => by
    rw [z, A.L.at_] at e1
    have z3 := congrArg List.length (HO.ins.inj (Option.some.inj e1)).2.2
    cases z3
  have zb : zp ≠ bl := fun z => by
    rw [z, A.L.lst] at e1
    cases e1
  have ly : l ≠ y := fun z => by
    rw [z, A.L.at_] at e2
    cases e2
  obtain ⟨x, z, e5, e6⟩ := A.rg
  exact ⟨⟨x, z, bt _ _ ry rb e5, e6⟩, bt _ _ sy sb A.hs, ha, rf, A.sr, ab, L', ⟨dz, l, bt _ _ zy zb e1, bt _ _ ly e3 e2, e3, e4⟩⟩
end
section
variable {ns : List Int} {n : Int} {bs : List Blk}
/-- the pieces at their addresses -/
def zipB (ks : List Nat) (as : List Int) : List Blk := List.zipWith (fun k a => (a, k, false)) ks as
theorem ChO.fr (g : Good ns) {ks : List Nat} {bs : List Blk} {o : Option (List Int)} (h : ChO ns n bs ks o) : ∀ {as : List Int}, o = some as → as.length = ks.length ∧ ∀ i k a, ks[i]? = some k → as[i]? = some a → FrV ns n (bs ++ (zipB ks as).take i) k a := by
  induction h with
  | nil =>
    intro as e
    cases e
    exact ⟨rfl, fun i k a h1 => by cases h1⟩
  | no _ =>
    intro as e
    cases e
  | @cons bs k ks a o b c ih =>
    intro as e
    cases o with
    | none => cases e
    | some t =>
      have e2 : as = a :: t := (Option.some.inj e).symm
      subst e2
      obtain ⟨l, f⟩ := ih rfl
      refine ⟨congrArg (· + 1) l, fun i k' a' h1 h2 => ?_⟩
      cases i with
      | zero =>
        cases h1
        cases h2
        show FrV ns n (bs ++ []) k a
        rw [List.append_nil]
        exact b.fr g
      | succ i =>
        have := f i k' a' h1 h2
        have e3 : bs ++ (zipB (k :: ks) (a :: t)).take (i + 1) = (bs ++ [(a, k, false)]) ++ (zipB ks t).take i := by
          rw [List.append_assoc]
          rfl
        rw [e3]
        exact this
theorem zipB_len {ks : List Nat} {as : List Int} (h : as.length = ks.length) : (zipB ks as).length = ks.length := by
  unfold zipB
  rw [List.length_zipWith]
  omega
theorem zipB_at {ks : List Nat} {as : List Int} {i : Nat} {k : Nat} {a : Int} (h1 : ks[i]? = some k) (h2 : as[i]? = some a) : (zipB ks as)[i]? = some (a, k, false) := by
  unfold zipB
  rw [List.getElem?_zipWith, h1, h2]
theorem insB_perm {b : Blk} {i : Nat} : (insB bs i b).Perm (bs ++ [b]) := by
  unfold insB
  have e : bs.take i ++ [b] ++ bs.drop i = bs.take i ++ b :: bs.drop i := by simp
  first
    | rw [e]
    | skip
  refine List.perm_middle.trans ?_
  rw [List.take_append_drop]
  exact (List.perm_append_singleton b bs).symm
theorem FrV.free {k : Nat} {a : Int} (h : FrV ns n bs k a) {cs : List Blk} (p : cs.Perm bs) : FreeR ns cs a (a + sz ns k) := fun b hb => h.2.2.2.2 b (p.mem_iff.mp hb)
end
end K44

set_option Elab.async false
set_option linter.all false
set_option maxRecDepth 100000
set_option maxHeartbeats 1600000
set_option pp.maxSteps 1200
namespace K44
open PySem PySem.Spec PyProof.Rows L2 Gu Ex
/-- the cells of runs -/
def frI (ns : List Int) (rs : List M16.Run) : List Int := rs.map fun r => sz ns r.1 * r.2.2
theorem run_le {ns : List Int} {n : Int} {bs : List Blk} {rs : List M16.Run} (F : FrT ns n bs rs) (g : Good ns) {r : M16.Run} (hr : r ∈ rs) : r.1 < ns.length ∧ 1 ≤ r.2.2 ∧ r.2.2 ≤ n ∧ 0 ≤ sz ns r.1 * r.2.2 ∧ sz ns r.1 * r.2.2 ≤ n := by
  obtain ⟨h1, h2, h3, h4⟩ := F.snd r hr
  have z := (chain g).pos _ h1
  have s := run_size g h1 h3
  have t0 := (h4 r.2.1 (Int.le_refl _) (by omega)).1
  rw [fl_self h2] at t0
  obtain ⟨_, _, a0, _, _⟩ := t0
  have t1 := (h4 (r.2.1 + r.2.2 * sz ns r.1 - 1) (by omega) (by omega)).1
  obtain ⟨_, d, f0, f1, _⟩ := t1
  have gt := M16.fl_ge (x := r.2.1 + r.2.2 * sz ns r.1 - 1) (show 1 ≤ sz ns r.1 from z) (q := r.2.1 + r.2.2 * sz ns r.1 - sz ns r.1) (Int.dvd_sub (Int.dvd_add h2 (Int.dvd_mul_left _ _)) (Int.dvd_refl _)) (by omega)
  unfold fl at f0 f1
  have m1 := Int.mul_le_mul_of_nonneg_left z (show 0 ≤ r.2.2 by omega)
  rw [Int.mul_one] at m1
  rw [Int.mul_comm]
  refine ⟨h1, h3, by omega, by omega, by omega⟩
theorem sum_le {m : Int} : ∀ {l : List Int}, (∀ x ∈ l, 0 ≤ x ∧ x ≤ m) → 0 ≤ l.sum ∧ l.sum ≤ l.length * m
  | [], _ => ⟨Int.le_refl _, by simp⟩
  | x :: l, h => by
    obtain ⟨h1, h2⟩ := sum_le fun y hy => h y (List.mem_cons_of_mem _ hy)
    obtain ⟨h3, h4⟩ := h x List.mem_cons_self
    have e : (x :: l).sum = x + l.sum := rfl
    have e2 : (((x :: l).length : Nat) : Int) * m = m + (l.length : Int) * m := by
      rw [List.length_cons, Int.natCast_add, Int.add_mul]
      omega
    rw [e, e2]
    omega
section
variable {P : Program} {w : World} {K : PySem.W.Frag} {mg : Str → Option Value} {base : Heap} {f : Addr} {fd : FuncData}
theorem pc_le {ns : List Int} {c : Int} (g : Good ns) (c0 : 0 ≤ c) : ((pcN ns c).length : Int) ≤ (cnts ns c).sum := by
  have e := congrArg List.length (pcN_map ns c)
  rw [List.length_map] at e
  have h1 := (falls_nn g (n := c) c0 ns.length (Nat.le_refl _)).2
  have h2 := falls_le g (n := c) c0 (i := ns.length) (Nat.le_refl _)
  have e2 : (pcs ns c).length = (lvls ns c ns.length).length := rfl
  omega
theorem tqa_ints {H : Hp} : ∀ {as : List Int}, (∀ x ∈ as, 0 ≤ x ∧ x ≤ 1000000000000) → TqAll K H (as.map V.int) (as.map PyData.int) 0 41
  | [], _ => tqa_nil
  | x :: as, h => by
    have b39 : (10 : Int) ^ 39 = 1000000000000000000000000000000000000000 := by decide
    obtain ⟨h1, h2⟩ := h x List.mem_cons_self
    exact tqa_cons (tq_int (by omega) (by omega)) (tqa_ints fun y hy => h y (List.mem_cons_of_mem _ hy))
theorem ints_tq {H : Hp} {as : List Int} {l : Addr} (h : ∀ x ∈ as, 0 ≤ x ∧ x ≤ 1000000000000) (l64 : as.length ≤ 64) (k : H l = some (.lst (as.map V.int))) : Tq K H (.ref l) (.list (as.map PyData.int)) 2 4000 :=
  ((tqa_ints h).lst k).mono (by decide) (by rw [List.length_map]; omega)
theorem pair_tq {H : Hp} {d : PyData} {l m t : Addr} (h : Tq K H (.ref l) d 2 4000) (km : H m = some (.lst [])) (kt : H t = some (.tup [.ref m, .ref l])) : Tq K H (.ref t) (.tuple [.list [], d]) 3 9000 :=
  ((tqa_cons (((tqa_nil (n := 0) (m := 41)).lst km).mono (by decide) (by decide)) (tqa_cons h tqa_nil)).tup kt).mono (by decide) (by show 2 * (4000 + 2) + 3 ≤ 9000; decide)
def spAsked (K : PySem.W.Frag) : Sp := fun vs H Q _ => ∃ (r s a y zp bl dx : Addr) (ps qs : List Addr) (ns : List Int) (n : Int) (bs : List Blk), vs = [.ref r, .ref y, .ref s, .int n, .ref a] ∧ Al K r s a y zp bl dx ps qs ns n bs H ∧ n ≤ 100000000000 ∧ bs.length ≤ 136 ∧
  ∀ a' ps' qs' bs' H', Al K r s a' y zp bl dx ps' qs' ns n bs' H' → bs'.length ≤ bs.length + 40 → (a' = a ∨ H a' = none) → (∀ c o, c ≠ r → c ≠ y → c ≠ bl → H c = some o → H' c = some o) → Q (.ref a') H'
theorem sc__law_asked : FnScope ["_law_rng_here", "_law_layout_here", "_law_sizes_here", "_law_length", "_law_blocks_here", "_law_free", "_law_some", "_law_cells", "_law_told", "_law_added", "_law_due", "_law_shown", "_law_address", "_law_level", "_law_is_pinned", "_law_run"] ["_law_rng_here", "_law_layout_here", "_law_sizes_here", "_law_length", "_law_blocks_here"] (defScope (top 60)) := ⟨rfl, rfl, rfl, by decide +kernel, rfl, by decide +kernel, by decide +kernel⟩
theorem ok_asked (T : Tx K mg) (D__law_draw : Df P w K mg base 1 "_law_draw" ["_law_rng_here", "_law_many"] spDraw) (D__law_choice : Df P w K mg base 2 "_law_choice" ["_law_rng_here", "_law_options"] spChoice) (D__law_free_runs : Df P w K mg base 2 "_law_free_runs" ["_law_sizes_here", "_law_length", "_law_blocks_here"] spFrL) (D__law_few : Df P w K mg base 1 "_law_few" ["_law_sizes_here", "_law_cells"] spFew)
    (D__law_chosen : Df P w K mg base 3 "_law_chosen" ["_law_sizes_here", "_law_length", "_law_blocks_here", "_law_cells"] spLCho) (M_repr : MfG P w K mg base 2 "Layout" "__repr__" ["self"] (spLRepr K)) (D_chosen_addresses : Df P w K mg base 12 "chosen_addresses" ["layout", "cells"] (spCho K)) (D_room : Df P w K mg base 13 "room" ["layout", "cells"] (spRoom K))
    (D__law_are_enough : Df P w K mg base 2 "_law_are_enough" ["_law_sizes_here", "_law_length", "_law_blocks_here", "_law_cells"] spEno) (D__law_pieces : Df P w K mg base 1 "_law_pieces" ["_law_sizes_here", "_law_cells"] spLpc) (M_put_d : MfD P w K mg base 8 "Layout" "put" ["self", "level", "address", "pinned"] [.bl false] (spPut K))
    (F : FnP K "_law_asked" "_law_asked" (top 60) f fd) : FnG P w K mg base CX0 14 f fd ["_law_rng_here", "_law_layout_here", "_law_sizes_here", "_law_length", "_law_blocks_here"] (spAsked K) := by
  refine okG F sc__law_asked (fun vs H Q E h => ?_) (fun cdv A outer s H vs Q E hr h => ⟨_, PSs.nox (pss_cons (ps_set (i := 5) sc__law_asked.nd rfl (by first | exact Or.inl rfl | exact Or.inr rfl) (pe_callB (cr_sum rfl) (by rfl) T.n_sum (by decide +kernel) (pa_cons (pe_lc (own := [("_law_run", 15)]) (g := gName 15) rfl sc__law_asked.nd (pi_list (pcall D__law_free_runs hr.r (pa_cons (pv 2) (pa_cons (pv 3) (pa_cons (pv 4) pa_nil))))) (blkOk_by (own := [("_law_run", 15)]) (N := ["_law_rng_here", "_law_layout_here", "_law_sizes_here", "_law_length", "_law_blocks_here", "_law_free", "_law_some", "_law_cells", "_law_told", "_law_added", "_law_due", "_law_shown", "_law_address", "_law_level", "_law_is_pinned", "_law_run"]) (sc := defScope (top 60)) (by decide +kernel)) (fun _ _ _ _ _ => pg_name (i := 15) sc__law_asked.nd rfl (Or.inl rfl)) (fun _ _ _ _ _ => pts_nil) (fun _ _ _ _ _ => (pe_op op_mul (pe_ix (r := rIxL K) ix_list (pv 2) (pe_ix (r := rIxT K) ix_tup (pv 15) pe_int (fun _ _ => rfl)) (fun _ _ => rfl)) (pe_ix (r := rIxT K) ix_tup (pv 15) pe_int (fun _ _ => rfl))))) pa_nil))) (pss_cons (ps_set (i := 6) sc__law_asked.nd rfl (by first | exact Or.inl rfl | exact Or.inr rfl) (pe_lst (pa_cons (pe_op op_add pe_int (pcall D__law_draw hr.r (pa_cons (pv 0) (pa_cons (pe_op op_add (pv 5) pe_int) pa_nil)))) (pa_cons (pe_op op_add pe_int (pcall D__law_draw hr.r (pa_cons (pv 0) (pa_cons (pe_op op_mul pe_int (pe_ix ix_list (pv 2) (pe_un un_neg pe_int) (fun _ _ => rfl))) pa_nil)))) (pa_cons (pcall D__law_choice hr.r (pa_cons (pv 0) (pa_cons (pv 2) pa_nil))) (pa_cons (pe_callB (call_max2 rfl) (by rfl) T.n_max (by decide +kernel) (pa_cons pe_int (pa_cons (pv 5) pa_nil))) pa_nil)))))) (pss_cons (ps_set (i := 7) sc__law_asked.nd rfl (by first | exact Or.inl rfl | exact Or.inr rfl) (pcall D__law_few hr.r (pa_cons (pv 2) (pa_cons (pcall D__law_choice hr.r (pa_cons (pv 0) (pa_cons (pv 6) pa_nil))) pa_nil)))) (pss_cons (ps_par (by rfl) sc__law_asked.nd (i := 10) (j := 11) rfl rfl (by decide) rfl rfl (pa_cons (pcall D__law_chosen hr.r (pa_cons (pv 2) (pa_cons (pv 3) (pa_cons (pv 4) (pa_cons (pv 7) pa_nil))))) (pa_cons (pe_callB (call_reprO M_repr hr) (by rfl) T.n_repr (by decide +kernel) (pa_cons (pv 1) pa_nil)) pa_nil)) (by rfl)) (pss_cons (ps_set (i := 8) sc__law_asked.nd rfl (by first | exact Or.inl rfl | exact Or.inr rfl) (pcall D_chosen_addresses hr.r (pa_cons (pv 1) (pa_cons (pv 7) pa_nil)))) (pss_cons (ps_if (PW.pt (pw_or (pt_cmpR op_ne (pe_callB (call_reprQ hr T.sys) (by rfl) T.n_repr (by decide +kernel) (pa_cons (pv 8) pa_nil)) (pe_callB (call_reprQ hr T.sys) (by rfl) T.n_repr (by decide +kernel) (pa_cons (pv 10) pa_nil)) (nomark _)) (pw_or1 (pt_cmpR op_ne (pe_cmpR op_notN (pv 10) pe_non (nomark _)) (pcall D__law_are_enough hr.r (pa_cons (pv 2) (pa_cons (pv 3) (pa_cons (pv 4) (pa_cons (pv 7) pa_nil))))) (nomark _))))) (pss_one (ps_ret pe_non)) pss_nil) (pss_cons (ps_if (pt_cmpR op_isN (pv 10) pe_non (nomark _)) (pss_one (ps_ret (pe_ifExp (pt_cmpR op_eq (pe_callB (call_reprO M_repr hr) (by rfl) T.n_repr (by decide +kernel) (pa_cons (pv 1) pa_nil)) (pv 11) (nomark _)) (pv 4) pe_non))) pss_nil) (pss_cons (ps_expr (pe_bm0 PySem.F.plainAttrs_list PySem.F.slot_list_reverse PySem.F.type_list_reverse mt_reverse (pv 8))) (pss_cons (ps_if (PW.pt (pw_or (pt_cmpR op_ne (pe_callB (call_reprQ hr T.sys) (by rfl) T.n_repr (by decide +kernel) (pa_cons (pcall D_chosen_addresses hr.r (pa_cons (pv 1) (pa_cons (pv 7) pa_nil))) pa_nil)) (pe_callB (call_reprQ hr T.sys) (by rfl) T.n_repr (by decide +kernel) (pa_cons (pv 10) pa_nil)) (nomark _)) (pw_or1 (pt_cmpR op_ne (pe_callB (call_reprQ hr T.sys) (by rfl) T.n_repr (by decide +kernel) (pa_cons (pcall D_room hr.r (pa_cons (pv 1) (pa_cons (pv 7) pa_nil))) pa_nil)) (pe_callB (call_reprQ hr T.sys) (by rfl) T.n_repr (by decide +kernel) (pa_cons (pe_tup (pa_cons (pe_lst pa_nil) (pa_cons (pv 10) pa_nil))) pa_nil)) (nomark _))))) (pss_one (ps_ret pe_non)) pss_nil) (pss_cons (ps_if (pt_cmpR op_ne (pe_callB (call_reprO M_repr hr) (by rfl) T.n_repr (by decide +kernel) (pa_cons (pv 1) pa_nil)) (pv 11) (nomark _)) (pss_one (ps_ret pe_non)) pss_nil) (pss_cons (ps_setLc (i := 9) (own := [("_law_level", 13), ("_law_address", 12)]) (g := gTup K 2 (gCons (gName 13) (gCons (gName 12) gNil))) rfl sc__law_asked.nd rfl rfl (sw_true rfl rfl rfl (by decide +kernel)) (pi_zip rfl T.n_zip (pa_cons (pcall D__law_pieces hr.r (pa_cons (pv 2) (pa_cons (pv 7) pa_nil))) (pa_cons (pv 10) pa_nil))) (blkOk_by (own := [("_law_level", 13), ("_law_address", 12)]) (N := ["_law_rng_here", "_law_layout_here", "_law_sizes_here", "_law_length", "_law_blocks_here", "_law_free", "_law_some", "_law_cells", "_law_told", "_law_added", "_law_due", "_law_shown", "_law_address", "_law_level", "_law_is_pinned", "_law_run"]) (sc := defScope (top 60)) (by decide +kernel)) (fun _ _ _ _ _ => pg_tup rfl (pgs_cons (pg_name (i := 13) sc__law_asked.nd rfl (Or.inl rfl)) (pgs_cons (pg_name (i := 12) sc__law_asked.nd rfl (Or.inl rfl)) pgs_nil))) (fun _ _ _ _ _ => pts_nil) (fun _ _ _ _ _ => (pe_tup (pa_cons (pv 12) (pa_cons (pv 13) (pa_cons pe_bl pa_nil)))))) (pss_cons (ps_for PassesOwn.never rfl (pi_list (pv 9)) (pg_tup (by rfl) (pgs_cons (pg_name (i := 12) sc__law_asked.nd rfl (by first | exact Or.inl rfl | exact Or.inr rfl)) (pgs_cons (pg_name (i := 13) sc__law_asked.nd rfl (by first | exact Or.inl rfl | exact Or.inr rfl)) (pgs_cons (pg_name (i := 14) sc__law_asked.nd rfl (by first | exact Or.inl rfl | exact Or.inr rfl)) pgs_nil)))) (pss_one (ps_expr (pmethD M_put_d hr.r (pv 1) (pa_cons (pv 13) (pa_cons (pv 12) pa_nil)))))) (pss_one (ps_ret (pe_callB cr_sortedB (by rfl) T.n_sorted (by decide +kernel) (pa_cons (pe_op op_cat (pv 4) (pv 9)) pa_nil)))))))))))))))), ?_⟩)
  · obtain ⟨r, s, a, y, zp, bl, dx, ps, qs, ns, n, bs, rfl, _⟩ := h
    rfl
  · obtain ⟨r, s, a, y, zp, bl, dx, ps, qs, ns, n, bs, rfl, A, n9, b136, q⟩ := h
    have sl : sizeLine = 16777216 := sizeLine_eq
    have g := A.L.gd
    have g8 := g.len
    have n1 := A.L.n1
    have wf := A.L.wf
    have big : (10 : Int) ^ 40 = 10000000000000000000000000000000000000000 := by decide
    refine ⟨_, rfl, _, rfl, _, rfl, s, a, ns, n, qs, bs, rfl, A.hs, g, A.ha, A.rf, wf.un, by omega, by omega, by omega, fun W ps1 rs H1 hW s1 kW rfr FO rl => ?_⟩
    have A1 := A.same s1
    refine ⟨W, rfl, ⟨_, SqL.of kW⟩, fun D hD => ?_⟩
    have rll := rfr.len
    refine lc_list (K := K) (a := W) (xs := ps1.map V.ref) (fun i G => G D = some (.lst ((frI ns (rs.take i)).map V.int)) ∧ Same H1 G) ⟨upd_same, same_upd hD⟩ (fun i G _ ⟨_, sm⟩ => SqL.of (sm _ _ kW)) ?_ ?_
    · rintro i x G hx ⟨hG, sm⟩
      obtain ⟨p, hp, rfl⟩ := ref_of hx
      obtain ⟨ru, hrr, hT⟩ := (rfr.same sm).get hp
      have hT' : G p = some (.tup [.int (ru.1 : Nat), .int ru.2.1, .int ru.2.2]) := hT
      obtain ⟨k1, k2, k3, k4, k5⟩ := run_le FO g (List.mem_of_getElem? hrr)
      have z9 := sz_le g k1
      have z1 := (chain g).pos _ k1
      have il := (List.getElem?_eq_some_iff.mp hrr).1
      refine ⟨rfl, _, rfl, _, rfl, p, _, _, _, rfl, rfl, .inl (.inl hT'), rfl, s, _, _, _, rfl, rfl, SqL.of (sm _ _ A1.hs), at_sz k1, _, rfl, p, _, _, _, rfl, rfl, .inl (.inl hT'), rfl, _, _, rfl, rfl, .inr ⟨by omega, by omega⟩, ?_⟩
      refine ⟨_, hG, (by unfold frI; rw [List.length_map, List.length_map, List.length_take]; omega), ?_, fun c o e => ?_⟩
      · rw [upd_same, take_at hrr]
        unfold frI
        rw [List.map_append, List.map_append]
        rfl
      · rw [upd_ne (ne_of_none e hD)]
        exact sm c o e
    rintro G ⟨hG, sm⟩
    rw [List.length_map, rll, List.take_length] at hG
    obtain ⟨f0, f1⟩ := sum_le (l := frI ns rs) (m := n) fun x hx => by
      obtain ⟨ru, hr, rfl⟩ := List.mem_map.mp hx
      obtain ⟨_, _, _, k4, k5⟩ := run_le FO g hr
      exact ⟨k4, k5⟩
    have fl : (frI ns rs).length ≤ 3000 := by
      unfold frI
      rw [List.length_map]
      omega
    have f2 : (frI ns rs).sum ≤ 300000000000000 := by
      have h1 := Int.mul_le_mul_of_nonneg_right (show ((frI ns rs).length : Int) ≤ 3000 by omega) (show 0 ≤ n by omega)
      omega
    refine ⟨D, _, rfl, SqL.of hG, ?_⟩
    have A2 := A1.same sm
    generalize (frI ns rs).sum = free at f0 f2
    clear f1 hG FO rfr rl kW
    obtain ⟨ys, z, ez⟩ := last_of g.len.1
    have zr := g.rng _ _ (show ns[ns.length - 1]? = some z by rw [ez]; exact last_get ys z)
    have atL : atI (ns.map V.int) (-1) = some (.int z) := by rw [ez]; exact at_last ys z
    refine go_nm (nx_of (σ' := [some (.ref r), some (.ref y), some (.ref s), some (.int n), some (.ref a), some (.int free), none, none, none, none, none, none, none, none, none, none]) rfl ?_)
    refine ⟨_, rfl, _, rfl, _, _, rfl, rfl, r, free + 1, rfl, A2.rg, by omega, by omega, fun d1 H3 d10 d11 t1 => ?_⟩
    have A3 := A2.step t1
    refine ⟨_, _, rfl, rfl, ?_⟩
    refine ⟨_, rfl, _, rfl, _, rfl, s, _, _, _, rfl, rfl, SqL.of A3.hs, atL, _, _, rfl, rfl, .inr ⟨by omega, by omega⟩, r, _, rfl, A3.rg, by omega, by omega, fun d2 H4 d20 d21 t2 => ?_⟩
    have A4 := A3.step t2
    have g8' := A4.L.gd.len
    refine ⟨_, _, rfl, rfl, ?_⟩
    refine ⟨_, rfl, _, rfl, r, s, _, rfl, A4.rg, A4.hs, A4.sr, (by rw [List.length_map]; omega), (by rw [List.length_map]; omega), fun v H5 hv t3 => ?_⟩
    have A5 := A4.step t3
    obtain ⟨x3, hx3, rfl⟩ := List.mem_map.mp hv
    obtain ⟨j3, hj3⟩ := List.mem_iff_getElem?.mp hx3
    have r3 := g.rng _ _ hj3
    refine ⟨_, rfl, _, _, rfl, (by show 4 ≤ sizeLine; decide), fun p hp => ?_⟩
    obtain ⟨x4, ex4, x41, x42⟩ : ∃ x4 : Int, (if free > 1 then free else 1) = x4 ∧ 1 ≤ x4 ∧ x4 ≤ 300000000000000 := ⟨_, rfl, by split <;> omega, by split <;> omega⟩
    rw [ex4]
    have A6 := A5.same (same_upd (o := .lst [.int (1 + d1), .int (1 + d2), .int x3, .int x4]) hp)
    have tp6 : Stp r H5 (upd H5 p (.lst [.int (1 + d1), .int (1 + d2), .int x3, .int x4])) := Stp.same A5.rg (same_upd hp)
    have kp : (upd H5 p (.lst [.int (1 + d1), .int (1 + d2), .int x3, .int x4])) p = some (.lst [.int (1 + d1), .int (1 + d2), .int x3, .int x4]) := upd_same
    have npr : p ≠ r := (A5.rg.ne hp).symm
    generalize upd H5 p (.lst [.int (1 + d1), .int (1 + d2), .int x3, .int x4]) = H6 at A6 kp tp6
    refine go_nm (nx_of (σ' := [some (.ref r), some (.ref y), some (.ref s), some (.int n), some (.ref a), some (.int free), some (.ref p), none, none, none, none, none, none, none, none, none]) rfl ?_)
    refine ⟨_, rfl, _, rfl, _, rfl, r, p, _, rfl, A6.rg, kp, npr, (by show 1 ≤ 4; decide), (by show 4 ≤ 1000; decide), fun v H7 hv2 t4 => ?_⟩
    have A7 := A6.step t4
    obtain ⟨c, rfl, c1, c2⟩ : ∃ c : Int, v = .int c ∧ 1 ≤ c ∧ c ≤ 1000000000000000000 := by
      simp only [List.mem_cons, List.not_mem_nil, or_false] at hv2
      rcases hv2 with rfl | rfl | rfl | rfl
      · exact ⟨_, rfl, by omega, by omega⟩
      · exact ⟨_, rfl, by omega, by omega⟩
      · exact ⟨_, rfl, by omega, by omega⟩
      · exact ⟨_, rfl, by omega, by omega⟩
    obtain ⟨w1, _, w3⟩ := few_ok g c1
    have w2 := few_up (c := c) g
    refine ⟨s, ns, c, rfl, A7.hs, g, c1, c2, fun H8 s8 => ?_⟩
    have A8 := A7.same s8
    generalize fewI ns c = cl at w1 w2 w3
    refine go_nm (nx_of (σ' := [some (.ref r), some (.ref y), some (.ref s), some (.int n), some (.ref a), some (.int free), some (.ref p), some (.int cl), none, none, none, none, none, none, none, none]) rfl ?_)
    have st8 : Stp r H H8 := (Stp.same A.rg s1).trans ((Stp.same A1.rg sm).trans (t1.trans (t2.trans (t3.trans (tp6.trans (t4.trans (Stp.same A7.rg s8)))))))
    clear A1 A2 A3 A4 A5 A6 A7 t1 t2 t3 t4
    refine ⟨_, rfl, _, rfl, _, rfl, _, rfl, s, a, ns, n, cl, qs, bs, rfl, A8.hs, g, A8.ha, A8.rf, wf.un, by omega, by omega, by omega, by omega, by omega, fun H9 no s9 => ?_, fun as l H9 cho al hl s9 kl => ?_⟩
    · have A9 := A8.same s9
      refine ⟨_, rfl, y, dx, _, rfl, A9.L.at_, y, zp, bl, dx, ps, ns, n, bs, rfl, A9.L, (by omega), _, rfl, _, _, rfl, ?_⟩
      refine ⟨_, rfl, _, rfl, y, zp, bl, dx, ps, ns, n, cl, bs, rfl, A9.L, by omega, by omega, by omega, fun H10 no' s10 => ?_, fun as l H10 cho _ _ _ _ => nomatch (cho.uniq g no)⟩
      have A10 := A9.same s10
      refine go_nm (nx_of (σ' := [some (.ref r), some (.ref y), some (.ref s), some (.int n), some (.ref a), some (.int free), some (.ref p), some (.int cl), some .non, none, some .non, some (.str (layT n bs)), none, none, none, none]) rfl ?_)
      have tn : Tq K H10 .non .none 0 41 := tq_non
      refine ⟨_, rfl, _, _, rfl, tn.dq, tn.sh, Nat.le_trans tn.dp (by decide), Nat.le_trans tn.ln (by decide), _, rfl, _, _, rfl, tn.dq, tn.sh, Nat.le_trans tn.dp (by decide), Nat.le_trans tn.ln (by decide), rfl, _, rfl, iteF' (by rw [decide_eq_true rfl]; rfl) ?_⟩
      have B10 : Bl ns H10 a qs bs := ⟨A10.ha, A10.rf, fun b hb => (wf.ok b hb).1, by omega⟩
      refine ⟨_, rfl, rfl, _, rfl, _, rfl, _, rfl, _, rfl, s, a, ns, n, cl, qs, bs, rfl, A10.hs, B10, g, by omega, fun H11 b s11 hb => ?_⟩
      have A11 := A10.same s11
      have eb : b = false := by
        cases b with
        | false => rfl
        | true => exact absurd rfl ((cho_enough wf g (by omega) (by omega) no).mpr (hb.mp rfl))
      subst eb
      refine ⟨rfl, _, rfl, iteF' (by decide) ?_⟩
      refine ⟨_, rfl, rfl, _, rfl, iteT' (decide_eq_true rfl) ?_⟩
      refine ⟨_, rfl, y, dx, _, rfl, A11.L.at_, y, zp, bl, dx, ps, ns, n, bs, rfl, A11.L, (by omega), _, rfl, _, rfl, rfl, _, rfl, iteT' (decide_eq_true rfl) ⟨_, rfl, q a ps qs bs H11 A11 (by omega) (.inl rfl) (fun c o c1 _ _ e => s11 _ _ (s10 _ _ (s9 _ _ (st8.2 c o c1 e))))⟩⟩
    · have A9 := A8.same s9
      have ff := cho.fr g rfl
      have pl40 := pc_le g (c := cl) (by omega)
      have pl := pc_len g (show 0 ≤ cl by omega) (by omega)
      have ab : ∀ x ∈ as, 0 ≤ x ∧ x ≤ 1000000000000 := fun x hx => by
        obtain ⟨i, hi⟩ := List.mem_iff_getElem?.mp hx
        have il := (List.getElem?_eq_some_iff.mp hi).1
        obtain ⟨k, hk⟩ : ∃ k, (pcN ns cl)[i]? = some k := ⟨_, List.getElem?_eq_getElem (by omega)⟩
        obtain ⟨h1, h2, h3, h4, h5⟩ := ff.2 i k x hk hi
        have := (chain g).pos k h1
        exact ⟨h3, by omega⟩
      refine ⟨_, rfl, y, dx, _, rfl, A9.L.at_, y, zp, bl, dx, ps, ns, n, bs, rfl, A9.L, (by omega), _, rfl, _, _, rfl, ?_⟩
      refine ⟨_, rfl, _, rfl, y, zp, bl, dx, ps, ns, n, cl, bs, rfl, A9.L, by omega, by omega, by omega, fun H10 no' s10 => (nomatch (no'.uniq g cho)), fun as' l2 H10 cho' a64 hl2 s10 kl2 => ?_⟩
      cases (cho'.uniq g cho)
      have A10 := A9.same s10
      have kl10 := s10 _ _ kl
      have n12 : l ≠ l2 := ne_of_none kl hl2
      have hl2H := hl2
      refine go_nm (nx_of (σ' := [some (.ref r), some (.ref y), some (.ref s), some (.int n), some (.ref a), some (.int free), some (.ref p), some (.int cl), some (.ref l2), none, some (.ref l), some (.str (layT n bs)), none, none, none, none]) rfl ?_)
      have t2 := ints_tq (K := K) ab a64 kl2
      have t1 := ints_tq (K := K) ab a64 kl10
      refine ⟨_, rfl, _, _, rfl, t2.dq, t2.sh, Nat.le_trans t2.dp (by decide), Nat.le_trans t2.ln (by decide), _, rfl, _, _, rfl, t1.dq, t1.sh, Nat.le_trans t1.dp (by decide), Nat.le_trans t1.ln (by decide), rfl, _, rfl, iteF' (by rw [decide_eq_true rfl]; rfl) ?_⟩
      have B10 : Bl ns H10 a qs bs := ⟨A10.ha, A10.rf, fun b hb => (wf.ok b hb).1, by omega⟩
      refine ⟨_, rfl, rfl, _, rfl, _, rfl, _, rfl, _, rfl, s, a, ns, n, cl, qs, bs, rfl, A10.hs, B10, g, by omega, fun H11 b s11 hb => ?_⟩
      have eb : b = true := hb.mpr ((cho_enough wf g (by omega) (by omega) cho).mp fun z => nomatch z)
      subst eb
      refine ⟨rfl, _, rfl, iteF' (by rw [decide_eq_false (show ¬ V.ref l = V.non from fun z => nomatch z)]; decide) ?_⟩
      refine ⟨_, rfl, rfl, _, rfl, iteF' (decide_eq_false fun z => nomatch z) ?_⟩
      have kl11 := s11 _ _ kl2
      refine ⟨_, rfl, .inl ⟨rfl, _, SqL.of kl11⟩, l2, _, rfl, rfl, kl11, ?_⟩
      have s12 : Same H9 (upd H11 l2 (.lst (as.map V.int).reverse)) := fun x o e => by
        rw [upd_ne (ne_of_none e hl2)]
        exact s11 _ _ (s10 _ _ e)
      generalize upd H11 l2 (.lst (as.map V.int).reverse) = H12 at s12
      have A12 := A9.same s12
      have kl12 := s12 _ _ kl
      refine ⟨_, rfl, _, rfl, y, zp, bl, dx, ps, ns, n, cl, bs, rfl, A12.L, by omega, by omega, by omega, fun H13 no' s13 => (nomatch (no'.uniq g cho)), fun as' l3 H13 cho'' _ hl3 s13 kl3 => ?_⟩
      cases (cho''.uniq g cho)
      have A13 := A12.same s13
      have kl13 := s13 _ _ kl12
      have t3 := ints_tq (K := K) ab a64 kl3
      have t4 := ints_tq (K := K) ab a64 kl13
      refine ⟨_, _, rfl, t3.dq, t3.sh, Nat.le_trans t3.dp (by decide), Nat.le_trans t3.ln (by decide), _, rfl, _, _, rfl, t4.dq, t4.sh, Nat.le_trans t4.dp (by decide), Nat.le_trans t4.ln (by decide), rfl, _, rfl, iteF' (by rw [decide_eq_true rfl]; rfl) ?_⟩
      refine ⟨_, rfl, _, rfl, y, zp, bl, dx, ps, ns, n, cl, bs, as, rfl, A13.L, by omega, by omega, by omega, cho, cho_fits wf g (by omega) (by omega) cho, fun t m l4 H14 s14 km kl4 kt => ?_⟩
      have A14 := A13.same s14
      have kl14 := s14 _ _ kl13
      have t5 := pair_tq (ints_tq (K := K) ab a64 kl4) km kt
      refine ⟨_, _, rfl, t5.dq, t5.sh, Nat.le_trans t5.dp (by decide), Nat.le_trans t5.ln (by decide), ?_⟩
      refine ⟨(by show 0 ≤ sizeLine; decide), fun m2 hm2 => ?_⟩
      have s15 := same_upd (o := .lst []) hm2
      have km15 : (upd H14 m2 (.lst [])) m2 = some (.lst []) := upd_same
      generalize upd H14 m2 (.lst []) = H15 at s15 km15
      have kl15 := s15 _ _ kl14
      refine ⟨_, rfl, (by show 2 ≤ sizeLine; decide), fun t6 ht6 => ?_⟩
      have s16 := same_upd (o := .tup [.ref m2, .ref l]) ht6
      have kt16 : (upd H15 t6 (.tup [.ref m2, .ref l])) t6 = some (.tup [.ref m2, .ref l]) := upd_same
      generalize upd H15 t6 (.tup [.ref m2, .ref l]) = H16 at s16 kt16
      have kl16 := s16 _ _ kl15
      have q6 := pair_tq (ints_tq (K := K) ab a64 kl16) (s16 _ _ km15) kt16
      refine ⟨_, _, rfl, q6.dq, q6.sh, Nat.le_trans q6.dp (by decide), Nat.le_trans q6.ln (by decide), rfl, _, rfl, iteF' (by rw [decide_eq_true rfl]; rfl) ?_⟩
      have A16 := A14.same (s15.trans s16)
      refine ⟨_, rfl, y, dx, _, rfl, A16.L.at_, y, zp, bl, dx, ps, ns, n, bs, rfl, A16.L, (by omega), _, rfl, _, rfl, rfl, _, rfl, iteF' (by rw [decide_eq_true rfl]; rfl) ?_⟩
      clear A9 A10 A12 A13 A14 t1 t2 t3 t4 t5 q6 km15 kt16 kl10 kl11 kl12 kl13 kl14 kl15
      refine ⟨_, rfl, _, rfl, s, ns, cl, rfl, A16.hs, g, by omega, by omega, fun L H17 hL s17 kL => ?_⟩
      have A17 := A16.same s17
      have kl17 := s17 _ _ kl16
      refine ⟨_, rfl, L, l, _, _, rfl, SqL.of kL, SqL.of kl17, fun D hD => ?_⟩
      have zl := zipB_len al
      refine lc_it (walk_zip (xs := ((pcN ns cl).map fun k : Nat => (k : Int)).map V.int) (ys := as.map V.int) (n := (pcN ns cl).length) (by rw [List.length_map, List.length_map, List.length_map]; omega)) (fun i G => ∃ ts, Same H17 G ∧ G D = some (.lst (ts.map V.ref)) ∧ Refs blkV G ts ((zipB (pcN ns cl) as).take i)) ⟨[], same_upd hD, upd_same, .nil⟩ (fun i G _ ⟨_, sm, _⟩ => ⟨SqL.of (sm _ _ kL), SqL.of (sm _ _ kl17)⟩) ?_ ?_
      · rintro i x1 G1 G2 hi ⟨ts, sm, kD, rt⟩ ⟨T', y1, y2, rfl, hT, rfl, e1, e2⟩
        replace e1 : (((pcN ns cl).map fun k : Nat => (k : Int)).map V.int)[i]? = some y1 := e1
        replace e2 : (as.map V.int)[i]? = some y2 := e2
        obtain ⟨k, hk⟩ : ∃ k, (pcN ns cl)[i]? = some k := ⟨_, List.getElem?_eq_getElem hi⟩
        obtain ⟨x, hx⟩ : ∃ x, as[i]? = some x := ⟨_, List.getElem?_eq_getElem (by omega)⟩
        rw [List.getElem?_map, List.getElem?_map, hk] at e1
        rw [List.getElem?_map, hx] at e2
        obtain rfl := (Option.some.inj e1).symm
        obtain rfl := (Option.some.inj e2).symm
        have sT := same_upd (o := .tup [.int (k : Nat), .int x]) hT
        have kD2 := sT _ _ kD
        have rt2 := rt.same sT
        have tl := rt.len
        rw [List.length_take] at tl
        refine ⟨T', _, rfl, .inl (.inl upd_same), rfl, _, _, rfl, _, _, rfl, rfl, rfl, _, rfl, _, rfl, (by show 3 ≤ sizeLine; decide), fun u hu => ?_⟩
        refine ⟨_, same_upd hu _ _ kD2, (by rw [List.length_map]; omega), ts ++ [u], ?_, ?_, ?_⟩
        · intro c o e
          rw [upd_ne (ne_of_none e hD)]
          exact same_upd hu _ _ (sT _ _ (sm _ _ e))
        · rw [upd_same, List.map_append]
          rfl
        · rw [take_at (zipB_at hk hx)]
          exact Refs.more (f := blkV) (u := (x, k, false)) rt2 kD2 hu
      rintro G ⟨ts, sm, kD, rt⟩
      rw [List.take_of_length_le (by omega)] at rt
      have tl := rt.len
      have AG := A17.same sm
      have nDy : D ≠ y := (ne_of_none A17.L.at_ hD).symm
      have nDb : D ≠ bl := (ne_of_none A17.L.lst hD).symm
      refine go_nm (nx_of (σ' := [some (.ref r), some (.ref y), some (.ref s), some (.int n), some (.ref a), some (.int free), some (.ref p), some (.int cl), some (.ref l2), some (.ref D), some (.ref l), some (.str (layT n bs)), none, none, none, none]) rfl ?_)
      refine ⟨_, rfl, D, rfl, ⟨_, SqL.of kD⟩, ?_⟩
      refine for_list (K := K) (a := D) (xs := ts.map V.ref) (fun i σ G2 => ∃ (x12 x13 x14 : Option V) (ps2 : List Addr) (cs : List Blk), σ = [some (.ref r), some (.ref y), some (.ref s), some (.int n), some (.ref a), some (.int free), some (.ref p), some (.int cl), some (.ref l2), some (.ref D), some (.ref l), some (.str (layT n bs)), x12, x13, x14, none] ∧ cs.Perm (bs ++ (zipB (pcN ns cl) as).take i) ∧ But2 y bl G G2 ∧ Ly K G2 y zp bl dx ps2 ns n cs) ⟨none, none, none, ps, bs, rfl, (by simp), (fun _ _ _ _ e => e), AG.L⟩ (fun i σ G2 _ ⟨_, _, _, _, _, _, _, bt, _⟩ => SqL.of (bt _ _ nDy nDb kD)) ?_ ?_
      · rintro i v σ G2 hv ⟨x12, x13, x14, ps2, cs, rfl, pm, bt, L2⟩
        obtain ⟨u, hu, rfl⟩ := ref_of hv
        have il := (List.getElem?_eq_some_iff.mp hu).1
        obtain ⟨b, hb, hT⟩ := rt.get hu
        obtain ⟨k, hk⟩ : ∃ k, (pcN ns cl)[i]? = some k := ⟨_, List.getElem?_eq_getElem (by omega)⟩
        obtain ⟨x, hx⟩ : ∃ x, as[i]? = some x := ⟨_, List.getElem?_eq_getElem (by omega)⟩
        rw [zipB_at hk hx] at hb
        obtain rfl := (Option.some.inj hb).symm
        have fv := ff.2 i k x hk hx
        have fr := fv.free pm
        obtain ⟨v1, v2, v3, v4, _⟩ := fv
        have pl2 := pm.length_eq
        rw [List.length_append, List.length_take] at pl2
        have hT' : G2 u = some (.tup [.int x, .int (k : Nat), .bl false]) := bt _ _ (fun z => by rw [z, AG.L.at_] at hT; cases hT) (fun z => by rw [z, AG.L.lst] at hT; cases hT) hT
        refine ⟨u, _, rfl, .inl (.inl hT'), rfl, _, _, rfl, _, _, rfl, _, _, rfl, rfl, ?_⟩
        refine ⟨_, rfl, y, dx, _, rfl, L2.at_, lay_nm (by decide +kernel), _, rfl, _, rfl, y, zp, bl, dx, ps2, ns, n, x, cs, k, false, rfl, L2, by omega, v1, v3, M16.mod0 v2, v4, fr, fun i' ps3 G3 bel L3 bt3 => ?_⟩
        refine ⟨_, _, _, ps3, _, rfl, ?_, (fun c o n1 n2 e => bt3 c o n1 n2 (bt c o n1 n2 e)), L3⟩
        rw [take_at (zipB_at hk hx), ← List.append_assoc]
        exact insB_perm.trans (pm.append_right _)
      · rintro σ G2 ⟨x12, x13, x14, ps2, cs, rfl, pm, bt, L2⟩
        rw [List.length_map, tl, List.take_length] at pm
        have ya : a ≠ y := fun z => by
          have := AG.ha
          rw [z, AG.L.at_] at this
          cases this
        have ha2 := bt _ _ ya AG.ab AG.ha
        have kD2 := bt _ _ nDy nDb kD
        have mv : ∀ {qs : List Addr} {bs : List Blk}, Refs blkV G qs bs → Refs blkV G2 qs bs := fun rf => rf.mono fun c xs e => bt _ _ (fun z => by rw [z, AG.L.at_] at e; cases e) (fun z => by rw [z, AG.L.lst] at e; cases e) e
        have rfC := (mv AG.rf).app (mv rt)
        have un := L2.wf.un.perm pm.symm
        have ql := AG.rf.len
        refine ⟨_, rfl, _, rfl, a, D, _, _, rfl, rfl, ha2, kD2, (by rw [List.length_map, List.length_map]; omega), fun L3 hL3 => ?_⟩
        have sa := same_upd (o := .lst (qs.map V.ref ++ ts.map V.ref)) hL3
        have kL3 : (upd G2 L3 (.lst (qs.map V.ref ++ ts.map V.ref))) L3 = some (.lst ((qs ++ ts).map V.ref)) := by rw [upd_same, List.map_append]
        have rfC3 := rfC.same sa
        generalize upd G2 L3 (.lst (qs.map V.ref ++ ts.map V.ref)) = G3 at sa kL3 rfC3
        obtain ⟨k1, k2⟩ := un.keys g rfC3
        refine ⟨L3, _, keyV G3, rfl, SqL.of kL3, k1, k2, fun zs p hs' hp hpn => ?_⟩
        obtain ⟨qs', bs', rfl, rf', pm', wf'⟩ := un.sorted g rfC3 hs' hp
        have ebs := uniqB (wf'.rise g) (L2.wf.rise g) (pm'.trans pm.symm)
        subst ebs
        have sb := same_upd (o := .lst (qs'.map V.ref)) hpn
        have kp2 : (upd G3 p (.lst (qs'.map V.ref))) p = some (.lst (qs'.map V.ref)) := upd_same
        have pb : p ≠ bl := (ne_of_none (sa _ _ L2.lst) hpn).symm
        have sab := sa.trans sb
        have pl3 := pm'.length_eq
        rw [List.length_append] at pl3
        have kG : ∀ c o, c ≠ r → c ≠ y → c ≠ bl → H c = some o → G3 c = some o := fun c o c1 c2 c3 e => sa _ _ (bt c o c2 c3 (sm _ _ (s17 _ _ (s16 _ _ (s15 _ _ (s14 _ _ (s13 _ _ (s12 _ _ (s9 _ _ (st8.2 c o c1 e))))))))))
        have AF := AG.laid (fun c o n1 n2 e => sab _ _ (bt c o n1 n2 e)) (L2.same sab) kp2 (rf'.same sb) pb
        refine q p ps2 qs' bs' _ AF (by omega) (.inr ?_) (fun c o c1 c2 c3 e => sb _ _ (kG c o c1 c2 c3 e))
        obtain ⟨x1, x2, er, _⟩ := AG.rg
        have er3 := sa _ _ (bt _ _ (AG.rg.ins AG.L.at_).symm (AG.rg.lst AG.L.lst).symm er)
        have pr : p ≠ r := (ne_of_none er3 hpn).symm
        have py : p ≠ y := (ne_of_none (sa _ _ L2.at_) hpn).symm
        cases ep : H p with
        | none => rfl
        | some o => exact nomatch (kG p o pr py pb ep).symm.trans hpn
end
end K44

set_option Elab.async false
set_option linter.all false
set_option maxRecDepth 100000
set_option maxHeartbeats 4000000
/-! xs != [] -/
namespace L2
open PySem PySem.Spec PyProof.Rows
section
variable {X : Cx}
def rNeNil (K : PySem.W.Frag) : R2 := fun x y H Q => ∃ a b xs, x = .ref a ∧ y = .ref b ∧ SqL K H a xs ∧ SqL K H b [] ∧ Q (.bl (!decide (xs.length = 0))) H
theorem op_neNil (hu : X.A.units + 64 < cLine) : OpR X (compareOp .NotEq) (rNeNil X.K) := by
  intro pins s σ H x y v u Q I rx ry h
  obtain ⟨a, b, xs, rfl, rfl, ha, hb, q⟩ := h
  cases rx
  cases ry
  obtain ⟨us, r1, p1, _⟩ := I.list ha
  obtain ⟨ws, r2, p2, _⟩ := I.list hb
  cases r2
  have hl := r1.length
  by_cases hz : xs.length = 0
  · rw [decide_eq_true hz] at q
    have hs : us.toArray.size = (#[] : Array Value).size := by rw [List.size_toArray, ← hl, hz]; rfl
    refine SeqAt.RcNeAt.lists (e := fun _ => true) p1.isList p2.isList hs (by omega) (fun j h1 h2 => absurd h2 (Nat.not_lt_zero j)) X.prog X.w _ _ ?_
    rw [show ((List.range us.toArray.size).all fun _ => true) = true from List.all_eq_true.mpr fun _ _ => rfl]
    exact ⟨.bl false, H, I, rfl, q⟩
  · rw [decide_eq_false hz] at q
    refine SeqAt.RcNeAt.lists_lengths p1.isList p2.isList ?_ (by omega) X.prog X.w _ _ ⟨.bl true, H, I, rfl, q⟩
    have : us.toArray.size ≠ 0 := by rw [List.size_toArray, ← hl]; exact hz
    simpa using this
end
end L2

set_option Elab.async false
set_option linter.all false
set_option maxRecDepth 100000
set_option maxHeartbeats 1600000
set_option pp.maxSteps 1200
namespace K44
open PySem PySem.Spec PyProof.Rows L2 Gu Ex
theorem seq_nat {k n : Nat} (h : k < n) : seqIndex? (k : Int) n = some k := by
  unfold seqIndex?
  have e1 : ¬ ((k : Int) < 0) := by omega
  simp [e1, h]
section
variable {K : PySem.W.Frag} {r s a y zp bl dx : Addr} {ps qs ps2 qs2 : List Addr} {ns : List Int} {n : Int} {bs bs2 : List Blk} {H H' : Hp}
theorem Al.ya (A : Al K r s a y zp bl dx ps qs ns n bs H) : a ≠ y := fun z => by
  have := A.ha
  rw [z, A.L.at_] at this
  cases this
/-- the layout changes, and the law's own list -/
theorem Al.cut (A : Al K r s a y zp bl dx ps qs ns n bs H) (bt : ∀ c o, c ≠ a → c ≠ y → c ≠ bl → H c = some o → H' c = some o) (L' : Ly K H' y zp bl dx ps2 ns n bs2) (ha : H' a = some (.lst (qs2.map V.ref))) (rf : Refs blkV H' qs2 bs2) : Al K r s a y zp bl dx ps2 qs2 ns n bs2 H' := by
  obtain ⟨dz, l, e1, e2, e3, e4⟩ := A.lr
  have ry : r ≠ y := (A.rg.ins A.L.at_).symm
  have rb : r ≠ bl := (A.rg.lst A.L.lst).symm
  have ra : r ≠ a := (A.rg.lst A.ha).symm
  have sy : s ≠ y := fun z => by
    have := A.hs
    rw [z, A.L.at_] at this
    cases this
  have sb := ne_ir A.hs A.L.gd.len.1 A.L.lst
  have sa := ne_ir A.hs A.L.gd.len.1 A.ha
  have la := ne_ir e2 A.L.gd.len.1 A.ha
  have zy : zp ≠ y := fun z => by
    rw [z, A.L.at_] at e1
    have z3 := congrArg List.length (HO.ins.inj (Option.some.inj e1)).2.2
    cases z3
  have zb : zp ≠ bl := fun z => by
    rw [z, A.L.lst] at e1
    cases e1
  have za : zp ≠ a := fun z => by
    rw [z, A.ha] at e1
    cases e1
  have ly : l ≠ y := fun z => by
    rw [z, A.L.at_] at e2
    cases e2
  obtain ⟨x, z, e5, e6⟩ := A.rg
  exact ⟨⟨x, z, bt _ _ ra ry rb e5, e6⟩, bt _ _ sa sy sb A.hs, ha, rf, A.sr, A.ab, L', ⟨dz, l, bt _ _ za zy zb e1, bt _ _ la ly e3 e2, e3, e4⟩⟩
end
section
variable {P : Program} {w : World} {K : PySem.W.Frag} {mg : Str → Option Value} {base : Heap} {f : Addr} {fd : FuncData}
def spRight : Sp := fun vs H Q _ => ∃ (r : Addr), vs = [.ref r] ∧ Rng H r ∧ ∀ H', Stp r H H' → Q (.bl true) H'
theorem sc__law_right : FnScope ["_law_rng_here", "_law_sizes_here", "_law_length", "_law_blocks_here", "_law_layout_here", "_law_turn", "_law_gone"] ["_law_rng_here"] (defScope (top 61)) := ⟨rfl, rfl, rfl, by decide +kernel, rfl, by decide +kernel, by decide +kernel⟩
theorem ok_right (T : Tx K mg) (D__law_draw : Df P w K mg base 1 "_law_draw" ["_law_rng_here", "_law_many"] spDraw) (D__law_sizes : Df P w K mg base 2 "_law_sizes" ["_law_rng_here", "_law_levels", "_law_greatest"] spSizes) (D__law_far_sizes : Df P w K mg base 2 "_law_far_sizes" ["_law_rng_here"] spFar) (D__law_blocks : Df P w K mg base 2 "_law_blocks" ["_law_rng_here", "_law_sizes_here", "_law_length", "_law_many", "_law_one_in"] spBlocks)
    (D__law_layout : Df P w K mg base 9 "_law_layout" ["_law_sizes_here", "_law_length", "_law_blocks_here"] (spLayout K)) (M_take_out : Mf P w K mg base 6 "Layout" "take_out" ["self", "address"] (spTake K)) (M_blocks : Mf P w K mg base 1 "Layout" "blocks" ["self"] (spBlk K)) (D__law_asked : DfG P w K mg base 14 "_law_asked" ["_law_rng_here", "_law_layout_here", "_law_sizes_here", "_law_length", "_law_blocks_here"] (spAsked K))
    (F : FnP K "_law_right" "_law_right" (top 61) f fd) : FnG P w K mg base CX0 15 f fd ["_law_rng_here"] spRight := by
  refine okG F sc__law_right (fun vs H Q E h => ?_) (fun cdv A outer s H vs Q E hr h => ⟨_, PSs.nox (pss_cons (ps_set (i := 1) sc__law_right.nd rfl (by first | exact Or.inl rfl | exact Or.inr rfl) (pe_ifExp (pt_cmpR op_gt (pcall D__law_draw hr.r (pa_cons (pv 0) (pa_cons pe_int pa_nil))) pe_int (nomark _)) (pcall D__law_sizes hr.r (pa_cons (pv 0) (pa_cons pe_int (pa_cons pe_int pa_nil)))) (pcall D__law_far_sizes hr.r (pa_cons (pv 0) pa_nil)))) (pss_cons (ps_set (i := 2) sc__law_right.nd rfl (by first | exact Or.inl rfl | exact Or.inr rfl) (pe_op op_add (pe_op op_add (pe_op op_mul (pe_ix ix_list (pv 1) (pe_un un_neg pe_int) (fun _ _ => rfl)) (pcall D__law_draw hr.r (pa_cons (pv 0) (pa_cons pe_int pa_nil)))) pe_int) (pcall D__law_draw hr.r (pa_cons (pv 0) (pa_cons (pe_ix ix_list (pv 1) (pe_un un_neg pe_int) (fun _ _ => rfl)) pa_nil))))) (pss_cons (ps_set (i := 3) sc__law_right.nd rfl (by first | exact Or.inl rfl | exact Or.inr rfl) (pcall D__law_blocks hr.r (pa_cons (pv 0) (pa_cons (pv 1) (pa_cons (pv 2) (pa_cons pe_int (pa_cons pe_int pa_nil))))))) (pss_cons (ps_set (i := 4) sc__law_right.nd rfl (by first | exact Or.inl rfl | exact Or.inr rfl) (pcall D__law_layout hr.r (pa_cons (pv 1) (pa_cons (pv 2) (pa_cons (pv 3) pa_nil))))) (pss_cons (ps_for PassesOwn.never rfl (pi_range1 rfl T.n_range (pa_cons (pe_op op_add pe_int (pcall D__law_draw hr.r (pa_cons (pv 0) (pa_cons pe_int pa_nil)))) pa_nil)) (pg_name (i := 5) sc__law_right.nd rfl (by first | exact Or.inl rfl | exact Or.inr rfl)) (pss_cons (ps_if (PW.pt (pw_and (pt_cmpR (op_neNil hr.r.units) (pv 3) (pe_lst pa_nil) (nomark _)) (pw_and1 (pt_cmpR op_eq (pcall D__law_draw hr.r (pa_cons (pv 0) (pa_cons pe_int pa_nil))) pe_int (nomark _))))) (pss_cons (ps_set (i := 6) sc__law_right.nd rfl (by first | exact Or.inl rfl | exact Or.inr rfl) (pe_bm PySem.F.plainAttrs_list PySem.F.slot_list_pop PySem.F.type_list_pop mt_popAt (pv 3) (pa_cons (pcall D__law_draw hr.r (pa_cons (pv 0) (pa_cons (pe_callB call_len_seq (by rfl) T.n_len (by decide +kernel) (pa_cons (pv 3) pa_nil)) pa_nil))) pa_nil))) (pss_one (ps_expr (pmeth M_take_out hr.r (pv 4) (pa_cons (pe_ix (r := rIxT K) ix_tup (pv 6) pe_int (fun _ _ => rfl)) pa_nil))))) pss_nil) (pss_cons (ps_set (i := 3) sc__law_right.nd rfl (by first | exact Or.inl rfl | exact Or.inr rfl) (pcallG D__law_asked hr (pa_cons (pv 0) (pa_cons (pv 4) (pa_cons (pv 1) (pa_cons (pv 2) (pa_cons (pv 3) pa_nil))))))) (pss_one (ps_if (PW.pt (pw_or (pt_cmpR op_isN (pv 3) pe_non (nomark _)) (pw_or1 (pt_cmpR (op_neD hr.r.units) (pmeth0 M_blocks hr.r (pv 4)) (pv 3) (nomark _))))) (pss_one (ps_ret pe_bl)) pss_nil))))) (pss_one (ps_ret pe_bl))))))), ?_⟩)
  · obtain ⟨r, rfl, _⟩ := h
    rfl
  · obtain ⟨r, rfl, hR, q⟩ := h
    have sl : sizeLine = 16777216 := sizeLine_eq
    have big : (10 : Int) ^ 40 = 10000000000000000000000000000000000000000 := by decide
    refine ⟨_, rfl, r, 3, rfl, hR, by decide, by omega, fun d H1 d0 d1 t1 => ⟨_, _, rfl, rfl, _, rfl, ?_⟩⟩
    by_cases h0 : d > 0
    case' pos =>
      refine iteT' (decide_eq_true h0) ⟨_, rfl, r, 5, 4, rfl, t1.1, by decide, by decide, by decide, by decide, fun s ns H2 g hl kl t2 => ?_⟩
    case' neg =>
      refine iteF' (decide_eq_false h0) ⟨_, rfl, r, rfl, t1.1, fun s ns H2 g hl kl t2 => ?_⟩
    all_goals
      have nsr : s ≠ r := (t1.1.ne hl).symm
      replace t2 := t1.trans t2
      have g8 := g.len
      obtain ⟨ys, z, ez⟩ := last_of g.len.1
      have zr := g.rng _ _ (show ns[ns.length - 1]? = some z by rw [ez]; exact last_get ys z)
      have atL : atI (ns.map V.int) (-1) = some (.int z) := by rw [ez]; exact at_last ys z
      refine go_nm (nx_of (σ' := [some (.ref r), some (.ref s), none, none, none, none, none]) rfl ?_)
      refine ⟨_, rfl, _, rfl, s, _, _, _, rfl, rfl, SqL.of kl, atL, _, rfl, r, 9, rfl, t2.1, by decide, by omega, fun e1 H3 e10 e11 t3 => ⟨_, _, rfl, rfl, .inr ⟨by omega, by omega⟩, _, _, rfl, rfl, ?_⟩⟩
      have kl3 := t3.2 _ _ nsr kl
      replace t3 := t2.trans t3
      have m1 := Int.mul_le_mul_of_nonneg_left (show e1 ≤ 8 by omega) (show 0 ≤ z by omega)
      have m0 := Int.mul_nonneg (show 0 ≤ z by omega) e10
      refine ⟨_, rfl, _, rfl, _, rfl, s, _, _, _, rfl, rfl, SqL.of kl3, atL, r, z, rfl, t3.1, by omega, by omega, fun e2 H4 e20 e21 t4 => ⟨_, _, rfl, rfl, ?_⟩⟩
      have kl4 := t4.2 _ _ nsr kl3
      replace t4 := t3.trans t4
      refine go_nm (nx_of (σ' := [some (.ref r), some (.ref s), some (.int (z * e1 + 1 + e2)), none, none, none, none]) rfl ?_)
      obtain ⟨n, en, n1, n2⟩ : ∃ n, z * e1 + 1 + e2 = n ∧ 1 ≤ n ∧ n ≤ 100000000000 := ⟨_, rfl, by omega, by omega⟩
      rw [en]
      refine ⟨_, rfl, _, rfl, _, rfl, r, s, ns, n, 16, 4, rfl, t4.1, kl4, nsr, g, n1, n2, by decide, by decide, by decide, by decide, fun a qs bs H5 ha0 t5 ha rf wf bl16 => ?_⟩
      have kl5 := t5.2 _ _ nsr kl4
      replace t5 := t4.trans t5
      refine go_nm (nx_of (σ' := [some (.ref r), some (.ref s), some (.int n), some (.ref a), none, none, none]) rfl ?_)
      refine ⟨_, rfl, _, rfl, _, rfl, s, a, ns, n, qs, bs, rfl, kl5, g, ha, rf, wf, by omega, n1, n2, fun y zp bl dx dz l ps H6 s6 L6 hy hbl hzp hl0 => ?_⟩
      refine go_nm (nx_of (σ' := [some (.ref r), some (.ref s), some (.int n), some (.ref a), some (.ref y), none, none]) rfl ?_)
      have t6 := t5.trans (Stp.same t5.1 s6)
      have A6 : Al K r s a y zp bl dx ps qs ns n bs H6 := ⟨t6.1, s6 _ _ kl5, s6 _ _ ha, rf.same s6, nsr, ne_of_none ha hbl, L6, by
        obtain ⟨dz2, l2, z1, z2, z3⟩ := L6.ap
        rw [hzp] at z1
        have e3 := (HO.ins.inj (Option.some.inj z1)).2.2
        unfold szF at e3
        have e4 := (Prod.mk.inj (List.cons.inj e3).1).2
        have e5 : l = l2 := V.ref.inj e4
        subst e5
        exact ⟨dz, l, hzp, z2, z3, (t5.1.ne hl0).symm⟩⟩
      have hyH : H y = none := t5.free hy
      have hbH : H bl = none := t5.free hbl
      have haH : H a = none := t4.free ha0
      refine ⟨_, rfl, r, 4, rfl, A6.rg, by decide, by omega, fun d2 H7 d20 d21 t7 => ⟨_, _, rfl, rfl, 1 + d2, rfl, by omega, by omega, ?_⟩⟩
      have A7 := A6.step t7
      replace t7 := t6.trans t7
      refine for_range (fun i σ G => ∃ (a' : Addr) (x5 x6 : Option V) (ps qs : List Addr) (bs : List Blk), σ = [some (.ref r), some (.ref s), some (.int n), some (.ref a'), some (.ref y), x5, x6] ∧ Al K r s a' y zp bl dx ps qs ns n bs G ∧ bs.length ≤ 16 + 40 * i ∧ H a' = none ∧ Stp r H G) ⟨a, none, none, ps, qs, bs, rfl, A7, by omega, haH, t7⟩ ?_ ?_
      · rintro i σ G hi ⟨a', x5, x6, ps, qs, bs, rfl, A, bl9, haH, st⟩
        have hi4 : i < 4 := by omega
        refine go_nmK (σ' := [some (.ref r), some (.ref s), some (.int n), some (.ref a'), some (.ref y), some (.int (0 + (i : Int))), x6]) rfl ?_
        have ql := A.rf.len
        refine ⟨_, rfl, (by show 0 ≤ sizeLine; decide), fun E1 hE1 => ?_⟩
        have sE := same_upd (o := .lst []) hE1
        have kE : (upd G E1 (.lst [])) E1 = some (.lst []) := upd_same
        generalize upd G E1 (.lst []) = G0 at sE kE
        have A0 := A.same sE
        have st0 := st.trans (Stp.same A.rg sE)
        refine ⟨a', E1, _, rfl, rfl, SqL.of A0.ha, SqL.of kE, _, rfl, ?_⟩
        by_cases hz : (qs.map V.ref).length = 0
        case' pos =>
          refine iteF' (by rw [decide_eq_true hz]; rfl) (iteF' rfl ?_)
          refine nx_of (σ' := [some (.ref r), some (.ref s), some (.int n), some (.ref a'), some (.ref y), some (.int (0 + (i : Int))), x6]) rfl ?_
          have AX := A0
          have lX := bl9
          have stX := st0
        case' neg =>
          refine iteT' (by rw [decide_eq_false hz]; rfl) ⟨_, rfl, r, 3, rfl, A0.rg, by decide, by omega, fun d3 G1 d30 d31 t8 => ⟨rfl, _, rfl, ?_⟩⟩
          by_cases hd : V.int d3 = V.int 0
          case' pos =>
            refine iteT' (decide_eq_true hd) ?_
            have A1 := A0.step t8
            have st1 := st0.trans t8
            rw [List.length_map] at hz
            refine ⟨_, rfl, .inl ⟨rfl, _, SqL.of A1.ha⟩, _, rfl, _, rfl, a', _, rfl, .inl (SqL.of A1.ha), r, _, rfl, A1.rg, (by rw [List.length_map]; omega), (by rw [List.length_map]; omega), fun d4 G2 d40 d41 t9 => ?_⟩
            rw [List.length_map] at d41
            obtain ⟨k, rfl⟩ : ∃ k : Nat, d4 = (k : Int) := ⟨d4.toNat, by omega⟩
            have A2 := A1.step t9
            have st2 := st1.trans t9
            obtain ⟨u, hu⟩ : ∃ u, qs[k]? = some u := ⟨_, List.getElem?_eq_getElem (by omega)⟩
            obtain ⟨b, hb, hT⟩ := A2.rf.get hu
            have hT' : G2 u = some (.tup [.int b.1, .int (b.2.1 : Nat), .bl b.2.2]) := hT
            have ntup : ∀ {c : Addr} {xs : List V}, G2 c = some (.tup xs) → c ≠ a' := fun {c xs} ec z => by
              rw [z, A2.ha] at ec
              cases ec
            refine ⟨a', qs.map V.ref, k, k, .ref u, rfl, rfl, A2.ha, by omega, by omega, seq_nat (by rw [List.length_map]; omega), (by rw [List.getElem?_map, hu]; rfl), ?_⟩
            have ek : ∀ c o, c ≠ a' → G2 c = some o → (upd G2 a' (.lst ((qs.map V.ref).eraseIdx k))) c = some o := fun c o nc ec => by
              rw [upd_ne nc]
              exact ec
            have ha3 : (upd G2 a' (.lst ((qs.map V.ref).eraseIdx k))) a' = some (.lst ((qs.eraseIdx k).map V.ref)) := by rw [upd_same, List.eraseIdx_eq_take_drop_succ, List.eraseIdx_eq_take_drop_succ, List.map_append, List.map_take, List.map_drop]
            generalize upd G2 a' (.lst ((qs.map V.ref).eraseIdx k)) = G3 at ek ha3
            refine go_nm (nx_of (σ' := [some (.ref r), some (.ref s), some (.int n), some (.ref a'), some (.ref y), some (.int (0 + (i : Int))), some (.ref u)]) rfl ?_)
            have L3 := A2.L.one A2.ha A2.ab ek
            have hT3 := ek _ _ (ntup hT') hT'
            refine ⟨_, rfl, y, dx, _, rfl, L3.at_, lay_nm (by decide +kernel), _, rfl, u, _, _, _, rfl, rfl, .inl (.inl hT3), rfl, y, zp, bl, dx, _, ns, n, b.1, bs, k, b, rfl, L3, hb, rfl, fun t ps3 G4 ht L4 kt bt => ?_⟩
            refine nx_of (σ' := [some (.ref r), some (.ref s), some (.int n), some (.ref a'), some (.ref y), some (.int (0 + (i : Int))), some (.ref u)]) rfl ?_
            have AX := A2.cut (fun c o c1 c2 c3 e => bt c o c2 c3 (ek c o c1 e)) L4 (bt _ _ A2.ya A2.ab ha3) ((A2.rf.era k).mono fun p xs e => bt p _ (fun z => by rw [z, A2.L.at_] at e; cases e) (fun z => by rw [z, A2.L.lst] at e; cases e) (ek p _ (ntup e) e))
            have lX : (bs.eraseIdx k).length ≤ 16 + 40 * i := Nat.le_trans (List.length_eraseIdx_le ..) bl9
            have stX : Stp r H G4 := ⟨AX.rg, fun c o c1 e => bt c o (fun z => by rw [z, hyH] at e; cases e) (fun z => by rw [z, hbH] at e; cases e) (ek c o (fun z => by rw [z, haH] at e; cases e) (st2.2 c o c1 e))⟩
          case' neg =>
            refine iteF' (decide_eq_false hd) ?_
            refine nx_of (σ' := [some (.ref r), some (.ref s), some (.int n), some (.ref a'), some (.ref y), some (.int (0 + (i : Int))), x6]) rfl ?_
            have AX := A0.step t8
            have lX := bl9
            have stX := st0.trans t8
        all_goals
          refine ⟨_, rfl, _, rfl, _, rfl, _, rfl, _, rfl, r, s, a', y, zp, bl, dx, _, _, ns, n, _, rfl, AX, n2, by omega, fun a2 ps2 qs2 bs2 G9 A9 l9 fr kp => ?_⟩
          refine go_nm (nx_of (σ' := [some (.ref r), some (.ref s), some (.int n), some (.ref a2), some (.ref y), some (.int (0 + (i : Int))), _]) rfl ?_)
          refine ⟨_, rfl, rfl, _, rfl, iteF' (decide_eq_false fun z => nomatch z) ⟨_, rfl, y, dx, _, rfl, A9.L.at_, lay_nm (by decide +kernel), y, zp, bl, dx, ps2, ns, n, bs2, rfl, A9.L, fun l2 hl2 => ?_⟩⟩
          have s10 := same_upd (o := .lst (ps2.map V.ref)) hl2
          have k10 : (upd G9 l2 (.lst (ps2.map V.ref))) l2 = some (.lst (ps2.map V.ref)) := upd_same
          generalize upd G9 l2 (.lst (ps2.map V.ref)) = G10 at s10 k10
          have A10 := A9.same s10
          have evb : PyData.eqv (.list (bs2.map blkD)) (.list (bs2.map blkD)) = true := by
            show PyData.eqvAll (bs2.map blkD) (bs2.map blkD) = true
            rw [eqv_blks]
            exact decide_eq_true rfl
          refine ⟨_, rfl, .list (bs2.map blkD), .list (bs2.map blkD), .lst (SqL.of k10) A10.L.rf.dp, .lst (SqL.of A10.ha) A10.rf.dp, shaped_blk _, shaped_blk _, _, rfl, iteF' (by rw [evb]; rfl) ?_⟩
          refine ⟨a2, _, _, ps2, qs2, bs2, rfl, A10, by omega, ?_, A10.rg, fun c o c1 e => s10 _ _ (kp c o c1 (fun z => by rw [z, hyH] at e; cases e) (fun z => by rw [z, hbH] at e; cases e) (stX.2 c o c1 e))⟩
          rcases fr with rfl | fr
          · exact haH
          · exact stX.free fr
      · rintro σ G ⟨a', x5, x6, ps, qs, bs, rfl, A, bl9, haH, st⟩
        exact q G st
end
end K44

set_option Elab.async false
set_option linter.all false
set_option maxRecDepth 100000
set_option maxHeartbeats 1600000
set_option pp.maxSteps 1200
namespace K44
open PySem PySem.Spec PyProof.Rows L2 Gu Ex
section
variable {P : Program} {w : World} {K : PySem.W.Frag} {mg : Str → Option Value} {base : Heap} {f : Addr} {fd : FuncData}
def spLaw (K : PySem.W.Frag) : Sp := fun vs H Q _ => ∃ (a : Addr) (ns : List Int), vs = [.ref a] ∧ SqL K H a (ns.map V.int) ∧ ns.length ≤ 63 ∧ ∀ H', Q (.bl true) H'
theorem sc_law : FnScope ["_law_script", "_law_k"] ["_law_script"] (defScope (top 62)) := ⟨rfl, rfl, rfl, by decide +kernel, rfl, by decide +kernel, by decide +kernel⟩
theorem ok_law (T : Tx K mg) (D__law_rng : Df P w K mg base 1 "_law_rng" ["_law_script", "_law_k"] (spRng K)) (D__law_right : DfG P w K mg base 15 "_law_right" ["_law_rng_here"] spRight)
    (F : FnP K "law" "law" (top 62) f fd) : FnG P w K mg base CX0 16 f fd ["_law_script"] (spLaw K) := by
  refine okG F sc_law (fun vs H Q E h => ?_) (fun cdv A outer s H vs Q E hr h => ⟨_, PSs.nox (pss_one (ps_ret (pe_callB (cr_all rfl) (by rfl) T.n_all (by decide +kernel) (pa_cons (pe_lc (own := [("_law_k", 1)]) (g := gName 1) rfl sc_law.nd (pi_range1 rfl T.n_range (pa_cons (pe_callB (call_max2 rfl) (by rfl) T.n_max (by decide +kernel) (pa_cons pe_int (pa_cons (pe_callB (call_min2 rfl) (by rfl) T.n_min (by decide +kernel) (pa_cons (pe_callB call_len_seq (by rfl) T.n_len (by decide +kernel) (pa_cons (pv 0) pa_nil)) (pa_cons pe_int pa_nil))) pa_nil))) pa_nil)) (blkOk_by (own := [("_law_k", 1)]) (N := ["_law_script", "_law_k"]) (sc := defScope (top 62)) (by decide +kernel)) (fun _ _ _ _ _ => pg_name (i := 1) sc_law.nd rfl (Or.inl rfl)) (fun _ _ _ _ _ => pts_nil) (fun _ _ _ _ _ => (pcallG D__law_right hr (pa_cons (pcall D__law_rng hr.r (pa_cons (pv 0) (pa_cons (pv 1) pa_nil))) pa_nil)))) pa_nil)))), ?_⟩)
  · obtain ⟨a, ns, rfl, _⟩ := h
    rfl
  · obtain ⟨a, ns, rfl, hS, hlen, q⟩ := h
    refine ⟨_, rfl, a, _, rfl, .inl hS, _, _, rfl, _, _, rfl, ?_⟩
    obtain ⟨j, ej, j1, j2⟩ : ∃ j : Int, (if (if (4 : Int) < ((ns.map V.int).length : Int) then 4 else ((ns.map V.int).length : Int)) > 1 then (if (4 : Int) < ((ns.map V.int).length : Int) then 4 else ((ns.map V.int).length : Int)) else 1) = j ∧ 1 ≤ j ∧ j ≤ 4 := by
      refine ⟨_, rfl, ?_, ?_⟩
      · split <;> omega
      · split <;> split <;> omega
    refine ⟨j, (by rw [ej]), by omega, by omega, fun D hD => ?_⟩
    refine lc_range (fun i H' => H' D = some (.lst ((List.replicate i true).map V.bl)) ∧ Same H H') ⟨upd_same, same_upd hD⟩ ?_ ?_
    · rintro i H' hi ⟨hD', sm⟩
      have hi2 : i < 4 := by omega
      refine ⟨rfl, _, rfl, _, rfl, a, ns, i, (by rw [Int.zero_add]; rfl), sm.seq hS, by omega, fun p H1 hp sm1 rg => ?_⟩
      refine ⟨p, rfl, rg, fun H2 st => ?_⟩
      have hD1 : H1 D = some (.lst ((List.replicate i true).map V.bl)) := sm1 _ _ hD'
      have nDp : D ≠ p := ne_of_none hD' hp
      refine ⟨_, st.2 D _ nDp hD1, small1000 (by rw [trues_len]; omega), by rw [upd_same, trues_more], fun b o e => ?_⟩
      have e' := sm b o e
      rw [upd_ne (ne_of_none e hD)]
      exact st.2 b o (ne_of_none e' hp) (sm1 b o e')
    · rintro H' ⟨hD', sm⟩
      refine ⟨D, List.replicate j.toNat true, rfl, SqL.of hD', ?_⟩
      rw [all_trues]
      exact q _
end
end K44

set_option Elab.async false
set_option linter.all false
set_option maxRecDepth 100000
set_option maxHeartbeats 0
namespace K44
open PySem PySem.Spec PyProof.Rows L2 Gu Ex
theorem run (w : World) : HandSHeadRun.RunEq R (PySem.W.view R.prog [62]) hk ob 16000 loose w :=
  fun os => in_parts (r_looks w os) (r_seen w os) (r_fa w os) (r_fn w os) (r_fw w os) (r_ex w os) (r_pr w os)
section
variable {P : Program} {w : World} {K : PySem.W.Frag} {h : Heap} {mg : Str → Option Value} {base : Heap}
theorem tx (X : K.In h) (G : h.Ns mainGlobals mg) (c : He.SaysD fa fn K) (x : exB K = true) : Tx K mg := by
  obtain ⟨x1, x⟩ := He.ba x
  obtain ⟨x2, x⟩ := He.ba x
  obtain ⟨x3, x⟩ := He.ba x
  obtain ⟨x4, x⟩ := He.ba x
  obtain ⟨x5, x⟩ := He.ba x
  obtain ⟨x6, x⟩ := He.ba x
  obtain ⟨x_kw, x⟩ := He.ba x
  obtain ⟨xi_S, x⟩ := He.ba x
  obtain ⟨xi_L, x⟩ := He.ba x
  obtain ⟨xp_top, x⟩ := He.ba x
  obtain ⟨xo_top, x⟩ := He.ba x
  obtain ⟨xp_sizes, x⟩ := He.ba x
  obtain ⟨xo_sizes, x⟩ := He.ba x
  have hsys : SysOk K := by
    unfold sysB at x4
    split at x4
    · rename_i o e
      exact ⟨o, e, of_decide_eq_true x4⟩
    · cases x4
  exact ⟨He.free_ok X G (c.fact 44 (f := .free "len") rfl),
    He.free_ok X G (c.fact 45 (f := .free "isinstance") rfl),
    He.free_ok X G (c.fact 46 (f := .free "int") rfl),
    He.free_ok X G (c.fact 47 (f := .free "bool") rfl),
    He.free_ok X G (c.fact 48 (f := .free "list") rfl),
    He.free_ok X G (c.fact 49 (f := .free "range") rfl),
    He.free_ok X G (c.fact 50 (f := .free "divmod") rfl),
    He.free_ok X G (c.fact 51 (f := .free "abs") rfl),
    He.free_ok X G (c.fact 52 (f := .free "max") rfl),
    He.free_ok X G (c.fact 53 (f := .free "min") rfl),
    He.free_ok X G (c.fact 54 (f := .free "enumerate") rfl),
    He.free_ok X G (c.fact 55 (f := .free "all") rfl),
    He.free_ok X G (c.fact 56 (f := .free "sum") rfl),
    He.free_ok X G (c.fact 57 (f := .free "tuple") rfl),
    He.free_ok X G (c.fact 58 (f := .free "sorted") rfl),
    He.free_ok X G (c.fact 59 (f := .free "repr") rfl),
    He.free_ok X G (c.fact 60 (f := .free "set") rfl),
    He.free_ok X G (c.fact 61 (f := .free "reversed") rfl),
    He.free_ok X G (c.fact 62 (f := .free "zip") rfl),
    He.glo_ok X G (c.fact 42 (f := .glo "Sizes") rfl),
    He.cls_ok (c.fact 63 (f := .cls "Sizes") rfl),
    He.noat_ok (c.fact 64 (f := .noat "Sizes" "size_list") rfl),
    rdB_ok x1,
    cvB_ok x2,
    cvB_ok x3,
    hsys,
    cvB_ok x5,
    He.glo_ok X G (c.fact 43 (f := .glo "Layout") rfl),
    He.cls_ok (c.fact 74 (f := .cls "Layout") rfl),
    He.noat_ok (c.fact 76 (f := .noat "Layout" "size_table") rfl),
    He.noat_ok (c.fact 77 (f := .noat "Layout" "cell_count") rfl),
    He.noat_ok (c.fact 78 (f := .noat "Layout" "free_count") rfl),
    He.noat_ok (c.fact 79 (f := .noat "Layout" "block_list") rfl),
    insB_ok (He.cls_ok (c.fact 63 (f := .cls "Sizes") rfl)) xi_S,
    insB_ok (He.cls_ok (c.fact 74 (f := .cls "Layout") rfl)) xi_L,
    conB_ok x6⟩
theorem df {x : Str} {ps : List Str} {sp : Sp} {k : Nat} {st : Stmt} {fd : FuncData} (X : K.In h) (G : h.Ns mainGlobals mg) (g : (He.Fa.glo x).ok K = true) (F : FnP K x x st (He.ga K x) fd)
    (hb : ∀ (kV doc pm : Value) (an : Option Addr) (cdv ct : Value) (us : List Value), us.length = ps.length → bindArgs (PySem.W.fnOf x x (defArgs st) (defBody st) (defScope st) .none kV doc pm an cdv ct) ⟨us, []⟩ = pure (ps.zip us))
    (ok : FnOk P w K mg base CX0 k (He.ga K x) fd ps sp) : Df P w K mg base k x ps sp := ⟨⟨fd, ok, F.bindsN hb⟩, He.glo_ok X G g, F.kp⟩
theorem dfG {x : Str} {ps : List Str} {sp : Sp} {k : Nat} {st : Stmt} {fd : FuncData} (X : K.In h) (G : h.Ns mainGlobals mg) (g : (He.Fa.glo x).ok K = true) (F : FnP K x x st (He.ga K x) fd)
    (hb : ∀ (kV doc pm : Value) (an : Option Addr) (cdv ct : Value) (us : List Value), us.length = ps.length → bindArgs (PySem.W.fnOf x x (defArgs st) (defBody st) (defScope st) .none kV doc pm an cdv ct) ⟨us, []⟩ = pure (ps.zip us))
    (ok : FnG P w K mg base CX0 k (He.ga K x) fd ps sp) : DfG P w K mg base k x ps sp := ⟨⟨fd, ok, F.bindsN hb⟩, He.glo_ok X G g, F.kp⟩
theorem dfK {x : Str} {ps ks : List Str} {j : List Nat} {sp : Sp} {k : Nat} {st : Stmt} {fd : FuncData} (X : K.In h) (G : h.Ns mainGlobals mg) (g : (He.Fa.glo x).ok K = true) (F : FnP K x x st (He.ga K x) fd)
    (hb : ∀ (kV doc pm : Value) (an : Option Addr) (cdv ct : Value) (ws : List Value), ws.length = ks.length → bindArgs (PySem.W.fnOf x x (defArgs st) (defBody st) (defScope st) .none kV doc pm an cdv ct) ⟨[], ks.zip ws⟩ = pure (ps.zip (j.filterMap fun i => ws[i]?)))
    (ok : FnOk P w K mg base CX0 k (He.ga K x) fd ps sp) : DfK P w K mg base k x ps ks j sp := by
  refine ⟨⟨fd, ok, fun s ws hl => ?_⟩, He.glo_ok X G g, F.kp⟩
  obtain ⟨oc, od, dV, kV, doc, pm, an, cdv, ct, osl, rfl, lk, hcd, hD, hK⟩ := F.ex
  rcases hD with ⟨_, rfl⟩ | ⟨e, _⟩
  · exact .of_eq (hb kV doc pm an cdv ct ws hl)
  · exact absurd rfl e
theorem facts {f : Addr} (X : K.In h) (G : h.Ns mainGlobals mg) (hfa : mg ("law" : Str) = some (.ref f)) (c0 : ob0 K = vl0) :
    ∃ fd : FuncData, (∀ (s : Shared) (v : Value), BindsTo s fd ⟨[v], []⟩ [("_law_script", v)]) ∧ ∀ base : Heap, K.In base → base.Ns mainGlobals mg → FnG P w K mg base CX0 16 f fd ["_law_script"] (spLaw K) := by
  have c : He.SaysD fa fn K := congrArg (fun z : AlE => z.1) c0
  have x : exB K = true := congrArg (fun z : AlE => z.2.1) c0
  have vt_top : fnAt K (pgA K (He.ga K "Sizes") "top") = v_top := congrArg (fun z : AlE => z.2.2.1) c0
  have vt_sizes : fnAt K (pgA K (He.ga K "Layout") "sizes") = v_sizes := congrArg (fun z : AlE => z.2.2.2) c0
  have T := tx X G c x
  obtain ⟨x1, x⟩ := He.ba x
  obtain ⟨x2, x⟩ := He.ba x
  obtain ⟨x3, x⟩ := He.ba x
  obtain ⟨x4, x⟩ := He.ba x
  obtain ⟨x5, x⟩ := He.ba x
  obtain ⟨x6, x⟩ := He.ba x
  obtain ⟨x_kw, x⟩ := He.ba x
  obtain ⟨xi_S, x⟩ := He.ba x
  obtain ⟨xi_L, x⟩ := He.ba x
  obtain ⟨xp_top, x⟩ := He.ba x
  obtain ⟨xo_top, x⟩ := He.ba x
  obtain ⟨xp_sizes, x⟩ := He.ba x
  obtain ⟨xo_sizes, x⟩ := He.ba x
  obtain ⟨fdP_top, FP_top⟩ := fun_at vt_top xo_top
  obtain ⟨fdP_sizes, FP_sizes⟩ := fun_at vt_sizes xo_sizes
  obtain ⟨fd0, F0⟩ : ∃ fd, FnP K "is_integer" "is_integer" (top 13) (He.ga K "is_integer") fd := c.def_ 0 (d := dOf ("is_integer", none) "is_integer" "is_integer" (top 13)) rfl
  obtain ⟨fd1, F1⟩ : ∃ fd, FnP K "size_problem" "size_problem" (top 17) (He.ga K "size_problem") fd := c.def_ 1 (d := dOf ("size_problem", none) "size_problem" "size_problem" (top 17)) rfl
  obtain ⟨fd2, F2⟩ : ∃ fd, FnP K "check_sizes" "check_sizes" (top 18) (He.ga K "check_sizes") fd := c.def_ 2 (d := dOf ("check_sizes", none) "check_sizes" "check_sizes" (top 18)) rfl
  obtain ⟨fd3, F3⟩ : ∃ fd, FnP K "is_cells" "is_cells" (top 14) (He.ga K "is_cells") fd := c.def_ 3 (d := dOf ("is_cells", none) "is_cells" "is_cells" (top 14)) rfl
  obtain ⟨fd4, F4⟩ : ∃ fd, FnP K "check_cells" "check_cells" (top 15) (He.ga K "check_cells") fd := c.def_ 4 (d := dOf ("check_cells", none) "check_cells" "check_cells" (top 15)) rfl
  obtain ⟨fd5, F5⟩ : ∃ fd, FnP K "check_numbers" "check_numbers" (top 16) (He.ga K "check_numbers") fd := c.def_ 5 (d := dOf ("check_numbers", none) "check_numbers" "check_numbers" (top 16)) rfl
  obtain ⟨fd6, F6⟩ : ∃ fd, FnP K "__init__" "Sizes.__init__" (inClass (top 19) 4) (He.ma K (He.ga K "Sizes") "__init__") fd := c.def_ 6 (d := dOf ("Sizes", some "__init__") "__init__" "Sizes.__init__" (inClass (top 19) 4)) rfl
  obtain ⟨fd7, F7⟩ : ∃ fd, FnP K "has_level" "Sizes.has_level" (inClass (top 19) 12) (He.ma K (He.ga K "Sizes") "has_level") fd := c.def_ 7 (d := dOf ("Sizes", some "has_level") "has_level" "Sizes.has_level" (inClass (top 19) 12)) rfl
  obtain ⟨fd8, F8⟩ : ∃ fd, FnP K "check_level" "Sizes.check_level" (inClass (top 19) 13) (He.ma K (He.ga K "Sizes") "check_level") fd := c.def_ 8 (d := dOf ("Sizes", some "check_level") "check_level" "Sizes.check_level" (inClass (top 19) 13)) rfl
  obtain ⟨fd9, F9⟩ : ∃ fd, FnP K "size" "Sizes.size" (inClass (top 19) 14) (He.ma K (He.ga K "Sizes") "size") fd := c.def_ 9 (d := dOf ("Sizes", some "size") "size" "Sizes.size" (inClass (top 19) 14)) rfl
  obtain ⟨fd10, F10⟩ : ∃ fd, FnP K "whole" "Sizes.whole" (inClass (top 19) 16) (He.ma K (He.ga K "Sizes") "whole") fd := c.def_ 10 (d := dOf ("Sizes", some "whole") "whole" "Sizes.whole" (inClass (top 19) 16)) rfl
  obtain ⟨fd11, F11⟩ : ∃ fd, FnP K "__len__" "Sizes.__len__" (inClass (top 19) 6) (He.ma K (He.ga K "Sizes") "__len__") fd := c.def_ 11 (d := dOf ("Sizes", some "__len__") "__len__" "Sizes.__len__" (inClass (top 19) 6)) rfl
  obtain ⟨fd12, F12⟩ : ∃ fd, FnP K "all_sizes" "Sizes.all_sizes" (inClass (top 19) 11) (He.ma K (He.ga K "Sizes") "all_sizes") fd := c.def_ 12 (d := dOf ("Sizes", some "all_sizes") "all_sizes" "Sizes.all_sizes" (inClass (top 19) 11)) rfl
  obtain ⟨fd13, F13⟩ : ∃ fd, FnP K "counts" "Sizes.counts" (inClass (top 19) 17) (He.ma K (He.ga K "Sizes") "counts") fd := c.def_ 13 (d := dOf ("Sizes", some "counts") "counts" "Sizes.counts" (inClass (top 19) 17)) rfl
  obtain ⟨fd14, F14⟩ : ∃ fd, FnP K "pieces" "Sizes.pieces" (inClass (top 19) 18) (He.ma K (He.ga K "Sizes") "pieces") fd := c.def_ 14 (d := dOf ("Sizes", some "pieces") "pieces" "Sizes.pieces" (inClass (top 19) 18)) rfl
  obtain ⟨fd15, F15⟩ : ∃ fd, FnP K "__init__" "Layout.__init__" (inClass (top 34) 0) (He.ma K (He.ga K "Layout") "__init__") fd := c.def_ 15 (d := dOf ("Layout", some "__init__") "__init__" "Layout.__init__" (inClass (top 34) 0)) rfl
  obtain ⟨fd16, F16⟩ : ∃ fd, FnP K "count_below" "Layout.count_below" (inClass (top 34) 9) (He.ma K (He.ga K "Layout") "count_below") fd := c.def_ 16 (d := dOf ("Layout", some "count_below") "count_below" "Layout.count_below" (inClass (top 34) 9)) rfl
  obtain ⟨fd17, F17⟩ : ∃ fd, FnP K "index_of" "Layout.index_of" (inClass (top 34) 10) (He.ma K (He.ga K "Layout") "index_of") fd := c.def_ 17 (d := dOf ("Layout", some "index_of") "index_of" "Layout.index_of" (inClass (top 34) 10)) rfl
  obtain ⟨fd18, F18⟩ : ∃ fd, FnP K "block_at" "Layout.block_at" (inClass (top 34) 11) (He.ma K (He.ga K "Layout") "block_at") fd := c.def_ 18 (d := dOf ("Layout", some "block_at") "block_at" "Layout.block_at" (inClass (top 34) 11)) rfl
  obtain ⟨fd19, F19⟩ : ∃ fd, FnP K "first_taken" "Layout.first_taken" (inClass (top 34) 12) (He.ma K (He.ga K "Layout") "first_taken") fd := c.def_ 19 (d := dOf ("Layout", some "first_taken") "first_taken" "Layout.first_taken" (inClass (top 34) 12)) rfl
  obtain ⟨fd20, F20⟩ : ∃ fd, FnK K "put" "Layout.put" (inClass (top 34) 13) [("pinned", .bl false)] (He.ma K (He.ga K "Layout") "put") fd := c.def_ 20 (d := dOfK ("Layout", some "put") "put" "Layout.put" (inClass (top 34) 13) [("pinned", .bl false)]) rfl
  obtain ⟨fd21, F21⟩ : ∃ fd, FnP K "take_out" "Layout.take_out" (inClass (top 34) 14) (He.ma K (He.ga K "Layout") "take_out") fd := c.def_ 21 (d := dOf ("Layout", some "take_out") "take_out" "Layout.take_out" (inClass (top 34) 14)) rfl
  obtain ⟨fd22, F22⟩ : ∃ fd, FnP K "ranges_of" "Layout.ranges_of" (inClass (top 34) 16) (He.ma K (He.ga K "Layout") "ranges_of") fd := c.def_ 22 (d := dOf ("Layout", some "ranges_of") "ranges_of" "Layout.ranges_of" (inClass (top 34) 16)) rfl
  obtain ⟨fd23, F23⟩ : ∃ fd, FnP K "pinned_ranges" "Layout.pinned_ranges" (inClass (top 34) 18) (He.ma K (He.ga K "Layout") "pinned_ranges") fd := c.def_ 23 (d := dOf ("Layout", some "pinned_ranges") "pinned_ranges" "Layout.pinned_ranges" (inClass (top 34) 18)) rfl
  obtain ⟨fd24, F24⟩ : ∃ fd, FnP K "unpinned_levels" "Layout.unpinned_levels" (inClass (top 34) 19) (He.ma K (He.ga K "Layout") "unpinned_levels") fd := c.def_ 24 (d := dOf ("Layout", some "unpinned_levels") "unpinned_levels" "Layout.unpinned_levels" (inClass (top 34) 19)) rfl
  obtain ⟨fd25, F25⟩ : ∃ fd, FnP K "regions_in" "Layout.regions_in" (inClass (top 34) 21) (He.ma K (He.ga K "Layout") "regions_in") fd := c.def_ 25 (d := dOf ("Layout", some "regions_in") "regions_in" "Layout.regions_in" (inClass (top 34) 21)) rfl
  obtain ⟨fd26, F26⟩ : ∃ fd, FnP K "free_gaps" "Layout.free_gaps" (inClass (top 34) 17) (He.ma K (He.ga K "Layout") "free_gaps") fd := c.def_ 26 (d := dOf ("Layout", some "free_gaps") "free_gaps" "Layout.free_gaps" (inClass (top 34) 17)) rfl
  obtain ⟨fd27, F27⟩ : ∃ fd, FnP K "free_runs" "Layout.free_runs" (inClass (top 34) 20) (He.ma K (He.ga K "Layout") "free_runs") fd := c.def_ 27 (d := dOf ("Layout", some "free_runs") "free_runs" "Layout.free_runs" (inClass (top 34) 20)) rfl
  obtain ⟨fd28, F28⟩ : ∃ fd, FnP K "clear_cells" "Layout.clear_cells" (inClass (top 34) 24) (He.ma K (He.ga K "Layout") "clear_cells") fd := c.def_ 28 (d := dOf ("Layout", some "clear_cells") "clear_cells" "Layout.clear_cells" (inClass (top 34) 24)) rfl
  obtain ⟨fd29, F29⟩ : ∃ fd, FnP K "unpinned_cells" "Layout.unpinned_cells" (inClass (top 34) 25) (He.ma K (He.ga K "Layout") "unpinned_cells") fd := c.def_ 29 (d := dOf ("Layout", some "unpinned_cells") "unpinned_cells" "Layout.unpinned_cells" (inClass (top 34) 25)) rfl
  obtain ⟨fd30, F30⟩ : ∃ fd, FnP K "slack" "Layout.slack" (inClass (top 34) 26) (He.ma K (He.ga K "Layout") "slack") fd := c.def_ 30 (d := dOf ("Layout", some "slack") "slack" "Layout.slack" (inClass (top 34) 26)) rfl
  obtain ⟨fd31, F31⟩ : ∃ fd, FnP K "short_level" "Layout.short_level" (inClass (top 34) 27) (He.ma K (He.ga K "Layout") "short_level") fd := c.def_ 31 (d := dOf ("Layout", some "short_level") "short_level" "Layout.short_level" (inClass (top 34) 27)) rfl
  obtain ⟨fd32, F32⟩ : ∃ fd, FnP K "blocks" "Layout.blocks" (inClass (top 34) 7) (He.ma K (He.ga K "Layout") "blocks") fd := c.def_ 32 (d := dOf ("Layout", some "blocks") "blocks" "Layout.blocks" (inClass (top 34) 7)) rfl
  obtain ⟨fd33, F33⟩ : ∃ fd, FnP K "__repr__" "Layout.__repr__" (inClass (top 34) 3) (He.ma K (He.ga K "Layout") "__repr__") fd := c.def_ 33 (d := dOf ("Layout", some "__repr__") "__repr__" "Layout.__repr__" (inClass (top 34) 3)) rfl
  obtain ⟨fd34, F34⟩ : ∃ fd, FnP K "is_address" "is_address" (top 21) (He.ga K "is_address") fd := c.def_ 34 (d := dOf ("is_address", none) "is_address" "is_address" (top 21)) rfl
  obtain ⟨fd35, F35⟩ : ∃ fd, FnP K "check_range" "check_range" (top 22) (He.ga K "check_range") fd := c.def_ 35 (d := dOf ("check_range", none) "check_range" "check_range" (top 22)) rfl
  obtain ⟨fd36, F36⟩ : ∃ fd, FnP K "next_start" "next_start" (top 23) (He.ga K "next_start") fd := c.def_ 36 (d := dOf ("next_start", none) "next_start" "next_start" (top 23)) rfl
  obtain ⟨fd37, F37⟩ : ∃ fd, FnP K "gaps_between" "gaps_between" (top 24) (He.ga K "gaps_between") fd := c.def_ 37 (d := dOf ("gaps_between", none) "gaps_between" "gaps_between" (top 24)) rfl
  obtain ⟨fd38, F38⟩ : ∃ fd, FnP K "lies_below" "lies_below" (top 25) (He.ga K "lies_below") fd := c.def_ 38 (d := dOf ("lies_below", none) "lies_below" "lies_below" (top 25)) rfl
  obtain ⟨fd39, F39⟩ : ∃ fd, FnP K "is_region" "is_region" (top 26) (He.ga K "is_region") fd := c.def_ 39 (d := dOf ("is_region", none) "is_region" "is_region" (top 26)) rfl
  obtain ⟨fd40, F40⟩ : ∃ fd, FnP K "region_start" "region_start" (top 27) (He.ga K "region_start") fd := c.def_ 40 (d := dOf ("region_start", none) "region_start" "region_start" (top 27)) rfl
  obtain ⟨fd41, F41⟩ : ∃ fd, FnP K "count_regions" "count_regions" (top 28) (He.ga K "count_regions") fd := c.def_ 41 (d := dOf ("count_regions", none) "count_regions" "count_regions" (top 28)) rfl
  obtain ⟨fd42, F42⟩ : ∃ fd, FnP K "highest_level_at" "highest_level_at" (top 29) (He.ga K "highest_level_at") fd := c.def_ 42 (d := dOf ("highest_level_at", none) "highest_level_at" "highest_level_at" (top 29)) rfl
  obtain ⟨fd43, F43⟩ : ∃ fd, FnP K "first_run" "first_run" (top 30) (He.ga K "first_run") fd := c.def_ 43 (d := dOf ("first_run", none) "first_run" "first_run" (top 30)) rfl
  obtain ⟨fd44, F44⟩ : ∃ fd, FnP K "maximal_runs" "maximal_runs" (top 31) (He.ga K "maximal_runs") fd := c.def_ 44 (d := dOf ("maximal_runs", none) "maximal_runs" "maximal_runs" (top 31)) rfl
  obtain ⟨fd45, F45⟩ : ∃ fd, FnP K "check_fits" "check_fits" (top 33) (He.ga K "check_fits") fd := c.def_ 45 (d := dOf ("check_fits", none) "check_fits" "check_fits" (top 33)) rfl
  obtain ⟨fd46, F46⟩ : ∃ fd, FnP K "runs_by_level" "runs_by_level" (top 38) (He.ga K "runs_by_level") fd := c.def_ 46 (d := dOf ("runs_by_level", none) "runs_by_level" "runs_by_level" (top 38)) rfl
  obtain ⟨fd47, F47⟩ : ∃ fd, FnP K "take_region" "take_region" (top 39) (He.ga K "take_region") fd := c.def_ 47 (d := dOf ("take_region", none) "take_region" "take_region" (top 39)) rfl
  obtain ⟨fd48, F48⟩ : ∃ fd, FnP K "chosen_addresses" "chosen_addresses" (top 40) (He.ga K "chosen_addresses") fd := c.def_ 48 (d := dOf ("chosen_addresses", none) "chosen_addresses" "chosen_addresses" (top 40)) rfl
  obtain ⟨fd49, F49⟩ : ∃ fd, FnP K "room_by_moves" "room_by_moves" (top 41) (He.ga K "room_by_moves") fd := c.def_ 49 (d := dOf ("room_by_moves", none) "room_by_moves" "room_by_moves" (top 41)) rfl
  obtain ⟨fd50, F50⟩ : ∃ fd, FnP K "room" "room" (top 42) (He.ga K "room") fd := c.def_ 50 (d := dOf ("room", none) "room" "room" (top 42)) rfl
  obtain ⟨fd51, F51⟩ : ∃ fd, FnP K "_law_rng" "_law_rng" (top 44) (He.ga K "_law_rng") fd := c.def_ 51 (d := dOf ("_law_rng", none) "_law_rng" "_law_rng" (top 44)) rfl
  obtain ⟨fd52, F52⟩ : ∃ fd, FnP K "_law_draw" "_law_draw" (top 45) (He.ga K "_law_draw") fd := c.def_ 52 (d := dOf ("_law_draw", none) "_law_draw" "_law_draw" (top 45)) rfl
  obtain ⟨fd53, F53⟩ : ∃ fd, FnP K "_law_choice" "_law_choice" (top 46) (He.ga K "_law_choice") fd := c.def_ 53 (d := dOf ("_law_choice", none) "_law_choice" "_law_choice" (top 46)) rfl
  obtain ⟨fd54, F54⟩ : ∃ fd, FnP K "_law_sizes" "_law_sizes" (top 47) (He.ga K "_law_sizes") fd := c.def_ 54 (d := dOf ("_law_sizes", none) "_law_sizes" "_law_sizes" (top 47)) rfl
  obtain ⟨fd55, F55⟩ : ∃ fd, FnP K "_law_whole" "_law_whole" (top 48) (He.ga K "_law_whole") fd := c.def_ 55 (d := dOf ("_law_whole", none) "_law_whole" "_law_whole" (top 48)) rfl
  obtain ⟨fd56, F56⟩ : ∃ fd, FnP K "_law_pieces" "_law_pieces" (top 49) (He.ga K "_law_pieces") fd := c.def_ 56 (d := dOf ("_law_pieces", none) "_law_pieces" "_law_pieces" (top 49)) rfl
  obtain ⟨fd57, F57⟩ : ∃ fd, FnP K "_law_has_space" "_law_has_space" (top 50) (He.ga K "_law_has_space") fd := c.def_ 57 (d := dOf ("_law_has_space", none) "_law_has_space" "_law_has_space" (top 50)) rfl
  obtain ⟨fd58, F58⟩ : ∃ fd, FnP K "_law_blocks" "_law_blocks" (top 51) (He.ga K "_law_blocks") fd := c.def_ 58 (d := dOf ("_law_blocks", none) "_law_blocks" "_law_blocks" (top 51)) rfl
  obtain ⟨fd59, F59⟩ : ∃ fd, FnP K "_law_untouched" "_law_untouched" (top 52) (He.ga K "_law_untouched") fd := c.def_ 59 (d := dOf ("_law_untouched", none) "_law_untouched" "_law_untouched" (top 52)) rfl
  obtain ⟨fd60, F60⟩ : ∃ fd, FnP K "_law_runs" "_law_runs" (top 53) (He.ga K "_law_runs") fd := c.def_ 60 (d := dOf ("_law_runs", none) "_law_runs" "_law_runs" (top 53)) rfl
  obtain ⟨fd61, F61⟩ : ∃ fd, FnP K "_law_free_runs" "_law_free_runs" (top 54) (He.ga K "_law_free_runs") fd := c.def_ 61 (d := dOf ("_law_free_runs", none) "_law_free_runs" "_law_free_runs" (top 54)) rfl
  obtain ⟨fd62, F62⟩ : ∃ fd, FnP K "_law_chosen" "_law_chosen" (top 55) (He.ga K "_law_chosen") fd := c.def_ 62 (d := dOf ("_law_chosen", none) "_law_chosen" "_law_chosen" (top 55)) rfl
  obtain ⟨fd63, F63⟩ : ∃ fd, FnP K "_law_layout" "_law_layout" (top 56) (He.ga K "_law_layout") fd := c.def_ 63 (d := dOf ("_law_layout", none) "_law_layout" "_law_layout" (top 56)) rfl
  obtain ⟨fd64, F64⟩ : ∃ fd, FnP K "_law_far_sizes" "_law_far_sizes" (top 57) (He.ga K "_law_far_sizes") fd := c.def_ 64 (d := dOf ("_law_far_sizes", none) "_law_far_sizes" "_law_far_sizes" (top 57)) rfl
  obtain ⟨fd65, F65⟩ : ∃ fd, FnP K "_law_few" "_law_few" (top 58) (He.ga K "_law_few") fd := c.def_ 65 (d := dOf ("_law_few", none) "_law_few" "_law_few" (top 58)) rfl
  obtain ⟨fd66, F66⟩ : ∃ fd, FnP K "_law_are_enough" "_law_are_enough" (top 59) (He.ga K "_law_are_enough") fd := c.def_ 66 (d := dOf ("_law_are_enough", none) "_law_are_enough" "_law_are_enough" (top 59)) rfl
  obtain ⟨fd67, F67⟩ : ∃ fd, FnP K "_law_asked" "_law_asked" (top 60) (He.ga K "_law_asked") fd := c.def_ 67 (d := dOf ("_law_asked", none) "_law_asked" "_law_asked" (top 60)) rfl
  obtain ⟨fd68, F68⟩ : ∃ fd, FnP K "_law_right" "_law_right" (top 61) (He.ga K "_law_right") fd := c.def_ 68 (d := dOf ("_law_right", none) "_law_right" "_law_right" (top 61)) rfl
  obtain ⟨fd69, F69⟩ : ∃ fd, FnP K "law" "law" (top 62) (He.ga K "law") fd := c.def_ 69 (d := dOf ("law", none) "law" "law" (top 62)) rfl
  have e := hfa.symm.trans (He.glo_ok X G (c.fact 41 (f := .glo "law") rfl))
  cases e
  have b := FunD.bindsA (ps := ["_law_script"]) F69 (fun _ _ _ _ _ _ us hl => match us, hl with | [_], _ => rfl)
  refine ⟨_, fun s v => b s [v] rfl, fun base _ _ => ?_⟩
  have D_is_integer := df (P := P) (w := w) (base := base) X G (c.fact 0 (f := .glo "is_integer") rfl) F0 (ps := ["value"]) (fun _ _ _ _ _ _ us hl => match us, hl with | [_], _ => rfl) (ok_is_integer T F0)
  have D_size_problem := df (P := P) (w := w) (base := base) X G (c.fact 1 (f := .glo "size_problem") rfl) F1 (ps := ["values", "position"]) (fun _ _ _ _ _ _ us hl => match us, hl with | [_, _], _ => rfl) (ok_size_problem T D_is_integer F1)
  have D_check_sizes := df (P := P) (w := w) (base := base) X G (c.fact 2 (f := .glo "check_sizes") rfl) F2 (ps := ["values"]) (fun _ _ _ _ _ _ us hl => match us, hl with | [_], _ => rfl) (ok_check_sizes T D_size_problem F2)
  have D_Sizes : Kf P w K mg base _ "Sizes" ["self", "values"] _ := ⟨⟨fd6, ok_init T D_check_sizes F6, F6.bindsN (fun _ _ _ _ _ _ us hl => match us, hl with | [_, _], _ => rfl)⟩, He.glo_ok X G (c.fact 42 (f := .glo "Sizes") rfl), He.mkr_ok (c.fact 65 (f := .mkr "Sizes") rfl)⟩
  have P_top : Pf P w K mg base 1 "Sizes" "top" (spTop K) := ⟨He.cls_ok (c.fact 63 (f := .cls "Sizes") rfl), _, _, fdP_top, prB_ok xp_top, ok_top T FP_top, FunD.bindsN FP_top (fun _ _ _ _ _ _ us hl => match us, hl with | [_], _ => rfl)⟩
  have M_len : Mf P w K mg base _ "Sizes" "__len__" ["self"] _ := ⟨⟨fd11, ok_len T F11, F11.bindsN (fun _ _ _ _ _ _ us hl => match us, hl with | [_], _ => rfl)⟩, He.cls_ok (c.fact 63 (f := .cls "Sizes") rfl), He.meth_ok (c.fact 70 (f := .meth "Sizes" "__len__") rfl)⟩
  have M_all_sizes : Mf P w K mg base _ "Sizes" "all_sizes" ["self"] _ := ⟨⟨fd12, ok_all T F12, F12.bindsN (fun _ _ _ _ _ _ us hl => match us, hl with | [_], _ => rfl)⟩, He.cls_ok (c.fact 63 (f := .cls "Sizes") rfl), He.meth_ok (c.fact 71 (f := .meth "Sizes" "all_sizes") rfl)⟩
  have M_has_level : Mf P w K mg base _ "Sizes" "has_level" ["self", "level"] _ := ⟨⟨fd7, ok_has T D_is_integer P_top F7, F7.bindsN (fun _ _ _ _ _ _ us hl => match us, hl with | [_, _], _ => rfl)⟩, He.cls_ok (c.fact 63 (f := .cls "Sizes") rfl), He.meth_ok (c.fact 66 (f := .meth "Sizes" "has_level") rfl)⟩
  have M_check_level : Mf P w K mg base _ "Sizes" "check_level" ["self", "level"] _ := ⟨⟨fd8, ok_check_level T M_has_level F8, F8.bindsN (fun _ _ _ _ _ _ us hl => match us, hl with | [_, _], _ => rfl)⟩, He.cls_ok (c.fact 63 (f := .cls "Sizes") rfl), He.meth_ok (c.fact 67 (f := .meth "Sizes" "check_level") rfl)⟩
  have M_size : Mf P w K mg base _ "Sizes" "size" ["self", "level"] _ := ⟨⟨fd9, ok_size T M_check_level F9, F9.bindsN (fun _ _ _ _ _ _ us hl => match us, hl with | [_, _], _ => rfl)⟩, He.cls_ok (c.fact 63 (f := .cls "Sizes") rfl), He.meth_ok (c.fact 68 (f := .meth "Sizes" "size") rfl)⟩
  have D_is_cells := df (P := P) (w := w) (base := base) X G (c.fact 3 (f := .glo "is_cells") rfl) F3 (ps := ["value"]) (fun _ _ _ _ _ _ us hl => match us, hl with | [_], _ => rfl) (ok_is_cells T D_is_integer F3)
  have D_check_cells := df (P := P) (w := w) (base := base) X G (c.fact 4 (f := .glo "check_cells") rfl) F4 (ps := ["value"]) (fun _ _ _ _ _ _ us hl => match us, hl with | [_], _ => rfl) (ok_check_cells T D_is_cells F4)
  have D_check_numbers := df (P := P) (w := w) (base := base) X G (c.fact 5 (f := .glo "check_numbers") rfl) F5 (ps := ["value"]) (fun _ _ _ _ _ _ us hl => match us, hl with | [_], _ => rfl) (ok_nums T D_is_cells F5)
  have M_whole : Mf P w K mg base _ "Sizes" "whole" ["self", "cells", "level"] _ := ⟨⟨fd10, ok_whole T D_check_cells M_size F10, F10.bindsN (fun _ _ _ _ _ _ us hl => match us, hl with | [_, _, _], _ => rfl)⟩, He.cls_ok (c.fact 63 (f := .cls "Sizes") rfl), He.meth_ok (c.fact 69 (f := .meth "Sizes" "whole") rfl)⟩
  have M_counts : Mf P w K mg base _ "Sizes" "counts" ["self", "cells"] _ := ⟨⟨fd13, ok_counts T D_check_cells F13, F13.bindsN (fun _ _ _ _ _ _ us hl => match us, hl with | [_, _], _ => rfl)⟩, He.cls_ok (c.fact 63 (f := .cls "Sizes") rfl), He.meth_ok (c.fact 72 (f := .meth "Sizes" "counts") rfl)⟩
  have M_pieces : Mf P w K mg base _ "Sizes" "pieces" ["self", "cells"] _ := ⟨⟨fd14, ok_pieces T M_counts P_top F14, F14.bindsN (fun _ _ _ _ _ _ us hl => match us, hl with | [_, _], _ => rfl)⟩, He.cls_ok (c.fact 63 (f := .cls "Sizes") rfl), He.meth_ok (c.fact 73 (f := .meth "Sizes" "pieces") rfl)⟩
  have D_is_address := df (P := P) (w := w) (base := base) X G (c.fact 6 (f := .glo "is_address") rfl) F34 (ps := ["value"]) (fun _ _ _ _ _ _ us hl => match us, hl with | [_], _ => rfl) (ok_is_address T D_is_integer F34)
  have D_check_range := df (P := P) (w := w) (base := base) X G (c.fact 7 (f := .glo "check_range") rfl) F35 (ps := ["low", "high"]) (fun _ _ _ _ _ _ us hl => match us, hl with | [_, _], _ => rfl) (ok_check_range T D_is_integer D_is_address F35)
  have D_next_start := df (P := P) (w := w) (base := base) X G (c.fact 8 (f := .glo "next_start") rfl) F36 (ps := ["size", "address"]) (fun _ _ _ _ _ _ us hl => match us, hl with | [_, _], _ => rfl) (ok_next_start T F36)
  have D_gaps_between := df (P := P) (w := w) (base := base) X G (c.fact 9 (f := .glo "gaps_between") rfl) F37 (ps := ["ranges", "length"]) (fun _ _ _ _ _ _ us hl => match us, hl with | [_, _], _ => rfl) (ok_gaps T F37)
  have D_lies_below := df (P := P) (w := w) (base := base) X G (c.fact 10 (f := .glo "lies_below") rfl) F38 (ps := ["sizes", "level", "address", "end"]) (fun _ _ _ _ _ _ us hl => match us, hl with | [_, _, _, _], _ => rfl) (ok_below T M_size F38)
  have D_is_region := df (P := P) (w := w) (base := base) X G (c.fact 11 (f := .glo "is_region") rfl) F39 (ps := ["sizes", "length", "level", "address"]) (fun _ _ _ _ _ _ us hl => match us, hl with | [_, _, _, _], _ => rfl) (ok_is_region T D_check_cells M_has_level D_is_address D_lies_below F39)
  have D_region_start := df (P := P) (w := w) (base := base) X G (c.fact 12 (f := .glo "region_start") rfl) F40 (ps := ["sizes", "level", "address"]) (fun _ _ _ _ _ _ us hl => match us, hl with | [_, _, _], _ => rfl) (ok_region_start T D_is_address M_size F40)
  have D_count_regions := df (P := P) (w := w) (base := base) X G (c.fact 13 (f := .glo "count_regions") rfl) F41 (ps := ["sizes", "level", "low", "high"]) (fun _ _ _ _ _ _ us hl => match us, hl with | [_, _, _, _], _ => rfl) (ok_count_regions T D_check_range D_region_start D_next_start M_size F41)
  have D_highest_level_at := df (P := P) (w := w) (base := base) X G (c.fact 14 (f := .glo "highest_level_at") rfl) F42 (ps := ["sizes", "low", "high"]) (fun _ _ _ _ _ _ us hl => match us, hl with | [_, _, _], _ => rfl) (ok_high T P_top D_lies_below F42)
  have D_first_run := df (P := P) (w := w) (base := base) X G (c.fact 15 (f := .glo "first_run") rfl) F43 (ps := ["sizes", "low", "high"]) (fun _ _ _ _ _ _ us hl => match us, hl with | [_, _, _], _ => rfl) (ok_frun T P_top M_size D_highest_level_at D_count_regions D_next_start D_region_start F43)
  have D_maximal_runs := df (P := P) (w := w) (base := base) X G (c.fact 16 (f := .glo "maximal_runs") rfl) F44 (ps := ["sizes", "low", "high"]) (fun _ _ _ _ _ _ us hl => match us, hl with | [_, _, _], _ => rfl) (ok_max T D_check_range M_size D_first_run F44)
  have D_Layout : Kf P w K mg base _ "Layout" ["self", "sizes", "length"] _ := ⟨⟨fd15, ok_new T D_check_cells F15, F15.bindsN (fun _ _ _ _ _ _ us hl => match us, hl with | [_, _, _], _ => rfl)⟩, He.glo_ok X G (c.fact 43 (f := .glo "Layout") rfl), He.mkr_ok (c.fact 75 (f := .mkr "Layout") rfl)⟩
  have M_lrepr : MfG P w K mg base _ "Layout" "__repr__" ["self"] _ := ⟨⟨fd33, ok_lrepr T F33, F33.bindsN (fun _ _ _ _ _ _ us hl => match us, hl with | [_], _ => rfl)⟩, He.cls_ok (c.fact 74 (f := .cls "Layout") rfl), He.meth_ok (c.fact 97 (f := .meth "Layout" "__repr__") rfl)⟩
  have P_sizes : Pf P w K mg base 1 "Layout" "sizes" (spSzs K) := ⟨He.cls_ok (c.fact 74 (f := .cls "Layout") rfl), _, _, fdP_sizes, prB_ok xp_sizes, ok_szs T FP_sizes, FunD.bindsN FP_sizes (fun _ _ _ _ _ _ us hl => match us, hl with | [_], _ => rfl)⟩
  have M_count_below : Mf P w K mg base _ "Layout" "count_below" ["self", "address"] _ := ⟨⟨fd16, ok_cb T F16, F16.bindsN (fun _ _ _ _ _ _ us hl => match us, hl with | [_, _], _ => rfl)⟩, He.cls_ok (c.fact 74 (f := .cls "Layout") rfl), He.meth_ok (c.fact 80 (f := .meth "Layout" "count_below") rfl)⟩
  have M_index_of : Mf P w K mg base _ "Layout" "index_of" ["self", "address"] _ := ⟨⟨fd17, ok_ix T D_is_integer M_count_below F17, F17.bindsN (fun _ _ _ _ _ _ us hl => match us, hl with | [_, _], _ => rfl)⟩, He.cls_ok (c.fact 74 (f := .cls "Layout") rfl), He.meth_ok (c.fact 81 (f := .meth "Layout" "index_of") rfl)⟩
  have M_block_at : Mf P w K mg base _ "Layout" "block_at" ["self", "address"] _ := ⟨⟨fd18, ok_at T D_is_address M_count_below M_size F18, F18.bindsN (fun _ _ _ _ _ _ us hl => match us, hl with | [_, _], _ => rfl)⟩, He.cls_ok (c.fact 74 (f := .cls "Layout") rfl), He.meth_ok (c.fact 82 (f := .meth "Layout" "block_at") rfl)⟩
  have M_first_taken : Mf P w K mg base _ "Layout" "first_taken" ["self", "low", "high"] _ := ⟨⟨fd19, ok_first T M_block_at M_count_below F19, F19.bindsN (fun _ _ _ _ _ _ us hl => match us, hl with | [_, _, _], _ => rfl)⟩, He.cls_ok (c.fact 74 (f := .cls "Layout") rfl), He.meth_ok (c.fact 83 (f := .meth "Layout" "first_taken") rfl)⟩
  have M_put_kw : MfK P w K mg base 8 "Layout" "put" ["self", "level", "address", "pinned"] 3 ["pinned"] (spPut K) := ⟨⟨fd20, ok_put T M_size D_is_region M_first_taken M_count_below F20, bindsK F20 (fun _ _ _ _ _ _ us ws hu hw => match us, ws, hu, hw with | [_, _, _], [_], _, _ => rfl)⟩, He.cls_ok (c.fact 74 (f := .cls "Layout") rfl), He.meth_ok (c.fact 84 (f := .meth "Layout" "put") rfl)⟩
  have M_put_d : MfD P w K mg base 8 "Layout" "put" ["self", "level", "address", "pinned"] [.bl false] (spPut K) := by
    obtain ⟨ds, vd, bd⟩ := FunD.binds0 F20 (ps := ["self", "level", "address", "pinned"]) 3 (List.cons_ne_nil _ _) rfl (fun D doc pm an cdv ct us ks h1 h2 => match us, ks, h1, h2 with | [_, _, _], [_], _, _ => ⟨_, _, _, _, _, _, rfl, rfl, rfl⟩)
    exact ⟨⟨fd20, ds, ok_put T M_size D_is_region M_first_taken M_count_below F20, vd, bd⟩, He.cls_ok (c.fact 74 (f := .cls "Layout") rfl), He.meth_ok (c.fact 84 (f := .meth "Layout" "put") rfl)⟩
  have M_take_out : Mf P w K mg base _ "Layout" "take_out" ["self", "address"] _ := ⟨⟨fd21, ok_take T M_index_of M_size F21, F21.bindsN (fun _ _ _ _ _ _ us hl => match us, hl with | [_, _], _ => rfl)⟩, He.cls_ok (c.fact 74 (f := .cls "Layout") rfl), He.meth_ok (c.fact 85 (f := .meth "Layout" "take_out") rfl)⟩
  have M_ranges_of : Mf P w K mg base _ "Layout" "ranges_of" ["self", "blocks"] _ := ⟨⟨fd22, ok_ranges T M_size F22, F22.bindsN (fun _ _ _ _ _ _ us hl => match us, hl with | [_, _], _ => rfl)⟩, He.cls_ok (c.fact 74 (f := .cls "Layout") rfl), He.meth_ok (c.fact 86 (f := .meth "Layout" "ranges_of") rfl)⟩
  have M_pinned_ranges : Mf P w K mg base _ "Layout" "pinned_ranges" ["self"] _ := ⟨⟨fd23, ok_pinned T M_ranges_of F23, F23.bindsN (fun _ _ _ _ _ _ us hl => match us, hl with | [_], _ => rfl)⟩, He.cls_ok (c.fact 74 (f := .cls "Layout") rfl), He.meth_ok (c.fact 87 (f := .meth "Layout" "pinned_ranges") rfl)⟩
  have M_regions_in : Mf P w K mg base _ "Layout" "regions_in" ["self", "gaps", "level"] _ := ⟨⟨fd25, ok_regin T M_check_level D_count_regions F25, F25.bindsN (fun _ _ _ _ _ _ us hl => match us, hl with | [_, _, _], _ => rfl)⟩, He.cls_ok (c.fact 74 (f := .cls "Layout") rfl), He.meth_ok (c.fact 89 (f := .meth "Layout" "regions_in") rfl)⟩
  have M_free_gaps : Mf P w K mg base _ "Layout" "free_gaps" ["self"] _ := ⟨⟨fd26, ok_fg T M_ranges_of D_gaps_between F26, F26.bindsN (fun _ _ _ _ _ _ us hl => match us, hl with | [_], _ => rfl)⟩, He.cls_ok (c.fact 74 (f := .cls "Layout") rfl), He.meth_ok (c.fact 90 (f := .meth "Layout" "free_gaps") rfl)⟩
  have M_free_runs : Mf P w K mg base _ "Layout" "free_runs" ["self"] _ := ⟨⟨fd27, ok_runs T M_free_gaps D_maximal_runs F27, F27.bindsN (fun _ _ _ _ _ _ us hl => match us, hl with | [_], _ => rfl)⟩, He.cls_ok (c.fact 74 (f := .cls "Layout") rfl), He.meth_ok (c.fact 91 (f := .meth "Layout" "free_runs") rfl)⟩
  have M_clear_cells : Mf P w K mg base _ "Layout" "clear_cells" ["self", "level"] _ := ⟨⟨fd28, ok_clear T M_pinned_ranges D_gaps_between M_regions_in M_size F28, F28.bindsN (fun _ _ _ _ _ _ us hl => match us, hl with | [_, _], _ => rfl)⟩, He.cls_ok (c.fact 74 (f := .cls "Layout") rfl), He.meth_ok (c.fact 92 (f := .meth "Layout" "clear_cells") rfl)⟩
  have M_unpinned_levels : Mf P w K mg base _ "Layout" "unpinned_levels" ["self"] _ := ⟨⟨fd24, ok_levels T F24, F24.bindsN (fun _ _ _ _ _ _ us hl => match us, hl with | [_], _ => rfl)⟩, He.cls_ok (c.fact 74 (f := .cls "Layout") rfl), He.meth_ok (c.fact 88 (f := .meth "Layout" "unpinned_levels") rfl)⟩
  have M_unpinned_cells : Mf P w K mg base _ "Layout" "unpinned_cells" ["self", "level"] _ := ⟨⟨fd29, ok_loose T M_check_level M_unpinned_levels M_size F29, F29.bindsN (fun _ _ _ _ _ _ us hl => match us, hl with | [_, _], _ => rfl)⟩, He.cls_ok (c.fact 74 (f := .cls "Layout") rfl), He.meth_ok (c.fact 93 (f := .meth "Layout" "unpinned_cells") rfl)⟩
  obtain ⟨z0, oz, nz, FS, hz1, hz2, hz3⟩ := kwB_ok F30 x_kw
  have M_slack_kw : MfK P w K mg base 10 "Layout" "slack" ["self", "level", "kept"] 2 ["kept"] (spSlack K) := ⟨⟨fd30, ok_slack T M_clear_cells M_unpinned_cells D_check_numbers M_whole FS, bindsK FS (fun _ _ _ _ _ _ us ws hu hw => match us, ws, hu, hw with | [_, _], [_], _, _ => rfl)⟩, He.cls_ok (c.fact 74 (f := .cls "Layout") rfl), He.meth_ok (c.fact 94 (f := .meth "Layout" "slack") rfl)⟩
  have M_short_level : Mf P w K mg base _ "Layout" "short_level" ["self", "numbers"] _ := ⟨⟨fd31, ok_short T M_len M_slack_kw F31, F31.bindsN (fun _ _ _ _ _ _ us hl => match us, hl with | [_, _], _ => rfl)⟩, He.cls_ok (c.fact 74 (f := .cls "Layout") rfl), He.meth_ok (c.fact 95 (f := .meth "Layout" "short_level") rfl)⟩
  have D_check_fits := df (P := P) (w := w) (base := base) X G (c.fact 17 (f := .glo "check_fits") rfl) F45 (ps := ["layout", "numbers"]) (fun _ _ _ _ _ _ us hl => match us, hl with | [_, _], _ => rfl) (ok_fits T M_short_level F45)
  have M_blocks : Mf P w K mg base _ "Layout" "blocks" ["self"] _ := ⟨⟨fd32, ok_blk T F32, F32.bindsN (fun _ _ _ _ _ _ us hl => match us, hl with | [_], _ => rfl)⟩, He.cls_ok (c.fact 74 (f := .cls "Layout") rfl), He.meth_ok (c.fact 96 (f := .meth "Layout" "blocks") rfl)⟩
  have D_runs_by_level := df (P := P) (w := w) (base := base) X G (c.fact 18 (f := .glo "runs_by_level") rfl) F46 (ps := ["layout"]) (fun _ _ _ _ _ _ us hl => match us, hl with | [_], _ => rfl) (ok_rbl T P_sizes M_all_sizes M_free_runs F46)
  have D_take_region := df (P := P) (w := w) (base := base) X G (c.fact 19 (f := .glo "take_region") rfl) F47 (ps := ["sizes", "runs", "level"]) (fun _ _ _ _ _ _ us hl => match us, hl with | [_, _, _], _ => rfl) (ok_tkr T P_top M_size D_maximal_runs F47)
  have D_chosen_addresses := df (P := P) (w := w) (base := base) X G (c.fact 20 (f := .glo "chosen_addresses") rfl) F48 (ps := ["layout", "cells"]) (fun _ _ _ _ _ _ us hl => match us, hl with | [_, _], _ => rfl) (ok_cho T P_sizes M_pieces D_runs_by_level D_take_region F48)
  have D_room_by_moves : Df P w K mg base 1 "room_by_moves" ["layout", "levels"] spNo := df (P := P) (w := w) (base := base) X G (c.fact 21 (f := .glo "room_by_moves") rfl) F49 (ps := ["layout", "levels"]) (fun _ _ _ _ _ _ us hl => match us, hl with | [_, _], _ => rfl) fn_no
  have D_room := df (P := P) (w := w) (base := base) X G (c.fact 22 (f := .glo "room") rfl) F50 (ps := ["layout", "cells"]) (fun _ _ _ _ _ _ us hl => match us, hl with | [_, _], _ => rfl) (ok_room T P_sizes M_pieces D_check_fits D_chosen_addresses D_room_by_moves F50)
  have D__law_rng := df (P := P) (w := w) (base := base) X G (c.fact 23 (f := .glo "_law_rng") rfl) F51 (ps := ["_law_script", "_law_k"]) (fun _ _ _ _ _ _ us hl => match us, hl with | [_, _], _ => rfl) (ok_rng T F51)
  have D__law_draw := df (P := P) (w := w) (base := base) X G (c.fact 24 (f := .glo "_law_draw") rfl) F52 (ps := ["_law_rng_here", "_law_many"]) (fun _ _ _ _ _ _ us hl => match us, hl with | [_, _], _ => rfl) (ok_draw T F52)
  have D__law_choice := df (P := P) (w := w) (base := base) X G (c.fact 25 (f := .glo "_law_choice") rfl) F53 (ps := ["_law_rng_here", "_law_options"]) (fun _ _ _ _ _ _ us hl => match us, hl with | [_, _], _ => rfl) (ok_choice T D__law_draw F53)
  have D__law_sizes := df (P := P) (w := w) (base := base) X G (c.fact 26 (f := .glo "_law_sizes") rfl) F54 (ps := ["_law_rng_here", "_law_levels", "_law_greatest"]) (fun _ _ _ _ _ _ us hl => match us, hl with | [_, _, _], _ => rfl) (ok_sizes T D__law_draw F54)
  have D__law_whole := df (P := P) (w := w) (base := base) X G (c.fact 27 (f := .glo "_law_whole") rfl) F55 (ps := ["_law_cells", "_law_size"]) (fun _ _ _ _ _ _ us hl => match us, hl with | [_, _], _ => rfl) (ok_lwhole T F55)
  have D__law_pieces := df (P := P) (w := w) (base := base) X G (c.fact 28 (f := .glo "_law_pieces") rfl) F56 (ps := ["_law_sizes_here", "_law_cells"]) (fun _ _ _ _ _ _ us hl => match us, hl with | [_, _], _ => rfl) (ok_lpc T F56)
  have D__law_has_space := df (P := P) (w := w) (base := base) X G (c.fact 29 (f := .glo "_law_has_space") rfl) F57 (ps := ["_law_sizes_here", "_law_length", "_law_blocks_here", "_law_level", "_law_address"]) (fun _ _ _ _ _ _ us hl => match us, hl with | [_, _, _, _, _], _ => rfl) (ok_space T F57)
  have D__law_blocks := df (P := P) (w := w) (base := base) X G (c.fact 30 (f := .glo "_law_blocks") rfl) F58 (ps := ["_law_rng_here", "_law_sizes_here", "_law_length", "_law_many", "_law_one_in"]) (fun _ _ _ _ _ _ us hl => match us, hl with | [_, _, _, _, _], _ => rfl) (ok_blocks T D__law_draw D__law_has_space F58)
  have D__law_untouched := df (P := P) (w := w) (base := base) X G (c.fact 31 (f := .glo "_law_untouched") rfl) F59 (ps := ["_law_sizes_here", "_law_length", "_law_blocks_here", "_law_level"]) (fun _ _ _ _ _ _ us hl => match us, hl with | [_, _, _, _], _ => rfl) (ok_unt T F59)
  have D__law_runs := df (P := P) (w := w) (base := base) X G (c.fact 32 (f := .glo "_law_runs") rfl) F60 (ps := ["_law_sizes_here", "_law_low", "_law_high"]) (fun _ _ _ _ _ _ us hl => match us, hl with | [_, _, _], _ => rfl) (ok_lruns T F60)
  have D__law_free_runs := df (P := P) (w := w) (base := base) X G (c.fact 33 (f := .glo "_law_free_runs") rfl) F61 (ps := ["_law_sizes_here", "_law_length", "_law_blocks_here"]) (fun _ _ _ _ _ _ us hl => match us, hl with | [_, _, _], _ => rfl) (ok_frl T D__law_runs F61)
  have D__law_chosen := df (P := P) (w := w) (base := base) X G (c.fact 34 (f := .glo "_law_chosen") rfl) F62 (ps := ["_law_sizes_here", "_law_length", "_law_blocks_here", "_law_cells"]) (fun _ _ _ _ _ _ us hl => match us, hl with | [_, _, _, _], _ => rfl) (ok_lcho T D__law_pieces D__law_free_runs F62)
  have D__law_layout := df (P := P) (w := w) (base := base) X G (c.fact 35 (f := .glo "_law_layout") rfl) F63 (ps := ["_law_sizes_here", "_law_length", "_law_blocks_here"]) (fun _ _ _ _ _ _ us hl => match us, hl with | [_, _, _], _ => rfl) (ok_layout T D_Sizes D_Layout M_put_kw F63)
  have D__law_far_sizes := df (P := P) (w := w) (base := base) X G (c.fact 36 (f := .glo "_law_far_sizes") rfl) F64 (ps := ["_law_rng_here"]) (fun _ _ _ _ _ _ us hl => match us, hl with | [_], _ => rfl) (ok_far T D__law_draw F64)
  have D__law_few := df (P := P) (w := w) (base := base) X G (c.fact 37 (f := .glo "_law_few") rfl) F65 (ps := ["_law_sizes_here", "_law_cells"]) (fun _ _ _ _ _ _ us hl => match us, hl with | [_, _], _ => rfl) (ok_few T F65)
  have D__law_are_enough := df (P := P) (w := w) (base := base) X G (c.fact 38 (f := .glo "_law_are_enough") rfl) F66 (ps := ["_law_sizes_here", "_law_length", "_law_blocks_here", "_law_cells"]) (fun _ _ _ _ _ _ us hl => match us, hl with | [_, _, _, _], _ => rfl) (ok_enough T D__law_untouched D__law_whole F66)
  have D__law_asked := dfG (P := P) (w := w) (base := base) X G (c.fact 39 (f := .glo "_law_asked") rfl) F67 (ps := ["_law_rng_here", "_law_layout_here", "_law_sizes_here", "_law_length", "_law_blocks_here"]) (fun _ _ _ _ _ _ us hl => match us, hl with | [_, _, _, _, _], _ => rfl) (ok_asked T D__law_draw D__law_choice D__law_free_runs D__law_few D__law_chosen M_lrepr D_chosen_addresses D_room D__law_are_enough D__law_pieces M_put_d F67)
  have D__law_right := dfG (P := P) (w := w) (base := base) X G (c.fact 40 (f := .glo "_law_right") rfl) F68 (ps := ["_law_rng_here"]) (fun _ _ _ _ _ _ us hl => match us, hl with | [_], _ => rfl) (ok_right T D__law_draw D__law_sizes D__law_far_sizes D__law_blocks D__law_layout M_take_out M_blocks D__law_asked F68)
  exact ok_law T D__law_rng D__law_right F69
end
end K44
open PySem PySem.W PySem.Calls PyProof.Rows
theorem PySem.Challenge.cw_exactroom_k44_chosen_addresses_holds : PySem.Challenge.rw_exactroom_k44_chosen_addresses.Holds := by
  w_on; o_law
  refine HandSHeadRun.head_any (r := OpenLaw.row PySem.Challenge.rw_exactroom_k44_chosen_addresses) (q := view (OpenLaw.row PySem.Challenge.rw_exactroom_k44_chosen_addresses).prog [62]) (H := K44.hk) (ob := K44.ob) (M := 16000)
    (loose := K44.loose) (d := HandSHeadRun.topDef (OpenLaw.row PySem.Challenge.rw_exactroom_k44_chosen_addresses).prog 62) (kwd := []) K44.ob_eq
    (by kernel_rfl) (fun s => by kernel_rfl) K44.run (by kernel_rfl) (by kernel_rfl) (by kernel_rfl) (by rfl) (by first | assumption | decide +kernel) (by decide +kernel) ⟨rfl, rfl, rfl, rfl, rfl, by decide +kernel⟩ ?hw ?hc
  case hw => w_witness2
  case hc =>
    refine Gu.walkG (l := PySem.Challenge.rw_exactroom_k44_chosen_addresses) (n := 63) (k := 16) (x := "_law_script") (CX := L2.CX0) rfl (by decide) (by kernel_rfl) ⟨⟨rfl, by decide, by decide⟩, rfl⟩ ?F (fun _ _ _ _ z => z)
    intro w mg fa h Y G hmg0
    obtain ⟨K, KX, c⟩ := Y
    have hmg : mg ("law" : PySem.Str) = some (.ref fa) := by
      have e : (HandSHeadRun.topDef (OpenLaw.row PySem.Challenge.rw_exactroom_k44_chosen_addresses).prog 62).name = ("law" : PySem.Str) := by kernel_rfl
      rw [← e]
      exact hmg0
    obtain ⟨fd, hb, hF⟩ := K44.facts (P := (PySem.Challenge.rw_exactroom_k44_chosen_addresses).prog) (w := w) KX G hmg c
    exact ⟨K, fd, K44.spLaw K, KX, hb, fun H a ns hl _ hS => ⟨a, ns, rfl, hS, hl, fun _ => rfl⟩, hF⟩

